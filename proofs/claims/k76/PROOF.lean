import PyProof.Rows.All
import Wide.All
import OpenK.AllK
import PySem.Challenge.RW_whyrows_k76_ledger_of_lists
set_option Elab.async false
set_option linter.all false
set_option maxRecDepth 100000
set_option maxHeartbeats 4000000
set_option genSizeOf false
open PySem.F renaming slot_dict_keyiterator_next->nF,slot_list_extend->qO,type_list_extend->oz,slot_list_append->iq,type_list_append->il,plain_list_iadd->oG,plainAttrs_list->eX,slot_tuple_hash->GB,slot_int_rmul->Hb,plain_set_new->Hg
open PySem renaming wpAny_typeNameOfWhole_keyiter->pb,mem_of_lookup->iR,wpAny_setEntries_of->om,wpAny_Call_Name_kw->jM,wpAny_truthy_bool->gj,wpAny_pyIter_list->gK,wpAny_newObj_type->g_,wpAny_dictEntries->mf,wpAny_setState_of->lP,wpAny_call_entry->gg,wpAny_askSetting->nV,wpAny_passesOwn->jr,wpAny_dictEpoch->vI,codeAny_builtin->ek,wpAny_setField->iM,wpAny_attempt->jT,wpAny_holding->dG,codeAny_mono->eZ,wpAny_rule->eS,wpAny_pure->ah,wpAny_bind->ac,wpAny_mono->bK,Addr->Ac,Value->Ad,Shared->Af,Program->Ai,wpAny->Ak,World->Al,model->Ao,mainGlobals->Ar,Around->As,starEach->AA,Heap->AH,Expr->AK,PyData->AQ,bootBuiltins->AU,Stmt->AV,wpAny_loadPart'->AY,compareOp->Bg,Builtin->Bl,sysModules->Bm,eval->Bp,backTo->Bs,plainId_quiet->BC,FuncData->BD,keywordEach->BE,DictEntry->BI,wpAny_callSpecial?_slot->BJ,rawInt->BK,codeAny->BQ,pickOrder->BS,binaryOp->eA,codeAny_call_builtin->BX,isSubtype_type->B3,assignEach->B8,tupleKind_room_in1->Ca,letOwnedTupleGo->Cb,wpAny_specialOf->Cc,Scope->Ck,pyNext->Cm,backToKw->Cn,SetTable->Cp,Model->Cv,wpAny_newList->Cz,behindInMarks->CA,attributeBase->CB,wpAny_execs_nil->CG,Result->CJ,getMethod->CO,sliceBounds->CP,atKey->CQ,wpAny_Call_method->CY,wpAny_fieldsOf->CZ,wpAny_runValue->C0,fits_of_scanBound->C1,wpAny_notOrdered_dict->C6,builtinLookup_eq_fast->C7,noFill_tuple_add->Df,call_meets->Dg,wpAny_isInstance->Dj,isInstance->Dl,holding->Dp,BindsTo->Dq,NameKind->Dv,wpAny_pyIter_keyiter->Dx,standAt->DL,call_meetsIn->DO,wpAny_typeOf->DQ,tupleKind->DT,wpAny_load->DY,wpAny_call->DZ,firstArgMember->D3,wpAny_seqItems->D5,unsupported->Eb,foldedSetIterable->Eg,sizeLine_eq->Eh,Keyword->Ei,slicePicked->Ej,wpAny_pyIter_slot->Ek,wpAny_loadPart_at->Em,wpAny_standAt->Er,seq_tuple_add->Es,wpAny_comprehension_free->Et,GenState->EA,swapsWith->EB,bindArgs->EC,callWith->ED,wpAny_Dict_empty->EF,meetsH_dict_get_default->EG,wpAny_forIn_list->EH,relayAll->EK,checkBuiltinCall->EM,pyIter->ET,wpAny_pyNext_list_item->EU,concat_meets->EV,storedH->EY,wpAny_Assign_Subscript->EZ,callerA->E1,richCompare_meets_room->E3,collect->E4,typeLookup_type->Fe,codeAny_of_tree->Ff,wpAny_ite_split->Fg,wpAny_isTrue_Compare1->Fj,wpAny_pyNext_list_end->Fk,wpAny_isOneOf_keyiter->Fm,weight_type_call_type->Fo,subscripted->Fs,typeOf->Ft,ReadsAll->Fu,getItem->FK,valueAt->FM,isSubtype->FN,entryOfKey->FX,assign->FY,wpAny_pyIter_tuple->FZ,typeLookup->F0,wpAny_getItem_heap->F3,wpAny_setItem_heap->F6,getattributeRaised->F9,wpAny_assign_Name->Gg,setField->Gn,wpAny_storeSet_of->Gw,wpAny_pyIter_enum->Gz,wpAny_eqBool_str->GF,wpAny_execs_cons->GG,entryFor_of_tree->GL,check_set_init_1->KU,Drawn->GS,Walks->GU,wpAny_of_eq->GW,wpAny_updateSeq->Hh,size_of_entries->Hi,newList->Hl,ElemsOf->Hm,wpAny_newTuple->Hq,builtinsNs->Ht,wpAny_Name->Hu,wpAny_Compare1->Hv,wpAny_loadPart->Hw,bindL->Hx,bindC->Hy,typeIs_str->HA,typeIs_int->HB,stored->HC,cellOf->HD,compEnvC->HE,newFunctionEnv->HG,Reads->HI,raiseNew->HJ,isSubtype_stop->HK,checkCount->HM,entryFor->HR,getAttr?->HS,setsByText->HV,entryFor_alias->HW,HeapKind->Ia,carriedByValue->Ic,assignInOrder->Ig,intBits_le_64->Ih,evalPart_none->Ii,call_list_seq->Ik,wpAny_in_heap->Il,wpAny_handled->Ip,signature?_of->Iu,CmpOp->IA,cellsFrom->IB,Arguments->IC,noteFrame->IE,seqIndex_neg->IM,newExc->IR,setAddHashed->IW,setNextDrawn->IX,Setting->IY,interactive->Je,IsRangeIter->Jf,seqIndex_of->Ji,newTuple->Jk,wpAny_throw->Jl,wpAny_letGo->Jq,Params->Jv,argsOk->Jw,getAttr->Jz,operate->JA,ItemsOf->JC,putAt->JJ,Meets->JK,table->JL
open PyProof.Rows renaming callWith_type1->tH,wpS_bind->Ap,arrOf->Aq,Keyed->At,wpS_pure->Av,SortSt->AD,seqObj->AG,pendingOf->AM,wpS_forRange->Be,SortKind->Bu,get?_update_seq->By,wpS_mono->BA,failedOf->BM,elem'->BN,listUpdate_at->BY,wpS_modify->B7,listItems_at->Cq,setPending->CI,envOfC->CK,joinParts_cons->C2,reverseSlice'->Dm,entry_proto_collect'->Dy,mirror->DB,wpS_get->DJ,AllBare->DK,seqEpoch_at->Ed,setArr->Eo,wpS_lift->Ew,entry_list_iadd'->EI,subscriptTail_builtinR->EW,entry_list_sort->Fc,oneTypeOnly'_eq->Fd,pairsOf_toList->tm,slot_list_sort->Fw,keyLt'_oneType->Fx,kat_kind_eq->FC,getElem?_mirror_all->FO,subscriptTail->FQ,IntsAre->Gk,plain_sorted->Gp,entry_sorted->Gq,oneType'->Gr,tuples'->Gs,kind_sorted->GX,getElem?_bubble->GY,keyKind'->Ho,IsTup->Hs,Subscript_->Hz,args_list_sort->HN,general'->HQ,JoinedStr_many->Ib,firstOfTuple'->Iq,joinParts_nil->Iw,minRun'->IG,pairsOf->IH,pairsOf_size->II,mem_zip_self->IJ,isTrue_plain->IK,args_sorted1->IS,StrsAre->IT,elem'_eq->I9,mergeAt'->Ja,tuple_addW0->Jp,bubble->Ju,ltAt'->Jy,ksk_zip->JG
open Array renaming perm_iff_toList_perm->l_,getElem?_eq_getElem->kZ,getElem?_eq_none->ka,getElem?_toList->bG,toList_extract->jV,length_toList->aI,toList_append->gF,size_extract->i_,toList_push->mP,toList_map->B1,forIn_toList->CM,getElem?_extract->CV,toList_reverse->Ds,size_append->El,size_setIfInBounds->Ep,toArray_toList->Fy,size_zip->HZ,toList->IL
open List renaming getElem?_append_right->jg,getD_eq_getElem?_getD->lJ,getElem?_eq_some_iff->bR,pairwise_iff_getElem->gA,drop_eq_getElem_cons->jh,extract_eq_take_drop->jk,getElem?_eq_getElem->aH,pairwise_singleton->iL,length_eq_zero_iff->mL,take_of_length_le->jm,find?_cons_of_pos->Ng,find?_cons_of_neg->vY,perm_append_comm->nG,take_append_drop->nT,mem_append_right->b_,length_singleton->lh,length_filter_le->kQ,pairwise_append->pV,mem_iff_getElem->iy,mem_of_mem_drop->jp,mem_of_mem_take->kW,mem_cons_of_mem->bb,mem_append_left->vw,mem_of_getElem?->bJ,replicate_succ->kH,map_congr_left->fT,toList_toArray->ey,getElem_of_mem->pG,flatMap_append->vz,mem_singleton->aM,length_append->aX,mem_cons_self->be,pairwise_cons->eC,zip_cons_cons->iX,filter_append->kj,append_assoc->dk,getElem_take->k_,ext_getElem?->nO,getElem?_map->bF,size_toArray->aP,flatten_cons->pE,length_range->jW,mapM_toArray->je,nodup_append->me,foldl_append->zO,length_take->bt,length_drop->fB,length_cons->bz,filter_cons->jo,getElem_mem->iK,all_eq_true->eh,any_eq_true->fN,not_mem_nil->cc,take_length->bA,mem_append->aF,mem_filter->cV,length_map->ai,append_nil->dy,nodup_cons->dL,find?_cons->iU,length_nil->ku,map_append->a_,mem_range->kP,nodup_nil->dH,take_succ->bx,map_cons->au,mem_cons->aA,any_cons->nJ,sum_cons->eO,map_nil->bP,mem_map->aE,all_map->gQ,map_map->cr,map_id->kh,replicate->AI,getElem?_append_left->Bo,perm_ext_iff_of_nodup->BP,zip_nil_left->BV,drop_zero->B0,filter_cons_of_pos->B5,lookup->B6,take_sublist->Cf,range->Cj,getElem?_take_of_lt->Cy,map_take->CF,of_mem_zip->CH,filter_cons_of_neg->CT,append_cancel_left->CU,getElem?_set_self->CW,flatMap_cons->C3,length_replicate->C5,getElem?_eq_none->C8,map_snd_zip->Dc,getElem_map->Dd,lookup_cons->Dh,all_toArray->Dk,all_cons->Dr,getElem?_set_ne->Dt,length->Dw,filterMap_cons->DH,filter_sublist->DI,getElem?_drop->DW,foldl->D0,zip_nil_right->D1,map->D4,prefix_append->D8,getElem_drop->Ea,reverse_perm->Ec,length_erase_of_mem->Ev,getElem?_cons_succ->Ey,eraseIdx_cons_succ->EE,prefix_concat_iff->E9,length_pos_of_mem->Fa,filter_nil->Fh,pairwise_reverse->Fi,getElem?_toArray->Fp,take_eq_take_min->Fq,mapM_cons->Fz,length_eraseIdx->FD,mem_erase_of_ne->FG,map_drop->FS,mem_eraseDups->Gb,map_replicate->Gc,drop_sublist->Gf,any_eq_false->Gh,cons_append->GI,mem_flatMap->GR,foldl_cons->G9,nil_append->Ha,forIn_cons->Hd,nil_prefix->Hj,sum_append->Hk,take_zero->Hn,mapM_nil->Ir,take->IF,any_map->IZ
open Int renaming eq_ofNat_of_zero_le->jB,emod_lt_of_pos->cS,toNat_natCast->ip,emod_nonneg->cG,le_of_lt->hK,le_trans->lr,le_refl->ik,toNat->DV,zero_add->I8,mul_one->Jg
open PySem.Heap renaming get?_push_of_some->aw,get?_update_other->lF,get?_update_self->hH,get?_push_size->bc,size_push->fi,lt_size->aC,SameBut->Bn,FlyingW->Cu,size_update->GJ,ExtBut->GV
open Option renaming map_eq_some_iff->dq,some->Aa,isSome_map->BU,map_some->DC,getD_none->GH,isSome->Iy,none->Jj
open PySem.Heap.SameBut renaming update->cT,refl->Gu
open Bool renaming false_eq_true->bL,false_ne_true->aY,and_eq_true->ir,eq_iff_iff->hN,false_and->hV,true_and->kC,and_false->Co,not_true->Do,not_eq_true'->Gm,or_false->Ij,and_true->Ix
open Nat renaming lt_of_lt_of_le->cp,lt_succ_of_lt->iN,lt_succ_self->iw,succ_le_succ->fP,mul_le_mul->lS,lt_irrefl->ii,zero_add->dF,le_of_lt->c_,ne_of_lt->aJ,le_trans->az,ne_of_gt->ge,le_refl->aj,zero_le->ba,lt_of_le_of_lt->BO,add_le_add->B4,le_of_eq->B9,add_assoc->Cd,le_succ_of_le->Ci,le_succ->Du,not_lt_zero->DF,succ_mul->DM,lt_or_ge->EO,sub_zero->EQ,sub_self->ER,lt_of_succ_lt_succ->E5,pow_le_pow_right->FH,min_eq_left->G0,add_comm->IN,mul_comm->IP,lt_trans->IQ
open PySem.W renaming mg_none_of->ef,kia_one->ki,binds_K->tN,mg_of->fu,nsIn->Dz,mroIn->EN,looks_findIn->GA,findIn->GO,KatLex->HP,kat_nil->IU,kas_first_eq->IV,kat_cons->Jm,clsIn->Jr,kitOne->Jx,OpenLaw->JB,kat_one->JD,kat_yes->JE,Looks->JF,mg_of->JI,subIn->JM
open List.cons renaming injEq->oy,inj->CD
open _root_ renaming decide_eq_false->aN,decide_eq_true->aS,decide_false->jG,decide_true->jf,List->Ab,if_neg->Ae,Option->Ag,if_pos->Ah,Array->Am,absurd->Au,Bool->AJ,of_decide_eq_true->AT,if_false->AZ,congrArg->Ba,or_false->Bf,DecidableEq->Bh,False->Bj,if_true->Bz,String->BL,map_eq_pure_bind->Cs,StateT->Cw,ForInStep->Db,decide_eq_true_iff->D7,bne_self_eq_false->Ee,True->Ez,not_or->E7,modify->FU,getElem?_pos->Gd,Unit->Ge,beq_iff_eq->HF,or_assoc->Js
open Sum renaming inr->Aj,inl->Bv
open PySem.Value renaming ref->Aw,type->AN,none->Bw,builtin->Ce,str->De,bool->ES,notImplemented->Fv,isStrOf_shape->FP,int->GD,isStrOf->Ie,isInt->Jb,bytes->Jc,float->Jd
open Or renaming inl->Ax,inr->E2
open True renaming intro->Ay
open PySem.PyData renaming depthAll->Az,canLayAll0->AB,eqv->AC,eqvAll->AE,strOk->AW,int->CN,depth->DS,str->D6,tuple->E8,canLay0->FI,list->Jt
open PySem.Obj renaming mapSeq->AF,mapFields->CC,putSet->E6,data_mapDictKeys->FF,data_mapFields->F8
open PySem.PassesOwn renaming never->AL,leaving->En
open Option.some renaming inj->AO
open ForInStep renaming done->AR,yield->AS
open Pure renaming pure->AX
open PySem.Around renaming under_plainId->Bb,under_plain->Ga,under->Gi,in1_units->GP
open False renaming elim->Bc
open Ne renaming symm->Bi
open PySem.Builtin.List renaming listExtendWith->Bk,listTooLong->BZ,listLengthHint->DR,listSameRef->Eu
open PySem.Builtin.Tuple renaming tupleHashOf->Bq
open PySem.Str renaming length_append->Br,ofString->Cr,empty->DU,length->F1,empty_append->GN
open PySem.Calls renaming spliced_cons->Bt,callWith_builtin->Bx,evalArgs_plain->BF,spliced_nil->Cg,Name_function_global->DX,call_function_entry->D9
open PySem.NameKind renaming free->BB,cell->FR
open PySem.SetTable renaming below->BG,grown->B2,fits->Iv
open List.Pairwise renaming nil->BH,imp->D'
open Classical renaming byContradiction->BR,choose_spec->C9,choose->GQ
open PySem.Builtin.Str renaming strSliceIndices->s_
open Nat.succ renaming inj->Ct
open PySem.Code renaming quiet_builtin->CL,isFrame->Gj,frames->Jh
open PyProof.Rows.F renaming plain_set_update_loop->CS,entry_set_update_loop->EL
open List.Perm renaming append_left->C4,of_eq->Fb,trans->GZ,refl->Hr,cons->HU
open PySem.SeqAt renaming eqAt_reads->Di,room_head->DD,EqAt->EX,eqv_refl->FJ,room_here->He,room_tail->Hf,room_in->Io
open Array.Perm renaming refl->DA
open PySem.Builtin.Dict_items renaming ownsTuple->DE
open PySem.Builtin.Frozenset renaming updateFrom->DG
open Sum.inr renaming inj->Ef
open PySem.Builtin.Dict renaming updateFrom->EJ,showsAll->Fl,takeOut->FE
open PyProof.Rows.SortSt renaming mk'->FT
open PySem.SeqAt.EqAt renaming int_str->FV,str_int->FW
open PySem.Walks renaming list->F7,strAscii->HH,strWide->Im
open PySem.pickOrder renaming go->Gx
open PySem.SetTable.below renaming go->Gy
open PySem.StrLaws renaming found_one->GC
open LawfulMonad renaming pure_bind->GK
open StateT renaming run_pure->G8
open PySem.Heap.DictOf renaming new->Hc
open PySem.Fin renaming done->HX
open PySem.Flow renaming ret->HY
open PySem.Shared renaming TypeIs->Is
open ForIn renaming forIn->Iz
open LawfulBEq renaming eq_of_beq->ID
open Iff renaming rfl->I0
open PySem.W.Looks renaming ld->Jo
abbrev xD:=Ab PySem.Str
abbrev xE:=PySem.Str->Ag PySem.Value
abbrev xF:=Ab<|Ab PySem.Str
abbrev xG:=Ab<|PySem.Addr×PySem.Obj
abbrev xH:=Ab PySem.Value
abbrev xA:=PySem.W.Frag
abbrev xB:=PySem.Value->PySem.Shared->Prop
def zr{b:Sort u}{a:b}:a=a:=rfl
namespace Tim
open PySem PyProof.Rows
def kx(a:At->Int)(b:Am At)(i:Nat):Int:=match b[i]? with
 | some p=>a p
 | none=>0
def Up(a:At->Int)(b:Am At)(lo c:Nat):Prop:=∀i j,lo<=i->i<=j->j < c->kx a b i<=kx a b j
def Dn(a:At->Int)(b:Am At)(lo c:Nat):Prop:=∀i j,lo<=i->i<=j->j < c->kx a b j<=kx a b i
variable{rk:At->Int}{xs:Am At}{i:Nat}{p:At}
def ez(h:xs[i]? =Aa p):kx rk xs i=rk p:=by unfold kx;rw[h]
variable{ys:Am At}{j:Nat}
def iD(h:xs[i]? =ys[j]?):kx rk xs i=kx rk ys j:=by unfold kx;rw[h]
def dB(M:Cv)(A:As)(E:xB)(s:Af)(b:Bu)(S:At->Prop)(a:At->Int):Prop:=
 ∀(x y:At) (st:AD) (Q:Ag AJ->AD->Prop),S x->S y->kindOf st=b->Q (Aa (decide (a x < a y))) st->wpS M A E s (lt' x y) Q st
structure Mv (lo hi:Nat) (st st':AD):Prop where
 perm:(Aq st').Perm (Aq st)
 out:∀k,k < lo\/ hi<=k->(Aq st')[k]? =(Aq st)[k]?
 kind:kindOf st'=kindOf st
 pend:AM st'=AM st
 failed:BM st'=BM st
theorem Mv.refl(lo a:Nat)(st:AD):Mv lo a st st:=⟨DA _,λ_ _=>rfl,rfl,rfl,rfl⟩
theorem Mv.trans{lo d:Nat}{a b c:AD}(h:Mv lo d a b)(k:Mv lo d b c):Mv lo d a c:=
 ⟨k.perm.trans h.perm,λi d=>(k.out i d).trans<|h.out i d,k.kind.trans h.kind,k.pend.trans h.pend,k.failed.trans h.failed⟩
theorem Mv.size{lo c:Nat}{a b:AD}(h:Mv lo c a b):(Aq b).size=(Aq a).size:=h.perm.size_eq
structure eU (kd:Bu) (S:At->Prop) (n:Nat) (st:AD):Prop where
 size:(Aq st).size=n
 all:∀p∈(Aq st).toList,S p
 kind:kindOf st=kd
 failed:BM st=none
variable{lo hi n:Nat}{kd:Bu}{S:At->Prop}
def Mv.sane{a b:AD}(h:Mv lo hi a b)(k:eU kd S n a):eU kd S n b:=
 ⟨h.size.trans k.size,λp c=>k.all p<|(l_.mp h.perm).mem_iff.mp c,h.kind.trans k.kind,h.failed.trans k.failed⟩
variable{st:AD}
def eU.at(a:At->Int)(k:eU kd S n st)(b:i < n):∃p,(Aq st)[i]? =Aa p/\S p/\kx a (Aq st) i=a p:=by
 have J:i < (Aq st).size:=by rw[k.size];exact b
 have e:(Aq st)[i]? =Aa (Aq st)[i]:=Gd _ i J;exact⟨_,e,k.all _ (by simp),ez e⟩
theorem Mv.mirrored(b:lo<=i)(c:j<=hi)(a:j<=(Aq st).size):Mv lo hi st (Eo st<|DB (Aq st) i j<|(j - i) / 2):=
 ⟨mirror_perm _ _ _ _,λk d=>(FO (i:=i) a k).trans (Ae<|by lia),rfl,rfl,rfl⟩
variable{J:Nat}
theorem Mv.sunk{d:Nat}(b:lo+d<=J)(c:J < hi)(a:J < (Aq st).size):Mv lo hi st (Eo st<|Ju (Aq st) J d):=
 ⟨bubble_perm _ _ _,λk e=>(GY a d (by lia) k).trans (by rw[Ae (by lia),Ae<|by lia]),rfl,rfl,rfl⟩
def ux(a:At->Int)(b:j<=xs.size)(k:Nat):
  kx a (DB xs i j<|(j - i) / 2) k=if i<=k/\k < j then kx a xs (i+j - 1 - k) else kx a xs k:=by
 have e:=FO (i:=i) b k;by_cases c:i<=k/\k < j
 .rw[Ah c]at e ⊢;exact iD e
 .rw[Ae c]at e ⊢;exact iD e
theorem nI(a:At->Int)(b:j<=xs.size)(J:∀k,i<=k->k < j->kx a xs k=kx a xs (j - 1))(k:Nat):
  kx a (DB xs i j<|(j - i) / 2) k=kx a xs k:=by
 rw[ux a b];by_cases c:i<=k/\k < j
 .rw[Ah c,J _ (by lia) (by lia),J k c.1 c.2]
 .rw[Ae c]
def Mn(a:At->Int){d:Nat}(f:J < xs.size)(g:d<=J)(k:Nat):
  kx a (Ju xs J d) k=if k=J - d then kx a xs J else if J - d < k/\k<=J then kx a xs (k - 1) else kx a xs k:=by
 have e:=GY f d g k;by_cases c:k=J - d
 .rw[Ah c]at e ⊢;exact iD e
 .rw[Ae c]at e ⊢;by_cases b:J - d < k/\k<=J
  .rw[Ah b]at e ⊢;exact iD e
  .rw[Ae b]at e ⊢;exact iD e
variable{M:Cv}{A:As}{E:xB}{s:Af}
def mM(L:dB M A E s kd S rk)(B:eU kd S n st)(a:i < n)(b:j < n){Q:Ag AJ->AD->Prop}
  (h:Q (Aa (decide (kx rk (Aq st) i < kx rk (Aq st) j))) st):wpS M A E s (Jy i j) Q st:=by
 obtain⟨p,c,d,e⟩:=B.at rk a;obtain⟨q,f,g,k⟩:=B.at rk b;rw[e,k]at h;rw[ltAt'_eq];refine Ap<|DJ ?_;show wpS M A E s (BN (Aq st) i >>=λx=>BN (Aq st) j >>=λy=>lt' x y) Q st;rw[I9,I9,c,f];exact Ap<|Av<|Ap<|Av<|L p q st Q d g B.kind h
def on{Q:Ge->AD->Prop}(h:Q () (Eo st<|DB (Aq st) i j<|(j - i) / 2)):wpS M A E s (Dm i j) Q st:=by
 rw[reverseSlice'_eq];exact B7 h
def mJ(lo a d:Nat):Cw AD Sem AscSt:=
 Iz [a:d] ((none,a):AscSt) λ_ c=>do
  let x <- Jy (lo+c.snd) (lo+c.snd - 1)
  match x with
  | some b=>if b=true then AX (AR (none,c.snd)) else AX (AS (none,c.snd+1))
  | _=>AX<|AR (Aa none,c.snd)
def lW(lo m a:Nat):Cw AD Sem (Ag Nat):=do
 Dm lo (lo+m)
 let c <- mJ lo m a
 match c.fst with
 | some r=>AX r
 | none=>AX<|Aa c.snd
def py(lo m a:Nat):Cw AD Sem DescSt:=
 Iz [m:a] ((none,m,0):DescSt) λ_ c=>do
  let x <- Jy (lo+c.snd.fst) (lo+c.snd.fst - 1)
  match x with
  | some b=>
   if b=true then
    if c.snd.snd > 0 then do
     Dm (lo+c.snd.fst - (c.snd.snd+1)) (lo+c.snd.fst)
     AX (AS (none,c.snd.fst+1,0))
    else AX (AS (none,c.snd.fst+1,0))
   else do
    let y <- Jy (lo+c.snd.fst - 1) (lo+c.snd.fst)
    match y with
    | some g=>if g=true then AX (AR (none,c.snd.fst,c.snd.snd)) else AX (AS (none,c.snd.fst+1,c.snd.snd+1))
    | _=>AX<|AR (Aa none,c.snd.fst,c.snd.snd)
  | _=>AX<|AR (Aa none,c.snd.fst,c.snd.snd)
def mD(lo m a:Nat):Cw AD Sem (Ag Nat):=do
 liftM (rule "list.sort.descending-run")
 let c <- py lo (m+1) a
 match c.fst with
 | some r=>AX r
 | none=>
  if c.snd.snd > 0 then do
   Dm (lo+c.snd.fst - (c.snd.snd+1)) (lo+c.snd.fst)
   lW lo c.snd.fst a
  else lW lo c.snd.fst a
def OC(lo J:Nat):countRun' lo J=(do
  let c <- mJ lo 1 J
  match c.fst with
  | some r=>AX r
  | none=>
   if (c.snd==J)=true then AX (Aa c.snd)
   else if c.snd > 1 then do
    let x <- Jy lo (lo+c.snd - 1)
    match x with
    | some O=>if O=true then AX (Aa c.snd) else do
      Dm lo (lo+c.snd)
      mD lo c.snd J
    | _=>AX none
   else mD lo c.snd J):=by
 rw[countRun'_eq]
 dsimp only
 unfold mD lW py mJ
 congr 1
 funext c
 obtain⟨r,m⟩:=c;cases r with
 | some r=>rfl
 | none=>
  dsimp only
  split
  .rfl
  .split
   .congr 1
    funext x
    cases x with
    | none=>rfl
    | some O=>
     dsimp only
     split
     .rfl
     .congr 1
      funext k
      congr 1
      funext g
      congr 1
      congr 1
      funext e
      obtain⟨d,h,i⟩:=e;cases d with
      | some d=>rfl
      | none=>
       dsimp only
       split
       .congr 1
        funext j
        congr 1
        funext f
        congr 1
        funext a
        obtain⟨b,Y⟩:=a;cases b <;> rfl
       .congr 1
        funext f
        congr 1
        funext a
        obtain⟨b,Y⟩:=a;cases b <;> rfl
   .congr 1
    funext g
    congr 1
    congr 1
    funext e
    obtain⟨d,h,i⟩:=e;cases d with
    | some d=>rfl
    | none=>
     dsimp only
     split
     .congr 1
      funext j
      congr 1
      funext f
      congr 1
      funext a
      obtain⟨b,Y⟩:=a;cases b <;> rfl
     .congr 1
      funext f
      congr 1
      funext a
      obtain⟨b,Y⟩:=a;cases b <;> rfl
theorem wI(L:dB M A E s kd S rk){a:Nat}{Q:AscSt->AD->Prop}(B:eU kd S n st)(o:lo+J<=n)(p:1<=a)(d:a<=J)(f:Up rk (Aq st) lo (lo+a))
  (h:∀m,a<=m->m<=J->Up rk (Aq st) lo (lo+m)->(m=J\/ kx rk (Aq st) (lo+m) < kx rk (Aq st) (lo+m - 1))->Q (none,m) st):wpS M A E s (mJ lo a J) Q st:=by
 unfold mJ;refine Be (I:=λx c Z=>Z=st/\c=(none,x)/\Up rk (Aq st) lo (lo+x)) ?turn ?last ⟨zr,zr,f⟩
 case last=>
  rintro c Z ⟨rfl,rfl,Y⟩;have e:max a J=J:=by lia
  rw[e]at Y ⊢;exact h J d (aj _) Y (.inl rfl)
 case turn=>
  rintro x c Z g q ⟨rfl,rfl,Y⟩
  dsimp only
  refine Ap<|mM L B (by lia) (by lia) ?_;by_cases O:kx rk (Aq Z) (lo+x) < kx rk (Aq Z) (lo+x - 1)
  .simp only[O,jf,Bz];exact Av<|h x g (by lia) Y<|.inr O
  .simp only[O,jG,bL,AZ];refine Av ⟨zr,zr,λi j b k r=>?_⟩;by_cases l:j < lo+x
   .exact Y i j b k l
   .have a3:j=lo+x:=by lia
    subst a3;by_cases hi:i=lo+x
    .subst hi
     lia
    .have:=Y i (lo+x - 1) b (by lia) (by lia)
     lia
variable{Q:Ag Nat->AD->Prop}{m:Nat}
theorem xJ(L:dB M A E s kd S rk)(B:eU kd S n st)(e:lo+J<=n)(f:1<=m)(g:m<=J)(l:Dn rk (Aq st) lo (lo+m))
  (h:∀k O,Mv lo (lo+J) st O->1<=k->k<=J->Up rk (Aq O) lo (lo+k)->Q (Aa k) O):wpS M A E s (lW lo m J) Q st:=by
 unfold lW;have d:lo+m<=(Aq st).size:=by rw[B.size];lia
 have v:Mv lo (lo+J) st (Eo st<|DB (Aq st) lo (lo+m)<|(lo+m - lo) / 2):=Mv.mirrored (aj _) (by lia) d;refine Ap (on<|Ap<|wI L (v.sane B) e f g ?_ λk q o p _=>Av<|h k _ v (by lia) o p);intro i j a b c;show kx rk (DB (Aq st) lo (lo+m)<|(lo+m - lo) / 2) i<=kx rk (DB (Aq st) lo (lo+m)<|(lo+m - lo) / 2) j;rw[ux rk d,ux rk d,Ah (by lia),Ah<|by lia];exact l _ _ (by lia) (by lia) (by lia)
theorem QV(L:dB M A E s kd S rk){O:Nat}{Q:DescSt->AD->Prop}(B:eU kd S n st)(D:lo+O<=n)(F:1<=m)(w:m<=O)(y:Dn rk (Aq st) lo (lo+m))
  (h:∀k q J,Mv lo (lo+O) st J->m<=k->k<=O->Dn rk (Aq J) lo (lo+k)->q+1<=k->(∀i,lo+k - (q+1)<=i->i < lo+k->kx rk (Aq J) i=kx rk (Aq J) (lo+k - 1))->Q (none,k,q) J):
  wpS M A E s (py lo m O) Q st:=by
 unfold py;refine Be (I:=λx c J=>∃q,c=(none,x,q)/\Mv lo (lo+O) st J/\Dn rk (Aq J) lo (lo+x)/\q+1<=x/\
  (∀i,lo+x - (q+1)<=i->i < lo+x->kx rk (Aq J) i=kx rk (Aq J) (lo+x - 1))) ?turn ?last ⟨0,rfl,Mv.refl _ _ _,y,by lia,λi a b=>by rw[show i=lo+m - 1 by lia]⟩
 case last=>
  rintro c J ⟨q,rfl,v,Y,f,d⟩;have e:max m O=O:=by lia
  rw[e]at Y f d ⊢;exact h O q J v w (aj _) Y f d
 case turn=>
  rintro x c J z G ⟨q,rfl,v,Y,f,d⟩
  dsimp only
  have g:=v.sane B;have o:lo+x<=(Aq J).size:=by rw[g.size];lia
  refine Ap<|mM L g (by lia) (by lia) ?_;by_cases Z:kx rk (Aq J) (lo+x) < kx rk (Aq J) (lo+x - 1)
  .simp only[Z,jf,Bz];have p:∀xs:Am At,(∀k,kx rk xs k=kx rk (Aq J) k)->Dn rk xs lo (lo+(x+1)):=by
    intro xs r i j a b c;rw[r,r];by_cases l:j < lo+x
    .exact Y i j a b l
    .have a2:j=lo+x:=by lia
     subst a2;by_cases hi:i=lo+x
     .subst hi
      lia
     .have:=Y i (lo+x - 1) a (by lia) (by lia)
      lia
   by_cases t:q > 0
   .rw[Ah t];exact Ap<|on<|Av ⟨0,zr,v.trans<|Mv.mirrored (by lia) (by lia) o,p _<|nI rk o d,by lia,λi a b=>by rw[show i=lo+(x+1) - 1 by lia]⟩
   .rw[Ae t];exact Av ⟨0,zr,v,p _ λ_=>rfl,by lia,λi a b=>by rw[show i=lo+(x+1) - 1 by lia]⟩
  .simp only[Z,jG,bL,AZ];refine Ap<|mM L g (by lia) (by lia) ?_;by_cases u:kx rk (Aq J) (lo+x - 1) < kx rk (Aq J) (lo+x)
   .simp only[u,jf,Bz];exact Av<|h x q J v z (by lia) Y f d
   .simp only[u,jG,bL,AZ];have C:kx rk (Aq J) (lo+x)=kx rk (Aq J) (lo+x - 1):=by lia
    refine Av ⟨q+1,zr,v,λi j a b c=>?_,by lia,λi a b=>?_⟩
    .by_cases l:j < lo+x
     .exact Y i j a b l
     .have a2:j=lo+x:=by lia
      subst a2;by_cases hi:i=lo+x
      .subst hi
       lia
      .have:=Y i (lo+x - 1) a (by lia) (by lia)
       lia
    .rw[show lo+(x+1) - 1=lo+x by lia];by_cases hi:i=lo+x
     .rw[hi]
     .rw[C];exact d i (by lia) (by lia)
theorem Nv(L:dB M A E s kd S rk){O:Nat}(B:eU kd S n st)(d:lo+O<=n)(t:m+1<=O)(u:Dn rk (Aq st) lo (lo+(m+1)))
  (h:∀k J,Mv lo (lo+O) st J->1<=k->k<=O->Up rk (Aq J) lo (lo+k)->Q (Aa k) J):wpS M A E s (mD lo m O) Q st:=by
 unfold mD;refine Ap<|Ew<|eS ⟨zr,?_⟩;refine Ap (QV L B d (by lia) t u λk q J v w l o x p=>?_)
 dsimp only
 have e:=v.sane B;have f:lo+k<=(Aq J).size:=by rw[e.size];lia
 by_cases Z:q > 0
 .rw[Ah Z];have r:Mv lo (lo+O) J (Eo J<|DB (Aq J) (lo+k - (q+1)) (lo+k)<|(lo+k - (lo+k - (q+1))) / 2):=Mv.mirrored (by lia) (by lia) f;refine Ap (on<|xJ L (r.sane e) d (by lia) l ?_ λj Y g=>h j Y<|(v.trans r).trans g);intro i j a b c;show kx rk (DB (Aq J) (lo+k - (q+1)) (lo+k)<|(lo+k - (lo+k - (q+1))) / 2) j<=kx rk (DB (Aq J) (lo+k - (q+1)) (lo+k)<|(lo+k - (lo+k - (q+1))) / 2) i;rw[nI rk f p,nI rk f p];exact o i j a b c
 .rw[Ae Z];exact xJ L e d (by lia) l o λj Y g=>h j Y<|v.trans g
theorem YM(L:dB M A E s kd S rk)(B:eU kd S n st)(e:lo+J<=n)(q:1<=J)
  (h:∀k Z,Mv lo (lo+J) st Z->1<=k->k<=J->Up rk (Aq Z) lo (lo+k)->Q (Aa k) Z):wpS M A E s (countRun' lo J) Q st:=by
 rw[OC];refine Ap (wI L B e (aj 1) q (λi j a b c=>by rw[show i=j by lia];exact ik _) λm l o d r=>?_)
 dsimp only
 by_cases f:m=J
 .rw[Ah<|by simpa using f];exact Av<|h m st (Mv.refl _ _ _) l o d
 .rw[Ae<|by simpa using f];have t:=r.resolve_left f;by_cases p:m > 1
  .rw[Ah p];refine Ap<|mM L B (by lia) (by lia) ?_;by_cases O:kx rk (Aq st) lo < kx rk (Aq st) (lo+m - 1)
   .simp only[O,jf,Bz];exact Av<|h m st (Mv.refl _ _ _) l o d
   .simp only[O,jG,bL,AZ];have g:lo+m<=(Aq st).size:=by rw[B.size];lia
    have Y:∀k,lo<=k->k < lo+m->kx rk (Aq st) k=kx rk (Aq st) (lo+m - 1):=by
     intro k a b;have C:=d lo k (aj _) a b;have D:=d k (lo+m - 1) a (by lia) (by lia)
     lia
    have v:Mv lo (lo+J) st (Eo st<|DB (Aq st) lo (lo+m)<|(lo+m - lo) / 2):=Mv.mirrored (aj _) (by lia) g;refine Ap (on<|Nv L (v.sane B) e (by lia) ?_ λj u w=>h j u<|v.trans w);intro i j a b c;show kx rk (DB (Aq st) lo (lo+m)<|(lo+m - lo) / 2) j<=kx rk (DB (Aq st) lo (lo+m)<|(lo+m - lo) / 2) i;rw[nI rk g Y,nI rk g Y];by_cases x:j < lo+m
    .rw[Y i a (by lia),Y j (by lia) x];exact ik _
    .have a3:j=lo+m:=by lia
     subst a3;by_cases hi:i=lo+m
     .subst hi
      lia
     .rw[Y i a<|by lia]
      lia
  .rw[Ae p];have y:m=1:=by lia
   subst y;refine Nv L B e (by lia) ?_ h;intro i j a b c;by_cases hi:i=j
   .rw[hi];exact ik _
   .have e1:i=lo:=by lia
    have z:j=lo+1:=by lia
    subst e1 z;have:i+1 - 1=i:=by lia
    rw[this]at t
    lia
theorem UV(L:dB M A E s kd S rk){ok:Nat}{Q:AJ->AD->Prop}(B:eU kd S n st)(G:lo+m<=n)(H:ok<=m)(u:Up rk (Aq st) lo (lo+ok))
    (h:∀J,Mv lo (lo+m) st J->Up rk (Aq J) lo (lo+m)->Q true J):wpS M A E s (binarySort' lo m ok) Q st:=by
  rw[binarySort'_eq];refine Ap (BA (Be (I:=λk c J=>c=(none,())/\Mv lo (lo+m) st J/\Up rk (Aq J) lo (lo+min k m))
    (Q:=λc J=>c=(none,())/\Mv lo (lo+m) st J/\Up rk (Aq J) lo (lo+m)) ?turn ?last ?first) ?after)
  case after=>
    rintro c J ⟨rfl,v,Y⟩;exact Av (h J v Y)
  case first=>
    refine⟨zr,Mv.refl _ _ _,λi j a b c=>?_⟩;by_cases K:ok=0
    · rw[show i=j by lia]
      exact ik _
    · exact u i j a b (by lia)
  case last=>
    rintro c J ⟨w,v,Y⟩;refine⟨w,v,?_⟩
    rwa [show min (max (max ok 1) m) m=m by lia]at Y
  case turn=>
    rintro k c J N P ⟨rfl,v,Y⟩;have y:min k m=k:=by lia
    rw[y]at Y;have o:=v.sane B;refine Ap (BA (Be (I:=λx c O=>O=J/\∃l r,c=(none,l,r)/\l<=r/\r<=k/\r - l<=k - x/\
        (∀i,i < l->kx rk (Aq J) (lo+i)<=kx rk (Aq J) (lo+k))/\(∀i,r<=i->i < k->kx rk (Aq J) (lo+k) < kx rk (Aq J) (lo+i)))
      (Q:=λc O=>O=J/\∃l r,c=(none,l,r)/\l<=k/\
        (∀i,i < l->kx rk (Aq J) (lo+i)<=kx rk (Aq J) (lo+k))/\(∀i,l<=i->i < k->kx rk (Aq J) (lo+k) < kx rk (Aq J) (lo+i))) ?iturn ?ilast ?ifirst) ?iafter)
    case ifirst=>exact⟨rfl,0,k,rfl,by lia,by lia,by lia,λi hi=>by lia,λi a b=>by lia⟩
    case ilast=>
      rintro c O ⟨rfl,l,r,rfl,z,f,C,d,Z⟩;have e:l=r:=by lia
      subst e;exact⟨zr,l,l,zr,f,d,Z⟩
    case iturn=>
      rintro x c O _ R ⟨rfl,l,r,rfl,z,f,C,d,Z⟩
      dsimp only
      by_cases p:l >=r
      · rw[Ah p]
        have e:l=r:=by lia
        subst e;exact Av ⟨zr,l,l,zr,f,d,Z⟩
      · rw[Ae p]
        refine Ap<|mM L o (by lia) (by lia) ?_;by_cases t:kx rk (Aq O) (lo+k) < kx rk (Aq O) (lo+(l+r) / 2)
        · simp only[t,jf,Bz]
          refine Av ⟨zr,l,(l+r) / 2,zr,by lia,by lia,by lia,d,λi a b=>?_⟩;have:=Y (lo+(l+r) / 2) (lo+i) (by lia) (by lia) (by lia)
          lia
        · simp only[t,jG,bL,AZ]
          refine Av ⟨zr,(l+r) / 2+1,r,zr,by lia,by lia,by lia,λi a=>?_,Z⟩;have:=Y (lo+i) (lo+(l+r) / 2) (by lia) (by lia) (by lia)
          lia
    case iafter=>
      rintro c O ⟨rfl,l,r,rfl,T,d,Z⟩;show wpS M A E s (moveDown' (lo+k) (lo+l) >>=λ_=>AX<|AS (none,())) _ O;rw[moveDown'_eq];have g:lo+k < (Aq O).size:=by rw[o.size];lia
      refine Ap<|B7<|Av ⟨zr,v.trans<|Mv.sunk (by lia) (by lia) g,?_⟩;rw[show min (k+1) m=k+1 by lia];intro i j a b c;show kx rk (Ju (Aq O) (lo+k)<|lo+k - (lo+l)) i<=kx rk (Ju (Aq O) (lo+k)<|lo+k - (lo+l)) j;rw[Mn rk g (by lia),Mn rk g (by lia),show lo+k - (lo+k - (lo+l))=lo+l by lia];have D:∀q,lo<=q->q < lo+l->kx rk (Aq O) q<=kx rk (Aq O) (lo+k):=λq a b=>by
        have:=d (q - lo) (by lia)
        rwa [show lo+(q - lo)=q by lia]at this
      have F:∀q,lo+l<=q->q < lo+k->kx rk (Aq O) (lo+k) < kx rk (Aq O) q:=λq a b=>by
        have:=Z (q - lo) (by lia) (by lia)
        rwa [show lo+(q - lo)=q by lia]at this
      repeat' split
      all_goals first
        | (exfalso;lia)
        | exact ik _
        | exact D _ (by lia) (by lia)
        | exact hK (F _ (by lia)<|by lia)
        | exact Y _ _ (by lia) (by lia) (by lia)
section
variable{α:Type}{rk:α->Int}{as bs out:Ab α}{ia ib:Nat}
def bj(a:α->Int)(l:Ab α):Prop:=l.Pairwise λp q=>a p<=a q
structure Jn (rk:α->Int) (as bs out:Ab α) (ia ib:Nat):Prop where
 perm:out.Perm (as.take ia++bs.take ib)
 asc:bj rk out
 la:∀p∈out,∀q∈as.drop ia,rk p<=rk q
 lb:∀p∈out,∀q∈bs.drop ib,rk p<=rk q
def Jn.swap(h:Jn rk as bs out ia ib):Jn rk bs as out ib ia:=⟨h.perm.trans nG,h.asc,h.lb,h.la⟩
def Jn.start:Jn rk as bs [] 0 0:=⟨by simp,BH,(λ_ z=>nomatch z),(λ_ z=>nomatch z)⟩
def vc(h:bj rk as)(i:Nat):bj rk (as.drop i):=List.Pairwise.sublist (Gf i as) h
def oJ(a:Ab α)(i k:Nat):a.drop i=(a.drop i).take k++a.drop (i+k):=by
 rw[<- List.drop_drop,nT]
def Jn.moreA(h:Jn rk as bs out ia ib)(d:bj rk as)(k:Nat)(e:∀p∈(as.drop ia).take k,∀q∈bs.drop ib,rk p<=rk q):Jn rk as bs (out++(as.drop ia).take k) (ia+k) ib:=by
 have c:=vc d ia;rw[oJ as ia k]at c;obtain⟨f,i,g⟩:=pV.mp c;have J:∀q,q∈(as.drop ia).take k->q∈as.drop ia:=λq b=>(Cf _ _).mem b;have O:∀q,q∈as.drop (ia+k)->q∈as.drop ia:=λq b=>by
  rw[oJ as ia k];exact b_ _ b
 refine⟨?_,?_,λp a q b=>?_,λp a q b=>?_⟩
 .rw[List.take_add,dk];refine(h.perm.append_right _).trans ?_;rw[dk];exact C4 _ nG
 .exact pV.mpr ⟨h.asc,f,λp a q b=>h.la p a q<|J q b⟩
 .rcases aF.mp a with a | a
  .exact h.la p a q<|O q b
  .exact g p a q b
 .rcases aF.mp a with a | a
  .exact h.lb p a q b
  .exact e p a q b
def Jn.done(h:Jn rk as bs out ia ib)(c:bj rk as)(d:bj rk bs)(e:∀p∈as.drop ia,∀q∈bs.drop ib,rk p<=rk q):
  (out++as.drop ia++bs.drop ib).Perm (as++bs)/\bj rk (out++as.drop ia++bs.drop ib):=by
 constructor
 .refine((h.perm.append_right _).append_right _).trans ?_;have f:as=as.take ia++as.drop ia:=(nT ..).symm;have g:bs=bs.take ib++bs.drop ib:=(nT ..).symm;refine GZ ?_<|Fb (show (as.take ia++as.drop ia)++(bs.take ib++bs.drop ib)=as++bs by rw[<- f,<- g]);simp only[dk];refine C4 _ ?_;rw[<- dk,<- dk];exact List.Perm.append_right _ nG
 .refine pV.mpr ⟨pV.mpr ⟨h.asc,vc c _,h.la⟩,vc d _,λp a q b=>?_⟩;rcases aF.mp a with a | a
  .exact h.lb p a q b
  .exact e p a q b
def Jn.done2(h:Jn rk as bs out ia ib)(c:bj rk as)(d:bj rk bs)(e:∀p∈bs.drop ib,∀q∈as.drop ia,rk p<=rk q):
  (out++bs.drop ib++as.drop ia).Perm (as++bs)/\bj rk (out++bs.drop ib++as.drop ia):=
 let ⟨a,b⟩:=h.swap.done d c e
 ⟨a.trans nG,b⟩
theorem tV(h:bj rk as):bj (λp=>- rk p) as.reverse:=by
 unfold bj;rw[Fi];exact D' (λ{p q} (z:rk p<=rk q)=>show - rk q<= - rk p by lia) h
theorem Ww(h:bj (λp=>- rk p) as):bj rk as.reverse:=by
 unfold bj;rw[Fi];exact D' (λ{p q} (z: - rk p<= - rk q)=>show rk q<=rk p by lia) h
theorem NG(a:Ab α)(k:Nat)(h:k<=a.length):a.reverse.drop (a.length - k)=(a.take k).reverse:=by
 rw[List.drop_reverse]
 congr 1
 congr 1
 lia
theorem O_(a:Ab α)(i k:Nat)(b:i<=k)(h:k<=a.length):(a.reverse.drop<|a.length - k).take (k - i)=((a.drop i).take<|k - i).reverse:=by
 rw[NG a k h,List.take_reverse,bt,G0 h]
 congr 1
 rw[List.drop_take]
 congr 1
 .lia
 .congr 1
  lia
theorem Me(a:bj rk as){i:Nat}{x:α}(b:as[i]? =Aa x):∀q∈as.drop i,rk x<=rk q:=by
 intro q c;obtain⟨j,d,e⟩:=iy.mp c;rw[Ea]at e;obtain⟨hi,f⟩:=bR.mp b;subst e f;rcases Nat.eq_zero_or_pos j with h | h
 .subst h;exact ik _
 .exact gA.mp a i (i+j) hi (by rw[fB]at d;lia) (by lia)
theorem MM(a:bj rk as){i:Nat}{x:α}(b:as[i]? =Aa x):∀q∈as.take (i+1),rk q<=rk x:=by
 intro q c;obtain⟨j,d,e⟩:=iy.mp c;rw[k_]at e;obtain⟨hi,f⟩:=bR.mp b;subst e f;have g:j<=i:=by rw[bt]at d;lia
 rcases EO j i with h | h
 .exact gA.mp a j i (by lia) hi h
 .have:j=i:=by lia
  subst this;exact ik _
def uj{i:Nat}{x:α}(a:as[i]? =Aa x):(as.drop i).take 1=[x]:=by
 obtain⟨hi,b⟩:=bR.mp a;rw[jh hi,b];rfl
end
def fU:AJ->At->Am At->Nat->Nat->Nat->Cw AD Sem (Ag Nat):=sortPriv%PySem.Builtin.gallop
def jK(left:AJ)(a:At)(b:Am At)(i:Nat):Cw AD Sem (Ag AJ):=do
 let p <- BN b i
 if left then lt' p a else return (<- lt' a p).map (!·)
def Pa(left:AJ)(b:At)(c:Am At)(d n a:Nat):fU left b c d n a=(do
 let mut bk:=0
 let mut fw:=1
 let mut lo:=0
 let mut up:=0
 let Aa rt <- jK left b c (d+a) | return none
 if rt then
  let e:=n - a
  for _ in [0:n] do
   if fw >=e then break
   let Aa mr <- jK left b c (d+(a+fw)) | return none
   if !mr then break
   bk:=fw
   fw:=2*fw+1
  lo:=a+bk+1
  up:=a+min fw e
 else
  let e:=a+1
  for _ in [0:n] do
   if fw >=e then break
   let Aa fd <- jK left b c (d+(a - fw)) | return none
   if fd then break
   bk:=fw
   fw:=2*fw+1
  lo:=a+1 - min fw e
  up:=a - bk
 for _ in [0:n] do
  if lo >=up then break
  let J:=lo+(up - lo) / 2
  let Aa mr <- jK left b c (d+J) | return none
  if mr then lo:=J+1 else up:=J
 return Aa up):=rfl
def aV(left:AJ)(k v:Int):AJ:=if left then decide (v < k) else decide (v<=k)
variable{left:AJ}
theorem sK{k v u:Int}(h:v<=u)(e:aV left k u=true):aV left k v=true:=by
 unfold aV at*;cases left
 .simp at*
  lia
 .simp at*
  lia
def NU(left:AJ)(b:At)(c:Am At)(d n e f:Nat):Cw AD Sem (Ag Nat):=do
 let mut lo:=e
 let mut up:=f
 for _ in [0:n] do
  if lo >=up then break
  let a:=lo+(up - lo) / 2
  let Aa mr <- jK left b c (d+a) | return none
  if mr then lo:=a+1 else up:=a
 return Aa up
def cO{a:Am At}{Q:At->AD->Prop}(e:a[i]? =Aa p)(h:Q p st):wpS M A E s (BN a i) Q st:=by
 rw[I9,e];exact Av h
variable{key:At}
def ou(L:dB M A E s kd S rk){a:Am At}{Q:Ag AJ->AD->Prop}(b:kindOf st=kd)(J:S key)(d:∃p,a[i]? =Aa p/\S p)
  (h:Q (Aa<|aV left (rk key)<|kx rk a i) st):wpS M A E s (jK left key a i) Q st:=by
 obtain⟨p,e,c⟩:=d;rw[ez e]at h;unfold jK;refine Ap<|cO e ?_;cases left with
 | true=>exact L p key st Q c J b h
 | false=>
  refine Ap<|L key p st _ J c b<|Av ?_;have f:(!decide (rk key < rk p))=aV false (rk key) (rk p):=by
   unfold aV;simp
   rw[<- decide_not];simp
  show Q (Aa<|!decide (rk key < rk p)) st;rw[f];exact h
theorem xw(L:dB M A E s kd S rk){g:Am At}{f up:Nat}(q:kindOf st=kd)(r:S key)
  (t:∀i,i < n->∃p,g[f+i]? =Aa p/\S p) (m:Up rk g f (f+n)) (Y:lo<=up) (Z:up<=n) (u:∀i,i < lo->aV left (rk key) (kx rk g<|f+i)=true)
  (v:∀i,up<=i->i < n->aV left (rk key) (kx rk g<|f+i)=false)
  (h:∀k,k<=n->(∀i,i < k->aV left (rk key) (kx rk g<|f+i)=true)->(∀i,k<=i->i < n->aV left (rk key) (kx rk g<|f+i)=false)->Q (Aa k) st):
  wpS M A E s (NU left key g f n lo up) Q st:=by
 unfold NU
 dsimp only
 refine Ap (BA (Be (I:=λx c J=>J=st/\∃lo up,c=(none,lo,up)/\lo<=up/\up<=n/\up - lo<=n - x/\
   (∀i,i < lo->aV left (rk key) (kx rk g<|f+i)=true)/\(∀i,up<=i->i < n->aV left (rk key) (kx rk g<|f+i)=false))
  (Q:=λc J=>J=st/\∃lo up,c=(none,lo,up)/\up<=n/\
   (∀i,i < up->aV left (rk key) (kx rk g<|f+i)=true)/\(∀i,up<=i->i < n->aV left (rk key) (kx rk g<|f+i)=false)) ?turn ?last ⟨rfl,lo,up,rfl,Y,Z,by lia,u,v⟩) ?after)
 case after=>
  rintro c J ⟨rfl,lo,up,rfl,a,b,d⟩;exact Av (h up a b d)
 case last=>
  rintro c J ⟨rfl,lo,up,rfl,a,b,d,j,l⟩;have e:lo=up:=by lia
  subst e;exact⟨zr,lo,lo,zr,b,j,l⟩
 case turn=>
  rintro x c J _ y ⟨rfl,lo,up,rfl,a,b,d,j,l⟩
  dsimp only
  by_cases O:lo >=up
  .rw[Ah O];have e:lo=up:=by lia
   subst e;exact Av ⟨zr,lo,lo,zr,b,j,l⟩
  .rw[Ae O];refine Ap<|ou L q r (t _<|by lia) ?_;cases o:aV left (rk key) (kx rk g<|f+(lo+(up - lo) / 2)) with
   | true=>
    dsimp only
    rw[Ah rfl];refine Av ⟨zr,_,_,zr,by lia,b,by lia,λi hi=>?_,l⟩;exact sK (m _ _ (by lia) (by lia)<|by lia) o
   | false=>
    dsimp only
    rw[Ae aY];refine Av ⟨zr,_,_,zr,by lia,by lia,by lia,j,λi hi z=>?_⟩;cases w:aV left (rk key) (kx rk g<|f+i) with
    | false=>rfl
    | true=>
     have:=sK (m (f+(lo+(up - lo) / 2)) (f+i) (by lia) (by lia)<|by lia) w;rw[o]at this;cases this
theorem kr(L:dB M A E s kd S rk){q:Am At}{o m:Nat}(r:kindOf st=kd)(Z:S key)
  (t:∀i,i < n->∃p,q[o+i]? =Aa p/\S p) (u:Up rk q o (o+n)) (C:m < n)
  (h:∀k,k<=n->(∀i,i < k->aV left (rk key) (kx rk q<|o+i)=true)->(∀i,k<=i->i < n->aV left (rk key) (kx rk q<|o+i)=false)->Q (Aa k) st):
  wpS M A E s (fU left key q o n m) Q st:=by
 have v:∀i j,i<=j->j < n->aV left (rk key) (kx rk q<|o+j)=true->aV left (rk key) (kx rk q<|o+i)=true:=λi j a b e=>sK (u _ _ (by lia) (by lia)<|by lia) e;have z:∀i j,i<=j->j < n->aV left (rk key) (kx rk q<|o+i)=false->aV left (rk key) (kx rk q<|o+j)=false:=λi j a b e=>by
  cases D:aV left (rk key) (kx rk q<|o+j) with
  | false=>rfl
  | true=>
   rw[v i j a b D]at e;cases e
 rw[Pa]
 dsimp only
 refine Ap<|ou L r Z (t m C) ?_;cases B:aV left (rk key) (kx rk q<|o+m) with
 | true=>
  dsimp only
  rw[Ah rfl];refine Ap (BA (Be (I:=λx c J=>J=st/\∃l g,c=(none,l,g)/\l < g/\x+1<=g/\m+l < n/\aV left (rk key) (kx rk q<|o+(m+l))=true)
   (Q:=λc J=>J=st/\∃l g,c=(none,l,g)/\l < g/\m+l < n/\aV left (rk key) (kx rk q<|o+(m+l))=true/\(n - m<=g\/ m+g < n/\aV left (rk key) (kx rk q<|o+(m+g))=false)) ?turn ?last ⟨rfl,0,1,rfl,by lia,by lia,by lia,B⟩) ?after)
  case last=>
   rintro c J ⟨rfl,l,g,rfl,a,b,d,e⟩;exact⟨zr,l,g,zr,a,d,e,.inl<|by lia⟩
  case turn=>
   rintro x c J _ F ⟨rfl,l,g,rfl,a,b,d,e⟩
   dsimp only
   by_cases O:g >=n - m
   .rw[Ah O];exact Av ⟨zr,l,g,zr,a,d,e,.inl O⟩
   .rw[Ae O];refine Ap<|ou L r Z (t _<|by lia) ?_;cases Y:aV left (rk key) (kx rk q<|o+(m+g)) with
    | true=>
     dsimp only
     rw[Ae<|by simp];exact Av ⟨zr,g,_,zr,by lia,by lia,by lia,Y⟩
    | false=>
     dsimp only
     rw[Ah<|by simp];exact Av ⟨zr,l,g,zr,a,d,e,.inr ⟨by lia,Y⟩⟩
  case after=>
   rintro c J ⟨rfl,l,g,rfl,a,d,e,f⟩
   dsimp only
   refine xw L r Z t u (lo:=m+l+1) (up:=m+min g (n - m)) (by lia) (by lia) (λi hi=>v i (m+l) (by lia) d e) (λi hi w=>?_) h;rcases f with f | ⟨G,y⟩
   .lia
   .exact z (m+g) i (by lia) w y
 | false=>
  dsimp only
  rw[Ae aY];refine Ap (BA (Be (I:=λx c J=>J=st/\∃l g,c=(none,l,g)/\l < g/\x+1<=g/\l<=m/\aV left (rk key) (kx rk q<|o+(m - l))=false)
   (Q:=λc J=>J=st/\∃l g,c=(none,l,g)/\l < g/\l<=m/\aV left (rk key) (kx rk q<|o+(m - l))=false/\(m+1<=g\/ g<=m/\aV left (rk key) (kx rk q<|o+(m - g))=true)) ?turn ?last ⟨rfl,0,1,rfl,by lia,by lia,by lia,B⟩) ?after)
  case last=>
   rintro c J ⟨rfl,l,g,rfl,a,b,d,e⟩;exact⟨zr,l,g,zr,a,d,e,.inl<|by lia⟩
  case turn=>
   rintro x c J _ F ⟨rfl,l,g,rfl,a,b,d,e⟩
   dsimp only
   by_cases O:g >=m+1
   .rw[Ah O];exact Av ⟨zr,l,g,zr,a,d,e,.inl O⟩
   .rw[Ae O];refine Ap<|ou L r Z (t _<|by lia) ?_;cases Y:aV left (rk key) (kx rk q<|o+(m - g)) with
    | true=>
     dsimp only
     rw[Ah rfl];exact Av ⟨zr,l,g,zr,a,d,e,.inr ⟨by lia,Y⟩⟩
    | false=>
     dsimp only
     rw[Ae aY];exact Av ⟨zr,g,_,zr,by lia,by lia,by lia,Y⟩
  case after=>
   rintro c J ⟨rfl,l,g,rfl,a,d,e,f⟩
   dsimp only
   refine xw L r Z t u (lo:=m+1 - min g (m+1)) (up:=m - l) (by lia) (by lia) (λi hi=>?_) (λi hi w=>z (m - l) i hi w e) h;rcases f with f | ⟨G,y⟩
   .lia
   .exact v i (m - g) (by lia) (by lia) y
def uq:Am At->Am At->Cw AD Sem (Am At):=sortPriv%PySem.Builtin.mergeLo
abbrev jc(st:AD)(g:Nat):AD:=FT (kindOf st) (Aq st) (AM st) g<|BM st
def ew(a b c:Am At)(d e:Nat):Am At:=c++a.extract d a.size++b.extract e b.size
def iJ(a b c:Am At)(d e:Nat):Am At:=c++b.extract e b.size++a.extract d a.size
def UE(a b:Am At):uq a b=(do
 rule "list.sort.merge-lo"
 let all:=a.size+b.size
 let mut o:Am At:=#[<- BN b 0]
 let mut x:=0
 let mut y:=1
 if y==b.size then return ew a b o x y
 if x+1==a.size then return iJ a b o x y
 let mut g:=gallopOf (<- get)
 for _ in [0:all] do
  let mut ca:=0
  let mut cb:=0
  for _ in [0:all] do
   let Aa won <- lt' (<- BN b y) (<- BN a x) | return ew a b o x y
   if won then
    o:=o.push<|<- BN b y;y:=y+1;cb:=cb+1;ca:=0
    if y==b.size then return ew a b o x y
    if cb >=g then break
   else
    o:=o.push<|<- BN a x;x:=x+1;ca:=ca+1;cb:=0
    if x+1==a.size then return iJ a b o x y
    if ca >=g then break
  rule "list.sort.gallop"
  g:=g+1
  for _ in [0:all] do
   if g > 1 then g:=g - 1
   FU λst=>jc st g
   let Aa k <- fU false (<- BN b y) a x (a.size - x) 0 | return ew a b o x y
   ca:=k
   if k > 0 then
    o:=o++a.extract x (x+k);x:=x+k
    if x+1==a.size then return iJ a b o x y
    if x==a.size then return ew a b o x y
   o:=o.push<|<- BN b y;y:=y+1
   if y==b.size then return ew a b o x y
   let Aa k <- fU true (<- BN a x) b y (b.size - y) 0 | return ew a b o x y
   cb:=k
   if k > 0 then
    o:=o++b.extract y (y+k);y:=y+k
    if y==b.size then return ew a b o x y
   o:=o.push<|<- BN a x;x:=x+1
   if x+1==a.size then return iJ a b o x y
   if ca < 7&&cb < 7 then break
  g:=g+1
  FU λst=>jc st g
 Eb "internal:list.sort.merge-bound"):=rfl
structure Gl (st st':AD):Prop where
 arr:Aq st'=Aq st
 kind:kindOf st'=kindOf st
 pend:AM st'=AM st
 failed:BM st'=BM st
def Gl.refl(st:AD):Gl st st:=⟨rfl,rfl,rfl,rfl⟩
variable{J:AD}
def Gl.set(h:Gl st J)(g:Nat):Gl st (jc J g):=⟨h.arr,h.kind,h.pend,h.failed⟩
def fg(a:Am At)(i:Nat)(h:a.toList[i]? =Aa p):kx rk a i=rk p:=ez (by rw[<- h,bG])
variable{k:Nat}{l:Ab At}
theorem lQ(h:p∈(l.drop i).take k):∃j,j < k/\l[i+j]? =Aa p:=by
 obtain⟨j,a,e⟩:=iy.mp h;rw[bt]at a;refine⟨j,by lia,?_⟩;rw[<- e,k_,Ea,aH]
theorem tY(h:p∈l.drop i):∃j,i<=j/\j < l.length/\l[j]? =Aa p:=by
 obtain⟨j,a,e⟩:=iy.mp h;rw[fB]at a;refine⟨i+j,by lia,by lia,?_⟩;rw[<- e,Ea,aH]
theorem oT(h:bj rk xs.toList)(lo hi:Nat)(a:hi<=xs.size):Up rk xs lo hi:=by
 intro i j _ b c;have J:i < xs.toList.length:=by rw[aI];lia
 have O:j < xs.toList.length:=by rw[aI];lia
 rw[fg xs i<|aH J,fg xs j<|aH O];rcases EO i j with q | q
 .exact gA.mp h i j J O q
 .have:i=j:=by lia
  subst this;exact ik _
theorem XA(a:Am At)(i k:Nat):(a.extract i<|i+k).toList=(a.toList.drop i).take k:=by
 rw[jV,jk]
 congr 1
 lia
theorem pI(a:Am At)(i:Nat):(a.extract i a.size).toList=a.toList.drop i:=by
 rw[jV,jk,jm];rw[fB,aI]
 lia
variable{a b o:Am At}{x y:Nat}
def tI(h:Jn rk a.toList b.toList o.toList x y)(d:bj rk a.toList)(e:a[x]? =Aa p)(J:∀q∈b.toList.drop y,rk p<=rk q):Jn rk a.toList b.toList (o.push p).toList (x+1) y:=by
 have c:a.toList[x]? =Aa p:=by rw[bG];exact e
 have:=h.moreA d 1 (by rw[uj c];intro z f;rw[aM.mp f];exact J)
 rwa [uj c,<- mP]at this
def uJ(h:Jn rk a.toList b.toList o.toList x y)(c:bj rk b.toList)(e:b[y]? =Aa p)(J:∀q∈a.toList.drop x,rk p<=rk q):Jn rk a.toList b.toList (o.push p).toList x (y+1):=
 (tI h.swap c e J).swap
def xU(h:Jn rk a.toList b.toList o.toList x y)(c:bj rk a.toList)(k:Nat)(d:∀p∈(a.toList.drop x).take k,∀q∈b.toList.drop y,rk p<=rk q):Jn rk a.toList b.toList (o++a.extract x (x+k)).toList (x+k) y:=by
 rw[gF,XA];exact h.moreA c k d
def Vr(h:Jn rk a.toList b.toList o.toList x y)(c:bj rk b.toList)(k:Nat)(d:∀p∈(b.toList.drop y).take k,∀q∈a.toList.drop x,rk p<=rk q):Jn rk a.toList b.toList (o++b.extract y (y+k)).toList x (y+k):=
 (xU h.swap c k d).swap
def db(c:At->Int)(a b r:Am At):Prop:=r.toList.Perm (a.toList++b.toList)/\bj c r.toList
theorem oR(h:Jn rk a.toList b.toList o.toList x y)(d:bj rk a.toList)(e:bj rk b.toList)(g:y=b.size):db rk a b (ew a b o x y):=by
 have f:∀p∈a.toList.drop x,∀q∈b.toList.drop y,rk p<=rk q:=λp _ q c=>by
  rw[List.drop_of_length_le (by rw[aI];lia)]at c;cases c
 have:=h.done d e f;unfold db ew;rw[gF,gF,pI,pI];exact this
structure Mg (S:At->Prop) (rk:At->Int) (a b:Am At):Prop where
 sa:∀p∈a.toList,S p
 sb:∀p∈b.toList,S p
 aa:bj rk a.toList
 ab:bj rk b.toList
 na:0 < a.size
 nb:0 < b.size
 top:∃z,a[a.size - 1]? =Aa z/\∀p∈b.toList,rk p < rk z
 bot:∃z,b[0]? =Aa z/\∀p∈a.toList,rk z < rk p
def Mg.atA(m:Mg S rk a b)(h:i < a.size):∃p,a[i]? =Aa p/\S p/\p∈a.toList:=
 ⟨a[i],Gd a i h,m.sa _ (by simp),by simp⟩
def Mg.atB(m:Mg S rk a b)(h:i < b.size):∃p,b[i]? =Aa p/\S p/\p∈b.toList:=
 ⟨b[i],Gd b i h,m.sb _ (by simp),by simp⟩
theorem oM(m:Mg S rk a b)(h:Jn rk a.toList b.toList o.toList x y)(l:x+1=a.size):db rk a b (iJ a b o x y):=by
 obtain⟨z,d,f⟩:=m.top;have c:∀p∈b.toList.drop y,∀q∈a.toList.drop x,rk p<=rk q:=λp g q c=>by
  obtain⟨j,n,i,e⟩:=tY c;rw[aI]at i;have k:j=a.size - 1:=by lia
  rw[bG,k,d]at e;cases e
  exact hK<|f p<|jp g
 have:=h.done2 m.aa m.ab c;unfold db iJ;rw[gF,gF,pI,pI];exact this
def Ls(m:Mg S rk a b)(e:a[i]? =Aa p):∀q∈a.toList.drop i,rk p<=rk q:=Me m.aa (by rw[bG];exact e)
def xl(m:Mg S rk a b)(e:b[i]? =Aa p):∀q∈b.toList.drop i,rk p<=rk q:=Me m.ab (by rw[bG];exact e)
abbrev oL:=Ag (Am At)×Am At×Nat×Nat×Nat×Nat×Nat
def pA(a b:Am At)(c d g:Nat)(o:Am At)(x y:Nat):Cw AD Sem (Db oL):=do
 let p <- BN a x
 if (x+1+1==a.size)=true then AX (AR (Aa<|iJ a b (o.push p) (x+1) y,o.push p,x+1,y,g,c,d))
 else if (decide (c < 7)&&decide (d < 7))=true then AX (AR (none,o.push p,x+1,y,g,c,d))
 else AX (AS (none,o.push p,x+1,y,g,c,d))
def qn(a b:Am At)(c d g:Nat)(o:Am At)(x y:Nat):Cw AD Sem (Db oL):=do
 let p <- BN b y
 if (y+1==b.size)=true then AX (AR (Aa<|ew a b (o.push p) x<|y+1,o.push p,x,y+1,g,c,d))
 else do
  let Aa k <- fU true (<- BN a x) b (y+1) (b.size - (y+1)) 0 | AX (AR (Aa<|ew a b (o.push p) x<|y+1,o.push p,x,y+1,g,c,d))
  if k > 0 then
   if (y+1+k==b.size)=true then AX (AR (Aa<|ew a b (o.push p++b.extract (y+1) (y+1+k)) x<|y+1+k,o.push p++b.extract (y+1) (y+1+k),x,y+1+k,g,c,k))
   else pA a b c k g (o.push p++b.extract (y+1) (y+1+k)) x (y+1+k)
  else pA a b c k g (o.push p) x (y+1)
def q_(a b:Am At)(d c g:Nat)(o:Am At)(x y:Nat):Cw AD Sem (Db oL):=do
 FU λst=>jc st g
 let Aa k <- fU false (<- BN b y) a x (a.size - x) 0 | AX (AR (Aa<|ew a b o x y,o,x,y,g,d,c))
 if k > 0 then
  if (x+k+1==a.size)=true then AX (AR (Aa<|iJ a b (o++a.extract x (x+k)) (x+k) y,o++a.extract x (x+k),x+k,y,g,k,c))
  else if (x+k==a.size)=true then AX (AR (Aa<|ew a b (o++a.extract x (x+k)) (x+k) y,o++a.extract x (x+k),x+k,y,g,k,c))
  else qn a b k c g (o++a.extract x (x+k)) (x+k) y
 else qn a b k c g o x y
structure Go (rk:At->Int) (a b o:Am At) (x y:Nat):Prop where
 jn:Jn rk a.toList b.toList o.toList x y
 hx:x+1 < a.size
 hy:y < b.size
def pj(d:At->Int)(a b:Am At)(st:AD)(n:Nat)(r:Db oL)(e:AD):Prop:=Gl st e/\match r with
 | .done c=>(∃r,c.1=Aa r/\db d a b r)\/ (c.1=none/\Go d a b c.2.1 c.2.2.1 c.2.2.2.1/\n<=c.2.2.1+c.2.2.2.1)
 | .yield c=>c.1=none/\Go d a b c.2.1 c.2.2.1 c.2.2.2.1/\n<=c.2.2.1+c.2.2.2.1
variable{O:AD}{ca cb g:Nat}
theorem zu(m:Mg S rk a b)(c:Gl st O)(J:Jn rk a.toList b.toList o.toList x y)(j:x+1 < a.size)(d:y < b.size)
  (h:∀p,a[x]? =Aa p->∀q∈b.toList.drop y,rk p<=rk q) (k:n<=x+y):wpS M A E s (pA a b ca cb g o x y) (pj rk a b st<|n+1) O:=by
 obtain⟨p,e,_,_⟩:=m.atA (i:=x) (by lia);have Y:=tI J m.aa e<|h p e;unfold pA;refine Ap<|cO e ?_;by_cases Z:x+1+1=a.size
 .rw[Ah<|by simpa using Z];exact Av ⟨c,.inl ⟨_,zr,oM m Y Z⟩⟩
 .rw[Ae<|by simpa using Z];by_cases f:(decide (ca < 7)&&decide (cb < 7))=true
  .rw[Ah f];exact Av ⟨c,.inr ⟨rfl,⟨Y,by show x+1+1 < a.size;lia,d⟩,by show n+1<=x+1+y;lia⟩⟩
  .rw[Ae f];exact Av ⟨c,rfl,⟨Y,by show x+1+1 < a.size;lia,d⟩,by show n+1<=x+1+y;lia⟩
variable{Y:AD}
theorem MJ(L:dB M A E s kd S rk)(C:kindOf st=kd)(m:Mg S rk a b)(O:Gl st Y)(J:Jn rk a.toList b.toList o.toList x y)(r:x+1 < a.size)(D:y < b.size)
  (F:∀p,b[y]? =Aa p->∀q∈a.toList.drop x,rk p<=rk q) (Q:n<=x+y):wpS M A E s (qn a b ca cb g o x y) (pj rk a b st<|n+1) Y:=by
 obtain⟨p,e,_,_⟩:=m.atB D;have Z:=uJ J m.ab e<|F p e;unfold qn;refine Ap<|cO e ?_;by_cases c:y+1=b.size
 .rw[Ah<|by simpa using c];exact Av ⟨O,.inl ⟨_,zr,oR Z m.aa m.ab c⟩⟩
 .rw[Ae<|by simpa using c];obtain⟨q,eq,G,_⟩:=m.atA (i:=x) (by lia);refine Ap<|cO eq ?_;refine Ap (kr L (O.kind.trans C) G (λi hi=>?_) (oT m.ab _ _<|by lia) (by lia) λk R H I=>?_)
  .obtain⟨p,e,sp,_⟩:=m.atB (i:=y+1+i) (by lia);exact⟨p,e,sp⟩
  dsimp only
  have after:∀d,a[x]? =Aa d->∀z∈b.toList.drop (y+1+k),rk d<=rk z:=λd t z f=>by
   rw[eq]at t;cases t
   obtain⟨j,u,K,h⟩:=tY f;rw[aI]at K;have:=I (j - (y+1)) (by lia) (by lia);rw[show y+1+(j - (y+1))=j by lia,fg b j h]at this;simp[aV]at this
   lia
  by_cases v:k > 0
  .rw[Ah v];have B:=Vr Z m.ab k λz f w N=>by
    obtain⟨j,u,h⟩:=lQ f;have:=H j u;rw[fg b _ h]at this;simp[aV]at this
    have:=Ls m eq w N
    lia
   by_cases l:y+1+k=b.size
   .rw[Ah<|by simpa using l];exact Av ⟨O,.inl ⟨_,zr,oR B m.aa m.ab l⟩⟩
   .rw[Ae<|by simpa using l];exact zu m O B r (by lia) after (by lia)
  .rw[Ae v];have P:k=0:=by lia
   subst P;exact zu m O Z r (by lia) after (by lia)
variable{Z:AD}
theorem OI(L:dB M A E s kd S rk)(d:kindOf st=kd)(m:Mg S rk a b)(D:Gl st Z)(G:Go rk a b o x y)(F:n<=x+y):
  wpS M A E s (q_ a b ca cb g o x y) (pj rk a b st<|n+1) Z:=by
 obtain⟨J,H,f⟩:=G;unfold q_;refine Ap<|B7 ?_;have O:=D.set g;obtain⟨q,eq,I,K⟩:=m.atB f;refine Ap<|cO eq ?_;refine Ap (kr L (O.kind.trans d) I (λi hi=>?_) (oT m.aa _ _<|by lia) (by lia) λk T r N=>?_)
 .obtain⟨p,e,sp,_⟩:=m.atA (i:=x+i) (by lia);exact⟨p,e,sp⟩
 dsimp only
 have after:∀h,b[y]? =Aa h->∀z∈a.toList.drop (x+k),rk h<=rk z:=λh t z c=>by
  rw[eq]at t;cases t
  obtain⟨j,u,P,Y⟩:=tY c;rw[aI]at P;have:=N (j - x) (by lia) (by lia);rw[show x+(j - x)=j by lia,fg a j Y]at this;simp[aV]at this
  lia
 by_cases v:k > 0
 .rw[Ah v];have B:=xU J m.aa k λz c w Q=>by
   obtain⟨j,u,Y⟩:=lQ c;have:=r j u;rw[fg a _ Y]at this;simp[aV]at this
   have:=xl m eq w Q
   lia
  by_cases l:x+k+1=a.size
  .rw[Ah<|by simpa using l];exact Av ⟨O,.inl ⟨_,zr,oM m B l⟩⟩
  .rw[Ae<|by simpa using l];have C:¬ x+k=a.size:=λC=>by
    obtain⟨z,Y,c⟩:=m.top;have:=r (a.size - 1 - x) (by lia);rw[show x+(a.size - 1 - x)=a.size - 1 by lia,ez Y]at this;simp[aV]at this
    have:=c q K
    lia
   rw[Ae<|by simpa using C];exact MJ L d m O B (by lia) f after (by lia)
 .rw[Ae v];have R:k=0:=by lia
  subst R;exact MJ L d m O J H f after F
variable{Q:Am At->AD->Prop}
theorem Tx(L:dB M A E s kd S rk)(U:kindOf st=kd)(m:Mg S rk a b)(h:∀r O,Gl st O->db rk a b r->Q r O):wpS M A E s (uq a b) Q st:=by
 rw[UE];refine Ap<|Ew<|eS ⟨zr,?_⟩;obtain⟨q,eq,k0,l0⟩:=m.atB m.nb;refine Ap<|cO eq ?_;have C:Jn rk a.toList b.toList (#[q]:Am At).toList 0 1:=by
  obtain⟨z,W,l⟩:=m.bot;rw[eq]at W;cases W
  exact uJ (o:=#[]) Jn.start m.ab eq λw n=>hK<|l w<|jp n
 by_cases D:1=b.size
 .rw[Ah<|by simpa using D];exact Av<|h _ _ (Gl.refl _)<|oR C m.aa m.ab D
 .rw[Ae<|by simpa using D];by_cases F:0+1=a.size
  .rw[Ah<|by simpa using F];exact Av<|h _ _ (Gl.refl _)<|oM m C F
  .rw[Ae<|by simpa using F];refine Ap<|DJ ?_;have m0:=m.na;have n0:=m.nb;have c0:Go rk a b #[q] 0 1:=⟨C,by lia,by lia⟩;refine Ap (BA (Be (I:=λi c O=>Gl st O/\∃o x y g,c=(none,o,x,y,g)/\Go rk a b o x y/\i+1<=x+y)
    (Q:=λc O=>Gl st O/\∃r o x y g,c=(Aa r,o,x,y,g)/\db rk a b r) ?turn ?last ⟨Gl.refl _,#[q],0,1,_,rfl,c0,by lia⟩) ?after)
   case after=>
    rintro c O ⟨u,r,o,x,y,g,rfl,d⟩;exact Av (h r O u d)
   case last=>
    rintro c O ⟨u,o,x,y,g,rfl,G,hi⟩;have:=G.hx;have:=G.hy
    exfalso
    lia
   case turn=>
    rintro i c O _ hi ⟨u,o,x,y,g,rfl,G,o0⟩
    dsimp only
    refine Ap (BA (Be (I:=λj c Y=>Gl st Y/\∃o x y ca cb,c=(none,o,x,y,ca,cb)/\Go rk a b o x y/\i+1+j<=x+y)
     (Q:=λc Y=>Gl st Y/\∃r o x y ca cb,c=(r,o,x,y,ca,cb)/\match r with
      | some r=>db rk a b r
      | none=>Go rk a b o x y/\i+2<=x+y) ?iturn ?ilast ⟨u,o,x,y,0,0,rfl,G,by lia⟩) ?iafter)
    case ilast=>
     rintro c Y ⟨J,o,x,y,ca,cb,rfl,G,H⟩;have:=G.hx;have:=G.hy
     exfalso
     lia
    case iturn=>
     rintro j c Y _ H ⟨J,o,x,y,ca,cb,rfl,G,d0⟩
     dsimp only
     obtain⟨K,v,e0,p0⟩:=m.atB G.hy;obtain⟨N,B,f0,q0⟩:=m.atA (i:=x) (by have:=G.hx;lia);refine Ap<|cO v<|Ap<|cO B<|Ap<|L K N Y _ e0 f0 (J.kind.trans U) ?_;by_cases n:rk K < rk N
     .simp only[n,jf,Bz];refine Ap<|cO v ?_;have p:=uJ G.jn m.ab v λz l=>lr (hK n)<|Ls m B z l;by_cases f:y+1=b.size
      .rw[Ah<|by simpa using f];exact Av ⟨J,_,_,_,_,_,_,zr,oR p m.aa m.ab f⟩
      .rw[Ae<|by simpa using f];have k:Go rk a b (o.push K) x (y+1):=⟨p,G.hx,by have:=G.hy;lia⟩;split
       .exact Av ⟨J,_,_,_,_,_,_,zr,k,by lia⟩
       .exact Av ⟨J,_,_,_,_,_,zr,k,by lia⟩
     .simp only[n,jG,bL,AZ];refine Ap<|cO B ?_;have p:=tI G.jn m.aa B λz l=>lr (by lia)<|xl m v z l;by_cases f:x+1+1=a.size
      .rw[Ah<|by simpa using f];exact Av ⟨J,_,_,_,_,_,_,zr,oM m p f⟩
      .rw[Ae<|by simpa using f];have k:Go rk a b (o.push N) (x+1) y:=⟨p,by have:=G.hx;lia,G.hy⟩;split
       .exact Av ⟨J,_,_,_,_,_,_,zr,k,by lia⟩
       .exact Av ⟨J,_,_,_,_,_,zr,k,by lia⟩
    case iafter=>
     rintro c Y ⟨J,r,g0,h0,i0,ca,cb,rfl,d⟩;cases r with
     | some r=>exact Av ⟨J,r,_,_,_,_,rfl,d⟩
     | none=>
      obtain⟨k,d0⟩:=d
      dsimp only
      refine Ap<|Ew<|eS ⟨zr,?_⟩;refine Ap (BA (Be (I:=λj c Z=>Gl st Z/\∃o x y g ca cb,c=(none,o,x,y,g,ca,cb)/\Go rk a b o x y/\i+2+j<=x+y)
       (Q:=λc Z=>Gl st Z/\∃r o x y g ca cb,c=(r,o,x,y,g,ca,cb)/\match r with
        | some r=>db rk a b r
        | none=>Go rk a b o x y/\i+2<=x+y) ?gturn ?glast ⟨J,g0,h0,i0,_,_,_,rfl,k,by lia⟩) ?gafter)
      case glast=>
       rintro c Z ⟨t,o,x,y,g,ca,cb,rfl,G,H⟩;have:=G.hx;have:=G.hy
       exfalso
       lia
      case gturn=>
       rintro j c Z _ H ⟨t,o,x,y,g,ca,cb,rfl,G,X⟩;have go:∀a0,wpS M A E s (q_ a b ca cb a0 o x y) (pj rk a b st<|i+2+j+1) Z:=λa0=>OI L U m t G X
       dsimp only
       by_cases b0:g > 1
       case' pos=>
        rw[Ah b0];refine BA (go<|g - 1) ?_
       case' neg=>
        rw[Ae b0];refine BA (go g) ?_
       all_goals
        intro r r0 q;obtain⟨P,q⟩:=q;cases r with
        | done R=>
         obtain⟨r,o,x,y,g,ca,cb⟩:=R;rcases q with ⟨s0,e,q⟩ | ⟨e,q,T⟩
         .simp only at e;subst e;exact⟨P,_,_,_,_,_,_,_,zr,q⟩
         .simp only at e q T;subst e;exact⟨P,_,_,_,_,_,_,_,zr,q,by lia⟩
        | yield R=>
         obtain⟨r,o,x,y,g,ca,cb⟩:=R;obtain⟨e,q,T⟩:=q;simp only at e q T;subst e;exact⟨P,_,_,_,_,_,_,zr,q,by lia⟩
      case gafter=>
       rintro c Z ⟨t,r,t0,u0,v0,w0,x0,y0,rfl,d⟩;cases r with
       | some r=>exact Av ⟨t,r,_,_,_,_,rfl,d⟩
       | none=>
        obtain⟨j0,X⟩:=d
        dsimp only
        exact Ap<|B7<|Av ⟨t.set _,_,_,_,_,zr,j0,by lia⟩
def tz:Am At->Am At->Cw AD Sem (Am At):=sortPriv%PySem.Builtin.mergeHi
def et(a b c:Am At)(d e:Nat):Am At:=a.extract 0 d++b.extract 0 e++c.reverse
def gG(a b c:Am At)(d e:Nat):Am At:=b.extract 0 e++a.extract 0 d++c.reverse
def Pd(a b:Am At):tz a b=(do
 rule "list.sort.merge-hi"
 let all:=a.size+b.size
 let mut x:=a.size - 1
 let mut y:=b.size
 let mut o:Am At:=#[<- BN a x]
 if x==0 then return et a b o x y
 if y==1 then return gG a b o x y
 let mut g:=gallopOf (<- get)
 for _ in [0:all] do
  let mut ca:=0
  let mut cb:=0
  for _ in [0:all] do
   let Aa won <- lt' (<- BN b (y - 1)) (<- BN a (x - 1)) | return et a b o x y
   if won then
    x:=x - 1;o:=o.push<|<- BN a x;ca:=ca+1;cb:=0
    if x==0 then return et a b o x y
    if ca >=g then break
   else
    y:=y - 1;o:=o.push<|<- BN b y;cb:=cb+1;ca:=0
    if y==1 then return gG a b o x y
    if cb >=g then break
  rule "list.sort.gallop"
  g:=g+1
  for _ in [0:all] do
   if g > 1 then g:=g - 1
   FU λst=>jc st g
   let Aa j <- fU false (<- BN b (y - 1)) a 0 x (x - 1) | return et a b o x y
   let k:=x - j
   ca:=k
   if k > 0 then
    o:=o++(a.extract j x).reverse;x:=j
    if x==0 then return et a b o x y
   y:=y - 1;o:=o.push (<- BN b y)
   if y==1 then return gG a b o x y
   let Aa j <- fU true (<- BN a (x - 1)) b 0 y (y - 1) | return et a b o x y
   let k:=y - j
   cb:=k
   if k > 0 then
    o:=o++(b.extract j y).reverse;y:=j
    if y==1 then return gG a b o x y
    if y==0 then return et a b o x y
   x:=x - 1;o:=o.push (<- BN a x)
   if x==0 then return et a b o x y
   if ca < 7&&cb < 7 then break
  g:=g+1
  FU λst=>jc st g
 Eb "internal:list.sort.merge-bound"):=rfl
def JH(c:At->Int)(a b o:Am At)(x y:Nat):Prop:=Jn (λp=>- c p) a.toList.reverse b.toList.reverse o.toList (a.size - x) (b.size - y)/\x<=a.size/\y<=b.size
theorem JH.swap(h:JH rk a b o x y):JH rk b a o y x:=⟨h.1.swap,h.2.2,h.2.1⟩
def mw(a:Am At)(h:k<=a.size):a.toList.reverse.drop (a.size - k)=(a.toList.take k).reverse:=by
 have:=NG a.toList k (by rw[aI];exact h)
 rwa [aI]at this
def zx(a:Am At)(b:i<=k)(h:k<=a.size):(a.toList.reverse.drop<|a.size - k).take (k - i)=((a.toList.drop i).take<|k - i).reverse:=by
 have:=O_ a.toList i k b (by rw[aI];exact h)
 rwa [aI]at this
theorem vE(h:JH rk a b o x y)(g:bj rk a.toList)(O:j<=x)(i:∀p∈(a.toList.drop j).take (x - j),∀q∈b.toList.take y,rk q<=rk p):JH rk a b (o++(a.extract j x).reverse) j y:=by
 obtain⟨J,c,d⟩:=h;refine⟨?_,by lia,d⟩;have:=J.moreA (tV g) (x - j) (λp e q f=>by
  rw[zx a O c]at e;rw[mw b d]at f;have:=i p (List.mem_reverse.mp e) q<|List.mem_reverse.mp f;show - rk p<= - rk q
  lia)
 rw[zx a O c,show a.size - x+(x - j)=a.size - j by lia]at this;rw[gF,Ds,jV,jk];exact this
theorem oX(h:JH rk a b o x y)(d:bj rk a.toList)(k:1<=x)(e:a[x - 1]? =Aa p)(J:∀q∈b.toList.take y,rk q<=rk p):JH rk a b (o.push p) (x - 1) y:=by
 have f:a.toList[x - 1]? =Aa p:=by rw[bG];exact e
 have c:(a.toList.drop<|x - 1).take (x - (x - 1))=[p]:=by
  rw[show x - (x - 1)=1 by lia];exact uj f
 have:=vE h d (j:=x - 1) (by lia) (by rw[c];intro z g;rw[aM.mp g];exact J);have i:(o++(a.extract (x - 1) x).reverse)=o.push p:=by
  apply Array.toList_inj.mp
  rw[gF,Ds,jV,jk,c,mP];rfl
 rwa [i]at this
def OS(h:JH rk a b o x y)(c:bj rk b.toList)(d:j<=y)(e:∀p∈(b.toList.drop j).take (y - j),∀q∈a.toList.take x,rk q<=rk p):JH rk a b (o++(b.extract j y).reverse) x j:=(vE h.swap c d e).swap
def Nw(h:JH rk a b o x y)(c:bj rk b.toList)(d:1<=y)(e:b[y - 1]? =Aa p)(J:∀q∈a.toList.take x,rk q<=rk p):JH rk a b (o.push p) x (y - 1):=(oX h.swap c d e J).swap
def I_(a:Am At)(k:Nat):(a.extract 0 k).toList=a.toList.take k:=by
 rw[jV,jk,B0,EQ]
theorem yk(h:JH rk a b o x y)(g:bj rk a.toList)(i:bj rk b.toList)(j:∀p∈a.toList.take x,∀q∈b.toList.take y,rk q<=rk p):db rk a b (gG a b o x y):=by
 obtain⟨J,c,d⟩:=h;have:=J.done (tV g) (tV i) (λp f q O=>by
  rw[mw a c]at f;rw[mw b d]at O;have:=j p (List.mem_reverse.mp f) q<|List.mem_reverse.mp O;show - rk p<= - rk q
  lia)
 rw[mw a c,mw b d]at this;have e:(gG a b o x y).toList=(o.toList++(a.toList.take x).reverse++(b.toList.take y).reverse).reverse:=by
  unfold gG;rw[gF,gF,I_,I_,Ds];simp
 unfold db;rw[e];exact⟨(Ec _).trans<|this.1.trans<|(Ec _).append<|Ec _,Ww this.2⟩
def WY(h:JH rk a b o x y)(c:bj rk a.toList)(d:bj rk b.toList)(e:∀p∈b.toList.take y,∀q∈a.toList.take x,rk q<=rk p):db rk a b (et a b o x y):=by
 obtain⟨p,q⟩:=yk h.swap d c e;exact⟨p.trans nG,q⟩
def px(h:JH rk a b o x y)(d:bj rk a.toList)(e:bj rk b.toList)(f:x=0):db rk a b (et a b o x y):=by
 refine WY h d e λp _ q c=>?_;rw[f,Hn]at c;cases c
theorem oh(m:Mg S rk a b)(h:JH rk a b o x y)(c:y=1):db rk a b (gG a b o x y):=by
 obtain⟨z,d,f⟩:=m.bot;refine yk h m.aa m.ab λp g q i=>?_;subst c;obtain⟨j,k,e⟩:=iy.mp i;rw[bt]at k;have l:j=0:=by lia
 subst l;rw[k_]at e;have:b.toList[0]? =Aa q:=by rw[<- e,aH]
 rw[bG,d]at this;cases this
 exact hK<|f p<|kW g
theorem yC(m:Mg S rk a b)(c:1<=i)(e:a[i - 1]? =Aa p):∀q∈a.toList.take i,rk q<=rk p:=by
 have:=MM m.aa (i:=i - 1) (x:=p) (by rw[bG];exact e)
 rwa [show i - 1+1=i by lia]at this
theorem Nx(m:Mg S rk a b)(c:1<=i)(e:b[i - 1]? =Aa p):∀q∈b.toList.take i,rk q<=rk p:=by
 have:=MM m.ab (i:=i - 1) (x:=p) (by rw[bG];exact e)
 rwa [show i - 1+1=i by lia]at this
def wu(h:p∈l.take k):∃j,j < k/\l[j]? =Aa p:=by
 have:=lQ (l:=l) (i:=0) (k:=k) (p:=p) (by simpa using h);obtain⟨j,a,b⟩:=this;exact⟨j,a,by rwa [dF]at b⟩
abbrev qB:=Ag (Am At)×Nat×Nat×Am At×Nat×Nat×Nat
def qF(a b:Am At)(c d g:Nat)(o:Am At)(x y:Nat):Cw AD Sem (Db qB):=do
 let p <- BN a (x - 1)
 if (x - 1==0)=true then AX (AR (Aa<|et a b (o.push p) (x - 1) y,x - 1,y,o.push p,g,c,d))
 else if (decide (c < 7)&&decide (d < 7))=true then AX (AR (none,x - 1,y,o.push p,g,c,d))
 else AX (AS (none,x - 1,y,o.push p,g,c,d))
def p_(a b:Am At)(c d g:Nat)(o:Am At)(x y:Nat):Cw AD Sem (Db qB):=do
 let p <- BN b (y - 1)
 if (y - 1==1)=true then AX (AR (Aa<|gG a b (o.push p) x<|y - 1,x,y - 1,o.push p,g,c,d))
 else do
  let Aa j <- fU true (<- BN a (x - 1)) b 0 (y - 1) (y - 1 - 1) | AX (AR (Aa<|et a b (o.push p) x<|y - 1,x,y - 1,o.push p,g,c,d))
  if y - 1 - j > 0 then
   if (j==1)=true then AX (AR (Aa<|gG a b (o.push p++(b.extract j<|y - 1).reverse) x j,x,j,o.push p++(b.extract j<|y - 1).reverse,g,c,y - 1 - j))
   else if (j==0)=true then AX (AR (Aa<|et a b (o.push p++(b.extract j<|y - 1).reverse) x j,x,j,o.push p++(b.extract j<|y - 1).reverse,g,c,y - 1 - j))
   else qF a b c (y - 1 - j) g (o.push p++(b.extract j<|y - 1).reverse) x j
  else qF a b c (y - 1 - j) g (o.push p) x (y - 1)
def uV(a b:Am At)(d c g:Nat)(o:Am At)(x y:Nat):Cw AD Sem (Db qB):=do
 FU λst=>jc st g
 let Aa j <- fU false (<- BN b (y - 1)) a 0 x (x - 1) | AX (AR (Aa<|et a b o x y,x,y,o,g,d,c))
 if x - j > 0 then
  if (j==0)=true then AX (AR (Aa<|et a b (o++(a.extract j x).reverse) j y,j,y,o++(a.extract j x).reverse,g,x - j,c))
  else p_ a b (x - j) c g (o++(a.extract j x).reverse) j y
 else p_ a b (x - j) c g o x y
structure gi (rk:At->Int) (a b o:Am At) (x y:Nat):Prop where
 jn:JH rk a b o x y
 hx:1<=x
 hy:2<=y
def oo(d:At->Int)(a b:Am At)(st:AD)(n:Nat)(r:Db qB)(e:AD):Prop:=Gl st e/\match r with
 | .done c=>(∃r,c.1=Aa r/\db d a b r)\/ (c.1=none/\gi d a b c.2.2.2.1 c.2.1 c.2.2.1/\c.2.1+c.2.2.1<=n)
 | .yield c=>c.1=none/\gi d a b c.2.2.2.1 c.2.1 c.2.2.1/\c.2.1+c.2.2.1<=n
theorem MX(m:Mg S rk a b)(c:Gl st O)(J:JH rk a b o x y)(h:1<=x)(d:2<=y)
  (j:∀p,a[x - 1]? =Aa p->∀q∈b.toList.take y,rk q<=rk p) (k:x+y<=n+1):wpS M A E s (qF a b ca cb g o x y) (oo rk a b st n) O:=by
 have l:=J.2.1;obtain⟨p,e,_,_⟩:=m.atA (i:=x - 1) (by lia);have Y:=oX J m.aa h e<|j p e;unfold qF;refine Ap<|cO e ?_;by_cases Z:x - 1=0
 .rw[Ah<|by simpa using Z];exact Av ⟨c,.inl ⟨_,zr,px Y m.aa m.ab Z⟩⟩
 .rw[Ae<|by simpa using Z];by_cases f:(decide (ca < 7)&&decide (cb < 7))=true
  .rw[Ah f];exact Av ⟨c,.inr ⟨rfl,⟨Y,by show 1<=x - 1;lia,d⟩,by show x - 1+y<=n;lia⟩⟩
  .rw[Ae f];exact Av ⟨c,rfl,⟨Y,by show 1<=x - 1;lia,d⟩,by show x - 1+y<=n;lia⟩
theorem C_(L:dB M A E s kd S rk)(C:kindOf st=kd)(m:Mg S rk a b)(Y:Gl st Z)(J:JH rk a b o x y)(d:1<=x)(N:2<=y)
  (D:∀p,b[y - 1]? =Aa p->∀q∈a.toList.take x,rk q<=rk p) (P:x+y<=n+1):wpS M A E s (p_ a b ca cb g o x y) (oo rk a b st n) Z:=by
 have Q:=J.2.1;have R:=J.2.2;obtain⟨p,e,_,_⟩:=m.atB (i:=y - 1) (by lia);have f:=Nw J m.ab (by lia) e<|D p e;unfold p_;refine Ap<|cO e ?_;by_cases h:y - 1=1
 .rw[Ah<|by simpa using h];exact Av ⟨Y,.inl ⟨_,zr,oh m f h⟩⟩
 .rw[Ae<|by simpa using h];obtain⟨q,eq,F,G⟩:=m.atA (i:=x - 1) (by lia);refine Ap<|cO eq ?_;refine Ap (kr L (Y.kind.trans C) F (λi hi=>?_) (oT m.ab _ _<|by lia) (by lia) λj T H l=>?_)
  .obtain⟨p,e,sp,_⟩:=m.atB (i:=0+i) (by lia);exact⟨p,e,sp⟩
  dsimp only
  have after:∀p',a[x - 1]? =Aa p'->∀z∈b.toList.take j,rk z<=rk p':=λp' r z c=>by
   rw[eq]at r;cases r
   obtain⟨i,t,O⟩:=wu c;have:=H i t;rw[dF,fg b i O]at this;simp[aV]at this
   lia
  by_cases u:y - 1 - j > 0
  .rw[Ah u];have v:=OS f m.ab (j:=j) (by lia) λz c w I=>by
    obtain⟨i,t,O⟩:=lQ c;have:=l (j+i) (by lia) (by lia);rw[dF,fg b _ O]at this;simp[aV]at this
    have:=yC m d eq w I
    lia
   by_cases k:j=1
   .rw[Ah<|by simpa using k];exact Av ⟨Y,.inl ⟨_,zr,oh m v k⟩⟩
   .rw[Ae<|by simpa using k];have B:¬ j=0:=λB=>by
     obtain⟨z,O,c⟩:=m.bot;have:=l 0 (by lia) (by lia);rw[dF,ez O]at this;simp[aV]at this
     have:=c q G
     lia
    rw[Ae<|by simpa using B];exact MX m Y v d (by lia) after (by lia)
  .rw[Ae u];have K:j=y - 1:=by lia
   subst K;exact MX m Y f d (by lia) after (by lia)
theorem Vg(L:dB M A E s kd S rk)(c:kindOf st=kd)(m:Mg S rk a b)(u:Gl st Y)(G:gi rk a b o x y)(v:x+y<=n+1):
  wpS M A E s (uV a b ca cb g o x y) (oo rk a b st n) Y:=by
 obtain⟨J,B,h⟩:=G;have K:=J.2.1;have N:=J.2.2;unfold uV;refine Ap<|B7 ?_;have O:=u.set g;obtain⟨q,eq,C,P⟩:=m.atB (i:=y - 1) (by lia);refine Ap<|cO eq ?_;refine Ap (kr L (O.kind.trans c) C (λi hi=>?_) (oT m.aa _ _<|by lia) (by lia) λj Q D F=>?_)
 .obtain⟨p,e,sp,_⟩:=m.atA (i:=0+i) (by lia);exact⟨p,e,sp⟩
 dsimp only
 have after:∀p',b[y - 1]? =Aa p'->∀z∈a.toList.take j,rk z<=rk p':=λp' k z d=>by
  rw[eq]at k;cases k
  obtain⟨i,l,Z⟩:=wu d;have:=D i l;rw[dF,fg a i Z]at this;simp[aV]at this
  lia
 by_cases r:x - j > 0
 .rw[Ah r];have t:=vE J m.aa (j:=j) (by lia) λz d w H=>by
   obtain⟨i,l,Z⟩:=lQ d;have:=F (j+i) (by lia) (by lia);rw[dF,fg a _ Z]at this;simp[aV]at this
   have:=Nx m (by lia) eq w H
   lia
  by_cases f:j=0
  .rw[Ah<|by simpa using f];exact Av ⟨O,.inl ⟨_,zr,px t m.aa m.ab f⟩⟩
  .rw[Ae<|by simpa using f];exact C_ L c m O t (by lia) h after (by lia)
 .rw[Ae r];have I:j=x:=by lia
  subst I;exact C_ L c m O J B h after v
theorem Pb(L:dB M A E s kd S rk)(X:kindOf st=kd)(m:Mg S rk a b)(h:∀r O,Gl st O->db rk a b r->Q r O):wpS M A E s (tz a b) Q st:=by
 rw[Pd];refine Ap<|Ew<|eS ⟨zr,?_⟩;have c0:=m.na;have t0:=m.nb;obtain⟨q,eq,u0,v0⟩:=m.atA (i:=a.size - 1) (by lia);refine Ap<|cO eq ?_;have F:JH rk a b #[q] (a.size - 1) b.size:=by
  obtain⟨z,a0,l⟩:=m.top;rw[eq]at a0;cases a0
  have d0:JH rk a b #[] a.size b.size:=⟨by rw[ER,ER];exact Jn.start,aj _,aj _⟩;exact oX (o:=#[]) d0 m.aa c0 eq λw n=>hK<|l w<|kW n
 by_cases H:a.size - 1=0
 .rw[Ah<|by simpa using H];exact Av<|h _ _ (Gl.refl _)<|px F m.aa m.ab H
 .rw[Ae<|by simpa using H];by_cases K:b.size=1
  .rw[Ah<|by simpa using K];exact Av<|h _ _ (Gl.refl _)<|oh m F K
  .rw[Ae<|by simpa using K];refine Ap<|DJ ?_;have e0:gi rk a b #[q] (a.size - 1) b.size:=⟨F,by lia,by lia⟩;refine Ap (BA (Be (I:=λi c O=>Gl st O/\∃x y o g,c=(none,x,y,o,g)/\gi rk a b o x y/\x+y+i+1<=a.size+b.size)
    (Q:=λc O=>Gl st O/\∃r x y o g,c=(Aa r,x,y,o,g)/\db rk a b r) ?turn ?last ⟨Gl.refl _,_,_,#[q],_,rfl,e0,by lia⟩) ?after)
   case after=>
    rintro c O ⟨u,r,x,y,o,g,rfl,d⟩;exact Av (h r O u d)
   case last=>
    rintro c O ⟨u,x,y,o,g,rfl,G,hi⟩;have:=G.hx;have:=G.hy
    exfalso
    lia
   case turn=>
    rintro i c O _ hi ⟨u,x,y,o,g,rfl,G,w0⟩
    dsimp only
    refine Ap (BA (Be (I:=λj c Y=>Gl st Y/\∃x y o ca cb,c=(none,x,y,o,ca,cb)/\gi rk a b o x y/\x+y+i+1+j<=a.size+b.size)
     (Q:=λc Y=>Gl st Y/\∃r x y o ca cb,c=(r,x,y,o,ca,cb)/\match r with
      | some r=>db rk a b r
      | none=>gi rk a b o x y/\x+y+i+2<=a.size+b.size) ?iturn ?ilast ⟨u,x,y,o,0,0,rfl,G,by lia⟩) ?iafter)
    case ilast=>
     rintro c Y ⟨J,x,y,o,ca,cb,rfl,G,N⟩;have:=G.hx;have:=G.hy
     exfalso
     lia
    case iturn=>
     rintro j c Y _ N ⟨J,x,y,o,ca,cb,rfl,G,f0⟩
     dsimp only
     have v:=G.hx;have g0:=G.hy;have x0:=G.jn.2.1;have y0:=G.jn.2.2;obtain⟨P,B,h0,z0⟩:=m.atB (i:=y - 1) (by lia);obtain⟨R,C,i0,A0⟩:=m.atA (i:=x - 1) (by lia);refine Ap<|cO B<|Ap<|cO C<|Ap<|L P R Y _ h0 i0 (J.kind.trans X) ?_;by_cases n:rk P < rk R
     .simp only[n,jf,Bz];refine Ap<|cO C ?_;have p:=oX G.jn m.aa v C λz l=>lr (Nx m (by lia) B z l)<|hK n;by_cases f:x - 1=0
      .rw[Ah<|by simpa using f];exact Av ⟨J,_,_,_,_,_,_,zr,px p m.aa m.ab f⟩
      .rw[Ae<|by simpa using f];have k:gi rk a b (o.push R) (x - 1) y:=⟨p,by lia,g0⟩;split
       .exact Av ⟨J,_,_,_,_,_,_,zr,k,by lia⟩
       .exact Av ⟨J,_,_,_,_,_,zr,k,by lia⟩
     .simp only[n,jG,bL,AZ];refine Ap<|cO B ?_;have p:=Nw G.jn m.ab (by lia) B λz l=>lr (yC m v C z l) (by lia);by_cases f:y - 1=1
      .rw[Ah<|by simpa using f];exact Av ⟨J,_,_,_,_,_,_,zr,oh m p f⟩
      .rw[Ae<|by simpa using f];have k:gi rk a b (o.push P) x (y - 1):=⟨p,v,by lia⟩;split
       .exact Av ⟨J,_,_,_,_,_,_,zr,k,by lia⟩
       .exact Av ⟨J,_,_,_,_,_,zr,k,by lia⟩
    case iafter=>
     rintro c Y ⟨J,r,j0,k0,l0,ca,cb,rfl,d⟩;cases r with
     | some r=>exact Av ⟨J,r,_,_,_,_,rfl,d⟩
     | none=>
      obtain⟨k,f0⟩:=d
      dsimp only
      refine Ap<|Ew<|eS ⟨zr,?_⟩;refine Ap (BA (Be (I:=λj c Z=>Gl st Z/\∃x y o g ca cb,c=(none,x,y,o,g,ca,cb)/\gi rk a b o x y/\x+y+i+2+j<=a.size+b.size)
       (Q:=λc Z=>Gl st Z/\∃r x y o g ca cb,c=(r,x,y,o,g,ca,cb)/\match r with
        | some r=>db rk a b r
        | none=>gi rk a b o x y/\x+y+i+2<=a.size+b.size) ?gturn ?glast ⟨J,j0,k0,l0,_,_,_,rfl,k,by lia⟩) ?gafter)
      case glast=>
       rintro c Z ⟨t,x,y,o,g,ca,cb,rfl,G,N⟩;have:=G.hx;have:=G.hy
       exfalso
       lia
      case gturn=>
       rintro j c Z _ N ⟨t,x,y,o,g,ca,cb,rfl,G,m0⟩;have go:∀D,wpS M A E s (uV a b ca cb D o x y) (oo rk a b st<|x+y - 1) Z:=λD=>Vg L X m t G (by lia);have v:=G.hx
       dsimp only
       by_cases b0:g > 1
       case' pos=>
        rw[Ah b0];refine BA (go<|g - 1) ?_
       case' neg=>
        rw[Ae b0];refine BA (go g) ?_
       all_goals
        intro r H0 q;obtain⟨T,q⟩:=q;cases r with
        | done U=>
         obtain⟨r,n0,o0,p0,D,q0,r0⟩:=U;rcases q with ⟨J0,e,q⟩ | ⟨e,q,W⟩
         .simp only at e;subst e;exact⟨T,_,_,_,_,_,_,_,zr,q⟩
         .simp only at e q W;subst e;exact⟨T,_,_,_,_,_,_,_,zr,q,by lia⟩
        | yield U=>
         obtain⟨r,n0,o0,p0,D,q0,r0⟩:=U;obtain⟨e,q,W⟩:=q;simp only at e q W;subst e;exact⟨T,_,_,_,_,_,_,zr,q,by lia⟩
      case gafter=>
       rintro c Z ⟨t,r,K0,L0,M0,N0,O0,P0,rfl,d⟩;cases r with
       | some r=>exact Av ⟨t,r,_,_,_,_,rfl,d⟩
       | none=>
        obtain⟨s0,m0⟩:=d
        dsimp only
        exact Ap<|B7<|Av ⟨t.set _,_,_,_,_,zr,s0,by lia⟩
def Tv{a:Type}{v:a}{Q:PUnit->a->Prop}{st:a}(h:Q ⟨⟩ v):wpS M A E s (set v:Cw a Sem PUnit) Q st:=by
 unfold wpS;rw[StateT.run_set];exact ah ⟨zr,h⟩
def ei(b:Nat)(l:Ab (At×Nat))(c:Am At):Am At:=l.foldl (λa q=>a.setIfInBounds (b+q.2) q.1) c
def SF(i:Nat):Ja i=(do
 let c <- get
 let (Aa (sa,na,pw),Aa (sb,nb,_)):=((AM c)[i]?,(AM c)[i+1]?) | Eb "internal:list.sort.pending"
 set (CI c<|((AM c).setIfInBounds i (sa,na+nb,pw)).eraseIdxIfInBounds<|i+1)
 let Aa k <- fU false (<- BN (Aq c) sb) (Aq c) sa na 0 | return false
 let (sa,na):=(sa+k,na - k)
 if na==0 then return true
 let Aa nb <- fU true (<- BN (Aq c) (sa+na - 1)) (Aq c) sb nb (nb - 1) | return false
 if nb==0 then return true
 let x:=(Aq c).extract sa sb
 let y:=(Aq c).extract sb (sb+nb)
 let r <- if na<=nb then uq x y else tz x y
 FU λc=>Eo c (ei sa r.toList.zipIdx<|Aq c)
 return (BM<|<- get).isNone):=rfl
theorem tR(a:Nat):∀(l:Ab At) (k:Nat) (xs:Am At),a+k+l.length<=xs.size->∀j,(ei a (l.zipIdx k) xs)[j]? =if a+k<=j/\j < a+k+l.length then l[j - (a+k)]? else xs[j]?
 | [],k,xs,_,j=>by
  rw[Ae<|by simp];rfl
 | p::r,k,xs,h,j=>by
  have d:a+k+(r.length+1)<=xs.size:=h;have c:=tR a r (k+1) (xs.setIfInBounds (a+k) p) (by rw[Ep];lia) j;rw[List.zipIdx_cons];show (ei a (r.zipIdx<|k+1)<|xs.setIfInBounds (a+k) p)[j]? =_;rw[c,bz];by_cases J:a+(k+1)<=j/\j < a+(k+1)+r.length
  .rw[Ah J,Ah (by lia),show j - (a+k)=j - (a+(k+1))+1 by lia,Ey]
  .rw[Ae J,Array.getElem?_setIfInBounds];by_cases b:a+k=j
   .rw[Ah b,Ah (by lia),Ah (by lia),show j - (a+k)=0 by lia];rfl
   .rw[Ae b,Ae<|by lia]
theorem XC(base:Nat)(l:Ab At)(a:Am At)(h:base+l.length<=a.size):(ei base l.zipIdx a).toList=a.toList.take base++l++a.toList.drop (base+l.length):=by
 apply nO
 intro j;have:=tR base l 0 a (by lia) j;rw[bG];rw[this];have b:(a.toList.take base).length=base:=by rw[bt,aI];lia
 by_cases c:j < base
 .rw[Ae (by lia),dk,Bo (by lia),Cy c,bG]
 .rw[dk,jg (by lia),b];by_cases d:j < base+l.length
  .rw[Ah (by lia),Bo<|by lia];rfl
  .rw[Ae (by lia),jg (by lia),DW,<- bG]
   congr 1
   lia
def bW(a:At->Int)(b:Am At):Nat->Ab (Nat×Nat×Nat)->Nat->Prop
 | u,[],v=>u=v
 | u,r::l,v=>r.1=u/\1<=r.2.1/\Up a b u (u+r.2.1)/\bW a b (u+r.2.1) l v
theorem bW.split:∀{O J:Ab (Nat×Nat×Nat)} {u v:Nat},bW rk xs u (O++J) v↔∃w,bW rk xs u O w/\bW rk xs w J v
 | [],J,u,v=>⟨λh=>⟨u,rfl,h⟩,λ⟨w,e,h⟩=>by cases e;exact h⟩
 | r::O,J,u,v=>by
  constructor
  .rintro ⟨a,b,c,d⟩;obtain⟨w,g,f⟩:=bW.split.mp d;exact⟨w,⟨a,b,c,g⟩,f⟩
  .rintro ⟨w,⟨a,b,c,d⟩,f⟩;exact⟨a,b,c,bW.split.mpr ⟨w,d,f⟩⟩
theorem bW.le:∀{l:Ab (Nat×Nat×Nat)} {u v:Nat},bW rk xs u l v->u+l.length<=v
 | [],u,v,h=>by cases h;simp
 | r::l,u,v,⟨_,b,_,d⟩=>by
  have:=bW.le d;rw[bz]
  lia
theorem Up.same(h:Up rk xs lo hi)(e:∀k,lo<=k->k < hi->ys[k]? =xs[k]?):Up rk ys lo hi:=λi j a b c=>by
 rw[iD (e i a<|by lia),iD<|e j (by lia) c];exact h i j a b c
theorem bW.same:∀{l:Ab (Nat×Nat×Nat)} {u v:Nat},bW rk xs u l v->(∀k,u<=k->k < v->ys[k]? =xs[k]?)->bW rk ys u l v
 | [],u,v,h,_=>h
 | r::l,u,v,⟨a,b,c,d⟩,e=>by
  have:=bW.le d;exact⟨a,b,c.same λk f g=>e k f (by lia),d.same λk f g=>e k (by lia) g⟩
theorem bW.pow:∀{l J:Ab (Nat×Nat×Nat)} {u v:Nat},bW rk xs u l v->J.map (λr=>(r.1,r.2.1))=l.map (λr=>(r.1,r.2.1))->bW rk xs u J v
 | [],J,u,v,h,e=>by
  have:J=[]:=by simpa using e
  subst this;exact h
 | r::l,J,u,v,⟨a,b,c,d⟩,e=>by
  cases J with
  | nil=>simp at e
  | cons j J=>
   simp only[au,oy,Prod.mk.injEq]at e;obtain⟨⟨g,f⟩,i⟩:=e;exact⟨g.trans a,by lia,by rw[f];exact c,by rw[f];exact d.pow i⟩
theorem Lq(d:j<=xs.size)(h:Up rk xs i j):bj rk (xs.extract i j).toList:=by
 unfold bj;rw[gA];intro p q a b f;have g:(xs.extract i j).toList.length=j - i:=by rw[aI,i_];lia
 have e:∀p (a:p < (xs.extract i j).toList.length),rk (xs.extract i j).toList[p]=kx rk xs (i+p):=λp a=>by
  refine(ez ?_).symm;have c:(xs.extract i j)[p]? =Aa (xs.extract i j).toList[p]:=by rw[<- bG,aH]
  rw[<- c,CV,Ah<|by lia]
 rw[e p a,e q b];exact h _ _ (by lia) (by lia) (by lia)
theorem ll(c:j<=xs.size)(h:p∈(xs.extract i j).toList):∃k,i<=k/\k < j/\xs[k]? =Aa p:=by
 obtain⟨q,a,e⟩:=iy.mp h;have d:(xs.extract i j).toList.length=j - i:=by rw[aI,i_];lia
 refine⟨i+q,by lia,by lia,?_⟩;have b:(xs.extract i j)[q]? =Aa p:=by rw[<- bG,aH a,e]
 rw[<- b,CV,Ah<|by lia]
theorem Nj(h:i+k < j)(a:j<=xs.size):(xs.extract i j)[k]? =xs[i+k]? :=by
 rw[CV,Ah<|by lia]
theorem Mv.wrote{a b:Nat}{r:Am At}(i:a<=m)(l:m<=b)(n:b<=(Aq st).size)(c:r.toList.Perm (((Aq st).extract a m).toList++((Aq st).extract m b).toList)):
  Mv a b st (Eo st<|ei a r.toList.zipIdx<|Aq st)/\(∀j,a<=j->j < b->∃p,(ei a r.toList.zipIdx<|Aq st)[j]? =Aa p/\p∈r.toList/\r.toList[j - a]? =Aa p):=by
 have d:r.toList.length=b - a:=by
  rw[c.length_eq,aX,aI,aI,i_,i_]
  lia
 have f:=XC a r.toList (Aq st) (by lia);have J:=tR a r.toList 0 (Aq st) (by lia);refine⟨⟨?_,λk o=>?_,zr,zr,zr⟩,λj q s=>?_⟩
 .rw[l_];show (ei a r.toList.zipIdx<|Aq st).toList.Perm (Aq st).toList;rw[f,d,show a+(b - a)=b by lia];have e:(Aq st).toList=(Aq st).toList.take a++(((Aq st).extract a m).toList++((Aq st).extract m b).toList)++(Aq st).toList.drop b:=by
   rw[jV,jV,jk,jk];have g:(Aq st).toList.drop a=((Aq st).toList.drop a).take (m - a)++(Aq st).toList.drop m:=by
    have:=oJ (Aq st).toList a<|m - a
    rwa [show a+(m - a)=m by lia]at this
   have h:(Aq st).toList.drop m=((Aq st).toList.drop m).take (b - m)++(Aq st).toList.drop b:=by
    have:=oJ (Aq st).toList m<|b - m
    rwa [show m+(b - m)=b by lia]at this
   rw[dk,dk,<- h,<- g,nT]
  refine GZ ?_<|Fb e.symm;exact(c.append_left _).append_right _
 .show (ei a r.toList.zipIdx<|Aq st)[k]? =_;rw[J k,Ae<|by lia]
 .have O:j - a < r.toList.length:=by lia
  refine⟨r.toList[j - a],?_,by simp,aH O⟩;rw[J j,Ah (by lia),Nat.add_zero,aH O]
structure xu (rk:At->Int) (lo hi:Nat) (p:Am (Nat×Nat×Nat)) (st st':AD):Prop where
 perm:(Aq st').Perm (Aq st)
 out:∀k,k < lo\/ hi<=k->(Aq st')[k]? =(Aq st)[k]?
 kind:kindOf st'=kindOf st
 failed:BM st'=BM st
 pend:AM st'=p
 up:Up rk (Aq st') lo hi
theorem KP(L:dB M A E s kd S rk)(B:eU kd S n st){d f G o f0:Nat}(g0:(AM st)[i]? =Aa (d,f,G))(h0:(AM st)[i+1]? =Aa (d+f,o,f0))(y0:1<=f)(z0:1<=o)(A0:d+f+o<=n)
  (C:Up rk (Aq st) d (d+f)) (x:Up rk (Aq st) (d+f) (d+f+o)) {Q:AJ->AD->Prop}
  (h:∀J,xu rk d (d+f+o) (((AM st).setIfInBounds i (d,f+o,G)).eraseIdxIfInBounds<|i+1) st J->Q true J):wpS M A E s (Ja i) Q st:=by
 rw[SF];refine Ap<|DJ ?_;rw[g0,h0]
 dsimp only
 refine Ap<|Tv ?_;have O:∀j,j < n->∃p,(Aq st)[j]? =Aa p/\S p:=λj D=>by
  obtain⟨p,a,b,_⟩:=B.at rk D;exact⟨p,a,b⟩
 have H0:=B.size;obtain⟨q,eq,i0⟩:=O (d+f) (by lia);have K:kx rk (Aq st) (d+f)=rk q:=ez eq;refine Ap<|cO eq ?_;refine Ap (kr L B.kind i0 (λj D=>O (d+j)<|by lia) C (by lia) λk J0 j0 k0=>?_)
 dsimp only
 have W:∀j,d<=j->j < d+k->kx rk (Aq st) j<=kx rk (Aq st) (d+f):=λj a b=>by
  have:=j0 (j - d) (by lia);rw[show d+(j - d)=j by lia]at this;simp[aV]at this
  rw[K];exact this
 have X:∀j,d+k<=j->j < d+f->kx rk (Aq st) (d+f) < kx rk (Aq st) j:=λj a b=>by
  have:=k0 (j - d) (by lia) (by lia);rw[show d+(j - d)=j by lia]at this;simp[aV]at this
  rw[K]
  lia
 have Y:kx rk (Aq st) (d+f - 1)<=kx rk (Aq st) (d+f)->Up rk (Aq st) d (d+f+o):=λK0 i j a b c=>by
  by_cases H:j < d+f
  .exact C i j a b H
  .by_cases I:d+f<=i
   .exact x i j I b c
   .have h1:=C i (d+f - 1) a (by lia) (by lia);have t:=x (d+f) j (aj _) (by lia) c
    lia
 by_cases a0:f - k=0
 .rw[Ah<|by simpa using a0];exact Av<|h _ ⟨DA _,λ_ _=>rfl,zr,zr,zr,Y (W _ (by lia)<|by lia)⟩
 .rw[Ae<|by simpa using a0];have l0:d+k+(f - k) - 1=d+f - 1:=by lia
  rw[l0];obtain⟨z,N,m0⟩:=O (d+f - 1) (by lia);have P:kx rk (Aq st) (d+f - 1)=rk z:=ez N;refine Ap<|cO N ?_;refine Ap (kr L B.kind m0 (λj D=>O (d+f+j)<|by lia) x (by lia) λl L0 n0 o0=>?_)
  dsimp only
  have b0:∀j,d+f<=j->j < d+f+l->kx rk (Aq st) j < kx rk (Aq st) (d+f - 1):=λj a b=>by
   have:=n0 (j - (d+f)) (by lia);rw[show d+f+(j - (d+f))=j by lia]at this;simp[aV]at this
   rw[P];exact this
  have Z:∀j,d+f+l<=j->j < d+f+o->kx rk (Aq st) (d+f - 1)<=kx rk (Aq st) j:=λj a b=>by
   have:=o0 (j - (d+f)) (by lia) (by lia);rw[show d+f+(j - (d+f))=j by lia]at this;simp[aV]at this
   rw[P]
   lia
  by_cases H:l=0
  .rw[Ah<|by simpa using H];exact Av<|h _ ⟨DA _,λ_ _=>rfl,zr,zr,zr,Y (Z _ (by lia)<|by lia)⟩
  .rw[Ae<|by simpa using H];have m:Mg S rk ((Aq st).extract (d+k)<|d+f) ((Aq st).extract (d+f)<|d+f+l):=by
    refine⟨λp g=>?_,λp g=>?_,Lq (by lia) λi j a b c=>C i j (by lia) b c,Lq (by lia) λi j a b c=>x i j a b (by lia),by rw[i_];lia,by rw[i_];lia,⟨z,?_,λp g=>?_⟩,⟨q,?_,λp g=>?_⟩⟩
    .obtain⟨j,h1,t,e⟩:=ll (by lia) g;obtain⟨c0,u,R⟩:=O j (by lia);rw[e]at u;cases u
     exact R
    .obtain⟨j,h1,t,e⟩:=ll (by lia) g;obtain⟨c0,u,R⟩:=O j (by lia);rw[e]at u;cases u
     exact R
    .rw[i_,Nj (by lia) (by lia),<- N]
     congr 1
     lia
    .obtain⟨j,h1,t,e⟩:=ll (by lia) g;have:=b0 j h1 t
     rwa [P,ez e]at this
    .rw[Nj (by lia) (by lia),<- eq];rfl
    .obtain⟨j,h1,t,e⟩:=ll (by lia) g;have:=X j h1 t
     rwa [K,ez e]at this
   have fin:∀(r:Am At) (J:AD),Gl (CI st<|((AM st).setIfInBounds i (d,f+o,G)).eraseIdxIfInBounds<|i+1) J->db rk ((Aq st).extract (d+k)<|d+f) ((Aq st).extract (d+f)<|d+f+l) r->
     wpS M A E s ((FU λc=>Eo c (ei (d+k) r.toList.zipIdx<|Aq c):Cw AD Sem PUnit) >>=λ_=>get >>=λc=>AX (BM c).isNone) Q J:=by
    intro r J w y;have p0:Aq J=Aq st:=w.arr;refine Ap<|B7<|Ap<|DJ<|Av ?_;have q0:BM J=none:=w.failed.trans B.failed;show Q (BM J).isNone _;rw[q0];have r0:=Mv.wrote (st:=st) (a:=d+k) (m:=d+f) (b:=d+f+l) (r:=r) (by lia) (by lia) (by lia) y.1;obtain⟨v,T⟩:=r0;have s0:=gA.mp y.2;have d0:∀j,d+k<=j->j < d+f+l->kx rk (Aq st) (d+f)<=kx rk (ei (d+k) r.toList.zipIdx<|Aq st) j/\kx rk (ei (d+k) r.toList.zipIdx<|Aq st) j<=kx rk (Aq st) (d+f - 1):=λj a b=>by
     obtain⟨p,e,g,_⟩:=T j a b;rw[ez e];rcases aF.mp (y.1.mem_iff.mp g) with g | g
     .obtain⟨j',h1,t,u⟩:=ll (by lia) g;rw[<- ez (rk:=rk) u];exact⟨hK<|X j' h1 t,C j' (d+f - 1) (by lia) (by lia)<|by lia⟩
     .obtain⟨j',h1,t,u⟩:=ll (by lia) g;rw[<- ez (rk:=rk) u];exact⟨x _ j' (aj _) h1 (by lia),hK<|b0 j' h1 t⟩
    have F:∀j,j < d+k\/ d+f+l<=j->kx rk (ei (d+k) r.toList.zipIdx<|Aq st) j=kx rk (Aq st) j:=λj D=>iD<|v.out j D;rw[show (Eo J<|ei (d+k) r.toList.zipIdx<|Aq J)=Eo J (ei (d+k) r.toList.zipIdx<|Aq st) by rw[p0]];refine h _ ⟨v.perm,λj D=>v.out j (by lia),w.kind,w.failed,w.pend,λi j a b c=>?_⟩;show kx rk (ei (d+k) r.toList.zipIdx<|Aq st) i<=kx rk (ei (d+k) r.toList.zipIdx<|Aq st) j;by_cases e0:i < d+k
    .rw[F i<|.inl e0];have M0:=W i a e0;by_cases t0:j < d+k
     .rw[F j<|.inl t0];exact C i j a b (by lia)
     .by_cases j2:j < d+f+l
      .have:=(d0 j (by lia) j2).1
       lia
      .rw[F j (.inr<|by lia)];have:=x (d+f) j (aj _) (by lia) c
       lia
    .by_cases i2:i < d+f+l
     .by_cases j2:j < d+f+l
      .obtain⟨p,ep,_,gp⟩:=T i (by lia) i2;obtain⟨c0,u0,_,U⟩:=T j (by lia) j2;rw[ez ep,ez u0];obtain⟨l1,v0⟩:=bR.mp gp;obtain⟨l2,w0⟩:=bR.mp U;rcases EO i j with x0 | x0
       .have:=s0 (i - (d+k)) (j - (d+k)) l1 l2 (by lia)
        rwa [v0,w0]at this
       .have a7:i=j:=by lia
        subst a7;rw[gp]at U;cases U
        exact ik _
      .rw[F j (.inr<|by lia)];have h1:=(d0 i (by lia) i2).2;have t:=Z j (by lia) c
       lia
     .rw[F i (.inr<|by lia),F j (.inr<|by lia)];exact x i j (by lia) b c
   by_cases I:f - k<=l
   .rw[Ah I];exact Ap (Tx (st:=CI st<|((AM st).setIfInBounds i (d,f+o,G)).eraseIdxIfInBounds<|i+1) L B.kind m λr J w y=>fin r J w y)
   .rw[Ae I];exact Ap (Pb (st:=CI st<|((AM st).setIfInBounds i (d,f+o,G)).eraseIdxIfInBounds<|i+1) L B.kind m λr J w y=>fin r J w y)
variable{p:Am (Nat×Nat×Nat)}
theorem Nm{J O:Ab (Nat×Nat×Nat)}{a b r:Nat×Nat×Nat}(h:p.toList=J++a::b::O)(c:J.length=i):
  ((p.setIfInBounds i r).eraseIdxIfInBounds<|i+1).toList=J++r::O:=by
 have d:i+1 < (p.setIfInBounds i r).size:=by
  rw[Ep,<- aI,h];simp
  lia
 rw[Array.eraseIdxIfInBounds,dif_pos d,Array.toList_eraseIdx,Array.toList_setIfInBounds,h,<- c,List.set_append_right _ _<|aj _,ER,List.set_cons_zero,
  List.eraseIdx_append_of_length_le<|by lia]
 congr 1
 rw[show J.length+1 - J.length=1 by lia];rfl
variable{α:Type}
theorem Vw{l:Ab α}(h:i+1 < l.length):∃J a b l2,l=J++a::b::l2/\J.length=i:=by
 refine⟨l.take i,l[i],l[i+1],l.drop<|i+2,?_,by rw[bt];lia⟩;rw[<- jh h,<- jh (by lia),nT]
structure Sr (rk:At->Int) (kd:Bu) (S:At->Prop) (n:Nat) (st:AD) (lo:Nat) (st':AD):Prop where
 perm:(Aq st').Perm (Aq st)
 sane:eU kd S n st'
 runs:bW rk (Aq st') 0 (AM st').toList lo
theorem Sr.merge(h:Sr rk kd S n st lo J)(z:i+1 < (AM J).size):
  ∃a b o c A,(AM J)[i]? =Aa (a,b,o)/\(AM J)[i+1]? =Aa (a+b,c,A)/\1<=b/\1<=c/\a+b+c<=lo/\Up rk (Aq J) a (a+b)/\Up rk (Aq J) (a+b) (a+b+c)/\
   ∀O,xu rk a (a+b+c) (((AM J).setIfInBounds i (a,b+c,o)).eraseIdxIfInBounds<|i+1) J O->
    Sr rk kd S n st lo O/\(AM O).size+1=(AM J).size/\∀k,lo<=k->(Aq O)[k]? =(Aq J)[k]? :=by
 obtain⟨l1,⟨Y,Z,q⟩,⟨F,d,r⟩,l2,e,g⟩:=Vw (l:=(AM J).toList) (i:=i) (by rw[aI];exact z);have R:=h.runs;rw[e]at R;obtain⟨w,B,R2⟩:=bW.split.mp R;obtain⟨s,t,u,v,x,y,j⟩:=R2;simp only at s t u v x y j;subst s v;have le:=bW.le j;have C:(AM J)[i]? =Aa (Y,Z,q):=by
  rw[<- bG,e,jg (by lia),<- g,ER];rfl
 have D:(AM J)[i+1]? =Aa (Y+Z,d,r):=by
  rw[<- bG,e,jg (by lia),show i+1 - l1.length=1 by lia];rfl
 refine⟨Y,Z,q,d,r,C,D,t,x,by lia,u,y,λO m=>⟨⟨m.perm.trans h.perm,?_,?_⟩,?_,λk f=>m.out k<|by lia⟩⟩
 .exact⟨m.perm.size_eq.trans h.sane.size,λp E=>h.sane.all p<|(l_.mp m.perm).mem_iff.mp E,m.kind.trans h.sane.kind,m.failed.trans h.sane.failed⟩
 .rw[m.pend,Nm e g];refine bW.split.mpr ⟨Y,B.same λk _ f=>m.out k<|.inl f,rfl,by show 1<=Z+d;lia,?_,?_⟩
  .show Up rk (Aq O) Y<|Y+(Z+d);rw[<- Cd];exact m.up
  .show bW rk (Aq O) (Y+(Z+d)) l2 lo;rw[<- Cd];exact j.same λk f _=>m.out k<|.inr f
 .rw[m.pend,<- aI,Nm e g,<- aI,e];simp
  lia
def Sr.mv(h:Sr rk kd S n st lo J)(v:Mv lo hi J O):Sr rk kd S n st lo O:=
 ⟨v.perm.trans h.perm,v.sane h.sane,by rw[v.pend];exact h.runs.same λk _ a=>v.out k<|.inl a⟩
def Sr.setP(h:Sr rk kd S n st lo J)(r:bW rk (Aq J) 0 p.toList hi):Sr rk kd S n st hi (CI J p):=
 ⟨h.perm,⟨h.sane.size,h.sane.all,h.sane.kind,h.sane.failed⟩,r⟩
def UL(p:Am (Nat×Nat×Nat))(a:Nat):(p.modify (p.size - 1) λ(x:Nat×Nat×Nat)=>(x.1,x.2.1,a)).toList.map (λr=>(r.1,r.2.1))=p.toList.map (λr=>(r.1,r.2.1)):=by
 apply nO
 intro j;rw[bF,bF,bG,bG,Array.getElem?_modify];split
 .cases p[j]? <;> rfl
 .rfl
theorem Mi(L:dB M A E s kd S rk)(B:eU kd S n st)(v0:2<=n)(d0:AM st=#[]){Q:Ge->AD->Prop}
  (h:∀Y,(Aq Y).Perm (Aq st)->BM Y=none->Up rk (Aq Y) 0 n->Q () Y):wpS M A E s sortRuns' Q st:=by
 rw[sortRuns'_eq];refine Ap<|DJ ?_
 dsimp only
 simp only[B.size];have start:Sr rk kd S n st 0 st:=⟨DA _,B,by rw[d0];rfl⟩;refine Ap (BA (Be (I:=λx c Y=>∃lo,c=(none,lo)/\Sr rk kd S n st lo Y/\lo<=n/\min x n<=lo)
  (Q:=λc Y=>c=(none,n)/\Sr rk kd S n st n Y) ?turn ?last ⟨0,rfl,start,by lia,by lia⟩) ?after)
 case last=>
  rintro c Y ⟨lo,rfl,R,w0,x0⟩;have e:lo=n:=by lia
  subst e;exact⟨zr,R⟩
 case turn=>
  rintro x c Y _ y0 ⟨lo,rfl,R,z0,A0⟩
  dsimp only
  by_cases T:lo >=n
  .rw[Ah T];have e:lo=n:=by lia
   subst e;exact Av ⟨zr,R⟩
  rw[Ae T];refine Ap (YM L R.sane (by lia) (by lia) λk e0 f0 g0 h0 U=>?_);have R2:=R.mv f0
  dsimp only
  by_cases g:k < IG n n 0
  case' pos=>
   rw[Ah g];refine Ap<|Ew<|eS ⟨zr,?_⟩;refine Ap (UV L R2.sane (by lia) (by lia) U λo W y=>?_);have t:=R2.mv W;simp only[Do,bL,AZ];have X:1<=min (n - lo) (IG n n 0):=by lia
   have i0:min (n - lo) (IG n n 0)<=n - lo:=by lia
   clear g W;generalize min (n - lo) (IG n n 0)=m at*
  case' neg=>
   rw[Ae g];have t:=R2;have y:=U;have X:=g0;have i0:=h0;clear g;generalize e0=o at*;generalize k=m at*
  all_goals
   refine Ap<|DJ ?_;have fin:∀(O:AD) (p:Am (Nat×Nat×Nat)),Sr rk kd S n st lo O->Up rk (Aq O) lo (lo+m)->bW rk (Aq O) 0 p.toList lo->
     Sr rk kd S n st (lo+m) (CI (CI O p)<|(AM<|CI O p).push (lo,m,0)):=λO p a j0 a0=>by
    refine(a.setP a0).setP ?_;show bW rk (Aq O) 0 (p.push (lo,m,0)).toList<|lo+m;rw[mP];exact bW.split.mpr ⟨lo,a0,zr,X,j0,zr⟩
   cases H0:(AM o).back? with
   | none=>
    dsimp only
    exact Ap<|B7<|Av ⟨lo+m,zr,fin o (AM o) t y t.runs,by lia,by lia⟩
   | some q=>
    obtain⟨J0,K0,L0⟩:=q
    dsimp only
    refine Ap (BA (Be (I:=λ_ c J=>c=(none,())/\Sr rk kd S n st lo J/\Up rk (Aq J) lo (lo+m))
     (Q:=λc J=>c=(none,())/\Sr rk kd S n st lo J/\Up rk (Aq J) lo (lo+m)) ?mturn (λ_ _ z=>z) ⟨rfl,t,y⟩) ?mafter)
    case mturn=>
     rintro j c J _ k0 ⟨rfl,Z,f⟩;refine Ap<|DJ ?_;by_cases d:(AM J).size > 1
     .obtain⟨l0,m0,n0,o0,p0,v,C,D,F,q0,G,H,K⟩:=Z.merge (i:=(AM J).size - 2) (by lia);rw[Ah d,v]
      dsimp only
      split
      .exact Av ⟨zr,Z,f⟩
      .refine Ap (KP L Z.sane v C D F (by lia) G H λO N=>?_);obtain⟨a,_,r0⟩:=K O N;simp only[Do,bL,AZ];exact Av ⟨zr,a,f.same λk s0 _=>r0 k s0⟩
     .rw[Ae d];exact Av ⟨zr,Z,f⟩
    case mafter=>
     rintro c J ⟨rfl,Z,f⟩
     dsimp only
     refine Ap<|B7<|Ap<|B7<|Av ⟨lo+m,zr,?_,by lia,by lia⟩;exact fin J _ Z f (Z.runs.pow<|UL _ _)
 case after=>
  rintro c Y ⟨rfl,R⟩
  dsimp only
  refine Ap (BA (Be (I:=λx c J=>c=(none,())/\Sr rk kd S n st n J/\(AM J).size<=max 1 (n - x))
   (Q:=λc J=>c=(none,())/\Sr rk kd S n st n J/\(AM J).size<=1) ?fturn ?flast ⟨rfl,R,?ffirst⟩) ?fafter)
  case ffirst=>
   have:=bW.le R.runs;rw[aI]at this
   lia
  case flast=>
   rintro c J ⟨t0,Z,P⟩;exact⟨t0,Z,by lia⟩
  case fturn=>
   rintro j c J _ k0 ⟨rfl,Z,P⟩;refine Ap<|DJ ?_;by_cases d:(AM J).size<=1
   .rw[Ah d];exact Av ⟨zr,Z,d⟩
   .rw[Ae d];have go:∀i,i+1 < (AM J).size->wpS M A E s (Ja i) (λb O=>b=true/\Sr rk kd S n st n O/\(AM O).size<=max 1 (n - (j+1))) J:=λi hi=>by
     obtain⟨l0,m0,n0,o0,p0,v,C,D,F,q0,G,H,K⟩:=Z.merge hi;refine KP L Z.sane v C D F (by lia) G H λO N=>?_;obtain⟨a,b0,_⟩:=K O N;exact⟨zr,a,by lia⟩
    refine Ap<|BA (go _ ?_) ?_
    .repeat' split
     all_goals lia
    .rintro b O ⟨rfl,a,b0⟩;simp only[Do,bL,AZ];exact Av ⟨zr,a,b0⟩
  case fafter=>
   rintro c J ⟨rfl,Z,P⟩;refine Av<|h J Z.perm Z.sane.failed ?_;have w:=Z.runs;have c0:(AM J).toList.length<=1:=by rw[aI];exact P
   cases e:(AM J).toList with
   | nil=>
    rw[e]at w;have:0=n:=w
    lia
   | cons r l=>
    rw[e]at w c0;have:l=[]:=by simpa using c0
    subst this;obtain⟨_,_,u,z⟩:=w;have u0:0+r.2.1=n:=z
    rwa [u0]at u
def uu(a:Ai)(w:Al)(A:As)(s:Af)(b:Bu)(x y:Ad)(r:AJ):Prop:=
 ∀(E:xB) (Q:AJ->Af->Prop),Q r s->Ak (Ao a w) A (keyLt' b x y) Q E s
variable{prog:Ai}{w:Al}
def Lb(h:∀x y,S x->S y->uu prog w A s kd x.1 y.1 (decide (rk x < rk y))):
  dB (Ao prog w) A E s kd S rk:=by
 intro x y st Q a b c q;rw[lt'_eq];refine Ap<|DJ ?_;rw[c];refine Ap<|Ew<|jT<|h x y a b _ _ ⟨zr,?_⟩;exact Av q
theorem rd{p q:α->AJ}:∀(l:Ab α),(∀z∈l,p z=true->q z=true)->(l.filter p).length<=(l.filter q).length
 | [],_=>aj _
 | z::l,h=>by
  have a:=rd (p:=p) (q:=q) l λy b=>h y<|bb _ b;rw[jo,jo];cases e:p z with
  | true=>
   rw[h z (be ..) e];simp only[Bz,bz]
   lia
  | false=>
   cases q z with
   | true=>simp only[bL,AZ,Bz,bz];lia
   | false=>simpa using a
theorem xb{p q:α->AJ}{y:α}:∀(l:Ab α),(∀z∈l,p z=true->q z=true)->y∈l->p y=false->q y=true->(l.filter p).length < (l.filter q).length
 | [],_,a,_,_=>nomatch a
 | z::l,h,a,b,c=>by
  have d:∀w∈l,p w=true->q w=true:=λw f=>h w<|bb _ f;rw[jo,jo];rcases aA.mp a with rfl | a
  .rw[b,c];have:=rd l d;simp only[bL,AZ,Bz,bz]
   lia
  .have ih:=xb l d a b c;cases e:p z with
   | true=>
    rw[h z (be ..) e];simp only[Bz,bz]
    lia
   | false=>
    cases q z with
    | true=>simp only[bL,AZ,Bz,bz];lia
    | false=>simpa using ih
def jC(lt:α->α->AJ)(l:Ab α)(x:α):Int:=((l.filter λy=>lt y x).length:Nat)
theorem zM{lt:α->α->AJ}{l:Ab α}(d:∀x∈l,lt x x=false)(f:∀x∈l,∀y∈l,∀z∈l,lt x y=true->lt y z=true->lt x z=true)
  (g:∀x∈l,∀y∈l,∀z∈l,lt x z=true->lt x y=true\/ lt y z=true) {x y:α} (a:x∈l) (c:y∈l):lt x y=decide (jC lt l x < jC lt l y):=by
 unfold jC;cases e:lt x y with
 | true=>
  have:=xb (p:=λz=>lt z x) (q:=λz=>lt z y) l (λz b h=>f z b x a y c h e) a (d x a) e;exact(aS<|by lia).symm
 | false=>
  have:=rd (p:=λz=>lt z y) (q:=λz=>lt z x) l λz b h=>(g z b x a y c h).resolve_right (by rw[e];exact aY);exact(aN<|by lia).symm
structure oF (rk:Ad->Int) (vs out:xH):Prop where
 perm:out.Perm vs
 asc:out.Pairwise λx y=>rk x<=rk y
variable{rk:Ad->Int}{vs:xH}
theorem TR(a:xs.Perm (IH vs))(c:Up (λp=>rk p.1) xs 0 vs.length):oF rk vs (xs.map (·.2)).toList:=by
 have b:xs.toList.Perm (vs.zip vs):=by
  rw[<- tm];exact l_.mp a
 have e:xs.size=vs.length:=by
  rw[a.size_eq,II]
 have same:∀p,p∈xs.toList->p.1=p.2:=λp h=>(IJ<|b.mem_iff.mp h).1;refine⟨?_,?_⟩
 .rw[B1];have:=b.map Prod.snd
  rwa [Dc<|aj _]at this
 .rw[B1,gA];intro i j hi d Y;rw[Dd,Dd];have O:i < xs.toList.length:=by simpa using hi
  have J:j < xs.toList.length:=by simpa using d
  have:=c i j (ba _) (c_ Y) (by rw[aI]at J;lia);rw[fg xs i<|aH O,fg xs j<|aH J]at this;rw[<- same _ (iK O),<- same _ (iK J)];exact this
def Lh(e:Ai)(w:Al)(A:As)(s:Af)(a:Ac)(c:xH)(f:Ad->Int):Prop:=2<=c.length->∀d:Af,(∀b o,b≠a->s.heap.get? b=Aa o->d.heap.get? b=Aa o)->
 ∃kd:Bu,(∀(E:xB) (Q:Bu->Af->Prop),Q kd d->Ak (Ao e w) A (Ho c.toArray) Q E d)/\∀x∈c,∀y∈c,uu e w A d kd x y (decide (f x < f y))
theorem Oh{a:Ac}{P:PySem.Fin->Af->Prop}(d:s.heap.get? a=Aa (AG "list" vs.toArray n))(r:vs.length<=sizeLine)(t:Lh prog w A s a vs rk)
  (h:∀g:Am Ad,oF rk vs g.toList->P (.done<|.ret .none) {s with heap:=sortedHeap s.heap a vs g}):Ak (Ao prog w) A (Bl.«list.sort» ⟨[.ref a],[]⟩) P E s:=by
 rw[list_sort_plain];have M:a < s.heap.objs.size:=aC d;have i:vs.toArray.size=vs.length:=aP;refine ac<|Cq d rfl<|ac<|BY d rfl ?_ (by rw[i];exact r)<|ba _;obtain⟨j,Z⟩:∃j,(s.heap.update a<|AF λ_=>#[]).get? a=Aa (AG "list" #[] j):=⟨_,By d λ_=>#[]⟩;refine ac<|Ed Z rfl<|ac<|Hq<|ac<|Cz<|dG ?_;have u:=cT s.heap a (AF λ_=>(#[]:Am Ad));have k:∀b o,(s.heap.update a<|AF λ_=>#[]).get? b=Aa o->(((s.heap.update a<|AF λ_=>#[]).push<|AG "tuple" vs.toArray 0).push<|AG "list" #[] 0).get? b=Aa o:=
  λb o e=>aw _<|aw _ e
 have O:=k a _ Z;have Y:∀b o,b≠a->s.heap.get? b=Aa o->(((s.heap.update a<|AF λ_=>#[]).push<|AG "tuple" vs.toArray 0).push<|AG "list" #[] 0).get? b=Aa o:=
  λb o v e=>k b o<|(u.2 b v).trans e
 show Ak (Ao prog w) A _ P E {s with heap:=((s.heap.update a<|AF λ_=>#[]).push<|AG "tuple" vs.toArray 0).push<|AG "list" #[] 0}
 dsimp only
 by_cases c:vs.toArray.size < 2
 .rw[Ah c,Ah c];refine ac<|ah ?_;rw[G8];refine ac<|ah ?_
  dsimp only
  have l:((vs.toArray.zip vs.toArray).map (·.2)).toList=vs:=by
   rw[B1];show (IH vs).toList.map _=_;rw[tm,Dc<|aj _]
  refine ac<|Ed O rfl<|ac<|BY O rfl ?_ (ba _) (by rw[<- aI,l];lia);simp only[Ee,bL,AZ];refine ah<|h _ ?_;rw[l];refine⟨Hr _,?_⟩;rw[i]at c
  match vs,c with
  | [],_=>exact .nil
  | [_],_=>exact iL ..
 .rw[Ae c,Ae c];obtain⟨kd,z,B⟩:=t (by lia) {s with heap:=((s.heap.update a<|AF λ_=>#[]).push<|AG "tuple" vs.toArray 0).push<|AG "list" #[] 0} Y;refine ac<|z _ _ ?_;have C:∀p∈(vs.toArray.zip vs.toArray).toList,p.1∈vs:=λp f=>by
   have m:p∈(IH vs).toList:=f;rw[tm]at m;exact(IJ m).2
  refine ac (bK (Mi (S:=λp=>p.1∈vs) (rk:=λp=>rk p.1) (n:=vs.length) (st:=FT kd (vs.toArray.zip vs.toArray) #[] 7 none)
   (Q:=λ_ J=>(Aq J).Perm (IH vs)/\BM J=none/\Up (λp=>rk p.1) (Aq J) 0 vs.length)
   (Lb λx y D F=>B x.1 D y.1 F) ⟨II vs,C,rfl,rfl⟩ (by lia) rfl λJ G H I=>⟨G,H,I⟩) ?_ λ_ _ e=>e)
  rintro ⟨⟨⟩,J⟩ N ⟨rfl,f,K,L⟩
  dsimp only
  have q:=TR f L;refine ac<|Ed O rfl<|ac<|BY O rfl ?_ (ba _) (by rw[<- aI,q.perm.length_eq];lia);rw[K];simp only[Ee,bL,AZ];exact ah<|h _ q
end Tim
open Tim renaming jC->Kg,oF->Ki,Lh->Kr,uu->Ku,Oh->Ky,fg->Kz
namespace Tim
structure dC {α:Type} (lt:α->α->AJ):Prop where
 irr:∀a,lt a a=false
 tr:∀a b c,lt a b=true->lt b c=true->lt a c=true
 tri:∀a b,lt a b=false->lt b a=false->a=b
variable{α:Type}{lt:α->α->AJ}
def dC.asym(h:dC lt){a b:α}(x:lt a b=true):lt b a=false:=by
 cases e:lt b a with
 | false=>rfl
 | true=>
  have:=h.tr a b a x e;rw[h.irr]at this;cases this
def dC.nt(h:dC lt){a c:α}(b:α)(x:lt a c=true):lt a b=true\/ lt b c=true:=by
 cases e:lt a b with
 | true=>exact .inl rfl
 | false=>
  cases f:lt b a with
  | true=>exact .inr<|h.tr b a c f x
  | false=>
   have:=h.tri a b e f;subst this;exact .inr x
variable{β:Type}
def dC.map(h:dC lt)(f:β->α)(d:∀a b,f a=f b->a=b):dC λa b=>lt (f a) (f b):=
 ⟨λa=>h.irr _,λa b c=>h.tr _ _ _,λa b x y=>d a b<|h.tri _ _ x y⟩
def gV[Bh α](lt:α->α->AJ):Ab α->Ab α->AJ
 | [],[]=>false
 | [],_::_=>true
 | _::_,[]=>false
 | a::c,b::d=>if a=b then gV lt c d else lt a b
def dC.lex[Bh α](h:dC lt):dC (gV lt):=by
 refine⟨λa=>?_,λa=>?_,λa=>?_⟩
 .induction a with
  | nil=>rfl
  | cons x a Y=>rw[gV,Ah rfl];exact Y
 .induction a with
  | nil=>
   intro b c f d;cases c with
   | nil=>cases b with
    | nil=>exact f
    | cons y b=>cases d
   | cons z c=>rfl
  | cons x a Y=>
   intro b c f d;cases b with
   | nil=>cases f
   | cons y b=>
    cases c with
    | nil=>cases d
    | cons z c=>
     rw[gV]at f d ⊢;by_cases J:x=y
     .subst J;rw[Ah rfl]at f;by_cases Z:x=z
      .subst Z;rw[Ah rfl]at d ⊢;exact Y b c f d
      .rw[Ae Z]at d ⊢;exact d
     .rw[Ae J]at f;by_cases g:y=z
      .subst g;rw[Ae J];exact f
      .rw[Ae g]at d;have O:=h.tr x y z f d;have:¬ x=z:=λe=>by
        subst e;rw[h.irr]at O;cases O
       rw[Ae this];exact O
 .induction a with
  | nil=>
   intro b f d;cases b with
   | nil=>rfl
   | cons y b=>cases f
  | cons x a Y=>
   intro b f d;cases b with
   | nil=>cases d
   | cons y b=>
    rw[gV]at f d;by_cases J:x=y
    .subst J;rw[Ah rfl]at f d;rw[Y b f d]
    .rw[Ae J]at f;rw[Ae<|Bi J]at d;exact Au (h.tri x y f d) J
theorem Xt:dC (λa b:Nat=>decide (a < b)):=
 ⟨λa=>by simp,λa b c d e=>by simp at*;lia,λa b d e=>by simp at*;lia⟩
theorem ul:dC (λa b:Int=>decide (a < b)):=
 ⟨λa=>by simp,λa b c d e=>by simp at*;lia,λa b d e=>by simp at*;lia⟩
theorem wQ:∀(a b:Ab Nat),decide (a < b)=gV (λx y:Nat=>decide (x < y)) a b
 | [],[]=>rfl
 | [],_::_=>by simp[gV]
 | _::_,[]=>by simp[gV]
 | x::a,y::b=>by
  rw[gV,<- wQ a b];by_cases e:x=y
  .subst e;rw[Ah rfl];simp
  .rw[Ae e];have:(x::a < y::b)↔x < y:=by
    rw[List.cons_lt_cons_iff]
    constructor
    .rintro (h | h)
     .exact h
     .exact Au h.1 e
    .exact .inl
   simp[this]
theorem dC.uniq{lt:α->α->AJ}(h:dC lt):∀{a b:Ab α},a.Perm b->a.Pairwise (λx y=>lt y x=false)->b.Pairwise (λx y=>lt y x=false)->a=b
 | [],b,p,_,_=>(List.nil_perm.mp p).symm ▸ rfl
 | x::a,[],p,_,_=>by have:=p.length_eq;simp at this
 | x::a,y::b,p,f,g=>by
  obtain⟨J,O⟩:=eC.mp f;obtain⟨Y,Z⟩:=eC.mp g;have e:x=y:=by
   have c:x∈y::b:=p.mem_iff.mp (be ..);have d:y∈x::a:=p.mem_iff.mpr (be ..);rcases aA.mp c with e | c
   .exact e
   .rcases aA.mp d with e | d
    .exact e.symm
    .exact h.tri x y (Y x c)<|J y d
  subst e;rw[h.uniq (List.Perm.cons_inv p) O Z]
end Tim
open Tim renaming dC->Kc,gV->Kf
inductive ie {a b:Type} (p:a->b->Prop):Prop
 | mk:∀c d,p c d->ie p
inductive hI {a b c:Type} (p:a->b->c->Prop):Prop
 | mk:∀d e f,p d e f->hI p
inductive Mz {a b c d:Type} (p:a->b->c->d->Prop):Prop
 | mk:∀e f g h,p e f g h->Mz p
inductive vT {a b c d e:Type} (p:a->b->c->d->e->Prop):Prop
 | mk:∀f g h i j,p f g h i j->vT p
inductive Tj {a b c d e f:Type} (p:a->b->c->d->e->f->Prop):Prop
 | mk:∀g h i j k l,p g h i j k l->Tj p
inductive yN {a b c d e f g:Type} (p:a->b->c->d->e->f->g->Prop):Prop
 | mk:∀h i j k l m n,p h i j k l m n->yN p
inductive yz {a b c d e f g h:Type} (p:a->b->c->d->e->f->g->h->Prop):Prop
 | mk:∀i j k l m n o q,p i j k l m n o q->yz p
inductive Uw {a b c d e f g h i:Type} (p:a->b->c->d->e->f->g->h->i->Prop):Prop
 | mk:∀j k l m n o q r s,p j k l m n o q r s->Uw p
inductive YS {a b c d e f g h i j:Type} (p:a->b->c->d->e->f->g->h->i->j->Prop):Prop
 | mk:∀k l m n o q r s t u,p k l m n o q r s t u->YS p
inductive Ux {a b c d e f g h i j k:Type} (p:a->b->c->d->e->f->g->h->i->j->k->Prop):Prop
 | mk:∀l m n o q r s t u v w,p l m n o q r s t u v w->Ux p
inductive Pq {a b c d e f g h i j k l:Type} (p:a->b->c->d->e->f->g->h->i->j->k->l->Prop):Prop
 | mk:∀m n o q r s t u v w x y,p m n o q r s t u v w x y->Pq p
inductive Xo {a b c d e f g h i j k l m:Type} (p:a->b->c->d->e->f->g->h->i->j->k->l->m->Prop):Prop
 | mk:∀n o q r s t u v w x y z A,p n o q r s t u v w x y z A->Xo p
inductive zZ {a b c d e f g h i j k l m n:Type} (p:a->b->c->d->e->f->g->h->i->j->k->l->m->n->Prop):Prop
 | mk:∀o q r s t u v w x y z A B C,p o q r s t u v w x y z A B C->zZ p
inductive Qd {a b c d e f g h i j k l m n o:Type} (p:a->b->c->d->e->f->g->h->i->j->k->l->m->n->o->Prop):Prop
 | mk:∀q r s t u v w x y z A B C D E,p q r s t u v w x y z A B C D E->Qd p
inductive RI {a b c d e f g h i j k l m n o q:Type} (p:a->b->c->d->e->f->g->h->i->j->k->l->m->n->o->q->Prop):Prop
 | mk:∀r s t u v w x y z A B C D E F G,p r s t u v w x y z A B C D E F G->RI p
inductive lH (a b c:Prop):Prop
 | mk:a->b->c->lH a b c
inductive lG (a b c d:Prop):Prop
 | mk:a->b->c->d->lG a b c d
inductive pP (a b c d e:Prop):Prop
 | mk:a->b->c->d->e->pP a b c d e
inductive mZ (a b c d e f:Prop):Prop
 | mk:a->b->c->d->e->f->mZ a b c d e f
inductive oq (a b c d e f g:Prop):Prop
 | mk:a->b->c->d->e->f->g->oq a b c d e f g
inductive zz (a b c d e f g h:Prop):Prop
 | mk:a->b->c->d->e->f->g->h->zz a b c d e f g h
inductive wN (a b c d e f g h i:Prop):Prop
 | mk:a->b->c->d->e->f->g->h->i->wN a b c d e f g h i
inductive Op (a b c d e f g h i j:Prop):Prop
 | mk:a->b->c->d->e->f->g->h->i->j->Op a b c d e f g h i j
inductive RG (a b c d e f g h i j k:Prop):Prop
 | mk:a->b->c->d->e->f->g->h->i->j->k->RG a b c d e f g h i j k
inductive PP (a b c d e f g h i j k l:Prop):Prop
 | mk:a->b->c->d->e->f->g->h->i->j->k->l->PP a b c d e f g h i j k l
inductive Qf (a b c d e f g h i j k l m:Prop):Prop
 | mk:a->b->c->d->e->f->g->h->i->j->k->l->m->Qf a b c d e f g h i j k l m
inductive Ou (a b c d e f g h i j k l m n:Prop):Prop
 | mk:a->b->c->d->e->f->g->h->i->j->k->l->m->n->Ou a b c d e f g h i j k l m n
inductive xL (a b c d e f g h i j k l m n o:Prop):Prop
 | mk:a->b->c->d->e->f->g->h->i->j->k->l->m->n->o->xL a b c d e f g h i j k l m n o
inductive Wc (a b c d e f g h i j k l m n o p:Prop):Prop
 | mk:a->b->c->d->e->f->g->h->i->j->k->l->m->n->o->p->Wc a b c d e f g h i j k l m n o p
namespace L2
open PySem PySem.Spec PyProof.Rows
abbrev af:=Sum Int Str
def gH:af->Ad->AJ
 | .inl k,v=>Jb k v
 | .inr x,v=>Ie x v
def Xw(w:Al):af->Int
 | .inl k=>hashInt k
 | .inr x=>hashStr w x
def eJ:∀{k:af} {v:Ad},gH k v=true->(∃i t,k=Bv i/\v=GD i t)\/ (∃x t,k=Aj x/\v=De x t)
 | .inl i,v,h=>by
  obtain⟨t,e⟩:=Value.isInt_shape (k:=i) (v:=v) h;exact .inl ⟨i,t,zr,e⟩
 | .inr x,v,h=>by
  obtain⟨t,e⟩:=FP (x:=x) (v:=v) h;exact .inr ⟨x,t,zr,e⟩
def Sy(i:Int)(t:Tok):gH (.inl i) (.int i t)=true:=by simp[gH,Jb]
def TY(x:Str)(t:Tok):gH (.inr x) (.str x t)=true:=by simp[gH,Ie]
def XS(a b:Int):decide ((Bv a:af)=Bv b)=(a==b):=by
 by_cases e:a=b
 .subst e;simp
 .have h:¬ (Bv a:af)=Bv b:=λq=>e<|Sum.inl.inj q;rw[aN h];exact(beq_eq_false_iff_ne.mpr e).symm
def Qv(a b:Str):decide ((Aj a:af)=Aj b)=decide (a=b):=by
 by_cases e:a=b
 .subst e;simp
 .have h:¬ (Aj a:af)=Aj b:=λq=>e<|Ef q;rw[aN h,aN e]
def TN(a:Int)(b:Str):decide ((Bv a:af)=Aj b)=false:=aN (λq=>nomatch q)
def UW(a:Str)(b:Int):decide ((Aj a:af)=Bv b)=false:=aN (λq=>nomatch q)
def qv(g:Ai)(w:Al):PySem.KeyKind g w af where
 is:=gH
 hash:=Xw w
 inj:=λv a b l f=>by
  rcases eJ l with ⟨i,t,rfl,rfl⟩ | ⟨x,t,rfl,rfl⟩
  .rcases eJ f with ⟨j,u,rfl,e⟩ | ⟨y,u,rfl,e⟩
   .injection e with c _;rw[c]
   .exact nomatch e
  .rcases eJ f with ⟨j,u,rfl,e⟩ | ⟨y,u,rfl,e⟩
   .exact nomatch e
   .injection e with c _;rw[c]
 byValue:=λk v h=>by
  rcases eJ h with ⟨i,t,rfl,rfl⟩ | ⟨x,t,rfl,rfl⟩ <;> rfl
 pyHash:=λd h=>by
  rcases eJ d with ⟨i,t,rfl,rfl⟩ | ⟨x,t,rfl,rfl⟩
  .exact wpAny_pyHash_int h
  .exact wpAny_pyHash_str h
 eqBool:=λm d h=>by
  rcases eJ m with ⟨i,t,rfl,rfl⟩ | ⟨x,t,rfl,rfl⟩
  .rcases eJ d with ⟨j,u,rfl,rfl⟩ | ⟨y,u,rfl,rfl⟩
   .rw[XS]at h;exact wpAny_eqBool_int h
   .rw[TN]at h;exact FV i t y u _ _ _ _ h
  .rcases eJ d with ⟨j,u,rfl,rfl⟩ | ⟨y,u,rfl,rfl⟩
   .rw[UW]at h;exact FW x t j u _ _ _ _ h
   .rw[Qv]at h;exact GF h
 «strs»:=λk x t v h=>by
  rcases eJ h with ⟨i,u,rfl,e⟩ | ⟨y,u,rfl,e⟩
  .exact nomatch e
  .injection e with c _;subst c;cases v <;> rfl
def XM(a:Ai)(w:Al)(i:Int)(t:Tok):(qv a w).is (.inl i) (.int i t)=true:=Sy i t
def Mm(a:Ai)(w:Al)(x:Str)(t:Tok):(qv a w).is (.inr x) (.str x t)=true:=TY x t
inductive V where
 | non | bl (b:AJ) | int (i:Int) | str (x:Str) | byt (b:Am UInt8) | flt (b:UInt64) | ref (a:Ac) | ty (n:BL)
 deriving Bh
def av:V->Ad->Prop
 | .non,u=>u=Bw
 | .bl b,u=>u=ES b
 | .int i,u=>∃t,u=GD i t
 | .str x,u=>∃t,u=De x t
 | .byt b,u=>∃t,u=Jc b t
 | .flt b,u=>∃t,u=Jd b t
 | .ref a,u=>u=Aw a
 | .ty n,u=>u=AN n
abbrev ap:Ab V->Ab Ad->Prop:=Paired av
theorem ap.length{a:Ab V}{b:xH}(r:ap a b):a.length=b.length:=Paired.length r
theorem ap.get:∀{a:Ab V} {b:xH} {i:Nat} {x:V},ap a b->a[i]? =Aa x->∃u,b[i]? =Aa u/\av x u
 | _,_,_,_,.nil,e=>by simp at e
 | _,_,0,_,.cons r _,e=>by simp at e;subst e;exact⟨_,rfl,r⟩
 | _,_,i+1,x,.cons _ t,e=>by
  obtain⟨u,c,d⟩:=ap.get (i:=i) (x:=x) t (by simpa using e);exact⟨u,by simpa using c,d⟩
theorem ap.append:∀{a b:Ab V} {c J:xH},ap a c->ap b J->ap (a++b) (c++J)
 | _,_,_,_,.nil,s=>s
 | _,_,_,_,.cons r t,s=> .cons r<|ap.append t s
theorem ap.take:∀{a:Ab V} {b:xH} (n:Nat),ap a b->ap (a.take n) (b.take n)
 | _,_,0,_=> .nil
 | _,_,_+1,.nil=> .nil
 | _,_,n+1,.cons r t=> .cons r<|ap.take n t
theorem ap.drop:∀{a:Ab V} {b:xH} (n:Nat),ap a b->ap (a.drop n) (b.drop n)
 | _,_,0,r=>r
 | _,_,_+1,.nil=> .nil
 | _,_,n+1,.cons _ t=>ap.drop n t
def cQ:Ag V->Ag Ad->Prop
 | some v,Aa u=>av v u
 | none,none=>Ez
 | _,_=>Bj
variable{κ:Type}
def KV:Ab (κ×V)->Ab (κ×Ad)->Prop:=Paired λ(p:κ×V) (q:κ×Ad)=>p.1=q.1/\av p.2 q.2
def kV:af->V
 | .inl i=> .int i
 | .inr x=> .str x
inductive HO where
 | lst (a:Ab V)
 | tup (a:Ab V)
 | dK (b:Ab (af×V)) | dT (b:Ab (Ab af×V))
 | set (S:Int->AJ) (n:Nat)
 | ins (C d:Ac) (c:Ab (Str×V))
 | own (x:Ac)
 | xd (c:Ab (Str×V))
 | met (f x:Ac)
 | rng (lo e:Int)
 | frz (o:Obj) (u:HO)
 | tbl (g:Am Ad)
 | ext (h:AH->Prop)
abbrev Hp:=Ac->Ag HO
def upd(H:Hp)(a:Ac)(o:HO):Hp:=λb=>if b=a then Aa o else H b
variable{a:Ac}
def qb{H:Hp}{o:HO}:upd H a o a=Aa o:=by unfold upd;rw[Ah rfl]
variable{b:Ac}
def qe{H:Hp}{o:HO}(h:b≠a):upd H a o b=H b:=by unfold upd;rw[Ae h]
variable{u:HO}
def zo{H:Hp}{o:HO}:upd (upd H a o) a u=upd H a u:=by
 funext b;unfold upd;split <;> rfl
def ZE{H:Hp}{o:HO}(h:H a=Aa o)(c:H b=Aa u)(d:o≠u):a≠b:=by
 intro e;subst e;rw[h]at c;exact d<|AO c
def qj{H:Hp}{o:HO}(h:H a=Aa o)(c:H b=none):a≠b:=by
 intro e;subst e;rw[h]at c;cases c
section
variable(P:Ai)(w:Al)
def bE(H:Hp)(h:AH)(a:Ac):HO->Prop
 | .lst b=>b.length<=sizeLine/\∃(d:xH) (n:Nat),ap b d/\h.get? a=Aa {cls:= .type "list",data:= .seq d.toArray n}
 | .tup b=>b.length<=sizeLine/\∃d:Ab Ad,ap b d/\Hs h a d.toArray
 | .dK e=>e.length<=sizeLine/\(a==Bm)=false/\∃k,KV e k/\h.DictOf (qv P w) a k
 | .dT e=>e.length<=sizeLine/\(a==Bm)=false/\∃b:Ab (Ab af×Ac×Ad),
   Paired (λ(p:Ab af×V) (q:Ab af×Ac×Ad)=>p.1=q.1/\H q.2.1=Aa (.tup<|p.1.map kV)/\av p.2 q.2.2) e b/\
   ∃o l s,h.get? a=Aa o/\o.ExactDict/\o.data= .dict l s/\l.toList=b.map (FX<|DT<|qv P w)/\(b.map (·.1)).Nodup
 | .set S n=>h.SetOf (intKind P w) a S n
 | .ins C i g=>H i=Aa (.own a)/\g.length<=1000/\i≠a/\h.get? a=Aa (PySem.W.instObj C i)/\
   ∃c,h.Ns1 i c/\(∀f,cQ (g.lookup f)<|c f)/\PySem.Within c (g.map (·.1))
 | .own _=>∃o,h.get? a=Aa o
 | .xd g=>∃c,h.Ns1 a c/\∀f,cQ (g.lookup f)<|c f
 | .rng lo y=>∃t u v,h.get? a=Aa {cls:= .type "range",data:= .fields #[.int lo t,.int y u,.int 1 v]}
 | .frz o u=>h.get? a=Aa o/\bE H h a u
 | .tbl z=>h.get? a=Aa {cls:= .none,data:= .fields z}
 | .met f x=>h.get? a=Aa (PySem.W.methodObj (.ref f)<|.ref x)
 | .ext j=>j h/\(∃o,h.get? a=Aa o)/\∀m r:AH,j m->(∀o,m.get? a=Aa o->r.get? a=Aa o)->j r
def HOk(H:Hp)(h:AH):Prop:=∀a o,H a=Aa o->bE P w H h a o
end
section
variable{P:Ai}{w:Al}{H H':Hp}{h h':AH}{a:Ac}{o:HO}
theorem bE.lt(x:bE P w H h a o):a < h.objs.size:=by
 cases o with
 | lst b=>obtain⟨_,_,_,_,e⟩:=x;exact aC e
 | tup b=>obtain⟨_,_,_,p⟩:=x;exact p.lt
 | dK c=>obtain⟨_,_,_,_,o,_,_,e,_⟩:=x;exact aC e
 | dT c=>obtain⟨_,_,_,_,o,_,_,e,_⟩:=x;exact aC e
 | set S n=>obtain⟨o,_,_,_,e,_⟩:=x;exact aC e
 | ins C g d=>obtain⟨_,_,_,e,_⟩:=x;exact aC e
 | own y=>obtain⟨_,e⟩:=x;exact aC e
 | xd d=>obtain⟨_,⟨_,_,_,e,_⟩,_⟩:=x;exact aC e
 | rng lo i=>obtain⟨_,_,_,e⟩:=x;exact aC e
 | frz j u=>obtain⟨e,_⟩:=x;exact aC e
 | tbl k=>exact aC (show h.get? a=Aa _ from x)
 | met f y=>exact aC (show h.get? a=Aa _ from x)
 | ext l=>obtain⟨_,⟨_,e⟩,_⟩:=x;exact aC e
theorem Paired.mapP{c d:Type}{F G:c->d->Prop}:∀{J:Ab c} {O:Ab d},Paired F J O->(∀a b,F a b->G a b)->Paired G J O
 | _,_,.nil,_=> .nil
 | _,_,.cons r t,f=> .cons (f _ _ r)<|Paired.mapP t f
def bE.stay(x:bE P w H h a o)(k:∀b u,(b=a\/ H b=Aa (.own a))->h.get? b=Aa u->h'.get? b=Aa u)
  (A:∀b,H b=Aa (.own a)->H' b=Aa (.own a)) (B:∀b j,H b=Aa (.tup j)->H' b=Aa (.tup j)):bE P w H' h' a o:=by
 induction o with
 | lst j=>obtain⟨z,l,n,r,e⟩:=x;exact⟨z,l,n,r,k _ _ (.inl rfl) e⟩
 | tup j=>obtain⟨z,l,r,J,e,c⟩:=x;exact⟨z,l,r,J,k _ _ (.inl rfl) e,c⟩
 | dK D=>obtain⟨z,y,E,r,J,g,i,e,c⟩:=x;exact⟨z,y,E,r,J,g,i,k _ _ (.inl rfl) e,c⟩
 | dT D=>
  obtain⟨z,y,j,r,J,g,i,e,c⟩:=x;exact⟨z,y,j,Paired.mapP r λp q z=>⟨z.1,B _ _ z.2.1,z.2.2⟩,J,g,i,k _ _ (.inl rfl) e,c⟩
 | set S n=>obtain⟨J,g,i,t,e,c⟩:=x;exact⟨J,g,i,t,k _ _ (.inl rfl) e,c⟩
 | ins C L F=>
  obtain⟨d,z,G,e,m,⟨O,g,i,I,c⟩,r⟩:=x;exact⟨A _ d,z,G,k _ _ (.inl rfl) e,m,⟨O,g,i,k _ _ (.inr d) I,c⟩,r⟩
 | own y=>obtain⟨J,e⟩:=x;exact⟨J,k _ _ (.inl rfl) e⟩
 | xd F=>obtain⟨m,⟨O,g,i,e,c⟩,r⟩:=x;exact⟨m,⟨O,g,i,k _ _ (.inl rfl) e,c⟩,r⟩
 | rng lo M=>obtain⟨t,u,v,e⟩:=x;exact⟨t,u,v,k _ _ (.inl rfl) e⟩
 | frz J u K=>obtain⟨e,q⟩:=x;exact⟨k _ _ (.inl rfl) e,K q⟩
 | tbl s=>
  have e:h.get? a=Aa {cls:= .none,data:= .fields s}:=x;show h'.get? a=Aa {cls:= .none,data:= .fields s};exact k a _ (.inl rfl) e
 | met f y=>
  have e:h.get? a=Aa (PySem.W.methodObj (.ref f)<|.ref y):=x;show h'.get? a=Aa (PySem.W.methodObj (.ref f)<|.ref y);exact k a _ (.inl rfl) e
 | ext N=>obtain⟨p,⟨o,e⟩,st⟩:=x;exact⟨st _ _ p λo q=>k _ _ (.inl rfl) q,⟨o,k _ _ (.inl rfl) e⟩,st⟩
theorem HOk.lt(x:HOk P w H h)(e:H a=Aa o):a < h.objs.size:=(x a o e).lt
def HOk.fresh(x:HOk P w H h)(e:h.objs.size<=a):H a=none:=by
 cases q:H a with
 | none=>rfl
 | some u=>exact Au (cp (x.lt q) e)<|ii _
def HOk.kept(x:HOk P w H h)(k:∀b u,h.get? b=Aa u->h'.get? b=Aa u):HOk P w H h':=λa o e=>
 (x a o e).stay (λb u _ q=>k b u q) (λ_ q=>q) λ_ _ q=>q
def HOk.laid(x:HOk P w H h)(k:∀b u,h.get? b=Aa u->h'.get? b=Aa u)(g:h.objs.size<=a)(i:bE P w (upd H a o) h' a o):HOk P w (upd H a o) h':=λb u e=>by
 have d:=x.fresh g;by_cases f:b=a
 .subst f;rw[qb]at e;cases e;exact i
 .rw[qe f]at e;exact(x b u e).stay (λc v _ q=>k c v q) (λc q=>by rw[qe<|qj q d];exact q) λc j q=>by rw[qe<|qj q d];exact q
end
def Rd(H:Hp)(a:Ac)(u:HO):Prop:=H a=Aa u\/ ∃o,H a=Aa (.frz o u)
variable{P:Ai}{h:AH}
def Rd.ok{w:Al}{H:Hp}(r:Rd H a u)(x:HOk P w H h):bE P w H h a u:=by
 rcases r with r | ⟨o,r⟩
 .exact x a u r
 .obtain⟨_,q⟩:=x a _ r;exact q
def mV:Ag HO->Prop
 | some (.lst _)=>Ez
 | some (.dK _)=>Ez
 | some (.dT _)=>Ez
 | some (.set _ _)=>Ez
 | some (.ins _ _ _)=>Ez
 | some (.ext _)=>Ez
 | _=>Bj
section
variable{P:Ai}{w:Al}{H:Hp}{h h':AH}{x e:Ac}{o':HO}
def HOk.write(ok:HOk P w H h)(mu:mV (H x))(f:e=x\/ H e=Aa (.own x))(k:∀b u,b≠e->h.get? b=Aa u->h'.get? b=Aa u)(i:∃u,h'.get? e=Aa u)
    (j:bE P w (upd H x o') h' x o'):HOk P w (upd H x o') h':=λb u q=>by
  have O:∀c y,H c=Aa (.own y)->c≠x:=λc y r z=>by subst z;rw[r]at mu;exact mu
  have Y:∀c a,H c=Aa (.tup a)->c≠x:=λc a r z=>by subst z;rw[r]at mu;exact mu
  by_cases d:b=x
  · subst d;rw[qb]at q;cases q;exact j
  · rw[qe d]at q
    by_cases J:b=e
    · have g:H b=Aa (.own x):=by
        rcases f with z | z
        · exact Au (J.trans z) d
        · rw[J];exact z
      rw[q]at g;cases g;obtain⟨v,l⟩:=i;exact⟨v,by rw[J];exact l⟩
    · refine(ok b u q).stay (λc v Z r=>k c v ?_ r) (λc r=>by rw[qe<|O c b r];exact r) λc a r=>by rw[qe<|Y c a r];exact r
      rcases Z with rfl | Z
      · exact J
      · rintro rfl
        rcases f with z | z
        · exact O c b Z z
        · rw[Z]at z;cases z;exact d rfl
end
structure Un (fs ex:Ab Ac) (H H':Hp) (h h':AH):Prop where
 keep:∀b o,h.get? b=Aa o->H b=none->b∉fs->b∉ex->h'.get? b=Aa o
 slot:∀b o,h.get? b=Aa o->H b=none->b∈fs->b∉ex->∃sl,h'.get? b=Aa {o with slots:=sl}
 free:∀b o,h.get? b=Aa o->H b=none->b∉ex->H' b=none
 there:∀b o,h.get? b=Aa o->b∉ex->∃o',h'.get? b=Aa o'
 tups:∀b xs,H b=Aa (.tup xs)->H' b=Aa (.tup xs)
 frzs:∀b o u,H b=Aa (.frz o u)->H' b=Aa (.frz o u)
 tbls:∀b ps,H b=Aa (.tbl ps)->∃more,H' b=Aa (.tbl (ps++more))
section
variable{fs fs' ex ex':Ab Ac}{H H1 H2:Hp}{h h1 h2 h':AH}{a x e:Ac}{o:HO}
def Un.any(u:Un fs ex H H1 h h1){b:Ac}{J:Obj}(q:h.get? b=Aa J)(n:H b=none)(a:b∉ex):∃d,h1.get? b=Aa {J with slots:=d}:=by
 by_cases c:b∈fs
 .exact u.slot b J q n c a
 .exact⟨J.slots,u.keep b J q n c a⟩
def Un.kept(k:∀b u,h.get? b=Aa u->h'.get? b=Aa u):Un fs ex H H h h':=
 ⟨λb J q _ _ _=>k b J q,λb J q _ _ _=>⟨J.slots,k b J q⟩,λ_ _ _ n _=>n,λb J q _=>⟨J,k b J q⟩,λ_ _ q=>q,λ_ _ _ q=>q,λ_ a q=>⟨#[],by rw[q];simp⟩⟩
def Un.refl:Un fs ex H H h h:=Un.kept λ_ _ q=>q
def Un.laid(k:∀b u,h.get? b=Aa u->h'.get? b=Aa u)(d:h.objs.size<=a)(c:H a=none):Un fs ex H (upd H a o) h h' where
 keep:=λb u q _ _ _=>k b u q
 slot:=λb u q _ _ _=>⟨u.slots,k b u q⟩
 free:=λb u q n _=>by rw[qe<|aJ<|cp (aC q) d];exact n
 there:=λb u q _=>⟨u,k b u q⟩
 tups:=λb e q=>by rw[qe<|qj q c];exact q
 frzs:=λb u e q=>by rw[qe<|qj q c];exact q
 tbls:=λb f q=>⟨#[],by rw[qe<|qj q c,q];simp⟩
def Un.write(mu:mV (H x))(f:e=x\/ H e=Aa (.own x))(k:∀b u,b≠e->h.get? b=Aa u->h'.get? b=Aa u)(O:∃u,h'.get? e=Aa u):Un fs ex H (upd H x o) h h':=by
 have c:∀b,H b=none->b≠x:=λb n z=>by subst z;rw[n]at mu;exact mu
 have d:∀b,H b=none->b≠e:=λb n z=>by
  subst z;rcases f with r | r
  .exact c b n r
  .rw[n]at r;cases r
 have a:∀b u,H b=Aa u->¬ mV (Aa u)->b≠x:=λb u q g z=>by subst z;rw[q]at mu;exact g mu
 refine⟨λb u q n _ _=>k b u (d b n) q,λb u q n _ _=>⟨u.slots,k b u (d b n) q⟩,λb u q n _=>by rw[qe<|c b n];exact n,λb u q _=>?_,
  λb i q=>by rw[qe<|a b _ q λz=>z];exact q,λb u i q=>by rw[qe<|a b _ q λz=>z];exact q,λb j q=>⟨#[],by rw[qe (a b _ q λz=>z),q];simp⟩⟩
 by_cases J:b=e
 .subst J;exact O
 .exact⟨u,k b u J q⟩
end
def pO(h:AH)(H:Hp):Ab Ac:=(Cj h.objs.size).filter λa=>(H a).isSome
def ic(h:AH)(H:Hp):AH:=PySem.W.hideAll h<|pO h H
def Rt(h:AH)(H:Hp):(ic h H).objs.size=h.objs.size:=PySem.W.hideAll_size _ _
variable{o:Obj}
def Yk{H:Hp}(e:h.get? b=Aa o)(n:H b=none):(ic h H).get? b=Aa o:=
 PySem.W.hideAll_get _ e λa=>by
  have q:(H b).isSome=true:=(cV.mp a).2;rw[n]at q;simp at q
def Uz{H:Hp}(e:(ic h H).get? b=Aa o):h.get? b=Aa o/\H b=none:=by
 have a:h.get? b=Aa o:=PySem.W.of_hideAll (pO h H) e;refine⟨a,?_⟩;cases q:H b with
 | none=>rfl
 | some x=>
  have c:b∈pO h H:=cV.mpr ⟨kP.mpr<|aC a,by simp[q]⟩;have z:(ic h H).get? b=none:=PySem.W.hideAll_none (pO h H) c;rw[z]at e;cases e
structure qN (K:xA) (mg:xE) (base:AH):Prop where
 kin:K.In base
 glob:base.Ns Ar mg
 blt:∃mb,base.Ns Ht mb/\∀x:Str,x≠"__name__" ->mb x=AU x
 nolimit:base.NoLimit
structure Cx where
 prog:Ai
 w:Al
 K:xA
 mg:Str->Ag Ad
 base:AH
 A:As
 N:Ab Str
 s₀:Af
 H₀:Hp
 env:Env
 outer:Ab Env
 stack:Ab Env
 ex:Ab Ac
 fn:Str->AJ
 calm:AJ
 pn:Ab (Ac×Obj)
 xe:xB
def cC(l:Ab Env):Ab Ac:=l.filterMap (·.frame)
abbrev Cx.fs(X:Cx):Ab Ac:=cC X.outer
def vd(a:Ck)(x:Str):Prop:=a.names.lookup x=Aa .local\/ a.names.lookup x=Aa .cell\/ a.names.lookup x=Aa .free
def pB(a:Ck)(x:Str):Prop:=a.names.lookup x=Aa .local\/ a.names.lookup x=Aa .cell
def Qk(a:Env)(h:AH)(m:xE)(x:Str)(u:Ad):Prop:=
 (a.kindOf x=Aa .local/\m x=Aa u)\/ ((a.kindOf x=Aa .cell\/ a.kindOf x=Aa .free)/\∃c,a.cells.lookup x=Aa c/\h.IsCell c (Aa u))
structure Cx.Ok (X:Cx):Prop where
 mod:qN X.K X.mg X.base
 kind:X.env.scope.kind= .function
 glob:X.env.globals=Ar
 blt:X.env.builtins=Ht
 above:X.s₀.heap.objs.size<=X.env.locals
 inj:∀x y c,X.env.cells.lookup x=Aa c->X.env.cells.lookup y=Aa c->x=y
 has:∀x,(X.env.kindOf x=Aa .cell\/ X.env.kindOf x=Aa .free)->∃c,X.env.cells.lookup x=Aa c
 cab:∀x c,X.fn x=true->X.env.cells.lookup x=Aa c->X.s₀.heap.objs.size<=c
 hd:X.calm=true->X.A.handled=none
 frames:X.A.frames=Aa X.stack
 stk:X.stack=X.outer\/ (X.stack=X.env::X.outer/\X.env.frame=Aa X.env.locals)
 exf:∀b∈X.ex,b≠X.env.locals/\∀x c,X.env.cells.lookup x=Aa c->c≠b
 bs:∀b o,X.base.get? b=Aa o->X.s₀.heap.get? b=Aa o/\X.H₀ b=none
 bsz:X.base.objs.size<=X.s₀.heap.objs.size
 noex:∀b o,X.base.get? b=Aa o->b∉X.ex
 exfs:∀b∈X.ex,b∉X.fs
 funs:X.s₀.heap.FunFrames X.base X.outer
 frf:∀b∈X.fs,X.H₀ b=none
structure ae (X:Cx) (xC:xG) (σ:Ab (Ag V)) (H:Hp) (s:Af):Prop where
 ok:X.Ok
 os:s.os=X.s₀.os
 bare:DK s.gens
 base:Un X.fs X.ex X.H₀ H X.s₀.heap s.heap
 loc:∃m,s.heap.Ns X.env.locals m/\∀(i:Nat) (x:Str) (v:V),X.N[i]? =Aa x->σ[i]? =Aa (Aa v)->vd X.env.scope x->∃u,av v u/\Qk X.env s.heap m x u
 cell:∀x c,X.env.cells.lookup x=Aa c->∃v,s.heap.IsCell c v
 free:H X.env.locals=none
 freeC:∀x c,X.env.cells.lookup x=Aa c->H c=none
 pin:∀p∈X.pn++xC,s.heap.get? p.1=Aa p.2/\H p.1=none/\p.1≠X.env.locals/\p.1∉X.fs/\∀v,p.2.data≠ .cell v
 hok:HOk X.prog X.w H s.heap
 len:σ.length=X.N.length
section
variable{X:Cx}{xC:xG}{σ:Ab (Ag V)}{H H':Hp}{s:Af}{h':AH}
def Cx.Ok.nofr(ok:X.Ok){b:Ac}{o:Obj}(e:X.base.get? b=Aa o):b∉X.fs:=λa=>by
 have:=(ok.funs.mem a).1;rw[e]at this;cases this
theorem ae.bs(I:ae X xC σ H s):∀b o,X.base.get? b=Aa o->s.heap.get? b=Aa o/\H b=none:=λb o e=>
 ⟨I.base.keep b o (I.ok.bs b o e).1 (I.ok.bs b o e).2 (I.ok.nofr e) (I.ok.noex b o e),I.base.free b o (I.ok.bs b o e).1 (I.ok.bs b o e).2 (I.ok.noex b o e)⟩
def ae.bk(I:ae X xC σ H s):∀b o,X.base.get? b=Aa o->s.heap.get? b=Aa o:=λb o e=>(I.bs b o e).1
theorem ae.mod(I:ae X xC σ H s):qN X.K X.mg X.base:=I.ok.mod
def ae.kIn(I:ae X xC σ H s):X.K.In s.heap:=I.ok.mod.kin.keeps I.bk
theorem ae.lt(I:ae X xC σ H s):X.env.locals < s.heap.objs.size:=let ⟨_,a,_⟩:=I.loc;a.lt
def ae.sz(I:ae X xC σ H s):X.s₀.heap.objs.size<=s.heap.objs.size:=az I.ok.above<|c_ I.lt
def ae.nofs(I:ae X xC σ H s){a:Ac}(h:s.heap.objs.size<=a):a∉X.fs:=λb=>by
 obtain⟨_,o,c,_⟩:=I.ok.funs.mem b;exact Au (cp (aC c)<|az I.sz h)<|ii _
def ae.cne(I:ae X xC σ H s):∀x c,X.env.cells.lookup x=Aa c->c≠X.env.locals:=λx c e z=>by
 obtain⟨v,o,a,b⟩:=I.cell x c e;obtain⟨m,⟨d,f,g,O,J,_⟩,_⟩:=I.loc;rw[z,O]at a;cases a;rw[J]at b;cases b
theorem ae.funs(I:ae X xC σ H s):s.heap.FunFrames X.base X.outer:=by
 have all:∀(l:Ab Env),(∀b∈cC l,b∈X.fs)->X.s₀.heap.FunFrames X.base l->s.heap.FunFrames X.base l:=by
  intro l
  induction l with
  | nil=>intro _ _;trivial
  | cons k r c=>
   intro Y d;obtain⟨f,⟨L,o,O,g,h,i⟩,j⟩:=d;have J:L∈X.fs:=Y L (by unfold cC;rw[DH,O];exact be);obtain⟨m,e⟩:=I.base.slot L o h (I.ok.frf L J) J λz=>I.ok.exfs L z J;exact⟨f,⟨L,_,O,g,e,i⟩,c (λb a=>Y b (by unfold cC;rw[DH,O];exact bb _ a)) j⟩
 exact all X.outer (λ_ a=>a) I.ok.funs
theorem ae.stack(I:ae X xC σ H s):s.heap.FunFrames X.base X.stack:=by
 rcases I.ok.stk with e | ⟨e,a⟩
 .rw[e];exact I.funs
 .rw[e];obtain⟨m,b,_⟩:=I.loc;refine .cons (by rw[I.ok.kind];decide) a b ?_ I.funs;exact Heap.get?_none_of_le<|az I.ok.bsz I.ok.above
def ae.stkSub(I:ae X xC σ H s):∀b∈cC X.stack,b∈X.env.locals::X.fs:=λb a=>by
 rcases I.ok.stk with e | ⟨e,c⟩
 .rw[e]at a;exact bb _ a
 .rw[e]at a;unfold cC at a;rw[DH,c]at a;exact a
def ae.stkFree(I:ae X xC σ H s):∀b∈cC X.stack,H b=none:=λb a=>by
 rcases aA.mp (I.stkSub b a) with e | a
 .rw[e];exact I.free
 .obtain⟨_,o,ho,_⟩:=I.ok.funs.mem a;exact I.base.free b o ho (I.ok.frf b a) λz=>I.ok.exfs b z a
def ae.step{g':Am EA}{t':Nat}{d':GS}{ch:Ab Ac}(I:ae X xC σ H s)
  (O:∀b∈ch,(b∈X.ex\/ X.s₀.heap.objs.size<=b)/\b≠X.env.locals/\(∀x c,X.env.cells.lookup x=Aa c->c≠b)/\∀p∈X.pn++xC,p.1≠b)
  (B:∀b o,b≠X.env.locals->b∉X.fs->b∉ch->s.heap.get? b=Aa o->H b=none->h'.get? b=Aa o)
  (E:∀b o,b≠X.env.locals->b∈X.fs->b∉ch->s.heap.get? b=Aa o->H b=none->∃C,h'.get? b=Aa {o with slots:=C}) (y:∀b o,b∉ch->s.heap.get? b=Aa o->H b=none->H' b=none)
  (L:∀b o,b∉ch->s.heap.get? b=Aa o->∃t,h'.get? b=Aa t)
  (M:∀b g,H b=Aa (.tup g)->H' b=Aa (.tup g)) (N:∀b o u,H b=Aa (.frz o u)->H' b=Aa (.frz o u)) (P:∀b A,H b=Aa (.tbl A)->∃Q,H' b=Aa (.tbl<|A++Q))
  (R:∀m,s.heap.Ns X.env.locals m->h'.Ns X.env.locals m) (S:HOk X.prog X.w H' h') (T:DK g'):
  ae X xC σ H' {s with heap:=h',gens:=g',drawn:=d',toks:=t'}:=by
 have F:∀b o,X.s₀.heap.get? b=Aa o->b≠X.env.locals:=λb o e=>aJ<|cp (aC e) I.ok.above;have Z:∀b o,X.s₀.heap.get? b=Aa o->b∉X.ex->b∉ch:=λb o e a h=>by
  rcases (O b h).1 with z | z
  .exact a z
  .exact Au (cp (aC e) z)<|ii _
 have J:∀x c,X.env.cells.lookup x=Aa c->∀v,s.heap.IsCell c v->h'.IsCell c v:=λx c e v ⟨o,j,D⟩=>by
  have Y:c∉ch:=λz=>(O c z).2.2.1 x c e rfl;by_cases G:c∈X.fs
  .obtain⟨C,q⟩:=E c o (I.cne x c e) G Y j<|I.freeC x c e;exact⟨_,q,D⟩
  .exact⟨o,B c o (I.cne x c e) G Y j<|I.freeC x c e,D⟩
 refine⟨I.ok,I.os,T,⟨λb o e n h a=>?_,λb o e n h a=>?_,λb o e n a=>?_,λb o e a=>?_,λb g e=>M b g<|I.base.tups b g e,λb o g e=>N b o g<|I.base.frzs b o g e,λb A e=>?_⟩,?_,λx c e=>?_,?_,λx c e=>?_,λp K=>?_,S,I.len⟩
 .exact B b o (F b o e) h (Z b o e a) (I.base.keep b o e n h a)<|I.base.free b o e n a
 .obtain⟨C,f⟩:=I.base.slot b o e n h a;obtain⟨U,w⟩:=E b _ (F b o e) h (Z b o e a) f<|I.base.free b o e n a;exact⟨U,w⟩
 .obtain⟨t,f⟩:=I.base.there b o e a;exact y b t (Z b o e a) f<|I.base.free b o e n a
 .obtain⟨t,f⟩:=I.base.there b o e a;exact L b t (Z b o e a) f
 .obtain⟨m1,f⟩:=I.base.tbls b A e;obtain⟨W,w⟩:=P b _ f;exact⟨m1++W,by rw[w,Array.append_assoc]⟩
 .obtain⟨m,hn,hl⟩:=I.loc;refine⟨m,R m hn,λi x v f w a0=>?_⟩;obtain⟨u,r,l⟩:=hl i x v f w a0;refine⟨u,r,?_⟩;rcases l with l | ⟨k,c,e,z⟩
  .exact .inl l
  .exact .inr ⟨k,c,e,J x c e _ z⟩
 .obtain⟨v,z⟩:=I.cell x c e;exact⟨v,J x c e v z⟩
 .obtain⟨m,⟨o,_,_,j,_⟩,_⟩:=I.loc;exact y _ o (λz=>(O _ z).2.1 rfl) j I.free
 .obtain⟨v,o,j,D⟩:=I.cell x c e;exact y c o (λz=>(O c z).2.2.1 x c e rfl) j<|I.freeC x c e
 .obtain⟨e,n,ne,nf,d⟩:=I.pin p K;have Y:p.1∉ch:=λz=>(O p.1 z).2.2.2 p K rfl;exact⟨B p.1 p.2 ne nf Y e n,y p.1 p.2 Y e n,ne,nf,d⟩
def ae.un{t':Nat}(I:ae X xC σ H s)(u:Un X.fs [] H H' s.heap h')(d:HOk X.prog X.w H' h'):ae X xC σ H' {s with heap:=h',toks:=t'}:=by
 obtain⟨m,⟨o,i,j,c,r⟩,_⟩:=id I.loc;obtain⟨k,f⟩:=u.any c I.free (by simp);exact I.step (g':=s.gens) (d':=s.drawn) (ch:=[]) (λ_ z=>nomatch z) (λb o _ a _ e n=>u.keep b o e n a<|by simp) (λb o _ a _ e n=>u.slot b o e n a<|by simp) (λb o _ e n=>u.free b o e n<|by simp) (λb o _ e=>u.there b o e<|by simp) u.tups u.frzs u.tbls (λl g=>by
  obtain⟨p,Y,O,J,h⟩:=g;rw[c]at J;cases J;exact⟨_,Y,O,f,h⟩) d I.bare
def ae.call{g':Am EA}{t':Nat}{d':GS}{ch:Ab Ac}(I:ae X xC σ H s)(u:Un (cC X.stack) ch H H' s.heap h')(f:HOk X.prog X.w H' h')(g:DK g')
  (O:∀b∈ch,(b∈X.ex\/ X.s₀.heap.objs.size<=b)/\b≠X.env.locals/\(∀x c,X.env.cells.lookup x=Aa c->c≠b)/\∀p∈X.pn++xC,p.1≠b):
  ae X xC σ H' {s with heap:=h',gens:=g',drawn:=d',toks:=t'}:=by
 obtain⟨m,⟨o,l,q,d,r⟩,_⟩:=id I.loc;obtain⟨t,a⟩:=u.any d I.free λz=>(O _ z).2.1 rfl;exact I.step (ch:=ch) O (λb o a h J e n=>u.keep b o e n (λz=>(aA.mp<|I.stkSub b z).elim a h) J) (λb o _ _ J e n=>u.any e n J) (λb o J e n=>u.free b o e n J) (λb o J e=>u.there b o e J) u.tups u.frzs u.tbls (λv i=>by
  obtain⟨w,j,Z,Y,k⟩:=i;rw[d]at Y;cases Y;exact⟨_,j,Z,a,k⟩) f g
def ae.turned{t':Nat}{it:Ac}(I:ae X xC σ H s)(k:∀b o,b≠it->s.heap.get? b=Aa o->h'.get? b=Aa o)(a:H it=none)(Y:it≠X.env.locals)
  (d:it∈X.ex\/ X.s₀.heap.objs.size<=it) (f:∀x c,X.env.cells.lookup x=Aa c->c≠it) (g:∀p∈X.pn++xC,p.1≠it):ae X xC σ H {s with heap:=h',toks:=t'}:=by
 have O:∀b u,H b=Aa u->b≠it:=λb u e z=>by rw[z,a]at e;cases e
 refine I.step (g':=s.gens) (d':=s.drawn) (ch:=[it]) (λb h=>?_) (λb o _ _ J e _=>k b o (λz=>J<|by simp[z]) e) (λb o _ _ J e _=>⟨o.slots,k b o (λz=>J<|by simp[z]) e⟩) (λ_ _ _ _ n=>n)
  (λb o J e=>⟨o,k b o (λz=>J<|by simp[z]) e⟩) (λ_ _ e=>e) (λ_ _ _ e=>e) (λb j e=>⟨#[],by rw[e];simp⟩) (λm i=>?_) (λb u e=>?_) I.bare
 .have e:b=it:=by simpa using h
  subst e;exact⟨d,Y,f,g⟩
 .obtain⟨o,es,ep,ho,r⟩:=i;exact⟨o,es,ep,k _ o (Bi Y) ho,r⟩
 .refine(I.hok b u e).stay (λc v J q=>k c v ?_ q) (λ_ q=>q) λ_ _ q=>q;rcases J with z | z
  .rw[z];exact O b u e
  .exact O c _ z
def ae.tok(I:ae X xC σ H s)(t:Nat):ae X xC σ H {s with toks:=t}:=I.un (h':=s.heap) (t':=t) Un.refl I.hok
theorem ae.kept{t':Nat}(I:ae X xC σ H s)(k:∀b u,s.heap.get? b=Aa u->h'.get? b=Aa u):ae X xC σ H {s with heap:=h',toks:=t'}:=I.un (Un.kept k)<|I.hok.kept k
theorem ae.laid{a:Ac}{o:HO}{t':Nat}(I:ae X xC σ H s)(k:∀b u,s.heap.get? b=Aa u->h'.get? b=Aa u)(c:s.heap.objs.size<=a)(d:bE X.prog X.w (upd H a o) h' a o):
  ae X xC σ (upd H a o) {s with heap:=h',toks:=t'}:=I.un (Un.laid k c<|I.hok.fresh c)<|I.hok.laid k c d
theorem ae.write{x e:Ac}{o:HO}{a:Nat}(I:ae X xC σ H s)(mu:mV (H x))(O:e=x\/ H e=Aa (.own x))(k:∀b u,b≠e->s.heap.get? b=Aa u->h'.get? b=Aa u)(J:∃u,h'.get? e=Aa u)
  (c:bE X.prog X.w (upd H x o) h' x o):ae X xC σ (upd H x o) {s with heap:=h',toks:=a}:=I.un (Un.write mu O k J)<|I.hok.write mu O k J c
def ae.qJ{a:xG}(I:ae X xC σ H s)(h:∀p∈a,s.heap.get? p.1=Aa p.2/\H p.1=none/\p.1≠X.env.locals/\p.1∉X.fs/\∀v,p.2.data≠ .cell v):ae X a σ H s:=
 ⟨I.ok,I.os,I.bare,I.base,I.loc,I.cell,I.free,I.freeC,λp b=>(aF.mp b).elim (λz=>I.pin p<|vw _ z)<|h p,I.hok,I.len⟩
def vF{N:xD}(c:N.Nodup){i j:Nat}{x:Str}(a:N[i]? =Aa x)(b:N[j]? =Aa x):i=j:=by
 obtain⟨f,d⟩:=bR.mp a;obtain⟨g,e⟩:=bR.mp b;exact(List.getElem_inj c).mp<|d.trans e.symm
def SH{g0:Cv}{h0:As}{i0:xB}{i:Nat}{x:Str}{v:V}{u:Ad}{Q:Ge->Af->Prop}(I:ae X xC σ H s)(U:X.N.Nodup)(A:X.N[i]? =Aa x)(g:pB X.env.scope x)(r:av v u)
    (h:∀E,ae X xC (σ.set i<|Aa v) H E->(∃a,Bn a s.heap E.heap/\(a=X.env.locals\/ X.env.cells.lookup x=Aa a))->Q () E) (j0:X.fn x=true\/ X.env.scope.names.lookup x=Aa .local:=by first | exact .inl rfl | exact .inr rfl | assumption):Ak g0 h0 (storeName X.env x u) Q i0 s:=by
  obtain⟨k0,F,W⟩:=id I.loc;have l0:(X.env.scope.kind== .class || (X.env.scope.kind== .module&&X.env.locals !=X.env.globals))=false:=by rw[I.ok.kind];rfl
  have a0:i < σ.length:=by rw[I.len];exact(bR.mp A).1
  have G:=I.cne;have b0:∀{a:Ac} {h':AH},(∃o,s.heap.get? a=Aa o/\H a=none)->Bn a s.heap h'->HOk X.prog X.w H h':=λ{a h'} m0 J b n0 e=>by
    obtain⟨_,_,Z⟩:=m0;refine(I.hok b n0 e).stay (λc B Y q=>(J.2 c ?_).trans q) (λ_ q=>q) λ_ _ q=>q;rintro rfl;rcases Y with rfl | Y
    · rw[Z]at e;cases e
    · rw[Z]at Y;cases Y
  rcases g with m | m
  · refine wpAny_storeName_local m F (λh' o0 J=>?_) l0
    obtain⟨p0,_,_,q0,_⟩:=id F;refine h _ ⟨I.ok,I.os,I.bare,⟨λb o e n t g=>?_,λb o e n t g=>?_,I.base.free,λb o e g=>?_,I.base.tups,I.base.frzs,I.base.tbls⟩,⟨_,o0,λj y K f l L=>?_⟩,λy c e=>?_,I.free,I.freeC,λp M=>?_,b0 ⟨p0,q0,I.free⟩ J,by simpa using I.len⟩ ⟨_,J,.inl rfl⟩
    · exact(J.2 b<|aJ<|cp (aC e) I.ok.above).trans<|I.base.keep b o e n t g
    · obtain⟨N,f⟩:=I.base.slot b o e n t g
      exact⟨N,(J.2 b<|aJ<|cp (aC e) I.ok.above).trans f⟩
    · obtain⟨O,f⟩:=I.base.there b o e g
      exact⟨O,(J.2 b<|aJ<|cp (aC e) I.ok.above).trans f⟩
    · by_cases w:j=i
      · subst w
        rw[A]at f;cases f;rw[CW a0]at l;cases l
        exact⟨u,r,.inl ⟨m,by simp⟩⟩
      · rw[Dt<|Bi w]at l
        obtain⟨P,R,q⟩:=W j y K f l L;refine⟨P,R,?_⟩;rcases q with ⟨k,e⟩ | ⟨k,c,e,z⟩
        · refine .inl ⟨k,?_⟩
          have:y≠x:=λe=>w<|vF U f (e ▸ A);simp[this,e]
        · exact .inr ⟨k,c,e,z.sameBut J<|G y c e⟩
    · obtain⟨B,z⟩:=I.cell y c e
      exact⟨B,z.sameBut J<|G y c e⟩
    · obtain⟨e,n,C,S,d⟩:=I.pin p M
      exact⟨(J.2 p.1 C).trans e,n,C,S,d⟩
  · have T:X.fn x=true:=by
      rcases j0 with z | z
      · exact z
      · rw[z]at m;cases m
    obtain⟨c,Y⟩:=I.ok.has x<|.inl m;obtain⟨B,z⟩:=I.cell x c Y;refine wpAny_storeName_cell I.ok.kind m Y z λh' c0 J=>?_;obtain⟨d0,e0,r0⟩:=id z;refine h {s with heap:=h'} ⟨I.ok,I.os,I.bare,⟨λb o e n t g=>?_,λb o e n t g=>?_,I.base.free,λb o e g=>?_,I.base.tups,I.base.frzs,I.base.tbls⟩,⟨k0,F.sameBut J<|Bi<|G x c Y,λj y K f l L=>?_⟩,λy D e=>?_,I.free,I.freeC,λp M=>?_,b0 ⟨d0,e0,I.freeC x c Y⟩ J,by simpa using I.len⟩ ⟨c,J,.inr Y⟩
    · exact(J.2 b<|aJ<|cp (aC e)<|I.ok.cab x c T Y).trans<|I.base.keep b o e n t g
    · obtain⟨N,f⟩:=I.base.slot b o e n t g
      exact⟨N,(J.2 b<|aJ<|cp (aC e)<|I.ok.cab x c T Y).trans f⟩
    · obtain⟨O,f⟩:=I.base.there b o e g
      exact⟨O,(J.2 b<|aJ<|cp (aC e)<|I.ok.cab x c T Y).trans f⟩
    · by_cases w:j=i
      · subst w
        rw[A]at f;cases f;rw[CW a0]at l;cases l
        exact⟨u,r,.inr ⟨.inl m,c,Y,c0⟩⟩
      · rw[Dt<|Bi w]at l
        obtain⟨P,R,q⟩:=W j y K f l L;refine⟨P,R,?_⟩;rcases q with q | ⟨k,D,e,s0⟩
        · exact .inl q
        · refine .inr ⟨k,D,e,s0.sameBut J ?_⟩
          rintro rfl;exact w<|vF U f (I.ok.inj _ _ _ e Y ▸ A)
    · by_cases f0:D=c
      · subst f0;exact⟨_,c0⟩
      · obtain⟨t0,u0⟩:=I.cell y D e
        exact⟨t0,u0.sameBut J f0⟩
    · obtain⟨e,n,C,S,d⟩:=I.pin p M
      refine⟨(J.2 p.1 ?_).trans e,n,C,S,d⟩;intro q;rw[q,e0]at e;have v0:d0=p.2:=AO e;exact d B (by rw[<- v0];exact r0)
def oj{M:Cv}{A:As}{E:xB}{i:Nat}{x:Str}{v:V}{u:Ad}{Q:Ge->Af->Prop}(I:ae X xC σ H s)(b:X.N.Nodup)(c:X.N[i]? =Aa x)(d:pB X.env.scope x)(r:av v u)
  (h:∀a,ae X xC (σ.set i<|Aa v) H a->Q () a) (e:X.fn x=true\/ X.env.scope.names.lookup x=Aa .local:=by first | exact .inl rfl | exact .inr rfl | assumption):Ak M A (storeName X.env x u) Q E s:=
 SH I b c d r (λa f _=>h a f) e
def ae.call'{s':Af}{ch:Ab Ac}(I:ae X xC σ H s)(a:s'.os=s.os)(u:Un (cC X.stack) ch H H' s.heap s'.heap)(d:HOk X.prog X.w H' s'.heap)(f:DK s'.gens)
  (J:∀b∈ch,(b∈X.ex\/ X.s₀.heap.objs.size<=b)/\b≠X.env.locals/\(∀x c,X.env.cells.lookup x=Aa c->c≠b)/\∀p∈X.pn++xC,p.1≠b):ae X xC σ H' s':=by
 obtain⟨h',g',d',t',g⟩:=s';have e:g=s.os:=a;subst e;exact I.call (g':=g') (t':=t') (d':=d') u d f J
end
abbrev XK:=Ad->Ag Ac->Hp->Prop
abbrev St:=Ab<|Ag V
abbrev VK:=V->Hp->Prop
abbrev TE:=St->Hp->VK->Prop
abbrev TT:=St->Hp->(AJ->Hp->Prop)->Prop
abbrev TA:=St->Hp->(Ab V->Hp->Prop)->Prop
structure dJ where
 nx:St->Hp->Prop
 rt:VK
 bk:St->Hp->Prop:=λ_ _=>Bj
 ct:St->Hp->Prop:=λ_ _=>Bj
abbrev TS:=dJ->St->Hp->Prop
def EP(X:Cx)(b:xG)(c:St)(Q:VK)(u:Ad)(d:Af):Prop:=∃v a,ae X b c a d/\av v u/\Q v a
def TP(X:Cx)(c:xG)(d:St)(Q:AJ->Hp->Prop)(b:AJ)(e:Af):Prop:=∃a,ae X c d a e/\Q b a
def AP(X:Cx)(c:xG)(d:St)(Q:Ab V->Hp->Prop)(e:xH)(f:Af):Prop:=∃a b,ae X c d b f/\ap a e/\Q a b
def SP(X:Cx)(c:xG)(D:dJ)(f:Flow)(d:Af):Prop:=
 match f with
 | .next=>∃b a,ae X c b a d/\D.nx b a
 | .brk=>∃b a,ae X c b a d/\D.bk b a
 | .cont=>∃b a,ae X c b a d/\D.ct b a
 | .ret u=>∃v b a,ae X c b a d/\av v u/\D.rt v a
def PE(X:Cx)(e:AK)(t:TE):Prop:=
 ∀(b:xG) (s:Af) (a:St) (H:Hp) (Q:VK),ae X b a H s->t a H Q->Ak (Ao X.prog X.w) X.A (Bp e X.env) (EP X b a Q) X.xe s
def PT(X:Cx)(e:AK)(t:TT):Prop:=
 ∀(b:xG) (s:Af) (a:St) (H:Hp) (Q:AJ->Hp->Prop),ae X b a H s->t a H Q->Ak (Ao X.prog X.w) X.A (isTrue e X.env<|Bp e X.env) (TP X b a Q) X.xe s
def PW(X:Cx)(e:AK)(t:TT):Prop:=
 ∀(c:Sem Ad) (b:xG) (s:Af) (a:St) (H:Hp) (Q:AJ->Hp->Prop),ae X b a H s->t a H Q->Ak (Ao X.prog X.w) X.A (isTrue e X.env c) (TP X b a Q) X.xe s
variable{e:AK}
def PW.pt{X:Cx}{t:TT}(h:PW X e t):PT X e t:=h _
def PA(X:Cx)(c:Ab AK)(t:TA):Prop:=
 ∀(d:Pos) (b:xG) (s:Af) (a:St) (H:Hp) (Q:Ab V->Hp->Prop),ae X b a H s->t a H Q->Ak (Ao X.prog X.w) X.A (spliced<|Bs d<|AA c X.env) (AP X b a Q) X.xe s
def PS(X:Cx)(st:AV)(t:TS):Prop:=
 ∀(a:xG) (s:Af) (b:St) (H:Hp) (D:dJ),ae X a b H s->t D b H->Ak (Ao X.prog X.w) X.A (exec st X.env) (SP X a D) X.xe s
def bf(X:Cx)(st:Ab AV)(t:TS):Prop:=
 ∀(a:xG) (s:Af) (b:St) (H:Hp) (D:dJ),ae X a b H s->t D b H->Ak (Ao X.prog X.w) X.A (execs st X.env) (SP X a D) X.xe s
variable{M:Cv}
def am{b:Type}{t:Sem b}{Q J:b->Af->Prop}{A:As}{E:xB}{s:Af}(h:Ak M A t Q E s)(c:∀a s,Q a s->J a s):Ak M A t J E s:=bK h c λ_ _ x=>x
section
variable{X:Cx}
inductive vy (i:Nat) (a:St) (H:Hp) (Q:VK):Prop
 | mk:∀v,(a[i]? =Aa (Aa v))->(Q v H)->vy i a H Q
def tC(v:V):TE:=λ_ H Q=>Q v H
def Oi{i:Nat}{x:Str}{d:Pos}(f:X.N[i]? =Aa x)(g:vd X.env.scope x)(b:(x==("__debug__":Str))=false:=by decide)(O:(x==("__classdict__":Str))=false:=by decide):PE X (.Name x d) (vy i):=by
 intro j s k H Q I h;obtain⟨v,e,h⟩:=h;obtain⟨m,n,o⟩:=I.loc;obtain⟨u,r,l⟩:=o i x v f e g;have fin:EP X j k Q u s:=⟨v,H,I,r,h⟩;rcases l with ⟨a,p⟩ | ⟨a,c,Y,J⟩
 .exact Hu (wpAny_loadName_local I.ok.kind a n p fin) b
 .rcases a with a | a
  .exact Hu (wpAny_loadName_cell I.ok.kind a Y J fin) b
  .exact Hu (wpAny_loadName_free I.ok.kind a Y J fin O) b
def qd{i j pos}:PE X (.Constant (.int i) j pos) (tC<|.int i):=λ_ _ _ H _ I h=>wpAny_Constant_int ⟨.int i,H,I.tok _,⟨_,rfl⟩,h⟩
def cM{b j pos}:PE X (.Constant (.bool b) j pos) (tC<|.bl b):=λ_ _ _ H _ I h=>Constant_bool ⟨.bl b,H,I,rfl,h⟩
def rG{j pos}:PE X (.Constant .none j pos) (tC .non):=λ_ _ _ H _ I h=>Constant_none ⟨.non,H,I,rfl,h⟩
def gx{x j pos}:PE X (.Constant (.str x) j pos) (tC<|.str x):=λ_ _ _ H _ I h=>Calls.Constant_str ⟨.str x,H,I.tok _,⟨_,rfl⟩,h⟩
def Gl(X:Cx)(x:Str):Prop:=X.env.kindOf x=Aa .globalImplicit
def jb{E:xB}{a:xG}{s:Af}{b:St}{H:Hp}{x:Str}{u:Ad}{c:Pos}{Q:xB}(I:ae X a b H s)(d:Gl X x)(e:X.mg x=Aa u)(h:Q u s)
  (f:(x==("__debug__":Str))=false:=by decide):Ak (Ao X.prog X.w) X.A (Bp (.Name x c) X.env) Q E s:=
 DX I.ok.kind d (Calls.loadGlobal_global (by rw[I.ok.glob];exact I.mod.glob.keeps I.bk) e h) f
def ky{E:xB}{a:xG}{s:Af}{b:St}{H:Hp}{x:Str}{u:Ad}{c:Pos}{Q:xB}(I:ae X a b H s)(d:Gl X x)(e:X.mg x=none)(f:AU x=Aa u)(h:Q u s)
  (g:x≠"__name__":=by decide) (i:(x==("__debug__":Str))=false:=by decide):Ak (Ao X.prog X.w) X.A (Bp (.Name x c) X.env) Q E s:=by
 obtain⟨l,j,k⟩:=I.mod.blt;exact DX I.ok.kind d (Calls.loadGlobal_builtin (by rw[I.ok.glob];exact I.mod.glob.keeps I.bk) e (by rw[I.ok.blt];exact j.keeps I.bk) ((k x g).trans f) h) i
def rJ{x:Str}{v:V}{u:Ad}{a:Pos}(b:Gl X x)(c:X.mg x=Aa u)(r:av v u)(d:(x==("__debug__":Str))=false:=by decide):PE X (.Name x a) (tC v):=
 λ_ _ _ H _ I h=>jb I b c ⟨v,H,I,r,h⟩ d
def OY{x:Str}{v:V}{u:Ad}{a:Pos}(b:Gl X x)(c:X.mg x=none)(d:AU x=Aa u)(r:av v u)(e:x≠"__name__":=by decide)(f:(x==("__debug__":Str))=false:=by decide):PE X (.Name x a) (tC v):=
 λ_ _ _ H _ I h=>ky I b c d ⟨v,H,I,r,h⟩ e f
variable{a b:AK}{ta tb:TE}{pos:Pos}
def PC(X:Cx)(e:IA)(a b:AK)(t:TE):Prop:=
 ∀(d:xG) (s:Af) (c:St) (H:Hp) (Q:VK),ae X d c H s->t c H Q->
  Ak (Ao X.prog X.w) X.A (Bp a X.env) (λv f=>Ak (Ao X.prog X.w) X.A (Bp b X.env) (λu g=>Ak (Ao X.prog X.w) X.A (Bg e v u) (EP X d c Q) X.xe g) X.xe f) X.xe s
inductive zy (Q:AJ->Hp->Prop) (x:V) (a:Hp):Prop
 | mk:∀c,(x= .bl c)->(Q c a)->zy Q x a
def tB(t:TE):TT:=λa H Q=>t a H λx b=>zy Q x b
def VR{c:IA}{t:TE}(h:PC X c a b t)(d:CA c b=false:=by first | exact nobehind _ (by decide) (by decide) | rfl):PE X (.Compare a [c] [b] pos) t:=λe s f H Q I g=>Hv (h e s f H Q I g) d
def ni{e:IA}{t:TE}(h:PC X e a b t)(f:CA e b=false:=by first | exact nobehind _ (by decide) (by decide) | rfl):PT X (.Compare a [e] [b] pos) (tB t):=by
 intro g s i H Q I j;refine Fj (am (h g s i H _ I j) λv p f=>am f λu r k=>am k λc w J=>?_) f;obtain⟨x,l,m,n,o⟩:=J;obtain⟨d,rfl,q⟩:=o;cases n
 exact gj ⟨l,m,q⟩
def dX{e:AK}{t:TE}(h:PE X e t)(a:∀J,isTrue e X.env J=(do let v <- J;DL e.pos;Dp [v] (truthy v)):=by intro _;rfl):PT X e (tB t):=by
 intro b s c H Q I f;refine IK (am (h b s c H _ I f) λv l O=>?_)<|a _;obtain⟨x,g,i,j,k⟩:=O;obtain⟨d,rfl,q⟩:=k;cases j
 exact gj ⟨g,i,q⟩
variable{tA tB':TT}{rest:Ab AK}
def Qp(t u:TT):TT:=λa H Q=>t a H λc b=>if c=true then Q true b else u a b Q
def SV(t:TT):TT:=λa H Q=>t a H λc b=>Q (!c) b
def kb(b:PT X a tA):PW X (.BoolOp .Or [a] pos) tA:=by
 intro g d s f H Q I h;refine isTrue_or (am (b d s f H Q I h) λc i e=>?_);cases c with
 | false=>exact isTrue_or_nil e
 | true=>exact e
def kl(j:PT X a tA)(k:PW X (.BoolOp .Or (b::rest) pos) tB'):PW X (.BoolOp .Or (a::b::rest) pos) (Qp tA tB'):=by
 intro l d s e H Q I h;refine isTrue_or (am (j d s e H _ I h) λc m J=>?_);obtain⟨f,g,i⟩:=J;cases c with
 | true=>exact⟨f,g,i⟩
 | false=>exact k l d m e f Q g i
def el(b:PT X a tA):PT X (.UnaryOp .Not a pos) (SV tA):=by
 intro d s e H Q I h;exact isTrue_not<|b d s e H (λc f=>Q (!c) f) I h
inductive An (b:TE) (d:St) (Q:VK) (x:V) (a:Hp):Prop
 | mk:∀c,(x= .bl c)->(if c=true then b d a Q else Q (.bl false) a)->An b d Q x a
def X_(b c:TE):TE:=λa H Q=>b a H λx d=>An c a Q x d
inductive xM (Q:VK) (x:V) (a:Hp):Prop
 | mk:∀c,(x= .bl c)->(Q (.bl (!c)) a)->xM Q x a
def Qo(a:TE):TE:=λb H Q=>a b H λx c=>xM Q x c
def nM{op}{t:TE}(h:PE X a t):PE X (.BoolOp op [a] pos) t:=λb s c H Q I d=>BoolOp_one<|h b s c H Q I d
def mO(j:PE X a ta)(k:PE X (.BoolOp .And (b::rest) pos) tb):PE X (.BoolOp .And (a::b::rest) pos) (X_ ta tb):=by
 intro e s f H Q I h;refine BoolOp_and (am (j e s f H _ I h) λv l J=>?_);obtain⟨x,g,i,m,d⟩:=J;obtain⟨c,rfl,d⟩:=d;cases m
 refine gj ?_;cases c with
 | true=>exact k e l f g Q i d
 | false=>exact⟨.bl false,g,i,rfl,d⟩
def US(d:PE X a ta):PE X (.UnaryOp .Not a pos) (Qo ta):=by
 intro e s f H Q I h;refine UnaryOp_ (am (d e s f H _ I h) λv k J=>?_);obtain⟨x,g,i,j,b⟩:=J;obtain⟨c,rfl,b⟩:=b;cases j
 exact not_of<|gj ⟨.bl<|!c,g,i,zr,b⟩
def Vf(t:TT)(d e:TE):TE:=λa H Q=>t a H λc b=>if c=true then d a b Q else e a b Q
def ZK{c:AK}(l:PT X c tA)(m:PE X a ta)(n:PE X b tb):PE X (.IfExp c a b pos) (Vf tA ta tb):=by
 intro e s f H Q I h;refine wpAny_IfExp (am (l e s f H _ I h) λd g J=>?_);obtain⟨i,j,k⟩:=J;cases d with
 | true=>exact m e g f i Q j k
 | false=>exact n e g f i Q j k
end
def aK(K:xA)(H:Hp)(a:Ac)(c:Ab V):Prop:=
 Rd H a (.lst c)\/
  ∃(o:Obj) (b:Am Ad) (n:Nat),K.lookup a=Aa o/\o.cls= .type "list"/\o.dict=none/\o.data= .seq b n/\b.size<=sizeLine/\ap c b.toList
def aU(K:xA)(H:Hp)(a:Ac)(c:Ab V):Prop:=
 Rd H a (.tup c)\/
  ∃(o:Obj) (b:Am Ad) (n:Nat),K.lookup a=Aa o/\o.cls= .type "tuple"/\o.data= .seq b n/\b.size<=sizeLine/\ap c b.toList
def Zi:Ad->Ag V
 | .none=>Aa .non
 | .bool b=>Aa<|.bl b
 | .int i _=>Aa<|.int i
 | .str x _=>Aa<|.str x
 | .bytes b _=>Aa<|.byt b
 | .float b _=>Aa<|.flt b
 | .ref a=>Aa<|.ref a
 | .type n=>Aa<|.ty n
 | _=>none
variable{u:Ad}
def av.abs{x:V}(r:av x u):Zi u=Aa x:=by
 cases x with
 | non=>cases r;rfl
 | bl _=>cases r;rfl
 | int _=>obtain⟨t,rfl⟩:=r;rfl
 | str _=>obtain⟨t,rfl⟩:=r;rfl
 | byt _=>obtain⟨t,rfl⟩:=r;rfl
 | flt _=>obtain⟨t,rfl⟩:=r;rfl
 | ref _=>cases r;rfl
 | ty _=>cases r;rfl
theorem av.inj{x y:V}(r:av x u)(q:av y u):x=y:=AO<|r.abs.symm.trans q.abs
theorem ap.inj:∀{a b:Ab V} {c:xH},ap a c->ap b c->a=b
 | _,_,_,.nil,.nil=>rfl
 | _,_,_,.cons r t,.cons d e=>by rw[r.inj d,ap.inj t e]
section
variable{X:Cx}{xC:xG}{σ:St}{H:Hp}{s:Af}{a:Ac}{xs ys:Ab V}
def aK.of{K:xA}(h:H a=Aa (.lst xs)):aK K H a xs:= .inl<|.inl h
def aU.of{K:xA}(h:H a=Aa (.tup xs)):aU K H a xs:= .inl<|.inl h
theorem ae.list(I:ae X xC σ H s)(h:aK X.K H a xs):∃b:Ab Ad,ap xs b/\PlainL s.heap a b.toArray/\xs.length<=sizeLine:=by
 rcases h with h | ⟨o,b,n,c,d,f,g,i,r⟩
 .obtain⟨z,b,n,r,e⟩:=h.ok I.hok;exact⟨b,r,⟨_,n,e,zr,zr,zr⟩,z⟩
 .refine⟨b.toList,r,⟨o,n,I.kIn a o c,d,f,by simpa using g⟩,?_⟩;have e:=r.length;simp only[aI]at e
  lia
theorem ae.tuple(I:ae X xC σ H s)(h:aU X.K H a xs):∃b:Ab Ad,ap xs b/\Hs s.heap a b.toArray/\xs.length<=sizeLine:=by
 rcases h with h | ⟨o,b,n,c,d,f,g,r⟩
 .obtain⟨z,b,r,p⟩:=h.ok I.hok;exact⟨b,r,p,z⟩
 .refine⟨b.toList,r,⟨o,I.kIn a o c,d,n,by simpa using f⟩,?_⟩;have e:=r.length;simp only[aI]at e
  lia
def ae.vR(I:ae X xC σ H s)(h:aK X.K H a xs)(f:aK X.K H a ys):xs=ys:=by
 obtain⟨g,r,⟨o,n,e,_,_,d⟩,_⟩:=I.list h;obtain⟨its',i,⟨k,l,b,_,_,c⟩,_⟩:=I.list f;rw[e]at b;cases b;rw[d]at c;injection c with j _;have:g=its':=by simpa using Ba IL j
 subst this;exact r.inj i
def ae.Zj(I:ae X xC σ H s)(h:aU X.K H a xs)(f:aU X.K H a ys):xs=ys:=by
 obtain⟨g,r,⟨o,e,_,n,d⟩,_⟩:=I.tuple h;obtain⟨its',i,⟨k,b,_,l,c⟩,_⟩:=I.tuple f;rw[e]at b;cases b;rw[d]at c;injection c with j _;have:g=its':=by simpa using Ba IL j
 subst this;exact r.inj i
end
abbrev Cx.wish(X:Cx)(E:xB):Cx:={X with xe:=E}
abbrev Cx.nox(X:Cx):Cx:=X.wish λ_ _=>Bj
theorem Cx.Ok.wish{X:Cx}(ok:X.Ok)(E:xB):(X.wish E).Ok:=
 ⟨ok.mod,ok.kind,ok.glob,ok.blt,ok.above,ok.inj,ok.has,ok.cab,ok.hd,ok.frames,ok.stk,ok.exf,ok.bs,ok.bsz,ok.noex,ok.exfs,ok.funs,ok.frf⟩
def Cx.Ok.unwish{X:Cx}{E:xB}(ok:(X.wish E).Ok):X.Ok:=
 ⟨ok.mod,ok.kind,ok.glob,ok.blt,ok.above,ok.inj,ok.has,ok.cab,ok.hd,ok.frames,ok.stk,ok.exf,ok.bs,ok.bsz,ok.noex,ok.exfs,ok.funs,ok.frf⟩
section
variable{X:Cx}{xC:xG}{σ:St}{H:Hp}{s:Af}{E:xB}
theorem ae.wish(I:ae X xC σ H s)(E:xB):ae (X.wish E) xC σ H s:=⟨I.ok.wish E,I.os,I.bare,I.base,I.loc,I.cell,I.free,I.freeC,I.pin,I.hok,I.len⟩
theorem ae.unwish(I:ae (X.wish E) xC σ H s):ae X xC σ H s:=⟨I.ok.unwish,I.os,I.bare,I.base,I.loc,I.cell,I.free,I.freeC,I.pin,I.hok,I.len⟩
theorem SP.unwish{D:dJ}{f:Flow}{s':Af}(h:SP (X.wish E) xC D f s'):SP X xC D f s':=by
 cases f with
 | next=>obtain⟨a,b,I,q⟩:=h;exact⟨a,b,I.unwish,q⟩
 | brk=>obtain⟨a,b,I,q⟩:=h;exact⟨a,b,I.unwish,q⟩
 | cont=>obtain⟨a,b,I,q⟩:=h;exact⟨a,b,I.unwish,q⟩
 | ret u=>obtain⟨v,a,b,I,r,q⟩:=h;exact⟨v,a,b,I.unwish,r,q⟩
theorem bf.nox{st:Ab AV}{t:TS}(h:bf X.nox st t):bf X st t:=λxC s σ H D I a=>
 bK (h xC s σ H D (I.wish _) a) (λ_ _ q=>q.unwish) λ_ _ z=>Bc z
end
section
variable{X:Cx}{st:AV}{rest:Ab AV}{t u:TS}{e:AK}{te:TE}{pos:Pos}
def VP:TS:=λD a H=>D.nx a H
def bM(t u:TS):TS:=λD a H=>t {D with nx:=u D} a H
def ci:bf X [] VP:=λ_ _ a H _ I h=>CG ⟨a,H,I,h⟩
def qw(b:PS X st t)(c:bf X rest u):bf X (st::rest) (bM t u):=by
 intro a s d H D I h;refine GG (am (b a s d H {D with nx:=u D} I h) λf e q=>?_);cases f with
 | next=>
  obtain⟨g,i,j,q⟩:=q;exact c a e g i D j q
 | ret v=>exact q
 | brk=>exact q
 | cont=>exact q
def qg(a:PS X st t):bf X [st] t:=by
 intro b s c H D I h;refine GG (am (a b s c H D I h) λf d q=>?_);cases f with
 | next=>exact CG q
 | ret v=>exact q
 | brk=>exact q
 | cont=>exact q
def ae.quiet{a:xG}{b:St}{H:Hp}{s:Af}(I:ae X a b H s):Je X.env=false:=by simp[Je,I.ok.kind]
def Rr(b:TE):TS:=λD a H=>b a H λ_ c=>D.nx a c
def cy(b:PE X e te)(c:EB e none pos.line X.env=AX false:=by rfl):PS X (.Expr e pos) (Rr te):=by
 intro d s a H D I h;exact wpAny_Expr_any (am (b d s a H _ I h) λv j ⟨x,f,g,k,i⟩=>⟨a,f,g,i⟩) I.quiet c
def Xi(a:TE):TS:=λD b H=>a b H D.rt
def qi(b:PE X e te):PS X (.Return (Aa e) pos) (Xi te):=by
 intro c s a H D I h;exact wpAny_Return_some (am (b c s a H _ I h) λv j ⟨x,d,f,g,i⟩=>⟨x,a,d,f,g,i⟩)
def RX(c:TT)(t u:TS):TS:=λD a H=>c a H λb d=>if b=true then t D a d else u D a d
def bQ{c:AK}{a b:Ab AV}{g:TT}(m:PT X c g)(n:bf X a t)(o:bf X b u):PS X (.If c a b pos) (RX g t u):=by
 intro e s f H D I h;refine wpAny_If (am (m e s f H _ I h) λd i J=>?_);obtain⟨j,k,l⟩:=J;cases d with
 | true=>exact n e i f j D k l
 | false=>exact o e i f j D k l
end
abbrev TG:=V->St->Hp->(St->Hp->Prop)->Prop
abbrev ij:=Ab V->St->Hp->(St->Hp->Prop)->Prop
def PG(X:Cx)(e:AK)(t:TG):Prop:=
 ∀(a:xG) (s:Af) (b:St) (H:Hp) (v:V) (u:Ad) (Q:St->Hp->Prop),ae X a b H s->av v u->t v b H Q->
  Ak (Ao X.prog X.w) X.A (FY e X.env u) (λ_ f=>∃c d,ae X a c d f/\Q c d) X.xe s
def lv(X:Cx)(g:Ab AK)(t:ij):Prop:=
 ∀(a:xG) (s:Af) (b:St) (H:Hp) (c:Ab V) (d:xH) (Q:St->Hp->Prop),ae X a b H s->ap c d->t c b H Q->
  Ak (Ao X.prog X.w) X.A (Ig ((B8 g X.env).map (·.2)) d) (λ_ h=>∃e f,ae X a e f h/\Q e f) X.xe s
section
variable{X:Cx}{pos:Pos}
def uD(i:Nat):TG:=λv a H Q=>Q (a.set i<|Aa v) H
def qk{i:Nat}{x:Str}(a:X.N.Nodup)(b:X.N[i]? =Aa x)(c:pB X.env.scope x)(d:X.fn x=true\/ X.env.scope.names.lookup x=Aa .local:=by first | exact .inl rfl | exact .inr rfl | assumption):PG X (.Name x pos) (uD i):=by
 intro f s g H v u Q I r h;exact Gg<|oj I a b c r (λj e=>⟨_,H,e,h⟩) d
def Rg:ij:=λa b H Q=>a=[]/\Q b H
inductive MW (t:TG) (u:ij) (a:Ab V) (b:St) (H:Hp) (Q:St->Hp->Prop):Prop
 | mk:∀v r,(a=v::r)->(t v b H λc d=>u r c d Q)->MW t u a b H Q
def iS:lv X [] Rg:=by
 intro b s a H c d Q I r h;obtain⟨e,h⟩:=h;subst e;cases r
 exact assignInOrder_nil ⟨a,H,I,h⟩
def dQ{e:AK}{a:Ab AK}{t:TG}{u:ij}(c:PG X e t)(d:lv X a u)
  (f:(B8 (e::a) X.env).map (·.2)=FY e X.env::(B8 a X.env).map (·.2):=by rfl):lv X (e::a) (MW t u):=by
 intro b s g H p q Q I r h;obtain⟨v,w,i,h⟩:=h;subst i;cases r with
 | cons r j=>
  rw[f];refine assignInOrder_cons (am (c b s g H _ _ _ I r h) λ_ k J=>?_);obtain⟨l,m,n,o⟩:=J;exact d b k l m _ _ Q n j o
inductive uP (K:xA) (n:Nat) (t:ij) (v:V) (c:St) (H:Hp) (Q:St->Hp->Prop):Prop
 | mk:∀a b,(v= .ref a)->(aU K H a b)->(b.length=n)->(t b c H Q)->uP K n t v c H Q
def ot{c:Ab AK}{k:Nat}{t:ij}{n:Nat}(j:X.calm=true)(h:lv X c t)
  (l:(B8 c X.env).length=n:=by rfl) (J:(B8 c X.env).findIdx? (·.1)=none:=by rfl):PG X (.Tuple c k pos) (uP X.K n t):=by
 intro f s g H v u Q I r d;obtain⟨a,m,p,q,w,d⟩:=d;subst p;cases r
 obtain⟨B,i,x,C⟩:=I.tuple q;refine assign_Tuple_tuple (I.ok.hd j) x (by simp[l,<- w,i.length]) J λy z=>?_;have A:ae X f g H {s with heap:=y}:=I.kept (t':=s.toks) λb o e=>z b o (aJ<|aC e) e;exact h f _ g H m _ Q A (by simpa using i) d
def tq(b:TE)(g:TG):TS:=λD a H=>b a H λx c=>g x a c D.nx
def xP{a e:AK}{b:TE}{g:TG}(f:PE X e b)(i:PG X a g)(j:swapsWithSole [a] e pos.line X.env=AX false:=by rfl)(k:swappedStores [a] e X.env=AX none:=by rfl)
  (l:(B8 [a] X.env).map (·.2)=[FY a X.env]:=by rfl):PS X (.Assign [a] e pos) (tq b g):=by
 intro c s d H D I h;refine wpAny_Assign_stores (am (f c s d H _ I h) λv m J=>?_) j k;obtain⟨x,n,o,p,r⟩:=J;rw[l];exact am (i c m d n x v _ o p r) λ_ t q=>q
def ql{i:Nat}{x:Str}{e:AK}{a:TE}{b:Pos}(c:X.N.Nodup)(d:X.N[i]? =Aa x)(f:pB X.env.scope x)(g:PE X e a)(j:EB e (Aa<|.Name x b) pos.line X.env=AX false:=by rfl)(k:X.fn x=true\/ X.env.scope.names.lookup x=Aa .local:=by first | exact .inl rfl | exact .inr rfl | assumption):
  PS X (.Assign [.Name x b] e pos) (tq a<|uD i):=by
 intro l s m H D I h;refine wpAny_Assign_Name (am (g l s m H _ I h) λv t J=>?_) j;obtain⟨y,n,o,p,q⟩:=J;exact oj o c d f p (λu r=>⟨_,n,r,q⟩) k
end
section
variable{X:Cx}{pos:Pos}
def Xv(c:TT)(h:TS):TS:=λD a H=>∃W:Nat->St->Hp->Prop,(∃m,W m a H)/\∀m a H,W m a H->
 c a H λb d=>if b=true then ∃N:St->Hp->Prop,(∀e f,N e f->∃g,g < m/\W g e f)/\h {D with nx:=N,ct:=N,bk:=D.nx} a d else D.nx a d
def Pe{c:AK}{body:Ab AV}{m:TT}{o:TS}(p:PassesOwn (Ao X.prog X.w) X.A X.env X.xe)(y:PT X c m)(z:bf X body o):PS X (.While c body [] pos) (Xv m o):=by
 intro j s A H D I h;obtain⟨W,⟨B,C⟩,turn⟩:=h;refine wpAny_While<|codeAny_whileLoop (λn E=>∃q r,ae X j q r E/\W n q r) ?_ B ⟨A,H,I,C⟩;rintro n F ⟨e,t,G,K⟩;refine jr p (am (y j F e t _ G<|turn n e t K) λb L Z=>?_);obtain⟨u,w,g⟩:=Z;cases b with
 | true=>
  obtain⟨N,x,g⟩:=g;rw[Ah rfl];refine jr p (am (z j L e u _ w g) λf M i=>?_);cases f with
  | next=>
   obtain⟨a,d,k,O⟩:=i;obtain⟨J,l,Y⟩:=x a d O;exact⟨J,l,a,d,k,Y⟩
  | cont=>
   obtain⟨a,d,k,O⟩:=i;obtain⟨J,l,Y⟩:=x a d O;exact⟨J,l,a,d,k,Y⟩
  | brk=>exact i
  | ret v=>exact i
 | false=>
  rw[Ae aY];exact CG ⟨e,u,w,g⟩
end
structure It where
 go:Nat->Hp->Prop
 yld:Nat->Hp->V->Hp->Prop
 stop:Nat->Hp->Prop
def cf(X:Cx)(a:xG)(H:Hp)(b:Ac):Prop:=
 H b=none/\b≠X.env.locals/\b∉X.fs/\(b∈X.ex\/ X.s₀.heap.objs.size<=b)/\(∀x c,X.env.cells.lookup x=Aa c->c≠b)/\∀p∈X.pn++a,p.1≠b
def ae.fpOk{X:Cx}{d:xG}{g:St}{H f:Hp}{s:Af}(I:ae X d g H s)(a:s.heap.objs.size<=b)(h:f b=none):cf X d f b:=by
 refine⟨h,ge<|cp I.lt a,I.nofs a,.inr<|az I.sz a,λx c e z=>?_,λp i z=>?_⟩
 .obtain⟨v,q⟩:=I.cell x c e;exact Au (cp q.lt (by rw[z];exact a))<|ii _
 .exact Au (cp (aC (I.pin p i).1) (by rw[z];exact a))<|ii _
structure iE (P:Ai) (w:Al) (K:xA) (tg:AK) (J:It) (fp:Ab Ac) (it:Ac) (tn:Nat->AH->Prop):Prop where
 mem:it∈fp
 obj:∀i h,tn i h->∀b∈fp,∃o,h.get? b=Aa o/\∀v,o.data≠ .cell v
 keep:∀i h h',tn i h->(∀b∈fp,∀o,h.get? b=Aa o->h'.get? b=Aa o)->tn i h'
 item:∀(X:Cx),X.prog=P->X.w=w->X.K=K->X.calm=true->∀(i:Nat) (xC:xG) (s:Af) (σ:St) (H:Hp) (E:xB),ae X xC σ H s->(∀b∈fp,cf X xC H b)->tn i s.heap->J.go i H->
  Ak (Ao P w) X.A (Cm (.ref it)) (λr s1=>∃u,r=Aa u/\
   Ak (Ao P w) X.A (Cb tg (.ref it) u) (λ_ s2=>∃x H',ae X xC σ H' s2/\av x u/\J.yld i H x H'/\tn (i+1) s2.heap/\∀b∈fp,H' b=none) E s1) E s
 done:∀(X:Cx),X.prog=P->X.w=w->X.K=K->X.calm=true->∀(i:Nat) (xC:xG) (s:Af) (σ:St) (H:Hp) (E:xB),ae X xC σ H s->(∀b∈fp,cf X xC H b)->tn i s.heap->J.stop i H->
  Ak (Ao P w) X.A (Cm (.ref it)) (λr s1=>r=none/\ae X xC σ H s1) E s
 self:∀(A:As) (i:Nat) (s:Af) (Q:xB) (E:xB),tn i s.heap->Q (.ref it) s->Ak (Ao P w) A (ET (.ref it)) Q E s
abbrev TI:=St->Hp->(It->Hp->Prop)->Prop
def tE(X:Cx)(c:xG)(h:St)(i:AK)(R:It->Hp->Prop)(j:Ad)(d:Af):Prop:=
 ∃(e:Ac) (f:Ab Ac) (g:Nat->AH->Prop) (J:It) (a:Hp),j= .ref e/\ae X c h a d/\iE X.prog X.w X.K i J f e g/\g 0 d.heap/\(∀b∈f,cf X c a b)/\R J a
def PI(X:Cx)(c iter:AK)(d:TI):Prop:=
 ∀(b:xG) (s:Af) (a:St) (H:Hp) (R:It->Hp->Prop),ae X b a H s->d a H R->
  Ak (Ao X.prog X.w) X.A (Bp iter X.env) (λv e=>Ak (Ao X.prog X.w) X.A (ET v) (tE X b a c R) X.xe e) X.xe s
variable{tg:AK}
def nk{A:As}{E:xB}{s:Af}{a:Ac}{n:BL}{b:Am Ad}{Q:Ge->Af->Prop}(c:s.heap.get? a=Aa o)(d:o.cls= .type n)(e:o.data= .fields b)
    (f: ["enumerate","zip","dict_itemiterator","dict_reverseitemiterator","odict_iterator","itertools.zip_longest","itertools.pairwise"].contains n=false) (J:Q () s):Ak M A (Cb tg (.ref a) u) Q E s:=by
  unfold Cb;cases tg <;> first
    | exact ah J
    | (cases u <;> first
        | exact ah J
        | (refine ac (DY c ?_)
           rw[d,e];show Ak M A (if (["enumerate","zip","dict_itemiterator","dict_reverseitemiterator","odict_iterator","itertools.zip_longest","itertools.pairwise"].contains n&&b[0]? ==Aa (BK _))=true then _ else _) Q E s;rw[Ae (by intro h;rw[f,hV]at h;cases h)];exact ah J))
def lV(K:xA)(a:Ac):It:=
 ⟨λi H=>∃b x,aK K H a b/\b[i]? =Aa x,λi H x c=>c=H/\∀b,aK K H a b->b[i]? =Aa x,λi H=>∃b,aK K H a b/\b.length<=i⟩
def lU(K:xA)(a:Ac):It:=
 ⟨λi H=>∃b x,aU K H a b/\b[i]? =Aa x,λi H x c=>c=H/\∀b,aU K H a b->b[i]? =Aa x,λi H=>∃b,aU K H a b/\b.length<=i⟩
def kG(lo:Int)(n:Nat):It:=⟨λi _=>i < n,λi H x a=>a=H/\x= .int (lo+i),λi _=>n<=i⟩
variable{w:Al}{K:xA}
theorem VA(a it:Ac):iE P w K tg (lV K a) [it] it (λi h=>h.IsListIter it a i) where
 mem:=by simp
 obj:=λi h st b f=>by
  have e:b=it:=by simpa using f
  subst e;obtain⟨o,e,c,d⟩:=st;exact⟨o,e,λv z=>by rw[d]at z;cases z⟩
 keep:=λi h g st k=>st.at λo e=>k it (by simp) o e
 item:=by
  intro X l m Z C i D s F H E I O st n;subst l m Z;obtain⟨G,x,j,q⟩:=n;obtain⟨L,r,p,M⟩:=I.list j;obtain⟨u,N,Q⟩:=r.get q;obtain⟨Y,t,R,y,A,B⟩:=O it (by simp);refine EU st p.isList (x:=u) (by simpa using N) λg J S=>?_;have T:ae X D F H {s with heap:=g}:=I.turned (t':=s.toks) (λb o f e=>(S.2 b f).trans e) Y t y A B;obtain⟨o,e,c,d⟩:=id J;exact⟨u,rfl,nk (s:={s with heap:=g}) e c d (by decide) ⟨x,H,T,Q,⟨rfl,λa0 U=>by rw[I.vR U j];exact q⟩,J,λb f=>(O b f).1⟩⟩
 done:=by
  intro X l m Z C i D s F H E I O st n;subst l m Z;obtain⟨G,j,q⟩:=n;obtain⟨L,r,p,M⟩:=I.list j;obtain⟨Y,t,R,y,A,B⟩:=O it (by simp);have b0:=r.length;exact Fk (I.ok.hd C) st p.isList (by simp;lia) λg W=>⟨rfl,I.turned (t':=s.toks) (λb o f e=>W b o f e) Y t y A B⟩
 self:=λ_ _ _ _ _ st h=>wpAny_pyIter_listiter st h
theorem Zl(a it:Ac):iE P w K tg (lU K a) [it] it (λi h=>h.IsTupleIter it a i) where
 mem:=by simp
 obj:=λi h st b f=>by
  have e:b=it:=by simpa using f
  subst e;obtain⟨o,e,c,d⟩:=st;exact⟨o,e,λv z=>by rw[d]at z;cases z⟩
 keep:=λi h g st k=>st.at λo e=>k it (by simp) o e
 item:=by
  intro X l m Z D i F s G H E I O st n;subst l m Z;obtain⟨L,x,j,q⟩:=n;obtain⟨r,t,p,M⟩:=I.tuple j;obtain⟨u,N,Q⟩:=t.get q;obtain⟨Y,y,R,A,B,C⟩:=O it (by simp);refine wpAny_pyNext_tuple_item st (show s.heap.IsTuple a r.toArray from p) (x:=u) (by simpa using N) λg J S=>?_;have T:ae X F G H {s with heap:=g}:=I.turned (t':=s.toks) (λb o f e=>(S.2 b f).trans e) Y y A B C;obtain⟨o,e,c,d⟩:=id J;exact⟨u,rfl,nk (s:={s with heap:=g}) e c d (by decide) ⟨x,H,T,Q,⟨rfl,λa0 U=>by rw[I.Zj U j];exact q⟩,J,λb f=>(O b f).1⟩⟩
 done:=by
  intro X l m Z D i F s G H E I O st n;subst l m Z;obtain⟨L,j,q⟩:=n;obtain⟨r,t,p,M⟩:=I.tuple j;obtain⟨Y,y,R,A,B,C⟩:=O it (by simp);have b0:=t.length;exact wpAny_pyNext_tuple_end (I.ok.hd D) st (show s.heap.IsTuple a r.toArray from p) (by simp;lia) λg W=>⟨rfl,I.turned (t':=s.toks) (λb o f e=>W b o f e) Y y A B C⟩
 self:=λ_ _ _ _ _ st h=>wpAny_pyIter_tupleiter st h
theorem SE(it:Ac)(lo:Int)(n:Nat):iE P w K tg (kG lo n) [it] it (λi h=>Jf h it (lo+(i:Nat)*1) ((n:Int) - (i:Nat)) 1) where
 mem:=by simp
 obj:=λi h st b a=>by
  have e:b=it:=by simpa using a
  subst e;exact⟨_,st,λv z=>by
   have y:Data.fields _=Data.cell v:=z;cases y⟩
 keep:=λi h c st k=>k it (by simp) _ st
 item:=by
  intro X d f Z g i r s u H E I O st j;subst d f Z;obtain⟨Y,l,A,m,p,q⟩:=O it (by simp);have W:=Walks.range (prog:=X.prog) (w:=X.w) (I.ok.hd g) it lo 1 n;refine W.item i s _ _ j st λv c x B J C=>?_;obtain⟨t,rfl⟩:=B;have D:ae X r u H {s with heap:=c,toks:=x}:=I.turned (λb o a e=>C b o (by simpa using a) e) Y l m p q;refine⟨_,rfl,nk (s:={s with heap:=c,toks:=x}) (n:="range_iterator") J rfl rfl (by decide) ⟨.int<|lo+i,H,D,⟨t,?_⟩,⟨rfl,rfl⟩,J,λb a=>(O b a).1⟩⟩;rw[Jg]
 done:=by
  intro X d f Z g i r s u H E I O st j;subst d f Z;obtain⟨Y,l,A,m,p,q⟩:=O it (by simp);exact wpAny_pyNext_range_end (I.ok.hd g) st (by have:n<=i:=j;lia) λc F=>⟨rfl,I.turned (t':=s.toks) (λb o a e=>F b o a e) Y l m p q⟩
 self:=λ_ _ _ _ _ st h=>wpAny_pyIter_rangeiter st h
inductive yW (K:xA) (R:It->Hp->Prop) (x:V) (b:Hp):Prop
 | mk:∀a,(x= .ref a)->((∃c,aK K b a c))->(R (lV K a) b)->yW K R x b
def KQ(K:xA)(a:TE):TI:=λb H R=>a b H λx c=>yW K R x c
inductive yY (K:xA) (R:It->Hp->Prop) (x:V) (b:Hp):Prop
 | mk:∀a,(x= .ref a)->((∃c,aU K b a c))->(R (lU K a) b)->yY K R x b
def NF(K:xA)(a:TE):TI:=λb H R=>a b H λx c=>yY K R x c
variable{X:Cx}{l:AK}{tl:TE}
def Uh(f:PE X l tl):PI X tg l (KQ X.K tl):=by
 intro g s i H R I h;refine am (f g s i H _ I h) λv c J=>?_;obtain⟨x,j,d,k,m⟩:=J;obtain⟨a,e,⟨t,n⟩,q⟩:=m;subst e;cases k
 obtain⟨u,w,p,y⟩:=d.list n;refine gK p.isList ?_;refine⟨c.heap.objs.size,[c.heap.objs.size],_,_,j,zr,d.kept (t':=c.toks) λb o e=>aw _ e,VA a _,⟨_,bc _ rfl,zr,zr⟩,λb r=>?_,q⟩;have e:b=c.heap.objs.size:=by simpa using r
 subst e;exact d.fpOk (aj _)<|d.hok.fresh<|aj _
def QE(f:PE X l tl):PI X tg l (NF X.K tl):=by
 intro g s i H R I h;refine am (f g s i H _ I h) λv c J=>?_;obtain⟨x,j,d,k,m⟩:=J;obtain⟨a,e,⟨u,n⟩,q⟩:=m;subst e;cases k
 obtain⟨r,w,p,y⟩:=d.tuple n;refine FZ (show c.heap.IsTuple a r.toArray from p) ?_;refine⟨c.heap.objs.size,[c.heap.objs.size],_,_,j,zr,d.kept (t':=c.toks) λb o e=>aw _ e,Zl a _,⟨_,bc _ rfl,zr,zr⟩,λb t=>?_,q⟩;have e:b=c.heap.objs.size:=by simpa using t
 subst e;exact d.fpOk (aj _)<|d.hok.fresh<|aj _
variable{xC:xG}{σ:St}{lo:Int}
theorem Qz{H:Hp}{s:Af}{R:It->Hp->Prop}{E:xB}{a:Int}{t u v:Tok}{c:Nat}(I:ae X xC σ H s)(f: -(2^62)<=lo)(g:lo < 2^62)(h: -(2^62)<=a)(i:a < 2^62)
  (q:R (kG lo (a - lo).toNat) H):Ak (Ao X.prog X.w) X.A (ET<|.ref s.heap.objs.size) (tE X xC σ tg R) E {s with heap:=s.heap.push {cls:= .type "range",data:= .fields #[.int lo t,.int a u,.int 1 v]},toks:=c}:=by
 refine wpAny_pyIter_range (IsRange.new ..) (small_one f g h i) ?_;have d:ae X xC σ H {s with heap:=s.heap.push {cls:= .type "range",data:= .fields #[.int lo t,.int a u,.int 1 v]},toks:=c}:=I.kept λb o e=>aw _ e;refine⟨(s.heap.push {cls:= .type "range",data:= .fields #[.int lo t,.int a u,.int 1 v]}).objs.size,[(s.heap.push {cls:= .type "range",data:= .fields #[.int lo t,.int a u,.int 1 v]}).objs.size],_,_,H,zr,
  d.kept (t':=c) λb o e=>aw _ e,SE _ lo (a - lo).toNat,?_,λb j=>?_,q⟩
 .have e1:lo+((0:Nat):Int)*1=lo:=by simp
  have k:(((a - lo).toNat:Nat):Int) - ((0:Nat):Int)=Builtin.Range.rangeSize lo a 1:=by rw[rangeSize_one];split <;> lia
  show Jf _ _ (lo+((0:Nat):Int)*1) ((((a - lo).toNat:Nat):Int) - ((0:Nat):Int)) 1;rw[e1,k];exact bc _ rfl
 .have e:b=(s.heap.push {cls:= .type "range",data:= .fields #[.int lo t,.int a u,.int 1 v]}).objs.size:=by simpa using j
  subst e;exact d.fpOk (aj _)<|d.hok.fresh<|aj _
inductive zn (R:It->Hp->Prop) (a:Ab V) (b:Hp):Prop
 | mk:∀(j:Int),(a=[.int j])->(-(2^62)<=j)->(j < 2^62)->(R (kG 0 j.toNat) b)->zn R a b
def RO(a:TA):TI:=λσ H R=>a σ H λb c=>zn R b c
variable{p pos:Pos}
theorem jH{a:AK}{c:TA}(d:Gl X "range")(f:X.mg "range"=none)(g:PA X [a] c)(i:AA [a] X.env=[(false,Bp a X.env)]:=by rfl):PI X tg (.Call (.Name "range" p) [a] [] pos) (RO c):=by
 intro xC s σ H R I h;refine Call_<|ky I d f boot_range<|tH (am (g pos xC s σ H _ I h) λo u J=>?_) i rfl;obtain⟨v,w,k,l,b⟩:=J;obtain⟨j,e,b,m,q⟩:=b;subst e;cases l with
 | cons r n=>
  cases n
  obtain⟨t,rfl⟩:=r;exact call_range_1 (Qz k (by lia) (by lia) b m<|by simpa using q)
def Uk(d:TI)(g:TG)(e:TS):TS:=λD σ H=>d σ H λJ f=>∃W:Nat->Nat->St->Hp->Prop,(∃m,W 0 m σ f)/\∀i m σ H,W i m σ H->
 (J.stop i H/\D.nx σ H)\/ (J.go i H/\∃N:St->Hp->Prop,(∀b a,N b a->∃c,c < m/\W (i+1) c b a)/\∀x a,J.yld i H x a->g x σ a λh j=>e {D with nx:=N,ct:=N,bk:=D.nx} h j)
def mn(a:Ab Ac)(h:AH):Ab (Ac×Obj):=a.filterMap λb=>(h.get? b).map λo=>(b,o)
variable{fp:Ab Ac}
def mF(a:b∈fp)(e:h.get? b=Aa o):(b,o)∈mn fp h:=List.mem_filterMap.mpr ⟨b,a,by rw[e];rfl⟩
def WF{p:Ac×Obj}(a:p∈mn fp h):p.1∈fp/\h.get? p.1=Aa p.2:=by
 obtain⟨b,c,e⟩:=List.mem_filterMap.mp a;cases q:h.get? b with
 | none=>rw[q]at e;cases e
 | some o=>
  rw[q]at e;have d:(b,o)=p:=AO e;subst d;exact⟨c,q⟩
def ae.pinned{H:Hp}{s:Af}(I:ae X xC σ H s)(f:∀b∈fp,cf X xC H b)(g:∀b∈fp,∃o,s.heap.get? b=Aa o/\∀v,o.data≠ .cell v):ae X (xC++mn fp s.heap) σ H s:=
 I.qJ λp h=>(aF.mp h).elim (λz=>I.pin p<|b_ _ z) λz=>by
  obtain⟨a,e⟩:=WF z;obtain⟨i,j,k,_⟩:=f p.1 a;obtain⟨o,c,d⟩:=g p.1 a;rw[e]at c;cases c;exact⟨e,i,j,k,d⟩
def ae.unpinned{a:xG}{H:Hp}{s:Af}(I:ae X (xC++a) σ H s):ae X xC σ H s:=I.qJ λp b=>I.pin p<|b_ _<|vw _ b
variable{body:Ab AV}{g:TG}{tb:TS}
def cw{iter:AK}{A:TI}(j:PassesOwn (Ao X.prog X.w) X.A X.env X.xe)(B:X.calm=true)(P:PI X tg iter A)(Q:PG X tg g)(a:bf X body tb)
  (R:∀x,Eg iter X.env x=AX x:=by intro _;rfl):PS X (.For tg iter body [] pos) (Uk A g tb):=by
 intro xC s σ H K0 I h;refine wpAny_For (am (P xC s σ H _ I h) λv L0 S=>am S λM0 N0 U=>?_) R;obtain⟨O0,fp,C,P0,a0,e,b0,T,c0,D,W,⟨d0,e0⟩,turn⟩:=U;subst e;have t:∀{H':Hp},(∀b∈fp,H' b=none)->∀b∈fp,cf X xC H' b:=λf0 b a=>⟨f0 b a,(D b a).2⟩;refine codeAny_forLoop_any (λn E=>∃i k H',ae X xC k H' E/\C i E.heap/\(∀b∈fp,H' b=none)/\W i n k H') ?_ d0 ⟨0,σ,a0,b0,c0,λb a=>(D b a).1,e0⟩;rintro n F ⟨i,l,q,G,J,K,g0⟩;rcases turn i n l q g0 with ⟨h0,i0⟩ | ⟨go,N,j0,step⟩
 .refine jr j (am (T.done X rfl rfl rfl B i xC F l q X.xe G (t K) J h0) λr k0 O=>?_);obtain⟨w,l0⟩:=O;subst w;exact CG ⟨l,q,l0,i0⟩
 .refine jr j (am (T.item X rfl rfl rfl B i xC F l q X.xe G (t K) J go) λr k0 O=>?_);obtain⟨u,w,m0⟩:=O;subst w;refine jr j (am m0 λ_ L O=>?_);obtain⟨x,M,n0,o0,p0,y,q0⟩:=O;have r0:=n0.pinned (t q0)<|T.obj _ _ y;refine jr j (am (Q _ L l M x u _ r0 o0<|step x M p0) λ_ s0 O=>?_);obtain⟨t0,u0,v0,w0⟩:=O;refine jr j (am (a _ s0 t0 u0 _ v0 w0) λx0 z f=>?_);have again:∀{c:St} {Y:Hp},ae X (xC++mn fp L.heap) c Y z->N c Y->∃m,m < n/\∃i k H',ae X xC k H' z/\C i z.heap/\(∀b∈fp,H' b=none)/\W i m k H':=λ{c Y} Z p=>by
   obtain⟨y0,z0,A0⟩:=j0 c Y p;refine⟨y0,z0,i+1,c,Y,Z.unpinned,T.keep _ _ _ y λb a o e=>(Z.pin (b,o)<|b_ _<|b_ _<|mF a e).1,λb a=>?_,A0⟩;obtain⟨o,e,d⟩:=T.obj _ _ y b a;exact(Z.pin (b,o)<|b_ _<|b_ _<|mF a e).2.1
  cases x0 with
  | next=>obtain⟨c,Y,Z,p⟩:=f;exact again Z p
  | cont=>obtain⟨c,Y,Z,p⟩:=f;exact again Z p
  | brk=>obtain⟨c,Y,Z,f⟩:=f;exact⟨c,Y,Z.unpinned,f⟩
  | ret v=>obtain⟨H0,c,Y,Z,J0,f⟩:=f;exact⟨H0,c,Y,Z.unpinned,J0,f⟩
variable{xs:Ab V}{D:dJ}
theorem fo{H:Hp}(Pv:Nat->St->Hp->Prop)(h:Pv 0 σ H)(j:∀i σ H,i<=xs.length->Pv i σ H->aK K H a xs)
  (k:∀i x σ H,xs[i]? =Aa x->Pv i σ H->g x σ H λc d=>tb {D with nx:=Pv<|i+1,ct:=Pv<|i+1,bk:=D.nx} c d) (l:∀σ H,Pv xs.length σ H->D.nx σ H):
  ∃W:Nat->Nat->St->Hp->Prop,(∃m,W 0 m σ H)/\∀i m σ H,W i m σ H->
   ((lV K a).stop i H/\D.nx σ H)\/ ((lV K a).go i H/\∃N:St->Hp->Prop,(∀f b,N f b->∃O,O < m/\W (i+1) O f b)/\∀x b,(lV K a).yld i H x b->g x σ b λc d=>tb {D with nx:=N,ct:=N,bk:=D.nx} c d):=by
 refine⟨λi m σ H=>m=xs.length - i/\i<=xs.length/\Pv i σ H,⟨xs.length,by simp,ba _,h⟩,?_⟩;rintro i m σ H ⟨rfl,n,p⟩;have q:=j i σ H n p;by_cases J:i < xs.length
 .refine .inr ⟨⟨xs,xs[i],q,by simp[J]⟩,Pv<|i+1,λf b o=>⟨xs.length - (i+1),by lia,zr,J,o⟩,λx b y=>?_⟩;obtain⟨e,y⟩:=y;subst e;exact k i x σ _ (y xs q) p
 .have e:i=xs.length:=by lia
  subst e;exact .inl ⟨⟨xs,q,aj _⟩,l σ H p⟩
theorem uN{H:Hp}(Pv:Nat->St->Hp->Prop)(h:Pv 0 σ H)(j:∀i σ H,i<=xs.length->Pv i σ H->aU K H a xs)
  (k:∀i x σ H,xs[i]? =Aa x->Pv i σ H->g x σ H λc d=>tb {D with nx:=Pv<|i+1,ct:=Pv<|i+1,bk:=D.nx} c d) (l:∀σ H,Pv xs.length σ H->D.nx σ H):
  ∃W:Nat->Nat->St->Hp->Prop,(∃m,W 0 m σ H)/\∀i m σ H,W i m σ H->
   ((lU K a).stop i H/\D.nx σ H)\/ ((lU K a).go i H/\∃N:St->Hp->Prop,(∀f b,N f b->∃O,O < m/\W (i+1) O f b)/\∀x b,(lU K a).yld i H x b->g x σ b λc d=>tb {D with nx:=N,ct:=N,bk:=D.nx} c d):=by
 refine⟨λi m σ H=>m=xs.length - i/\i<=xs.length/\Pv i σ H,⟨xs.length,by simp,ba _,h⟩,?_⟩;rintro i m σ H ⟨rfl,n,p⟩;have q:=j i σ H n p;by_cases J:i < xs.length
 .refine .inr ⟨⟨xs,xs[i],q,by simp[J]⟩,Pv<|i+1,λf b o=>⟨xs.length - (i+1),by lia,zr,J,o⟩,λx b y=>?_⟩;obtain⟨e,y⟩:=y;subst e;exact k i x σ _ (y xs q) p
 .have e:i=xs.length:=by lia
  subst e;exact .inl ⟨⟨xs,q,aj _⟩,l σ H p⟩
variable{n:Nat}
theorem kU{H:Hp}(Pv:Nat->St->Hp->Prop)(f:Pv 0 σ H)
  (h:∀i σ H,i < n->Pv i σ H->g (.int<|lo+i) σ H λb c=>tb {D with nx:=Pv<|i+1,ct:=Pv<|i+1,bk:=D.nx} b c) (j:∀σ H,Pv n σ H->D.nx σ H):
  ∃W:Nat->Nat->St->Hp->Prop,(∃m,W 0 m σ H)/\∀i m σ H,W i m σ H->
   ((kG lo n).stop i H/\D.nx σ H)\/ ((kG lo n).go i H/\∃N:St->Hp->Prop,(∀d a,N d a->∃O,O < m/\W (i+1) O d a)/\∀x a,(kG lo n).yld i H x a->g x σ a λb c=>tb {D with nx:=N,ct:=N,bk:=D.nx} b c):=by
 refine⟨λi m σ H=>m=n - i/\i<=n/\Pv i σ H,⟨n,by simp,ba _,f⟩,?_⟩;rintro i m σ H ⟨rfl,l,p⟩;by_cases J:i < n
 .refine .inr ⟨J,Pv<|i+1,λd a k=>⟨n - (i+1),by lia,zr,J,k⟩,λx a y=>?_⟩;obtain⟨e,y⟩:=y;subst e y;exact h i σ _ J p
 .have e:i=n:=by lia
  subst e;exact .inl ⟨aj _,j σ H p⟩
abbrev R2:=V->V->Hp->VK->Prop
def bH(X:Cx)(f:Ad->Ad->Sem Ad)(r:R2):Prop:=
 ∀(xC:xG) (s:Af) (σ:St) (H:Hp) (x y:V) (v u:Ad) (Q:VK),ae X xC σ H s->av x v->av y u->r x y H Q->
  Ak (Ao X.prog X.w) X.A (f v u) (EP X xC σ Q) X.xe s
def cu(X:Cx)(f:Ad)(r:Ab V->Hp->VK->Prop):Prop:=
 ∀(xC:xG) (s:Af) (σ:St) (H:Hp) (xs:Ab V) (a:xH) (Q:VK),ae X xC σ H s->ap xs a->r xs H Q->
  Ak (Ao X.prog X.w) X.A (call f a) (EP X xC σ Q) X.xe s
def WS(X:Cx)(r:V->Hp->(AJ->Hp->Prop)->Prop):Prop:=
 ∀(xC:xG) (s:Af) (σ:St) (H:Hp) (x:V) (v:Ad) (Q:AJ->Hp->Prop),ae X xC σ H s->av x v->r x H Q->
  Ak (Ao X.prog X.w) X.A (truthy v) (TP X xC σ Q) X.xe s
def ox(r:R2)(a b:TE):TE:=λσ H Q=>a σ H λx c=>b σ c λy d=>r x y d Q
inductive rI (C:Int->Int->Prop) (g:Int->Int->V) (x:V) (y:V) (H:Hp) (Q:VK):Prop
 | mk:∀i j,(x= .int i)->(y= .int j)->(C i j)->(Q (g i j) H)->rI C g x y H Q
inductive iv (g:Int->Int->V) (x:V) (y:V) (H:Hp) (Q:VK):Prop
 | mk:∀i j,(x= .int i)->(y= .int j)->(Q (g i j) H)->iv g x y H Q
variable{a b:AK}{ta tb:TE}{f:Ad->Ad->Sem Ad}
def sM(e:PE X a ta)(g:PE X b tb){s:Af}{H:Hp}{R:V->V->Hp->Prop}(I:ae X xC σ H s)
  (h:ta σ H λx d=>tb σ d λy c=>R x y c) {Q:xB} 
  (i:∀v u O x y c,ae X xC σ c O->av x v->av y u->R x y c->Ak (Ao X.prog X.w) X.A (f v u) Q X.xe O):
  Ak (Ao X.prog X.w) X.A (Bp a X.env) (λv j=>Ak (Ao X.prog X.w) X.A (Bp b X.env) (λu k=>Ak (Ao X.prog X.w) X.A (f v u) Q X.xe k) X.xe j) X.xe s:=by
 refine am (e xC s σ H _ I h) λv l J=>?_;obtain⟨x,d,m,n,o⟩:=J;refine am (g xC l σ d _ m o) λu O J=>?_;obtain⟨y,c,p,q,r⟩:=J;exact i v u O x y c p n q r
variable{r:R2}
def qh{c:Operator}(d:bH X (eA c) r)(e:PE X a ta)(f:PE X b tb):PE X (.BinOp a c b pos) (ox r ta tb):=by
 intro xC s σ H Q I h;exact wpAny_BinOp (sM e f I h λv u g x y i j k l q=>d xC g σ i x y v u Q j k l q)
variable{g:Int->Int->Int}
def pY{C:Int->Int->Prop}
  (rule:∀(i j:Int) (t u:Tok) (s:Af) (Q:xB) (E:xB),C i j->Q (.int (g i j) s.toks) {s with toks:=s.toks+1}->Ak (Ao X.prog X.w) X.A (f (.int i t)<|.int j u) Q E s):
  bH X f (rI C λi j=> .int<|g i j):=by
 intro xC s σ H x y v u Q I a b h;obtain⟨i,j,rfl,rfl,c,q⟩:=h;obtain⟨t,rfl⟩:=a;obtain⟨d,rfl⟩:=b;exact rule i j t d s _ _ c ⟨.int<|g i j,H,I.tok _,⟨_,zr⟩,q⟩
def xc
  (rule:∀(i j:Int) (t u:Tok) (s:Af) (Q:xB) (E:xB),Q (.int (g i j) s.toks) {s with toks:=s.toks+1}->Ak (Ao X.prog X.w) X.A (f (.int i t)<|.int j u) Q E s):
  bH X f (iv λi j=> .int<|g i j):=by
 intro xC s σ H x y v u Q I a b h;obtain⟨i,j,rfl,rfl,q⟩:=h;obtain⟨t,rfl⟩:=a;obtain⟨c,rfl⟩:=b;exact rule i j t c s _ _ ⟨.int<|g i j,H,I.tok _,⟨_,zr⟩,q⟩
def uS{g:Int->Int->AJ}
  (rule:∀(i j:Int) (t u:Tok) (s:Af) (Q:xB) (E:xB),Q (.bool<|g i j) s->Ak (Ao X.prog X.w) X.A (f (.int i t)<|.int j u) Q E s):
  bH X f (iv λi j=> .bl<|g i j):=by
 intro xC s σ H x y v u Q I a b h;obtain⟨i,j,rfl,rfl,q⟩:=h;obtain⟨t,rfl⟩:=a;obtain⟨c,rfl⟩:=b;exact rule i j t c s _ _ ⟨.bl<|g i j,H,I,zr,q⟩
def TC(i j:Int):Prop:=0 < j/\j < 1073741824
def OG(i j:Int):Prop:=0<=j/\j<=1000000/\i.natAbs < 2^64
def vx(i j:Int):Prop:=(-(2^64) < i/\i < 2^64)\/ (-(2^64) < j/\j < 2^64)
def vx.ok{i j:Int}(h:vx i j):IntMulOk i j:=by
 rcases h with ⟨a,b⟩ | ⟨a,b⟩
 .exact .of_left<|Ih a b
 .exact .of_right<|Ih a b
def cI:bH X (eA .Add) (iv λi j=> .int<|i+j):=xc λ_ _ _ _ _ _ _ q=>add_int q
def lC:bH X (eA .Sub) (iv λi j=> .int<|i - j):=xc λ_ _ _ _ _ _ _ q=>sub_int q
def gl:bH X (eA .Mult) (rI vx λi j=> .int<|i*j):=pY λ_ _ _ _ _ _ _ a q=>mul_int q a.ok
theorem dD:bH X (eA .FloorDiv) (rI TC λi j=> .int<|i / j):=pY λi j _ _ _ _ _ J q=>by
 have a:(0:Int) < j:=J.1;have b:j < 1073741824:=J.2;exact floordiv_int (by lia) (by rw[Int.fdiv_eq_ediv_of_nonneg i<|by lia];exact q)<|.inl (PyProof.noPylong_small<|by lia)
theorem bN:bH X (eA .Mod) (rI (λ_ j=>0 < j) λi j=> .int<|i%j):=pY λi j _ _ _ _ _ a q=>by
 have b:(0:Int) < j:=a;exact mod_int' (by lia) (by rw[Int.fmod_eq_emod_of_nonneg i<|by lia];exact q)
def mQ:bH X (eA .Pow) (rI OG λi j=> .int<|i^j.toNat):=pY λ_ _ _ _ _ _ _ J q=>pow_int_small J.1 J.2.1 J.2.2 q
def Uj:V->V->AJ
 | .non,.non=>true | .non,.int _=>true | .int _,.non=>true | .non,.bl _=>true | .bl _,.non=>true | .non,.str _=>true | .str _,.non=>true
 | .int _,.int _=>true | .bl _,.bl _=>true | .str _,.str _=>true | .byt _,.byt _=>true
 | .int _,.str _=>true | .str _,.int _=>true | .bl _,.str _=>true | .str _,.bl _=>true
 | _,_=>false
def OO:R2:=λx y H Q=>Uj x y=true/\Q (.bl (decide (x=y))) H
def SX{i j:Int}:decide (V.int i=V.int j)=(i==j):=by
 rw[hN];simp
def WH{i j:AJ}:decide (V.bl i=V.bl j)=(i==j):=by
 rw[hN];simp
def Yq{i j:Str}:decide (V.str i=V.str j)=(i==j):=by
 rw[hN];simp
def Yl{i j:Am UInt8}:decide (V.byt i=V.byt j)=(i.toList==j.toList):=by
 rw[hN];cases i
 cases j
 simp
def dA{H:Hp}{s:Af}{Q:VK}{k a:AJ}(I:ae X xC σ H s)(q:Q (.bl k) H)(e:k=a):EP X xC σ Q (.bool a) s:=by
 subst e;exact⟨.bl k,H,I,zr,q⟩
def kF:bH X (Bg .Eq) OO:=by
 intro xC s σ H x y v u Q I c a h;obtain⟨J,q⟩:=h;cases x with
 | non=>
  cases c
  cases y with
  | non=>cases a;exact PySem.EqNone.eq_none_none (dA I q<|by simp)
  | bl j=>cases a;exact PySem.EqNone.eq_none_bool (dA I q<|by simp)
  | int j=>obtain⟨b,rfl⟩:=a;exact PySem.EqNone.eq_none_int (dA I q<|by simp)
  | str j=>obtain⟨b,rfl⟩:=a;exact PySem.EqNone.eq_none_str (dA I q<|by simp)
  | _=>exact Au (show false=true from J) aY
 | bl i=>
  cases c
  cases y with
  | non=>cases a;exact PySem.EqNone.eq_bool_none (dA I q<|by simp)
  | bl j=>cases a;exact eq_bool<|dA I q WH
  | str j=>obtain⟨b,rfl⟩:=a;exact PySem.EqMixed.eq_bool_str (dA I q<|by simp)
  | _=>exact Au (show false=true from J) aY
 | int i=>
  obtain⟨t,rfl⟩:=c;cases y with
  | non=>cases a;exact PySem.EqNone.eq_int_none (dA I q<|by simp)
  | int j=>obtain⟨b,rfl⟩:=a;exact eq_int<|dA I q SX
  | str j=>obtain⟨b,rfl⟩:=a;exact PySem.EqMixed.eq_int_str (dA I q<|by simp)
  | _=>exact Au (show false=true from J) aY
 | str i=>
  obtain⟨t,rfl⟩:=c;cases y with
  | non=>cases a;exact PySem.EqNone.eq_str_none (dA I q<|by simp)
  | bl j=>cases a;exact PySem.EqMixed.eq_str_bool (dA I q<|by simp)
  | int j=>obtain⟨b,rfl⟩:=a;exact PySem.EqMixed.eq_str_int (dA I q<|by simp)
  | str j=>obtain⟨b,rfl⟩:=a;exact eq_str<|dA I q Yq
  | _=>exact Au (show false=true from J) aY
 | byt i=>
  obtain⟨t,rfl⟩:=c;cases y with
  | byt j=>obtain⟨b,rfl⟩:=a;exact PySem.W.eq_bytes<|dA I q Yl
  | _=>exact Au (show false=true from J) aY
 | _=>cases y <;> exact Au (show false=true from J) aY
def NB:bH X (Bg .Lt) (iv λi j=> .bl (decide (i < j))):=uS λ_ _ _ _ _ _ _ q=>lt_int q
def NP:bH X (Bg .LtE) (iv λi j=> .bl (decide (i<=j))):=uS λ_ _ _ _ _ _ _ q=>le_int q
def rW:bH X (Bg .Gt) (iv λi j=> .bl (decide (j < i))):=uS λ_ _ _ _ _ _ _ q=>gt_int q
inductive wg (x:V) (y:V) (H:Hp) (Q:VK):Prop
 | mk:∀i j,(x= .str i)->(y= .str j)->(Q (.bl (!(Builtin.Str.occurrences j i 0 j.length 1).isEmpty)) H)->wg x y H Q
def NC:bH X (Bg .In) wg:=by
 intro xC s σ H x y v u Q I a b h;obtain⟨i,j,rfl,rfl,q⟩:=h;obtain⟨t,rfl⟩:=a;obtain⟨c,rfl⟩:=b;exact in_str<|dA I q rfl
def PX:bH X (Bg .IsNot) (λx y H Q=>y= .non/\Q (.bl<|!decide (x= .non)) H):=by
  intro xC s σ H x y v u Q I a b h;obtain⟨rfl,q⟩:=h;cases b
  refine isnot_none_gen<|dA I q ?_;cases x <;> first
    | (cases a;rfl)
    | (obtain⟨t,rfl⟩:=a;rfl)
variable{op:IA}
def du(b:AK)(h:op≠ .In:=by decide)(a:op≠ .NotIn:=by decide):CA op b=false:=by
 have c:(op==CmpOp.In)=false:=by cases op <;> first | rfl | exact Au rfl h
 have d:(op==CmpOp.NotIn)=false:=by cases op <;> first | rfl | exact Au rfl a
 cases b <;> simp[CA,c,d]
def im(c:bH X (Bg op) r)(d:PE X a ta)(e:PE X b tb)(f:CA op b=false):PE X (.Compare a [op] [b] pos) (ox r ta tb):=by
 intro xC s σ H Q I h;exact Hv (sM d e I h λv u g x y i j k l q=>c xC g σ i x y v u Q j k l q) f
def Ll(t:TE):TT:=λσ H Q=>t σ H λx a=>∃k,x= .bl k/\Q k a
def fF(d:bH X (Bg op) r)(f:PE X a ta)(g:PE X b tb)(i:CA op b=false):PT X (.Compare a [op] [b] pos) (Ll<|ox r ta tb):=by
 intro xC s σ H Q I h;refine Fj (am (f xC s σ H _ I h) λv j ⟨x,l,m,n,o⟩=>am (g xC j σ l _ m o) λu p ⟨y,q,t,w,A⟩=>
  am (d xC p σ q x y v u _ t n w A) λc F ⟨z,B,C,D,k,e,E⟩=>?_) i
 subst e;cases D
 exact gj ⟨B,C,E⟩
def Tr(r b:R2)(c d e:TE):TE:=λσ H Q=>c σ H λx f=>d σ f λy g=>r x y g λz a=>∃k,z= .bl k/\
 (if k=true then e σ a λh i=>b y h i Q else Q (.bl false) a)
variable{c:AK}{tc:TE}
def Pr{J:IA}{Z:R2}(l:bH X (Bg op) r)(O:bH X (Bg J) Z)(m:PE X a ta)(n:PE X b tb)(o:PE X c tc)
  (p:lastMarks [op,J] [b,c]=false:=by with_unfolding_all rfl):PT X (.Compare a [op,J] [b,c] pos) (Ll<|Tr r Z ta tb tc):=by
 intro xC s σ H Q I h;refine isTrue_chain (am (m xC s σ H _ I h) λv q ⟨x,t,w,A,B⟩=>test_link<|am (n xC q σ t _ w B) λu C ⟨y,D,E,f,F⟩=>
  am (l xC C σ D x y v u _ E A f F) λd G ⟨z,g,i,K,k,e,j⟩=>?_) p
 subst e;cases K
 refine gj ?_;cases k with
 | false=>
  obtain⟨f0,L,M⟩:=j;cases L
  exact ite_ff ⟨g,i,M⟩
 | true=>
  refine ite_tt (test_last<|am (o xC G σ g _ i j) λN P ⟨R,S,T,U,W⟩=>am (O xC P σ S y R u N _ T f U W) λg0 h0 Y=>?_);obtain⟨i0,a0,b0,c0,j0,d0,e0⟩:=Y;subst d0;cases c0
  exact gj ⟨a0,b0,e0⟩
def xS(K:xA)(x:V)(H:Hp)(k:AJ):Prop:=
 match x with
 | .non=>k=false
 | .bl b=>k=b
 | .int i=>k=(i !=0)
 | .str y=>y.length<=sizeLine/\k=((y.length:Int) !=0)
 | .byt y=>y.size<=sizeLine/\k=((y.size:Int) !=0)
 | .ref p=>(∃xs,aK K H p xs/\k= !xs.isEmpty)\/ (∃xs,aU K H p xs/\k= !xs.isEmpty)\/ ∃a,H p=Aa (.dK a)/\k= !a.isEmpty
 | _=>Bj
def Ze{a:Ab (κ×V)}{b:Ab (κ×Ad)}(r:KV a b):(!b.isEmpty)= !a.isEmpty:=by
 cases r <;> rfl
def xf{a:xH}(r:ap xs a):(!a.toArray.isEmpty)= !xs.isEmpty:=by
 cases r <;> simp
def mR:(sizeLine:Nat) < 2^63:=by rw[Eh];decide
theorem Xq:WS X (λx H Q=>∃k,xS X.K x H k/\Q k H):=by
 intro xC s σ H x v Q I c h;obtain⟨k,e,q⟩:=h;have u:=mR;have w:sizeLine=16777216:=Eh;cases x with
 | non=>
  cases c
  have a:k=false:=e;subst a;exact truthy_none ⟨H,I,q⟩
 | bl b=>
  cases c
  have a:k=b:=e;subst a;exact gj ⟨H,I,q⟩
 | int i=>
  obtain⟨t,rfl⟩:=c;have a:k=(i !=0):=e;subst a;exact PySem.P.truthy_int ⟨H,I,q⟩
 | str y=>
  obtain⟨t,rfl⟩:=c;obtain⟨l,a⟩:y.length<=sizeLine/\k=((y.length:Int) !=0):=e;subst a;exact PySem.P.truthy_str (by lia) ⟨H,I.tok _,q⟩
 | byt y=>
  obtain⟨t,rfl⟩:=c;obtain⟨l,a⟩:y.size<=sizeLine/\k=((y.size:Int) !=0):=e;subst a;exact PySem.W.truthy_bytes (by lia) ⟨H,I.tok _,q⟩
 | ref p=>
  cases c
  have a:(∃xs,aK X.K H p xs/\k= !xs.isEmpty)\/ (∃xs,aU X.K H p xs/\k= !xs.isEmpty)\/ ∃d,H p=Aa (.dK d)/\k= !d.isEmpty:=e;rcases a with ⟨xs,f,a⟩ | ⟨xs,f,a⟩ | ⟨d,f,a⟩
  .subst a;obtain⟨n,r,g,j⟩:=I.list f;have J:=r.length;exact wpAny_truthy_list g.isList (by simp only[aP];lia) ⟨H,I.tok _,by rw[xf r];exact q⟩
  .subst a;obtain⟨n,r,g,j⟩:=I.tuple f;have J:=r.length;exact truthy_tuple g (by simp only[aP];lia) ⟨H,I.tok _,by rw[xf r];exact q⟩
  .subst a;obtain⟨j,o,vs,r,m⟩:d.length<=sizeLine/\(p==Bm)=false/\∃vs,KV d vs/\s.heap.DictOf (qv X.prog X.w) p vs:=I.hok p _ f;have J:d.length=vs.length:=Paired.length r;exact wpAny_truthy_dict o m (by lia) ⟨H,I.tok _,by rw[Ze r];exact q⟩
 | _=>exact(show Bj from e).elim
def rV(c:PE X a ta)(d:∀J,isTrue a X.env J=(do let v <- J;DL a.pos;Dp [v] (truthy v))):
  PT X a (λσ H Q=>ta σ H λx b=>∃k,xS X.K x b k/\Q k b):=by
 intro xC s σ H Q I h;exact IK (am (c xC s σ H _ I h) λv e ⟨x,f,g,i,j⟩=>Xq xC e σ f x v Q g i j)<|d _
inductive v_ (x:V) (y:V) (H:Hp) (Q:VK):Prop
 | mk:∀i j,(x= .str i)->(y= .str j)->(i.length+j.length<=sizeLine)->(Q (.str (i++j)) H)->v_ x y H Q
def LB:bH X (eA .Add) v_:=by
 intro xC s σ H x y v u Q I a b h;obtain⟨i,j,rfl,rfl,c,q⟩:=h;obtain⟨t,rfl⟩:=a;obtain⟨d,rfl⟩:=b;exact add_str (λd e=>⟨.str<|i++j,H,I.tok _,⟨_,zr⟩,q⟩) c
def dz{x:V}{a:xH}(r:ap [x] a):∃u,a=[u]/\av x u:=by
 cases r with
 | cons b c=>cases c;exact⟨_,rfl,b⟩
def sX{x y:V}{a:xH}(r:ap [x,y] a):∃u J,a=[u,J]/\av x u/\av y J:=by
 cases r with
 | cons b c=>
  cases c with
  | cons d e=>cases e;exact⟨_,_,rfl,b,d⟩
inductive zc (a:Ab V) (H:Hp) (Q:VK):Prop
 | mk:∀i j,(a=[.int i,.int j])->(Q (.int (if j < i then j else i)) H)->zc a H Q
def WT(a:X.calm=true):cu X (.builtin "min") zc:=by
 intro xC s σ H xs b Q I r h;obtain⟨i,j,rfl,q⟩:=h;obtain⟨u,c,rfl,⟨t,rfl⟩,⟨d,rfl⟩⟩:=sX r;refine min_two_ints (I.ok.hd a) λe f k=>⟨_,H,I.kept k,?_,q⟩;by_cases J:j < i
 .rw[Ah J,Ah J];exact⟨_,rfl⟩
 .rw[Ae J,Ae J];exact⟨_,rfl⟩
def vW:cu X (.type "int") (λxs H Q=>(∃i,xs=[.int i]/\Q (.int i) H)\/ ∃k,xs=[.bl k]/\Q (.int (if k then 1 else 0)) H):=by
 intro xC s σ H xs a Q I r h;rcases h with ⟨i,rfl,q⟩ | ⟨k,rfl,q⟩
 .obtain⟨u,rfl,t,rfl⟩:=dz r;exact call_int_int ⟨.int i,H,I,⟨_,zr⟩,q⟩
 .obtain⟨u,rfl,r1⟩:=dz r;cases r1
  exact call_int_bool ⟨.int (if k then 1 else 0),H,I.tok _,⟨_,zr⟩,q⟩
def RB(K:xA)(x:V)(H:Hp)(n:Nat):Prop:=
 match x with
 | .str y=>y.length<=sizeLine/\n=y.length
 | .byt y=>y.size<=sizeLine/\n=y.size
 | .ref p=>(∃xs,aK K H p xs/\n=xs.length)\/ ∃xs,aU K H p xs/\n=xs.length
 | _=>Bj
inductive uR (K:xA) (a:Ab V) (H:Hp) (Q:VK):Prop
 | mk:∀x n,(a=[x])->(RB K x H n)->(Q (.int n) H)->uR K a H Q
theorem UJ:cu X (.builtin "len") (uR X.K):=by
 intro xC s σ H xs j Q I r h;obtain⟨x,n,rfl,e,q⟩:=h;obtain⟨u,rfl,b⟩:=dz r;have k:=mR;have l:sizeLine=16777216:=Eh;cases x with
 | str y=>
  obtain⟨t,rfl⟩:=b;obtain⟨f,a⟩:y.length<=sizeLine/\n=y.length:=e;subst a;exact len_str (by lia) ⟨.int _,H,I.tok _,⟨_,zr⟩,q⟩
 | byt y=>
  obtain⟨t,rfl⟩:=b;obtain⟨f,a⟩:y.size<=sizeLine/\n=y.size:=e;subst a;exact PySem.W.len_bytes (by lia) ⟨.int _,H,I.tok _,⟨_,zr⟩,q⟩
 | ref p=>
  cases b
  have a:(∃xs,aK X.K H p xs/\n=xs.length)\/ ∃xs,aU X.K H p xs/\n=xs.length:=e;rcases a with ⟨xs,c,a⟩ | ⟨xs,c,a⟩
  .subst a;obtain⟨g,O,d,i⟩:=I.list c;have J:=O.length;exact Calls.call_len_list d.isList (by simp only[aP];lia) ⟨.int xs.length,H,I.tok _,⟨_,by simp only[aP];rw[J]⟩,q⟩
  .subst a;obtain⟨g,O,d,i⟩:=I.tuple c;have J:=O.length;exact len_tuple d (by simp only[aP];lia) ⟨.int xs.length,H,I.tok _,⟨_,by simp only[aP];rw[J]⟩,q⟩
 | _=>exact(show Bj from e).elim
structure jJ (h:AH) (x dx C:Ac) (mA:xE):Prop where
 obj:h.get? x=Aa (PySem.W.instObj C dx)
 ns:h.Ns1 dx mA
 ne:dx≠x
variable{dx:Ac}{mA:xE}
def RM(n:h.Ns1 dx mA):∃J,h.get? dx=Aa J/\∀b,PySem.W.lookIn b J=Aa (mA b):=by
 obtain⟨o,c,m,d,f,g,_,i⟩:=n;refine⟨o,d,λb=>?_⟩;have e:=i b;unfold nsFind findBy at e;rw[<- Array.find?_toList]at e;unfold PySem.W.lookIn;rw[f]
 dsimp only
 split
 .rename_i y q;rw[q]at e;exact Ba Aa e
 .rename_i q;rw[q]at e;have a:c.toList.any (·.refKey)=false:=by
   rw[Gh];intro y j;obtain⟨z,t,k⟩:=g y<|Array.mem_toList_iff.mp j;simp[DictEntry.refKey,k]
  have l:¬ c.toList.any (·.refKey)=true:=by rw[a];exact aY
  rw[Ae l];exact Ba Aa e
variable{C:Ac}
def jJ.look{x:Ac}(I:jJ h x dx C mA):∃J,PySem.W.InstAt h x (PySem.W.instObj C dx) C (Aa J)/\∀a,PySem.W.lookIn a J=Aa (mA a):=
 let ⟨J,b,c⟩:=RM I.ns
 ⟨J,⟨I.obj,rfl,rfl,b⟩,c⟩
section
variable{prog:Ai}{w:Al}{A:As}{E:xB}{s:Af}{K:xA}{x dx C f:Ac}{mA:xE}{name:Str}{v:Ad}
def Yw{O:AJ}{Q:xB}(X:K.In s.heap)(I:jJ s.heap x dx C mA)(a:PySem.W.plainGet K C name=true)(b:PySem.W.hasDictIn K C=true)
  (c:PySem.W.findIn K (.ref C) name=Aa none) (d:mA name=Aa v) (Y:PySem.W.handedIn v=true) (h:Q v {s with toks:=s.toks+1}):
  Ak (Ao prog w) A (Jz (.ref x) name O) Q E s:=by
 obtain⟨f,J,e⟩:=I.look;exact PySem.W.get_value X J (PySem.W.plainGet_of a).1 (PySem.W.findObj_own b c rfl<|by rw[e,d]) Y h
def Rp{a:Sem AJ}{Q:Ad×Ab Ad->Af->Prop}(X:K.In s.heap)(I:jJ s.heap x dx C mA)(O:PySem.W.plainGet K C name=true)
  (b:PySem.W.findIn K (.ref C) name=Aa (Aa<|.ref f)) (c:PySem.W.isFn K (.ref f)=true) (d:mA name=none) (h:Q (.ref f,[.ref x]) s):
  Ak (Ao prog w) A (CO (.ref x) name a) Q E s:=by
 obtain⟨e,J,g⟩:=I.look;exact PySem.W.method_fn X J (PySem.W.plainGet_of O).1 (PySem.W.plainGet_of O).2 b (beq_iff_eq.mp c) (by show (PySem.W.lookIn name e).map (·.isSome)=Aa false;rw[g,d];rfl) h
theorem Tk{d:xD}{Q:Ge->Af->Prop}(X:K.In s.heap)(I:jJ s.heap x dx C mA)
  (e:PySem.W.findIn K (.ref C) "__setattr__"=Aa (Aa<|.builtin "object.__setattr__")) (f:PySem.W.plainOver K C=true) (g:PySem.W.takerIn K C name=Aa none) (i:PySem.W.hasDictIn K C=true)
  (j:PySem.Within mA d) (p:d.length<=sizeLine)
  (h:∀c,jJ c x dx C (λy=>if y=name then Aa v else mA y)->Bn dx s.heap c->Q () {s with heap:=c,toks:=s.toks+2}):
  Ak (Ao prog w) A (setAttr (.ref x) name v) Q E s:=by
 obtain⟨q,J,t⟩:=I.look;refine PySem.W.set_plain X J e (PySem.W.osa_open (s:={s with toks:=s.toks+1}) (r:=none) X J f g λb=>?_);obtain⟨u,k,l⟩:=PySem.W.any_some i;have m:s.heap.get? x=Aa ⟨.ref C,Aa dx,.plain,#[]⟩:=I.obj;refine ac<|ah<|ac<|ac<|Hw m<|ac<|PySem.W.Looks.here (s:={s with toks:=s.toks+1}) (PySem.W.looks_clsIn X k) ?_;rw[l];refine ah (a:=Aa dx)<|ac<|ah<|ac ?_;refine wpAny_nsSet1 (s:={s with toks:=s.toks+1}) I.ns λc O Y=>?_;obtain⟨z,B,D,n,o,Z⟩:=O.count<|PySem.Within.cons name v j;refine ac<|wpAny_lookBehind n (by rw[o];exact pastItsLine_dict<|az Z (by rw[bz];lia)) ?_;exact ah<|h _ ⟨(Y.2 _<|Bi I.ne).trans I.obj,O,I.ne⟩ Y
def Vy{R:CJ->Af->Prop}{a:xH}{J:Ab (Str×Ad)}(X:K.In s.heap)(b:PySem.W.makesIn K C=true)
  (c:PySem.W.findIn K (.ref C) "__init__"=Aa (Aa<|.ref f)) (e:PySem.W.typeIn K (.ref f)=Aa (.type "function"))
  (h:BQ (Ao prog w) (A.under<|.builtin "type.__call__" ⟨.ref C::a,J⟩) (.call (.ref f) ⟨.ref (s.heap.objs.size+1)::a,J⟩) (PySem.W.InitBack (s.heap.objs.size+1) R)
   {s with heap:=(s.heap.push PySem.W.emptyDict).push<|PySem.W.instObj C s.heap.objs.size}):
  BQ (Ao prog w) A (.call (.ref C) ⟨a,J⟩) R s:=by
 obtain⟨j,g,d,t,os⟩:=s;exact PySem.W.make_core (PySem.W.makes_of X b) (PySem.W.looks_findIn X c) (λi=>PySem.W.bind_fn X i e) (.inl rfl) h
def R_{R:CJ->Af->Prop}(X:K.In s.heap)(b:PySem.W.makesIn K C=true)
  (c:PySem.W.findIn K (.ref C) "__init__"=Aa (Aa<|.builtin "object.__init__"))
  (e:∀a,PySem.W.Looks (Ao prog w) s.heap (bindSpecial (.builtin "object.__init__") a) (.builtin "object.__init__",[a]))
  (h:BQ (Ao prog w) (A.under<|.builtin "type.__call__" ⟨[.ref C],[]⟩) (.call (.builtin "object.__init__") ⟨[.ref<|s.heap.objs.size+1],[]⟩) (PySem.W.InitBack (s.heap.objs.size+1) R)
   {s with heap:=(s.heap.push PySem.W.emptyDict).push<|PySem.W.instObj C s.heap.objs.size}):
  BQ (Ao prog w) A (.call (.ref C) ⟨[],[]⟩) R s:=by
 obtain⟨f,g,d,t,os⟩:=s;exact PySem.W.make_core (PySem.W.makes_of X b) (PySem.W.looks_findIn X c) e (.inr ⟨zr,zr⟩) h
end
def dI(f:Str)(v:V):Ab (Str×V)->Ab (Str×V)
 | []=>[(f,v)]
 | (g,x)::r=>if g=f then (g,v)::r else (g,x)::dI f v r
theorem LC(f g:Str)(v:V):∀c:Ab (Str×V),(dI f v c).lookup g=if g=f then Aa v else c.lookup g
  | []=>by
    show B6 g [(f,v)]=_;by_cases h:g=f
    · have a:(g==f)=true:=beq_iff_eq.mpr h
      simp only[B6,a,Ah h]
    · have a:(g==f)=false:=beq_eq_false_iff_ne.mpr h
      simp only[B6,a,Ae h]
  | (k,x)::r=>by
    have d:=LC f g v r;rw[show dI f v ((k,x)::r)=(if k=f then (k,v)::r else (k,x)::dI f v r) from rfl];by_cases b:k=f
    · rw[Ah b]
      by_cases h:g=k
      · have a:(g==k)=true:=beq_iff_eq.mpr h
        simp only[B6,a,Ah<|h.trans b]
      · have a:(g==k)=false:=beq_eq_false_iff_ne.mpr h
        simp only[B6,a,Ae λe:g=f=>h<|e.trans b.symm]
    · rw[Ae b]
      by_cases h:g=k
      · have a:(g==k)=true:=beq_iff_eq.mpr h
        simp only[B6,a,Ae λe:g=f=>b<|h.symm.trans e]
      · have a:(g==k)=false:=beq_eq_false_iff_ne.mpr h
        simp only[B6,a];exact d
theorem uO(f:Str)(v:V):∀a:Ab (Str×V),f∈(dI f v a).map (·.1)/\∀g,g∈a.map (·.1)->g∈(dI f v a).map (·.1)
  | []=>⟨by simp[dI],λg h=>by simp at h⟩
  | (k,x)::r=>by
    obtain⟨c,d⟩:=uO f v r;rw[show dI f v ((k,x)::r)=(if k=f then (k,v)::r else (k,x)::dI f v r) from rfl];by_cases b:k=f
    · rw[Ah b]
      subst b;exact⟨by simp,λg h=>by simpa using h⟩
    · rw[Ae b]
      refine⟨?_,λg h=>?_⟩
      · rw[au]
        exact bb _ c
      · rw[au]at h ⊢
        rcases aA.mp h with e | e
        · exact aA.mpr<|.inl e
        · exact bb _<|d g e
theorem Nl(f:Str)(v:V):∀a:Ab (Str×V),(dI f v a).length<=a.length+1
  | []=>by simp[dI]
  | (k,x)::r=>by
    have c:=Nl f v r;rw[show dI f v ((k,x)::r)=(if k=f then (k,v)::r else (k,x)::dI f v r) from rfl];by_cases b:k=f
    · rw[Ah b,bz,bz];lia
    · rw[Ae b,bz,bz];lia
variable{o:Ag Ad}{v:V}
def cQ.lX(r:cQ (Aa v) o):∃u,o=Aa u/\av v u:=by
 cases o with
 | none=>exact(show Bj from r).elim
 | some u=>exact⟨u,rfl,r⟩
def cQ.YE(r:cQ none o):o=none:=by
 cases o with
 | none=>rfl
 | some u=>exact(show Bj from r).elim
def Ra(r:av v u):PySem.W.handedIn u=true:=by
 cases v with
 | non=>cases (show u=Bw from r);rfl
 | bl b=>cases (show u=ES b from r);rfl
 | int i=>obtain⟨t,e⟩:=(show ∃t,u=GD i t from r);cases e;rfl
 | str x=>obtain⟨t,e⟩:=(show ∃t,u=De x t from r);cases e;rfl
 | byt b=>obtain⟨t,e⟩:=(show ∃t,u=Jc b t from r);cases e;rfl
 | flt b=>obtain⟨t,e⟩:=(show ∃t,u=Jd b t from r);cases e;rfl
 | ref a=>cases (show u=Aw a from r);rfl
 | ty n=>cases (show u=AN n from r);rfl
section
variable{P:Ai}{w:Al}{H H':Hp}{h h':AH}{a C dx:Ac}{fs fs':Ab (Str×V)}
def uf(b:HOk P w H h)(e:H a=Aa (.ins C dx fs)):∃mA,jJ h a dx C mA/\(∀f,cQ (fs.lookup f)<|mA f)/\PySem.Within mA (fs.map (·.1))/\fs.length<=1000/\H dx=Aa (.own a):=by
 obtain⟨d,z,c,g,mA,n,r,q⟩:=(show bE P w H h a (.ins C dx fs) from b a _ e);exact⟨mA,⟨g,n,c⟩,r,q,z,d⟩
end
structure cU (K:xA) (C:Ac):Prop where
 pg:PySem.W.plainGet K C DU=true
 hd:PySem.W.hasDictIn K C=true
 po:PySem.W.plainOver K C=true
 sa:PySem.W.findIn K (.ref C) "__setattr__"=Aa (Aa (.builtin "object.__setattr__"))
def cU.get(c:cU K C)(f:Str):PySem.W.plainGet K C f=true:=c.pg
def en(K:xA)(C:Ac)(f:Str):Prop:=PySem.W.findIn K (.ref C) f=Aa none
variable{f:Str}
def en.taker(n:en K C f):PySem.W.takerIn K C f=Aa none:=by
 unfold PySem.W.takerIn;rw[show PySem.W.findIn K (.ref C) f=Aa none from n];rfl
structure lj (K:xA) (C:Ac) (m:Str) (f:Ac):Prop where
 at_:PySem.W.findIn K (.ref C) m=Aa (Aa (.ref f))
 fn:PySem.W.isFn K (.ref f)=true
 kp:PySem.W.keepIn K (.ref f)=true
section
variable{X:Cx}{xC:xG}{σ:St}{H:Hp}{s:Af}{a C dx:Ac}{fs:Ab (Str×V)}{f:Str}{v:V}{A:As}{E:xB}
def QN{b:AJ}{Q:xB}(I:ae X xC σ H s)(e:H a=Aa (.ins C dx fs))(c:cU X.K C)(n:en X.K C f)(l:fs.lookup f=Aa v)
  (h:∀u d,ae X xC σ H d->av v u->Q u d):Ak (Ao X.prog X.w) A (Jz (.ref a) f b) Q E s:=by
 obtain⟨mA,O,r,_,_,_⟩:=uf I.hok e;obtain⟨u,g,J⟩:=cQ.lX (v:=v) (o:=mA f) (by rw[<- l];exact r f);exact Yw I.kIn O (c.get f) c.hd n g (Ra J)<|h u _ (I.tok _) J
def pd{m:Str}{g:Ac}{b:Sem AJ}{Q:Ad×Ab Ad->Af->Prop}(I:ae X xC σ H s)(e:H a=Aa (.ins C dx fs))(c:cU X.K C)(k:lj X.K C m g)(l:fs.lookup m=none)
  (h:Q (.ref g,[.ref a]) s):Ak (Ao X.prog X.w) A (CO (.ref a) m b) Q E s:=by
 obtain⟨mA,O,r,_,_,_⟩:=uf I.hok e;have d:mA m=none:=cQ.YE (by rw[<- l];exact r m);exact Rp I.kIn O (c.get m) k.at_ k.fn d h
theorem Ot{y:V}{u:Ad}{Q:Ge->Af->Prop}(I:ae X xC σ H s)(e:H a=Aa (.ins C dx fs))(c:cU X.K C)(n:en X.K C f)(D:fs.length < 1000)(k:av y u)
  (h:∀d,ae X xC σ (upd H a<|.ins C dx<|dI f y fs) d->Q () d):Ak (Ao X.prog X.w) A (setAttr (.ref a) f u) Q E s:=by
 obtain⟨mA,O,r,i,_,j⟩:=uf I.hok e;have l:(fs.map (·.1)).length<=sizeLine:=by rw[ai,Eh];lia
 refine Tk I.kIn O c.sa c.po n.taker c.hd i l λm J p=>h _ ?_;have t:∃o,m.get? dx=Aa o:=let ⟨o,_,_,v,_⟩:=J.ns;⟨o,v⟩
 refine I.write (x:=a) (e:=dx) (by rw[e];exact Ay) (.inr j) (λb q w z=>(p.2 b w).trans z) t ?_;refine⟨by rw[qe O.ne];exact j,?_,O.ne,J.obj,_,J.ns,λg=>?_,λg B=>?_⟩
 .have:=Nl f y fs;lia
 .show cQ ((dI f y fs).lookup g) (if g=f then Aa u else mA g);rw[LC];by_cases q:g=f
  .rw[Ah q,Ah q];exact k
  .rw[Ae q,Ae q];exact r g
 .by_cases q:g=f
  .rw[q];exact(uO f y fs).1
  .refine(uO f y fs).2 g (i g λz=>B ?_);show (if g=f then Aa u else mA g)=none;rw[Ae q];exact z
def ae.made(I:ae X xC σ H s):ae X xC σ (upd (upd H s.heap.objs.size<|.own<|s.heap.objs.size+1) (s.heap.objs.size+1)<|.ins C s.heap.objs.size [])
  {s with heap:=(s.heap.push PySem.W.emptyDict).push<|PySem.W.instObj C s.heap.objs.size}:=by
 have c:(s.heap.push PySem.W.emptyDict).get? s.heap.objs.size=Aa PySem.W.emptyDict:=bc s.heap rfl;have f:((s.heap.push PySem.W.emptyDict).push<|PySem.W.instObj C s.heap.objs.size).get? (s.heap.objs.size+1)=Aa (PySem.W.instObj C s.heap.objs.size):=by
  have:=bc (s.heap.push PySem.W.emptyDict) (o:=PySem.W.instObj C s.heap.objs.size) rfl
  rwa [fi]at this
 have g:(s.heap.push PySem.W.emptyDict).Ns s.heap.objs.size (λ_=>none):=⟨PySem.W.emptyDict,#[],_,c,rfl,(λe h=>Au h<|by simp),λ_=>rfl⟩;have i:=I.laid (a:=s.heap.objs.size) (o:= .own<|s.heap.objs.size+1) (h':=s.heap.push PySem.W.emptyDict) (t':=s.toks) (λb u q=>aw _ q) (aj _) ⟨_,c⟩;refine i.laid (a:=s.heap.objs.size+1) (o:= .ins C s.heap.objs.size []) (t':=s.toks) (λb u q=>aw _ q) (B9<|fi _ _) ?_;have d:s.heap.objs.size≠s.heap.objs.size+1:=aJ<|iw _;refine⟨by rw[qe d,qb],ba _,d,f,λ_=>none,(Heap.Ns1.of_empty g).at λo q=>aw _ q,λ_=>Ay,λy j=>Au rfl j⟩
def QZ{b:Ai}{w:Al}{a:Env}{e:AK}{f:Str}{c:Pos}{s:Af}{Q:xB}(d:CB e f a (Bp e a)=Bp e a)
  (h:Ak (Ao b w) A (Bp e a) (λo g=>Ak (Ao b w) A (Jz o f true) Q E g) E s):Ak (Ao b w) A (Bp (.Attribute e f c) a) Q E s:=
 Attribute_any_ h (by rw[arm_eval_Attribute,d])
end
inductive MN (K:xA) (f:Str) (Q:VK) (x:V) (b:Hp):Prop
 | mk:∀a C dx c v,(x= .ref a)->(b a=Aa (.ins C dx c))->(cU K C)->(en K C f)->(c.lookup f=Aa v)->(Q v b)->MN K f Q x b
def VZ(K:xA)(a:TE)(f:Str):TE:=λσ H Q=>a σ H λx b=>MN K f Q x b
inductive tL (K:xA) (f:Str) (D:dJ) (d:St) (y:V) (x:V) (b:Hp):Prop
 | mk:∀a C dx c,(x= .ref a)->(b a=Aa (.ins C dx c))->(cU K C)->(en K C f)->(c.length < 1000)->(D.nx d (upd b a (.ins C dx (dI f y c))))->tL K f D d y x b
def ZF(K:xA)(a b:TE)(f:Str):TS:=λD σ H=>b σ H λy c=>a σ c λx d=>tL K f D σ y x d
def cD(b:PE X e ta)(d:CB e f X.env (Bp e X.env)=Bp e X.env):PE X (.Attribute e f pos) (VZ X.K ta f):=by
 intro xC s σ H Q I h;refine QZ d (am (b xC s σ H _ I h) λu r J=>?_);obtain⟨x,g,i,j,a,C,dx,t,v,k,m,c,n,l,q⟩:=J;subst k;obtain rfl:u=Aw a:=j;exact QN i m c n l λw y o p=>⟨v,g,o,p,q⟩
variable{o value:AK}{pos':Pos}{tv:TE}
def kI(b:PE X o ta)(d:PE X value tv)(e:EB value (Aa<|.Attribute o f pos') pos.line X.env=AX false):PS X (.Assign [.Attribute o f pos'] value pos) (ZF X.K ta tv f):=by
 intro xC s σ H D I h;refine plainObj_wpAny_Assign_Attribute (am (d xC s σ H _ I h) λu g ⟨y,i,j,k,q⟩=>am (b xC g σ i _ j q) λm A J=>?_) e;obtain⟨x,B,p,r,a,C,dx,E,t,v,c,n,l,w⟩:=J;subst t;obtain rfl:m=Aw a:=r;exact Ot p v c n l k λF z=>⟨σ,_,z,w⟩
structure aR (k:Nat) (A:As):Prop where
 hd:A.handled=none
 dp:A.depth+3*k+5 < recursionLimit
 un:A.units+16*k+200 < cLine
variable{k:Nat}
theorem aR.mono{j:Nat}{A:As}(r:aR k A)(h:j<=k):aR j A:=⟨r.hd,by have:=r.dp;lia,by have:=r.un;lia⟩
theorem aR.deeper{k:Nat}{A:As}(r:aR (k+1) A)(a:Env):aR k (A.deeper a):=
 ⟨r.hd,by have:=r.dp;show A.depth+1+3*k+5 < _;lia,by have:=r.un;show A.units+3+16*k+200 < _;lia⟩
theorem aR.in1{k:Nat}{A:As}(r:aR (k+1) A):aR k A.in1:=
 ⟨r.hd,by have:=r.dp;show A.depth+3*k+5 < _;lia,by have:=r.un;show A.units+1+16*k+200 < _;lia⟩
variable{kw:Ab (Str×Ad)}
def ZC{A:As}{a:xH}:(A.under<|.builtin "type.__call__" ⟨.ref C::a,kw⟩).depth=A.depth+1:=by
 first | rfl | simp[Gi,Code.weight,Code.isCreation,Code.isGuard,Code.isCaller,Jh,Gj,guardIds]
def XF{A:As}{a:xH}:(A.under<|.builtin "type.__call__" ⟨.ref C::a,kw⟩).units=A.units+1:=by
 first | rfl | simp[Gi,Code.cUnits,Jh,Gj]
theorem aR.make{A:As}(r:aR (k+1) A)(C:Ac)(a:xH)(b:Ab (Str×Ad)):aR k (A.under<|.builtin "type.__call__" ⟨.ref C::a,b⟩):=
 ⟨r.hd,by have:=r.dp;rw[ZC];lia,by have:=r.un;rw[XF];lia⟩
theorem aR.depth{k:Nat}{A:As}(r:aR k A):A.depth < recursionLimit:=by have:=r.dp;lia
theorem aR.units{k:Nat}{A:As}(r:aR k A):A.units+64 < cLine:=by have:=r.un;lia
def eE:TA:=λ_ H Q=>Q [] H
def bi(a:TE)(b:TA):TA:=λσ H Q=>a σ H λx c=>b σ c λxs d=>Q (x::xs) d
def ck:PA X [] eE:=λ_ _ _ _ H Q I h=>Cg ⟨[],H,I,.nil,h⟩
variable{t:TA}{es:Ab AK}{te:TE}
def TJ(a:PE X e te)(b:PA X es t)(c:AA (e::es) X.env=(false,Bp e X.env)::AA es X.env:=by rfl):PA X (e::es) (bi te t):=by
 intro pos xC s σ H Q I h;rw[c];show Ak _ _ (spliced<|(false,Bp e X.env)::Bs pos (AA es X.env)) _ _ s;refine Bt (am (a xC s σ H _ I h) λu d J=>?_);obtain⟨x,f,g,i,j⟩:=J;exact am (b pos xC d σ f _ g j) λo p ⟨xs,k,l,m,n⟩=>⟨x::xs,k,l,.cons i m,n⟩
def PH(t:TA):TE:=λσ H Q=>t σ H λxs a=>xs.length<=sizeLine/\∀p,a p=none->Q (.ref p) (upd a p<|.tup xs)
def VT(t:TA):TE:=λσ H Q=>t σ H λxs a=>xs.length<=sizeLine/\∀p,a p=none->Q (.ref p) (upd a p<|.lst xs)
def qy{x1}(h:PA X es t):PE X (.Tuple es x1 pos) (PH t):=by
 intro xC s σ H Q I f;refine wpAny_Tuple_spliced (am (h pos xC s σ H _ I f) λg a ⟨xs,c,d,r,z,q⟩=>⟨by rw[<- r.length];exact z,?_⟩);have i:c a.heap.objs.size=none:=d.hok.fresh<|aj _;refine⟨.ref a.heap.objs.size,upd c a.heap.objs.size<|.tup xs,d.laid (t':=a.toks) (λb u e=>aw _ e) (aj _) ?_,zr,q _ i⟩;exact⟨z,g,r,⟨_,bc _ rfl,zr,_,zr⟩⟩
def qu(h:PA X es t):PE X (.List es pos) (VT t):=by
 intro xC s σ H Q I f;refine wpAny_List_spliced (am (h pos xC s σ H _ I f) λg a ⟨xs,c,d,r,z,q⟩=>⟨by rw[<- r.length];exact z,?_⟩);have i:c a.heap.objs.size=none:=d.hok.fresh<|aj _;refine⟨.ref a.heap.objs.size,upd c a.heap.objs.size<|.lst xs,d.laid (t':=a.toks) (λb u e=>aw _ e) (aj _) ?_,zr,q _ i⟩;exact⟨z,g,0,r,bc _ rfl⟩
abbrev Sp:=Ab V->Hp->VK->XK->Prop
abbrev gT:=Ab Env->Hp->Af->XK->Ad->Af->Prop
structure gR (P:Ai) (w:Al) (K:xA) (mg:xE) (base:AH) (A:As) (outer:Ab Env) (s:Af) (H:Hp):Prop where
 frames:A.frames=Aa outer
 mod:qN K mg base
 bs:∀b o,base.get? b=Aa o->s.heap.get? b=Aa o/\H b=none
 bsz:base.objs.size<=s.heap.objs.size
 funs:s.heap.FunFrames base outer
 frf:∀b∈cC outer,H b=none
 hok:HOk P w H s.heap
 bare:DK s.gens
def CE(c:Ab Env)(P:Ai)(w:Al)(H:Hp)(s:Af)(Q:VK)(u:Ad)(a:Af):Prop:=
 ∃v b,a.os=s.os/\DK a.gens/\Un (cC c) [] H b s.heap a.heap/\HOk P w b a.heap/\av v u/\Q v b
def CR(c:gT)(a:Ab Env)(P:Ai)(w:Al)(H:Hp)(s:Af)(Q:VK)(E:XK)(r:CJ)(b:Af):Prop:=
 match r with
 | .ok (.ret u)=>CE a P w H s Q u b
 | .ok _=>Bj
 | .error e=>c a H s E e b
structure bZ (P:Ai) (w:Al) (K:xA) (mg:xE) (base:AH) (CX:gT) (k:Nat) (f:Ac) (fd:BD) (ps:xD) (sp:Sp):Prop where
 len:∀vs H Q E,sp vs H Q E->vs.length=ps.length
 run:∀(A:As) (outer:Ab Env) (s:Af) (H:Hp) (args:Args) (us:xH) (vs:Ab V) (Q:VK) (E:XK),aR k A->gR P w K mg base A outer s H->Dq s fd args (ps.zip us)->ap vs us->sp vs H Q E->
  BQ (Ao P w) A (.call (.ref f) args) (CR CX outer P w H s Q E) s
theorem bZ.mono{P:Ai}{w:Al}{K:xA}{a:xE}{b:AH}{c:gT}{j k:Nat}{f:Ac}{d:BD}{e:xD}{sp:Sp}(F:bZ P w K a b c j f d e sp)(h:j<=k):
  bZ P w K a b c k f d e sp:=⟨F.len,λA g s H i l m Q E n=>F.run A g s H i l m Q E<|n.mono h⟩
variable{f:Ac}{mg:xE}{base:AH}{CX:gT}{fd:BD}{ps:xD}{sp:Sp}
def bZ.imp{J:Sp}(F:bZ P w K mg base CX k f fd ps sp)
  (h:∀a H Q E,J a H Q E->sp a H Q E):bZ P w K mg base CX k f fd ps J:=
 ⟨λa H Q E q=>F.len a H Q E<|h _ _ _ _ q,λA b s H c d a Q E e g i j l=>F.run A b s H c d a Q E e g i j<|h _ _ _ _ l⟩
variable{A:As}{outer:Ab Env}{s:Af}{H:Hp}
def gR.make(e:gR P w K mg base A outer s H)(C:Ac)(a:xH)(b:Ab (Str×Ad)):
  gR P w K mg base (A.under<|.builtin "type.__call__" ⟨.ref C::a,b⟩) outer s H:=⟨by first | exact e.frames | (simpa [Gi,Code.envs,Gj,pushEnvs] using e.frames),e.mod,e.bs,e.bsz,e.funs,e.frf,e.hok,e.bare⟩
theorem gR.in1{P:Ai}{w:Al}{K:xA}{a:xE}{b:AH}{A:As}{c:Ab Env}{s:Af}{H:Hp}(e:gR P w K a b A c s H):
  gR P w K a b A.in1 c s H:=⟨e.frames,e.mod,e.bs,e.bsz,e.funs,e.frf,e.hok,e.bare⟩
def ae.env0(I:ae X xC σ H s):gR X.prog X.w X.K X.mg X.base X.A X.stack s H:=
 ⟨I.ok.frames,I.ok.mod,I.bs,az I.ok.bsz I.sz,I.stack,I.stkFree,I.hok,I.bare⟩
variable{s':Af}{Q:VK}
def ae.after(I:ae X xC σ H s)(h:CE X.stack X.prog X.w H s Q u s'):EP X xC σ Q u s':=by
 obtain⟨v,a,os,c,e,f,r,q⟩:=h;obtain⟨i,g,d,t,J⟩:=s';obtain rfl:J=s.os:=os;exact⟨v,a,I.call (h':=i) (g':=g) (d':=d) (t':=t) (ch:=[]) e f c (λb z=>Au z<|by simp),r,q⟩
def sQ(a:Sp)(b:Ab V)(E:XK)(t:TA):TE:=λσ H Q=>t σ H λc d=>a (c++b) d Q E
inductive zV (C:Ac) (m:Str) (c:Sp) (d:Ab V) (E:XK) (t:TA) (e:St) (Q:VK) (x:V) (b:Hp):Prop
 | mk:∀a dx f,(x= .ref a)->(b a=Aa (.ins C dx f))->(f.lookup m=none)->(t e b λg h=>c (x::(g++d)) h Q E)->zV C m c d E t e Q x b
def nQ(C:Ac)(m:Str)(a:Sp)(b:Ab V)(E:XK)(c:TE)(t:TA):TE:=λσ H Q=>c σ H λx d=>zV C m a b E t σ Q x d
def lT(C:Ac)(b:Sp)(c:Ab V)(E:XK)(t:TA):TE:=λσ H Q=>t σ H λd a=>∀x dx,a x=none->a dx=none->dx≠x->
 b (.ref x::(d++c)) (upd (upd a dx<|.own x) x<|.ins C dx []) (λv e=>v= .non/\Q (.ref x) e) E
def df(K:xA)(d:BD)(b:xD)(c:xH):Prop:=
 ∀(s:Af) (a:xH),K.In s.heap->(a++c).length=b.length->Dq s d ⟨a,[]⟩ (b.zip<|a++c)
def df.all(h:∀a:Ab Ad,a.length=ps.length->EC fd ⟨a,[]⟩=AX (ps.zip a)):df K fd ps []:=λs a _ b=>by
 rw[dy]at b ⊢;exact .of_eq<|h a b
def fx(a:gT)(X:Cx)(E:XK):Prop:=∀(xC:xG) (σ:St) (H:Hp) (s:Af) (e:Ad) (s':Af),ae X xC σ H s->a X.stack H s E e s'->X.xe e s'
variable{dvs vs:Ab V}{ds us:xH}{E:XK}
def nN(F:bZ X.prog X.w X.K X.mg X.base CX k f fd ps sp)(c:aR k X.A)(d:df X.K fd ps ds)(g:ap dvs ds)(i:fx CX X E)
  (I:ae X xC σ H s) (r:ap vs us) (h:sp (vs++dvs) H Q E):Ak (Ao X.prog X.w) X.A (call (.ref f) us) (EP X xC σ Q) X.xe s:=by
 have b:ap (vs++dvs) (us++ds):=r.append g;have j:(us++ds).length=ps.length:=by rw[<- b.length];exact F.len _ _ _ _ h
 refine DZ (eZ (F.run X.A X.stack s H ⟨us,[]⟩ (us++ds) (vs++dvs) Q E c I.env0 (d s us I.kIn j) b h) λr s' a=>?_);cases r with
 | error e=>exact i xC σ H s e s' I a
 | ok l=>
  cases l with
  | ret u=>exact I.after a
  | next=>exact Bc a
  | brk=>exact Bc a
  | cont=>exact Bc a
variable{x:Str}
def Lf(F:bZ X.prog X.w X.K X.mg X.base CX k f fd ps sp)(b:aR k X.A)(c:Gl X x)(d:X.mg x=Aa (.ref f))(g:PySem.W.keepIn X.K (.ref f)=true)(i:df X.K fd ps ds)(j:ap dvs ds)(l:fx CX X E)
  (m:PA X (e::es) t) (J:(x==("__debug__":Str))=false:=by decide) (n:AA (e::es) X.env=(false,Bp e X.env)::AA es X.env:=by rfl) (O:(Bs pos<|AA es X.env).any (·.1)=false:=by rfl):
  PE X (.Call (.Name x p) (e::es) [] pos) (sQ sp dvs E t):=by
 intro xC s σ H Q I h;refine jM<|jb I c d ?_ J;refine PySem.W.callWith_K (h₀:=X.base) I.ok.mod.kin g (am (m pos xC s σ H _ I h) λus o ⟨vs,u,a,r,q⟩=>⟨a.kIn,?_⟩) n O;exact nN F b i j l a r q
variable{pl:Sem AJ}{m:Str}{apos:Pos}
def Mb(i:PE X o ta)(c:cU X.K C)(b:lj X.K C m f)(F:bZ X.prog X.w X.K X.mg X.base CX k f fd ps sp)(j:aR k X.A)(n:df X.K fd ps ds)(p:ap dvs ds)(v:fx CX X E)(w:PA X (e::es) t)
  (O:AA (e::es) X.env=(false,Bp e X.env)::AA es X.env:=by rfl) (J:(Bs pos<|AA es X.env).any (·.1)=false:=by rfl)
  (y:Bp (.Call (.Attribute o m apos) (e::es) [] pos) X.env=(do
   let ov <- Bp o X.env
   DL apos.atName
   let (f,first) <- Dp [ov] (CO ov m pl)
   ED pos f first (Bs pos<|AA (e::es) X.env) (Cn pos<|BE [] X.env)):=by rfl):
  PE X (.Call (.Attribute o m apos) (e::es) [] pos) (nQ C m sp dvs E ta t):=by
 intro xC s σ H Q I h;refine PySem.W.methodCall_KW (pl:=pl) (am (i xC s σ H _ I h) λu z Y=>?_) y;obtain⟨x,A,d,B,a,dx,L,D,G,l,q⟩:=Y;subst D;obtain rfl:u=Aw a:=B;refine pd d G c b l ?_;refine PySem.W.callWith_K (first:=[.ref a]) (h₀:=X.base) I.ok.mod.kin b.kp (am (w pos xC z σ A _ d q) λus M ⟨vs,N,g,r,K⟩=>⟨g.kIn,?_⟩) O J;exact nN (us:= .ref a::us) (vs:= .ref a::vs) F j n p v g (.cons rfl r) K
def Sn(e:PE X o ta)(c:cU X.K C)(d:lj X.K C m f)(F:bZ X.prog X.w X.K X.mg X.base CX k f fd ps sp)(g:aR k X.A)(i:df X.K fd ps ds)(j:ap dvs ds)(n:fx CX X E)
  (p:Bp (.Call (.Attribute o m apos) [] [] pos) X.env=(do
   let ov <- Bp o X.env
   DL apos.atName
   let (f,first) <- Dp [ov] (CO ov m pl)
   ED pos f first (Bs pos<|AA [] X.env) (Cn pos<|BE [] X.env)):=by rfl):
  PE X (.Call (.Attribute o m apos) [] [] pos) (nQ C m sp dvs E ta eE):=by
 intro xC s σ H Q I h;refine PySem.W.methodCall_KW (pl:=pl) (am (e xC s σ H _ I h) λu w J=>?_) p;obtain⟨x,y,b,r,a,dx,z,t,v,l,q⟩:=J;subst t;obtain rfl:u=Aw a:=r;refine pd b v c d l ?_;exact PySem.W.callWith_K0 (first:=[.ref a]) b.kIn d.kp<|nN (us:=[.ref a]) (vs:=[.ref a]) F g i j n b (.cons rfl .nil) q
structure Mk (K:xA) (C f:Ac):Prop where
 makes:PySem.W.makesIn K C=true
 init:PySem.W.findIn K (.ref C) "__init__"=Aa (Aa (.ref f))
 fn:PySem.W.isFn K (.ref f)=true
 kp:PySem.W.keepIn K (.ref C)=true
def Nk(M:Mk X.K C f)(F:bZ X.prog X.w X.K X.mg X.base CX k f fd ps sp)(d:aR (k+1) X.A)(g:df X.K fd ps ds)(i:ap dvs ds)
  (j:fx CX X E) (I:ae X xC σ H s) (r:ap vs us)
  (h:∀x dx,H x=none->H dx=none->dx≠x->sp (.ref x::(vs++dvs)) (upd (upd H dx<|.own x) x<|.ins C dx []) (λv l=>v= .non/\Q (.ref x) l) E):
  Ak (Ao X.prog X.w) X.A (call (.ref C) us) (EP X xC σ Q) X.xe s:=by
 have b:=h (s.heap.objs.size+1) s.heap.objs.size (I.hok.fresh<|Du _) (I.hok.fresh<|aj _)<|aJ<|iw _;have a:=ae.made (C:=C) I;have c:ap (V.ref (s.heap.objs.size+1)::(vs++dvs)) (Aw (s.heap.objs.size+1)::(us++ds)):= .cons rfl<|r.append i;have m:(Aw (s.heap.objs.size+1)::us++ds).length=ps.length:=by
  have e:=c.length;rw[F.len _ _ _ _ b]at e;exact e.symm
 refine DZ (Vy (f:=f) I.kIn M.makes M.init (beq_iff_eq.mp M.fn)<|eZ (F.run _ X.stack _ _ ⟨Aw (s.heap.objs.size+1)::us,[]⟩ (Aw (s.heap.objs.size+1)::(us++ds)) _ _ E (d.make C us [])
  (a.env0.make C us []) (g _ (Aw (s.heap.objs.size+1)::us) a.kIn m) c b) λr s' J=>?_)
 cases r with
 | error e=>exact j xC σ _ _ e s' a J
 | ok n=>
  cases n with
  | ret u=>
   obtain⟨v,o,p,q,t,w⟩:=a.after J;subst t;exact⟨q,⟨V.ref<|s.heap.objs.size+1,o,p,zr,w⟩⟩
  | next=>exact Bc J
  | brk=>exact Bc J
  | cont=>exact Bc J
def KI(M:Mk X.K C f)(F:bZ X.prog X.w X.K X.mg X.base CX k f fd ps sp)(b:aR (k+1) X.A)(c:Gl X x)(d:X.mg x=Aa (.ref C))(g:df X.K fd ps ds)(i:ap dvs ds)(j:fx CX X E)
  (l:PA X (e::es) t) (J:(x==("__debug__":Str))=false:=by decide) (m:AA (e::es) X.env=(false,Bp e X.env)::AA es X.env:=by rfl) (O:(Bs pos<|AA es X.env).any (·.1)=false:=by rfl):
  PE X (.Call (.Name x p) (e::es) [] pos) (lT C sp dvs E t):=by
 intro xC s σ H Q I h;refine jM<|jb I c d ?_ J;refine PySem.W.callWith_K (h₀:=X.base) I.ok.mod.kin M.kp (am (l pos xC s σ H _ I h) λus n ⟨vs,o,a,r,q⟩=>⟨a.kIn,?_⟩) m O;exact Nk M F b g i j a r q
def Tp(M:Mk X.K C f)(F:bZ X.prog X.w X.K X.mg X.base CX k f fd ps sp)(a:aR (k+1) X.A)(b:Gl X x)(c:X.mg x=Aa (.ref C))(d:df X.K fd ps ds)(e:ap dvs ds)(g:fx CX X E)
  (J:(x==("__debug__":Str))=false:=by decide):PE X (.Call (.Name x p) [] [] pos) (lT C sp dvs E eE):=by
 intro xC s σ H Q I h;refine jM<|jb I b c ?_ J;exact PySem.W.callWith_K0 I.kIn M.kp<|Nk (us:=[]) M F a d e g I .nil h
def PK(X:Cx)(a:Ab Ei)(t:TA):Prop:=
 ∀(pos:Pos) (xC:xG) (s:Af) (σ:St) (H:Hp) (Q:Ab V->Hp->Prop),ae X xC σ H s->t σ H Q->Ak (Ao X.prog X.w) X.A (evalAll ((Cn pos<|BE a X.env).map (·.2))) (AP X xC σ Q) X.xe s
def ZD:PK X [] eE:=λ_ _ _ _ H Q I h=>wpAny_evalAll_nil ⟨[],H,I,.nil,h⟩
variable{kpos:Pos}{kws:Ab Ei}{nm:Ag Str}
def Zf(a:PE X e te)(b:PK X kws t):PK X (⟨nm,e,kpos⟩::kws) (bi te t):=by
 intro pos xC s σ H Q I h;show Ak _ _ (evalAll ((do let v <- Bp e X.env;DL pos;AX v)::(Cn pos<|BE kws X.env).map (·.2))) _ _ s;refine wpAny_evalAll_cons (ac<|am (a xC s σ H _ I h) λu c ⟨x,d,f,g,i⟩=>ac<|Er<|ah ?_);exact am (b pos xC c σ d _ f i) λus n ⟨xs,j,k,l,m⟩=>⟨x::xs,j,k,.cons g l,m⟩
structure aB (N P:xD) (sc:Ck):Prop where
 kind:sc.kind= .function
 co:sc.isCoroutine=false
 gen:sc.isGenerator=false
 nd:N.Nodup
 pre:N.take P.length=P
 par:∀x∈P,sc.names.lookup x=Aa .local\/ sc.names.lookup x=Aa .cell
 nofree:∀y∈sc.names,y.2≠ .free
theorem wM{kindOf:Str->Ag Dv}{x:Str}:∀{J:Ab (Str×Ad)} {m:xE},(∀v,(x,v)∉J)->Hx kindOf J m x=m x
  | [],_,_=>rfl
  | (n,v)::r,m,h=>by
    unfold Hx;rw[wM λw a=>h w<|bb _ a];split
    · have:x≠n:=by rintro rfl;exact h v be
      simp[this]
    · rfl
theorem D_{kindOf:Str->Ag Dv}{x:Str}:∀{J:Ab (Str×Ad)} {m:xE},(∀v,(x,v)∉J)->Hy kindOf J m x=m x
  | [],_,_=>rfl
  | (n,v)::r,m,h=>by
    unfold Hy;rw[D_ λw a=>h w<|bb _ a];split
    · rfl
    · have:x≠n:=by rintro rfl;exact h v be
      simp[this]
theorem wJ{kindOf:Str->Ag Dv}{x:Str}{v:Ad}:∀{P:xD} {vs:xH} {i:Nat} {m:xE},P.Nodup->P[i]? =Aa x->vs[i]? =Aa v->kindOf x=Aa .local->
  Hx kindOf (P.zip vs) m x=Aa v
 | [],_,_,_,_,h,_,_=>by simp at h
 | _::_,[],_,_,_,_,h,_=>by simp at h
 | p::P,w::vs,0,m,nd,a,b,c=>by
  simp at a b;subst a;subst b
  show Hx kindOf ((p,w)::P.zip vs) m p=_;unfold Hx;rw[wM λv d=>(dL.mp nd).1 (CH d).1,Ah c];simp
 | p::P,w::vs,i+1,m,nd,a,b,c=>by
  show Hx kindOf ((p,w)::P.zip vs) m x=_;unfold Hx;exact wJ (i:=i) (dL.mp nd).2 (by simpa using a) (by simpa using b) c
theorem zd{kindOf:Str->Ag Dv}{x:Str}{v:Ad}:∀{P:xD} {vs:xH} {i:Nat} {m:xE},P.Nodup->P[i]? =Aa x->vs[i]? =Aa v->kindOf x≠Aa .local->
  Hy kindOf (P.zip vs) m x=Aa v
 | [],_,_,_,_,h,_,_=>by simp at h
 | _::_,[],_,_,_,_,h,_=>by simp at h
 | p::P,w::vs,0,m,nd,a,b,c=>by
  simp at a b;subst a;subst b
  show Hy kindOf ((p,w)::P.zip vs) m p=_;unfold Hy;rw[D_ λv d=>(dL.mp nd).1 (CH d).1,Ae c];simp
 | p::P,w::vs,i+1,m,nd,a,b,c=>by
  show Hy kindOf ((p,w)::P.zip vs) m x=_;unfold Hy;exact zd (i:=i) (dL.mp nd).2 (by simpa using a) (by simpa using b) c
def start(N:xD)(a:Ab V):St:=a.map Aa++AI (N.length - a.length) none
def eF(g:gT)(P:Ai)(w:Al)(K:xA)(mg:xE)(base:AH)(N:xD)(a:Str)(b:Ck)(f:Ac)(c:Ad)(A:As)(outer:Ab Env)(s:Af)(H:Hp)(E:XK):Cx where
 prog:=P
 w:=w
 K:=K
 mg:=mg
 base:=base
 A:=A.deeper (CK a b s.heap.objs.size f c)
 N:=N
 s₀:=s
 H₀:=H
 env:=CK a b s.heap.objs.size f c
 outer:=outer
 stack:=CK a b s.heap.objs.size f c::outer
 ex:=[]
 calm:=true
 fn:=λ_=>true
 pn:=[]
 xe:=λe s'=>Ak (Ao P w) (A.deeper<|CK a b s.heap.objs.size f c) (leaving (CK a b s.heap.objs.size f c) e) (λ_ d=>g outer H s E e d) (λh d=>g outer H s E h d) s'
def xt{a:Ck}(h:a.names.lookup x=Aa .cell):∃c,(IB n a.names []).lookup x=Aa c:=by
 have q:=PySem.W.cellsFrom_some a.names n []<|.inl h;exact Option.isSome_iff_exists.mp q
variable{qual:Str}{scope:Ck}
theorem Xe{N:xD}{Z:Ad}{s1:Af}
    (S:aB N ps scope) (B:A.handled=none) (J:gR P w K mg base A outer s H) (F:vs.length=ps.length) (r:ap vs us)
    (x:InCallC s s.heap.objs.size (Hx (CK qual scope s.heap.objs.size f Z).kindOf (ps.zip us) λ_=>none) (IB (s.heap.objs.size+1) scope.names []) (Hy (CK qual scope s.heap.objs.size f Z).kindOf (ps.zip us) λ_=>none) s1):
    ae (eF CX P w K mg base N qual scope f Z A outer s H E) [] (start N vs) H s1:=by
  have G:ps.length<=N.length:=by have:=Ba Dw S.pre;rw[bt]at this;lia
  obtain⟨l,I,rfl,o⟩:=x.done;have O:∀b:Ac,b∉(eF CX P w K mg base N qual scope f Z A outer s H E).ex:=λb z=>Au (show b∈([]:Ab Ac) from z) (by simp);refine⟨⟨J.mod,S.kind,zr,zr,aj _,λy z c l d=>?_,λy g=>?_,λy c _ h=>?_,λ_=>B,Around.frames_deeper J.frames,.inr ⟨zr,zr⟩,λb z=>Au z<|O b,J.bs,J.bsz,λb _ _=>O b,λb z=>Au z<|O b,J.funs,J.frf⟩,
    rfl,J.bare,Un.kept o,⟨_,x.toInCall.ns,λi y v l d L=>?_⟩,λy c h=>⟨_,x.cell y c h⟩,J.hok.fresh<|aj _,λy c h=>?_,λp j=>Au (show p∈([]:xG) from j) (by simp),J.hok.kept o,?_⟩
  · exact name_of_addr x.apart (iR l)<|iR d
  · have g:scope.names.lookup y=Aa .cell\/ scope.names.lookup y=Aa .free:=g
    rcases g with g | g
    · exact xt g
    · exact Au rfl<|S.nofree _<|iR g
  · exact c_<|x.above y c<|iR h
  · have m:i < vs.length:=by
      unfold start at d;by_cases m:i < vs.length
      · exact m
      · rw[jg<|by simpa using m]at d
        rw[List.getElem?_replicate]at d;split at d <;> cases d
    have C:vs[i]? =Aa v:=by
      unfold start at d;rw[Bo (by simpa using m),bF]at d;cases e:vs[i]? with
      | none=>rw[e]at d;cases d
      | some a=>rw[e]at d;cases d;rfl
    obtain⟨u,t,D⟩:=r.get C;have j:ps[i]? =Aa y:=by
      rw[<- S.pre,Cy<|by lia];exact l
    have Y:ps.Nodup:=by rw[<- S.pre];exact S.nd.sublist<|Cf _ _
    refine⟨u,D,?_⟩;rcases S.par y (bJ j) with k | k
    · exact .inl ⟨k,wJ Y j t k⟩
    · obtain⟨c,e⟩:=xt (n:=s.heap.objs.size+1) k
      refine .inr ⟨.inl k,c,e,?_⟩;have q:=x.cell y c e;rw[zd Y j t (by show scope.names.lookup y≠_;rw[k];decide)]at q;exact q
  · exact J.hok.fresh<|c_<|x.above y c<|iR h
  · unfold start
    show _=N.length;rw[aX,ai,C5]
    lia
def pK{j:Str}{l:IC}{m kV p z c B I:Ad}{C L:Ag Ac}
  {M:Am (Ag Ad)} {N:xD}  (R:K.lookup f=Aa ⟨I,L,.func<|PySem.W.fnOf j qual l body scope m kV p z C c B,M⟩) (T:PySem.W.codeIn K c qual=true) (S:aB N ps scope)
  (D:∀vs H Q E,sp vs H Q E->vs.length=ps.length)
  (O:∀(A:As) (outer:Ab Env) (s:Af) (H:Hp) (vs:Ab V) (Q:VK) (E:XK),aR k (A.deeper<|CK qual scope s.heap.objs.size f c)->sp vs H Q E->
   ∃t,bf (eF CX P w K mg base N qual scope f c A outer s H E) body t/\t {nx:=λ_ a=>Q .non a,rt:=Q} (start N vs) H):
  bZ P w K mg base CX (k+1) f (PySem.W.fnOf j qual l body scope m kV p z C c B) ps sp:=by
 refine⟨D,λA outer s H g0 us vs Q E h d U r F=>?_⟩;have W:=D _ _ _ _ F;have G:K.In s.heap:=d.mod.kin.keeps λb o e=>(d.bs b o e).1;have X:s.heap.NoLimit:=d.mod.nolimit.keeps λb o e=>(d.bs b o e).1;have Y:∀y∈ps.zip us,scope.names.lookup y.1=Aa .local\/ (scope.names.lookup y.1=Aa .cell/\((IB (s.heap.objs.size+1) scope.names []).lookup y.1).isSome=true):=λ⟨n,v⟩ a0=>by
  rcases S.par n (CH a0).1 with q | q
  .exact .inl q
  .exact .inr ⟨q,PySem.W.cellsFrom_some _ _ _<|.inl q⟩
 refine codeAny_call_function h.depth (G _ _ R) rfl S.co S.gen rfl (PySem.W.codeRec_of G T)<|U _ _ _ _ ?_;refine wpAny_newFunctionEnv_cells S.kind Y λh0 b0 s1 x=>?_;subst b0;refine⟨X.keeps x.toInCall.keep,codeAny_func ?_⟩;obtain⟨t,c0,d0⟩:=O A outer s H vs Q E (h.deeper _) F;have e0:ae (eF CX P w K mg base N qual scope f c A outer s H E) [] (start N vs) H s1:=Xe S h.hd d W r x;refine bK (c0 [] s1 (start N vs) H _ e0 d0) (λf0 s' Z=>?_) λe s' Z=>Z;have fin:∀{g:St} {a:Hp} {v:V} {u:Ad},ae (eF CX P w K mg base N qual scope f c A outer s H E) [] g a s'->av v u->Q v a->CE outer P w H s Q u s':=
  λ{g a v u} J i q=>⟨v,a,J.os,J.bare,J.base,J.hok,i,q⟩
 cases f0 with
 | ret u=>
  obtain⟨v,g,a,J,i,q⟩:=Z;exact fin J i q
 | next=>
  obtain⟨g,a,J,q⟩:=Z;exact fin (v:=V.non) (u:=Bw) J rfl q
 | brk=>
  obtain⟨_,_,_,q⟩:=Z;exact Bc q
 | cont=>
  obtain⟨_,_,_,q⟩:=Z;exact Bc q
def yw(r:Ab V->Hp->VK->Prop)(t:TA):TE:=λσ H Q=>t σ H λvs a=>r vs a Q
variable{r:Ab V->Hp->VK->Prop}{id:BL}
def qp(a:cu X (.builtin id) r)(b:Gl X x)(c:X.mg x=none)(d:AU x=Aa (.builtin id))(f:PA X (e::es) t)(g:x≠"__name__":=by decide)(J:(x==("__debug__":Str))=false:=by decide)
  (i:AA (e::es) X.env=(false,Bp e X.env)::AA es X.env:=by rfl) (O:(Bs pos<|AA es X.env).any (·.1)=false:=by rfl):PE X (.Call (.Name x p) (e::es) [] pos) (yw r t):=by
 intro xC s σ H Q I h;refine jM<|ky I b c d ?_ g J;exact PyProof.Rows.callWith_builtin1 (am (f pos xC s σ H _ I h) λus j ⟨vs,k,l,m,n⟩=>a xC j σ k vs us Q l m n) i O
variable{T:BL}
def eT(a:cu X (.type T) r)(b:Gl X x)(c:X.mg x=none)(d:AU x=Aa (.type T))(f:PA X (e::es) t)(g:x≠"__name__":=by decide)(J:(x==("__debug__":Str))=false:=by decide)
  (i:AA (e::es) X.env=(false,Bp e X.env)::AA es X.env:=by rfl) (O:(Bs pos<|AA es X.env).any (·.1)=false:=by rfl):PE X (.Call (.Name x p) (e::es) [] pos) (yw r t):=by
 intro xC s σ H Q I h;refine jM<|ky I b c d ?_ g J;exact tH (am (f pos xC s σ H _ I h) λus j ⟨vs,k,l,m,n⟩=>a xC j σ k vs us Q l m n) i O
end L2
open L2.V renaming int->JN,str->JP,ref->JU,bl->Ke
open L2.aK renaming of->JO
open L2.HO renaming lst->JR,tup->JY,dK->Kt
open L2.aU renaming of->JT
open L2.Paired renaming mapP->JX
namespace HT
open PySem PyProof.Rows
variable{prog:Ai}{w:Al}{A:As}{E:xB}{s:Af}
def Rn{t b:Ac}{a J:xH}{Q:xB}(o:Hs s.heap t a.toArray)(p:Hs s.heap b J.toArray)(f:a≠ [])
  (q:J=[]->Q (.ref t) s) (r:J≠ []->Q (.ref s.heap.objs.size) {s with heap:=s.heap.push {cls:= .type "tuple",data:= .seq (a++J).toArray}})
  (u:a.length+J.length<=sizeLine):Ak (Ao prog w) A (eA .Add (.ref t)<|.ref b) Q E s:=by
 obtain⟨⟨cls,g,data,h⟩,c,i,n,j⟩:=id o;obtain⟨⟨v,Y,x,k⟩,O,Z,l,m⟩:=id p;simp only at i j Z m;subst i j Z m;have e:a.toArray++J.toArray=(a++J).toArray:=by simp
 by_cases d:J=[]
 .exact EV ⟨_,c,zr⟩ ⟨_,O,zr⟩ Df Es PySem.F.slot_tuple_add PySem.F.entry_tuple_add (PySem.F.args_tuple_add_2 _ _)
   (tuple_addW1 t b a.toArray J.toArray n l g Y h k (by simpa using f)<|by simp[d]) ⟨c,O,q d⟩
 .refine EV ⟨_,c,zr⟩ ⟨_,O,zr⟩ Df Es PySem.F.slot_tuple_add PySem.F.entry_tuple_add (PySem.F.args_tuple_add_2 _ _)
   (tuple_addW2 t b a.toArray J.toArray n l g Y h k (by simpa using f) (by simpa using d) (by rw[aP,aP];exact u)) ⟨c,O,?_⟩
  rw[e];exact r d
def ml(n d:Nat):Ag Int->Nat
 | none=>d
 | some v=>if v < 0 then (v+(n:Int)).toNat else min v.toNat n
def Xj(n d:Nat):ml n d none=d:=rfl
theorem PU(n d k:Nat):ml n d (Aa (k:Int))=min k n:=by
 show (if (k:Int) < 0 then ((k:Int)+(n:Int)).toNat else min (k:Int).toNat n)=min k n;rw[Ae (by lia),ip]
theorem Wg(n d:Nat)(a:d<=n)(o:Ag Int):ml n d o<=n:=by
 cases o with
 | none=>exact a
 | some v=>
  show (if v < 0 then (v+(n:Int)).toNat else min v.toNat n)<=n;by_cases J:v < 0
  .rw[Ah J];lia
  .rw[Ae J];exact Nat.min_le_right _ _
theorem Wf(v:Int)(n d:Nat):(if v < 0 then max (v+(n:Int)) 0 else min v (n:Int))=((ml n d (Aa v):Nat):Int):=by
 show (if v < 0 then max (v+(n:Int)) 0 else min v (n:Int))=(((if v < 0 then (v+(n:Int)).toNat else min v.toNat n):Nat):Int);by_cases J:v < 0
 .simp only[Ah J];lia
 .simp only[Ae J];lia
end HT
open HT renaming ml->JV,Xj->Km,PU->Kp,Wf->Kx
namespace L2
open PySem PySem.Spec PyProof.Rows
abbrev TO:=St->Hp->(Ag Int->Hp->Prop)->Prop
def PO(X:Cx)(e:Ag AK)(t:TO):Prop:=
 ∀(b:xG) (s:Af) (a:St) (H:Hp) (Q:Ag Int->Hp->Prop),ae X b a H s->t a H Q->
  Ak (Ao X.prog X.w) X.A (evalPart e X.env) (λu d=>∃o c,ae X b a c d/\IsPart u o/\Q o c) X.xe s
def QD:TO:=λ_ H Q=>Q none H
inductive zG (Q:Ag Int->Hp->Prop) (x:V) (a:Hp):Prop
 | mk:∀i,(x= .int i)->(Q (Aa i) a)->zG Q x a
def Ow(t:TE):TO:=λa H Q=>t a H λx b=>zG Q x b
variable{X:Cx}
def fQ:PO X none QD:=by
 intro a s b H Q I h;rw[Ii];exact ah ⟨none,H,I,.none,h⟩
variable{e:AK}{te:TE}
def eM(h:PE X e te):PO X (Aa e) (Ow te):=by
 intro a s b H Q I c;rw[evalPart_some];refine am (h a s b H _ I c) λu k J=>?_;obtain⟨x,d,f,g,j⟩:=J;obtain⟨i,rfl,q⟩:=j;obtain⟨t,rfl⟩:=g;exact⟨Aa i,d,f,.int i t,q⟩
variable{lo hi:Ag AK}
def qa(X:Cx)(r:V->Ag Int->Ag Int->Hp->VK->Prop):Prop:=
 ∀(a:xG) (s:Af) (b:St) (H:Hp) (x:V) (v c d:Ad) (lo hi:Ag Int) (e:Ac) (Q:VK),ae X a b H s->av x v->s.heap.IsSliceOf e c d .none->IsPart c lo->IsPart d hi->r x lo hi H Q->
  ∃T id,F0 (.type T) "__getitem__"=AX (Aa<|.builtin id)/\s.TypeIs v T/\Ak (Ao X.prog X.w) X.A (FK v<|.ref e) (EP X a b Q) X.xe s
def Oj(r:V->Ag Int->Ag Int->Hp->VK->Prop)(b:TE)(c d:TO):TE:=λa H Q=>b a H λx e=>c a e λl f=>d a f λu g=>r x l u g Q
variable{tl th:TO}{pos p2:Pos}
def fE{r:V->Ag Int->Ag Int->Hp->VK->Prop}(g:qa X r)(i:PE X e te)(j:PO X lo tl)(k:PO X hi th):PE X (.Subscript e (.Slice lo hi none p2) pos) (Oj r te tl th):=by
 intro c s d H Q I h;refine Hz (am (i c s d H _ I h) λv m J=>?_);obtain⟨x,n,o,p,t⟩:=J;refine wpAny_Slice (am (j c m d n _ o t) λO w ⟨l,y,z,A,B⟩=>am (k c w d y _ z B) λY a J=>?_);obtain⟨u,f,C,D,E⟩:=J;rw[Ii];refine ah ?_;have F:ae X c d f {a with heap:=a.heap.push {cls:= .type "slice",data:= .fields #[O,Y,.none]}}:=C.kept (t':=a.toks) λb M q=>aw _ q;obtain⟨T,id,G,K,L⟩:=g c {a with heap:=a.heap.push {cls:= .type "slice",data:= .fields #[O,Y,.none]}} d f x v O Y l u a.heap.objs.size Q F p (Heap.IsSliceOf.new ..) A D E;show Ak (Ao X.prog X.w) X.A (FQ e (.Slice lo hi none p2) v<|.ref a.heap.objs.size) (EP X c d Q) X.xe {a with heap:=a.heap.push {cls:= .type "slice",data:= .fields #[O,Y,.none]}};exact tail_any (ops:=[.ref a.heap.objs.size,v]) K G L (by with_unfolding_all rfl)
def bX(a:Ab V)(lo b:Ag Int):Ab V:=(a.drop<|JV a.length 0 lo).take<|JV a.length a.length b - JV a.length 0 lo
theorem Xn(a:Ab V)(lo b:Ag Int):(bX a lo b).length<=a.length:=by
 unfold bX;rw[bt,fB]
 lia
inductive ML (K:xA) (x:V) (y:V) (H:Hp) (Q:VK):Prop
 | mk:∀a b d c,(x= .ref a)->(y= .ref b)->(aU K H a d)->(aU K H b c)->(d≠ [])->(d.length+c.length<=sizeLine)->((c=[]->Q (.ref a) H))->((c≠ []->∀p,H p=none->Q (.ref p) (upd H p (.tup (d++c)))))->ML K x y H Q
variable{xs:Ab V}
def ap.lY{a:xH}(r:ap xs a):a=[]↔xs=[]:=by
 cases r with
 | nil=>simp
 | cons _ _=>simp
def yR:bH X (eA .Add) (ML X.K):=by
 intro r s t H x y v u Q I f g h;obtain⟨a,b,xs,i,rfl,rfl,j,k,l,e,m,n⟩:=h;cases f
 cases g
 obtain⟨A,d,p,_⟩:=I.tuple j;obtain⟨J,c,p2,_⟩:=I.tuple k;refine HT.Rn p p2 (λz=>l<|d.lY.mp z) (λz=>⟨.ref a,H,I,rfl,m<|c.lY.mp z⟩) (λz=>?_) (by rw[<- d.length,<- c.length];exact e);refine⟨.ref s.heap.objs.size,_,I.laid (t':=s.toks) (o:= .tup<|xs++i) (λb B q=>aw _ q) (aj _) ?_,zr,n (λw=>z<|c.lY.mpr w) _<|I.hok.fresh<|aj _⟩;exact⟨by rw[aX];exact e,_,d.append c,IsTup.new _ _⟩
def iH(n:Nat)(i:Int):Ag Nat:=if 0<=i then (if i < n then Aa i.toNat else none) else if -(n:Int)<=i then Aa (i+n).toNat else none
variable{α:Type}
def bV(a:Ab α)(i:Int):Ag α:=(iH a.length i).bind λj=>a[j]?
variable{n j:Nat}{i:Int}
theorem Yu(h:iH n i=Aa j):seqIndex? i n=Aa j/\j < n/\ -(n:Int)<=i/\i < n:=by
 unfold iH at h;by_cases b:0<=i
 .rw[Ah b]at h;by_cases a:i < n
  .rw[Ah a]at h;have e:i.toNat=j:=AO h;exact⟨by rw[Ji b a,e],by lia,by lia,a⟩
  .rw[Ae a]at h;cases h
 .rw[Ae b]at h;by_cases a: -(n:Int)<=i
  .rw[Ah a]at h;have e:(i+n).toNat=j:=AO h;exact⟨by rw[IM (by lia) a,e],by lia,a,by lia⟩
  .rw[Ae a]at h;cases h
def sY{a:Ab α}{v:α}(h:bV a i=Aa v):∃j,seqIndex? i a.length=Aa j/\a[j]? =Aa v/\j < a.length/\ -(a.length:Int)<=i/\i < a.length:=by
 unfold bV at h;cases e:iH a.length i with
 | none=>rw[e]at h;cases h
 | some j=>
  rw[e]at h;obtain⟨b,c,d,f⟩:=Yu e;exact⟨j,b,h,c,d,f⟩
theorem cv{xs:Ab α}{v:α}(h:xs[j]? =Aa v):bV xs (j:Int)=Aa v:=by
 have a:j < xs.length:=(bR.mp h).1;have e:iH xs.length (j:Int)=Aa j:=by
  unfold iH;rw[Ah (by lia),Ah<|by lia];simp
 unfold bV;rw[e];exact h
def WW(b:AK):Prop:=∀o i,Fs b false o i=JA [o,i] (FK o i)
def kn(X:Cx)(r:R2):Prop:=
 ∀(d a:AK) (b:xG) (s:Af) (c:St) (H:Hp) (x y:V) (v u:Ad) (Q:VK),ae X b c H s->av x v->av y u->r x y H Q->
  Fs a false v u=JA [v,u] (FK v u)->Ak (Ao X.prog X.w) X.A (FQ d a v u) (EP X b c Q) X.xe s
def wT(X:Cx)(id:BL)(r:V->Ab V->Hp->VK->Prop):Prop:=
 ∀(a:xG) (s:Af) (b:St) (H:Hp) (x:V) (xs:Ab V) (v:Ad) (c:xH) (Q:VK),ae X a b H s->av x v->ap xs c->r x xs H Q->
  Ak (Ao X.prog X.w) X.A (call (.builtin id)<|v::c) (EP X a b Q) X.xe s
section
variable{X:Cx}{a b:AK}{ta tb:TE}{pos:Pos}
def bg{r:R2}(c:kn X r)(d:PE X a ta)(e:PE X b tb)(f:WW b):PE X (.Subscript a b pos) (ox r ta tb):=by
 intro g s i H Q I h;exact Hz (sM d e I h λv u j x y k l m n q=>c a b g j i k x y v u Q l m n q<|f _ _)
inductive sx (K:xA) (x:V) (y:V) (H:Hp) (Q:VK):Prop
 | mk:∀p xs i v,(x= .ref p)->(y= .int i)->(aK K H p xs)->(bV xs i=Aa v)->(Q v H)->sx K x y H Q
inductive uK (K:xA) (x:V) (y:V) (H:Hp) (Q:VK):Prop
 | mk:∀p xs i v,(x= .ref p)->(y= .int i)->(aU K H p xs)->(bV xs i=Aa v)->(Q v H)->uK K x y H Q
inductive LI (x:V) (y:V) (H:Hp) (Q:VK):Prop
 | mk:∀z i c,(x= .str z)->(y= .int i)->(z.length<=sizeLine)->(bV z.cps.toList i=Aa c)->(Q (.str ⟨#[c]⟩) H)->LI x y H Q
theorem Ye:kn X (sx X.K):=by
  intro E Y c s d H x y v u Q I g k h e;obtain⟨p,xs,i,z,rfl,rfl,l,m,q⟩:=h;cases g
  obtain⟨t,rfl⟩:=k;obtain⟨n,r,b,F⟩:=I.list l;obtain⟨j,a,o,G,A,B⟩:=sY m;obtain⟨w,Z,O⟩:=r.get o;have C:=r.length;have K:=mR;have fin:EP X c d Q w s:=⟨z,H,I,O,q⟩;by_cases f:0<=i
  · have J:i.toNat=j:=by
      rw[Ji f B]at a;exact AO a
    exact item_listR b.isList f (by lia) (by rw[J];simpa using Z) fin e
  · have J:(i+(n.toArray.size:Int)).toNat=j:=by
      rw[IM (by lia) A]at a;rw[aP,<- C];exact AO a
    exact EW (x:=w) b.isList.typeIs slot_list_getitem.lookup
      (wpAny_getItem_list_neg (Q:=λr D=>r=w/\EP X c d Q r D) b.isList (by lia) (by rw[aP] <;> lia) (by lia) (by rw[J];simpa using Z) ⟨rfl,fin⟩) e
theorem Qs:kn X (uK X.K):=by
 intro B O a s b H x y v u Q I d e h f;obtain⟨p,xs,i,z,rfl,rfl,g,k,q⟩:=h;cases d
 obtain⟨t,rfl⟩:=e;obtain⟨C,r,c,D⟩:=I.tuple g;obtain⟨j,l,m,E,F,G⟩:=sY k;obtain⟨w,n,J⟩:=r.get m;have o:=r.length;have K:=mR;have fin:EP X a b Q w s:=⟨z,H,I,J,q⟩;exact EW (x:=w) c.typeIs slot_tuple_getitem.lookup
  (getItem_tuple (j:=j) (Q:=λr A=>r=w/\EP X a b Q r A) c (by lia) (by lia) (by rw[aP,<- o];exact l) (by simpa using n) ⟨rfl,fin⟩) f
theorem Lk:kn X LI:=by
 intro p J r s w H x y v u Q I b d h e;obtain⟨z,i,c,rfl,rfl,A,f,q⟩:=h;obtain⟨t,rfl⟩:=b;obtain⟨B,rfl⟩:=d;obtain⟨j,a,g,C,k,l⟩:=sY f;have m:z.cps.toList.length=z.length:=by simp[F1]
 rw[m]at a k l;have D:=mR;exact tail_any (HA s z t) slot_str_getitem.lookup (getItem_str (c:=c) (by
  have n:decide (i < -(2^63:Int))=false:=aN (by lia);have o:decide (i >=2^63)=false:=aN (by lia);rw[n,o,Ij]) (by rw[a];simpa using g) ⟨.str ⟨#[c]⟩,H,I.tok _,⟨_,rfl⟩,q⟩) e
theorem YU(lo a:Ag Int)(n:Nat):(CP lo a none n).1=((JV n 0 lo:Nat):Int)/\(CP lo a none n).2.1=((JV n n a:Nat):Int)/\(CP lo a none n).2.2=1:=by
 refine⟨?_,?_,zr⟩
 .cases lo with
  | none=>simp[CP,JV]
  | some i=>
   simp only[CP,JV,GH,show (1:Int) > 0 by decide,Bz];by_cases h:i < 0
   .simp only[h,Bz] <;> lia
   .simp only[h,AZ] <;> lia
 .cases a with
  | none=>simp[CP,JV]
  | some i=>
   simp only[CP,JV,GH,show (1:Int) > 0 by decide,Bz];by_cases h:i < 0
   .simp only[h,Bz] <;> lia
   .simp only[h,AZ] <;> lia
def VF(a:xH)(lo b:Ag Int):slicePick a.toArray lo b none=((a.drop<|JV a.length 0 lo).take<|JV a.length a.length b - JV a.length 0 lo).toArray:=by
 obtain⟨c,d,e⟩:=YU lo b a.toArray.size;unfold slicePick;rw[c,d,e];simp only[sliceRange_one,pick_run,aP] <;> rfl
inductive vK (K:xA) (x:V) (lo:Ag Int) (b:Ag Int) (H:Hp) (Q:VK):Prop
 | mk:∀a xs,(x= .ref a)->(aK K H a xs)->(∀p,H p=none->Q (.ref p) (upd H p (.lst (bX xs lo b))))->vK K x lo b H Q
theorem XJ:qa X (vK X.K):=by
 intro j s k H x v l m lo hi n Q I c d e f h;obtain⟨a,xs,rfl,g,q⟩:=h;cases c
 obtain⟨p,r,O,i⟩:=I.list g;have J:=r.length;refine⟨"list",_,slot_list_getitem.lookup,O.isList.typeIs,?_⟩;refine wpAny_getItem_list_slice O.isList d e f .none (by simp) ?_ (by rw[aP] <;> lia);rw[VF,<- J];refine⟨.ref s.heap.objs.size,_,I.laid (t':=s.toks) (o:= .lst<|bX xs lo hi) (λb t q=>aw _ q) (aj _) ?_,zr,q _<|I.hok.fresh<|aj _⟩;exact⟨az (Xn xs lo hi) i,_,0,(r.drop<|JV xs.length 0 lo).take<|JV xs.length xs.length hi - JV xs.length 0 lo,bc _ rfl⟩
def hM:V->AJ
 | .non=>true
 | .bl _=>true
 | .int _=>true
 | .str _=>true
 | _=>false
def hX:V->V->AJ
 | .non,.non=>true
 | .bl a,.bl b=>a==b
 | .bl a,.int b=>(if a then 1 else 0)==b
 | .int a,.bl b=>a==(if b then 1 else 0)
 | .int a,.int b=>a==b
 | .str a,.str b=>a==b
 | _,_=>false
def RQ{A:As}{s:Af}{y x:V}{u v:Ad}(e:av y u)(c:av x v)(f:hM y=true)(J:hM x=true):EX A s u v (hX y x):=by
 cases y with
 | non=>
  cases e
  cases x with
  | non=>cases c;exact SeqAt.EqAt.same _
  | bl b=>cases c;exact SeqAt.EqAt.none_bool b
  | int b=>obtain⟨t,rfl⟩:=c;exact SeqAt.EqAt.none_int b t
  | str b=>obtain⟨t,rfl⟩:=c;exact SeqAt.EqAt.none_str b t
  | _=>exact Au (show false=true from J) aY
 | bl a=>
  cases e
  cases x with
  | non=>cases c;exact SeqAt.EqAt.bool_none a
  | bl b=>cases c;exact SeqAt.EqAt.bool_bool a b
  | int b=>obtain⟨t,rfl⟩:=c;exact SeqAt.EqAt.bool_int a b t
  | str b=>obtain⟨t,rfl⟩:=c;exact SeqAt.EqAt.bool_str a b t
  | _=>exact Au (show false=true from J) aY
 | int a=>
  obtain⟨d,rfl⟩:=e;cases x with
  | non=>cases c;exact SeqAt.EqAt.int_none a d
  | bl b=>cases c;exact SeqAt.EqAt.int_bool a d b
  | int b=>obtain⟨t,rfl⟩:=c;exact SeqAt.EqAt.int_int a d b t
  | str b=>obtain⟨t,rfl⟩:=c;exact FV a d b t
  | _=>exact Au (show false=true from J) aY
 | str a=>
  obtain⟨d,rfl⟩:=e;cases x with
  | non=>cases c;exact SeqAt.EqAt.str_none a d
  | bl b=>cases c;exact SeqAt.EqAt.str_bool a d b
  | int b=>obtain⟨t,rfl⟩:=c;exact FW a d b t
  | str b=>obtain⟨t,rfl⟩:=c;exact SeqAt.EqAt.str_str a d b t
  | _=>exact Au (show false=true from J) aY
 | _=>exact Au (show false=true from f) aY
def hZ(x:V)(u:Ad):AJ:=match u with
 | .none=>hX .non x
 | .bool b=>hX (.bl b) x
 | .int i _=>hX (.int i) x
 | .str z _=>hX (.str z) x
 | _=>false
def yg{x y:V}{u:Ad}(r:av y u)(f:hM y=true):hZ x u=hX y x:=by
 cases y with
 | non=>cases r;rfl
 | bl b=>cases r;rfl
 | int i=>obtain⟨t,rfl⟩:=r;rfl
 | str z=>obtain⟨t,rfl⟩:=r;rfl
 | _=>exact Au (show false=true from f) aY
theorem tQ{x:V}:∀{xs:Ab V} {a:xH},ap xs a->xs.all hM=true->a.any (hZ x)=xs.any λy=>hX y x
 | _,_,.nil,_=>rfl
 | y::xs,u::a,.cons r t,f=>by
  rw[Dr,ir]at f;rw[nJ,nJ,yg r f.1,tQ t f.2]
theorem tW{A:As}{s:Af}{x:V}{v:Ad}(b:av x v)(O:hM x=true):∀{xs:Ab V} {a:xH},ap xs a->xs.all hM=true->∀u∈a,EX A s u v<|hZ x u
 | _,_,.nil,_=>λu J=>by cases J
 | y::xs,u::a,.cons r t,f=>λc J=>by
  rw[Dr,ir]at f;rcases aA.mp J with rfl | J
  .rw[yg r f.1];exact RQ r b f.1 O
  .exact tW b O t f.2 c J
def ng(x:V)(a:Ab V):AJ:=a.any λy=>hX y x
inductive vv (K:xA) (a:AJ) (x:V) (y:V) (H:Hp) (Q:VK):Prop
 | mk:∀p xs,(y= .ref p)->((aK K H p xs\/ aU K H p xs))->(hM x=true)->(xs.all hM=true)->(Q (.bl (if a then !ng x xs else ng x xs)) H)->vv K a x y H Q
def Tl:bH X (Bg .In) (vv X.K false):=by
 intro f s g H x y v u Q I d e h;obtain⟨p,xs,rfl,a,J,b,q⟩:=h;cases e
 rcases a with a | a
 .obtain⟨its,r,pl,hz⟩:=I.list a;refine SeqAt.in_listAt (hZ x) pl.isList (λw c=>tW d J r b w<|by simpa using c) ⟨.bl _,H,I,zr,?_⟩;rw[show its.toArray.any (hZ x)=its.any (hZ x) by simp,tQ r b];exact q
 .obtain⟨its,r,pl,hz⟩:=I.tuple a;refine SeqAt.in_tupleAt (hZ x) pl (λw c=>tW d J r b w<|by simpa using c) ⟨.bl _,H,I,zr,?_⟩;rw[show its.toArray.any (hZ x)=its.any (hZ x) by simp,tQ r b];exact q
inductive qV (K:xA) (b:Ab V) (H:Hp) (Q:VK):Prop
 | mk:∀p a,(b=[.ref p])->((aK K H p a\/ aU K H p a))->(∀l,H l=none->Q (.ref l) (upd H l (.lst a)))->qV K b H Q
theorem Ph:cu X (.type "list") (qV X.K):=by
 intro m s t H xs w Q I r h;obtain⟨p,i,rfl,d,q⟩:=h;obtain⟨u,rfl,v⟩:=dz r;cases v
 have fin:∀(c:xH),ap i c->i.length<=sizeLine->∀(a:AH) (J:Nat),(∀b l,s.heap.get? b=Aa l->a.get? b=Aa l)->
   a.get? s.heap.objs.size=Aa {cls:= .type "list",dict:=none,data:= .seq c.toArray J,slots:=#[]}->EP X m t Q (.ref s.heap.objs.size) {s with heap:=a}:=λc O f a J g e=>
  ⟨.ref s.heap.objs.size,_,I.laid (t':=s.toks) g (aj _) (show bE X.prog X.w _ a _ (.lst i) from⟨f,c,J,O,e⟩),rfl,q _<|I.hok.fresh<|aj _⟩
 rcases d with d | d
 .obtain⟨c,O,pl,f⟩:=I.list d;have Y:=O.length;obtain⟨o,j,Z,n,k⟩:=pl.isList;exact Ik p (.inl rfl) j Z k (λa J g e=>fin c O f a J g e) (by simp only[aP] <;> lia)
 .obtain⟨c,O,pl,f⟩:=I.tuple d;have Y:=O.length;obtain⟨o,j,Z,n,k⟩:=pl;exact Ik p (.inr rfl) j Z k (λa J g e=>fin c O f a J g e) (by simp only[aP] <;> lia)
inductive rA (K:xA) (b:Ab V) (H:Hp) (Q:VK):Prop
 | mk:∀p a,(b=[.ref p])->(((aK K H p a/\∀l,H l=none->Q (.ref l) (upd H l (.tup a)))\/ (aU K H p a/\Q (.ref p) H)))->rA K b H Q
theorem Qg:cu X (.type "tuple") (rA X.K):=by
 intro d s f H xs m Q I r h;obtain⟨p,g,rfl,h⟩:=h;obtain⟨u,rfl,j⟩:=dz r;cases j
 rcases h with ⟨c,q⟩ | ⟨c,q⟩
 .obtain⟨its,J,pl,hz⟩:=I.list c;have O:=J.length;refine call_tuple_list pl.isList (λa k=>?_) (by simp only[aP] <;> lia);have i:ae X d f H {s with heap:=a}:=I.kept (t':=s.toks) k;have l:ae X d f (upd H a.objs.size<|.tup g) {s with heap:=a.push {cls:= .type "tuple",data:= .seq its.toArray}}:=
   i.laid (t':=s.toks) (λb o e=>aw _ e) (aj _) (show bE X.prog X.w _ _ _ (.tup g) from⟨hz,its,J,IsTup.new _ _⟩)
  exact⟨.ref a.objs.size,_,l,zr,q _<|i.hok.fresh<|aj _⟩
 .obtain⟨its,J,pl,hz⟩:=I.tuple c;exact call_tuple_same pl ⟨.ref p,H,I,zr,q⟩
def sd(K:xA)(T:BL)(x:V)(H:Hp):Prop:=match x with
 | .str _=>T="str"
 | .int _=>T="int"
 | .ref p=>(T="list"/\∃xs,aK K H p xs)\/ (T="tuple"/\∃o,K.lookup p=Aa o/\o.cls= .type "tuple"/\o.dict=none)\/
   (T="dict"/\((∃a,H p=Aa (.dK a))\/ ∃a,H p=Aa (.dT a)))\/ (T="set"/\∃S n,H p=Aa (.set S n))
 | _=>Bj
def MQ{j:xG}{k:St}{H:Hp}{s:Af}{T:BL}{x:V}{v:Ad}(I:ae X j k H s)(r:av x v)(ty:sd X.K T x H):
    s.TypeIs v T/\∀a,v= .ref a->∃J,s.heap.get? a=Aa J/\J.dict=none:=by
  cases x with
  | str z=>
    obtain⟨t,rfl⟩:=r;cases (show T="str" from ty)
    exact⟨HA s z t,λ_ e=>nomatch e⟩
  | int i=>
    obtain⟨t,rfl⟩:=r;cases (show T="int" from ty)
    exact⟨HB s i t,λ_ e=>nomatch e⟩
  | ref p=>
    cases r
    rcases ty with ⟨rfl,xs,l⟩ | ⟨rfl,o,b,m,f⟩ | ⟨rfl,b⟩ | ⟨rfl,S,n,b⟩
    · obtain⟨u,_,h,_⟩:=I.list l
      refine⟨h.isList.typeIs,λa e=>?_⟩;cases e
      obtain⟨o,n,e,c,f,_⟩:=h;exact⟨o,e,f⟩
    · refine⟨⟨o,I.kIn p o b,m⟩,λa e=>?_⟩
      cases e
      exact⟨o,I.kIn _ o b,f⟩
    · have z:∃o,s.heap.get? p=Aa o/\o.ExactDict:=by
        rcases b with ⟨q,b⟩ | ⟨q,b⟩
        · obtain⟨_,_,_,_,o,_,_,e,d,_⟩:=I.hok p _ b
          exact⟨o,e,d⟩
        · obtain⟨_,_,_,_,o,_,_,e,d,_⟩:=I.hok p _ b
          exact⟨o,e,d⟩
      obtain⟨o,e,d⟩:=z;refine⟨⟨o,e,d.1⟩,λa g=>?_⟩;cases g
      exact⟨o,e,d.2.1⟩
    · obtain⟨o,_,_,_,e,d,_⟩:=I.hok p _ b
      refine⟨⟨o,e,d.1⟩,λa g=>?_⟩;cases g
      exact⟨o,e,d.2.1⟩
  | _=>exact Bc ty
def WC(K:xA)(T:BL)(r:V->Ab V->Hp->VK->Prop)(b:TE):TE:=λc H Q=>b c H λx a=>sd K T x a/\r x [] a Q
def Oc(K:xA)(T:BL)(r:V->Ab V->Hp->VK->Prop)(c:TE)(t:TA):TE:=λa H Q=>c a H λx b=>sd K T x b/\t a b λxs d=>r x xs d Q
variable{o e:AK}{es:Ab AK}{to:TE}{t:TA}{name:Str}{apos cpos:Pos}{T id:BL}{r:V->Ab V->Hp->VK->Prop}
def QJ(e:PlainAttrs T)(f:Slot T name id)(Y:Ft (.builtin id)=AX (.type "method_descriptor"))(g:wT X id r)(i:PE X o to)
  (J:CB o name X.env (Bp o X.env)=Bp o X.env:=by rfl) (O:(apos.endLine==cpos.line)=true:=by rfl):PE X (.Call (.Attribute o name apos) [] [] cpos) (WC X.K T r to):=by
 intro a s b H Q I h;refine wpAny_Call_method0_late J O (am (i a s b H _ I h) λv j Z=>?_);obtain⟨x,k,c,d,ty,l⟩:=Z;obtain⟨m,n⟩:=MQ c d ty;exact⟨T,id,e,f,Y,m,n,Bx rfl<|PySem.evalArgs_none<|g a j b k x [] v [] Q c d .nil l⟩
def fe(g:PlainAttrs T)(i:Slot T name id)(j:Ft (.builtin id)=AX (.type "method_descriptor"))(k:wT X id r)(l:PE X o to)(m:PA X (e::es) t)
  (O:CB o name X.env (Bp o X.env)=Bp o X.env:=by rfl)
  (Z:((Bs cpos<|AA (e::es) X.env).all (λx=> !x.1)&&(Cn cpos<|BE [] X.env).all (λx=>x.1.isSome)
   &&decide ((e::es).length+([]:Ab Ei).length+(if ([]:Ab Ei).isEmpty then 0 else 1) < 30))=true:=by rfl)
  (Y:(apos.endLine==cpos.line)=true:=by rfl) (n:AA (e::es) X.env=(false,Bp e X.env)::AA es X.env:=by rfl) (J:(Bs cpos<|AA es X.env).any (·.1)=false:=by rfl):
  PE X (.Call (.Attribute o name apos) (e::es) [] cpos) (Oc X.K T r to t):=by
 intro a s b H Q I h;refine wpAny_Call_method_late O Z Y rfl (am (l a s b H _ I h) λv p q=>?_);obtain⟨x,u,c,d,ty,w⟩:=q;obtain⟨y,z⟩:=MQ c d ty;refine⟨T,id,g,i,j,y,z,?_⟩;have f:=m cpos a p b u _ c w;rw[n]at f ⊢;refine Bx (by show (false || (Bs cpos<|AA es X.env).any (·.1))=false;rw[J] <;> rfl)<|BF ?_;exact am f λA B ⟨C,D,E,F,G⟩=>k a B b D x C v A Q E d F G
end
def tu(X:Cx)(id:BL)(r:V->Ab V->Hp->VK->Prop):Prop:=
 ∀(a:xG) (s:Af) (b:St) (H:Hp) (x:V) (xs:Ab V) (v:Ad) (c:xH) (Q:VK),ae X a b H s->av x v->ap xs c->r x xs H Q->
  Ak (Ao X.prog X.w) X.A (call (.builtin id)<|v::c) (EP X a b Q) X.xe s
def ap.one:∀{x:V} {a:xH},ap [x] a->∃u,a=[u]/\av x u
 | _,_,.cons r .nil=>⟨_,rfl,r⟩
def ap.zero:∀{a:xH},ap [] a->a=[]
 | _,.nil=>rfl
theorem ap.dropLast{a:Ab V}{b:xH}(h:ap a b):ap a.dropLast b.dropLast:=by
 induction h with
 | nil=>exact .nil
 | cons r t c=>
  cases t with
  | nil=>exact .nil
  | cons q d=>exact .cons r c
theorem ap.rep{a:Ab V}{b:xH}(h:ap a b):∀k:Nat,ap (AI k a).flatten (AI k b).flatten
 | 0=> .nil
 | k+1=>by
  rw[kH,kH,pE,pE];exact ap.append h<|ap.rep h k
theorem WB(l:Ab α):l.eraseIdx (l.length - 1)=l.dropLast:=by
 induction l with
 | nil=>rfl
 | cons a r c=>
  cases r with
  | nil=>rfl
  | cons b r=>
   have e:(a::b::r).length - 1=((b::r).length - 1)+1:=by
    have d:(a::b::r).length=r.length+2:=rfl;have f:(b::r).length=r.length+1:=rfl
    lia
   rw[e,EE,c]
   all_goals rfl
theorem NT(a:xH):∀(k:Nat) (acc:xH),
  D0 (λb c=>b++c) acc.toArray (AI k a.toArray)=(acc++(AI k a).flatten).toArray
 | 0,acc=>by simp
 | k+1,acc=>by
  have e:acc.toArray++a.toArray=(acc++a).toArray:=by simp
  have d:(acc++a)++(AI k a).flatten=acc++(AI (k+1) a).flatten:=by
   rw[kH,pE,dk]
  rw[<- d,<- NT a k (acc++a),<- e,kH,G9]
variable{xC:xG}{σ:St}{H:Hp}{s:Af}{l:Ac}{ys:Ab V}{its:xH}{t':Nat}
def ae.lset{its':xH}{f:Am Ad->Am Ad}(I:ae X xC σ H s)(a:H l=Aa (.lst xs))
  (e:s.heap.get? l=Aa {cls:= .type "list",data:= .seq its.toArray n}) (b:f its.toArray=its'.toArray) (c:ap ys its') (d:ys.length<=sizeLine):
  ae X xC σ (upd H l<|.lst ys) {s with heap:=s.heap.update l<|AF f,toks:=t'}:=by
 have q:=PySem.IsL.update e f;rw[b]at q;refine I.write (x:=l) (e:=l) (by rw[a];exact trivial) (.inl rfl) (λi u g h=>(lF s.heap (AF f)<|Bi g).trans h) ⟨_,q⟩ ?_;exact⟨d,its',_,c,q⟩
def ae.lnew(I:ae X xC σ H s)(a:ap ys its)(b:ys.length<=sizeLine):
  ae X xC σ (upd H s.heap.objs.size<|.lst ys) {s with heap:=s.heap.push {cls:= .type "list",data:= .seq its.toArray},toks:=t'}:=
 I.laid (λ_ _ q=>aw _ q) (aj _) ⟨b,its,0,a,bc _ rfl⟩
theorem ae.fresh(I:ae X xC σ H s):H s.heap.objs.size=none:=I.hok.fresh<|aj _
def ae.lstM(I:ae X xC σ H s)(a:H l=Aa (.lst xs)):xs.length<=sizeLine/\∃(its:xH) (n:Nat),ap xs its/\xs.length=its.length/\s.heap.get? l=Aa {cls:= .type "list",data:= .seq its.toArray n}:=by
 obtain⟨z,its,n,r,e⟩:=I.hok l _ a;exact⟨z,its,n,r,r.length,e⟩
theorem Np(h:n<=sizeLine):BZ n=false:=by
 unfold BZ;exact aN (by lia)
inductive NJ (x:V) (a:Ab V) (H:Hp) (Q:VK):Prop
 | mk:∀l xs y,(x= .ref l)->(a=[y])->(H l=Aa (.lst xs))->(xs.length < sizeLine)->(Q .non (upd H l (.lst (xs++ [y]))))->NJ x a H Q
theorem gO:tu X "list.append" NJ:=by
 intro xC s σ H x d v f Q I a b h;obtain⟨l,xs,y,rfl,rfl,J,g,q⟩:=h;cases a
 obtain⟨u,rfl,c⟩:=b.one;obtain⟨z,its,n,r,i,e⟩:=I.lstM J;refine Dg F.slot_list_append ⟨_,e,rfl⟩ F.entry_list_append (F.args_list_append_2 _ _) (PySem.list_append l its.toArray n u (by rw[aP];lia)) ⟨e,?_⟩;refine⟨.non,_,I.lset (its':=its++ [u]) J e (by simp) (r.append<|.cons c .nil) ?_,zr,q⟩;rw[aX,lh]
 lia
inductive zU (x:V) (c:Ab V) (H:Hp) (Q:VK):Prop
 | mk:∀l b xs a,(x= .ref l)->(c=[.ref b])->(H l=Aa (.lst xs))->(H b=Aa (.lst a))->(xs.length+a.length<=sizeLine)->(Q .non (upd H l (.lst (xs++a))))->zU x c H Q
theorem oa:tu X "list.extend" zU:=by
 intro xC s σ H x m v o Q I a c h;obtain⟨l,b,xs,p,rfl,rfl,Y,d,t,q⟩:=h;cases a
 obtain⟨u,rfl,f⟩:=c.one;cases f
 obtain⟨z,its,n,r,w,e⟩:=I.lstM Y;obtain⟨y,J,g,i,A,j⟩:=I.lstM d;have k:its.toArray.size+J.toArray.size<=sizeLine:=by rw[aP,aP];lia
 have O:¬ (!its.toArray.isEmpty&&BZ (its.toArray.size+J.toArray.size))=true:=by
  rw[Np k,Co];exact aY
 refine Dg F.slot_list_extend ⟨_,e,zr⟩ F.entry_list_extend (F.args_list_extend_2 _ _)
  (AutoSeq1.list_extend_list_list_0 l its.toArray n b J.toArray g O (by rw[aP];lia)<|by lia) ⟨e,j,?_⟩
 refine⟨.non,_,I.lset (its':=its++J) Y e (by simp) (r.append i) ?_,zr,q⟩;rw[aX]
 lia
inductive Nn (x:V) (a:Ab V) (H:Hp) (Q:VK):Prop
 | mk:∀l xs y,(x= .ref l)->(a=[])->(H l=Aa (.lst xs))->(xs[xs.length - 1]? =Aa y)->(Q y (upd H l (.lst xs.dropLast)))->Nn x a H Q
theorem QI:tu X "list.pop" Nn:=by
 intro xC s σ H x i v j Q I a b h;obtain⟨l,xs,y,rfl,rfl,Y,c,q⟩:=h;cases a
 have J:=b.zero;subst J;obtain⟨z,its,n,r,d,e⟩:=I.lstM Y;obtain⟨u,f,g⟩:=r.get c;have O:its.toArray[its.toArray.size - 1]? =Aa u:=by
  show its.toArray[its.length - 1]? =Aa u;rw[<- bG,<- d];exact f
 refine Dg F.slot_list_pop ⟨_,e,rfl⟩ F.entry_list_pop (F.args_list_pop_1 _) (MeetsSeq.list_pop_last l its.toArray n u O (by rw[aP];lia)) ⟨e,?_⟩;refine⟨y,_,I.lset (its':=its.dropLast) Y e ?_ r.dropLast ?_,g,q⟩
 .show its.toArray.eraseIdxIfInBounds (its.toArray.size - 1)=its.dropLast.toArray;rw[aP,List.eraseIdxIfInBounds_toArray,WB]
 .rw[List.length_dropLast]
  lia
inductive KW (x:V) (y:V) (H:Hp) (Q:VK):Prop
 | mk:∀l b xs a,(x= .ref l)->(y= .ref b)->(H l=Aa (.lst xs))->(H b=Aa (.lst a))->(xs.length+a.length<=sizeLine)->(∀p,H p=none->Q (.ref p) (upd H p (.lst (xs++a))))->KW x y H Q
theorem Ex:bH X (eA .Add) KW:=by
 intro xC s σ H x y v u Q I a c h;obtain⟨l,b,xs,k,rfl,rfl,d,f,m,q⟩:=h;cases a
 cases c
 obtain⟨z,its,n,r,o,e⟩:=I.lstM d;obtain⟨p,J,t,g,w,i⟩:=I.lstM f;refine PySem.P.add_list e i ?_ (by rw[aP,aP];lia);have j:its.toArray++J.toArray=(its++J).toArray:=by simp
 rw[j];exact⟨.ref _,_,I.lnew (t':=s.toks) (r.append g) (by rw[aX];lia),rfl,q _ I.fresh⟩
inductive zF (x:V) (y:V) (H:Hp) (Q:VK):Prop
 | mk:∀l k xs,(x= .ref l)->(y= .int k)->(H l=Aa (.lst xs))->(-(2^63)<=k)->(k < 2^63)->(xs.length*k.toNat<=sizeLine)->(∀p,H p=none->Q (.ref p) (upd H p (.lst (AI k.toNat xs).flatten)))->zF x y H Q
def ZB(a:Ab α)(k:Nat):(AI k a).flatten.length=k*a.length:=by
 induction k with
 | zero=>simp
 | succ k b=>rw[kH,pE,aX,b,DM,IN]
theorem xq:bH X (eA .Mult) zF:=by
 intro xC s σ H x y v u Q I f g h;obtain⟨l,k,xs,rfl,rfl,i,j,o,d,q⟩:=h;cases f
 obtain⟨t,rfl⟩:=g;obtain⟨z,its,n,r,p,e⟩:=I.lstM i;have Z:its.toArray.size*k.toNat<=sizeLine:=by rw[aP,<- p];exact d
 have O:¬ its.toArray.size*k.toNat > (2^63 - 1) / 8:=by
  have:(sizeLine:Nat)<=(2^63 - 1) / 8:=by decide
  lia
 have Y:¬ (!Builtin.List.listFitsIndex k)=true:=by
  rw[fitsIndex_both j o];exact aY
 have J:¬ BZ (its.toArray.size*k.toNat)=true:=by
  rw[Np Z];exact aY
 have w:D0 (λb c=>b++c) #[] (AI (if its.toArray.isEmpty=true then 0 else k.toNat) its.toArray)=(AI k.toNat its).flatten.toArray:=by
  have A:∀m:Nat,D0 (λb c=>b++c) #[] (AI m its.toArray)=(AI m its).flatten.toArray:=λm=>by
   have:=NT its m [];rw[Ha]at this;exact this
  rw[A];cases its with
  | nil=>simp
  | cons a C=>rw[Ae<|by simp]
 refine wpAny_binaryOp_repeat_ref (T:="list") (U:="int") (by decide) ⟨_,e,zr⟩ (λB=>HB B k t) noFill_list_mul F.fills_int_mul Hb repeat_list F.slot_int_index.lookup
  (Dg Hb (HB s k t) F.entry_int_rmul (F.args_int_rmul_2 _ _) (int___rmul___int_list k t l its.toArray n)
   ⟨e,rfl,⟨_,e,rfl⟩,Dg F.slot_list_mul ⟨_,e,rfl⟩ F.entry_list_mul (F.args_list_mul_2 _ _) (AutoListH.list___mul___list_int_3 l its.toArray n k t Y O J) ⟨e,?_⟩⟩)
 rw[w];exact⟨.ref _,_,I.lnew (t':=s.toks) (r.rep k.toNat) (by rw[ZB,IP];exact d),rfl,q _ I.fresh⟩
section
variable{κ:Type}[Bh κ]
def ao(a:Ab (κ×V))(k:κ):Ag V:=(a.find? λb=>decide (b.1=k)).map (·.2)
def aq(b:Ab (κ×V))(k:κ)(v:V):Ab (κ×V):=
 if (b.any λa=>decide (a.1=k))=true then b.map (λa=>if a.1=k then (a.1,v) else a) else b++ [(k,v)]
def dt(a:Ab (κ×V))(k:κ):Ab (κ×V):=a.filter λb=>decide (b.1≠k)
def dZ{p:κ×V}{r:Ab (κ×V)}{k:κ}(e:p.1=k):ao (p::r) k=Aa p.2:=by simp[ao,iU,e]
def dO{p:κ×V}{r:Ab (κ×V)}{k:κ}(e:¬ p.1=k):ao (p::r) k=ao r k:=by simp[ao,iU,e]
theorem gc(k:κ):∀a:Ab (κ×V),(a.any λb=>decide (b.1=k))=(ao a k).isSome
 | []=>rfl
 | p::r=>by
  rw[nJ];by_cases e:p.1=k
  .simp only[dZ e,aS e,Bool.true_or,Option.isSome_some]
  .rw[dO e,aN e,Bool.false_or];exact gc k r
theorem wZ(k j:κ)(y:V):∀b:Ab (κ×V),ao (b.map λa=>if a.1=k then (a.1,y) else a) j=(ao b j).map λx=>if j=k then y else x
 | []=>rfl
 | p::r=>by
  have J:=wZ k j y r;rw[au];by_cases h:p.1=k
  .rw[Ah h];by_cases e:p.1=j
   .rw[dZ (p:=(p.1,y)) e,dZ e,DC,Ah<|e.symm.trans h]
   .rw[dO (p:=(p.1,y)) e,dO e,J]
  .rw[Ae h];by_cases e:p.1=j
   .rw[dZ (p:=p) e,dZ e,DC,Ae λz=>h<|e.trans z]
   .rw[dO (p:=p) e,dO e,J]
theorem xO(k j:κ)(y:V):∀b:Ab (κ×V),ao b k=none->ao (b++ [(k,y)]) j=if j=k then Aa y else ao b j
 | [],_=>by
  by_cases e:k=j
  .rw[Ah e.symm];exact dZ (p:=(k,y)) e
  .rw[Ae λz=>e z.symm];exact dO (p:=(k,y)) e
 | p::r,a=>by
  rw[GI];have c:¬ p.1=k:=λz=>by rw[dZ z]at a;cases a
  rw[dO c]at a;have d:=xO k j y r a;by_cases e:p.1=j
  .rw[dZ e,dZ e,Ae λz=>c<|e.trans z]
  .rw[dO e,dO e,d]
def gX(b:Ab (κ×V))(k j:κ)(y:V):ao (aq b k y) j=if j=k then Aa y else ao b j:=by
 unfold aq;by_cases a:(b.any λc=>decide (c.1=k))=true
 .rw[Ah a,wZ];rw[gc]at a;by_cases e:j=k
  .obtain⟨x,hx⟩:=Option.isSome_iff_exists.mp a;rw[Ah e,e,hx,DC,Ah rfl]
  .rw[Ae e];cases ao b j with
   | none=>rfl
   | some x=>rw[DC,Ae e]
 .rw[Ae a];refine xO k j y b ?_;rw[gc]at a;cases q:ao b k with
  | none=>rfl
  | some x=>rw[q]at a;exact(a rfl).elim
theorem jX(a:Ab (κ×V))(k:κ)(v:V):(aq a k v).length<=a.length+1:=by
 unfold aq;split
 .rw[ai];lia
 .rw[aX,bz,ku];lia
def Qc{a:Ab (κ×V)}{k:κ}(v:V)(h:ao a k=none):aq a k v=a++ [(k,v)]:=by
 unfold aq;rw[gc,h];exact Ae (by decide)
def cQ.jx{o:Ag V}{u:Ag Ad}(r:cQ o u):o.isSome=u.isSome:=by
 cases o with
 | none=>cases u with
  | none=>rfl
  | some _=>exact(show Bj from r).elim
 | some _=>cases u with
  | none=>exact(show Bj from r).elim
  | some _=>rfl
theorem cQ.getD{o:Ag V}{u:Ag Ad}{d:V}{a:Ad}(r:cQ o u)(b:av d a):av (o.getD d) (u.getD a):=by
 cases o with
 | none=>cases u with
  | none=>exact b
  | some _=>exact(show Bj from r).elim
 | some _=>cases u with
  | none=>exact(show Bj from r).elim
  | some _=>exact r
def KV.val{a:Ab (κ×V)}{c:Ab (κ×Ad)}(r:KV a c)(k:κ):cQ (ao a k) (FM c k):=by
 unfold KV at r
 induction r with
 | nil=>exact Ay
 | @cons p q i J h t f=>
  obtain⟨d,g⟩:=h;by_cases e:p.1=k
  .have e':q.1=k:=d.symm.trans e;have b:FM (q::J) k=Aa q.2:=by simp[FM,iU,e']
   rw[dZ e,b];exact g
  .have e':¬ q.1=k:=λz=>e<|d.trans z;have b:FM (q::J) k=FM J k:=by simp[FM,iU,e']
   rw[dO e,b];exact f
theorem KV.any{b:Ab (κ×V)}{c:Ab (κ×Ad)}(r:KV b c)(k:κ):(b.any λa=>decide (a.1=k))=c.any λa=>decide (a.1=k):=by
 unfold KV at r
 induction r with
 | nil=>rfl
 | cons h t d=>rw[nJ,nJ,d,h.1]
def KV.repl{c:Ab (κ×V)}{d:Ab (κ×Ad)}(r:KV c d)(k:κ){y:V}{u:Ad}(f:av y u):
  KV (c.map λa=>if a.1=k then (a.1,y) else a) (d.map λa=>if a.1=k then (a.1,u) else a):=by
 unfold KV at r ⊢
 induction r with
 | nil=>exact .nil
 | @cons p q j l h t g=>
  rw[au,au];refine .cons ?_ g;obtain⟨b,i⟩:=h;by_cases e:p.1=k
  .rw[Ah e,Ah<|b.symm.trans e];exact⟨b,f⟩
  .rw[Ae e,Ae λz=>e<|b.trans z];exact⟨b,i⟩
def KV.put{b:Ab (κ×V)}{a:Ab (κ×Ad)}(r:KV b a)(k:κ){y:V}{u:Ad}(c:av y u):KV (aq b k y) (HC a k u):=by
 unfold aq HC;rw[r.any k];by_cases e:(a.any λd=>decide (d.1=k))=true
 .rw[Ah e,Ah e];exact r.repl k c
 .rw[Ae e,Ae e];exact Paired.snoc r ⟨rfl,c⟩
theorem KV.length{a:Ab (κ×V)}{b:Ab (κ×Ad)}(r:KV a b):a.length=b.length:=Paired.length r
end
variable{P:Ai}{w:Al}{u:Ad}
def iC{k:af}(r:av (kV k) u):(qv P w).is k u=true:=by
 cases k with
 | inl i=>obtain⟨t,e⟩:=(show ∃t,u=GD i t from r);subst e;exact XM P w i t
 | inr x=>obtain⟨t,e⟩:=(show ∃t,u=De x t from r);subst e;exact Mm P w x t
def VG{a b:af}(e:kV a=kV b):a=b:=by
 cases a with
 | inl i=>cases b with
  | inl j=>have c:JN i=JN j:=e;injection c with c;rw[c]
  | inr y=>exact nomatch (show JN i=JP y from e)
 | inr x=>cases b with
  | inl j=>exact nomatch (show JP x=JN j from e)
  | inr y=>have c:JP x=JP y:=e;injection c with c;rw[c]
theorem Mc{P:Ai}{w:Al}:∀{a:Ab af} {b:xH},ap (a.map kV) b->ItemsAre (qv P w) a b
 | [],_,r=>by rw[bP]at r;cases r;exact .nil
 | k::a,_,r=>by
  rw[au]at r;cases r with
  | cons h t=>exact .cons (iC h)<|Mc t
abbrev KT(H:Hp):Ab (Ab af×V)->Ab (Ab af×Ac×Ad)->Prop:=Paired λp q=>p.1=q.1/\H q.2.1=Aa (.tup<|p.1.map kV)/\av p.2 q.2.2
variable{xs:Ab (Ab af×Ac×Ad)}{kvs:Ab (Ab af×V)}
def KT.val(r:KT H kvs xs)(k:Ab af):cQ (ao kvs k) ((CQ xs k).map (·.2)):=by
 induction r with
 | nil=>exact Ay
 | @cons p q f J h t c=>
  obtain⟨a,_,d⟩:=h;by_cases e:p.1=k
  .have e':q.1=k:=a.symm.trans e;have b:CQ (q::J) k=Aa q.2:=by simp[CQ,iU,e']
   rw[dZ e,b];exact d
  .have e':¬ q.1=k:=λz=>e<|a.trans z;have b:CQ (q::J) k=CQ J k:=by simp[CQ,iU,e']
   rw[dO e,b];exact c
variable{y:V}
def KT.repl(r:KT H kvs xs)(k:Ab af)(d:av y u):
  KT H (kvs.map λb=>if b.1=k then (b.1,y) else b) (xs.map<|JJ k u):=by
 induction r with
 | nil=>exact .nil
 | @cons p q i j h t f=>
  rw[au,au];refine .cons ?_ f;obtain⟨a,c,g⟩:=h;unfold JJ;by_cases e:p.1=k
  .rw[Ah e,Ah<|a.symm.trans e];exact⟨a,c,d⟩
  .rw[Ae e,Ae λz=>e<|a.trans z];exact⟨a,c,g⟩
variable{b:Ac}
def KT.put(r:KT H kvs xs)(k:Ab af)(c:H b=Aa (.tup<|k.map kV))(a:av y u):
  KT H (aq kvs k y) (EY xs k b u):=by
 have e:(kvs.any λd=>decide (d.1=k))=(CQ xs k).isSome:=by
  rw[gc,(r.val k).jx,BU]
 unfold aq EY;rw[e];by_cases q:(CQ xs k).isSome=true
 .rw[Ah q,Ah q];exact r.repl k a
 .rw[Ae q,Ae q];exact Paired.snoc r ⟨rfl,c,a⟩
variable{H':Hp}
def KT.keeps(r:KT H kvs xs)(a:∀b ys,H b=Aa (.tup ys)->H' b=Aa (.tup ys)):KT H' kvs xs:=
 JX r λ_ _ z=>⟨z.1,a _ _ z.2.1,z.2.2⟩
variable{a:Ac}{h:AH}
def Mo{u:HO}(ok:HOk P w H h)(e:Rd H a u):bE P w H h a u:=e.ok ok
def ix{b:Ab (af×V)}(ok:HOk P w H h)(e:Rd H a (.dK b)):b.length<=sizeLine/\(a==Bm)=false/\∃vs,KV b vs/\h.DictOf (qv P w) a vs:=
 show bE P w H h a (.dK b) from Mo ok e
def xV{b:Ab (af×V)}(ok:HOk P w H h)(e:H a=Aa (.dK b)):b.length<=sizeLine/\(a==Bm)=false/\∃vs,KV b vs/\h.DictOf (qv P w) a vs:=ix ok<|.inl e
def kq{b:Ab af}(ok:HOk P w H h)(e:H a=Aa (.tup<|b.map kV)):(DT<|qv P w).is h b a:=by
 obtain⟨_,its,r,o,c,d,n,f⟩:=(show bE P w H h a (.tup<|b.map kV) from ok a _ e);exact⟨o,its.toArray,n,c,d,f,by simpa using Mc r⟩
def jS(ok:HOk P w H h)(e:Rd H a (.dT kvs)):kvs.length<=sizeLine/\(a==Bm)=false/\
  ∃xs,KT H kvs xs/\h.DictOfH (DT<|qv P w) a xs:=by
 obtain⟨z,y,xs,r,o,d,f,g,i,j,k,n⟩:=(show bE P w H h a (.dT kvs) from Mo ok e);refine⟨z,y,xs,r,o,d,f,g,i,j,k,λx b=>?_,n⟩;have all:∀{l:Ab (Ab af×V)} {m:Ab (Ab af×Ac×Ad)},KT H l m->∀x∈m,(DT<|qv P w).is h x.1 x.2.1:=by
  intro l m q
  induction q with
  | nil=>intro x b;exact nomatch b
  | @cons p q u v c t s=>
   intro x b;rcases aA.mp b with e | b
   .subst e;exact kq ok (by rw[<- c.1];exact c.2.1)
   .exact s x b
 exact all r x b
def Tz(ok:HOk P w H h)(e:H a=Aa (.dT kvs)):kvs.length<=sizeLine/\(a==Bm)=false/\
  ∃xs,KT H kvs xs/\h.DictOfH (DT<|qv P w) a xs:=jS ok<|.inl e
def di(H:Hp)(a:Ac)(y:V)(r:Ag V):Prop:=
 (∃kvs k,Rd H a (.dK kvs)/\y=kV k/\r=ao kvs k)\/ ∃kvs k b,Rd H a (.dT kvs)/\y= .ref b/\H b=Aa (.tup<|k.map kV)/\r=ao kvs k
def e_(H:Hp)(a:Ac)(y v:V)(c:Hp):Prop:=
 (∃kvs k,H a=Aa (.dK kvs)/\y=kV k/\kvs.length < sizeLine/\c=upd H a (.dK<|aq kvs k v))\/
 ∃kvs k b,H a=Aa (.dT kvs)/\y= .ref b/\H b=Aa (.tup<|k.map kV)/\kvs.length < sizeLine/\c=upd H a (.dT<|aq kvs k v)
theorem di.k{H:Hp}{a:Ac}{b:Ab (af×V)}{k:af}(e:H a=Aa (.dK b)):di H a (kV k) (ao b k):= .inl ⟨b,k,.inl e,rfl,rfl⟩
def di.t{k:Ab af}(e:H a=Aa (.dT kvs))(c:H b=Aa (.tup<|k.map kV)):di H a (.ref b) (ao kvs k):= .inr ⟨kvs,k,b,.inl e,rfl,c,rfl⟩
theorem e_.k{H:Hp}{a:Ac}{b:Ab (af×V)}{k:af}{v:V}(e:H a=Aa (.dK b))(c:b.length < sizeLine):e_ H a (kV k) v (upd H a<|.dK<|aq b k v):= .inl ⟨b,k,e,rfl,c,rfl⟩
variable{v:V}
def e_.t{k:Ab af}(e:H a=Aa (.dT kvs))(c:H b=Aa (.tup<|k.map kV))(d:kvs.length < sizeLine):
  e_ H a (.ref b) v (upd H a<|.dT<|aq kvs k v):= .inr ⟨kvs,k,b,e,rfl,c,d,rfl⟩
def ae.big(I:ae X xC σ H s):Bm < s.heap.objs.size:=by
 have h:Ar < s.heap.objs.size:=(I.mod.glob.keeps I.bk).lt;exact IQ (by decide) h
variable{o:Ag V}{A:As}{E Q:xB}
def QW(m:A.units+1 < cLine)(I:ae X xC σ H s)(g:di H a y (Aa v))(i:av y u)(h:∀Y j,ae X xC σ H j->av v Y->Q Y j):
  Ak (Ao X.prog X.w) A (FK (.ref a) u) Q E s:=by
 rcases g with ⟨kvs,k,e,c,l⟩ | ⟨kvs,k,b,e,c,n,l⟩
 .subst c;obtain⟨z,q,r,J,d⟩:=ix I.hok e;obtain⟨Y,f,O⟩:=cQ.lX (v:=v) (o:=FM r k) (by rw[l];exact J.val k);exact wpAny_getItem_of (iC i) d.mapOf f<|h Y _ (I.tok _) O
 .subst c;cases (show u=Aw b from i)
  obtain⟨z,q,xs,J,d⟩:=jS I.hok e;obtain⟨Y,f,O⟩:=cQ.lX (v:=v) (o:=(CQ xs k).map (·.2)) (by rw[l];exact J.val k);obtain⟨p,t,Z⟩:=dq.mp f;refine F3 (Ca m) (kq I.hok n) d t ?_;rw[Z];exact h Y _ (I.tok _) O
def Ya(m:A.units+1 < cLine)(I:ae X xC σ H s)(g:di H a y o)(i:av y u)(h:∀j,ae X xC σ H j->Q (.bool o.isSome) j):
  Ak (Ao X.prog X.w) A (Bg .In u<|.ref a) Q E s:=by
 rcases g with ⟨kvs,k,e,c,l⟩ | ⟨kvs,k,b,e,c,n,l⟩
 .subst c;obtain⟨z,d,p,J,f⟩:=ix I.hok e;refine wpAny_in_of (iC i) d f.mapOf ?_;rw[<- (J.val k).jx,<- l];exact h _<|I.tok _
 .subst c;cases (show u=Aw b from i)
  obtain⟨z,d,xs,J,f⟩:=jS I.hok e;refine Il (Ca m) (kq I.hok n) d f ?_;have q:=(J.val k).jx;rw[BU]at q;rw[<- q,<- l];exact h _<|I.tok _
def XY(m:A.units+1 < cLine)(I:ae X xC σ H s)(g:di H a y o)(i:av y u)(h:∀j,ae X xC σ H j->Q (.bool<|!o.isSome) j):
  Ak (Ao X.prog X.w) A (Bg .NotIn u<|.ref a) Q E s:=by
 rcases g with ⟨kvs,k,e,c,l⟩ | ⟨kvs,k,b,e,c,n,l⟩
 .subst c;obtain⟨z,d,p,J,f⟩:=ix I.hok e;refine wpAny_notIn_of (iC i) d f.mapOf ?_;rw[<- (J.val k).jx,<- l];exact h _<|I.tok _
 .subst c;cases (show u=Aw b from i)
  obtain⟨z,d,xs,J,f⟩:=jS I.hok e;refine wpAny_notIn_heap (Ca m) (kq I.hok n) d f ?_;have q:=(J.val k).jx;rw[BU]at q;rw[<- q,<- l];exact h _<|I.tok _
variable{h':AH}
def mW{J:HO}(I:ae X xC σ H s)(mu:mV (H a))(c:Bn a s.heap h')(d:∃q,h'.get? a=Aa q)(f:bE X.prog X.w (upd H a J) h' a J):
  ae X xC σ (upd H a J) {s with heap:=h',toks:=t'}:=
 I.write (x:=a) (e:=a) mu (.inl rfl) (λb q g z=>(c.2 b g).trans z) d f
variable{kvs:Ab (af×V)}
def ww{b:Ab (af×Ad)}(z:kvs.length<=sizeLine)(c:(a==Bm)=false)(J:KV kvs b)(d:h'.DictOf (qv P w) a b):
  bE P w H' h' a (.dK kvs):=⟨z,c,b,J,d⟩
variable{r:Ad}
theorem SJ{Q:Ge->Af->Prop}(C:A.units+1 < cLine)(I:ae X xC σ H s)(g:e_ H a y v H')(p:av y u)(t:av v r)(h:∀w,ae X xC σ H' w->Q () w):
  Ak (Ao X.prog X.w) A (setItem (.ref a) u r) Q E s:=by
 rcases g with ⟨kvs,k,e,f,l,i⟩ | ⟨kvs,k,b,e,f,x,l,i⟩
 .subst f i;obtain⟨z,j,D,J,m⟩:=xV I.hok e;have n:D.length<=sizeLine:=by rw[<- J.length];exact z
  have o:(aq kvs k v).length<=sizeLine:=by have:=jX kvs k v;lia
  refine wpAny_setItem_pairs (hsz:=n) (iC p) m λh' O Y=>h _ ?_;have F:∃q,h'.get? a=Aa q:=let ⟨q,_,_,d,_⟩:=O;⟨q,d⟩
  exact mW I (by rw[e];exact Ay) Y F<|ww o j (J.put k t) O
 .subst f i;cases (show u=Aw b from p)
  obtain⟨z,j,xs,J,m⟩:=Tz I.hok e;have n:xs.length<=sizeLine:=by rw[<- Paired.length J];exact z
  have o:(aq kvs k v).length<=sizeLine:=by have:=jX kvs k v;lia
  refine F6 (hsz:=n) (Ca C) (kq I.hok x) m λh' O Y=>h _ ?_;obtain⟨q,G,K,d,L,M,N,_,P⟩:=O;refine mW I (by rw[e];exact Ay) Y ⟨q,d⟩ ⟨o,j,_,(J.put k x t).keeps λc ys B=>?_,q,G,K,d,L,M,N,P⟩;rw[qe<|ZE B e (λz=>nomatch z)];exact B
theorem Xa(I:ae X xC σ H s)(e:Rd H a (.dK kvs))(h:∀t b,ae X xC σ H b->Q (.int kvs.length t) b):Ak (Ao X.prog X.w) A (call (.builtin "len") [.ref a]) Q E s:=by
 obtain⟨z,c,f,J,d⟩:=ix I.hok e;refine call_len_dict c d (by rw[<- J.length];rw[Eh]at z;lia) ?_;rw[<- J.length];exact h _ _<|I.tok _
def rQ(i:AK):Prop:=∀a b,Fs i false a b=JA [a,b] (FK a b)
variable{value:AK}
def Nq{a:Ai}{b:Env}{J:AK}{T id:BL}
    (e:F0 (.type T) "__getitem__"=AX (Aa<|.builtin id)) (f:rQ J)
    (h:Ak (Ao a w) A (Bp value b) (λo c=>Ak (Ao a w) A (Bp J b) (λi O=>O.TypeIs o T/\Ak (Ao a w) A (FK o i) Q E O) E c) E s):
    Ak (Ao a w) A (Bp (.Subscript value J pos) b) Q E s:=by
  refine Hz (bK h (λo c g=>bK g (λi O Y=>?_) λ_ _ x=>x) λ_ _ x=>x);obtain⟨Z,Y⟩:=Y;unfold FQ;refine ac ?_;rw[getitemInPython_of_ne Z.not_modules];refine ac<|Cc Z e ?_;have fin:Ak (Ao a w) A (Fs J false o i) (λr d=>Ak (Ao a w) A (letTemporaryGo value o r >>=λ_=>AX r) Q E d) E O:=by
    rw[f o i];exact wpAny_operating (bK Y (λr d j=>ac<|wpAny_letTemporaryGo<|ah j) λ_ _ x=>x)
  first
    | exact ah<|ac fin
    | exact ac<|ah<|ac fin
    | exact ac fin
def NY(I:ae X xC σ H s)(g:di H a y o):s.TypeIs (.ref a) "dict":=by
 rcases g with ⟨kvs,k,e,_,_⟩ | ⟨kvs,k,b,e,_,_,_⟩
 .obtain⟨_,_,vs,_,dd⟩:=ix I.hok e;exact dd.typeIs
 .obtain⟨_,_,xs,_,dd⟩:=jS I.hok e;exact dd.typeIs
inductive yS (Q:VK) (x:V) (y:V) (b:Hp):Prop
 | mk:∀a v,(x= .ref a)->(di b a y (Aa v))->(Q v b)->yS Q x y b
def ZG(a ty:TE):TE:=λσ H Q=>a σ H λx b=>ty σ b λy c=>yS Q x y c
inductive vV (Q:VK) (y:V) (x:V) (b:Hp):Prop
 | mk:∀a o,(x= .ref a)->(di b a y o)->(Q (.bl o.isSome) b)->vV Q y x b
def Vp(ty a:TE):TE:=λσ H Q=>ty σ H λy b=>a σ b λx c=>vV Q y x c
inductive LV (Q:VK) (y:V) (x:V) (b:Hp):Prop
 | mk:∀a o,(x= .ref a)->(di b a y o)->(Q (.bl (!o.isSome)) b)->LV Q y x b
def XE(ty a:TE):TE:=λσ H Q=>ty σ H λy b=>a σ b λx c=>LV Q y x c
inductive LJ (D:dJ) (b:St) (v:V) (x:V) (y:V) (c:Hp):Prop
 | mk:∀a d,(x= .ref a)->(e_ c a y v d)->(D.nx b d)->LJ D b v x y c
def Rv(a ty b:TE):TS:=λD σ H=>b σ H λv c=>a σ c λx d=>ty σ d λy e=>LJ D σ v x y e
variable{i o:AK}{td ty:TE}
def iF(c:X.A.units+1 < cLine)(d:PE X o td)(e:PE X i ty)(f:rQ i):PE X (.Subscript o i pos) (ZG td ty):=by
 intro xC s σ H Q I h;refine Nq PySem.F.slot_dict_getitem.lookup f (am (d xC s σ H _ I h) λu j ⟨x,k,l,m,n⟩=>am (e xC j σ k _ l n) λz A O=>?_);obtain⟨y,p,b,q,a,v,r,g,t⟩:=O;subst r;obtain rfl:u=Aw a:=m;exact⟨NY b g,QW c b g q λB C w J=>⟨v,p,w,J,t⟩⟩
def pS(b:X.A.units+1 < cLine)(c:PE X i ty)(d:PE X o td):PC X .In i o (Vp ty td):=by
 intro xC s σ H Q I h;refine am (c xC s σ H _ I h) λw e ⟨y,f,j,k,l⟩=>am (d xC e σ f _ j l) λu z J=>?_;obtain⟨x,m,n,p,a,q,r,g,t⟩:=J;subst r;obtain rfl:u=Aw a:=p;exact Ya b n g k λA v=>⟨.bl q.isSome,m,v,zr,t⟩
def Re(b:X.A.units+1 < cLine)(c:PE X i ty)(d:PE X o td):PC X .NotIn i o (XE ty td):=by
 intro xC s σ H Q I h;refine am (c xC s σ H _ I h) λw e ⟨y,f,j,k,l⟩=>am (d xC e σ f _ j l) λu z J=>?_;obtain⟨x,m,n,p,a,q,r,g,t⟩:=J;subst r;obtain rfl:u=Aw a:=p;exact XY b n g k λA v=>⟨.bl<|!q.isSome,m,v,zr,t⟩
variable{pos':Pos}{tv:TE}
def jQ(b:X.A.units+1 < cLine)(c:PE X o td)(d:PE X i ty)(e:PE X value tv)(f:EB value (Aa<|.Subscript o i pos') pos.line X.env=AX false):
  PS X (.Assign [.Subscript o i pos'] value pos) (Rv td ty tv):=by
 intro xC s σ H D I h;refine EZ (am (e xC s σ H _ I h) λr j ⟨v,k,l,m,n⟩=>am (c xC j σ k _ l n) λu p ⟨x,q,t,w,z⟩=>am (d xC p σ q _ t z) λK L J=>?_) f;obtain⟨y,M,A,B,a,C,E,g,F⟩:=J;subst E;obtain rfl:u=Aw a:=w;exact SJ b A g B m λN G=>⟨σ,C,G,F⟩
def OF(h:AH)(a:Bm < h.objs.size):bE P w H (h.push {cls:= .type "dict",data:= .dict #[]}) h.objs.size (.dK []):=
 ⟨ba _,beq_eq_false_iff_ne.mpr<|Bi<|aJ a,[],.nil,Hc h⟩
def SU(h:AH)(a:Bm < h.objs.size):bE P w H (h.push {cls:= .type "dict",data:= .dict #[]}) h.objs.size (.dT []):=
 ⟨ba _,beq_eq_false_iff_ne.mpr<|Bi<|aJ a,[],.nil,_,#[],0,bc _ rfl,⟨rfl,rfl,rfl⟩,rfl,rfl,dH⟩
def Se:TE:=λ_ H Q=>∀p,H p=none->Q (.ref p) (upd H p<|.dK [])
def VU:TE:=λ_ H Q=>∀p,H p=none->Q (.ref p) (upd H p<|.dT [])
def iP:PE X (.Dict [] [] pos) Se:=λxC s σ H Q I h=>
 EF ⟨.ref s.heap.objs.size,_,I.laid (a:=s.heap.objs.size) (o:= .dK []) (t':=s.toks) (λ_ _ q=>aw _ q) (aj _)<|OF s.heap I.big,rfl,h _<|I.hok.fresh<|aj _⟩
def xR:PE X (.Dict [] [] pos) VU:=λxC s σ H Q I h=>
 EF ⟨.ref s.heap.objs.size,_,I.laid (a:=s.heap.objs.size) (o:= .dT []) (t':=s.toks) (λ_ _ q=>aw _ q) (aj _)<|SU s.heap I.big,rfl,h _<|I.hok.fresh<|aj _⟩
structure M1 (X:Cx) (o:AK) (m:Str) (apos:Pos) (e:AK) (cpos:Pos):Prop where
 base:CB o m X.env (Bp o X.env)=Bp o X.env
 few:((Bs cpos (AA [e] X.env)).all (λx=> !x.1)&&(Cn cpos (BE [] X.env)).all (λx=>x.1.isSome)
  &&decide (([e]:Ab AK).length+([]:Ab Ei).length+(if ([]:Ab Ei).isEmpty then 0 else 1) < 30))=true
 line:(apos.endLine==cpos.line)=true
 trees:Bs cpos (AA [e] X.env)=[(false,Bp e X.env)]
structure M2 (X:Cx) (o:AK) (m:Str) (apos:Pos) (e f:AK) (cpos:Pos):Prop where
 base:CB o m X.env (Bp o X.env)=Bp o X.env
 few:((Bs cpos (AA [e,f] X.env)).all (λx=> !x.1)&&(Cn cpos (BE [] X.env)).all (λx=>x.1.isSome)
  &&decide (([e,f]:Ab AK).length+([]:Ab Ei).length+(if ([]:Ab Ei).isEmpty then 0 else 1) < 30))=true
 line:(apos.endLine==cpos.line)=true
 trees:Bs cpos (AA [e,f] X.env)=[(false,Bp e X.env),(false,Bp f X.env)]
def sF(H:Hp)(a:Ac):Prop:=(∃kvs,Rd H a<|.dK kvs)\/ ∃kvs,Rd H a<|.dT kvs
def My(I:ae X xC σ H s)(d:sF H a):
  s.TypeIs (.ref a) "dict"/\(∀b,Aw a= .ref b->∃J,s.heap.get? b=Aa J/\J.dict=none)/\(a==Bm)=false:=by
 rcases d with ⟨kvs,e⟩ | ⟨kvs,e⟩
 .obtain⟨_,hd,vs,_,dd⟩:=ix I.hok e;refine⟨dd.typeIs,λb q=>?_,hd⟩;cases q
  obtain⟨J,_,_,c,f,_⟩:=dd;exact⟨J,c,f.2.1⟩
 .obtain⟨_,hd,xs,_,dd⟩:=jS I.hok e;refine⟨dd.typeIs,λb q=>?_,hd⟩;cases q
  obtain⟨J,_,_,c,f,_⟩:=dd;exact⟨J,c,f.2.1⟩
variable{o:Ag V}{d:V}
def UA(n:A.units+1 < cLine)(I:ae X xC σ H s)(g:di H a y o)(j:av y u)(O:av d r)(h:∀Y m,ae X xC σ H m->av (o.getD d) Y->Q Y m):
  Ak (Ao X.prog X.w) A (call (.builtin "dict.get") [.ref a,u,r]) Q E s:=by
 rcases g with ⟨kvs,k,e,f,l⟩ | ⟨kvs,k,b,e,f,p,l⟩
 .subst f;obtain⟨z,i,q,J,c⟩:=ix I.hok e;refine DO PySem.F.slot_dict_get c.typeIs PySem.F.entry_dict_get (PySem.F.args_dict_get_3 _ _ _) (meets_dict_get_default (qv X.prog X.w) a (iC j) i r) ⟨_,c.mapOf,h _ _ (I.tok _) ?_⟩;rw[l];exact(J.val k).getD O
 .subst f;cases (show u=Aw b from j)
  obtain⟨z,i,xs,J,c⟩:=jS I.hok e;refine DO PySem.F.slot_dict_get c.typeIs PySem.F.entry_dict_get (PySem.F.args_dict_get_3 _ _ _) (EG (DT<|qv X.prog X.w) a b i r) ⟨Ca n,k,xs,kq I.hok p,c,h _ _ (I.tok _) ?_⟩;rw[l];exact(J.val k).getD O
inductive zH (ty:TE) (d:TE) (b:St) (Q:VK) (x:V) (c:Hp):Prop
 | mk:∀a,(x= .ref a)->(sF c a)->(ty b c λy f=>d b f λz e=>∃o,di e a y o/\Q (o.getD z) e)->zH ty d b Q x c
def Po(a ty b:TE):TE:=λσ H Q=>a σ H λx c=>zH ty b σ Q x c
variable{f o:AK}{apos cpos:Pos}{tx:TE}
def Sw(c:X.A.units+1 < cLine)(i:PE X o td)(j:PE X e ty)(k:PE X f tx)(m:M2 X o "get" apos e f cpos):PE X (.Call (.Attribute o "get" apos) [e,f] [] cpos) (Po td ty tx):=by
 intro xC s σ H Q I h;refine CY m.base m.few m.line PySem.F.plainAttrs_dict PySem.F.slot_dict_get PySem.F.type_dict_get (am (i xC s σ H _ I h) λu l O=>?_);obtain⟨x,n,b,p,a,q,d,r⟩:=O;subst q;obtain rfl:u=Aw a:=p;obtain⟨t,v,_⟩:=My b d;refine⟨t,v,?_⟩;rw[m.trees];refine Bx rfl (BF<|Bt<|am (j xC l σ n _ b r) λM w ⟨y,A,B,C,D⟩=>
  Bt<|am (k xC w σ A _ B D) λN P ⟨z,E,F,G,R,g,K⟩=>Cg ?_)
 exact UA c F g C G λS T L J=>⟨_,E,L,J,K⟩
end L2
open L2.di renaming k->Kn
namespace Att
open PySem PySem.W PySem.Calls PyProof.Rows
variable{P:Jv}{h:AH}
def Ob:∀(ns:Ab Int) (c:xH),WellAll P h c (ns.map WData.int)->Gk c ns:=by
 intro ns
 induction ns with
 | nil=>
  intro c w;rw[bP]at w;cases w
  exact .nil
 | cons n ns d=>
  intro c w;rw[au]at w;cases w with
  | cons a b=>
   cases a
   exact .cons _ _<|d _ b
variable{l:JB}{n:Nat}
theorem Zq(i:l.most=Aa n){args:Ab WData}{O:xH}
    (J:l.row.toRowW.claim.pre args=true) (j:WellAll P h O args):
    ∃a f b,O=[Aw a]/\args=[WData.list<|b.map WData.int]/\h.get? a=Aa {cls:= .type "list",data:= .seq f.toArray}/\Gk f b/\b.length<=n:=by
  have k:WShape.hasAll [] args [.list .int]=true:=(pre_splitW J).1;have g:l.pre.holds [] {args:=args}=true:=(pre_splitW J).2;obtain⟨d,r,rfl,m,o⟩:=hasAllW_cons k;obtain rfl:=hasAllW_nil o;obtain⟨w,rfl,p⟩:=hasW_list m;obtain⟨b,rfl⟩:=items_int p;have Z:b.length<=n:=by
    unfold OpenLaw.pre at g;have c:(WTm.not<|.lt (.lit<|.int (n:Int))<|.len<|.arg 0).holds [] {args:=[.list<|b.map .int]}=true:=by
      have c:=(holds_andW g).1;rw[i]at c;exact c
    have e:=condW_of c<|w_not<|w_lt w_lit<|w_len_list<|w_arg rfl;rw[ai]at e;refine Nat.le_of_not_lt λq=>?_;have s:(n:Int) < ((b.length:Nat):Int):=by lia
    first
      | (rw[aS s]at e;exact Au e<|by decide)
      | (simp at e;lia)
  cases j with
  | cons t u=>
    cases u
    cases t with
    | list v Y=>exact⟨_,_,b,rfl,rfl,v,Ob b _ Y,Z⟩
def Sb(l:JB)(args:Ab WData):l.row.toRowW.claim.post args (.bool true) args=true:=
 postW_of (r:=l.row.toRowW) (X:=true==true)
  (show WShape.has [] (.bool true) .bool=true by first | rfl | decide | simp[WShape.has,WShape.arms,WShape.armsAll])
  (show (WTm.eq .res<|.lit<|.bool true).value [] {args:=args,res:=Aa<|.bool true,after:=args}=Aa (.bool<|true==true) from w_eq_bool (w_res rfl) w_lit) rfl
def Vo{q:Ai}{J:xD}{p:(Str->Ag Ad)->AH->Prop}{s:Al->AH->Prop}{d:DefRec}
  (u:l.most=Aa n) (v:d.params.defaults=[])
  (call:∀(w:Al) (j O:Af) (e k:xE) (c:Ac) (o:Obj) (m g Z:Ad) (a:Ac) (b:xH) (h:Ab Int),
   Ground q J [] p w j e k O.heap->s w O.heap->
   O.heap.get? c=Aa o->o.data= .func (docDef d.name d.params d.body d.scope m g Z)->O.heap.CodeRec g d.name->e d.name=Aa (.ref c)->
   O.heap.get? a=Aa {cls:= .type "list",data:= .seq b.toArray}->Gk b h->h.length<=n->O.gens=#[]->
   BQ (Ao l.prog w) E1 (.call (.ref c) ⟨[.ref a],[]⟩) (λr i=>r= .ok (.ret<|.bool true)/\OldK O.heap i.heap/\i.os=O.os/\DK i.gens) O):
  WalkO q J p s l.row.toRowW d [] (λf b=>PySem.call f b):=by
 intro w j O e k G Y c o m g Z x kV y z A t B C Q R S D T U E W;obtain rfl:x= .none:=Dflts.none t v;obtain rfl:kV= .none:=Dflts.noKw t;obtain⟨a,b,h,rfl,rfl,F,H,I⟩:=Zq u D E;refine enter_call (eZ (call w j O e k c o m g Z a b h G Y y (fd_plain z) A B F H I C) λr i K=>?_);obtain⟨rfl,L,M,N⟩:=K;exact⟨.inl ⟨.bool true,.bool true,[],rfl,λ_=>rfl,.bool true,Sb l _,λ_=>⟨BH,λ_ P=>(nomatch P)⟩⟩,L,M,N⟩
end Att
namespace L2
open PySem PySem.Spec PyProof.Rows
theorem Lg:∀{a:xH} {b:Ab Int},Gk a b->ap (b.map JN) a
 | _,_,.nil=> .nil
 | _,_,.cons n t h=> .cons ⟨t,rfl⟩<|Lg h
def oQ(H:Hp):Prop:=∀b,H b=none\/ ∃o a,H b=Aa (.frz o<|.lst a)
variable{P:Ai}{w:Al}{mg:xE}{CX:gT}{k:Nat}{fd:BD}{sp:Sp}
def Rx{K:xA}{p:xE}{s a:Ac}{x:Str}{J:Af}{g:xH}{i:Ab Int}
  (B:K.In J.heap) (C:J.heap.Ns Ar mg) (c:J.heap.Ns Ht p) (S:∀x:Str,x≠"__name__" ->p x=AU x) (T:J.heap.NoLimit) (U:J.gens=#[])
  (l:J.heap.get? a=Aa {cls:= .type "list",data:= .seq g.toArray}) (D:Gk g i) (E:i.length<=sizeLine) (W:aR k E1)
  (F:∀t:AH,K.In t->t.Ns Ar mg->bZ P w K mg t CX k s fd [x] sp) (X:∀(a0:Af) (u:Ad),Dq a0 fd ⟨[u],[]⟩ [(x,u)])
  (b0:∀H:Hp,oQ H->aK K H a (i.map JN)->sp [.ref a] H (λv _=>v= .bl true) λ_ _ _=>Bj)
  (c0:∀H e f,CX [] H J (λ_ _ _=>Bj) e f->Bj):
  BQ (Ao P w) E1 (.call (.ref s) ⟨[.ref a],[]⟩) (λr f=>r= .ok (.ret<|.bool true)/\OldK J.heap f.heap/\f.os=J.os/\DK f.gens) J:=by
 have G:=Lg D;have d0:=D.length;have Z:∀H:Hp,oQ H->aK K H a (i.map JN)->HOk P w H J.heap->(∀b,H b≠none->b=a)->(H a≠none->K.lookup a=none)->
   BQ (Ao P w) E1 (.call (.ref s) ⟨[.ref a],[]⟩) (λr f=>r= .ok (.ret<|.bool true)/\OldK J.heap f.heap/\f.os=J.os/\DK f.gens) J:=by
  intro H I e0 L M f0;have O:∀{b:Ac} {o:Obj},J.heap.get? b=Aa o->H b=none->(ic J.heap H).get? b=Aa o:=λe n=>Yk e n;have g0:∀{b:Ac} {o:Obj} {j:Am BI} {ep:Nat},J.heap.get? b=Aa o->o.data= .dict j ep->H b=none:=λ{b o j ep} e d=>by
   cases q:H b with
   | none=>rfl
   | some u=>
    have y:b=a:=M b (by rw[q];simp);subst y;rw[l]at e;cases e;have h0:Data.seq g.toArray _=Data.dict j ep:=d;cases h0
  have Y:∀{b:Ac} {m:xE},J.heap.Ns b m->(ic J.heap H).Ns b m:=λ{b m} ⟨o,j,ep,e,d,r⟩=>⟨o,j,ep,O e<|g0 e d,d,r⟩;have N:K.In (ic J.heap H):=λb o e=>O (B b o e) (by
   cases q:H b with
   | none=>rfl
   | some u=>
    have y:b=a:=M b (by rw[q];simp);subst y;rw[f0 (by rw[q];simp)]at e;cases e)
  have i0:qN K mg (ic J.heap H):=⟨N,Y C,⟨p,Y c,S⟩,let ⟨j0,k0,l0⟩:=T;⟨j0,Y k0,l0⟩⟩;have m0:gR P w K mg (ic J.heap H) E1 [] J H:=⟨rfl,i0,λb o e=>Uz e,B9<|Rt _ _,trivial,λb c=>Au (show b∈([]:Ab Ac) from c) (by simp),L,.of_eq U⟩;refine eZ ((F _ N<|Y C).run E1 [] J H ⟨[.ref a],[]⟩ [.ref a] [.ref a] _ _ W m0 (X J<|.ref a) (.cons rfl .nil)<|b0 H I e0) λr f h=>?_;cases r with
  | error e=>exact(c0 H e f h).elim
  | ok n0=>
   cases n0 with
   | next=>exact Bc h
   | brk=>exact Bc h
   | cont=>exact Bc h
   | ret u=>
    obtain⟨v,u0,os,o0,Q,p0,q0,q⟩:=h;have r0:v= .bl true:=q;subst r0;obtain rfl:u=ES true:=q0;refine⟨zr,OldK.of_keep λb o e=>?_,os,o0⟩;cases q:H b with
    | none=>exact Q.keep b o e q (by intro z;exact Au (show b∈([]:Ab Ac) from z)<|by simp) (by simp)
    | some u=>
     rcases I b with z | ⟨s0,v0,z⟩
     .rw[q]at z;cases z
     .have z2:=Q.frzs b s0 _ z;obtain⟨R,_⟩:=L b _ z;obtain⟨t0,_⟩:=p0 b _ z2;rw[e]at R;cases R;exact t0
 cases A:K.lookup a with
 | some o=>
  have e:=B a o A;rw[l]at e;cases e
  refine Z (λ_=>none) (λ_=> .inl rfl) (.inr ⟨_,g.toArray,_,A,rfl,rfl,rfl,by rw[aP,d0];exact E,by simpa using G⟩) (λb u z=>by have z':(none:Ag HO)=Aa u:=z;cases z') (λb z=>Au rfl z) λz=>Au rfl z
 | none=>
  refine Z (λb=>if b=a then Aa (.frz {cls:= .type "list",data:= .seq g.toArray}<|.lst<|i.map JN) else none) (λb=>?_) (.inl<|.inr ⟨{cls:= .type "list",data:= .seq g.toArray},Ah rfl⟩) (λb u z=>?_) (λb z=>?_) λ_=>A
  .by_cases c:b=a
   .exact .inr ⟨_,_,Ah c⟩
   .exact .inl<|Ae c
  .by_cases c:b=a
   .have z':=(Ah c).symm.trans z;cases z'
    subst c;exact⟨l,by rw[ai];exact E,g,_,G,l⟩
   .have z':=(Ae c).symm.trans z;cases z'
  .by_cases c:b=a
   .exact c
   .exact Au (Ae c) z
abbrev KOf{K:xA}{h:AH}(_:K.In h):xA:=K
variable{K:Jv->xA}{l:PySem.W.OpenLaw}{n:Nat}{q:Ai}{XP:(Str->Ag Ad)->AH->Prop}{YP:Al->AH->Prop}
def VY{Z:xD}{d:DefRec}{CX:Al->gT}{sp:Al->Sp}{x:Str}
  (p:l.most=Aa n) (r:n<=sizeLine) (t:d.params.defaults=[]) (y:aR k E1)
  (z:∀(w:Al) (h:AH),YP w h->(K w.params).In h)
  (F:∀(w:Al) (mg:xE) (b:Ac) (h:AH),(K w.params).In h->h.Ns Ar mg->mg d.name=Aa (.ref b)->
   ∃fd:BD,(∀(s:Af) (u:Ad),Dq s fd ⟨[u],[]⟩ [(x,u)])/\
    ∀g:AH,(K w.params).In g->g.Ns Ar mg->bZ l.prog w (K w.params) mg g (CX w) k b fd [x] (sp w))
  (A:∀(w:Al) (H:Hp) (a:Ac) (c:Ab Int),c.length<=n->oQ H->aK (K w.params) H a (c.map JN)->sp w [.ref a] H (λv _=>v= .bl true) λ_ _ _=>Bj)
  (B:∀(w:Al) (H:Hp) (s:Af) (e:Ad) (i:Af),CX w [] H s (λ_ _ _=>Bj) e i->Bj):
  PySem.W.WalkO q Z XP YP l.row.toRowW d [] (λf j=>PySem.call f j):=by
 refine Att.Vo p t λw Q C mg R b o S T U a j c G Y W X a0 D E O J I=>?_;have m:=z w _ Y;obtain⟨fd,L,M⟩:=F w mg b _ m G.T.g D;exact Rx m G.T.g G.T.b G.T.builtins G.T.nolimit I E O (az J r) y M L (λH N P=>A w H a c J N P) λH e i=>B w H C e i
def qse{J:xD}{d:DefRec}{sp:xA->Sp}{x:Str}
  (j:l.most=Aa n) (Z:n<=sizeLine) (Y:d.params.defaults=[]) (m:aR k E1)
  (o:∀(w:Al) (h:AH),YP w h->(K w.params).In h)
  (F:∀(w:Al) (mg:xE) (i:Ac) (h:AH),(K w.params).In h->h.Ns Ar mg->mg d.name=Aa (.ref i)->
   ∃fd:BD,(∀(s:Af) (u:Ad),Dq s fd ⟨[u],[]⟩ [(x,u)])/\
    ∀c:AH,(K w.params).In c->c.Ns Ar mg->bZ l.prog w (K w.params) mg c CX k i fd [x] (sp<|K w.params))
  (p:∀(K:xA) (H:Hp) (a:Ac) (b:Ab Int),b.length<=n->oQ H->aK K H a (b.map JN)->sp K [.ref a] H (λv _=>v= .bl true) λ_ _ _=>Bj)
  (O:∀(H:Hp) (s:Af) (e:Ad) (g:Af),CX [] H s (λ_ _ _=>Bj) e g->Bj):
  PySem.W.WalkO q J XP YP l.row.toRowW d [] (λf r=>PySem.call f r):=
 VY (K:=K) (CX:=λ_=>CX) (sp:=λw=>sp<|K w.params) j Z Y m o F (λw H a b t y z=>p (K w.params) H a b t y z) λ_ H s e g=>O H s e g
def cF(s:AV)(j:Nat):AV:=match s with
 | .ClassDef _ _ _ body _ _ _ _ _ _ _=>body.getD j<|.Pass ⟨0,0,0,0⟩
 | _=> .Pass ⟨0,0,0,0⟩
def dr(s:AV):IC:=match s with
 | .FunctionDef _ a _ _ _ _ _ _ _ _=>a
 | _=>{posonlyargs:=[],args:=[],vararg:=none,kwonlyargs:=[],kw_defaults:=[],kwarg:=none,defaults:=[]}
def bU(s:AV):Ab AV:=match s with
 | .FunctionDef _ _ b _ _ _ _ _ _ _=>b
 | _=>[]
def qf(s:AV):Ck:=match s with
 | .FunctionDef _ _ _ _ _ _ a _ _ _=>a
 | _=>{kind:= .function,names:=[],isGenerator:=false,isCoroutine:=false}
abbrev CX0:gT:=λ_ _ _ _ _ _=>Bj
abbrev E0:XK:=λ_ _ _=>Bj
variable{X:Cx}
def iV:fx CX0 X E0:=λ_ _ _ _ _ _ _ h=>h.elim
structure md (K:xA) (x qual:Str) (st:AV) (f:Ac) (fd:BD):Prop where
 ex:∃(oc:Ad) (od:Ag Ac) (kV doc pm:Ad) (an:Ag Ac) (cdv ct:Ad) (osl:Am (Ag Ad)),
  fd=PySem.W.fnOf x qual (dr st) (bU st) (qf st) .none kV doc pm an cdv ct/\K.lookup f=Aa ⟨oc,od,.func fd,osl⟩/\PySem.W.codeIn K cdv qual=true
 kp:PySem.W.keepIn K (.ref f)=true
variable{K:xA}{base:AH}{st:AV}{f:Ac}{N ps:xD}
def md.ok{x c:Str}(F:md K x c st f fd)(S:aB N ps (qf st))(e:∀a H Q E,sp a H Q E->a.length=ps.length)
  (J:∀(b:Ad) (A:As) (d:Ab Env) (s:Af) (H:Hp) (a:Ab V) (Q:VK) (E:XK),aR k (A.deeper<|CK c (qf st) s.heap.objs.size f b)->sp a H Q E->
   ∃t,bf (eF CX0 P w K mg base N c (qf st) f b A d s H E).nox (bU st) t/\t {nx:=λ_ g=>Q .non g,rt:=Q} (start N a) H):bZ P w K mg base CX0 (k+1) f fd ps sp:=by
 obtain⟨l,m,kV,n,o,p,b,r,u,rfl,i,O⟩:=F.ex;refine pK i O S e λA d s H a Q E j Y=>?_;obtain⟨t,h,q⟩:=J b A d s H a Q E j Y;exact⟨t,h.nox,q⟩
variable{oc:Ad}
def MB{x a:Str}{e Y:Ag Ac}{O:Am (Ag Ad)}{kV J Z b d:Ad}(l:K.lookup f=Aa ⟨oc,e,.func<|PySem.W.fnOf x a (dr st) (bU st) (qf st) .none kV J Z Y b d,O⟩)
  (c:PySem.W.codeIn K b a=true) (k:PySem.W.keepIn K (.ref f)=true):md K x a st f (PySem.W.fnOf x a (dr st) (bU st) (qf st) .none kV J Z Y b d):=⟨⟨oc,e,kV,J,Z,Y,b,d,O,rfl,l,c⟩,k⟩
variable{A:As}
def cL(a:aR k A):A.units+1 < cLine:=BO (Nat.add_le_add_left (by decide:1<=64) _) a.units
def cY(h:n<=1000):n < sizeLine:=BO h (by decide)
variable{pos:Pos}
def pv(i:Nat){x:Str}(a:X.N[i]? =Aa x:=by rfl)(b:vd X.env.scope x:=by first | exact Ax rfl | exact E2 (Ax rfl) | exact E2<|E2 rfl)(c:(x==("__debug__":Str))=false:=by decide)
  (J:(x==("__classdict__":Str))=false:=by decide):PE X (.Name x pos) (vy i):=Oi a b c J
def eK{A B:Prop}(h:B):if false=true then A else B:=by
 rw[Ae aY];exact h
def gy{A B:Prop}(h:A):if true=true then A else B:=by
 rw[Ah rfl];exact h
def dP{c A B:Prop}[Decidable c](a:c->A)(b:¬ c->B):if c then A else B:=by
 by_cases h:c
 .rw[Ah h];exact a h
 .rw[Ae h];exact b h
def ag(H a:Hp):Prop:=∀b o,H b=Aa o->a b=Aa o
def ag.refl(H:Hp):ag H H:=λ_ _ h=>h
variable{H:Hp}
def ag.trans{d H2:Hp}(a:ag H d)(b:ag d H2):ag H H2:=λc o h=>b c o<|a c o h
variable{H':Hp}
def ag.free(e:ag H H'){l:Ac}(h:H' l=Jj):H l=Jj:=by
 cases q:H l with
 | none=>rfl
 | some o=>
  rw[e l o q]at h;cases h
def ag.seq{a:Ac}{xs:Ab V}(e:ag H H')(h:aK K H a xs):aK K H' a xs:=by
 rcases h with (h | ⟨o,h⟩) | h
 .exact .inl<|.inl<|e _ _ h
 .exact .inl<|.inr ⟨o,e _ _ h⟩
 .exact .inr h
inductive NR (b:Ab V) (H:Hp) (Q:VK):Prop
 | mk:∀a c,(b=[JU a])->(H a=Aa (.dK c))->(Q (.int c.length) H)->NR b H Q
def Mp:cu X (.builtin "len") NR:=by
 intro f s g H i j Q I r h;obtain⟨a,b,rfl,c,q⟩:=h;obtain⟨u,rfl,d⟩:=dz r;cases d
 exact Xa I (.inl c) λt k e=>⟨.int b.length,H,e,⟨t,zr⟩,q⟩
section
variable{κ:Type}[Bh κ]
def wq{a:Ab (κ×V)}{k:κ}(h:ao a k=none):¬ k∈a.map (·.1):=by
 intro m;obtain⟨p,b,e⟩:=aE.mp m;have q:(a.any λc=>decide (c.1=k))=true:=fN.mpr ⟨p,b,aS e⟩;rw[gc,h]at q;exact Au q (by simp)
def nR{a:Ab (κ×V)}{k:κ}{v:V}(h:ao a k=Aa v):k∈a.map (·.1):=by
 have q:(a.any λb=>decide (b.1=k))=true:=by
  rw[gc,h]
  all_goals rfl
 obtain⟨p,c,e⟩:=fN.mp q;exact aE.mpr ⟨p,c,AT e⟩
theorem qL:∀{l:Ab κ} {k:κ},l.Nodup->¬ k∈l->(l++ [k]).Nodup
 | [],k,_,_=>by simp
 | a::r,k,h,b=>by
  obtain⟨c,d⟩:=dL.mp h;show (a::(r++ [k])).Nodup;refine dL.mpr ⟨λm=>?_,qL d λm=>b<|aA.mpr<|E2 m⟩;rcases aF.mp m with q | q
  .exact c q
  .exact b<|aA.mpr<|Ax (aM.mp q).symm
def mH{p:κ×V}{r:Ab (κ×V)}{k:κ}(e:p.1=k):dt (p::r) k=dt r k:=by
 unfold dt;rw[jo,Ae<|by simp[e]]
def lK{p:κ×V}{r:Ab (κ×V)}{k:κ}(e:¬ p.1=k):dt (p::r) k=p::dt r k:=by
 unfold dt;rw[jo,Ah<|by simp[e]]
def QY{kvs:Ab (κ×V)}{k:κ}{p:κ×V}(h:p∈dt kvs k):p∈kvs:=(cV.mp h).1
theorem vn:∀{a:Ab (κ×V)} {k:κ},(a.map (·.1)).Nodup->((dt a k).map (·.1)).Nodup
 | [],_,_=>dH
 | p::r,k,h=>by
  have h:(p.1::r.map (·.1)).Nodup:=h;obtain⟨c,b⟩:=dL.mp h;by_cases e:p.1=k
  .rw[mH e];exact vn b
  .rw[lK e];show (p.1::(dt r k).map (·.1)).Nodup;refine dL.mpr ⟨λm=>c ?_,vn b⟩;obtain⟨q,d,eq⟩:=aE.mp m;exact aE.mpr ⟨q,QY d,eq⟩
end
variable{β:Type}
def SA{x n:Str}{b c:β}{l:Ab (Str×β)}(h:((n,b)::l).lookup x=Aa c):(x=n/\b=c)\/ l.lookup x=Aa c:=by
 rw[Dh]at h;cases e:x==n with
 | true=>
  rw[e]at h;exact .inl ⟨ID e,AO h⟩
 | false=>
  rw[e]at h;exact .inr h
def Uy{x n:Str}{b:β}{l:Ab (Str×β)}(h:x=n\/ ∃c,l.lookup x=Aa c):∃c,((n,b)::l).lookup x=Aa c:=by
 rw[Dh];cases e:x==n with
 | true=>exact⟨b,rfl⟩
 | false=>
  rcases h with h | h
  .subst h;simp at e
  .exact h
theorem ug{d:Env}:∀(g:Ab (Str×Dv)) (acc:Ab (Str×Ac)),(∀y∈g,y.2= .free->∃c,d.cells.lookup y.1=Aa c)->
    (∀x c,acc.lookup x=Aa c->d.cells.lookup x=Aa c)->
    ∃f,(Iz g acc (λx r=>if (x.2==BB)=true then (HD d x.1 >>=λc=>AX<|AS<|(x.1,c)::r) else AX (AS r)):Sem (Ab<|Str×Ac))=AX f/\
      (∀x c,f.lookup x=Aa c->d.cells.lookup x=Aa c)/\(∀y∈g,y.2= .free->∃c,f.lookup y.1=Aa c)/\(∀x c,acc.lookup x=Aa c->∃J,f.lookup x=Aa J)
  | [],acc,_,h=>⟨acc,rfl,h,(λ_ z=>nomatch z),λx c e=>⟨c,e⟩⟩
  | (n,k)::r,acc,i,h=>by
    rw[Hd];by_cases j:k= .free
    · subst j
      obtain⟨c,q⟩:=i (n,.free) be rfl;have l:(HD d n:Sem Ac)=AX c:=by
        have Z:d.cells.lookup n=Aa c:=q;unfold HD;rw[Z]
      obtain⟨f,e,m,o,O⟩:=ug r ((n,c)::acc) (λy a=>i y<|bb _ a) (λx J e=>by
        rcases SA e with ⟨l,p⟩ | e
        · subst l;subst p;exact q
        · exact h x J e)
      refine⟨f,?_,m,?_,λx J e=>?_⟩
      · show ((if ((n,BB).2==BB)=true then (HD d n >>=λc=>AX<|AS<|(n,c)::acc) else AX (AS acc)) >>=_)=_
        rw[Ah (show ((n,BB).2==BB)=true from rfl),l];exact e
      · intro y a Y
        rcases aA.mp a with rfl | a
        · exact O n c (by simp)
        · exact o y a Y
      · obtain⟨s,p⟩:=Uy (n:=n) (b:=c)<|.inr ⟨J,e⟩
        exact O x s p
    · obtain⟨f,e,m,o,O⟩:=ug r acc (λy a=>i y<|bb _ a) h
      refine⟨f,?_,m,?_,O⟩
      · show ((if ((n,k).2==BB)=true then (HD d n >>=λc=>AX<|AS<|(n,c)::acc) else AX (AS acc)) >>=_)=_
        rw[Ae<|by simpa using j];exact e
      · intro y a Y
        rcases aA.mp a with rfl | a
        · exact Au Y j
        · exact o y a Y
variable{scope:Ck}{env:Env}
def vQ(h:∀y∈scope.names,y.2= .free->∃c,env.cells.lookup y.1=Aa c):
  ∃a,closureFor scope env=AX a/\(∀x c,a.lookup x=Aa c->env.cells.lookup x=Aa c)/\(∀y∈scope.names,y.2= .free->∃c,a.lookup y.1=Aa c):=by
 obtain⟨a,e,b,d,_⟩:=ug scope.names [] h (λx c e=>by simp at e);refine⟨a,?_,b,d⟩;unfold closureFor;show ((Iz scope.names [] (λx r=>if (x.2==BB)=true then (HD env x.1 >>=λc=>AX<|AS<|(x.1,c)::r) else AX (AS r)):Sem (Ab<|Str×Ac)) >>=λr=>AX r)=_;rw[e];rfl
def eB(a:Env)(x:Str)(k:Dv):Dv:=if (k== .free&&a.scope.kind== .function&&a.kindOf x==Aa .cell)=true then .cell else k
theorem wD{env:Env}{x:Str}:∀(a:Ab (Str×Dv)),
    (a.map λ(n,k)=>if (k==BB&&env.scope.kind== .function&&env.kindOf n==Aa .cell)=true then (n,FR) else (n,k)).lookup x=(a.lookup x).map (eB env x)
  | []=>rfl
  | (n,k)::r=>by
    have b:=wD (env:=env) (x:=x) r;have e:(if (k==BB&&env.scope.kind== .function&&env.kindOf n==Aa .cell)=true then (n,FR) else (n,k))=(n,eB env n k):=by
      unfold eB;split <;> rfl
    show B6 x ((if (k==BB&&env.scope.kind== .function&&env.kindOf n==Aa .cell)=true then (n,FR) else (n,k))::_)=_;rw[e,Dh,Dh];cases c:x==n with
    | true=>
      have:=ID c;subst this;rfl
    | false=>exact b
variable{cl:Ab (Str×Ac)}
def z_{C:Ac}{x:Str}:(HE scope cl C env).kindOf x=(scope.names.lookup x).map (eB env x):=wD (env:=env) (x:=x) scope.names
def Ue{x:Str}:eB env x .free= .cell\/ eB env x .free= .free:=by
 unfold eB;split
 .exact .inl rfl
 .exact .inr rfl
def Xr{x:Str}{k:Dv}(h:eB env x k= .cell\/ eB env x k= .free):k= .cell\/ k= .free:=by
 unfold eB at h;split at h
 .rename_i z;simp only[ir,HF]at z;exact .inr z.1.1
 .exact h
def jy(caps:Ab (Ag Nat))(a:St):St:=caps.map λo=>match o with
 | none=>none
 | some j=>(a[j]?).join
def qG(c:xD)(b:Ck)(N:xD)(caps:Ab (Ag Nat))(a:Ck):AJ:=
 (a.kind== .function)&&decide N.Nodup&&(N.length==caps.length)&&a.names.all (λy=> !(y.2== .cell))&&
 a.names.all (λy=> !(y.2== .local) || a.names.lookup y.1==Aa .local)&&
 a.names.all (λy=> !(y.2== .free) || (b.names.lookup y.1==Aa .cell || b.names.lookup y.1==Aa .free))&&
 (N.zip caps).all (λp=>match p.2 with
  | none=>true
  | some j=>c[j]? ==Aa p.1&&a.names.lookup p.1==Aa .free)
structure ut (oN:xD) (osc:Ck) (N:xD) (caps:Ab (Ag Nat)) (sc:Ck):Prop where
 kind:sc.kind= .function
 nd:N.Nodup
 len:N.length=caps.length
 nocell:∀y∈sc.names,y.2≠ .cell
 loc:∀y∈sc.names,y.2= .local->sc.names.lookup y.1=Aa .local
 fr:∀y∈sc.names,y.2= .free->osc.names.lookup y.1=Aa .cell\/ osc.names.lookup y.1=Aa .free
 cap:∀(i j:Nat) (x:Str),N[i]? =Aa x->caps[i]? =Aa (Aa j)->oN[j]? =Aa x/\sc.names.lookup x=Aa .free
variable{caps:Ab (Ag Nat)}
def zR{O:xD}{J:Ck}{sc:Ck}(h:qG O J N caps sc=true):ut O J N caps sc:=by
  unfold qG at h;simp only[ir,eh,decide_eq_true_eq,HF,Bool.or_eq_true,Gm,beq_eq_false_iff_ne,ne_eq]at h;obtain⟨⟨⟨⟨⟨⟨b,c⟩,d⟩,f⟩,g⟩,k⟩,l⟩:=h;refine⟨b,c,d,f,λy a e=>?_,λy a e=>?_,λi j x m n=>?_⟩
  · rcases g y a with z | z
    · exact Au e z
    · exact z
  · rcases k y a with z | z
    · exact Au e z
    · exact z
  · have o:(x,Aa j)∈N.zip caps:=by
      refine bJ (i:=i) ?_;rw[List.getElem?_zip_eq_some];exact⟨m,n⟩
    have:=l _ o
    simpa using this
def fR(X:Cx)(N:xD)(a:Ck)(b:Ab (Str×Ac))(C:Ac)(c:Ab Ac)(s:Af)(H:Hp):Cx:=
 {X with N:=N,s₀:=s,H₀:=H,env:=HE a b C X.env,outer:=X.stack,ex:=c,fn:=λ_=>false,pn:=[],xe:=λ_ _=>Bj}
variable{xC:xG}{σ:St}{s:Af}{fp:Ab Ac}
def UP(I:ae X xC σ H s)(t:∀b∈fp,cf X xC H b)(L:∀b∈fp,∃o,s.heap.get? b=Aa o)(S:ut X.N X.env.scope N caps scope)
    (d:∀x c,cl.lookup x=Aa c->X.env.cells.lookup x=Aa c) (M:∀y∈scope.names,y.2= .free->∃c,cl.lookup y.1=Aa c)
    {A:AH} {m:xE} {tk:Nat} (P:A.Ns s.heap.objs.size m) (h:∀b u,s.heap.get? b=Aa u->A.get? b=Aa u):
    ae (fR X N scope cl s.heap.objs.size fp s H) [] (jy caps σ) H {s with heap:=A,toks:=tk}:=by
  have Q:∀b∈fp,b∉cC X.stack:=λb f z=>by
    obtain⟨_,R,T,_⟩:=t b f;rcases aA.mp (I.stkSub b z) with e | e
    · exact R e
    · exact T e
  have O:∀x,scope.names.lookup x=Aa .free->∃c,cl.lookup x=Aa c:=λx e=>M (x,.free) (iR e) rfl;refine⟨⟨I.ok.mod,S.kind,I.ok.glob,I.ok.blt,aj _,λx y c B g=>I.ok.inj x y c (d x c B)<|d y c g,λx U=>?_,λx c z _=>Au (show false=true from z) (by decide),I.ok.hd,I.ok.frames,.inl rfl,
    λb f=>⟨?_,λx c e=>(t b f).2.2.2.2.1 x c (d x c e)⟩,I.bs,az I.ok.bsz I.sz,λb o e f=>?_,Q,I.stack,I.stkFree⟩,
    rfl,I.bare,Un.kept h,⟨m,P,λi x v B g f0=>?_⟩,λx c e=>?_,I.hok.fresh<|aj _,λx c e=>I.freeC x c<|d x c e,λp W=>Au (show p∈([]:xG) from W) (by simp),I.hok.kept h,?_⟩
  · have J:(scope.names.lookup x).map (eB X.env x)=Aa .cell\/ (scope.names.lookup x).map (eB X.env x)=Aa .free:=by
      rw[<- z_ (cl:=cl) (C:=s.heap.objs.size)];exact U
    cases e:scope.names.lookup x with
    | none=>
      rw[e]at J;rcases J with z | z <;> cases z
    | some k=>
      rw[e]at J;have z:eB X.env x k= .cell\/ eB X.env x k= .free:=by
        rcases J with z | z
        · exact .inl<|AO z
        · exact .inr<|AO z
      rcases Xr z with z | z
      · subst z
        exact Au rfl<|S.nocell _<|iR e
      · subst z
        exact O x e
  · obtain⟨o,e⟩:=L b f
    exact aJ<|aC e
  · obtain⟨_,_,_,a0,_⟩:=t b f
    rcases a0 with z | z
    · exact I.ok.noex b o e z
    · exact Au (cp (aC e)<|az I.ok.bsz z)<|ii _
  · have g0:i < caps.length:=by
      unfold jy at g;obtain⟨b0,_⟩:=bR.mp g
      simpa using b0
    have a:(jy caps σ)[i]? =(caps[i]?).map λo=>match o with
        | none=>none
        | some j=>(σ[j]?).join:=by
      unfold jy;rw[bF]
    rw[g]at a;cases q:caps[i]? with
    | none=>
      rw[q]at a;cases a
    | some o=>
      rw[q]at a;cases o with
      | none=>
        cases (AO a)
      | some j=>
        have c0:σ[j]? =Aa (Aa v):=by
          have z:Aa v=(σ[j]?).join:=AO a;cases G:σ[j]? with
          | none=>rw[G]at z;cases z
          | some w=>rw[G]at z;exact Ba Aa z.symm
        obtain⟨d0,D⟩:=S.cap i j x B q;have E:X.env.kindOf x=Aa .cell\/ X.env.kindOf x=Aa .free:=S.fr (x,.free) (iR D) rfl;obtain⟨h0,_,e0⟩:=I.loc;obtain⟨u,r,l⟩:=e0 j x v d0 c0<|.inr E;refine⟨u,r,?_⟩;rcases l with ⟨k,_⟩ | ⟨_,c,a,z⟩
        · rw[k]at E
          rcases E with z | z <;> cases z
        · obtain⟨F,K⟩:=O x D
          have:F=c:=AO<|(d x F K).symm.trans a;subst this;refine .inr ⟨?_,F,K,?_⟩
          · have n:(HE scope cl s.heap.objs.size X.env).kindOf x=Aa (eB X.env x .free):=by rw[z_,D];rfl
            rcases Ue (env:=X.env) (x:=x) with z | z
            · rw[z]at n;exact .inl n
            · rw[z]at n;exact .inr n
          · obtain⟨o,Y,Z⟩:=z
            exact⟨o,h _ _ Y,Z⟩
  · obtain⟨v,o,Y,Z⟩:=I.cell x c<|d x c e
    exact⟨v,o,h _ _ Y,Z⟩
  · show (jy caps σ).length=N.length
    unfold jy;rw[ai];exact S.len.symm
def PF(X:Cx)(a:Ab AK)(t:TT):Prop:=
 ∀(xC:xG) (s:Af) (σ:St) (H:Hp) (Q:AJ->Hp->Prop),ae X xC σ H s->t σ H Q->
  Ak (Ao X.prog X.w) X.A (Iz a true λc r=>if r=true then do let ok <- isTrue c X.env (Bp c X.env);AX (AS ok) else AX (AS r)) (TP X xC σ Q) X.xe s
def V_:TT:=λ_ H Q=>Q true H
def d_:PF X [] V_:=λ_ _ _ H _ I h=>ah ⟨H,I,h⟩
def rZ{c:AK}{t:TT}(a:PT X c t):PF X [c] t:=by
 intro xC s σ H Q I h;rw[Hd];refine ac ?_;rw[Ah rfl];refine ac (am (a xC s σ H Q I h) λok b q=>ah ?_);exact ah q
variable{elt iter:AK}{ifs:Ab AK}
def U_{a:Ai}{R:CJ->Af->Prop}{J:AK}{b acc:Ad}(I:Nat->Af->Prop)
  (turn:∀n s,I n s->Ak (Ao a w) A (Cm b) (λr Z=>match r with
   | none=>R (.ok .next) Z
   | some v=>Ak (Ao a w) A (Cb J b v) (λ_ O=>Ak (Ao a w) A (FY J env v) (λ_ e=>
     Ak (Ao a w) A (Iz ifs true λc r=>if r=true then do let ok <- isTrue c env (Bp c env);AX (AS ok) else AX (AS r)) (λok d=>
      if ok=true then Ak (Ao a w) A (Bp elt env) (λx f=>
       Ak (Ao a w) A (call (.builtin "list.append") [acc,x]) (λ_ g=>∃m,m < n/\I m g) (λ_ _=>Bj) f) (λ_ _=>Bj) d
      else ∃m,m < n/\I m d) (λ_ _=>Bj) e) (λ_ _=>Bj) O) (λ_ _=>Bj) Z) (λ_ _=>Bj) s)
  (n:Nat) (h:I n s):
  BQ (Ao a w) A (.compLoop (.ListComp elt [⟨J,iter,ifs,0⟩] scope pos) 0 b acc env) R s:=by
 refine codeAny_loop rfl I (λn s k=>?_) n h;show Ak _ A ((compTurn (.ListComp elt [⟨J,iter,ifs,0⟩] scope pos) 0 b acc env).onRaise (λx=>do IE x env;theTreesLotGoes x)) _ _ s;refine wpAny_noted ?_;rw[compTurn_list];refine ac (Er<|ac<|bK (turn n s k) (λr Z i=>?_) λ_ _ z=>Bc z);cases r with
 | none=>exact ah i
 | some v=>
  refine ac (bK i (λ_ O Y=>?_) λ_ _ z=>Bc z);refine ac (bK Y (λ_ e l=>ac<|bK l (λok d j=>?_) λ_ _ z=>Bc z) λ_ _ z=>Bc z);cases ok with
  | false=>exact ah ⟨rfl,j⟩
  | true=>
   exact ac (ac<|bK j (λx f o=>ac<|bK o (λ_ g p=>ah<|ah ⟨zr,p⟩) λ_ _ z=>Bc z) λ_ _ z=>Bc z)
def FL(J:It)(g:TG)(j:TT)(k:TE)(D:Ac)(l:Hp->Prop)(W:Nat->Nat->St->Hp->Prop):Prop:=∀i m σ H,W i m σ H->
 (J.stop i H/\l H)\/ (J.go i H/\∃N:St->Hp->Prop,(∀d H',N d H'->∃e,e < m/\W (i+1) e d H')/\∀x H',J.yld i H x H'->g x σ H' λa n=>j a n λb f=>
  if b=true then k a f λv h=>∃c,h D=Aa (.lst c)/\c.length < sizeLine/\N a (upd h D<|.lst<|c++ [v]) else N a f)
def si(caps:Ab (Ag Nat))(b:TI)(g:TG)(c:TT)(d:TE):TE:=λσ H Q=>b σ H λJ a=>∀D,a D=none->
 ∃W:Nat->Nat->St->Hp->Prop,(∃m,W 0 m (jy caps σ)<|upd a D<|.lst [])/\FL J g c d D (λH'=>Q (.ref D) H') W
variable{tg:AK}{wi:TI}{g:TG}{tf:TT}{te:TE}
def yh{RR:Ad->Ac->CJ->Af->Prop}{Q:VK}(i0:X.calm=true)(S:ut X.N X.env.scope N caps scope)(A0:PI X tg iter wi)
  (H0:∀cl C fp s H,PG (fR X N scope cl C fp s H) tg g) (J0:∀cl C fp s H,PF (fR X N scope cl C fp s H) ifs tf) (K0:∀cl C fp s H,PE (fR X N scope cl C fp s H) elt te)
  (L0:∀x c,cl.lookup x=Aa c->X.env.cells.lookup x=Aa c) (M0:∀y∈scope.names,y.2= .free->∃c,cl.lookup y.1=Aa c)
  (N0:ae X xC σ H s) (h:si caps wi g tf te σ H Q)
  (fin:∀(D C:Ac) (m:xE) (W:Hp) (s5:Af),ae X xC σ W s5->s5.heap.Ns C m->cf X xC W C->Q (.ref D) W->RR (.ref D) C (.ok .next) s5):
  Ak (Ao X.prog X.w) X.A (Bp iter X.env) (λx O0=>Ak (Ao X.prog X.w) X.A (ET x) (λa0 P0=>Ak (Ao X.prog X.w) X.A (Hl []) (λacc Q0=>
   Ak (Ao X.prog X.w) X.A (HG scope X.env.globals cl [] X.env.qual none .none<|Aa X.env) (λj0 R0=>
    BQ (Ao X.prog X.w) X.A (.compStart (.ListComp elt [⟨tg,iter,ifs,0⟩] scope pos) 0 a0 acc {j0 with scope:=relabel scope X.env}) (RR acc j0.locals) R0) X.xe Q0) X.xe P0) X.xe O0) X.xe s:=by
 refine am (A0 xC s σ H _ N0 h) λv N1 S0=>am S0 λO1 Y T0=>?_;obtain⟨a0,fp,P,P1,b0,e,k0,T,l0,m0,q⟩:=T0;subst e;have U0:b0 Y.heap.objs.size=none:=k0.hok.fresh<|aj _;obtain⟨n0,⟨V0,o0⟩,turn⟩:=q Y.heap.objs.size U0;refine g_ ?_;have F:ae X xC σ (upd b0 Y.heap.objs.size<|.lst []) {Y with heap:=Y.heap.push {cls:= .type "list",data:= .seq ([]:xH).toArray}}:=
  k0.laid (t':=Y.toks) (o:= .lst []) (λb Q1 e=>aw _ e) (aj _) ⟨ba _,[],0,.nil,bc _ rfl⟩
 have p0:∀b∈fp,∃o,Y.heap.get? b=Aa o:=λb a=>let ⟨o,e,_⟩:=T.obj 0 Y.heap l0 b a;⟨o,e⟩
 have W0:∀b∈fp,b≠Y.heap.objs.size:=λb a=>let ⟨o,e⟩:=p0 b a;aJ (aC e)
 generalize X0:({Y with heap:=Y.heap.push {cls:= .type "list",data:= .seq ([]:xH).toArray}}:Af)=f at F;have q0:f.heap=Y.heap.push {cls:= .type "list",data:= .seq ([]:xH).toArray}:=by rw[<- X0]
 generalize R1:Y.heap.objs.size=D at*;generalize Y0:upd b0 D (.lst [])=k at F o0;have w:∀b∈fp,cf X xC k b:=λb a=>⟨by rw[<- Y0,qe<|W0 b a];exact(m0 b a).1,(m0 b a).2⟩;have Z0:∀b∈fp,∃o,f.heap.get? b=Aa o:=λb a=>let ⟨o,e⟩:=p0 b a;⟨o,by rw[q0];exact aw _ e⟩
 have a1:P 0 f.heap:=T.keep 0 _ _ l0 λb a o e=>by rw[q0];exact aw _ e
 show Ak (Ao X.prog X.w) X.A (HG scope X.env.globals cl [] X.env.qual none .none<|Aa X.env) _ X.xe f;refine wpAny_newFunctionEnv S.nocell (by intro y b1;simp at b1) (λh₁ c1 d1=>?_) S.kind;have r0:∀b u,f.heap.get? b=Aa u->h₁.get? b=Aa u:=λb u e=>d1.extBut b u (aJ<|aC e)<|aw _ e;have G:=UP (tk:=f.toks+([]:Ab (Str×Ad)).length) F w Z0 S L0 M0 c1 r0;generalize e1:f.heap.objs.size=C at*;generalize O:fR X N scope cl C fp f k=j at G;have Z:P 0 h₁:=T.keep 0 _ _ a1 λb a o e=>r0 b o e;have c0:∀{H':Hp},(∀b∈fp,H' b=none)->∀b∈fp,cf j [] H' b:=λ{H'} d0 b a=>by
  subst O;exact⟨d0 b a,(G.ok.exf b a).1,G.ok.exfs b a,.inl a,(G.ok.exf b a).2,λp f1=>Au (show p∈([]:xG) from f1)<|by simp⟩
 have s0:∀s4:Af,s4={f with heap:=h₁,toks:=f.toks+([]:Ab (Str×Ad)).length}->
   BQ (Ao X.prog X.w) X.A (.compLoop (.ListComp elt [⟨tg,iter,ifs,0⟩] scope pos) 0 (.ref a0) (.ref D)<|HE scope cl C X.env) (RR (.ref D) C) s4:=by
  rintro s4 rfl;refine U_ (λn t0=>∃i I H',ae j [] I H' t0/\P i t0.heap/\(∀b∈fp,H' b=none)/\n0 i n I H') ?_ V0 ⟨0,_,k,G,Z,λb a=>(w b a).1,o0⟩;rintro n s4 ⟨i,R,J,u0,Z,v0,g1⟩;rcases turn i n R J g1 with ⟨h1,i1⟩ | ⟨go,w0,j1,step⟩
  .have d:=T.done j (by subst O;rfl) (by subst O;rfl) (by subst O;rfl) (by subst O;exact i0) i [] s4 R J (λ_ _=>Bj) u0 (c0 v0) Z h1;have e0:j.A=X.A:=by subst O;rfl
   rw[e0]at d;refine bK d (λr s5 l=>?_) λ_ _ z=>z;obtain⟨l,A⟩:=l;subst l;have k1:ae X xC σ J s5:=by
    subst O;exact F.call' A.os A.base A.hok A.bare λb a=>⟨(w b a).2.2.2.1,(w b a).2.1,(w b a).2.2.2.2.1,(w b a).2.2.2.2.2⟩
   obtain⟨m,d0,_⟩:=A.loc;have l1:=A.free;subst O;exact fin D C m J s5 k1 d0 (F.fpOk (b:=C) (B9 e1) l1) i1
  .have d:=T.item j (by subst O;rfl) (by subst O;rfl) (by subst O;rfl) (by subst O;exact i0) i [] s4 R J (λ_ _=>Bj) u0 (c0 v0) Z go;have e0:j.A=X.A:=by subst O;rfl
   rw[e0]at d;refine bK d (λr s5 l=>?_) λ_ _ z=>z;obtain⟨u,l,m1⟩:=l;subst l;refine bK m1 (λ_ x0 n1=>?_) λ_ _ z=>z;obtain⟨x,y0,o1,p1,q1,f0,r1⟩:=n1;have s1:=o1.pinned (c0 r1)<|T.obj _ _ f0;have again:∀{t:Hp} {B:Af} {K:St},ae j ([]++mn fp x0.heap) K t B->w0 K t->∃m,m < n/\∃i I H',ae j [] I H' B/\P i B.heap/\(∀b∈fp,H' b=none)/\n0 i m I H':=λ{t B K} L M=>by
    obtain⟨t1,u1,v1⟩:=j1 K t M;refine⟨t1,u1,i+1,K,t,L.unpinned,T.keep _ _ _ f0 λb a o e=>(L.pin (b,o)<|b_ _<|b_ _<|mF a e).1,λb a=>?_,v1⟩;obtain⟨o,e,d⟩:=T.obj _ _ f0 b a;exact(L.pin (b,o)<|b_ _<|b_ _<|mF a e).2.1
   subst O;refine bK (H0 cl C fp f k _ x0 R y0 x u _ s1 p1<|step x y0 q1) (λ_ w1 g0=>?_) λ_ _ z=>z;obtain⟨U,x1,y1,g0⟩:=g0;refine bK (J0 cl C fp f k _ w1 U x1 _ y1 g0) (λok z1 E=>?_) λ_ _ z=>z;obtain⟨A1,z0,E⟩:=E;cases ok with
   | false=>
    rw[Ae<|by decide]at E;rw[Ae<|by decide];exact again z0 E
   | true=>
    rw[Ah rfl]at E;rw[Ah rfl];refine bK (K0 cl C fp f k _ z1 U A1 _ z0 E) (λG1 B M=>?_) λ_ _ z=>z;obtain⟨y,t,L,H1,I1,J1,K1,M⟩:=M;refine bK (gO (X:=fR X N scope cl C fp f k) _ B U t (.ref D) [y] (.ref D) [G1] (λ_ H'=>w0 U H') L rfl (.cons H1 .nil) ⟨D,I1,y,zr,zr,J1,K1,M⟩) (λ_ S1 h0=>?_) λ_ _ z=>z;obtain⟨_,T1,L1,_,h0⟩:=h0;exact again L1 h0
 exact codeAny_compStart_list (s0 _ rfl)<|T.self _ 0 _ _ _ Z<|s0 _ rfl
def dU(a:X.calm=true)(c:qG X.N X.env.scope N caps scope=true)(d:PI X tg iter wi)
  (f:∀cl C fp s H,PG (fR X N scope cl C fp s H) tg g) (i:∀cl C fp s H,PF (fR X N scope cl C fp s H) ifs tf) (j:∀cl C fp s H,PE (fR X N scope cl C fp s H) elt te)
  (k:∀x,Eg iter X.env x=AX x:=by intro _;rfl):PE X (.ListComp elt [⟨tg,iter,ifs,0⟩] scope pos) (si caps wi g tf te):=by
 intro xC s σ H Q I h;have S:=zR c;obtain⟨cl,O,l,n⟩:=vQ (scope:=scope) (env:=X.env) λy p e=>I.ok.has y.1<|S.fr y p e;rw[eval_ListComp];refine Et (use:=none) rfl k O S.kind S.loc<|yh (RR:=λacc C=>compPost (Ao X.prog X.w) X.A X.xe none (EP X xC σ Q) acc C) a S d f i j l n I h ?_;intro D C m r t u v J q;exact⟨m,v,λA w=>⟨.ref D,r,u.turned (t':=t.toks) (λb o z e=>(w.2 b z).trans e) J.1 J.2.1 J.2.2.2.1 J.2.2.2.2.1 J.2.2.2.2.2,zr,q⟩⟩
def LH{i:Nat}{x:Str}{Z J:Pos}(n:X.N.Nodup)(p:X.N[i]? =Aa x)(f:X.env.scope.names.lookup x=Aa .local)(r:X.calm=true)(t:qG X.N X.env.scope N caps scope=true)(u:PI X tg iter wi)
  (w:∀cl C fp s H,PG (fR X N scope cl C fp s H) tg g) (A:∀cl C fp s H,PF (fR X N scope cl C fp s H) ifs tf) (B:∀cl C fp s H,PE (fR X N scope cl C fp s H) elt te)
  (E:EB (.ListComp elt [⟨tg,iter,ifs,0⟩] scope pos) (Aa<|.Name x Z) J.line X.env=AX true:=by rfl)
  (F:∀x,Eg iter X.env x=AX x:=by intro _;rfl):PS X (.Assign [.Name x Z] (.ListComp elt [⟨tg,iter,ifs,0⟩] scope pos) J) (tq (si caps wi g tf te)<|uD i):=by
 intro xC s σ H D I h;have S:=zR t;obtain⟨cl,G,K,L⟩:=vQ (scope:=scope) (env:=X.env) λy M e=>I.ok.has y.1<|S.fr y M e;rw[exec_Assign_Name_used _ _ _ _ E];refine ac<|Er<|ac ?_;show Ak _ X.A (do let _ <- comprehension (.ListComp elt [⟨tg,iter,ifs,0⟩] scope pos) scope X.env _ (Hl []) false (Bp iter X.env) (Aa<|FY (.Name x Z) X.env)) _ _ s;refine ac (bK (Et (use:=Aa<|FY (.Name x Z) X.env) (Q:=λ_ c=>SP X xC D .next c) rfl F G S.kind S.loc
  (yh (RR:=λacc C=>compPost (Ao X.prog X.w) X.A X.xe (Aa<|FY (.Name x Z) X.env) (λ_ c=>SP X xC D .next c) acc C) r S u w A B K L I h ?_)) (λ_ c O=>ah<|ah O) λ_ _ e=>e)
 intro Da C m P f0 R T Y q;obtain⟨d,U,W,j,k,a0⟩:=id T;have b0:=R.pinned (fp:=[C]) (λb a=>by
  have e:b=C:=by simpa using a
  subst e;exact Y) (λb a=>by
  have e:b=C:=by simpa using a
  subst e;exact⟨d,j,λv z=>by rw[k]at z;cases z⟩)
 show Ak _ X.A (FY (.Name x Z) X.env<|.ref Da) _ _ _;refine Gg<|oj b0 n p (.inl f) (v:= .ref Da) rfl (λc0 l=>?_)<|.inr f;have d0:=l.pin (C,d)<|b_ _<|b_ _<|mF (by simp) j;refine⟨m,⟨d,U,W,d0.1,k,a0⟩,λg0 e0=>?_⟩;exact⟨_,P,l.unpinned.turned (t':=c0.toks) (λb o a e=>(e0.2 b a).trans e) Y.1 Y.2.1 Y.2.2.2.1 Y.2.2.2.2.1 Y.2.2.2.2.2,q⟩
variable{J:It}
theorem dg{D:Ac}{d:Hp->Prop}(n:Nat)(Pv:Nat->St->Hp->Prop)(j:Pv 0 σ H)(Y:∀i σ H,i < n->Pv i σ H->J.go i H)(Z:∀σ H,Pv n σ H->J.stop n H/\d H)
  (k:∀i σ H,i < n->Pv i σ H->∀x H',J.yld i H x H'->g x σ H' λa l=>tf a l λb f=>if b=true then te a f λv h=>∃c,h D=Aa (.lst c)/\c.length < sizeLine/\Pv (i+1) a (upd h D<|.lst<|c++ [v]) else Pv (i+1) a f):
  ∃W:Nat->Nat->St->Hp->Prop,(∃m,W 0 m σ H)/\FL J g tf te D d W:=by
 refine⟨λi m σ H=>m=n - i/\i<=n/\Pv i σ H,⟨n,by simp,ba _,j⟩,?_⟩;rintro i m σ H ⟨rfl,q,p⟩;by_cases O:i < n
 .exact .inr ⟨Y i σ H O p,Pv<|i+1,λr H' o=>⟨n - (i+1),by lia,zr,O,o⟩,k i σ H O p⟩
 .have e:i=n:=by lia
  subst e;exact .inl<|Z σ H p
variable{D:dJ}
theorem yd{d:TS}(n:Nat)(Pv:Nat->St->Hp->Prop)(h:Pv 0 σ H)(Y:∀i σ H,i < n->Pv i σ H->J.go i H)(Z:∀σ H,Pv n σ H->J.stop n H/\D.nx σ H)
  (j:∀i σ H,i < n->Pv i σ H->∀x H',J.yld i H x H'->g x σ H' λa b=>d {D with nx:=Pv<|i+1,ct:=Pv<|i+1,bk:=D.nx} a b):
  ∃W:Nat->Nat->St->Hp->Prop,(∃m,W 0 m σ H)/\∀i m σ H,W i m σ H->
   (J.stop i H/\D.nx σ H)\/ (J.go i H/\∃N:St->Hp->Prop,(∀c H',N c H'->∃f,f < m/\W (i+1) f c H')/\∀x H',J.yld i H x H'->g x σ H' λa b=>d {D with nx:=N,ct:=N,bk:=D.nx} a b):=by
 refine⟨λi m σ H=>m=n - i/\i<=n/\Pv i σ H,⟨n,by simp,ba _,h⟩,?_⟩;rintro i m σ H ⟨rfl,l,p⟩;by_cases O:i < n
 .exact .inr ⟨Y i σ H O p,Pv<|i+1,λc H' k=>⟨n - (i+1),by lia,zr,O,k⟩,j i σ H O p⟩
 .have e:i=n:=by lia
  subst e;exact .inl<|Z σ H p
def wj(z:Str):It:=⟨λi _=>i < z.cps.size,λi H x H'=>H'=H/\∃c,z.cps[i]? =Aa c/\x= .str ⟨#[c]⟩,λi _=>i=z.cps.size⟩
def Sj{M:Cv}{E:xB}{a:Ac}{x:Str}{t:Tok}{Q:Ge->Af->Prop}(b:Q () s):Ak M A (Cb tg (.ref a)<|.str x t) Q E s:=by
 unfold Cb;cases tg <;> exact ah b
def ZA(it:Ac)(z:Str)(t:Tok)(ty:BL)(J:ty="str_ascii_iterator"\/ ty="str_iterator"):
  iE P w K tg (wj z) [it] it (λi h=>h.IsStrIter it ty z t i) where
 mem:=by simp
 obj:=λi h st b a=>by
  have e:b=it:=by simpa using a
  subst e;obtain⟨o,e,c,d⟩:=st;exact⟨o,e,λv z=>by rw[d]at z;cases z⟩
 keep:=λi h f st k=>let ⟨o,B,r⟩:=st;⟨o,k it (by simp) o B,r⟩
 item:=by
  intro X g j l O i xC s σ H E I Y st m;subst g j l;obtain⟨Z,n,C,p,q,x⟩:=Y it (by simp);have W:GU X.prog X.w X.A it [it] [it] z.cps.size (SignAt z) (λi h=>h.IsStrIter it ty z t i):=by
   rcases J with rfl | rfl
   .exact HH (I.ok.hd O) it z t
   .exact Im (I.ok.hd O) it z t
  refine W.item i s _ _ m st λv f A D F y=>?_;obtain⟨c,u,G,rfl⟩:=D;have L:ae X xC σ H {s with heap:=f,toks:=A}:=I.turned (λb o a e=>y b o (by simpa using a) e) Z n p q x;exact⟨_,zr,Sj ⟨.str ⟨#[c]⟩,H,L,⟨u,zr⟩,⟨zr,c,G,zr⟩,F,λb a=>(Y b a).1⟩⟩
 done:=by
  intro X g j l O i xC s σ H E I Y st m;subst g j l;obtain⟨Z,n,C,p,q,x⟩:=Y it (by simp);have W:GU X.prog X.w X.A it [it] [it] z.cps.size (SignAt z) (λi h=>h.IsStrIter it ty z t i):=by
   rcases J with rfl | rfl
   .exact HH (I.ok.hd O) it z t
   .exact Im (I.ok.hd O) it z t
  have e:i=z.cps.size:=m;subst e;exact W.done s _ _ st λf A y=>⟨zr,I.turned (λb o a e=>y b o (by simpa using a) e) Z n p q x⟩
 self:=λ_ _ _ _ _ st h=>by
  rcases J with rfl | rfl
  .exact wpAny_pyIter_striter_ascii st h
  .exact wpAny_pyIter_striter_wide st h
inductive ym (R:It->Hp->Prop) (x:V) (a:Hp):Prop
 | mk:∀z,(x= .str z)->(R (wj z) a)->ym R x a
def QU(a:TE):TI:=λσ H R=>a σ H λx b=>ym R x b
variable{tl:TE}
def Zw{l:AK}(f:PE X l tl):PI X tg l (QU tl):=by
 intro xC s σ H R I h;refine am (f xC s σ H _ I h) λv a O=>?_;obtain⟨x,g,c,i,j⟩:=O;obtain⟨z,e,q⟩:=j;subst e;obtain⟨t,rfl⟩:=i;have fin:∀ty,(ty="str_ascii_iterator"\/ ty="str_iterator")->tE X xC σ tg R (.ref a.heap.objs.size) {a with heap:=a.heap.push {cls:= .type ty,data:= .fields #[.str z t,.int 0 0]}}:=λty J=>by
  refine⟨a.heap.objs.size,[a.heap.objs.size],_,_,g,zr,c.kept (t':=a.toks) λb o e=>aw _ e,ZA _ z t ty J,⟨_,bc _ rfl,zr,zr⟩,λb k=>?_,q⟩;have e:b=a.heap.objs.size:=by simpa using k
  subst e;exact c.fpOk (aj _)<|c.hok.fresh<|aj _
 cases d:z.cps.all (· < 128)
 .exact wpAny_pyIter_wide d<|fin _<|.inr rfl
 .exact wpAny_pyIter_ascii d<|fin _<|.inl rfl
def dN(z:Str)(lo a:Ag Int):Str:=⟨((z.cps.toList.drop<|JV z.length 0 lo).take<|JV z.length z.length a - JV z.length 0 lo).toArray⟩
theorem ZI(lo a:Ag Int)(n:Nat):s_ lo a 1 n=(Cj<|JV n n a - JV n 0 lo).map (JV n 0 lo+ ·):=by
 have h:s_ lo a 1 n=sliceRange ((JV n 0 lo:Nat):Int) ((JV n n a:Nat):Int) 1:=by
  unfold s_;simp only[show (1:Int) > 0 by decide,Bz]
  congr 1
  .cases lo with
   | none=>rfl
   | some i=>
    rw[<- Kx i n 0];show max 0 (min (if i < 0 then i+(n:Int) else i) (n:Int))=_;split <;> lia
  .cases a with
   | none=>rfl
   | some i=>
    rw[<- Kx i n n];show max 0 (min (if i < 0 then i+(n:Int) else i) (n:Int))=_;split <;> lia
 rw[h];unfold sliceRange;simp only[show (1:Int) > 0 by decide,Bz];have b:(if ((JV n 0 lo:Nat):Int) < ((JV n n a:Nat):Int) then (((JV n n a:Nat):Int) - ((JV n 0 lo:Nat):Int)+1 - 1) / 1 else 0).toNat=JV n n a - JV n 0 lo:=by
  split
  .rw[Int.ediv_one];lia
  .lia
 rw[b]
 apply fT
 intro k _
 lia
def Wl(a:Am Nat)(i k:Nat):(((Cj k).map (i+ ·)).filterMap (a[·]?))=(a.toList.drop i).take k:=by
 induction k with
 | zero=>simp
 | succ k b=>
  rw[List.range_succ,a_,List.filterMap_append,b,bx]
  congr 1
  simp only[au,bP,DW,bG];cases h:a[i+k]? <;> simp[h]
theorem Xy(z:Str)(lo a:Ag Int):(dN z lo a).length<=z.length:=by
 show ((z.cps.toList.drop _).take _).toArray.size<=z.length;rw[aP,bt,fB];have:z.cps.toList.length=z.length:=by simp[F1]
 lia
inductive za (x:V) (lo:Ag Int) (a:Ag Int) (H:Hp) (Q:VK):Prop
 | mk:∀z,(x= .str z)->(z.length<=sizeLine)->(Q (.str (dN z lo a)) H)->za x lo a H Q
theorem Ni:qa X za:=by
  intro xC s σ H x v c d lo hi r Q I f g j k h;obtain⟨z,rfl,O,q⟩:=h;obtain⟨t,rfl⟩:=f;refine⟨"str",_,F.slot_str_getitem.lookup,HA s z t,?_⟩;obtain⟨l,rfl,m⟩:∃l:Ag (Int×Tok),c=partValue l/\l.map (·.1)=lo:=by
    cases j with
    | none=>exact⟨none,rfl,rfl⟩
    | int i t=>exact⟨Aa (i,t),rfl,rfl⟩
  obtain⟨u,rfl,n⟩:∃u:Ag (Int×Tok),d=partValue u/\u.map (·.1)=hi:=by
    cases k with
    | none=>exact⟨none,rfl,rfl⟩
    | int i t=>exact⟨Aa (i,t),rfl,rfl⟩
  refine wpAny_getItem_str_slice (l:=l) (u:=u) (st:=none) g rfl ?_;have b:Ej z l u none=(Cj<|JV z.length z.length hi - JV z.length 0 lo).map (JV z.length 0 lo+ ·):=by
    unfold Ej;rw[m,n];exact ZI lo hi z.length
  have o:(Ej z l u none).filterMap (z.cps[·]?)=(z.cps.toList.drop<|JV z.length 0 lo).take (JV z.length z.length hi - JV z.length 0 lo):=by
    rw[b,Wl]
  unfold sliceMade;split
  · rename_i p
    have J:(Ej z l u none).length=z.length:=by simpa using p
    have e:dN z lo hi=z:=by
      have w:z.cps.toList.length=z.length:=by simp[F1]
      rw[b,ai,jW]at J;have y:=HT.Wg z.length z.length (aj _) hi;have a:JV z.length 0 lo=0\/ z.length=0:=by lia
      unfold dN;rcases a with a | a
      · rw[J,a,B0,jm<|by lia]
      · have Y:z.cps.toList=[]:=List.eq_nil_of_length_eq_zero (by lia)
        rw[Y,List.drop_nil,List.take_nil];cases z with
        | mk A=>
          congr 1
          exact(Array.toList_inj.mp Y).symm
    rw[e]at q;exact⟨.str z,H,I,⟨t,zr⟩,q⟩
  · have e:(⟨((Ej z l u none).filterMap (z.cps[·]?)).toArray⟩:Str)=dN z lo hi:=by
      unfold dN;rw[o]
    rw[e];exact⟨az (Xy z lo hi) O,.str<|dN z lo hi,H,I.tok _,⟨_,zr⟩,q⟩
def Sg(c:Ab AJ):(Cj c.length).all (λi=>(c[i]?).getD true)=c.all id:=by
 rw[hN,eh,eh]
 constructor
 .intro h b hb;obtain⟨i,a,e⟩:=iy.mp hb;have:=h i<|kP.mpr a;rw[aH a,e]at this;exact this
 .intro h i a;have J:=kP.mp a;rw[aH J];exact h _<|iK J
def HL{a:Ab AJ}{d:xH}(r:ap (a.map Ke) d){i:Nat}{v:Ad}(h:d[i]? =Aa v):∃b,a[i]? =Aa b/\v= .bool b:=by
 have f:=r.length;obtain⟨c,_⟩:=bR.mp h;rw[<- f,ai]at c;have e:(a.map Ke)[i]? =Aa (Ke a[i]):=by rw[bF,aH c];rfl
 obtain⟨u,J,g⟩:=r.get e;rw[h]at J;cases J
 exact⟨a[i],aH c,g⟩
inductive LQ (K:xA) (a:Ab V) (H:Hp) (Q:VK):Prop
 | mk:∀(p:Ac) (b:Ab AJ),(a=[.ref p])->(aK K H p (b.map Ke))->(Q (.bl (b.all id)) H)->LQ K a H Q
def lf(g:X.calm=true)(K:xA)(j:X.K=K:=by rfl):cu X (.builtin "all") (LQ K):=by
 subst j;intro xC s σ H y z Q I r h;obtain⟨p,a,rfl,k,q⟩:=h;obtain⟨u,rfl,l⟩:=dz r;cases l
 obtain⟨c,f,d,A⟩:=I.list k;have m:c.toArray.size=a.length:=by
  have:=f.length;rw[ai]at this;rw[aP];exact this.symm
 have t:X.A.in1.handled=none:=I.ok.hd g;have O:p≠s.heap.objs.size:=λe=>by
  obtain⟨o,n,w,_⟩:=d;exact Au (aC w) (by rw[e];exact ii _)
 refine call_all_walk<|gK d.isList ?_;refine⟨s.heap.objs.size,_,_,_,_,_,λi=>(a[i]?).getD true,zr,F7 t _ p O c.toArray,⟨⟨_,bc _ rfl,zr,zr⟩,d.isList.at λo e=>aw _ e⟩,?_,λB C x=>?_⟩
 .intro i v s' Q' E' hv hq;have Y:c[i]? =Aa v:=by simpa using hv
  obtain⟨b,e,rfl⟩:=HL f Y;have J:Q' ((a[i]?).getD true) s':=hq;rw[e]at J;exact gj J
 .rw[m,Sg];exact⟨.bl _,H,I.kept λb o e=>x b o (by simp;exact aJ<|aC e)<|aw _ e,rfl,q⟩
def pk:Ab BL:=["NoneType","bool","int","str","list","tuple","dict"]
def vb:Ab BL:=["bool","int","str","list","tuple","dict"]
def fK(T n:BL):AJ:=T==n || (T=="bool"&&n=="int")
def Ti:∀T∈pk,∀n∈vb,PySem.W.kitMeta n=true/\(PySem.fastBuiltinMro T).map (·.contains (AN n))=Aa (fK T n):=by decide+kernel
def RN{T n:BL}(a:T∈pk)(b:n∈vb):PySem.W.kitOne K (.type T) (.type n)=Aa (fK T n):=by
 obtain⟨c,d⟩:=Ti T a n b;unfold PySem.W.kitOne;split
 .rename_i e;have f:=ID e;injection f with J;subst J;simp[fK]
 .unfold PySem.W.kitCls;show (if PySem.W.kitMeta n=true then PySem.W.subIn K (.type T) (.type n) else none)=_;rw[Ah c];exact d
def Rh{x:Str}{i:Int}(a:Gl X x)(b:∃t,X.mg x=Aa (.int i t))(c:(x==("__debug__":Str))=false:=by decide):PE X (.Name x pos) (tC<|.int i):=by
 obtain⟨t,e⟩:=b;exact rJ a e ⟨t,zr⟩ c
def qI{x z:Str}(a:Gl X x)(b:∃t,X.mg x=Aa (.str z t))(c:(x==("__debug__":Str))=false:=by decide):PE X (.Name x pos) (tC<|.str z):=by
 obtain⟨t,e⟩:=b;exact rJ a e ⟨t,zr⟩ c
def fY{x:Str}{n:BL}(a:Gl X x)(b:X.mg x=none)(c:AU x=Aa (.type n))(d:x≠"__name__":=by decide)(e:(x==("__debug__":Str))=false:=by decide):PE X (.Name x pos) (tC<|.ty n):=
 OY a b c rfl d e
structure aZ (K:xA) (mg:xE) (x:Str) (st:AV) (ps:xD):Prop where
 ex:∃f fd,md K x x st f fd/\mg x=Aa (.ref f)/\∀us:Ab Ad,us.length=ps.length->EC fd ⟨us,[]⟩=AX (ps.zip us)
def XT{h:AH}{x:Str}{i O:Ag Ac}{Z:Am (Ag Ad)}{kV J Y d e:Ad}(X:K.In h)(G:h.Ns Ar mg)
  (b:∀(kV J Y:Ad) (O:Ag Ac) (d e:Ad) (g:xH),g.length=ps.length->EC (PySem.W.fnOf x x (dr st) (bU st) (qf st) .none kV J Y O d e) ⟨g,[]⟩=AX (ps.zip g))
  (a:PySem.W.nsIn K Ar x=Aa (Aa<|.ref f))
  (l:K.lookup f=Aa ⟨oc,i,.func<|PySem.W.fnOf x x (dr st) (bU st) (qf st) .none kV J Y O d e,Z⟩) (c:PySem.W.codeIn K d x=true) (k:PySem.W.keepIn K (.ref f)=true):aZ K mg x st ps:=by
 have F:=MB (st:=st) l c k;exact⟨f,_,F,fu X G a,b kV J Y O d e⟩
structure bv (P:Ai) (w:Al) (K:xA) (mg:xE) (base:AH) (k:Nat) (x:Str) (ps:xD) (sp:Sp):Prop where
 ex:∃f fd,bZ P w K mg base CX0 k f fd ps sp/\mg x=Aa (.ref f)/\PySem.W.keepIn K (.ref f)=true/\df K fd ps []
theorem aZ.ok{P:Ai}{w:Al}{K:xA}{c:xE}{d:AH}{x:Str}{st:AV}{N b:xD}{k:Nat}{sp:Sp}(T:aZ K c x st b)(S:aB N b (qf st))(g:∀a H Q E,sp a H Q E->a.length=b.length)
  (J:∀(f:Ac) (e:Ad) (A:As) (h:Ab Env) (s:Af) (H:Hp) (a:Ab V) (Q:VK) (E:XK),aR k (A.deeper<|CK x (qf st) s.heap.objs.size f e)->sp a H Q E->
   ∃t,bf (eF CX0 P w K c d N x (qf st) f e A h s H E).nox (bU st) t/\t {nx:=λ_ H'=>Q .non H',rt:=Q} (start N a) H):bv P w K c d (k+1) x b sp:=by
 obtain⟨f,fd,F,i,j⟩:=T.ex;exact⟨f,fd,F.ok S g<|J f,i,F.kp,df.all j⟩
def aZ.fin{O:Ac}{x:Str}(T:aZ K mg "law" st [x])(Y:mg "law"=Aa (.ref O))(S:aB N [x] (qf st))
  (c:∀a H Q E,sp a H Q E->a.length=[x].length)
  (J:∀(base:AH) (f:Ac) (b:Ad) (A:As) (d:Ab Env) (s:Af) (H:Hp) (a:Ab V) (Q:VK) (E:XK),aR k (A.deeper<|CK "law" (qf st) s.heap.objs.size f b)->sp a H Q E->
   ∃t,bf (eF CX0 l.prog w K mg base N "law" (qf st) f b A d s H E).nox (bU st) t/\t {nx:=λ_ H'=>Q .non H',rt:=Q} (start N a) H):
  ∃fd:BD,(∀(s:Af) (v:Ad),Dq s fd ⟨[v],[]⟩ [(x,v)])/\∀base:AH,K.In base->base.Ns Ar mg->bZ l.prog w K mg base CX0 (k+1) O fd [x] sp:=by
 obtain⟨f,fd,F,g,h⟩:=T.ex;have e:=Y.symm.trans g;injection e with e;injection e with e;subst e;exact⟨fd,λs v=> .of_eq<|h [v] rfl,λbase _ _=>F.ok S c<|J base O⟩
section
variable{X:Cx}{k k':Nat}{x:Str}{ps:xD}{sp:Sp}{p pos:Pos}{e:AK}{es:Ab AK}{t:TA}
def qr(D:bv X.prog X.w X.K X.mg X.base k x ps sp)(a:aR k' X.A)(b:Gl X x)(c:PA X (e::es) t)(O:k<=k':=by decide)
  (J:(x==("__debug__":Str))=false:=by decide) (d:AA (e::es) X.env=(false,Bp e X.env)::AA es X.env:=by rfl) (Y:(Bs pos<|AA es X.env).any (·.1)=false:=by rfl):
  PE X (.Call (.Name x p) (e::es) [] pos) (sQ sp [] E0 t):=by
 obtain⟨f,fd,F,g,h,i⟩:=D.ex;exact Lf F (a.mono O) b g h i .nil iV c J d Y
end
def mj(K:xA)(a:X.K=K:=by rfl):cu X (.builtin "len") (uR K):=by subst a;exact UJ
def cJ(K:xA)(a:X.K=K:=by rfl):kn X (sx K):=by subst a;exact Ye
def ec(K:xA)(a:X.K=K:=by rfl):kn X (uK K):=by subst a;exact Qs
def gr(K:xA)(a:X.K=K:=by rfl):qa X (vK K):=by subst a;exact XJ
variable{l:AK}
def cB(K:xA)(a:PE X l tl)(b:X.K=K:=by rfl):PI X tg l (KQ K tl):=by subst b;exact Uh a
def iG(K:xA)(a:PE X l tl)(b:X.K=K:=by rfl):PI X tg l (NF K tl):=by subst b;exact QE a
def Tb(K:xA)(a:X.K=K:=by rfl):bH X (Bg .In) (vv K false):=by subst a;exact Tl
def nA(K:xA)(a:X.K=K:=by rfl):cu X (.type "list") (qV K):=by subst a;exact Ph
def lM(K:xA)(a:X.K=K:=by rfl):cu X (.type "tuple") (rA K):=by subst a;exact Qg
variable{α:Type}
theorem iQ{xs:Ab α}{i:Int}(a:0<=i)(b:i < xs.length):∃v,bV xs i=Aa v/\v∈xs:=by
 have J:i.toNat < xs.length:=by lia
 refine⟨xs[i.toNat],?_,iK J⟩;unfold bV iH;rw[Ah a,Ah b];show xs[i.toNat]? =_;exact aH J
def SK{a:Ab α}{i:Int}(b:0<=i)(c:i < a.length):bV a i=a[i.toNat]? :=by
 unfold bV iH;rw[Ah b,Ah c];rfl
variable{o:HO}
def qc{a:Ac}(h:H a=none):ag H (upd H a o):=λb u e=>by
 rw[qe<|qj e h];exact e
def ag.set{a:Ac}(h:ag H H')(n:H a=none):ag H (upd H' a o):=λb u e=>by
 rw[qe<|qj e n];exact h b u e
def ag.seqT{a:Ac}{xs:Ab V}(e:ag H H')(h:aU K H a xs):aU K H' a xs:=by
 rcases h with (h | ⟨o,h⟩) | h
 .exact .inl<|.inl<|e _ _ h
 .exact .inl<|.inr ⟨o,e _ _ h⟩
 .exact .inr h
def qt:AK->AJ
 | .Starred _ _=>false
 | _=>true
variable{e:AK}{es:Ab AK}
def OW(h:qt e=true):AA (e::es) env=(false,Bp e env)::AA es env:=by
 cases e <;> first
  | rfl
  | cases h
def qx{t:TA}(a:PE X e te)(b:PA X es t)(c:qt e=true:=by rfl):PA X (e::es) (bi te t):=TJ a b<|OW c
def jL:AU "len"=Aa (.builtin "len"):=by decide+kernel
def fS:AU "isinstance"=Aa (.builtin "isinstance"):=by decide+kernel
def kN:AU "all"=Aa (.builtin "all"):=by decide+kernel
def VO:AU "any"=Aa (.builtin "any"):=by decide+kernel
def eH:AU "sorted"=Aa (.builtin "sorted"):=by decide+kernel
def Ur:AU "min"=Aa (.builtin "min"):=by decide+kernel
def MD:AU "str"=Aa (.type "str"):=by decide+kernel
def qR:AU "int"=Aa (.type "int"):=by decide+kernel
def Vs:AU "bool"=Aa (.type "bool"):=by decide+kernel
def gE:AU "list"=Aa (.type "list"):=by decide+kernel
def ke:AU "tuple"=Aa (.type "tuple"):=by decide+kernel
def PB:AU "dict"=Aa (.type "dict"):=by decide+kernel
def Nu{l:Ab α}{i:Nat}{d:α}(h:i < l.length):l.getD i d=l[i]:=by
 rw[lJ,aH h];rfl
def Sa{l:Ab α}{i:Nat}{d:α}(h:l.length<=i):l.getD i d=d:=by
 rw[lJ,List.getElem?_eq_none_iff.mpr h];rfl
variable{J:AK}
def ak{Y:TE}(a:PE X J Y)(O:qt J=true:=by rfl):PA X [J] (bi Y eE):=qx a ck O
variable{e1:AK}{t1:TE}
def aD{Z:TE}(a:PE X J Z)(b:PE X e1 t1)(O:qt J=true:=by rfl)(Y:qt e1=true:=by rfl):PA X [J,e1] (bi Z<|bi t1 eE):=qx a (qx b ck Y) O
variable{e2:AK}{t0 t2:TE}
def cZ(a:PE X J t0)(b:PE X e1 t1)(c:PE X e2 t2)(O:qt J=true:=by rfl)(Y:qt e1=true:=by rfl)(Z:qt e2=true:=by rfl):PA X [J,e1,e2] (bi t0<|bi t1<|bi t2 eE):=qx a (qx b (qx c ck Z) Y) O
variable{e3:AK}{t3:TE}
def vH(a:PE X J t0)(b:PE X e1 t1)(c:PE X e2 t2)(d:PE X e3 t3)(O:qt J=true:=by rfl)(Y:qt e1=true:=by rfl)(Z:qt e2=true:=by rfl)(e:qt e3=true:=by rfl):PA X [J,e1,e2,e3] (bi t0<|bi t1<|bi t2<|bi t3 eE):=qx a (qx b (qx c (qx d ck e) Z) Y) O
variable{O:AK}{t4:TE}
def NM(a:PE X J t0)(b:PE X e1 t1)(c:PE X e2 t2)(d:PE X e3 t3)(e:PE X O t4)(Y:qt J=true:=by rfl)(Z:qt e1=true:=by rfl)(f:qt e2=true:=by rfl)(g:qt e3=true:=by rfl)(h:qt O=true:=by rfl):PA X [J,e1,e2,e3,O] (bi t0<|bi t1<|bi t2<|bi t3<|bi t4 eE):=qx a (qx b (qx c (qx d (qx e ck h) g) f) Z) Y
variable{t5:TE}
def Rb{Y:AK}(a:PE X J t0)(b:PE X e1 t1)(c:PE X e2 t2)(d:PE X e3 t3)(e:PE X O t4)(f:PE X Y t5)(Z:qt J=true:=by rfl)(g:qt e1=true:=by rfl)(h:qt e2=true:=by rfl)(i:qt e3=true:=by rfl)(j:qt O=true:=by rfl)(k:qt Y=true:=by rfl):PA X [J,e1,e2,e3,O,Y] (bi t0<|bi t1<|bi t2<|bi t3<|bi t4<|bi t5 eE):=qx a (qx b (qx c (qx d (qx e (qx f ck k) j) i) h) g) Z
def tt{Y Z:AK}{a:TE}(b:PE X J t0)(c:PE X e1 t1)(d:PE X e2 t2)(e:PE X e3 t3)(f:PE X O t4)(g:PE X Y t5)(h:PE X Z a)(i:qt J=true:=by rfl)(j:qt e1=true:=by rfl)(k:qt e2=true:=by rfl)(l:qt e3=true:=by rfl)(m:qt O=true:=by rfl)(n:qt Y=true:=by rfl)(o:qt Z=true:=by rfl):PA X [J,e1,e2,e3,O,Y,Z] (bi t0<|bi t1<|bi t2<|bi t3<|bi t4<|bi t5<|bi a eE):=qx b (qx c (qx d (qx e (qx f (qx g (qx h ck o) n) m) l) k) j) i
def UM{Y Z a b:AK}{c d e:TE}(f:PE X J t0)(g:PE X e1 t1)(h:PE X e2 t2)(i:PE X e3 t3)(j:PE X O t4)(k:PE X Y t5)(l:PE X Z c)(m:PE X a d)(n:PE X b e)(o:qt J=true:=by rfl)(p:qt e1=true:=by rfl)(q:qt e2=true:=by rfl)(r:qt e3=true:=by rfl)(s:qt O=true:=by rfl)(t:qt Y=true:=by rfl)(u:qt Z=true:=by rfl)(v:qt a=true:=by rfl)(w:qt b=true:=by rfl):PA X [J,e1,e2,e3,O,Y,Z,a,b] (bi t0<|bi t1<|bi t2<|bi t3<|bi t4<|bi t5<|bi c<|bi d<|bi e eE):=qx f (qx g (qx h (qx i (qx j (qx k (qx l (qx m (qx n ck w) v) u) t) s) r) q) p) o
variable{J s1:AV}{t1:TS}
def eg{O:TS}(a:PS X J O)(b:PS X s1 t1):bf X [J,s1] (bM O t1):=qw a<|qg b
variable{O:AV}{t2:TS}
def em{Y:TS}(a:PS X J Y)(b:PS X s1 t1)(c:PS X O t2):bf X [J,s1,O] (bM Y<|bM t1 t2):=qw a<|qw b<|qg c
variable{t3:TS}{s3:AV}
def jD{Y:TS}(a:PS X J Y)(b:PS X s1 t1)(c:PS X O t2)(d:PS X s3 t3):bf X [J,s1,O,s3] (bM Y<|bM t1<|bM t2 t3):=qw a<|qw b<|qw c<|qg d
variable{t4:TS}
def qH{Y:AV}{Z:TS}(a:PS X J Z)(b:PS X s1 t1)(c:PS X O t2)(d:PS X s3 t3)(e:PS X Y t4):bf X [J,s1,O,s3,Y] (bM Z<|bM t1<|bM t2<|bM t3 t4):=qw a<|qw b<|qw c<|qw d<|qg e
def xW{Y Z:AV}{a b:TS}(c:PS X J a)(d:PS X s1 t1)(e:PS X O t2)(f:PS X s3 t3)(g:PS X Y t4)(h:PS X Z b):bf X [J,s1,O,s3,Y,Z] (bM a<|bM t1<|bM t2<|bM t3<|bM t4 b):=qw c<|qw d<|qw e<|qw f<|qw g<|qg h
variable{Y:Ab AV}
def xz{Z u:TS}(a:PS X J Z)(b:PS X s1 t1)(c:PS X O t2)(d:bf X Y u):bf X (J::s1::O::Y) (bM Z<|bM t1<|bM t2 u):=qw a<|qw b<|qw c d
def Um{Z u:TS}(a:PS X J Z)(b:PS X s1 t1)(c:PS X O t2)(d:PS X s3 t3)(e:bf X Y u):bf X (J::s1::O::s3::Y) (bM Z<|bM t1<|bM t2<|bM t3 u):=qw a<|qw b<|qw c<|qw d e
def SS{Y Z:AV}{a:Ab AV}{b c u:TS}(d:PS X J b)(e:PS X s1 t1)(f:PS X O t2)(g:PS X s3 t3)(h:PS X Y t4)(i:PS X Z c)(j:bf X a u):bf X (J::s1::O::s3::Y::Z::a) (bM b<|bM t1<|bM t2<|bM t3<|bM t4<|bM c u):=qw d<|qw e<|qw f<|qw g<|qw h<|qw i j
variable{body:Ab AV}
def uk(n:Nat)(C:St->Hp->Prop)(a:∃u,bf X (body.drop n) u/\∀σ H,C σ H->u D σ H)
  (first:∀u,bf X (body.drop n) u->(∀σ H,C σ H->u D σ H)->∃t,bf X body t/\t D σ H):∃t,bf X body t/\t D σ H:=
 let ⟨u,b,c⟩:=a
 first u b c
def WG{J:St->Hp->Prop}(n:Nat)(C:St->Hp->Prop)(a:∃u,bf X (body.drop n) u/\∀σ H,C σ H->u D σ H)
  (first:∀u,bf X (body.drop n) u->(∀σ H,C σ H->u D σ H)->∃t,bf X body t/\∀σ H,J σ H->t D σ H):∃t,bf X body t/\∀σ H,J σ H->t D σ H:=
 let ⟨u,b,c⟩:=a
 first u b c
mutual
inductive ay (K:xA) (H:Hp):AQ->V->Prop
 | non:ay K H .none .non
 | bl (b:AJ):ay K H (.bool b) (.bl b)
 | int (i:Int):ay K H (.int i) (.int i)
 | str (x:Str) (h:AW x=true):ay K H (.str x) (.str x)
 | lst {a:Ac} {c:Ab V} {d:Ab AQ}:aK K H a c->aW K H d c->ay K H (.list d) (.ref a)
 | tup {a:Ac} {c:Ab V} {d:Ab AQ}:aU K H a c->aW K H d c->ay K H (.tuple d) (.ref a)
inductive aW (K:xA) (H:Hp):Ab AQ->Ab V->Prop
 | nil:aW K H [] []
 | cons {d:AQ} {x:V} {a:Ab AQ} {b:Ab V}:ay K H d x->aW K H a b->aW K H (d::a) (x::b)
end
section
variable{K:xA}{H H':Hp}
mutual
theorem ay.same(s:ag H H'):∀(d:AQ) (x:V),ay K H d x->ay K H' d x
 | _,_,.non=> .non
 | _,_,.bl b=> .bl b
 | _,_,.int i=> .int i
 | _,_,.str x h=> .str x h
 | _,_,.lst h r=> .lst (s.seq h)<|aW.same s _ _ r
 | _,_,.tup h r=> .tup (s.seqT h)<|aW.same s _ _ r
theorem aW.same(s:ag H H'):∀(c:Ab AQ) (d:Ab V),aW K H c d->aW K H' c d
 | _,_,.nil=> .nil
 | _,_,.cons a b=> .cons (ay.same s _ _ a)<|aW.same s _ _ b
end
mutual
theorem ay.lay:∀(d:AQ) (x:V),ay K H d x->d.canLay0=true
 | _,_,.non=>rfl
 | _,_,.bl _=>rfl
 | _,_,.int _=>rfl
 | _,_,.str _ h=>h
 | _,_,.lst _ r=>aW.lay _ _ r
 | _,_,.tup _ r=>aW.lay _ _ r
theorem aW.lay:∀(c:Ab AQ) (d:Ab V),aW K H c d->AB c=true
 | _,_,.nil=>rfl
 | _,_,.cons a b=>by rw[AB,ay.lay _ _ a,aW.lay _ _ b];rfl
end
end
section
variable{X:Cx}{xC:xG}{σ:St}{H:Hp}{s:Af}
mutual
theorem ay.reads(I:ae X xC σ H s):∀(d:AQ) (x:V) (u:Ad),ay X.K H d x->av x u->∃a,HI s.heap u d a
 | _,_,_,.non,r=>by cases r;exact⟨_,.none⟩
 | _,_,_,.bl b,r=>by cases r;exact⟨_,.bool b⟩
 | _,_,_,.int i,r=>by obtain⟨t,rfl⟩:=r;exact⟨_,.int i t⟩
 | _,_,_,.str x _,r=>by obtain⟨t,rfl⟩:=r;exact⟨_,.str x t⟩
 | _,_,_,.lst h q,r=>by
  cases r
  obtain⟨g,f,⟨o,n,e,c,_,d⟩,_⟩:=I.list h;obtain⟨a,J⟩:=aW.reads I _ _ _ q f;exact⟨_,.list e c d<|by simpa using J⟩
 | _,_,_,.tup h q,r=>by
  cases r
  obtain⟨g,f,⟨o,e,c,n,d⟩,_⟩:=I.tuple h;obtain⟨a,J⟩:=aW.reads I _ _ _ q f;exact⟨_,.tuple e c d<|by simpa using J⟩
theorem aW.reads(I:ae X xC σ H s):∀(c:Ab AQ) (d:Ab V) (e:xH),aW X.K H c d->ap d e->∃f,Fu s.heap e c f
 | _,_,_,.nil,r=>by cases r;exact⟨_,.nil⟩
 | _,_,_,.cons a b,r=>by
  cases r with
  | cons g h=>
   obtain⟨f,i⟩:=ay.reads I _ _ _ a g;obtain⟨k,j⟩:=aW.reads I _ _ _ b h;exact⟨_,.cons i j⟩
end
end
theorem NN{u d e:Nat}(a:u+64 < cLine)(b:d<=60):u+min d e < cLine:=by
 have:min d e<=d:=Nat.min_le_left _ _
 lia
inductive xy (K:xA) (x:V) (y:V) (H:Hp) (Q:VK):Prop
 | mk:∀d e,(ay K H d x)->(ay K H e y)->(d.depth<=60)->(Q (.bl (AC d e)) H)->xy K x y H Q
def pU(b:X.A.units+64 < cLine)(K:xA)(c:X.K=K:=by rfl):bH X (Bg .Eq) (xy K):=by
 subst c;intro xC s σ H x y v u Q I f g h;obtain⟨d,e,a,J,i,q⟩:=h;obtain⟨l,j⟩:=ay.reads I _ _ _ a f;obtain⟨m,k⟩:=ay.reads I _ _ _ J g;exact SeqAt.rcAt_reads j k (ay.lay _ _ a) (ay.lay _ _ J) (NN b i) X.prog X.w X.xe _<|dA I q rfl
def kL(A:As)(s:Af)(u v:Ad)(r:AJ):Prop:=
 ∀(a:Ai) (w:Al) (E:xB) (Q:xB),Q (.bool r) s->Ak (Ao a w) A (richCompare .Lt u v) Q E s
inductive eP (A:As) (s:Af):Ab Ad->Ab Ad->AJ->Prop
 | nn:eP A s [] [] false
 | nc {v:Ad} {a:xH}:eP A s [] (v::a) true
 | cn {u:Ad} {b:xH}:eP A s (u::b) [] false
 | eq {u v:Ad} {b a:xH} {r:AJ}:EX A s u v true->eP A s b a r->eP A s (u::b) (v::a) r
 | lt {u v:Ad} {b a:xH} {r:AJ}:EX A s u v false->kL A s u v r->eP A s (u::b) (v::a) r
section
open PySem.SeqAt
open PySem.AutoSeq1 (wpAny_loadPart')
open PySem.MeetsSeq PySem.MeetsSeq2 PySem.MeetsSeq3
theorem yb(l b:Ac)(O J:Am Ad)(n B:Nat)(C D:Ag Ac)(E F:Am (Ag Ad))(r:AJ):
  JK (Bl.«tuple.__lt__» ⟨[.ref l,.ref b],[]⟩)
   (λA R s=>s.heap.get? l=Aa {cls:= .type "tuple",dict:=C,data:= .seq O n,slots:=E}/\s.heap.get? b=Aa {cls:= .type "tuple",dict:=D,data:= .seq J B,slots:=F}/\
    eP A.in1 s O.toList J.toList r/\R (.ok<|.ret<|.bool r) s):=
 .of_wp λi w A R s h=>by
  obtain⟨u,g,d,v,os⟩:=s;obtain⟨G,H,c,h⟩:=h;have L:=AutoSeq1.sub_tuple_tuple
  wp_walk using AY G,AY H,EH _ (λz b j=>b.1=none/\j=⟨u,g,d,v,os⟩/\∃(e f:xH),z=e.zip f/\
   eP A.in1 ⟨u,g,d,v,os⟩ e f r/\e.length+J.size=f.length+O.size) _
  case turn=>
   rintro ⟨y,x⟩ z b j ⟨k,rfl,e,f,a,m,Y⟩;cases m with
   | nn=>rw[BV]at a;cases a
   | nc=>rw[BV]at a;cases a
   | cn=>rw[D1]at a;cases a
   | eq o p=>
    rw[iX]at a;injection a with q Z;injection q with t c;subst t c;simp only[bz]at Y;refine ac (o i w _ _ ?_)
    wp_walk
    exact⟨zr,zr,_,_,Z,p,by lia⟩
   | lt o p=>
    rw[iX]at a;injection a with q Z;injection q with t c;subst t c;refine ac<|o i w _ _ ?_;have I:=p i w
    wp_walk using I
    exact⟨_,zr,by simpa using h⟩
  case fin=>
   rintro ⟨M,N⟩ j ⟨k,rfl,e,f,a,m,Y⟩;simp only at k;subst k;have K:r=decide (O.size < J.size):=by
    cases m with
    | nn=>
     simp only[ku]at Y;exact(aN<|by lia).symm
    | nc=>
     simp only[ku,bz]at Y;exact(aS<|by lia).symm
    | cn=>
     simp only[ku,bz]at Y;exact(aN<|by lia).symm
    | eq _ _=>rw[iX]at a;cases a
    | lt _ _=>rw[iX]at a;cases a
   rw[K]at h
   wp_walk
   exact⟨_,zr,by simpa [Builtin.Tuple.tupleCompareSizes] using h⟩
  case h=>
   exact⟨rfl,rfl,O.toList,J.toList,rfl,c,by simp;lia⟩
theorem ON(l b:Ac)(O J:Am Ad)(n v:Nat)(x y:Ag Ac)(z B:Am (Ag Ad))(r:AJ)(k:Nat):
  ∀i:Nat,O.size - i=k->i<=O.size->i<=J.size->JK (Bl.«list.__eq__.loop» ⟨[.ref l,.ref b,BK i,BK 0],[]⟩)
   (λA R s=>s.heap.get? l=Aa {cls:= .type "list",dict:=x,data:= .seq O n,slots:=z}/\s.heap.get? b=Aa {cls:= .type "list",dict:=y,data:= .seq J v,slots:=B}/\
    eP A.in1 s (O.toList.drop i) (J.toList.drop i) r/\R (.ok<|.ret<|.bool r) s):=by
 induction k with
 | zero=>
  intro i C D E f w A R s h;obtain⟨F,g,d,G,os⟩:=s;obtain⟨c,e,a,h⟩:=h
  wp_walk using AY c,AY e
  have Y:O[((i:Nat):Int).toNat]? =none:=by simp;lia
  have j:O.toList.drop i=[]:=by simp;lia
  rw[j]at a;have m:r=decide (O.size < J.size):=by
   generalize e2:J.toList.drop i=H at a;have u:J.size - i=H.length:=by rw[<- e2];simp
   cases a with
   | nn=>exact(aN (by simp at u;lia)).symm
   | nc=>exact(aS (by simp at u;lia)).symm
  rw[Y]
  wp_walk using AY c,AY e
  show R (.ok<|.ret<|.bool (decide (O.size < J.size))) _;rw[<- m];exact h
 | succ k I=>
  intro i C D E f w A R s h;obtain⟨F,g,d,G,os⟩:=s;obtain⟨c,e,a,h⟩:=h
  wp_walk using AY c,AY e
  have o:i < O.size:=by lia
  have Y:O[((i:Nat):Int).toNat]? =Aa O[i]:=by simp[o]
  have K:((i:Int)+1)=((i+1:Nat):Int):=by push_cast;rfl
  have j:O.toList.drop i=O[i]::O.toList.drop (i+1):=by simp[jh,o]
  rw[j]at a;by_cases Z:i < J.size
  .have a1:J[((i:Nat):Int).toNat]? =Aa J[i]:=by simp[Z]
   have p:J.toList.drop i=J[i]::J.toList.drop (i+1):=by simp[jh,Z]
   rw[p]at a;rw[Y,a1];cases a with
   | eq q t=>
    refine ac (q f w _ _ ?_)
    wp_walk
    rw[K];exact⟨BC plain_eq_loop _,ek entry_eq_loop (by
     rw[Bb plain_eq_loop _];exact I (i+1) (by lia) o Z f w A R _ ⟨c,e,t,h⟩)⟩
   | lt q t=>
    refine ac (q f w _ _ ?_)
    wp_walk using AY c,AY e
    rw[Y,a1];have L:=t f w
    wp_walk using L
    exact h
  .have a1:J[((i:Nat):Int).toNat]? =none:=by simp;lia
   have p:J.toList.drop i=[]:=by simp;lia
   rw[p]at a;have m:r=decide (O.size < J.size):=by
    cases a
    exact(aN<|by lia).symm
   rw[Y,a1]
   wp_walk using AY c,AY e
   show R (.ok<|.ret<|.bool (decide (O.size < J.size))) _;rw[<- m];exact h
def YN(l b:Ac)(O J:Am Ad)(n a:Nat)(c Y:Ag Ac)(e Z:Am (Ag Ad))(r:AJ):
  JK (Bl.«list.__lt__» ⟨[.ref l,.ref b],[]⟩)
   (λA R s=>s.heap.get? l=Aa {cls:= .type "list",dict:=c,data:= .seq O n,slots:=e}/\s.heap.get? b=Aa {cls:= .type "list",dict:=Y,data:= .seq J a,slots:=Z}/\
    eP A.in1 s O.toList J.toList r/\R (.ok<|.ret<|.bool r) s):=by
 intro j w A R s h;obtain⟨m,g,d,o,os⟩:=s;obtain⟨f,i,k,h⟩:=h;have p:=AutoSeq1.sub_list_list
 wp_walk using AY f,AY i
 exact⟨BC plain_eq_loop _,ek entry_eq_loop (by
  rw[Bb plain_eq_loop _];exact ON l b O J n a c Y e Z r _ 0 rfl (ba _) (ba _) j w A R _ ⟨f,i,k,h⟩)⟩
end
variable{r:AJ}
def wP{l b:Ac}{O J:Am Ad}(f:Hs s.heap l O)(g:Hs s.heap b J)(i:eP A.in1 s O.toList J.toList r)(j:A.units < cLine):kL A s (.ref l) (.ref b) r:=by
 intro t w E Q h;obtain⟨⟨u,k,v,m⟩,a,c,n,d⟩:=id f;obtain⟨⟨y,o,z,p⟩,e,Y,q,Z⟩:=id g;simp only at c d Y Z;subst c d Y Z;exact E3 (op:= .Lt) ⟨_,a,zr⟩ ⟨_,e,zr⟩ PySem.F.slot_tuple_lt PySem.F.entry_tuple_lt (PySem.F.args_tuple_lt_2 _ _) (yb l b O J n q k o m p r)
  ⟨a,e,i,show ES r≠Fv/\Q (.bool r) s from⟨(λx=>nomatch x),h⟩⟩ j
def Zr{l b:Ac}{o a:Obj}{O J:Am Ad}{c:Nat}(d:s.heap.get? l=Aa o)(e:o.cls= .type "list")(f:o.data= .seq O n)(g:s.heap.get? b=Aa a)(Y:a.cls= .type "list")(Z:a.data= .seq J c)
  (i:eP A.in1 s O.toList J.toList r) (j:A.units < cLine):kL A s (.ref l) (.ref b) r:=by
 intro t w E Q h;obtain⟨u,k,v,m⟩:=o;obtain⟨y,p,z,q⟩:=a;simp only at e f Y Z;subst e f Y Z;exact E3 (op:= .Lt) ⟨_,d,zr⟩ ⟨_,g,zr⟩ PySem.F.slot_list_lt PySem.F.entry_list_lt (PySem.F.args_list_lt_2 _ _) (YN l b O J n c k p m q r)
  ⟨d,g,i,show ES r≠Fv/\Q (.bool r) s from⟨(λx=>nomatch x),h⟩⟩ j
def Vh(x y:AJ):kL A s (.bool x) (.bool y) (!x&&y):=by
 intro a w E Q h;have e:decide (b2i x < b2i y)=(!x&&y):=by cases x <;> cases y <;> rfl
 rw[<- e]at h;exact show Ak (Ao a w) A (Bg .Lt _ _) Q E s from lt_bool h
mutual
def cz :AQ->AQ->Ag AJ
 | .int a,.int b=>Aa (decide (a < b))
 | .str a,.str b=>Aa (decide (a.cps.toList < b.cps.toList))
 | .tuple c,.tuple d=>aL c d
 | .list c,.list d=>aL c d
 | .bool a,.bool b=>Aa<|!a&&b
 | _,_=>none
def aL :Ab AQ->Ab AQ->Ag AJ
 | [],[]=>Aa false
 | [],_::_=>Aa true
 | _::_,[]=>Aa false
 | a::c,b::d=>if AC a b=true then aL c d else cz a b
end
mutual
theorem yA:∀(f J:AQ) (A:As) (s:Af) (a b:Ad) (t u:Ab Ac) (r:AJ),HI s.heap a f t->HI s.heap b J u->f.canLay0=true->J.canLay0=true->
    A.units+min f.depth J.depth < cLine->cz f J=Aa r->kL A s a b r
  | .int x,J,A,s,_,_,_,_,r,O,Y,c,d,Z,e=>by
    cases O
    cases Y <;> first
      | (cases e;intro g w E Q h;exact show Ak (Ao g w) A (Bg .Lt _ _) Q E s from lt_int h)
      | (exact nomatch e)
  | .str x,J,A,s,_,_,_,_,r,O,Y,c,d,Z,e=>by
    cases O
    cases Y <;> first
      | (cases e;intro g w E Q h;exact show Ak (Ao g w) A (Bg .Lt _ _) Q E s from lt_str h)
      | (exact nomatch e)
  | .tuple i,J,A,s,_,_,_,_,r,O,Y,c,d,Z,e=>by
    cases O with
    | tuple j k l m=>
      cases Y with
      | tuple n o p q=>
        exact wP ⟨_,j,k,_,l⟩ ⟨_,n,o,_,p⟩ (sC i _ A.in1 s _ _ _ _ r m q c d (Io Z) e)<|He Z
      | none=>exact nomatch e
      | bool=>exact nomatch e
      | int=>exact nomatch e
      | str=>exact nomatch e
      | list=>exact nomatch e
      | dict=>exact nomatch d
  | .none,_,_,_,_,_,_,_,_,_,_,_,_,_,e=>by simp[cz]at e
  | .bool x,J,A,s,_,_,_,_,r,O,Y,c,d,Z,e=>by
    cases O
    cases Y <;> first
      | (cases e;exact Vh _ _)
      | (exact nomatch e)
  | .list i,J,A,s,_,_,_,_,r,O,Y,c,d,Z,e=>by
    cases O with
    | list j k l m=>
      cases Y with
      | list n o p q=>
        exact Zr j k l n o p (sC i _ A.in1 s _ _ _ _ r m q c d (Io Z) e)<|He Z
      | none=>exact nomatch e
      | bool=>exact nomatch e
      | int=>exact nomatch e
      | str=>exact nomatch e
      | tuple=>exact nomatch e
      | dict=>exact nomatch d
  | .dict _,_,_,_,_,_,_,_,_,_,_,c,_,_,_=>nomatch c
theorem sC:∀(a b:Ab AQ) (A:As) (s:Af) (d f:xH) (i j:Ab Ac) (r:AJ),Fu s.heap d a i->Fu s.heap f b j->AB a=true->AB b=true->
  A.units+min (Az a) (Az b) < cLine->aL a b=Aa r->eP A s d f r
 | [],[],_,_,_,_,_,_,r,Y,Z,_,_,_,e=>by cases Y;cases Z;cases e;exact .nn
 | [],_::_,_,_,_,_,_,_,r,Y,Z,_,_,_,e=>by cases Y;cases Z;cases e;exact .nc
 | _::_,[],_,_,_,_,_,_,r,Y,Z,_,_,_,e=>by cases Y;cases Z;cases e;exact .cn
 | x::a,y::b,A,s,_,_,_,_,r,Y,Z,k,l,c,e=>by
  have J:x.canLay0=true/\AB a=true:=by simpa [AB] using k
  have O:y.canLay0=true/\AB b=true:=by simpa [AB] using l
  cases Y with
  | cons g m=>
   cases Z with
   | cons h n=>
    have eq:=Di x y A s _ _ _ _ g h J.1 O.1<|DD c;rw[aL]at e;cases q:AC x y with
    | true=>
     rw[q]at eq;rw[Ah q]at e;exact .eq eq<|sC a b A s _ _ _ _ r m n J.2 O.2 (Hf c) e
    | false=>
     rw[q]at eq;rw[Ae (by rw[q];exact aY)]at e;exact .lt eq<|yA x y A s _ _ _ _ r g h J.1 O.1 (DD c) e
end
def iZ:AQ->BL
 | .none=>"NoneType"
 | .bool _=>"bool"
 | .int _=>"int"
 | .str _=>"str"
 | .list _=>"list"
 | .tuple _=>"tuple"
 | .dict _=>"dict"
def Xf(d:AQ):iZ d∈pk:=by
 cases d <;> simp[iZ,pk]
inductive wK (K:xA) (a:Ab V) (H:Hp) (Q:VK):Prop
 | mk:∀x n d,(a=[x,.ty n])->(ay K H d x)->(n∈vb)->(Q (.bl (fK (iZ d) n)) H)->wK K a H Q
def gv(K:xA)(g:X.K=K:=by rfl):cu X (.builtin "isinstance") (wK K):=by
 subst g;intro xC s σ H v w Q I r h;obtain⟨x,n,d,rfl,j,k,q⟩:=h;obtain⟨u,c,rfl,J,l⟩:=sX r;cases l
 have e:=RN (K:=X.K) (Xf d) k;have fin:∀a,EP X xC σ Q (.bool<|fK (iZ d) n) {s with toks:=a}:=λa=>⟨.bl _,H,I.tok a,rfl,q⟩;cases j with
 | non=>cases J;exact ki PySem.W.kitx_none I.kIn Ay e (λz=>nomatch z) fin
 | bl b=>cases J;exact ki PySem.W.kitx_bool I.kIn Ay e (λz=>nomatch z) fin
 | int i=>obtain⟨t,rfl⟩:=J;exact ki PySem.W.kitx_int I.kIn Ay e (λz=>nomatch z) fin
 | str z h=>obtain⟨t,rfl⟩:=J;exact ki PySem.W.kitx_str I.kIn Ay e (λz=>nomatch z) fin
 | lst f _=>
  cases J
  obtain⟨p,_,⟨o,m,e1,c,_,_⟩,_⟩:=I.list f;exact ki PySem.W.kitx_list I.kIn ⟨o,e1,c⟩ e (λz=>nomatch z) fin
 | tup f _=>
  cases J
  obtain⟨p,_,⟨o,e1,c,_⟩,_⟩:=I.tuple f;exact ki PySem.W.kitx_tuple I.kIn ⟨o,e1,c⟩ e (λz=>nomatch z) fin
inductive wb (K:xA) (x:V) (y:V) (H:Hp) (Q:VK):Prop
 | mk:∀d e,(ay K H d x)->(ay K H e y)->(d.depth<=60)->(Q (.bl (!PyData.eqv d e)) H)->wb K x y H Q
def vD(b:X.A.units+64 < cLine)(K:xA)(c:X.K=K:=by rfl):bH X (Bg .NotEq) (wb K):=by
 subst c;intro xC s σ H x y v u Q I f g h;obtain⟨d,e,a,J,i,q⟩:=h;obtain⟨l,j⟩:=ay.reads I _ _ _ a f;obtain⟨m,k⟩:=ay.reads I _ _ _ J g;exact SeqAt.compareNe_reads j k (ay.lay _ _ a) (ay.lay _ _ J) (NN b i)<|dA I q rfl
end L2
open L2.ag renaming refl->JZ
open L2.ay renaming same->Kk
namespace L2
open PySem PySem.Spec PyProof.Rows PySem.W
def fm(h:AH)(d:Ac)(a:Am BI)(b:Nat):Prop:=∃o,h.get? d=Aa o/\o.ExactDict/\o.data= .dict a b
variable{h:AH}{d:Ac}{es:Am BI}{ep:Nat}
def fm.lt(x:fm h d es ep):d < h.objs.size:=let ⟨_,e,_⟩:=x;aC e
variable{s:Af}
def fm.ty(x:fm s.heap d es ep):s.TypeIs (.ref d) "dict":=let ⟨o,e,c,_⟩:=x;⟨o,e,c.1⟩
def fm.at{a:AH}(x:fm h d es ep)(k:∀o,h.get? d=Aa o->a.get? d=Aa o):fm a d es ep:=let ⟨o,e,r⟩:=x;⟨o,k o e,r⟩
variable{prog:Ai}{w:Al}{A:As}{E:xB}
def vp{Q:xB}(b:(d==Bm)=false)(x:fm s.heap d es ep)
  (q:Q (.ref s.heap.objs.size) {s with heap:=s.heap.push {cls:= .type "dict_keyiterator",data:= .fields #[.ref d,.int 0 0,.int es.size 0,.int ep 0]}}):Ak (Ao prog w) A (ET<|.ref d) Q E s:=by
 obtain⟨o,a,c,J⟩:=id x;refine Ek x.ty PySem.F.slot_dict_iter<|gg PySem.F.slot_dict_iter x.ty PySem.F.entry_dict_iter ?_<|PySem.F.args_dict_iter_1 _;unfold Bl.«dict.__iter__» Builtin.Dict.dictSlotNone;refine ac<|ac<|C6 x.ty ?_;show Ak _ _ (AX<|Aw d) _ _ s;refine ah ?_;show Ak _ _ (Fl d >>=_) _ _ s;unfold Fl;rw[Ae (by rw[b];exact aY)];refine ac<|ah<|ac<|mf a J<|ac<|vI a J ?_;refine ac<|g_<|ah ⟨_,zr,"dict_keyiterator",_,⟨_,bc _ rfl,zr⟩,nF.lookup,?_⟩
 simpa [BK] using q
variable{Q:Ag Ad->Af->Prop}{it:Ac}{i:Nat}
theorem sU{e:BI}(J:s.heap.IsKeyIter it d i es.size ep)(x:fm s.heap d es ep)(f:es[i]? =Aa e)
  (q:∀b,b.IsKeyIter it d (i+1) es.size ep->Bn it s.heap b->Q (Aa e.key) {s with heap:=b}):Ak (Ao prog w) A (Cm<|.ref it) Q E s:=by
 obtain⟨o,c,g,a⟩:=id J;obtain⟨h,Z,j,Y⟩:=id x;unfold Cm;refine ac (jT<|BJ (name:=Cr "__next__") J.typeIs nF
  (gg nF J.typeIs PySem.F.entry_dict_keyiterator_next ?_<|PySem.F.args_dict_keyiterator_next_1 _))
 refine ac<|ah<|ac<|ac ?_;refine ac<|pb J.typeIs<|ah ?_;refine ac<|CZ c a ?_;simp only[show DE "dict_keyiterator"=false by decide,bL,AZ];show Ak _ _ (if (Aw d==Bw)=true then _ else _) _ _ s;rw[Ae (show ¬ ((Aw d==Bw)=true) from aY)];refine ac<|ah<|ac<|mf Z Y ?_;rw[Ae<|by simp];refine ac<|ah<|ac<|vI Z Y ?_;rw[Ae<|by simp];refine ah ?_;simp only[show ¬ ((i:Int) < 0) from by lia,AZ,ip,f];refine ac ?_;refine ac<|pb J.typeIs<|ah ?_;refine ac<|Fm J.typeIs ?_;show Ak _ _ (Gn (.ref it) 1 (BK<|(i:Int)+1) >>=_) _ _ s;refine ac<|iM c a (by simp) ?_;have O:(s.heap.update it (CC (·.setIfInBounds 1 (BK<|(i:Int)+1)))).IsKeyIter it d (i+1) es.size ep:=
  ⟨_,hH _ c<|Obj.isFreed_of_fields<|F8 a _,(Obj.cls_mapFields ..).trans g,by rw[F8 a];simp[BK]⟩
 refine ac<|dG ?_;refine ac (Fm (s:={s with heap:=s.heap.update it (CC (·.setIfInBounds 1 (BK<|(i:Int)+1)))}) O.typeIs ?_);show Ak _ _ (AX e.key) _ _ _;exact ah<|ah ⟨_,zr,ah<|q _ O (cT ..)⟩
theorem ti(g:A.handled=none)(J:s.heap.IsKeyIter it d i es.size ep)(x:fm s.heap d es ep)(h:es.size<=i)
  (q:∀c,GV it s.heap c->Q none {s with heap:=c}):Ak (Ao prog w) A (Cm<|.ref it) Q E s:=by
 obtain⟨o,e,j,f⟩:=id J;obtain⟨k,Y,l,O⟩:=id x;unfold Cm;refine ac (jT<|BJ (name:=Cr "__next__") J.typeIs nF
  (gg nF J.typeIs PySem.F.entry_dict_keyiterator_next ?_<|PySem.F.args_dict_keyiterator_next_1 _))
 refine ac<|ah<|ac<|ac ?_;refine ac<|pb J.typeIs<|ah ?_;refine ac<|CZ e f ?_;simp only[show DE "dict_keyiterator"=false by decide,bL,AZ];show Ak _ _ (if (Aw d==Bw)=true then _ else _) _ _ s;rw[Ae (show ¬ ((Aw d==Bw)=true) from aY)];refine ac<|ah<|ac<|mf Y O ?_;rw[Ae<|by simp];refine ac<|ah<|ac<|vI Y O ?_;rw[Ae<|by simp];refine ah ?_;simp only[show ¬ ((i:Int) < 0) from by lia,AZ,ip,ka h];refine ac ?_;refine ac<|pb J.typeIs<|ah ?_;show Ak _ _ (Gn (.ref it) 0 .none >>=_) _ _ s;refine ac<|iM e f (by simp) ?_;show Ak _ _ (IR (.type "StopIteration") [] >>=_) _ _ _;refine ac ?_;simp only[IR,Jk];refine ac (g_ ?_<|by size_fits);refine ac (m:=D3 _ _)<|GW (a:=Bw) (by first | rfl | (simp only[D3];rfl)) ?_;refine g_ ?_ (by size_fits);simp only[HJ];refine ac<|Ip ?_;rw[show A.in1.handled=none from g];refine ac<|ah<|Jl ?_;refine ac<|Dj (T:="StopIteration") (b:=true) ⟨_,bc _ rfl,zr⟩ HK ?_;exact ah<|q _<|((cT ..).extBut.push _).push _
def Wj(l:A.handled=none)(I d:Ac)(m:d≠I)(a:Am BI)(g:Nat):
  GU prog w A I [I,d] [I] a.size (λi v=>∃e,a[i]? =Aa e/\v=e.key) (λi h=>h.IsKeyIter I d i a.size g/\fm h d a g) where
 sub:=λb c=>by simp at c;simp[c]
 frame:=λ_ _ _ st j=>⟨st.1.at λo e=>j I (by simp) o e,st.2.at λo e=>j d (by simp) o e⟩
 item:=λi s Q E n st J=>by
  have k:a[i]? =Aa a[i]:=kZ n;refine sU st.1 st.2 k λf O Y=>?_;exact J a[i].key f s.toks ⟨a[i],k,zr⟩ ⟨O,st.2.at λo e=>Y.extBut d o m e⟩ λb o c e=>Y.extBut b o (λh=>c<|by simp[h]) e
 done:=λs Q E st J=>ti l st.1 st.2 (aj _) λf Z=>J f s.toks λb o c e=>Z b o (λh=>c<|by simp[h]) e
 self:=λ_ _ _ _ st J=>Dx st.1 J
def Zn(lo:(d==Bm)=false):KdlSrc prog w "dict" d d es.size (λi v=>∃e,es[i]? =Aa e/\v=e.key) (λh=>fm h d es ep) where
 type:=λ_ a=>a.ty
 there:=λ_ a=>⟨a.lt,a.lt⟩
 keep:=λ_ _ a c=>a.at λo e=>c d (.inl rfl) o e
 notList:=by decide
 notTuple:=by decide
 hint:=λ_ _ _ _ a b=>kdl_hint_dict a.ty b
 iter:=λ_ _ f a=>⟨_,_,(λ_ _ b=>vp lo a b),Wj f _ d (aJ a.lt) es ep,⟨⟨_,bc _ rfl,rfl,rfl⟩,a.at λo e=>aw _ e⟩⟩
variable{R:Ab Ad->Af->Prop}
def qD(r:A.handled=none)(lo:(d==Bm)=false)(x:fm s.heap d es ep)(t:es.size<=sizeLine)
  (h:∀(a:AH) (g:Nat),(∀b o,s.heap.get? b=Aa o->a.get? b=Aa o)->s.heap.objs.size<=a.objs.size->R (es.toList.map (·.key)) {s with heap:=a,toks:=g}):Ak (Ao prog w) A (E4<|.ref d) R E s:=by
 have fin:∀(acc:Am Ad),JC (λi v=>∃e,es[i]? =Aa e/\v=e.key) acc es.size->acc.toList=es.toList.map (·.key):=λacc k=>by
  apply nO
  intro j;rw[bF,bG,bG];cases e:acc[j]? with
  | some v=>
   obtain⟨p,u,rfl⟩:=k.2 j v e;rw[u];rfl
  | none=>
   have:acc.size<=j:=by simpa using e
   rw[k.1]at this;rw[ka this];rfl
 unfold E4;refine ac<|C0<|ek Dy ?_;rw[Bb PySem.F.plain_proto_collect _];show Ak _ A.in1 (Hl [] >>=λl=>again<|.builtin "list.__iadd__" ⟨[l,.ref d],[]⟩) _ _ s;refine ac<|g_ ?_;refine ah ⟨BC oG _,ek EI ?_⟩;rw[Bb oG _];have B:(s.heap.push {cls:= .type "list",data:= .seq ([]:xH).toArray}).get? s.heap.objs.size=Aa {cls:= .type "list",data:= .seq #[]}:=bc _ rfl;show Ak _ A.in1 (Bk (.ref s.heap.objs.size) (.ref d)<|.ref s.heap.objs.size) _ _ _;have C:=kdl_extend (A:=A) (s:={s with heap:=s.heap.push {cls:= .type "list",data:= .seq ([]:xH).toArray}}) (Zn (prog:=prog) (w:=w) (es:=es) (ep:=ep) lo) r (x.at λo e=>aw _ e) s.heap.objs.size
  (ge x.lt) (ge x.lt) (.ref s.heap.objs.size) 0 B
  (R:=λ(q:CJ) (n:Af)=>∃(a:AH) (g:Nat) (J:Am Ad) (Y:Nat),q= .ok (.ret<|.ref s.heap.objs.size)/\n={s with heap:=a,toks:=g}/\(∀b o,s.heap.get? b=Aa o->a.get? b=Aa o)/\
   a.get? s.heap.objs.size=Aa {cls:= .type "list",dict:=none,data:= .seq J Y,slots:=#[]}/\J.toList=es.toList.map (·.key))
  (λa g J Y m O Z=>⟨a,g,J,Y,rfl,rfl,λb o e=>m b o (aJ<|aC e)<|aw _ e,O,fin J Z⟩) t
 refine bK C (λf n y=>?_) λe n y=>?_
 .cases f with
  | done f=>
   obtain⟨a,g,J,Y,e,rfl,m,O,k⟩:=y;cases e
   show Ak _ A (load s.heap.objs.size >>=_) _ _ _;refine ac<|DY O<|ah ?_;show R J.toList _;rw[k];exact h a g m<|c_<|aC O
  | again c=>
   refine⟨y.1,eZ y.2 λq D z=>?_⟩;obtain⟨a,g,J,Y,rfl,rfl,m,O,k⟩:=z;show Ak _ A (load s.heap.objs.size >>=_) _ _ _;refine ac<|DY O<|ah ?_;show R J.toList _;rw[k];exact h a g m<|c_<|aC O
 .obtain⟨_,_,_,_,p,_⟩:=y;cases p
theorem sS{T:BL}{o:Obj}{J:Am Ad}{n:Nat}{l:Ac}(c:T="list"\/ T="tuple")(d:s.heap.get? l=Aa o)(f:o.cls= .type T)(g:o.data= .seq J n)(k:J.size<=sizeLine)
  (h:∀(a:AH) (i:Nat),(∀b o,s.heap.get? b=Aa o->a.get? b=Aa o)->s.heap.objs.size<=a.objs.size->R J.toList {s with heap:=a,toks:=i}):Ak (Ao prog w) A (E4<|.ref l) R E s:=by
 unfold E4;refine ac<|C0<|ek Dy ?_;show Ak _ _ (do again (.builtin "list.__iadd__" ⟨[<- Hl [],.ref l],[]⟩)) _ _ s;refine ac<|Cz<|ah ⟨CL _ (by decide+kernel),ek EI ?_⟩;show Ak _ _ (Bk (.ref s.heap.objs.size) (.ref l)<|.ref s.heap.objs.size) _ _ {s with heap:=s.heap.push<|AG "list" #[] 0};unfold Bk;have O:(s.heap.push<|AG "list" #[] 0).get? l=Aa o:=aw _ d;refine ac<|DQ (T:=T) ⟨o,O,f⟩ ?_;have j:((AN T==AN "list") || (AN T==AN "tuple"))=true:=by rcases c with rfl | rfl <;> rfl
 rw[Ah (by rw[Bool.or_assoc,j];simp)];refine ac<|Cq O g ?_;refine ac<|Cq (xs:=#[]) (n:=0) (bc _ rfl) rfl ?_;rw[Ae<|by simp];refine ac<|BY (xs:=#[]) (n:=0) (bc _ rfl) rfl ?_ (ba _) (by rw[El];simp;lia);refine ah ?_;show Ak (Ao prog w) A (load s.heap.objs.size >>=λo=>match o.data with
   | .seq xs _=>AX xs.toList
   | _=>Eb "internal:collect") R E {s with heap:=(s.heap.push<|AG "list" #[] 0).update s.heap.objs.size (AF (· ++J))}
 refine ac<|DY (By (bc _ rfl) _) ?_;show Ak _ _ (AX ((#[]:Am Ad)++J).toList) R E _;rw[show ((#[]:Am Ad)++J).toList=J.toList by simp];refine ah<|h _ s.toks (λb o e=>?_) (by rw[GJ,size_push'];lia);exact(lF _ _<|ge<|aC e).trans<|aw _ e
theorem kK{x:Ad}{vs:xH}{rk:Ad->Int}{Q:xB}(j:vs.length<=sizeLine)
  (q:∀(Y:As) (r:xB) (R:Ab Ad->Af->Prop),Y.handled=A.handled->(∀d f,(∀b o,s.heap.get? b=Aa o->d.get? b=Aa o)->s.heap.objs.size<=d.objs.size->R vs {s with heap:=d,toks:=f})->Ak (Ao prog w) Y (E4 x) R r s)
  (t:∀(Y:As) (k:Af) (a:Ac),Y.units<=A.units+4->s.heap.objs.size<=a->(∀b o,s.heap.get? b=Aa o->k.heap.get? b=Aa o)->Kr prog w Y k a vs rk)
  (h:∀(g:Am Ad) (l:Ac) (n:Nat) (d:AH) (f:Nat),Ki rk vs g.toList->(∀b o,s.heap.get? b=Aa o->d.get? b=Aa o)->s.heap.objs.size<=l->d.get? l=Aa (AG "list" g n)->Q (.ref l) {s with heap:=d,toks:=f}):
  Ak (Ao prog w) A (call (.builtin "sorted") [x]) Q E s:=by
 refine D9 GX Gp Gq (IS _) ?_;unfold Bl.«sorted»;refine ac (m:=HM "sorted" 1 1 _)<|ah ?_;refine ac (q _ _ _ rfl λc f u i=>?_);refine ac<|Cz ?_ j;have O:(c.push<|AG "list" vs.toArray 0).get? c.objs.size=Aa (AG "list" vs.toArray 0):=bc _ rfl;show Ak _ _ _ _ _ {s with heap:=c.push<|AG "list" vs.toArray 0,toks:=f};have J:∀b o,s.heap.get? b=Aa o->(c.push<|AG "list" vs.toArray 0).get? b=Aa o:=λb o e=>aw _<|u b o e;refine ac<|dG<|gg Fw ⟨_,O,zr⟩ Fc (Ky O j (t _ _ _ ?_ i J) λg v=>⟨_,zr,?_⟩)<|HN _
 .show A.units+2<=A.units+4
  lia
 .have Z:∀b o,s.heap.get? b=Aa o->b≠c.objs.size:=λb o e=>aJ<|cp (aC e) i;have y:=cT (c.push<|AG "list" vs.toArray 0) c.objs.size (AF λ_=>(#[]:Am Ad));obtain⟨p,z⟩:∃p,((c.push<|AG "list" vs.toArray 0).update c.objs.size<|AF λ_=>(#[]:Am Ad)).get? c.objs.size=Aa (AG "list" #[] p):=⟨_,By O λ_=>#[]⟩;have B:=aw (AG "list" #[] 0)<|aw (AG "tuple" vs.toArray 0) z;have C:=By B λ_=>g;have D:=cT ((((c.push<|AG "list" vs.toArray 0).update c.objs.size<|AF λ_=>(#[]:Am Ad)).push<|AG "tuple" vs.toArray 0).push<|AG "list" #[] 0) c.objs.size (AF λ_=>g);refine ah ⟨_,zr,h g c.objs.size _ _ f v (λb o e=>?_) i C⟩;refine(D.2 b<|Z b o e).trans<|aw _<|aw _<|(y.2 b<|Z b o e).trans<|J b o e
end L2
namespace Tim
variable{α:Type}
def srt(lt:α->α->AJ)(l:Ab α):Ab α:=l.mergeSort λa b=> !lt b a
def qm(lt:α->α->AJ)(l:Ab α):(srt lt l).Perm l:=List.mergeSort_perm _ _
variable{lt:α->α->AJ}
def Nd(h:dC lt)(l:Ab α):(srt lt l).Pairwise λa b=>lt b a=false:=by
 have:=List.pairwise_mergeSort (le:=λa b=> !lt b a) (λa b c d f=>by
  cases e:lt c a with
  | false=>rfl
  | true=>
   rcases h.nt b e with q | q
   .rw[q]at f;cases f
   .rw[q]at d;cases d) (λa b=>by
  cases e:lt b a with
  | false=>rfl
  | true=>
   rw[h.asym e];rfl) l
 exact D' (λ{a b} (z:(!lt b a)=true)=>by simpa using z) this
def Mu(h:dC lt){l k:Ab α}(p:k.Perm l)(a:k.Pairwise λa b=>lt b a=false):k=srt lt l:=h.uniq (p.trans (qm lt l).symm) a<|Nd h l
section
open PySem
theorem OU{e:Type}{lt:e->e->AJ}(h:dC lt)(J:Ad->e){d f:xH}(O:oF (λv=>jC lt (d.map J)<|J v) d f):f.map J=srt lt (d.map J):=by
 refine Mu h (O.perm.map J) ?_;rw[List.pairwise_map];refine List.Pairwise.imp_of_mem (λ{x y} g i l=>?_) O.asc;have j:J x∈d.map J:=aE.mpr ⟨x,O.perm.mem_iff.mp g,rfl⟩;have k:J y∈d.map J:=aE.mpr ⟨y,O.perm.mem_iff.mp i,rfl⟩;rw[zM (λa _=>h.irr a) (λa _ b _ c _=>h.tr a b c) (λa _ b _ c _ z=>h.nt b z) k j];exact aN (by lia)
def UK{e:Type}{lt:e->e->AJ}(h:dC lt)(J:Ad->e){d:xH}{x y:Ad}(f:x∈d)(g:y∈d):lt (J x) (J y)=decide (jC lt (d.map J) (J x) < jC lt (d.map J) (J y)):=
 zM (λa _=>h.irr a) (λa _ b _ c _=>h.tr a b c) (λa _ b _ c _ z=>h.nt b z) (aE.mpr ⟨x,f,rfl⟩) (aE.mpr ⟨y,g,rfl⟩)
end
end Tim
open Tim renaming srt->JQ,qm->JW,Nd->Kb,OU->Ko,UK->Kv,Mu->Kw
namespace L2
open PySem PySem.Spec PyProof.Rows PySem.W
def strLt(x y:Str):AJ:=decide (x.cps.toList < y.cps.toList)
def bT:Kc strLt:=by
 have h:=(Tim.Xt.lex).map (λz:Str=>z.cps.toList) (λa b e=>by
  cases a
  cases b
  congr
  exact Array.toList_inj.mp e)
 have e:strLt=λa b:Str=>Kf (λx y:Nat=>decide (x < y)) a.cps.toList b.cps.toList:=by
  funext a b
  exact Tim.wQ _ _
 rw[e];exact h
def bC(a b:xD):AJ:=Kf strLt a b
def fZ:Kc bC:=bT.lex
def bO:Ad->Str
 | .str x _=>x
 | _=>""
def kA{J:xD}:∀{d:xH},ap (J.map JP) d->d.map bO=J/\(∀u∈d,∃x t,u= .str x t)/\IT d J:=by
 induction J with
 | nil=>
  intro d r;cases r
  exact⟨rfl,(λ_ z=>nomatch z),.nil⟩
 | cons x J e=>
  intro d r;cases r with
  | cons f g=>
   obtain⟨t,rfl⟩:=f;obtain⟨a,b,c⟩:=e g;refine⟨by rw[au,a];rfl,λu O=>?_,.cons x t c⟩;rcases aA.mp O with rfl | O
   .exact⟨x,t,zr⟩
   .exact b u O
theorem ma:∀{a:xH},(∀u∈a,∃x t,u= .str x t)->ap ((a.map bO).map JP) a
 | [],_=> .nil
 | u::a,h=>by
  obtain⟨x,t,rfl⟩:=h u (be ..);exact .cons ⟨t,zr⟩ (ma λv b=>h v<|bb _ b)
variable{prog:Ai}{w:Al}{A:As}{s:Af}{a:Ac}{vs:xH}
def uC{f:xD}(r:ap (f.map JP) vs):Kr prog w A s a vs (λv=>Kg strLt (vs.map bO)<|bO v):=by
 intro g h _;obtain⟨i,c,b⟩:=kA r;refine⟨Gr,λE Q q=>?_,λx d y e E Q q=>?_⟩
 .match vs,g,b with
  | v1::j::k,_,b=>
   rw[keyKind_strs b];exact ah q
 .rw[<- Kv bT bO d e]at q;obtain⟨l,t,rfl⟩:=c x d;obtain⟨m,u,rfl⟩:=c y e;rw[Fx];exact oneLt_str q
variable{X:Cx}{H:Hp}{h':AH}
def ae.jz{e:xG}{f:St}{c:Ab V}{d:Am Ad}{l:Ac}{n g:Nat}{Q:VK}(I:ae X e f H s)(h:ap c d.toList)(i:c.length<=sizeLine)
  (j:∀b o,s.heap.get? b=Aa o->h'.get? b=Aa o) (k:s.heap.objs.size<=l) (m:h'.get? l=Aa (AG "list" d n)) (q:Q (.ref l) (upd H l<|.lst c)):EP X e f Q (.ref l) {s with heap:=h',toks:=g}:=by
 refine⟨.ref l,_,I.laid (a:=l) (o:= .lst c) (t':=g) j k ⟨i,d.toList,n,h,?_⟩,zr,q⟩;rw[Fy];exact m
inductive KL (K:xA) (b:Ab V) (H:Hp) (Q:VK):Prop
 | mk:∀p a,(b=[.ref p])->((aK K H p (a.map JP)\/ aU K H p (a.map JP)))->(∀l,H l=none->Q (.ref l) (upd H l (.lst ((JQ strLt a).map JP))))->KL K b H Q
def sZ(K:xA)(y:X.K=K:=by rfl):cu X (.builtin "sorted") (KL K):=by
 subst y;intro U s W H a0 b0 Q I r h;obtain⟨p,Z,rfl,g,q⟩:=h;obtain⟨u,rfl,A⟩:=dz r;cases A
 obtain⟨T,o,b,n,B,C,D,E,f,i⟩:∃(T:BL) (o:Obj) (b:xH) (n:Nat),(T="list"\/ T="tuple")/\s.heap.get? p=Aa o/\o.cls= .type T/\o.data= .seq b.toArray n/\ap (Z.map JP) b/\(Z.map JP).length<=sizeLine:=by
  rcases g with g | g
  .obtain⟨b,f,⟨o,n,e,c,_,d⟩,z⟩:=I.list g;exact⟨"list",o,b,n,.inl rfl,e,c,d,f,z⟩
  .obtain⟨b,f,⟨o,e,c,n,d⟩,z⟩:=I.tuple g;exact⟨"tuple",o,b,n,.inr rfl,e,c,d,f,z⟩
 have j:b.length<=sizeLine:=by rw[<- f.length];exact i
 obtain⟨F,G,_⟩:=kA f;refine kK (vs:=b) (rk:=λv=>Kg strLt (b.map bO)<|bO v) j (λL c0 R _ k=>sS B C D E (by rw[aP];exact j) (by rw[ey];exact k)) (λL d0 a _ _ _=>uC f) λM l n h' e0 m N J P=>?_;have Y:∀u∈M.toList,∃x t,u= .str x t:=λu S=>G u<|m.perm.mem_iff.mp S;have w:=Ko bT bO m;rw[F]at w;have O:=ma Y;rw[w]at O;exact I.jz O (by rw[ai,(JW strLt Z).length_eq];rw[ai]at i;exact i) N J P<|q l<|I.hok.fresh J
def cR(h:AH)(v:Ad)(p:xD):Prop:=∃(b:Ac) (o:Obj) (a:Am Ad) (n:Nat),v= .ref b/\h.get? b=Aa o/\o.cls= .type "tuple"/\o.data= .seq a n/\ap (p.map JP) a.toList
variable{E:xB}
def wF(x y:Str)(t u:Tok):EX A s (.str x t) (.str y u) (decide (x=y)):=λprog w E Q h=>GF h
def L_(x y:Str)(p q:xD):bC (x::p) (y::q)=if x=y then bC p q else strLt x y:=rfl
theorem uH:∀(p q:xD) (c vs:xH),ap (p.map JP) c->ap (q.map JP) vs->eP A s c vs (bC p q)
 | [],[],_,_,a,b=>by cases a;cases b;exact .nn
 | [],_::_,_,_,a,b=>by cases a;cases b;exact .nc
 | _::_,[],_,_,a,b=>by cases a;cases b;exact .cn
 | x::p,y::q,_,_,a,b=>by
  cases a with
  | cons d a=>
   cases b with
   | cons e b=>
    obtain⟨t,rfl⟩:=d;obtain⟨u,rfl⟩:=e;have J:=wF (A:=A) (s:=s) x y t u;rw[L_];by_cases h:x=y
    .rw[Ah h];rw[aS h]at J;exact .eq J<|uH p q _ _ a b
    .rw[Ae h];rw[aN h]at J;exact .lt J λprog w E Q k=>(lt_str k:Ak (Ao prog w) A (Bg .Lt _ _) Q E s)
def y_(c:AJ)(x y:Str)(t u:Tok){Q:AJ->Af->Prop}(h:Q (strLt x y) s):Ak (Ao prog w) A (oneLt' c (.str x t)<|.str y u) Q E s:=by
 cases c with
 | true=>exact oneLt_str h
 | false=>exact JD _ _<|lt_str h
theorem yO{c fin:AJ}{Q:AJ->Af->Prop}:∀(p q:xD) (d vs:xH) (i:Nat),ap (p.map JP) d->ap (q.map JP) vs->fin=decide (d.length < vs.length)->Q (bC p q) s->HP prog w A c fin Q (d.zip vs) i s
 | [],[],_,_,i,a,b,J,h=>by
  cases a
  cases b
  rw[BV,J];exact h
 | [],_::_,_,_,i,a,b,J,h=>by
  cases a
  cases b
  rw[BV,J];refine IU ?_;rw[aS<|by simp];exact h
 | _::_,[],_,_,i,a,b,J,h=>by
  cases a
  cases b
  rw[D1,J];refine IU ?_;rw[aN<|by simp];exact h
 | x::p,y::q,_,_,i,a,b,J,h=>by
  cases a with
  | cons f a=>
   cases b with
   | cons g b=>
    obtain⟨t,rfl⟩:=f;obtain⟨u,rfl⟩:=g;rw[iX];rw[L_]at h;refine Jm<|wF x y t u prog w _ _ ?_;by_cases e:x=y
    .rw[Ah e]at h;rw[aS e];exact JE<|yO p q _ _ (i+1) a b (by rw[J];simp) h
    .rw[Ae e]at h;rw[aN e];exact kat_no<|y_ _ x y t u h
variable{x y:Ad}{p q:xD}
def Rq(a:cR s.heap x p)(d:cR s.heap y q)(c:AJ):Ku prog w A s (Gs c) x y (bC p q):=by
 obtain⟨b,o,l,n,rfl,e,_,f,g⟩:=a;obtain⟨m,r,t,u,rfl,h,_,i,j⟩:=d;intro E Q k;exact kat_lt e f h i<|yO p q _ _ 0 g j (by rw[aI,aI]) k
def Tg(a:cR s.heap x p)(c:cR s.heap y q)(d:A.units < cLine):kL A s x y (bC p q):=by
 obtain⟨b,o,t,n,rfl,e,f,g,h⟩:=a;obtain⟨u,i,v,j,rfl,k,l,m,r⟩:=c;exact wP ⟨o,e,f,n,g⟩ ⟨i,k,l,j,m⟩ (uH p q _ _ h r) d
def TH(a:cR s.heap x p)(b:cR s.heap y q)(c:A.units < cLine):Ku prog w A s HQ x y (bC p q):=by
 intro E Q k;exact JD x y<|Tg a b c prog w E _ k
def XU(f:cR s.heap x p)(g:cR s.heap y q)(h:A.units < cLine):Ku prog w A s Gr x y (bC p q):=by
 obtain⟨b,⟨z,i,B,j⟩,l,n,rfl,a,Z,c,m⟩:=f;obtain⟨o,⟨C,O,J,Y⟩,r,t,rfl,u,d,e,v⟩:=g;simp only at Z c d e;subst Z c d e;intro E Q k;rw[Fx,oneLt'_eq];simp only[Bz];refine ac<|wpAny_cRoomFor h ?_;refine ac<|wpAny_callSpecialIfBound?_slot ⟨_,a,zr⟩ PySem.F.slot_tuple_lt<|Dg PySem.F.slot_tuple_lt ⟨_,a,zr⟩ PySem.F.entry_tuple_lt (PySem.F.args_tuple_lt_2 _ _) (yb b o l r n t i O j Y<|bC p q) ⟨a,u,uH p q _ _ m v,?_⟩;exact gj k
def cR.keep{h:AH}{v:Ad}(x:cR h v p)(k:∀b o,v= .ref b->h.get? b=Aa o->h'.get? b=Aa o):cR h' v p:=
 let ⟨b,o,a,n,e,g,r⟩:=x
 ⟨b,o,a,n,e,k b o e g,r⟩
theorem Na:∀(vs:xH) (c:xF),Paired (cR s.heap) vs c->∃a:Ab (Ag Ad),(∀(M:Cv) (A:As) (E:xB) (Q:Ab (Ag Ad)->Af->Prop),Q a s->Ak M A (vs.mapM Iq) Q E s)/\a.length=vs.length/\
  ∀f∈a,∀v,f=Aa v->∃x t,v= .str x t
 | [],[],_=>⟨[],λM A E Q q=>by rw[Ir];exact ah q,rfl,λ_ z=>nomatch z⟩
 | v::vs,p::c,.cons h i=>by
  obtain⟨a,j,k,l⟩:=Na vs c i;obtain⟨b,o,d,n,rfl,g,m,u,r⟩:=h;refine⟨d[0]? ::a,λM A E Q q=>?_,by rw[bz,k,bz],λf J v e=>?_⟩
  .rw[Fz];refine ac ?_;rw[IV];refine ac<|Looks.here (show JF M s.heap (Ft<|.ref b) o.cls from(Jo g).andThen .now) ?_;rw[m,Ae<|by decide];refine ac<|Cq g u<|ah ?_;exact ac<|j M A E (λw y=>Ak M A (AX<|d[0]? ::w) Q E y)<|ah q
  .rcases aA.mp J with rfl | J
   .obtain⟨_,h2,_⟩:=kA r;exact h2 v (by rw[<- bG]at e;exact bJ e)
   .exact l f J v e
theorem rK:∀(vs:xH),(∀v∈vs,∃x t,v= .str x t)->vs.mapM Ft=AX (vs.map λ_=>AN "str")
 | [],_=>by simp
 | v::vs,h=>by
  obtain⟨x,t,rfl⟩:=h v (be ..);rw[Fz,rK vs λu a=>h u<|bb _ a];show (AX (AN "str") >>=λb=>AX _ >>=λc=>AX<|b::c)=_;simp
variable{ps:xF}
theorem Yo(h:Paired (cR s.heap) vs ps)(j:2<=vs.length):∃g:Bu,(g=Gs true\/ g=HQ\/ g=Gr)/\∀(M:Cv) (A:As) (E:xB) (Q:Bu->Af->Prop),Q g s->Ak M A (Ho vs.toArray) Q E s:=by
 obtain⟨c,i,k,w⟩:=Na vs ps h;by_cases J:(c.toArray.all λx=>x.isSome)=true
 .refine⟨Gs true,.inl rfl,λM A E Q q=>?_⟩;rw[FC,je,Cs];refine ac<|ac<|i M A E _<|ah ?_;rw[Ah J];refine ac<|eS ?_;obtain⟨d,fr,e⟩:∃d fr,c=d::fr:=by
   cases e:c with
   | nil=>rw[e]at k;simp at k;lia
   | cons d fr=>exact⟨d,fr,rfl⟩
  have y:∀v∈c.filterMap id,∃x t,v= .str x t:=λv Y=>by
   obtain⟨f,Z,e⟩:=List.mem_filterMap.mp Y;exact w f Z v e
  have z:c.toArray.filterMap id=(c.filterMap id).toArray:=by simp
  rw[z,Fd,je,rK _ y];simp only[map_pure,GK];have B:∃v O,c.filterMap id=v::O:=by
   rw[e]at J ⊢;cases d with
   | none=>simp at J
   | some v=>exact⟨v,fr.filterMap id,rfl⟩
  obtain⟨v,O,l⟩:=B;rw[l];have m:((D4 (λ_=>AN "str")<|v::O).toArray.all λx=>x==AN "str")=true:=by
   simp only[Dk,gQ,eh];intro _ _;rfl
  have u:(D4 (λ_=>AN "str")<|v::O).toArray[0]? =Aa (AN "str"):=by simp
  rw[u];simp only[m,Bz,GK];exact ah q
 .by_cases Z:(c.toArray[0]?.bind id).isSome=true
  .refine⟨HQ,.inr<|.inl rfl,λM A E Q q=>?_⟩;rw[FC,je,Cs];refine ac<|ac<|i M A E _<|ah ?_;rw[Ae J,Ah Z];exact ah q
  .refine⟨Gr,.inr<|.inr rfl,λM A E Q q=>?_⟩;rw[FC,je,Cs];refine ac<|ac<|i M A E _<|ah ?_;rw[Ae J,Ae Z,Fd,je,Cs];have C:∀v∈vs,JF M s.heap (Ft v) (.type "tuple"):=λv Y=>by
    obtain⟨p,b,o,I,n,rfl,D,F,_⟩:∃p,cR s.heap v p:=by
     clear i k w J Z j q
     induction h with
     | nil=>cases Y
     | cons a r G=>
      rcases aA.mp Y with e | Y
      .rw[e];exact⟨_,a⟩
      .exact G Y
    rw[<- F];exact(Jo D).andThen .now
   refine ac<|ac<|ac<|kas_mapM (r:=AN "tuple") _ (λv Y K H=>(C v Y).here H)<|ah ?_;obtain⟨v,O,l⟩:∃v O,vs=v::O:=by
    cases e:vs with
    | nil=>rw[e]at j;simp at j
    | cons v O=>exact⟨v,O,rfl⟩
   rw[l];have m:((D4 (λ_=>AN "tuple")<|v::O).toArray.all λx=>x==AN "tuple")=true:=by
    simp only[Dk,gQ,eh];intro _ _;rfl
   have u:(D4 (λ_=>AN "tuple")<|v::O).toArray[0]? =Aa (AN "tuple"):=by simp
   rw[u];simp only[m,Bz];exact ah<|ah q
theorem jw{b c:Type}{F:b->c->Prop}{f:b->c}:∀{l:Ab b} {k:Ab c},Paired F l k->(∀x y,F x y->f x=y)->l.map f=k/\∀x∈l,F x<|f x
 | _,_,.nil,_=>⟨rfl,λ_ z=>nomatch z⟩
 | _,_,.cons a r,h=>by
  obtain⟨e,m⟩:=jw r h;have g:=h _ _ a;refine⟨by rw[au,e,g],λx d=>?_⟩;rcases aA.mp d with rfl | d
  .rw[g];exact a
  .exact m x d
def xX(J:Ad->Ab Str)(h:Paired (λv p=>cR s.heap v p/\J v=p) vs ps)(l:s.heap.objs.size<=a){f:Af}(m:∀b o,s.heap.get? b=Aa o->f.heap.get? b=Aa o)(Z:A.units < cLine):
  Kr prog w A f a vs (λv=>Kg bC (vs.map J)<|J v):=by
 intro n g r;have c:∀v p,cR s.heap v p->cR g.heap v p:=λv p x=>x.keep λb o _ e=>r b o (aJ<|cp (aC e) l)<|m b o e;obtain⟨_,i⟩:=jw h λ_ _ z=>z.2;obtain⟨t,Y,O⟩:=Yo (s:=g) (JX h λv p z=>c v p z.1) n;refine⟨t,λE Q q=>O _ A E Q q,λx j y k=>?_⟩;rw[<- Kv fZ J j k];have d:=c x _ (i x j).1;have ty:=c y _ (i y k).1;rcases Y with rfl | rfl | rfl
 .exact Rq d ty true
 .exact TH d ty Z
 .exact XU d ty Z
def nr(p:xD):(p.map (Aj:Str->af)).map kV=p.map JP:=by
 rw[cr];rfl
def cH(H:Hp):Ad->Ab Str
 | .ref a=>match H a with
  | some (.tup b)=>b.map λx=>match x with | .str z=>z | _=>""
  | _=>[]
 | _=>[]
def oO(h:H a=Aa (.tup<|p.map JP)):cH H (.ref a)=p:=by
 simp only[cH,h];rw[cr];exact(fT λ_ _=>rfl).trans<|kh p
def nX(H:Hp)(a:xH)(c:xF):Prop:=Paired (λv p=>∃b,v=Aw b/\H b=Aa (.tup<|p.map JP)) a c
inductive MO (a:Ab V) (H:Hp) (Q:VK):Prop
 | mk:∀(d:Ac) (c:Ab (Ab Str×V)),(a=[.ref d])->(H d=Aa (.dT (c.map λe=>(e.1.map Aj,e.2))))->(∀l f,H l=none->Paired (λx p=>∃b,x=JU b/\H b=Aa (.tup (p.map JP))) f (JQ bC (c.map (·.1)))->Q (.ref l) (upd H l (.lst f)))->MO a H Q
theorem Rz(L:X.A.units+64 < cLine)(a0:X.calm=true)(K:xA)(b0:X.K=K:=by rfl):cu X (.builtin "sorted") MO:=by
 subst b0;intro u0 s v0 H w0 x0 Q I r h;obtain⟨d,g,rfl,M,q⟩:=h;obtain⟨u,rfl,c0⟩:=dz r;cases c0
 obtain⟨B,d0,y0,O,o,i,z0,N,e0,Z,C,f0⟩:=I.hok d _ M;have P:i.size=g.length:=by
  rw[<- aI,C,ai,<- O.length,ai]
 have J:nX H (i.toList.map (·.key)) (g.map (·.1)):=by
  rw[C,cr];clear B C Z P N q M f0;unfold nX;revert O;generalize l:(g.map λD=>(D.1.map (Aj:Str->af),D.2))=A0;intro O
  induction O generalizing g with
  | nil=>
   have:g=[]:=by simpa using l
   subst this;exact .nil
  | cons a H0 E=>
   cases g with
   | nil=>simp at l
   | cons D g=>
    rw[au,oy]at l;obtain⟨rfl,l⟩:=l;refine .cons ⟨_,zr,?_⟩<|E g l;obtain⟨_,S,_⟩:=a;rw[nr]at S;exact S
 have g0:∀v p,(∃b,v=Aw b/\H b=Aa (.tup<|p.map JP))->cR s.heap v p:=λv p ⟨b,e,j⟩=>by
  obtain⟨_,h0,t,o,i0,c,n,j0⟩:=I.hok b _ j;exact⟨b,o,h0.toArray,n,e,i0,c,j0,by rw[ey];exact t⟩
 have Y:Paired (λv p=>cR s.heap v p/\cH H v=p) (i.toList.map (·.key)) (g.map (·.1)):=JX J λv p z=>⟨g0 v p z,by
  obtain⟨b,rfl,j⟩:=z;exact oO j⟩
 have k0:(i.toList.map (·.key)).map (cH H)=g.map (·.1):=(jw Y λ_ _ z=>z.2).1;have l0:∀v∈i.toList.map (·.key),∃b,v=Aw b/\H b=Aa (.tup<|(cH H v).map JP):=(jw (f:=cH H) J λv p ⟨b,e,j⟩=>by
  rw[e];exact oO j).2
 have w:(i.toList.map (·.key)).length<=sizeLine:=by
  rw[ai,aI,P];rw[ai]at B;exact B
 refine kK (vs:=i.toList.map (·.key)) (rk:=λv=>Kg bC ((i.toList.map (·.key)).map<|cH H)<|cH H v) w
  (λm0 J0 R n0 k=>qD (n0.trans<|I.ok.hd a0) d0 ⟨o,N,e0,Z⟩ (by rw[ai,aI]at w;exact w) k)
  (λm0 K0 a L0 o0 F=>xX (s:=s) (cH H) Y o0 F<|by lia) λy p0 n h' M0 G F T q0=>?_
 have U:=Ko fZ (cH H) G;rw[k0]at U;have A:∀v∈y.toList,∃b,v=Aw b/\H b=Aa (.tup<|(cH H v).map JP):=λv r0=>l0 v<|G.perm.mem_iff.mp r0;obtain⟨m,t,W⟩:∃m:Ab V,ap m y.toList/\Paired (λx p=>∃b,x=JU b/\H b=Aa (.tup<|p.map JP)) m (y.toList.map<|cH H):=by
  revert A;generalize y.toList=os;intro A
  induction os with
  | nil=>exact⟨[],.nil,.nil⟩
  | cons v os E=>
   obtain⟨m,s0,t0⟩:=E λu L=>A u<|bb _ L;obtain⟨b,e,j⟩:=A v (be ..);exact⟨.ref b::m,.cons e s0,.cons ⟨b,zr,j⟩ t0⟩
 rw[U]at W;refine I.jz t ?_ F T q0<|q p0 m (I.hok.fresh T) W;rw[t.length,G.perm.length_eq];exact w
end L2
open L2 renaming strLt->JS
namespace L2
open PySem PySem.Spec PyProof.Rows
variable{X:Cx}{k n:Nat}
def rP(K:xA){a:Ab AK}{t:ij}{b:Pos}(c:X.calm=true)(h:lv X a t)(d:X.K=K:=by rfl)
  (e:(B8 a X.env).length=n:=by rfl) (J:(B8 a X.env).findIdx? (·.1)=none:=by rfl):PG X (.Tuple a k b) (uP K n t):=by
 subst d;exact ot c h e J
inductive Lz (K:xA) (x:V) (y:V) (H:Hp) (Q:VK):Prop
 | mk:∀a b c d,(x= .ref a)->(y= .ref b)->(aU K H a c)->(aU K H b d)->(c.length+d.length<=sizeLine)->(∀p e,ag H e->aU K e p (c++d)->Q (.ref p) e)->Lz K x y H Q
def Xl(K:xA)(o:X.K=K:=by rfl):bH X (eA .Add) (Lz K):=by
 subst o;intro r s t H x y v u Q I f g h;obtain⟨a,b,i,w,rfl,rfl,c,d,z,q⟩:=h;by_cases j:i=[]
 .subst j;cases f
  cases g
  obtain⟨A,B,C,_⟩:=I.tuple c;obtain⟨Z,R,D,_⟩:=I.tuple d;have E:A=[]:=B.lY.mpr rfl;subst E;obtain⟨⟨S,F,T,G⟩,k,l,n,m⟩:=id C;obtain⟨⟨U,L,W,M⟩,Y,J,N,O⟩:=id D;simp only at l m J O;subst l m J O;exact EV ⟨_,k,zr⟩ ⟨_,Y,zr⟩ Df Es PySem.F.slot_tuple_add PySem.F.entry_tuple_add (PySem.F.args_tuple_add_2 _ _)
   (Jp a b #[] Z.toArray n N F L G M rfl) ⟨k,Y,⟨.ref b,H,I,rfl,q b H (JZ _) d⟩⟩
 .refine yR r s t H _ _ v u Q I f g ⟨a,b,i,w,zr,zr,c,d,j,z,λe=>?_,λ_ p P=>q p _ (qc P)<|JT qb⟩;subst e;exact q a H (JZ _) (by rw[dy];exact c)
def UQ(c:Ab AJ):(Cj c.length).any (λi=>(c[i]?).getD true)=c.any id:=by
 rw[hN,fN,fN]
 constructor
 .rintro ⟨i,a,h⟩;have J:=kP.mp a;rw[aH J]at h;exact⟨_,iK J,h⟩
 .rintro ⟨b,hb,h⟩;obtain⟨i,a,e⟩:=iy.mp hb;refine⟨i,kP.mpr a,?_⟩;rw[aH a,e];exact h
inductive J_ (K:xA) (a:Ab V) (H:Hp) (Q:VK):Prop
 | mk:∀(p:Ac) (b:Ab AJ),(a=[.ref p])->(aK K H p (b.map Ke))->(Q (.bl (b.any id)) H)->J_ K a H Q
def OT(g:X.calm=true)(K:xA)(j:X.K=K:=by rfl):cu X (.builtin "any") (J_ K):=by
 subst j;intro y s z H A B Q I r h;obtain⟨p,a,rfl,k,q⟩:=h;obtain⟨u,rfl,l⟩:=dz r;cases l
 obtain⟨c,f,d,C⟩:=I.list k;have m:c.toArray.size=a.length:=by
  have:=f.length;rw[ai]at this;rw[aP];exact this.symm
 have t:X.A.in1.handled=none:=I.ok.hd g;have O:p≠s.heap.objs.size:=λe=>by
  obtain⟨o,n,w,_⟩:=d;exact Au (aC w) (by rw[e];exact ii _)
 refine call_any_walk<|gK d.isList ?_;refine⟨s.heap.objs.size,_,_,_,_,_,λi=>(a[i]?).getD true,zr,F7 t _ p O c.toArray,⟨⟨_,bc _ rfl,zr,zr⟩,d.isList.at λo e=>aw _ e⟩,?_,λD E x=>?_⟩
 .intro i v s' Q' E' hv hq;have Y:c[i]? =Aa v:=by simpa using hv
  obtain⟨b,e,rfl⟩:=HL f Y;have J:Q' ((a[i]?).getD true) s':=hq;rw[e]at J;exact gj J
 .rw[m,UQ];exact⟨.bl _,H,I.kept λb o e=>x b o (by simp;exact aJ<|aC e)<|aw _ e,rfl,q⟩
variable{es:Ab BI}{P:Ai}{w:Al}{vs:Ab (af×Ad)}
def QF(p:Pairs (qv P w) es vs):∀{e:Ab (af×V)} {J:xD},KV e vs->e.map (·.1)=J.map Aj->ap (J.map JP) (es.map (·.key)):=by
 induction p with
 | nil=>
  intro e J r h;cases r
  have:J=[]:=by simpa using h.symm
  subst this;exact .nil
 | cons a b c j=>
  intro e J r h;cases r with
  | cons d f=>
   cases J with
   | nil=>simp at h
   | cons x J=>
    rw[au,au,oy]at h;rw[<- d.1,h.1]at a;refine .cons ?_<|j f h.2;rcases eJ (show gH (Aj x) _=true from a) with ⟨i,t,g,_⟩ | ⟨l,t,g,k⟩
    .cases g
    .cases g
     exact⟨t,k⟩
inductive Mx (a:Ab V) (H:Hp) (Q:VK):Prop
 | mk:∀(d:Ac) (b:Ab (af×V)) (c:xD),(a=[.ref d])->(H d=Aa (.dK b))->(b.map (·.1)=c.map Aj)->(∀l,H l=none->Q (.ref l) (upd H l (.lst ((JQ strLt c).map JP))))->Mx a H Q
def YJ(p:X.calm=true)(K:xA)(w:X.K=K:=by rfl):cu X (.builtin "sorted") Mx:=by
 subst w;intro U s W a0 b0 c0 Q I r h;obtain⟨d,y,b,rfl,z,f,q⟩:=h;obtain⟨u,rfl,A⟩:=dz r;cases A
 obtain⟨g,B,vs,C,o,es,d0,D,E,J,_,Z,e0⟩:=I.hok d _ z;have c:ap (b.map JP) (es.toList.map (·.key)):=QF Z C f;have i:b.length=y.length:=by
  have:=Ba Dw f;rw[ai,ai]at this;exact this.symm
 have e:(es.toList.map (·.key)).length<=sizeLine:=by
  rw[<- c.length,ai,i];exact g
 obtain⟨F,G,_⟩:=kA c;refine kK (vs:=es.toList.map (·.key)) (rk:=λv=>Kg strLt ((es.toList.map (·.key)).map bO)<|bO v) e (λH f0 R L k=>qD (L.trans<|I.ok.hd p) B ⟨o,D,E,J⟩ (by rw[ai,aI]at e;exact e) k)
  (λH g0 a _ _ _=>uC c) λM l n h0 i0 j N O P=>?_
 have S:∀u∈M.toList,∃x t,u= .str x t:=λu T=>G u<|j.perm.mem_iff.mp T;have m:=Ko bT bO j;rw[F]at m;have Y:=ma S;rw[m]at Y;exact I.jz Y (by rw[ai,(JW strLt b).length_eq,i];exact g) N O P<|q l<|I.hok.fresh O
def yp:HR JL "dict.update.loop"=Aa Bl.«dict.update.loop»:=GL (by kernel_rfl)
def pf:plainId "dict.update.loop"=true:=by decide+kernel
def Pc:F0 (.type "list") "keys"=AX none:=by rw[Fe,C7];kernel_rfl
section
variable{prog:Ai}{w:Al}{A:As}{E:xB}{s:Af}
def PL{a:Ac}{o:Obj}{i:Am Ad}{k:Nat}{Q:Ag Ad->Af->Prop}(j:s.heap.get? a=Aa o)(l:o.cls= .type "list")(J:o.data= .seq i k)(m:o.dict=none)(p:A.handled=none)
  (h:∀f n,(∀b o,s.heap.get? b=Aa o->f.get? b=Aa o)->Q none {s with heap:=f,toks:=n}):Ak (Ao prog w) A (HS (.ref a) "keys") Q E s:=by
 obtain⟨c,t,u,q⟩:=o;simp only at l J m;subst l J m;obtain⟨r,g,d,n,os⟩:=s;have Z:∀O,(⟨r,g,d,O,os⟩:Af).TypeIs (.ref a) "list":=λ_=>⟨_,j,rfl⟩;have v:=sub_AttributeError;have x:=PySem.F.slot_list_getattribute.lookup;have y:=PySem.F.slot_list_getattribute.bind<|.ref a;have z:=am_list_getattr_none;unfold HS getAttrBy? getAttrBy
 repeat (any_goals (first | assumption | exact Z _ | ((with_reducible show Ak _ _ (call (Ce "list.__getattribute__") _ _) _ _ _);refine Dg PySem.F.slot_list_getattribute (Z _) am_entry_list_getattribute (PySem.F.args_list_getattribute_2 _ _) (meets_getattribute_miss_list a i k q "keys" _ Pc (by decide+kernel) (by show 4+100<=sizeLine;decide)) ⟨j,p,λf O e Y=>?_⟩) | wp_step))
 obtain⟨B,C,D⟩:=Y.there;show Ak _ _ (F9 _ _ _ _ _ _ _) _ _ _;unfold F9
 repeat (any_goals (first | assumption | wp_step))
 exact h f O Y.of.keeps
end
def qE(f:Nat->Str×Ad):Nat->Nat->Ab (af×Ad)->Ab (af×Ad)
 | 0,_,a=>a
 | k+1,i,a=>qE f k (i+1)<|HC a (Aj (f i).1) (f i).2
theorem QK{a:Ab (af×Ad)}{k:af}{v:Ad}:(HC a k v).length<=a.length+1:=by
 unfold HC;split
 .rw[ai]
  lia
 .rw[aX];exact aj _
section
variable{prog:Ai}{w:Al}{A:As}{R:CJ->Af->Prop}{I:Ac}{fp wr:Ab Ac}{n:Nat}{P:Nat->Ad->Prop}{St:Nat->AH->Prop}
theorem ze{h0:AH}(W:GU prog w A.in1 I fp wr n P St)(d:Ac)(O:d∉fp)(C:h0.get? d=none)(l:∀b∈wr,h0.get? b=none)(K:n<=sizeLine)(f:Nat->Str×Ad)(D:∀i v,P i v->∃q t,v= .ref q/\Hs h0 q #[.str (f i).1 t,(f i).2]):
  ∀(k i:Nat) (s:Af) (kvs:Ab (af×Ad)) (j:Int) (p:Tok),i+k=n->St i s.heap->s.heap.DictOf (qv prog w) d kvs->kvs.length<=i->(∀b o,h0.get? b=Aa o->s.heap.get? b=Aa o)->
  (∀a g,a.DictOf (qv prog w) d (qE f k i kvs)->(∀b o,h0.get? b=Aa o->a.get? b=Aa o)->R (.ok<|.ret .none) {s with heap:=a,toks:=g})->
  BQ (Ao prog w) A (.builtin "dict.update.loop" ⟨[.ref d,.ref I,.int j p,.none],[]⟩) R s
 | 0,i,s,kvs,j,p,L,Z,u,E,x,hR=>by
  have M:i=n:=by lia
  subst M;have Y:d∉wr:=λh=>O<|W.sub _ h;refine ek yp ?_;rw[Bb pf _];refine ac (m:=Cm<|.ref I) (W.done s _ _ Z λa g J=>?_);show Ak _ _ (Builtin.Dict.addKeywords d [] >>=λ_=>ret .none) _ _ _;obtain⟨o,es,y,B,r⟩:=u;exact ac (ah<|ah<|hR a g ⟨o,es,y,J d o Y B,r⟩ λb o e=>J b o (λc=>by rw[l b c]at e;cases e)<|x b o e)
 | k+1,i,s,kvs,j,p,L,Z,u,E,x,hR=>by
  have N:i < n:=by lia
  have Y:d∉wr:=λh=>O<|W.sub _ h;refine ek yp ?_;rw[Bb pf _];refine ac (m:=Cm<|.ref I) (W.item i s _ _ N Z λv a g Q S J=>?_);obtain⟨q,t,rfl,U,X,a0,l0,b0⟩:=D i v Q;have F:∀b o,h0.get? b=Aa o->a.get? b=Aa o:=λb o e=>J b o (λc=>by rw[l b c]at e;cases e)<|x b o e;have c0:a.DictOf (qv prog w) d kvs:=by
   obtain⟨o,es,y,B,r⟩:=u;exact⟨o,es,y,J d o Y B,r⟩
  have G:=F q _ X;refine ac<|dG<|ac<|wpAny_tryCatch ?_;unfold Builtin.Dict.pairItems;refine ac<|DQ (T:="tuple") ⟨U,G,a0⟩ ?_;rw[Ah<|by decide];refine ac<|D5 G b0<|ah ?_;show Ak _ _ (Dp [.str (f i).1 t,(f i).2]<|dictSet d (.str (f i).1 t) (f i).2) _ _ _;refine dG (wpAny_dictSet_pairs (knd:=qv prog w) (k:=Aj (f i).1) (Mm _ _ _ _) c0 (λd0 e0 H=>?_)<|by lia);have f0:∀b o,h0.get? b=Aa o->d0.get? b=Aa o:=λb o e=>(H.2 b (λz=>by rw[z,C]at e;cases e)).trans<|F b o e;refine ah ⟨BC pf _,ze W d O C l K f D k (i+1) _ _ (j+1) _ (by lia) (W.frame _ _ _ S λb c o e=>(H.2 b λz=>O (z ▸ c)).trans e) e0 (az QK<|fP E) f0 λg0 i0 j0 k0=>?_⟩;exact hR g0 i0 j0 k0
end
def eW(b:Ab (Str×V))(m:Ab (af×V)):Ab (af×V):=b.foldl (λm a=>aq m (Aj a.1) a.2) m
theorem rf:∀(a:Ab (Str×V)) (m:Ab (af×V)),(eW a m).length<=m.length+a.length
 | [],m=>aj _
 | p::a,m=>by
  have h:(aq m (Aj p.1) p.2).length<=m.length+1:=by
   unfold aq;split
   .rw[ai]
    lia
   .rw[aX];exact aj _
  have:=rf a<|aq m (Aj p.1) p.2;show (eW a<|aq m (Aj p.1) p.2).length<=m.length+(a.length+1)
  lia
def oH(p:Str×V)(q:Str×Ad):Prop:=p.1=q.1/\av p.2 q.2
theorem zq:∀{d:Ab (Str×V)} {e:Ab (Str×Ad)} (_:Paired oH d e) (i:Nat) (c:i < d.length),oH d[i]<|e.getD i ("",.none)
 | _,_,.nil,i,c=>Au c<|DF _
 | _,_,.cons a b,0,c=>a
 | _,_,.cons a b,i+1,c=>zq b i<|E5 c
theorem KG{a:Ab (Str×V)}{b:Ab (Str×Ad)}(r:Paired oH a b):∀(k i:Nat) (m:Ab (af×V)) (vs:Ab (af×Ad)),i+k=b.length->KV m vs->KV (eW (a.drop i) m) (qE (λi=>b.getD i ("",.none)) k i vs)
 | 0,i,m,vs,h,J=>by
  have e:=Paired.length r;rw[List.drop_eq_nil_of_le<|by lia];exact J
 | k+1,i,m,vs,h,J=>by
  have e:=Paired.length r;have c:i < a.length:=by lia
  rw[jh c];show KV (eW (a.drop<|i+1)<|aq m (Aj a[i].1) a[i].2)<|qE _ k (i+1)<|HC vs (Aj (b.getD i ("",.none)).1) (b.getD i ("",.none)).2;have d:=zq r i c;rw[<- d.1];exact KG r k (i+1) _ _ (by lia)<|J.put _ d.2
def vM(K:xA)(H:Hp)(y:V)(a:Str×V):Prop:=∃q,y=JU q/\aU K H q [.str a.1,a.2]
variable{xC:xG}{σ:St}{H:Hp}
def XD{s:Af}(I:ae X xC σ H s){f:Ab V}{g:Ab (Str×V)}(h:Paired (vM X.K H) f g):∀{d:xH},ap f d->∃c:Ab (Str×Ad),Paired oH g c/\∀i v,d[i]? =Aa v->∃q t,v= .ref q/\Hs s.heap q #[.str (c.getD i ("",.none)).1 t,(c.getD i ("",.none)).2]:=by
 induction h with
 | nil=>
  intro d r;cases r
  exact⟨[],.nil,λi v e=>by simp at e⟩
 | cons a b j=>
  intro d r;cases r with
  | cons k l=>
   obtain⟨c,m,n⟩:=j l;obtain⟨q,rfl,o⟩:=a;cases k
   obtain⟨A,p,u,_⟩:=I.tuple o;cases p with
   | cons w x=>
    cases x with
    | cons y z=>
     cases z
     obtain⟨t,rfl⟩:=w;refine⟨(_,_)::c,.cons ⟨zr,y⟩ m,λi v e=>?_⟩;cases i with
     | zero=>
      have:v=Aw q:=by simpa using e.symm
      subst this;exact⟨q,t,zr,u⟩
     | succ i=>exact n i v (by simpa using e)
inductive yH (K:xA) (a:Ab V) (H:Hp) (Q:VK):Prop
 | mk:∀(p:Ac) (b:Ab V) (c:Ab (Str×V)),(a=[.ref p])->(aK K H p b)->(Paired (vM K H) b c)->(∀d,H d=none->Q (.ref d) (upd H d (.dK (eW c []))))->yH K a H Q
def Oe(M:X.calm=true)(K:xA)(N:X.K=K:=by rfl):cu X (.type "dict") (yH K):=by
 subst N;intro xC s σ H k0 vs Q I r h;obtain⟨p,m0,t,rfl,P,j,q⟩:=h;obtain⟨u,rfl,R⟩:=dz r;cases R
 obtain⟨f,k,⟨ol,S,w,Y,x,O⟩,y⟩:=I.list P;obtain⟨d,z,U⟩:=XD I j k;have B:d.length=f.length:=by rw[<- Paired.length z,<- Paired.length j,k.length]
 have C:p < s.heap.objs.size:=aC w;have D:X.A.in1.in1.handled=none:=I.ok.hd M;refine callType_codes (Q₁:=λE F=>E= .ref s.heap.objs.size/\F={s with heap:=s.heap.push {cls:= .type "dict",data:= .dict #[]}}) PySem.F.kt_called_dict (PySem.F.kt_typeCall_dict_1 _) PySem.F.entry_dict_init (kt_code_dict_new _ ⟨rfl,rfl⟩) ?_;rintro E F ⟨rfl,rfl⟩;have l:(s.heap.push {cls:= .type "dict",data:= .dict #[]}).DictOf (qv X.prog X.w) s.heap.objs.size []:=Hc s.heap;have l0:(s.heap.push {cls:= .type "dict",data:= .dict #[]}).get? p=Aa ol:=aw _ w;refine⟨l.typeIs,PySem.F.args_dict_init_2 _ _,?_⟩;unfold Bl.«dict.__init__»;refine ac ?_;unfold Builtin.Dict.selfAndRest;refine ac<|C6 l.typeIs<|ah ?_;show Ak _ _ (EJ "dict.__init__" s.heap.objs.size (.ref p) [] .none) _ _ _;unfold EJ;refine ac<|DQ (T:="list") ⟨ol,l0,Y⟩ ?_;rw[Ah<|by decide];refine ac (PL l0 Y O x D λc n0 Z=>?_);rw[Ah<|by rfl];refine ac<|eS ?_;have G:PlainL c p f.toArray:=⟨ol,S,Z _ _ l0,Y,x,O⟩;obtain⟨W,a0,b0,c0,d0⟩:=l;have L:=Z _ _ c0;have m:s.heap.objs.size < c.objs.size:=aC L;refine ac<|gK G.isList ?_;have J:∀b,s.heap.objs.size<=b->s.heap.get? b=none:=λb g=>by
  cases e:s.heap.get? b with
  | none=>rfl
  | some o=>exact Au (aC e)<|Nat.not_lt_of_le g
 have e0:d.length=f.toArray.size:=by rw[aP];exact B
 have f0:GU X.prog X.w X.A.in1.in1 c.objs.size [c.objs.size,p] [c.objs.size] d.length (λi v=>f.toArray[i]? =Aa v) (λi h=>h.IsListIter c.objs.size p i/\h.IsList p f.toArray):=by
  rw[e0];exact F7 D c.objs.size p (aJ<|IQ C m) f.toArray
 refine ah ⟨BC pf _,ze (h0:=s.heap) (n:=d.length) (A:=X.A.in1) f0 s.heap.objs.size ?_ (J _<|aj _) ?_ (by rw[B,<- k.length];exact y) (λi=>d.getD i ("",.none)) ?_ d.length 0 _ [] 0 _ (dF _) ⟨⟨_,bc _ rfl,rfl,rfl⟩,G.isList.at λo e=>aw _ e⟩ ⟨W,a0,b0,aw _ L,d0⟩ (aj _) (λb o e=>aw _<|Z _ _<|aw _ e) λo0 g0 i0 j0=>?_⟩
 .intro g;simp only[aA,cc,Bf]at g;rcases g with e | e
  .exact Au e<|aJ m
  .exact Au e.symm<|aJ C
 .intro b g;rw[aM.mp g];exact J _<|c_ m
 .intro i v hv;exact U i v (by simpa using hv)
 .have a9:=KG z d.length 0 [] [] (dF _) .nil;rw[B0]at a9;refine⟨zr,.ref s.heap.objs.size,_,I.laid (a:=s.heap.objs.size) (o:= .dK<|eW t []) (t':=g0) j0 (aj _) ⟨?_,beq_eq_false_iff_ne.mpr<|Bi<|aJ I.big,_,a9,i0⟩,zr,q _<|I.hok.fresh<|aj _⟩;have c:=rf t [];rw[ku,dF]at c;rw[<- Paired.length j]at c;exact az c y
def oV(a:Ac)(o:Obj)(b:Ab (af×V)):It:=
 ⟨λi H=>H a=Aa (.frz o<|.dK b)/\i < b.length,λi H x d=>d=H/\∃c,b[i]? =Aa c/\x=kV c.1,λi H=>H a=Aa (.frz o<|.dK b)/\b.length<=i⟩
def T_(p:Pairs (qv P w) es vs):∀{g:Ab (af×V)} {i:Nat} {j:af×V},KV g vs->g[i]? =Aa j->∃e,es[i]? =Aa e/\av (kV j.1) e.key:=by
 induction p with
 | nil=>
  intro g i j r h;cases r
  simp at h
 | cons a b c m=>
  intro g i j r h;cases r with
  | cons d f=>
   cases i with
   | zero=>
    simp at h
    subst h;refine⟨_,zr,?_⟩;rw[<- d.1]at a;rcases eJ a with ⟨i,t,k,l⟩ | ⟨n,t,k,l⟩
    .rw[k];exact⟨t,l⟩
    .rw[k];exact⟨t,l⟩
   | succ i=>simpa using m f (by simpa using h)
variable{a:Ac}
def ae.freeze{s:Af}{o:Obj}{d:Ab (af×V)}(I:ae X xC σ H s)(e:H a=Aa (.dK d))(f:s.heap.get? a=Aa o):ae X xC σ (upd H a<|.frz o<|.dK d) s:=by
 have u:Un X.fs [] H (upd H a<|.frz o<|.dK d) s.heap s.heap:=by
  refine⟨λb o q _ _ _=>q,λb o q _ _ _=>⟨o.slots,q⟩,λb J q n _=>?_,λb J q _=>⟨J,q⟩,λb h q=>?_,λb J u q=>?_,λb k q=>⟨#[],?_⟩⟩
  .rw[qe (λz=>by rw[z,e]at n;cases n)];exact n
  .rw[qe (λz=>by rw[z,e]at q;cases q)];exact q
  .rw[qe (λz=>by rw[z,e]at q;cases q)];exact q
  .rw[qe (λz=>by rw[z,e]at q;cases q),q];simp
 have i:HOk X.prog X.w (upd H a<|.frz o<|.dK d) s.heap:=λb J q=>by
  by_cases z:b=a
  .subst z;rw[qb]at q;cases q
   have:=I.hok b _ e;exact⟨f,this⟩
  .rw[qe z]at q;have j:=I.hok b J q;exact j.stay (λc u _ g=>g) (λc g=>by rw[qe (λz=>by rw[z,e]at g;cases g)];exact g) λc h g=>by rw[qe (λz=>by rw[z,e]at g;cases g)];exact g
 have:=I.un (t':=s.toks) u i;exact this
variable{tg:AK}{K:xA}
theorem OZ(a it:Ac)(o:Obj)(m:Am BI)(L:Nat)(g:Ab (af×V))(M:o.ExactDict)(J:o.data= .dict m L):iE P w K tg (oV a o g) [it] it (λi h=>h.IsKeyIter it a i m.size L) where
 mem:=by simp
 obj:=λi h st b f=>by
  have e:b=it:=by simpa using f
  subst e;obtain⟨o,e,c,d⟩:=st;exact⟨o,e,λv z=>by rw[d]at z;cases z⟩
 keep:=λi h j st k=>by
  obtain⟨o,e,r⟩:=st;exact⟨o,k it (by simp) o e,r⟩
 item:=by
  intro X n p q N i xC s σ H E I l st t;subst n p q;obtain⟨u,x⟩:=t;obtain⟨Z,S,T,vs,y,U,W,a0,Y,b0,O,_,A,c0⟩:=I.hok a _ u;rw[Z]at Y;cases Y
  rw[J]at O;cases O
  obtain⟨e,d0,e0⟩:=T_ A y<|aH x;obtain⟨B,C,f0,D,F,G⟩:=l it (by simp);refine sU st ⟨o,Z,M,J⟩ (e:=e) (by simpa using d0) λj R g0=>?_;have h0:ae X xC σ H {s with heap:=j}:=I.turned (t':=s.toks) (λb o f e=>(g0.2 b f).trans e) B C D F G;obtain⟨n0,i0,j0,k0⟩:=id R;exact⟨_,rfl,nk (s:={s with heap:=j}) i0 j0 k0 (by decide) ⟨kV g[i].1,H,h0,e0,⟨rfl,_,aH x,rfl⟩,R,λb f=>(l b f).1⟩⟩
 done:=by
  intro X n p q N i xC s σ H E I l st t;subst n p q;obtain⟨u,x⟩:=t;obtain⟨Z,S,T,vs,y,U,W,a0,Y,b0,O,_,A,c0⟩:=I.hok a _ u;rw[Z]at Y;cases Y
  rw[J]at O;cases O
  have o0:m.size=g.length:=by
   have l0:=A.length;have p0:g.length=vs.length:=Paired.length y;rw[aI]at l0
   lia
  obtain⟨B,C,f0,D,F,G⟩:=l it (by simp);exact ti (I.ok.hd N) st ⟨o,Z,M,J⟩ (by lia) λj m0=>⟨zr,I.turned (t':=s.toks) (λb o f e=>m0 b o f e) B C D F G⟩
 self:=by
  intro q0 i s Q E st h;exact Dx st h
inductive yr (R:It->Hp->Prop) (x:V) (b:Hp):Prop
 | mk:∀a c,(x= .ref a)->(((b a=Aa (.dK c)/\∀o,R (oV a o c) (upd b a (.frz o (.dK c))))\/ ∃o,b a=Aa (.frz o (.dK c))/\R (oV a o c) b))->yr R x b
def Oy(a:TE):TI:=λσ H R=>a σ H λx b=>yr R x b
variable{tl:TE}
def xn{l:AK}(k:PE X l tl):PI X tg l (Oy tl):=by
 intro xC s σ H R I h;refine am (k xC s σ H _ I h) λv c m=>?_;obtain⟨x,n,f,p,t⟩:=m;obtain⟨a,g,e,q⟩:=t;subst e;cases p
 obtain⟨H2,o,d,u,w⟩:∃H2 o,ae X xC σ H2 c/\H2 a=Aa (.frz o<|.dK g)/\R (oV a o g) H2:=by
  rcases q with ⟨e,q⟩ | ⟨o,e,q⟩
  .obtain⟨y,O,vs,z,o,es,i,ho,r⟩:=f.hok a _ e;exact⟨_,o,f.freeze e ho,qb,q o⟩
  .exact⟨n,o,f,e,q⟩
 obtain⟨Z,y,O,vs,z,B,es,i,Y,j,J,_,C,D⟩:=d.hok a _ u;rw[Z]at Y;cases Y
 refine vp O ⟨o,Z,j,J⟩ ?_;refine⟨c.heap.objs.size,[c.heap.objs.size],_,_,H2,zr,d.kept (t':=c.toks) λb o e=>aw _ e,OZ a _ o es i g j J,⟨_,bc _ rfl,zr,zr⟩,λb A=>?_,w⟩;have e:b=c.heap.objs.size:=by simpa using A
 subst e;exact d.fpOk (aj _)<|d.hok.fresh<|aj _
def cA(b:xE)(x:Str):Ac:=match b x with
 | some (.ref a)=>a
 | _=>0
variable{x:Str}{C:Ac}
def gn{a:xE}(h:a x=Aa (.ref C)):cA a x=C:=by
 unfold cA;rw[h]
structure bY (K:xA) (C:Ac) (m qual:Str) (st:AV) (ps:xD):Prop where
 ex:∃f fd,md K m qual st f fd/\lj K C m f/\∀us:Ab Ad,us.length=ps.length->EC fd ⟨us,[]⟩=AX (ps.zip us)
def Yh{m e:Str}{st:AV}{ps:xD}{f:Ac}{j:Ad}{n O:Ag Ac}{Z:Am (Ag Ad)}{kV J Y d g:Ad}
  (b:∀(kV J Y:Ad) (O:Ag Ac) (d g:Ad) (h:xH),h.length=ps.length->EC (PySem.W.fnOf m e (dr st) (bU st) (qf st) .none kV J Y O d g) ⟨h,[]⟩=AX (ps.zip h))
  (a:PySem.W.findIn K (.ref C) m=Aa (Aa<|.ref f)) (i:PySem.W.isFn K (.ref f)=true)
  (l:K.lookup f=Aa ⟨j,n,.func<|PySem.W.fnOf m e (dr st) (bU st) (qf st) .none kV J Y O d g,Z⟩) (c:PySem.W.codeIn K d e=true) (k:PySem.W.keepIn K (.ref f)=true):bY K C m e st ps:=
 ⟨f,_,MB (st:=st) l c k,⟨a,i,k⟩,b kV J Y O d g⟩
structure bh (P:Ai) (w:Al) (K:xA) (mg:xE) (base:AH) (k:Nat) (C:Ac) (m:Str) (ps:xD) (sp:Sp):Prop where
 ex:∃f fd,bZ P w K mg base CX0 k f fd ps sp/\lj K C m f/\df K fd ps []
theorem bY.ok{P:Ai}{w:Al}{K:xA}{c:xE}{d:AH}{C:Ac}{m b:Str}{st:AV}{N a:xD}{k:Nat}{sp:Sp}(T:bY K C m b st a)(S:aB N a (qf st))(g:∀vs H Q E,sp vs H Q E->vs.length=a.length)
  (J:∀(f:Ac) (e:Ad) (A:As) (h:Ab Env) (s:Af) (H:Hp) (vs:Ab V) (Q:VK) (E:XK),aR k (A.deeper<|CK b (qf st) s.heap.objs.size f e)->sp vs H Q E->
   ∃t,bf (eF CX0 P w K c d N b (qf st) f e A h s H E).nox (bU st) t/\t {nx:=λ_ i=>Q .non i,rt:=Q} (start N vs) H):bh P w K c d (k+1) C m a sp:=by
 obtain⟨f,j,F,l,n⟩:=T.ex;exact⟨f,j,F.ok S g<|J f,l,df.all n⟩
section
variable{X:Cx}{k k':Nat}{C:Ac}{ps ks:xD}{sp:Sp}{x m:Str}{p pos apos:Pos}{e o:AK}{es:Ab AK}{ta:TE}{t tk:TA}{kws:Ab Ei}
def ig{a:Sem AJ}(D:bh X.prog X.w X.K X.mg X.base k C m ps sp)(c:cU X.K C)(b:aR k' X.A)(d:PE X o ta)(g:PA X (e::es) t)(J:k<=k':=by decide)
  (Y:AA (e::es) X.env=(false,Bp e X.env)::AA es X.env:=by rfl) (O:(Bs pos<|AA es X.env).any (·.1)=false:=by rfl)
  (h:Bp (.Call (.Attribute o m apos) (e::es) [] pos) X.env=(do
   let ov <- Bp o X.env
   DL apos.atName
   let (f,first) <- Dp [ov] (CO ov m a)
   ED pos f first (Bs pos<|AA (e::es) X.env) (Cn pos<|BE [] X.env)):=by rfl):
  PE X (.Call (.Attribute o m apos) (e::es) [] pos) (nQ C m sp [] E0 ta t):=by
 obtain⟨f,l,F,i,j⟩:=D.ex;exact Mb d c i F (b.mono J) j .nil iV g Y O h
def Xd{a:Sem AJ}(D:bh X.prog X.w X.K X.mg X.base k C m ps sp)(c:cU X.K C)(b:aR k' X.A)(d:PE X o ta)(J:k<=k':=by decide)
  (e:Bp (.Call (.Attribute o m apos) [] [] pos) X.env=(do
   let ov <- Bp o X.env
   DL apos.atName
   let (f,first) <- Dp [ov] (CO ov m a)
   ED pos f first (Bs pos<|AA [] X.env) (Cn pos<|BE [] X.env)):=by rfl):
  PE X (.Call (.Attribute o m apos) [] [] pos) (nQ C m sp [] E0 ta eE):=by
 obtain⟨f,i,F,g,h⟩:=D.ex;exact Sn d c g F (b.mono J) h .nil iV e
def QC(C:Ac):TE:=λ_ H Q=>∀x a,H x=none->H a=none->a≠x->Q (.ref x) (upd (upd H a<|.own x) x<|.ins C a [])
def Vl{c:xG}{d:St}{H:Hp}{s:Af}{Q:VK}(f:PySem.W.makesIn X.K C=true)(g:PySem.W.findIn X.K (.ref C) "__init__"=Aa (Aa<|.builtin "object.__init__"))(I:ae X c d H s)
  (h:∀x a,H x=none->H a=none->a≠x->Q (.ref x) (upd (upd H a<|.own x) x<|.ins C a [])):Ak (Ao X.prog X.w) X.A (call (.ref C) []) (EP X c d Q) X.xe s:=by
 have i:=h (s.heap.objs.size+1) s.heap.objs.size (I.hok.fresh<|Du _) (I.hok.fresh<|aj _)<|aJ<|iw _;have j:=ae.made (C:=C) I;have Y:=PySem.W.makes_of (M:=Ao X.prog X.w) I.kIn f;refine DZ<|R_ I.kIn f g (λk=>PySem.W.Looks.of_pure<|PySem.W.oi_bind k) ?_;have l:((s.heap.push PySem.W.emptyDict).push<|PySem.W.instObj C s.heap.objs.size).get? (s.heap.objs.size+1)=Aa (PySem.W.instObj C s.heap.objs.size):=by
  have:=bc (s.heap.push PySem.W.emptyDict) (o:=PySem.W.instObj C s.heap.objs.size) rfl
  rwa [fi]at this
 have m:PySem.W.Looks (Ao X.prog X.w) ((s.heap.push PySem.W.emptyDict).push<|PySem.W.instObj C s.heap.objs.size) (Ft<|.ref<|s.heap.objs.size+1) (.ref C):=(PySem.W.Looks.ld l).andThen .now;have n:PySem.W.Looks (Ao X.prog X.w) ((s.heap.push PySem.W.emptyDict).push<|PySem.W.instObj C s.heap.objs.size) (Dl (.ref<|s.heap.objs.size+1)<|.type "object") true:=m.andThen (Y.top.keeps λb o e=>aw _<|aw _ e);refine BX PySem.W.oi_plain PySem.W.entry_oi<|@PySem.W.check_slot (Ao X.prog X.w) _ _ _ "object.__init__" "object" "__init__" (.ref<|s.heap.objs.size+1) [] [] _ PySem.W.oi_kind PySem.W.oi_split n (PySem.W.oi_args _) ?_;rw[PySem.W.oi_run];exact ah ⟨zr,JU<|s.heap.objs.size+1,_,j,zr,i⟩
def Qb(a:PySem.W.makesIn X.K C=true)(b:PySem.W.findIn X.K (.ref C) "__init__"=Aa (Aa<|.builtin "object.__init__"))(c:PySem.W.keepIn X.K (.ref C)=true)(d:Gl X x)(e:X.mg x=Aa (.ref C))
  (J:(x==("__debug__":Str))=false:=by decide):PE X (.Call (.Name x p) [] [] pos) (QC C):=by
 intro xC s σ H Q I h;refine jM<|jb I d e ?_ J;exact PySem.W.callWith_K0 I.kIn c<|Vl a b I h
structure sH (K:xA) (x qual:Str) (st:AV) (f:Ac) (fd:BD):Prop where
 ex:∃(oc:Ad) (od:Ag Ac) (dV kV doc pm:Ad) (an:Ag Ac) (cdv ct:Ad) (osl:Am (Ag Ad)),
  fd=PySem.W.fnOf x qual (dr st) (bU st) (qf st) dV kV doc pm an cdv ct/\K.lookup f=Aa ⟨oc,od,.func fd,osl⟩/\PySem.W.codeIn K cdv qual=true
def sH.ok{P:Ai}{w:Al}{K:xA}{e:xE}{g:AH}{x b:Str}{st:AV}{f:Ac}{i:BD}{N c:xD}{k:Nat}{sp:Sp}(F:sH K x b st f i)(S:aB N c (qf st))(j:∀vs H Q E,sp vs H Q E->vs.length=c.length)
  (J:∀(a:Ad) (A:As) (d:Ab Env) (s:Af) (H:Hp) (vs:Ab V) (Q:VK) (E:XK),aR k (A.deeper<|CK b (qf st) s.heap.objs.size f a)->sp vs H Q E->
   ∃t,bf (eF CX0 P w K e g N b (qf st) f a A d s H E).nox (bU st) t/\t {nx:=λ_ l=>Q .non l,rt:=Q} (start N vs) H):bZ P w K e g CX0 (k+1) f i c sp:=by
 obtain⟨o,p,r,kV,u,v,y,a,z,B,rfl,m,O⟩:=F.ex;refine pK m O S j λA d s H vs Q E n Y=>?_;obtain⟨t,h,q⟩:=J a A d s H vs Q E n Y;exact⟨t,h.nox,q⟩
structure MI (K:xA) (fd:BD) (y:Str) (dv:V):Prop where
 b0:∃u,av dv u/\df K fd ["self",y] [u]
 b1:df K fd ["self",y] []
 bk:∀(s:Af) (v z:Ad),K.In s.heap->Dq s fd ⟨[v],[(y,z)]⟩ [("self",v),(y,z)]
structure oZ (K:xA) (C:Ac) (qual y:Str) (st:AV) (dv:V):Prop where
 ex:∃f fd,sH K "__init__" qual st f fd/\PySem.W.findIn K (.ref C) "__init__"=Aa (Aa (.ref f))/\PySem.W.isFn K (.ref f)=true/\MI K fd y dv
def Tt{K:xA}{C:Ac}{b y:Str}{st:AV}{dv:V}{u:Ad}{f:Ac}{k:Ad}{m Y:Ag Ac}{n:Am (Ag Ad)}{Z kV J e d g:Ad}
    (a:PySem.W.findIn K (.ref C) "__init__"=Aa (Aa<|.ref f)) (i:PySem.W.isFn K (.ref f)=true)
    (l:K.lookup f=Aa ⟨k,m,.func<|PySem.W.fnOf "__init__" b (dr st) (bU st) (qf st) Z kV J e Y d g,n⟩) (c:PySem.W.codeIn K d b=true) (o:av dv u)
    (p:∀(s:Af) (v:Ad),K.In s.heap->Dq s (PySem.W.fnOf "__init__" b (dr st) (bU st) (qf st) Z kV J e Y d g) ⟨[v],[]⟩ [("self",v),(y,u)])
    (q:∀(s:Af) (v z:Ad),K.In s.heap->Dq s (PySem.W.fnOf "__init__" b (dr st) (bU st) (qf st) Z kV J e Y d g) ⟨[v,z],[]⟩ [("self",v),(y,z)])
    (r:∀(s:Af) (v z:Ad),K.In s.heap->Dq s (PySem.W.fnOf "__init__" b (dr st) (bU st) (qf st) Z kV J e Y d g) ⟨[v],[(y,z)]⟩ [("self",v),(y,z)]):oZ K C b y st dv:=by
  refine⟨f,_,⟨k,m,Z,kV,J,e,Y,d,g,n,zr,l,c⟩,a,i,⟨u,o,λs h X j=>?_⟩,λs h X j=>?_,r⟩
  · have O:h.length=1:=by
      rw[aX]at j;exact Ct j
    match h,O with
    | [v],_=>exact p s v X
  · have O:h.length=2:=by
      rw[dy]at j;exact j
    match h,O with
    | [v,z],_=>exact q s v z X
structure ph (P:Ai) (w:Al) (K:xA) (mg:xE) (base:AH) (k:Nat) (C:Ac) (y:Str) (dv:V) (sp:Sp):Prop where
 ex:∃f fd,bZ P w K mg base CX0 k f fd ["self",y] sp/\PySem.W.findIn K (.ref C) "__init__"=Aa (Aa (.ref f))/\PySem.W.isFn K (.ref f)=true/\MI K fd y dv
theorem oZ.ok{P:Ai}{w:Al}{K:xA}{b:xE}{c:AH}{C:Ac}{a y:Str}{st:AV}{d:V}{N:xD}{k:Nat}{sp:Sp}(T:oZ K C a y st d)(S:aB N ["self",y] (qf st))(g:∀vs H Q E,sp vs H Q E->vs.length=(["self",y]:xD).length)
  (J:∀(f:Ac) (e:Ad) (A:As) (h:Ab Env) (s:Af) (H:Hp) (vs:Ab V) (Q:VK) (E:XK),aR k (A.deeper<|CK a (qf st) s.heap.objs.size f e)->sp vs H Q E->
   ∃t,bf (eF CX0 P w K b c N a (qf st) f e A h s H E).nox (bU st) t/\t {nx:=λ_ i=>Q .non i,rt:=Q} (start N vs) H):ph P w K b c (k+1) C y d sp:=by
 obtain⟨f,j,F,l,m,n⟩:=T.ex;exact⟨f,j,F.ok S g<|J f,l,m,n⟩
variable{y:Str}{dv:V}
def XX(D:ph X.prog X.w X.K X.mg X.base k C y dv sp)(a:PySem.W.makesIn X.K C=true)(b:PySem.W.keepIn X.K (.ref C)=true)(c:aR k' X.A)(d:Gl X x)(e:X.mg x=Aa (.ref C))(O:k+1<=k':=by decide)
  (J:(x==("__debug__":Str))=false:=by decide):PE X (.Call (.Name x p) [] [] pos) (lT C sp [dv] E0 eE):=by
 obtain⟨f,m,F,g,h,i⟩:=D.ex;obtain⟨u,j,l⟩:=i.b0;exact Tp ⟨a,g,h,b⟩ F (c.mono O) d e l (.cons j .nil) iV J
def Qa(D:ph X.prog X.w X.K X.mg X.base k C y dv sp)(a:PySem.W.makesIn X.K C=true)(b:PySem.W.keepIn X.K (.ref C)=true)(c:aR k' X.A)(d:Gl X x)(g:X.mg x=Aa (.ref C))(h:PA X (e::es) t)(O:k+1<=k':=by decide)
  (J:(x==("__debug__":Str))=false:=by decide) (i:AA (e::es) X.env=(false,Bp e X.env)::AA es X.env:=by rfl) (Y:(Bs pos<|AA es X.env).any (·.1)=false:=by rfl):PE X (.Call (.Name x p) (e::es) [] pos) (lT C sp [] E0 t):=by
 obtain⟨f,n,F,j,l,m⟩:=D.ex;exact KI ⟨a,j,l,b⟩ F (c.mono O) d g m.b1 .nil iV h J i Y
end
open PySem.W
def bB(x y:Int):AJ:=decide (x < y)
def gP:Kc bB:=Tim.ul
def gC:Ad->Int
 | .int x _=>x
 | _=>0
def qS{J:Ab Int}:∀{d:xH},ap (J.map JN) d->d.map gC=J/\(∀u∈d,∃x t,u= .int x t)/\Gk d J:=by
 induction J with
 | nil=>
  intro d r;cases r
  exact⟨rfl,(λ_ z=>nomatch z),.nil⟩
 | cons x J e=>
  intro d r;cases r with
  | cons f g=>
   obtain⟨t,rfl⟩:=f;obtain⟨a,b,c⟩:=e g;refine⟨by rw[au,a];rfl,λu O=>?_,.cons x t c⟩;rcases aA.mp O with rfl | O
   .exact⟨x,t,zr⟩
   .exact b u O
theorem rU:∀{a:xH},(∀u∈a,∃x t,u= .int x t)->ap ((a.map gC).map JN) a
 | [],_=> .nil
 | u::a,h=>by
  obtain⟨x,t,rfl⟩:=h u (be ..);exact .cons ⟨t,zr⟩ (rU λv b=>h v<|bb _ b)
variable{prog:Ai}{A:As}{s:Af}
def zk{g:Ab Int}{b:xH}(r:ap (g.map JN) b):Kr prog w A s a b (λv=>Kg bB (b.map gC)<|gC v):=by
 intro h i _;obtain⟨j,d,c⟩:=qS r;refine⟨Gr,λE Q q=>?_,λx e y f E Q q=>?_⟩
 .match b,h,c with
  | v1::k::l,_,c=>
   rw[keyKind_ints c];exact ah q
 .rw[<- Kv gP gC e f]at q;obtain⟨m,t,rfl⟩:=d x e;obtain⟨n,u,rfl⟩:=d y f;rw[Fx];exact oneLt_int q
inductive zf (K:xA) (b:Ab V) (H:Hp) (Q:VK):Prop
 | mk:∀p a,(b=[.ref p])->((aK K H p (a.map JN)\/ aU K H p (a.map JN)))->(∀l,H l=none->Q (.ref l) (upd H l (.lst ((JQ bB a).map JN))))->zf K b H Q
def rX(K:xA)(y:X.K=K:=by rfl):cu X (.builtin "sorted") (zf K):=by
 subst y;intro xC s σ H U W Q I r h;obtain⟨p,Z,rfl,g,q⟩:=h;obtain⟨u,rfl,A⟩:=dz r;cases A
 obtain⟨T,o,b,n,B,C,D,E,f,i⟩:∃(T:BL) (o:Obj) (b:xH) (n:Nat),(T="list"\/ T="tuple")/\s.heap.get? p=Aa o/\o.cls= .type T/\o.data= .seq b.toArray n/\ap (Z.map JN) b/\(Z.map JN).length<=sizeLine:=by
  rcases g with g | g
  .obtain⟨b,f,⟨o,n,e,c,_,d⟩,z⟩:=I.list g;exact⟨"list",o,b,n,.inl rfl,e,c,d,f,z⟩
  .obtain⟨b,f,⟨o,e,c,n,d⟩,z⟩:=I.tuple g;exact⟨"tuple",o,b,n,.inr rfl,e,c,d,f,z⟩
 have j:b.length<=sizeLine:=by rw[<- f.length];exact i
 obtain⟨F,G,_⟩:=qS f;refine kK (vs:=b) (rk:=λv=>Kg bB (b.map gC)<|gC v) j (λL a0 R _ k=>sS B C D E (by rw[aP];exact j) (by rw[ey];exact k)) (λL b0 a _ _ _=>zk f) λM l n c0 d0 m N J P=>?_;have Y:∀u∈M.toList,∃x t,u= .int x t:=λu S=>G u<|m.perm.mem_iff.mp S;have w:=Ko gP gC m;rw[F]at w;have O:=rU Y;rw[w]at O;exact I.jz O (by rw[ai,(JW bB Z).length_eq];rw[ai]at i;exact i) N J P<|q l<|I.hok.fresh J
section
variable{X:Cx}{xC:xG}{σ:St}{H:Hp}{s:Af}{a:Ac}{kvs:Ab (af×V)}{k:af}{z:V}{u r:Ad}{A:As}{E:xB}
theorem Qh{Q:xB}(I:ae X xC σ H s)(e:H a=Aa (.dK kvs))(x:kvs.length < sizeLine)(h:av (kV k) u)(i:av z r)
  (j:∀v Z c,ao kvs k=Aa v->ae X xC σ H c->av v Z->Q Z c) (l:ao kvs k=none->∀c,ae X xC σ (upd H a<|.dK<|aq kvs k z) c->Q r c):
  Ak (Ao X.prog X.w) A (call (.builtin "dict.setdefault") [.ref a,u,r]) Q E s:=by
 obtain⟨m,d,vs,J,f⟩:=xV I.hok e;have b:=J.val k;refine DO PySem.F.slot_dict_setdefault f.typeIs PySem.F.entry_dict_setdefault (PySem.F.args_dict_setdefault_3 _ _ _) (kt_meets_setdefault (qv X.prog X.w) a (iC h) d r) ⟨vs,f,by rw[<- J.length];exact m,λZ g=>?_,λn o O p=>?_⟩
 .cases Y:ao kvs k with
  | none=>
   rw[Y,g]at b;exact b.elim
  | some v=>
   rw[Y,g]at b;exact j v Z _ Y (I.tok _) b
 .have hp:(aq kvs k z).length<=sizeLine:=by have:=jX kvs k z;lia
  have t:∃q,o.get? a=Aa q:=let ⟨q,_,_,w,_⟩:=O;⟨q,w⟩
  refine l ?_ _<|mW I (by rw[e];exact Ay) p t<|ww hp d (J.put k i) O;cases Y:ao kvs k with
  | none=>rfl
  | some v=>
   rw[Y,n]at b;exact b.elim
end
inductive Lm (ty:TE) (f:TE) (c:St) (Q:VK) (x:V) (d:Hp):Prop
 | mk:∀a,(x= .ref a)->(sF d a)->(ty c d λy g=>f c g λz e=>∃b k,e a=Aa (.dK b)/\y=kV k/\b.length < sizeLine/\
 (∀v,ao b k=Aa v->Q v e)/\(ao b k=none->Q z (upd e a (.dK (aq b k z)))))->Lm ty f c Q x d
def VS(a ty b:TE):TE:=λσ H Q=>a σ H λx c=>Lm ty b σ Q x c
variable{o f e:AK}{apos cpos:Pos}{td ty tx:TE}
def sR(i:PE X o td)(j:PE X e ty)(l:PE X f tx)(m:M2 X o "setdefault" apos e f cpos):PE X (.Call (.Attribute o "setdefault" apos) [e,f] [] cpos) (VS td ty tx):=by
 intro xC s σ H Q I h;refine CY m.base m.few m.line PySem.F.plainAttrs_dict PySem.F.slot_dict_setdefault PySem.F.type_dict_setdefault (am (i xC s σ H _ I h) λu n O=>?_);obtain⟨x,p,c,q,a,r,d,t⟩:=O;subst r;obtain rfl:u=Aw a:=q;obtain⟨w,A,_⟩:=My c d;refine⟨w,A,?_⟩;rw[m.trees];refine Bx rfl (BF<|Bt<|am (j xC n σ p _ c t) λW B ⟨y,C,D,E,F⟩=>
  Bt<|am (l xC B σ C _ D F) λY Z ⟨z,G,K,g,a0,k,L,M,N,P,R⟩=>Cg ?_)
 subst M;exact Qh K L N E g (λv b0 S T b J=>⟨_,G,b,J,P v T⟩) λU S b=>⟨z,_,b,g,R U⟩
def bI(w:Al):AJ:=w.params.followText "set-order"
def cX(P:Ai)(w:Al)(h:AH)(a:Ac)(b:xD):Prop:=
 ∃o es c t,h.get? a=Aa o/\o.ExactSet/\o.data= .set es c t/\Hm (strKind P w) es.toList/\es.toList.map (λe=>bO e.2)=b/\b.Nodup/\es.size < scanBound/\t.fits es.size=true/\t.led= !bI w/\(0 < es.size->t.plain=false)
def Pg(t:Cp)(j:Nat):(t.put j).1.led=t.led/\(t.put j).1.plain=t.plain:=⟨rfl,rfl⟩
def XG(t:Cp)(n:Nat):(t.orStandIn n).led=t.led:=by
 unfold SetTable.orStandIn SetTable.standIn;split <;> rfl
def Qm(t:Cp)(a:Am (Int×Ad))(h:Int)(x:Ad):(layNew t a h x).2.1.led=t.led:=by
 unfold layNew;split
 .dsimp only
  rw[XG];exact(Pg _ _).1
 .rfl
def TX(t:Cp)(a:Am (Int×Ad))(n:Nat):(EK t a n).2.1.led=t.led/\(t.plain=false->(EK t a n).2.1.plain=false):=by
 unfold EK;split
 .rename_i t' order e;have b:t'.led=t.led/\t'.plain=t.plain:=by
   unfold SetTable.relaid SetTable.laid at e;cases q:SetTable.layClean (SetTable.sizeAbove n - 1) (a.map (·.1)) with
   | none=>
    rw[q]at e;cases e
   | some c=>
    rw[q]at e;cases e
    exact⟨zr,zr⟩
  dsimp only
  split
  .exact⟨b.1,λz=>b.2.trans z⟩
  .exact⟨zr,λ_=>rfl⟩
 .exact⟨zr,λ_=>rfl⟩
def uT{v:Ad}(h:(strKind P w).is x v=true):bO v=x/\∃t,v= .str x t:=by
 obtain⟨t,rfl⟩:=FP (x:=x) (v:=v) h;exact⟨zr,t,zr⟩
def xY{b:Ab (Int×Ad)}(h:Hm (strKind P w) b)(x:Str):x∈b.map (λe=>bO e.2)↔∃e∈b,(strKind P w).is x e.2=true:=by
 constructor
 .intro hx;obtain⟨e,J,rfl⟩:=aE.mp hx;obtain⟨⟨k,a,_⟩,_⟩:=h e J;exact⟨e,J,by rw[(uT a).1];exact a⟩
 .rintro ⟨e,J,a⟩;exact aE.mpr ⟨e,J,(uT a).1⟩
variable{es:Am (Int×Ad)}{t:Cp}{o:Obj}{h:AH}{ep:Nat}
def KE(f:h.get? a=Aa o)(Y:o.ExactSet)(c:o.data= .set es ep t)
  {J:Am (Int×Ad)} {b:Cp} (O:Hm (strKind P w) J.toList) (Z:(J.toList.map λe=>bO e.2).Nodup) (g:J.size < scanBound) (i:b.fits J.size=true) (j:b.led= !bI w) (k:b.plain=false):
  (h.update a<|E6 J b).get? a=Aa {o with data:= .set J (ep+1) b}/\cX P w (h.update a<|E6 J b) a (J.toList.map λe=>bO e.2):=by
 have d:(h.update a<|E6 J b).get? a=Aa {o with data:= .set J (ep+1) b}:=by
  have:=hH (E6 J b) f (by rw[putSet_of J b c];rfl);rw[putSet_of J b c]at this;exact this
 exact⟨d,_,J,ep+1,b,d,Y,zr,O,zr,Z,g,i,j,λ_=>k⟩
variable{E:xB}{xs:xD}{Q:AJ->Af->Prop}
def TB{g:Tok}(L:cX P w s.heap a xs)(j0:xs.length+1 < scanBound)
  (h:∀b d f,Bn a s.heap d->cX P w d a f->(if x∈xs then f=xs else f.Perm (xs++ [x]))->Q b {s with heap:=d}):
  Ak (Ao P w) A (IW a (.str x g)<|(strKind P w).hash x) Q E s:=by
 obtain⟨o,es,ep,t,l,M,m,i,n,k0,l0,N,R,A0⟩:=id L;have S:(strKind P w).is x (.str x g)=true:=strKind_is P w x g;have B:(De x g).scannable=true:=rfl;have m0:es.size=xs.length:=by rw[<- n,ai,aI]
 have n0:es.size+1 < scanBound:=by rw[m0];exact j0
 unfold IW setAddHashedIn;refine dG<|ac<|lP l m N ?_
 dsimp only
 rw[byScan_of B l0 i];simp only[↓reduceIte];unfold setAddByScan;refine ac ?_;refine ac<|eS ?_;refine ac<|wpAny_setScan_of S l m N i ?_;cases T:List.findIdx? (λe=>(strKind P w).is x e.2) es.toList with
 | some H0=>
  dsimp only
  obtain⟨o0,p0,_⟩:=List.findIdx?_eq_some_iff_getElem.mp T;have j:x∈xs:=by rw[<- n];exact(xY i x).mpr ⟨_,iK o0,p0⟩
  refine ah<|ah ?_;have e:s={s with heap:=s.heap}:=by cases s;rfl
  have:=h false s.heap xs (Gu a s.heap) L (by rw[Ah j]);rw[e];exact this
 | none=>
  dsimp only
  have j:¬ x∈xs:=λU=>by
   rw[<- n]at U;obtain⟨e,q0,hp⟩:=(xY i x).mp U;have:=List.findIdx?_eq_none_iff.mp T e q0;rw[hp]at this;cases this
  have W:∀(b:AJ) {s₁:Af} {C:Ge->Af->Prop},C () s₁->Ak (Ao P w) A (match b with | true=>rule "set.scan.the-table-gave-way" | false=>AX ()) C E s₁:=
   λb s₁ C X=>by cases b <;> first | exact ah X | exact eS X
  have O:=layNew_perm t es ((strKind P w).hash x)<|.str x g;have Y:=layNew_fits t es ((strKind P w).hash x)<|.str x g;have p:=Qm t es ((strKind P w).hash x)<|.str x g;generalize J0:layNew t es ((strKind P w).hash x) (.str x g)=r0 at O Y p ⊢;obtain⟨J,a0,Z,K0⟩:=r0
  dsimp only at O Y p ⊢
  rw[mP]at O;have b0:Hm (strKind P w) J.toList:=(i.push S B).perm O;have D:(J.toList.map λe=>bO e.2).Perm (xs++ [x]):=by
   have:=O.map λe:Int×Ad=>bO e.2;rw[a_,n]at this;exact this
  have c0:(xs++ [x]).Nodup:=me.mpr ⟨k0,by simp,λu s0 v t0 e=>j (by rw[aM.mp t0]at e;exact e ▸ s0)⟩;have F:J.size < scanBound:=by rw[<- aI,O.length_eq,aX,aI];simpa using n0
  refine ac<|W _ ?_;have tail:∀c:Cp,c.fits J.size=true->c.led=a0.led->c.plain=false->Ak (Ao P w) A (do
    storeSet a J c
    if (!Z&&c.tooFull)=true then do
      (match (EK c J<|B2 J.size).2.2 with | true=>rule "set.scan.the-table-gave-way" | false=>AX ())
      storeSet a (EK c J<|B2 J.size).1 (EK c J<|B2 J.size).2.1
      AX (Aa true)
     else AX (Aa true)) (λr k=>∃d f,r=Aa true/\k={s with heap:=d}/\Bn a s.heap d/\cX P w d a f/\f.Perm (xs++ [x])) E s:=λc u0 d0 e0=>by
   refine ac<|Gw l m ?_<|C1 F;obtain⟨f0,v0⟩:=KE (P:=P) (w:=w) l M m b0 (D.nodup_iff.mpr c0) F u0 (by rw[d0,p,R]) e0;have g0:=cT s.heap a<|E6 J c;split
   .have hp:=relayAll_perm c J<|B2 J.size;have G:=relayAll_fits c J<|B2 J.size;have q:=TX c J<|B2 J.size;generalize L0:EK c J (B2 J.size)=w0 at hp G q ⊢;obtain⟨y,M0,N0⟩:=w0
    dsimp only at hp G q ⊢
    have x0:Hm (strKind P w) y.toList:=b0.perm hp;have y0:y.size=J.size:=by rw[<- aI,hp.length_eq,aI]
    have h0:y.size < scanBound:=by rw[y0];exact F
    have i0:(y.toList.map λe=>bO e.2).Perm (xs++ [x]):=(hp.map _).trans D;refine ac<|W _ ?_;refine ac<|Gw f0 rfl ?_<|C1 h0;obtain⟨_,z0⟩:=KE (P:=P) (w:=w) f0 M rfl x0 (i0.nodup_iff.mpr c0) h0 G (by rw[q.1,d0,p,R])<|q.2 e0;exact ah ⟨_,_,zr,zr,g0.trans<|cT _ a _,z0,i0⟩
   .exact ah ⟨_,_,zr,zr,g0,v0,D⟩
  split
  .rename_i b2;refine ac ?_;rw[hashByValue_scannable 8 B];refine ah ?_;refine bK (tail _ (SetTable.fits_plain_off Y) rfl rfl) (λr k z=>?_) λe k z=>z;obtain⟨d,f,rfl,rfl,H,I,K⟩:=z;exact ah<|h true d f H I (by rw[Ae j];exact K)
  .rename_i b2;refine ac<|ah ?_;simp only[↓reduceIte];refine bK (tail a0 Y rfl<|by simpa using b2) (λr k z=>?_) λe k z=>z;obtain⟨d,f,rfl,rfl,H,I,K⟩:=z;exact ah<|h true d f H I (by rw[Ae j];exact K)
variable{h':AH}
def cX.keep(x:cX P w h a xs)(k:∀o,h.get? a=Aa o->h'.get? a=Aa o):cX P w h' a xs:=by
 obtain⟨o,es,ep,t,b,r⟩:=x;exact⟨o,es,ep,t,k o b,r⟩
section
variable{prog:Ai}{w:Al}{A:As}{R:CJ->Af->Prop}{I:Ac}{fp wr:Ab Ac}{G:Am EA->Am EA->Prop}{n:Nat}{P:Nat->Ad->Prop}{St:Nat->Af->Prop}
def hD(b:Nat->Str)(i:Nat)(a:xD):Prop:=(∀x,x∈a↔∃j,j < i/\b j=x)/\a.length<=i
theorem hD.next{a:Nat->Str}{i:Nat}{b zs:xD}(h:hD a i b)(e:if a i∈b then zs=b else zs.Perm (b++ [a i])):hD a (i+1) zs:=by
 have step:∀x,(∃j,j < i+1/\a j=x)↔(∃j,j < i/\a j=x)\/ x=a i:=λx=>by
  constructor
  .rintro ⟨j,hj,rfl⟩;rcases EO j i with d | d
   .exact .inl ⟨j,d,zr⟩
   .exact .inr (by rw[show j=i by lia])
  .rintro (⟨j,hj,rfl⟩ | rfl)
   .exact⟨j,by lia,zr⟩
   .exact⟨i,iw _,zr⟩
 by_cases c:a i∈b
 .rw[Ah c]at e;subst e;refine⟨λx=>?_,Ci h.2⟩;rw[step,<- h.1 x];exact⟨.inl,λz=>z.elim id λq=>q ▸ c⟩
 .rw[Ae c]at e;refine⟨λx=>?_,?_⟩
  .rw[step,e.mem_iff,aF,aM,h.1 x]
  .rw[e.length_eq,aX];exact fP h.2
theorem KZ(W:WalksS prog w A.in1 I fp wr G n P St)(S:Ac)(l:S∉fp)(c:Nat->Str)(r:∀i v,P i v->∃t,v= .str (c i) t)(d:n+1 < scanBound):
  ∀(k i:Nat) (s:Af) (ys:xD),n - i=k->i<=n->St i s->cX prog w s.heap S ys->hD c i ys->
   (∀a g,Moved (S::wr) G s a->cX prog w a.heap S g->hD c n g->R (.ok<|.ret .none) a)->
   BQ (Ao prog w) A (.builtin "set.update.loop" ⟨[.ref S,.ref I],[]⟩) R s:=by
 have m:S∉wr:=λh=>l<|W.sub _ h;have O:∀b∈wr,b∈S::wr:=λb d=>bb _ d;intro k
 induction k with
 | zero=>
  intro i s ys u x Y j J hR;have e:i=n:=by lia
  subst e;refine ek EL ?_;rw[Bb CS _];show Ak _ A.in1 (Cm (.ref I) >>=_) _ _ s;refine ac (W.done s _ _ Y λa f=>?_);show Ak _ A.in1 (ret Bw) _ _ a;exact ah<|hR a ys (f.mono O) (j.keep λo e=>f.heap S o m e) J
 | succ k y=>
  intro i s ys u x Y j J hR;have p:i < n:=by lia
  refine ek EL ?_;rw[Bb CS _];show Ak _ A.in1 (Cm (.ref I) >>=_) _ _ s;refine ac (W.item i s _ _ p Y λv a z B f=>?_);obtain⟨t,rfl⟩:=r i v z;have C:cX prog w a.heap S ys:=j.keep λo e=>f.heap S o m e;show Ak _ A.in1 (Dp [De (c i) t] (setAdd S<|.str (c i) t) >>=_) _ _ a;refine ac<|dG ?_;unfold setAdd;refine dG ?_;refine ac<|(strKind prog w).pyHash (k:=c i) (strKind_is _ _ _ _) ?_;refine TB (s:={a with toks:=a.toks+1}) C (by have:=J.2;lia) λb h' g q D E=>?_;refine ah ⟨BC CS _,y (i+1) _ g (by lia) p (W.frame _ a _ _ B (Du _) λb d o e=>?_) D (J.next E) λF H K Z L=>?_⟩
  .rw[q.2 b λh:b=S=>l (by rw[<- h];exact d)];exact e
  .refine hR F H (Moved.trans W.gtrans ((f.mono O).then_heap (Du _) λb o d e=>?_) K) Z L;rw[q.2 b λh:b=S=>d (by rw[h];exact be)];exact e
end
def Lj(a:Ad){Q₁:xB}
  (h:Q₁ (.ref s.heap.objs.size) {s with heap:=s.heap.push {cls:= .type "set",dict:=none,data:= .set #[] 0 (.fresh 0 0<|!bI w)}}):
  BQ (Ao prog w) A (.call (.builtin "set.__new__") ⟨[.type "set",a],[]⟩) (wants Q₁ E) s:=by
 refine Ff ?_;show Ak _ A.in1 (do EM "set.__new__" ⟨[.type "set",a],[]⟩;again (.builtin "set.__new__" ⟨[.type "set",a],[]⟩)) _ _ s;refine ac<|GW (PySem.F.newCall_set_1 a)<|ah ⟨BC Hg _,ek F.entry_set_new ?_⟩;rw[Bb Hg _];unfold Bl.«set.__new__» Builtin.Frozenset.newClass;have J:=sub_set_self;obtain⟨b,g,d,c,os⟩:=s
 dsimp only
 wp_walk
 refine nV<|ah ?_
 dsimp only
 simp only[newObj];refine ac<|wpAny_alloc<|ah ?_;exact ah h
def MZ(e:h.get? a=Aa {cls:= .type "set",dict:=none,data:= .set #[] 0 (.fresh 0 0<|!bI w)}):cX P w h a []:=
 ⟨_,#[],0,_,e,⟨rfl,rfl,rfl⟩,rfl,λe b=>by simp at b,rfl,dH,by decide,by rfl,rfl,λz=>Au z<|by decide⟩
def zt{a:xH}{J:xD}(h:IT a J)(i:Nat)(v:Ad)(e:a[i]? =Aa v):∃t,v= .str (J.getD i "") t:=by
 induction h generalizing i with
 | nil=>simp at e
 | cons x t c b=>
  cases i with
  | zero=>
   simp at e
   exact⟨t,e.symm⟩
  | succ i=>exact b i (by simpa using e)
def RE:FN (.type "list") (.type "set")=AX false:=by rw[B3];kernel_rfl
def YZ:FN (.type "list") (.type "frozenset")=AX false:=by rw[B3];kernel_rfl
variable{J:Am Ad}
set_option maxHeartbeats 3200000 in
theorem WI{l:Ac}{d:xD}{Q:xB}(C:A.handled=none)(D:s.heap.IsList l J)(F:IT J.toList d)(f:J.size+1 < scanBound)
  (h:∀(h':AH) (g:Nat) (a:xD),cX prog w h' s.heap.objs.size a->hD (λi=>d.getD i "") J.size a->(∀b o,b < s.heap.objs.size->s.heap.get? b=Aa o->h'.get? b=Aa o)->Q (.ref s.heap.objs.size) {s with heap:=h',toks:=g}):
  Ak (Ao prog w) A (call (.type "set") [.ref l]) Q E s:=by
 obtain⟨c,tl,l0⟩:=PySem.F.called_set.mro;have m0:=PySem.F.called_set.made;have n0:=PySem.F.called_set.sub;refine DZ<|Ff ?_;show Ak _ _ (callAny (.type "set") _) _ _ _;refine ah ⟨CL _ (by decide+kernel),ek PySem.F.entry_type_call ?_⟩;rw[Ga (Fo "set" [.ref l] []) rfl];have o0:=PySem.F.called_set.notType;have p0:=PySem.F.called_set.canCreate;have q0:=PySem.F.typeCall_set_1 (.ref l)
 repeat (any_goals (first | assumption | wp_step))
 refine eZ (Lj (.ref l) (E:=E) (Q₁:=λn p=>n= .ref s.heap.objs.size/\p={s with heap:=s.heap.push {cls:= .type "set",dict:=none,data:= .set #[] 0 (.fresh 0 0<|!bI w)}}) ⟨rfl,rfl⟩) λr p k=>?_;cases r with
 | error e=>exact k
 | ok G=>
  cases G with
  | ret n=>
   obtain⟨rfl,rfl⟩:=k;have q:(s.heap.push {cls:= .type "set",dict:=none,data:= .set #[] 0 (.fresh 0 0<|!bI w)}).get? s.heap.objs.size=Aa {cls:= .type "set",dict:=none,data:= .set #[] 0 (.fresh 0 0<|!bI w)}:=bc _ rfl;have H:Is {s with heap:=s.heap.push {cls:= .type "set",dict:=none,data:= .set #[] 0 (.fresh 0 0<|!bI w)}} (.ref s.heap.objs.size) "set":=⟨_,q,rfl⟩;have r0:=PySem.F.called_set.init.lookup;have s0:=PySem.F.called_set.init.bind (.ref s.heap.objs.size)
   repeat (any_goals (first | assumption | wp_step))
   refine eZ (BX (R:=wants (λr u=>r= .none/\∃h' g a,u={s with heap:=h',toks:=g}/\cX prog w h' s.heap.objs.size a/\hD (λi=>d.getD i "") J.size a/\
     (∀b o,b < s.heap.objs.size->s.heap.get? b=Aa o->h'.get? b=Aa o)) E) PySem.F.called_set.init.plain PySem.F.entry_set_init<|KU H ?_) λI u Z=>?_
   .obtain⟨ol,a7,a2,nl,a3⟩:=D;obtain⟨t0,K,u0,O⟩:=ol;simp only at a2 a3;subst a2;subst a3;have L:(s.heap.push {cls:= .type "set",dict:=none,data:= .set #[] 0 (.fresh 0 0<|!bI w)}).get? l=Aa {cls:= .type "list",dict:=K,data:= .seq J nl,slots:=O}:=aw _ a7;have v0:=RE;have w0:=YZ;have x0:(AN "list"==AN "dict")=false:=by decide
    have y:(s.heap.push {cls:= .type "set",dict:=none,data:= .set #[] 0 (.fresh 0 0<|!bI w)}).IsList l J:=⟨_,L,rfl,nl,rfl⟩;unfold Bl.«set.__init__» noKeywords DG;generalize M:ET=PI
    wp_walk
    subst M;refine gK y ?_;refine ac<|C0 ?_;have B:l < s.heap.objs.size:=aC a7;have N:A.in1.in1.in1.handled=none:=by simp[C]
    have P:l≠(s.heap.push {cls:= .type "set",dict:=none,data:= .set #[] 0 (.fresh 0 0<|!bI w)}).objs.size:=by
     rw[fi];exact aJ<|iN B
    have S:s.heap.objs.size∉ [(s.heap.push {cls:= .type "set",dict:=none,data:= .set #[] 0 (.fresh 0 0<|!bI w)}).objs.size,l]:=by
     rw[fi];simp only[aA,aM,cc,Bf,E7];exact⟨aJ<|iw _,ge B⟩
    have T:∀(i:Nat) (v:Ad),J[i]? =Aa v->∃t,v= .str ((λi=>d.getD i "") i) t:=λi v U=>zt F i v (by rw[bG];exact U);refine KZ ((F7 N _ l P J).toS) s.heap.objs.size S (λi=>d.getD i "") T f (J.size - 0) 0 _ [] (by lia) (ba _)
     ⟨⟨_,bc _ rfl,rfl,rfl⟩,y.push _⟩ (MZ<|aw _ q) ⟨λx=>⟨(λz=>nomatch z),λ⟨y0,z,_⟩=>Au z<|DF _⟩,aj _⟩ ?hR
    case hR=>
     intro W X j Y m;obtain⟨h',a0,b0,c0,d0⟩:=W;have e0:a0=s.gens:=j.gens;have f0:b0=s.drawn:=j.drawn;have g0:d0=s.os:=j.os;subst e0;subst f0;subst g0;show Ak _ _ _ _ _ _;refine ah ?_;show Ak _ _ (ret Bw) _ _ _;refine ah ⟨zr,h',c0,X,zr,Y,m,λb o f e=>?_⟩;have h0:b≠s.heap.objs.size:=aJ f;have i0:b≠(s.heap.push {cls:= .type "set",dict:=none,data:= .set #[] 0 (.fresh 0 0<|!bI w)}).objs.size:=by
      rw[fi];exact aJ<|iN f
     exact j.heap b o (by simp only[aA,aM,cc,Bf,E7];exact⟨h0,i0⟩)<|aw _<|aw _ e
   .cases I with
    | error e=>exact Z
    | ok j0=>
     cases j0 with
     | ret r=>
      obtain⟨rfl,h',g,a,rfl,Y,m,k0⟩:=Z
      repeat (any_goals (first | assumption | wp_step))
      exact h _ _ _ Y m k0
     | _=>exact Z.elim
  | _=>exact k.elim
def SO:FN (.type "tuple") (.type "set")=AX false:=by rw[B3];kernel_rfl
def OR:FN (.type "tuple") (.type "frozenset")=AX false:=by rw[B3];kernel_rfl
set_option maxHeartbeats 3200000 in
theorem UB{l:Ac}{d:xD}{Q:xB}(C:A.handled=none)(D:s.heap.IsTuple l J)(F:IT J.toList d)(f:J.size+1 < scanBound)
  (h:∀(h':AH) (g:Nat) (a:xD),cX prog w h' s.heap.objs.size a->hD (λi=>d.getD i "") J.size a->(∀b o,b < s.heap.objs.size->s.heap.get? b=Aa o->h'.get? b=Aa o)->Q (.ref s.heap.objs.size) {s with heap:=h',toks:=g}):
  Ak (Ao prog w) A (call (.type "set") [.ref l]) Q E s:=by
 obtain⟨c,tl,l0⟩:=PySem.F.called_set.mro;have m0:=PySem.F.called_set.made;have n0:=PySem.F.called_set.sub;refine DZ<|Ff ?_;show Ak _ _ (callAny (.type "set") _) _ _ _;refine ah ⟨CL _ (by decide+kernel),ek PySem.F.entry_type_call ?_⟩;rw[Ga (Fo "set" [.ref l] []) rfl];have o0:=PySem.F.called_set.notType;have p0:=PySem.F.called_set.canCreate;have q0:=PySem.F.typeCall_set_1 (.ref l)
 repeat (any_goals (first | assumption | wp_step))
 refine eZ (Lj (.ref l) (E:=E) (Q₁:=λn p=>n= .ref s.heap.objs.size/\p={s with heap:=s.heap.push {cls:= .type "set",dict:=none,data:= .set #[] 0 (.fresh 0 0<|!bI w)}}) ⟨rfl,rfl⟩) λr p k=>?_;cases r with
 | error e=>exact k
 | ok G=>
  cases G with
  | ret n=>
   obtain⟨rfl,rfl⟩:=k;have q:(s.heap.push {cls:= .type "set",dict:=none,data:= .set #[] 0 (.fresh 0 0<|!bI w)}).get? s.heap.objs.size=Aa {cls:= .type "set",dict:=none,data:= .set #[] 0 (.fresh 0 0<|!bI w)}:=bc _ rfl;have H:Is {s with heap:=s.heap.push {cls:= .type "set",dict:=none,data:= .set #[] 0 (.fresh 0 0<|!bI w)}} (.ref s.heap.objs.size) "set":=⟨_,q,rfl⟩;have r0:=PySem.F.called_set.init.lookup;have s0:=PySem.F.called_set.init.bind (.ref s.heap.objs.size)
   repeat (any_goals (first | assumption | wp_step))
   refine eZ (BX (R:=wants (λr u=>r= .none/\∃h' g a,u={s with heap:=h',toks:=g}/\cX prog w h' s.heap.objs.size a/\hD (λi=>d.getD i "") J.size a/\
     (∀b o,b < s.heap.objs.size->s.heap.get? b=Aa o->h'.get? b=Aa o)) E) PySem.F.called_set.init.plain PySem.F.entry_set_init<|KU H ?_) λI u Z=>?_
   .obtain⟨ol,a7,a2,nl,a3⟩:=D;obtain⟨t0,K,u0,O⟩:=ol;simp only at a2 a3;subst a2;subst a3;have L:(s.heap.push {cls:= .type "set",dict:=none,data:= .set #[] 0 (.fresh 0 0<|!bI w)}).get? l=Aa {cls:= .type "tuple",dict:=K,data:= .seq J nl,slots:=O}:=aw _ a7;have v0:=SO;have w0:=OR;have x0:(AN "tuple"==AN "dict")=false:=by decide
    have y:(s.heap.push {cls:= .type "set",dict:=none,data:= .set #[] 0 (.fresh 0 0<|!bI w)}).IsTuple l J:=⟨_,L,rfl,nl,rfl⟩;unfold Bl.«set.__init__» noKeywords DG;generalize M:ET=PI
    wp_walk
    subst M;refine FZ y ?_;refine ac<|C0 ?_;have B:l < s.heap.objs.size:=aC a7;have N:A.in1.in1.in1.handled=none:=by simp[C]
    have P:l≠(s.heap.push {cls:= .type "set",dict:=none,data:= .set #[] 0 (.fresh 0 0<|!bI w)}).objs.size:=by
     rw[fi];exact aJ<|iN B
    have S:s.heap.objs.size∉ [(s.heap.push {cls:= .type "set",dict:=none,data:= .set #[] 0 (.fresh 0 0<|!bI w)}).objs.size,l]:=by
     rw[fi];simp only[aA,aM,cc,Bf,E7];exact⟨aJ<|iw _,ge B⟩
    have T:∀(i:Nat) (v:Ad),J[i]? =Aa v->∃t,v= .str ((λi=>d.getD i "") i) t:=λi v U=>zt F i v (by rw[bG];exact U);refine KZ ((Walks.tuple N _ l P J).toS) s.heap.objs.size S (λi=>d.getD i "") T f (J.size - 0) 0 _ [] (by lia) (ba _)
     ⟨⟨_,bc _ rfl,rfl,rfl⟩,y.push _⟩ (MZ<|aw _ q) ⟨λx=>⟨(λz=>nomatch z),λ⟨y0,z,_⟩=>Au z<|DF _⟩,aj _⟩ ?hR
    case hR=>
     intro W X j Y m;obtain⟨h',a0,b0,c0,d0⟩:=W;have e0:a0=s.gens:=j.gens;have f0:b0=s.drawn:=j.drawn;have g0:d0=s.os:=j.os;subst e0;subst f0;subst g0;show Ak _ _ _ _ _ _;refine ah ?_;show Ak _ _ (ret Bw) _ _ _;refine ah ⟨zr,h',c0,X,zr,Y,m,λb o f e=>?_⟩;have h0:b≠s.heap.objs.size:=aJ f;have i0:b≠(s.heap.push {cls:= .type "set",dict:=none,data:= .set #[] 0 (.fresh 0 0<|!bI w)}).objs.size:=by
      rw[fi];exact aJ<|iN f
     exact j.heap b o (by simp only[aA,aM,cc,Bf,E7];exact⟨h0,i0⟩)<|aw _<|aw _ e
   .cases I with
    | error e=>exact Z
    | ok j0=>
     cases j0 with
     | ret r=>
      obtain⟨rfl,h',g,a,rfl,Y,m,k0⟩:=Z
      repeat (any_goals (first | assumption | wp_step))
      exact h _ _ _ Y m k0
     | _=>exact Z.elim
  | _=>exact k.elim
theorem rB{a:Type}:∀(l:Ab a) (i:Nat) (h:i < l.length),(l[i]::l.eraseIdx i).Perm l
 | x::r,0,_=> .refl _
 | x::r,i+1,h=>(List.Perm.swap x _ _).trans<|HU x<|rB r i<|E5 h
variable{M:Cv}
def Xs{J:Source}{Q:Nat->Af->Prop}(a:n≠0)(h:∀i d,i < n->Q i {s with drawn:=d}):Ak M A (choose J n) Q E s:=
 λ_ _ _=>⟨a,h _ _<|Nat.mod_lt _<|Nat.pos_of_ne_zero a⟩
theorem No{c:Type}:∀(n:Nat) (xs:Ab c) (s:Af) (Q:Ab c->Af->Prop),n=xs.length->(∀a d,a.Perm xs->Q a {s with drawn:=d})->Ak M A (drawOrder n xs) Q E s
 | 0,xs,s,Q,e,h=>by
  have:xs=[]:=mL.mp e.symm;subst this;exact ah<|h [] s.drawn<|.refl _
 | n+1,[],s,Q,e,h=>by cases e
 | n+1,x::r,s,Q,e,h=>by
  unfold drawOrder;refine ac (Xs (by simp) λi d b=>?_);have f:(x::r)[i]? =Aa (x::r)[i]:=aH b;rw[f]
  dsimp only
  refine ac (No n _ _ _ (by rw[FD,Ah b];exact Ct e) λa g j=>ah ?_);exact h _ g<|(HU _ j).trans<|rB _ _ b
theorem Mh{c:Type}(next:Nat->Nat):∀(n k:Nat) (left:Ab c) (a:Am c),n=left.length->(Gx next n k left a).toList.Perm (a.toList++left)
 | 0,k,left,a,e=>by
  have:left=[]:=mL.mp e.symm;subst this;unfold Gx;rw[dy]
 | n+1,k,left,a,e=>by
  unfold Gx;have b:next k%left.length < left.length:=Nat.mod_lt _ (by lia);rw[aH b]
  dsimp only
  refine(Mh next n (k+1) _ _ (by rw[FD,Ah b];lia)).trans ?_;rw[mP,dk];exact C4 _<|rB _ _ b
variable{α:Type}
def pJ(next:Nat->Nat)(a:Am α):(BS next a).toList.Perm a.toList:=by
 unfold BS;have:=Mh next a.size 0 a.toList #[] (by simp)
 simpa using this
def Uu(b:s.heap.get? a=Aa o)(c:o.data= .set es ep t)(d:t.fits es.size=true)(h:Q (!bI w&&(!t.plain&&decide (es.size > 1))) s):
  Ak (Ao prog w) A (setDrawn a) Q E s:=by
 unfold setDrawn HV;refine ac<|lP b c d ?_;exact ac<|ac<|nV<|ah<|ah h
def iu:Slot "set_iterator" "__next__" "set_iterator.__next__":=
 .of (owner:="set_iterator") (n:="__next__") (by rw[Fe,C7];kernel_rfl) (by decide+kernel) (by decide+kernel) (by decide+kernel)
  (by first | exact .inl (by decide+kernel) | exact .inr<|by decide+kernel) (by rw[B3];kernel_rfl)
def vk:HR JL "set_iterator.__next__"=Aa Bl.«set_iterator.__next__»:=GL (by kernel_rfl)
def LP:Manifest.owners.lookup (String.ofList ['r','o','t','a','r','e','t','i','_','t','e','s'].reverse)=Aa Manifest.sig_set_iterator:=by kernel_rfl
def sW(a:Ad):Jw "set_iterator.__next__" ⟨[a],[]⟩:=by
 unfold Jw;rw[Iu (id:="set_iterator.__next__") (n:=['_','_','t','x','e','n','_','_']) (o:=['r','o','t','a','r','e','t','i','_','t','e','s']) (by kernel_rfl) LP]
 kernel_rfl
def ZL:HR JL "set.__iter__"=Aa Bl.«frozenset.__iter__»:=HW (id':="frozenset.__iter__") (by kernel_rfl) rfl (by decide+kernel) (by kernel_rfl)
def de(first:Ad)(i:Nat)(a:Ac)(n b:Nat):Obj:={cls:= .type "set_iterator",data:= .fields #[first,.int i 0,.ref a,.int n 0,.int b 0]}
def hC(a:Ab Nat):Obj:={cls:= .type "tuple",data:= .seq (a.map λ(i:Nat)=>BK i).toArray}
def Rj{Q:xB}(c:s.heap.get? a=Aa o)(O:o.ExactSet)(f:o.data= .set es ep t)(Y:t.fits es.size=true)(l:es.size<=sizeLine)
  (m:(!bI w&&(!t.plain&&decide (es.size > 1)))=true->∀(b:Ab Nat) (d:GS),b.Perm (Cj es.size)->Q (.ref<|s.heap.objs.size+1) {s with heap:=(s.heap.push<|hC b).push<|de (.ref s.heap.objs.size) 0 a es.size ep,drawn:=d})
  (n:(!bI w&&(!t.plain&&decide (es.size > 1)))=false->Q (.ref s.heap.objs.size) {s with heap:=s.heap.push<|de (.int 0 0) 0 a es.size ep}):Ak (Ao prog w) A (ET<|.ref a) Q E s:=by
 have ty:s.TypeIs (.ref a) "set":=⟨o,c,O.1⟩;refine Ek ty PySem.F.slot_set_iter<|gg PySem.F.slot_set_iter ty ZL ?_<|PySem.F.args_set_iter_1 _;unfold Bl.«frozenset.__iter__» Builtin.Frozenset.slot0 Builtin.Frozenset.sizeOf;refine ac<|ac ?_;show Ak _ _ (AX (Aw a,([]:xH))) _ _ s;refine ah ?_;refine ah ?_;refine ac<|ac<|om c f Y<|ah ?_;refine ac<|Uu c f Y ?_;have fin:∀(first:Ad) (J:Af),(∀Z,s.heap.get? a=Aa Z->J.heap.get? a=Aa Z)->Q (.ref J.heap.objs.size) {J with heap:=J.heap.push<|de first 0 a es.size ep}->
   Ak (Ao prog w) A.in1 (do ret (<- newFields "set_iterator" [first,BK 0,.ref a,BK es.size,BK<|<- setEpoch a])) (λfin g=>∃v,fin=HX (HY v)/\∃h r,g.TypeIs v h/\F0 (.type h) "__next__"=AX (Aa r)/\Q v g) E J:=λfirst J p q=>by
  refine ac<|wpAny_setEpoch_of (p _ c) f Y ?_;refine ac<|g_<|ah ⟨_,zr,"set_iterator",_,⟨_,bc _ rfl,zr⟩,iu.lookup,?_⟩
  simpa [BK,de] using q
 cases j:(!bI w&&(!t.plain&&decide (es.size > 1))) with
 | true=>
  simp only[Bz];refine ac (No es.size _ _ _ (by simp) λb d k=>?_);simp only[Jk];refine ac<|g_ ?_ ?_
  .refine fin _ _ (λZ e=>aw _ e) ?_;have:=m j b d k;show Q (.ref (s.heap.push<|hC b).objs.size) {s with heap:=(s.heap.push<|hC b).push<|de (.ref s.heap.objs.size) 0 a es.size ep,drawn:=d};rw[fi];exact this
  .show (D4 (λ(i:Nat)=>BK i) b).toArray.size<=sizeLine;rw[aP,ai,k.length_eq,jW];exact l
 | false=>
  simp only[bL,AZ];refine ac<|ah ?_;exact fin _ s (λ_ e=>e)<|n j
variable{x:Ad}{Q:Ag Ad->Af->Prop}{I T:Ac}{i:Nat}
def Qn{b:Ab Nat}{p:Nat}{h:Int}(J:s.heap.get? I=Aa (de (.ref T) i a es.size ep))(e:s.heap.get? T=Aa (hC b))(c:s.heap.get? a=Aa o)(d:o.data= .set es ep t)(Y:t.fits es.size=true)
  (f:b[i]? =Aa p) (g:es[p]? =Aa (h,x))
  (q:∀h',h'.get? I=Aa (de (.ref T) (i+1) a es.size ep)->Bn I s.heap h'->Q (Aa x) {s with heap:=h'}):Ak (Ao prog w) A (Cm<|.ref I) Q E s:=by
 have ty:s.TypeIs (.ref I) "set_iterator":=⟨_,J,rfl⟩;unfold Cm;refine ac<|jT<|BJ (name:=Cr "__next__") ty iu<|gg iu ty vk ?_<|sW _;unfold Bl.«set_iterator.__next__»;refine ac<|ah ?_;refine ac<|CZ J rfl ?_
 dsimp only[ey]
 refine ac<|om c d Y ?_;rw[Ae<|by simp];have O:((b.map λ(i:Nat)=>BK i).toArray)[i]? =Aa (BK p):=by
  rw[Fp,bF,f];rfl
 refine ac<|D5 e rfl ?_
 dsimp only
 rw[ip,O];show Ak _ _ (IX a ((p:Int)).toNat ((ep:Int)).toNat >>=_) _ _ s;rw[ip,ip];unfold IX;refine ac<|ac<|lP c d Y ?_
 dsimp only
 rw[Ae (by simp),g];refine ah ?_;refine ac<|iM J rfl (by simp) ?_;refine ah ⟨_,zr,ah<|q _ ?_ (cT ..)⟩;have:=hH (CC (·.setIfInBounds 1 (BK<|(i:Int)+1))) J rfl;exact this
def xj(f:A.handled=none)(q:∀h',(∀b o,s.heap.get? b=Aa o->h'.get? b=Aa o)->Q none {s with heap:=h'}):
  Ak (Ao prog w) A.in1 (IR (.type "StopIteration") [] >>=HJ (α:=Fin)) (λfin c=>∃v,fin=HX (HY v)/\Ak (Ao prog w) A (AX<|Aa v) Q E c)
   (λe c=>Ak (Ao prog w) A (do let d <- Dl e (.type "StopIteration");if d=true then AX none else throw e) Q E c) s:=by
 refine ac ?_;simp only[IR,Jk];refine ac (g_ ?_<|by size_fits);refine ac (m:=D3 _ _)<|GW (a:=Bw) (by first | rfl | (simp only[D3];rfl)) ?_;refine g_ ?_ (by size_fits);simp only[HJ];refine ac<|Ip ?_;rw[show A.in1.handled=none from f];refine ac<|ah<|Jl ?_;refine ac<|Dj (T:="StopIteration") (b:=true) ⟨_,bc _ rfl,zr⟩ HK ?_;exact ah (q _ λb o e=>aw _<|aw _ e)
def Pj{c:Ab Nat}(d:A.handled=none)(J:s.heap.get? I=Aa (de (.ref T) i a es.size ep))(f:s.heap.get? T=Aa (hC c))(g:s.heap.get? a=Aa o)(h:o.data= .set es ep t)(j:t.fits es.size=true)
  (l:c[i]? =none) (q:∀h',(∀b o,b≠I->s.heap.get? b=Aa o->h'.get? b=Aa o)->Q none {s with heap:=h'}):Ak (Ao prog w) A (Cm<|.ref I) Q E s:=by
 have ty:s.TypeIs (.ref I) "set_iterator":=⟨_,J,rfl⟩;unfold Cm;refine ac<|jT<|BJ (name:=Cr "__next__") ty iu<|gg iu ty vk ?_<|sW _;unfold Bl.«set_iterator.__next__»;refine ac<|ah ?_;refine ac<|CZ J rfl ?_
 dsimp only[ey]
 refine ac<|om g h j ?_;rw[Ae<|by simp];have O:((c.map λ(i:Nat)=>BK i).toArray)[i]? =none:=by
  rw[Fp,bF,l];rfl
 refine ac<|D5 f rfl ?_
 dsimp only
 rw[ip,O]
 dsimp only
 have m:=hH (CC (·.setIfInBounds 0 (BK 0))) J rfl;refine ac<|iM J rfl (by simp) ?_;refine ac<|iM m rfl (by simp) ?_;refine xj d λh' k=>q h' λb o n e=>k b o ?_;exact(((cT ..).trans (cT ..)).2 b n).trans e
def Ua(w:Al)(a:Ac)(b:Am (Int×Ad))(d:Nat)(t:Cp)(k i:Nat)(c:Ag (Ad×Nat)):Prop:=
 (bI w=true/\c=((BS (w.params.setOrder a d) b)[i]?).map λe=>(e.2,k))\/
 (bI w=false/\(!t.plain&&decide (b.size > 1))=false/\(!t.led&& !b.isEmpty)=false/\c=match b[BG t.place k]?,t.place[BG t.place k]? with
  | some (_,x),Aa j=>Aa (x,j+1)
  | _,_=>none)
def nY{g:Ag (Ad×Nat)}(u:A.handled=none)(Z:s.heap.get? I=Aa (de (.int k 0) i a es.size ep))(h:s.heap.get? a=Aa o)(l:o.data= .set es ep t)(m:t.fits es.size=true)(z:Ua w a es ep t k i g)
  (B:∀x j h',g=Aa (x,j)->h'.get? I=Aa (de (.int j 0) (i+1) a es.size ep)->Bn I s.heap h'->Q (Aa x) {s with heap:=h'})
  (C:g=none->∀h',(∀b o,b≠I->s.heap.get? b=Aa o->h'.get? b=Aa o)->Q none {s with heap:=h'}):Ak (Ao prog w) A (Cm<|.ref I) Q E s:=by
 have ty:s.TypeIs (.ref I) "set_iterator":=⟨_,Z,rfl⟩;unfold Cm;refine ac<|jT<|BJ (name:=Cr "__next__") ty iu<|gg iu ty vk ?_<|sW _;unfold Bl.«set_iterator.__next__»;refine ac<|ah ?_;refine ac<|CZ Z rfl ?_
 dsimp only[ey]
 refine ac<|om h l m ?_;rw[Ae<|by simp];refine ac ?_;have Y:∀x (j:Nat),g=Aa (x,j)->Ak (Ao prog w) A.in1 (do
     Gn (Aw I) 0 (BK j)
     Gn (Aw I) 1 (BK<|(i:Int)+1)
     ret x) (λfin c=>∃v,fin=HX (HY v)/\Ak (Ao prog w) A (AX<|Aa v) Q E c)
    (λe c=>Ak (Ao prog w) A (do let d <- Dl e (.type "StopIteration");if d=true then AX none else throw e) Q E c) s:=λx j n=>by
  have q:=hH (CC (·.setIfInBounds 0 (BK j))) Z rfl;have D:=hH (CC (·.setIfInBounds 1 (BK<|(i:Int)+1))) q rfl;refine ac<|iM Z rfl (by simp) ?_;refine ac<|iM q rfl (by simp) ?_;exact ah ⟨_,zr,ah<|B x j _ n D<|(cT ..).trans (cT ..)⟩
 have O:g=none->Ak (Ao prog w) A.in1 (do
     Gn (Aw I) 2 Bw
     let d <- IR (AN "StopIteration") []
     HJ d) (λfin c=>∃v,fin=HX (HY v)/\Ak (Ao prog w) A (AX<|Aa v) Q E c)
    (λe c=>Ak (Ao prog w) A (do let d <- Dl e (.type "StopIteration");if d=true then AX none else throw e) Q E c) s:=λn=>by
  refine ac<|iM Z rfl (by simp) ?_;refine xj u λh' k=>C n h' λb o f e=>k b o ?_;exact((cT ..).2 b f).trans e
 unfold setNext;refine ac<|lP h l m ?_;unfold HV;refine ac<|ac<|nV<|ah ?_;rcases z with ⟨f,J⟩ | ⟨f,F,G,J⟩
 .rw[Ah (show ({program:=(Ao prog w).prog,params:=(Ao prog w).w.params}:IY).params.followText "set-order"=true from f)]
  dsimp only
  rw[Ae<|by simp];unfold setWalk;refine ac<|ac<|lP h l m ?_;unfold HV;refine ac<|ac<|nV<|ah ?_;rw[Ah (show ({program:=(Ao prog w).prog,params:=(Ao prog w).w.params}:IY).params.followText "set-order"=true from f)];refine ac<|nV<|ah<|ah ?_
  dsimp only
  have H:(BS ((Ao prog w).w.params.setOrder a ep) es)[(i:Int).toNat]? =(BS (w.params.setOrder a ep) es)[i]? :=by
   rw[ip];rfl
  rw[H];cases e:(BS (w.params.setOrder a ep) es)[i]? with
  | none=>
   rw[e]at J;exact O J
  | some y=>
   rw[e]at J;exact Y y.2 _ J
 .rw[Ae (show ¬ ({program:=(Ao prog w).prog,params:=(Ao prog w).w.params}:IY).params.followText "set-order"=true from by rw[show ({program:=(Ao prog w).prog,params:=(Ao prog w).w.params}:IY).params.followText "set-order"=false from f];exact aY)]
  dsimp only
  show Ak _ _ (if (!t.plain&&decide (es.size > 1))=true then _ else _) _ _ s;rw[Ae (by rw[F];exact aY)];show Ak _ _ ((if (!t.led&& !es.isEmpty)=true then Eb _ else AX ()) >>=_) _ _ s;rw[Ae (by rw[G];exact aY)];refine ac<|ah<|ah ?_;rw[ip];cases p:es[BG t.place k]? with
  | none=>
   rw[p]at J;exact O J
  | some y=>
   cases r:t.place[BG t.place k]? with
   | none=>
    rw[p,r]at J;exact O J
   | some j=>
    rw[p,r]at J;exact Y y.2 _ J
def xN:Slot "set_iterator" "__iter__" "set_iterator.__iter__":=
 .of (owner:="set_iterator") (n:="__iter__") (by rw[Fe,C7];kernel_rfl) (by decide+kernel) (by decide+kernel) (by decide+kernel)
  (by first | exact .inl (by decide+kernel) | exact .inr<|by decide+kernel) (by rw[B3];kernel_rfl)
def Zd:HR JL "set_iterator.__iter__"=Aa Bl.«dict_keyiterator.__iter__»:=HW (id':="dict_keyiterator.__iter__") (by kernel_rfl) rfl (by decide+kernel) (by kernel_rfl)
def Sf(a:Ad):Jw "set_iterator.__iter__" ⟨[a],[]⟩:=by
 unfold Jw;rw[Iu (id:="set_iterator.__iter__") (n:=['_','_','r','e','t','i','_','_']) (o:=['r','o','t','a','r','e','t','i','_','t','e','s']) (by kernel_rfl) LP]
 kernel_rfl
variable{Q:xB}
def t_{first:Ad}(b:s.heap.get? I=Aa (de first i a n ep))(h:Q (.ref I) s):Ak (Ao prog w) A (ET<|.ref I) Q E s:=by
 have ty:s.TypeIs (.ref I) "set_iterator":=⟨_,b,rfl⟩;refine Ek ty xN<|gg xN ty Zd ?_<|Sf _;show Ak _ _ (ret<|.ref I) _ _ s;exact ah ⟨_,zr,"set_iterator",_,ty,iu.lookup,h⟩
theorem Yd{c:Ab Nat}(r:A.handled=none)(u:T≠I)(y:a≠I)(m:o.data= .set es ep t)(Y:t.fits es.size=true)(f:c.Perm (Cj es.size)):
  GU prog w A I [I,T,a] [I] es.size (λi v=>∃p h,c[i]? =Aa p/\es[p]? =Aa (h,v)) (λi h=>h.get? I=Aa (de (.ref T) i a es.size ep)/\h.get? T=Aa (hC c)/\h.get? a=Aa o) where
 sub:=λb d=>by simp at d;simp[d]
 frame:=λ_ _ _ st j=>⟨j I (by simp) _ st.1,j T (by simp) _ st.2.1,j a (by simp) _ st.2.2⟩
 item:=λi s Q E C st J=>by
  have B:c.length=es.size:=by rw[f.length_eq,jW]
  have l:c[i]? =Aa (c[i]'(by lia)):=aH (by lia);have n:c[i]'(by lia) < es.size:=kP.mp<|f.mem_iff.mp (iK<|by lia);generalize c[i]'(by lia)=p at l n;have q:es[p]? =Aa es[p]:=kZ n;refine Qn (h:=es[p].1) (x:=es[p].2) st.1 st.2.1 st.2.2 m Y l q λh' g O=>?_;exact J _ h' s.toks ⟨p,es[p].1,l,q⟩ ⟨g,(O.2 T u).trans st.2.1,(O.2 a y).trans st.2.2⟩ λb o d e=>(O.2 b (λz=>d<|by simp[z])).trans e
 done:=λs Q E st J=>by
  have B:c.length=es.size:=by rw[f.length_eq,jW]
  exact Pj r st.1 st.2.1 st.2.2 m Y (C8<|by lia) λh' k=>J h' s.toks λb o d e=>k b o (λz=>d<|by simp[z]) e
 self:=λ_ _ _ _ st J=>t_ st.1 J
theorem RW(f:A.handled=none)(n:a≠I)(l:o.data= .set es ep t)(Z:t.fits es.size=true)(c:bI w=true):
  GU prog w A I [I,a] [I] es.size (λi v=>∃e,(BS (w.params.setOrder a ep) es)[i]? =Aa e/\v=e.2) (λi h=>h.get? I=Aa (de (.int 0 0) i a es.size ep)/\h.get? a=Aa o) where
 sub:=λb c=>by simp at c;simp[c]
 frame:=λ_ _ _ st m=>⟨m I (by simp) _ st.1,m a (by simp) _ st.2⟩
 item:=λi s Q E q st O=>by
  have p:(BS (w.params.setOrder a ep) es).size=es.size:=by rw[<- aI,(pJ _ _).length_eq,aI]
  have d:(BS (w.params.setOrder a ep) es)[i]? =Aa ((BS (w.params.setOrder a ep) es)[i]'(by lia)):=kZ (by lia);refine nY (k:=0) f st.1 st.2 l Z (.inl ⟨c,zr⟩) (λx j h' J g Y=>?_) λJ=>?_
  .rw[d]at J;cases J
   exact O _ h' s.toks ⟨_,d,zr⟩ ⟨g,(Y.2 a n).trans st.2⟩ λb o c e=>(Y.2 b (λz=>c<|by simp[z])).trans e
  .rw[d]at J;cases J
 done:=λs Q E st O=>by
  have p:(BS (w.params.setOrder a ep) es).size=es.size:=by rw[<- aI,(pJ _ _).length_eq,aI]
  have d:(BS (w.params.setOrder a ep) es)[es.size]? =none:=ka (by lia);refine nY (k:=0) f st.1 st.2 l Z (.inl ⟨c,zr⟩) (λx j h' J g Y=>?_) λJ h' k=>O h' s.toks λb o c e=>k b o (λz=>c<|by simp[z]) e;rw[d]at J;cases J
 self:=λ_ _ _ _ st O=>t_ st.1 O
theorem Xp(f:A.handled=none)(r:a≠I)(l:o.data= .set es ep t)(O:t.fits es.size=true)(c:bI w=false)(m:t.led=true)(C:es.size<=1):
  GU prog w A I [I,a] [I] es.size (λi v=>∃e,es[i]? =Aa e/\v=e.2) (λi h=>h.get? I=Aa (de (.int (((if i=0 then 0 else t.place.getD 0 0+1):Nat):Int) 0) i a es.size ep)/\h.get? a=Aa o) where
 sub:=λb c=>by simp at c;simp[c]
 frame:=λ_ _ _ st n=>⟨n I (by simp) _ st.1,n a (by simp) _ st.2⟩
 item:=λi s Q E D st Y=>by
  have u:i=0:=by lia
  subst u;have y:t.place.size=es.size:=by
   unfold Iv at O;simp at O
   exact O.1
  have d:es[0]? =Aa (es[0]'(by lia)):=kZ (by lia);have p:t.place[0]? =Aa (t.place.getD 0 0):=by
   rw[kZ<|by lia];simp[Array.getD,show 0 < t.place.size by lia]
  have q:BG t.place 0=0:=by
   unfold BG;rw[show t.place.size=1 by lia];simp[Gy]
  refine nY (k:=0) f st.1 st.2 l O (.inr ⟨c,by simp;lia,by rw[m];rfl,rfl⟩) (λx j h' J g Z=>?_) λJ=>?_
  .rw[q,d,p]at J;cases J
   exact Y _ h' s.toks ⟨_,d,zr⟩ ⟨g,(Z.2 a r).trans st.2⟩ λb o c e=>(Z.2 b (λz=>c<|by simp[z])).trans e
  .rw[q,d,p]at J;cases J
 done:=λs Q E st Y=>by
  have y:t.place.size=es.size:=by
   unfold Iv at O;simp at O
   exact O.1
  refine nY f st.1 st.2 l O (.inr ⟨c,by simp;lia,by rw[m];rfl,rfl⟩) (λx j h' J g Z=>?_) λJ h' k=>Y h' s.toks λb o c e=>k b o (λz=>c<|by simp[z]) e;have B:es[BG t.place (if es.size=0 then 0 else t.place.getD 0 0+1)]? =none:=by
   by_cases z:es.size=0
   .exact ka (by lia)
   .rw[Ae z];have:BG t.place (t.place.getD 0 0+1)=1:=by
     unfold BG;rw[show t.place.size=1 by lia];simp[Gy,Array.getD,show 0 < t.place.size by lia]
    rw[this];exact ka (by lia)
  rw[B]at J;cases J
 self:=λ_ _ _ _ st Y=>t_ st.1 Y
def Vq{Q:AJ->Af->Prop}(Y:s.TypeIs (.ref a) "set")(h:Q false s):Ak (Ao prog w) A (DR<|.ref a) Q E s:=by
 unfold DR;refine ac<|Cc Y PySem.F.slot_set_len.lookup ?_;generalize O:("set.__len__":BL)=Z
 wp_delta
 rw[show splitId Z=Aa ("set","__len__") from by subst O;decide+kernel];subst O;refine ac<|Dj (T:="set") (b:=true) Y (by rw[B3];kernel_rfl) ?_;refine Fg (λJ=>Au J<|by decide) λ_=>?_;refine Fg (λ_=>?_) λJ=>Au (by decide+kernel) J;refine ac<|DQ Y ?_;exact ah h
theorem tM{L:Ab α}{f:α->Ad}{P:Nat->Ad->Prop}{acc:Am Ad}(d:n=L.length)(b:∀i v,P i v->∃e,L[i]? =Aa e/\v=f e)(a:JC P acc n):acc.toList=L.map f:=by
 apply nO
 intro j;rw[bF,bG];cases e:acc[j]? with
 | some v=>
  obtain⟨g,c,rfl⟩:=b j v<|a.2 j v e;rw[c];rfl
 | none=>
  have:acc.size<=j:=by simpa using e
  rw[a.1]at this;rw[C8<|by lia];rfl
def bo(e:Ai)(w:Al)(A:As)(s:Af)(S:Ac)(f:xD)(g:Ad)(h:Af):Prop:=
 ∃(J:Ac) (c:Ab Ac) (n:Nat) (P:Nat->Ad->Prop) (St:Nat->AH->Prop) (a:AH) (d:GS),g= .ref J/\h={s with heap:=a,drawn:=d}/\(∀b o,s.heap.get? b=Aa o->a.get? b=Aa o)/\
  GU e w A J c [J] n P St/\St 0 a/\S∉c/\s.heap.objs.size<=J/\n<=sizeLine/\∀acc,JC P acc n->(acc.toList.map bO).Perm f/\∀v∈acc.toList,∃x t,v= .str x t
theorem Te(D:A.handled=none)(x:cX prog w s.heap a xs){S:Ac}(F:S < s.heap.objs.size)(Z:S≠a):Ak (Ao prog w) A (ET<|.ref a) (bo prog w A s S xs) E s:=by
 obtain⟨o,es,ep,t,m,N,u,P,Q,c0,R,y,T,U⟩:=x;have G:a < s.heap.objs.size:=aC m;have B:es.size<=sizeLine:=C1 R;have Y:∀v∈es.toList.map (λe=>e.2),∃x t,v=De x t:=λv H=>by
  obtain⟨e,W,rfl⟩:=aE.mp H;obtain⟨⟨k,X,_⟩,_⟩:=P e W;obtain⟨_,t,a0⟩:=uT X;exact⟨k,t,a0⟩
 have I:∀l:Ab Ad,l.Perm (es.toList.map λe=>e.2)->(l.map bO).Perm xs/\∀v∈l,∃x t,v=De x t:=λl g=>by
  refine⟨?_,λv H=>Y v<|g.mem_iff.mp H⟩;have:=g.map bO;rw[cr]at this;rw[<- Q];exact this
 refine Rj m N u y B (λd0 n d g=>?_) λJ=>?_
 .have hT:((s.heap.push<|hC n).push<|de (.ref s.heap.objs.size) 0 a es.size ep).get? s.heap.objs.size=Aa (hC n):=aw _<|bc _ rfl;have C:((s.heap.push<|hC n).push<|de (.ref s.heap.objs.size) 0 a es.size ep).get? (s.heap.objs.size+1)=Aa (de (.ref s.heap.objs.size) 0 a es.size ep):=by
   have:=bc (s.heap.push<|hC n) (o:=de (.ref s.heap.objs.size) 0 a es.size ep) rfl
   rwa [fi]at this
  refine⟨_,_,_,_,_,_,d,zr,zr,λb o e=>aw _<|aw _ e,Yd D (aJ<|iw _) (aJ<|iN G) u y g,⟨C,hT,aw _<|aw _ m⟩,?_,Du _,B,λacc q=>?_⟩
  .simp only[aA,cc,Bf,E7];exact⟨aJ<|iN F,aJ F,Z⟩
  .have e:=tM (L:=n) (f:=λp=>((es[p]?).map (·.2)).getD .none) (by rw[g.length_eq,jW]) (λi v ⟨p,h,c,r⟩=>⟨p,c,by rw[r];rfl⟩) q;refine I _ ?_;rw[e];refine(g.map _).trans ?_;refine Fb ?_
   apply nO
   intro j;have b0:es.toList[j]? =es[j]? :=bG;rw[bF,bF,b0];by_cases K:j < es.size
   .rw[List.getElem?_range K,kZ K];simp[K]
   .rw[C8 (l:=Cj es.size) (by rw[jW];lia),ka<|by lia];rfl
 .have C:(s.heap.push<|de (.int 0 0) 0 a es.size ep).get? s.heap.objs.size=Aa (de (.int 0 0) 0 a es.size ep):=bc _ rfl;have M:S∉ [s.heap.objs.size,a]:=by
   simp only[aA,cc,Bf,E7];exact⟨aJ F,Z⟩
  cases O:bI w with
  | true=>
   refine⟨_,_,_,_,_,_,s.drawn,zr,zr,λb o e=>aw _ e,RW D (aJ G) u y O,⟨C,aw _ m⟩,M,aj _,B,λacc q=>?_⟩;have e:=tM (L:=(BS (w.params.setOrder a ep) es).toList) (f:=λe=>e.2) (by rw[(pJ _ _).length_eq,aI]) (λi v ⟨e,c,r⟩=>⟨e,by rw[bG];exact c,r⟩) q;refine I _ ?_;rw[e];exact(pJ _ _).map _
  | false=>
   have c:es.size<=1:=by
    rw[O]at J;by_cases z:es.size<=1
    .exact z
    .have:=U (by lia);rw[this]at J;simp at J
     lia
   refine⟨_,_,_,_,_,_,s.drawn,rfl,rfl,λb o e=>aw _ e,Xp D (aJ G) u y O (by rw[T,O];rfl) c,⟨C,aw _ m⟩,M,aj _,B,λacc q=>?_⟩;have e:=tM (L:=es.toList) (f:=λe=>e.2) (by rw[aI]) (λi v ⟨e,c,r⟩=>⟨e,by rw[bG];exact c,r⟩) q;refine I _ ?_;rw[e]
def nS(b:xD)(a:xH):Prop:=(a.map bO).Perm b/\∀v∈a,∃x t,v= .str x t
def Vj{R:CJ->Af->Prop}(H:A.handled=none)(x:cX prog w s.heap a xs)(S:Ac)(q:S≠a)(j:Ad)(r:Nat)(l:s.heap.get? S=Aa {cls:= .type "list",data:= .seq #[] r})
  (hR:∀h' k d O i,(∀b o,b≠S->s.heap.get? b=Aa o->h'.get? b=Aa o)->h'.get? S=Aa {cls:= .type "list",dict:=none,data:= .seq O i,slots:=#[]}->nS xs O.toList->R (.ok<|.ret j) {s with heap:=h',toks:=k,drawn:=d}):
  Ak (Ao prog w) A.in1 (Bk (.ref S) (.ref a) j)
   (λfin c=>match fin with | .done f=>R (.ok f) c | .again i=>i.quiet=true/\BQ (Ao prog w) A i R c) (λe c=>R (.error e) c) s:=by
 obtain⟨o,es,ep,t,u,v,d0⟩:=id x;have ty:s.TypeIs (.ref a) "set":=⟨o,u,v.1⟩;unfold Bk;refine ac<|DQ (T:="set") ty ?_;have I:Eu (.ref S) (.ref a)=false:=by simp[Eu,q]
 simp only[I,show (AN "set"==AN "list")=false by decide,show (AN "set"==AN "tuple")=false by decide,Ij,bL,AZ];refine ac (bK (Te (A:=A.in1) (E:=λe c=>R (.error e) c) H x (aC l) q) (λe0 f0 K=>?_) λe c z=>z);obtain⟨J,g0,n,P,St,L,d,rfl,rfl,m,W,st,y,B,M,N⟩:=K;have Y:=m _ _ l;have h0:S≠J:=aJ<|cp (aC l) B;have C:∀(h:AH) (p k:Nat),St 0 h->(∀b o,b≠S->L.get? b=Aa o->h.get? b=Aa o)->
   h.get? S=Aa {cls:= .type "list",data:= .seq #[] p}->BQ (Ao prog w) A (.builtin "list.extend.loop" ⟨[.ref S,.ref J,j],[]⟩) R {s with heap:=h,toks:=k,drawn:=d}:=by
  intro h p k Q U Y;refine codeAny_extend_loopS W.toS M S y j n 0 _ #[] p rfl (ba _) Q Y (ItemsOf.nil _) λc O i D X a0=>?_;rw[Moved.eq_with D];refine hR c.heap c.toks d O i (λb o g e=>D.heap b o (λZ=>?_)<|U b o g<|m b o e) X<|N O a0;rcases aA.mp Z with b0 | Z
  .exact g b0
  .have z:=aM.mp Z;exact Au (aC e) (by rw[z];exact Nat.not_lt.mpr B)
 refine ac<|dG<|Vq ⟨o,m _ _ u,v.1⟩ ?_;refine Fg (λ_=>?_) λ_=>ah ⟨BC PySem.F.plain_extend_loop _,C _ r _ st (λb o _ e=>e) Y⟩;refine ac<|eS ?_;refine ac ?_;show Ak _ _ (updateSeq S (·.push .none) >>=λ_=>updateSeq S (·.pop)) _ _ _;refine ac<|Hh Y rfl ?_;have F:=hH (AF (·.push Bw)) Y rfl;refine Hh (hz:=by seq_fits) F rfl ?_;have c0:=hH (AF (·.pop)) F rfl;refine ah ⟨BC PySem.F.plain_extend_loop _,C _ _ _ ?_ (λb o g e=>?_) c0⟩
 .refine W.frame 0 _ _ st λb g o e=>?_;have G:b≠S:=λh=>y (h ▸ g);exact(lF _ _<|Bi G).trans<|(lF _ _<|Bi G).trans e
 .exact(lF _ _<|Bi g).trans<|(lF _ _<|Bi g).trans e
def Zu{R:Ab Ad->Af->Prop}(m:A.handled=none)(x:cX prog w s.heap a xs)
  (h:∀(vs:xH) (h':AH) (g:Nat) (d:GS),nS xs vs->(∀b o,s.heap.get? b=Aa o->h'.get? b=Aa o)->s.heap.objs.size<=h'.objs.size->R vs {s with heap:=h',toks:=g,drawn:=d}):Ak (Ao prog w) A (E4<|.ref a) R E s:=by
 have n:a < s.heap.objs.size:=by
  obtain⟨_,_,_,_,e,_⟩:=x;exact aC e
 unfold E4;refine ac<|C0<|ek Dy ?_;rw[Bb PySem.F.plain_proto_collect _];show Ak _ A.in1 (Hl [] >>=λl=>again<|.builtin "list.__iadd__" ⟨[l,.ref a],[]⟩) _ _ s;refine ac<|g_ ?_;refine ah ⟨BC oG _,ek EI ?_⟩;rw[Bb oG _];have p:(s.heap.push {cls:= .type "list",data:= .seq ([]:xH).toArray}).get? s.heap.objs.size=Aa {cls:= .type "list",data:= .seq #[]}:=bc _ rfl;show Ak _ A.in1 (Bk (.ref s.heap.objs.size) (.ref a)<|.ref s.heap.objs.size) _ _ _;have r:=Vj (A:=A) (prog:=prog) (w:=w) (xs:=xs) (a:=a) (s:={s with heap:=s.heap.push {cls:= .type "list",data:= .seq ([]:xH).toArray}}) m (x.keep λo e=>aw _ e) s.heap.objs.size
  (ge n) (.ref s.heap.objs.size) 0 p
  (R:=λ(q:CJ) (j:Af)=>∃(h':AH) (g:Nat) (d:GS) (J:Am Ad) (Y:Nat),q= .ok (.ret<|.ref s.heap.objs.size)/\j={s with heap:=h',toks:=g,drawn:=d}/\(∀b o,s.heap.get? b=Aa o->h'.get? b=Aa o)/\
   h'.get? s.heap.objs.size=Aa {cls:= .type "list",dict:=none,data:= .seq J Y,slots:=#[]}/\nS xs J.toList)
  (λh' g d J Y i O Z=>⟨h',g,d,J,Y,rfl,rfl,λb o e=>i b o (aJ<|aC e)<|aw _ e,O,Z⟩)
 refine bK r (λf j y=>?_) λe j y=>?_
 .cases f with
  | done f=>
   obtain⟨h',g,d,J,Y,e,rfl,i,O,k⟩:=y;cases e
   show Ak _ A (load s.heap.objs.size >>=_) _ _ _;refine ac<|DY O<|ah ?_;exact h J.toList h' g d k i<|c_<|aC O
  | again c=>
   refine⟨y.1,eZ y.2 λq t z=>?_⟩;obtain⟨h',g,d,J,Y,rfl,rfl,i,O,k⟩:=z;show Ak _ A (load s.heap.objs.size >>=_) _ _ _;refine ac<|DY O<|ah ?_;exact h J.toList h' g d k i<|c_<|aC O
 .obtain⟨_,_,_,_,_,e',_⟩:=y;cases e'
theorem VE{Pv:Ab Ad->Prop}{rk:Ab Ad->Ad->Int}(i:∀vs,Pv vs->vs.length<=sizeLine)
  (q:∀(Y:As) (r:xB) (R:Ab Ad->Af->Prop),Y.handled=A.handled->(∀vs h' f d,Pv vs->(∀b o,s.heap.get? b=Aa o->h'.get? b=Aa o)->s.heap.objs.size<=h'.objs.size->R vs {s with heap:=h',toks:=f,drawn:=d})->Ak (Ao prog w) Y (E4 x) R r s)
  (t:∀(vs:xH) (Y:As) (k:Af) (a:Ac),Pv vs->Y.units<=A.units+4->s.heap.objs.size<=a->(∀b o,s.heap.get? b=Aa o->k.heap.get? b=Aa o)->Kr prog w Y k a vs (rk vs))
  (h:∀(vs:xH) (g:Am Ad) (l:Ac) (n:Nat) (h':AH) (f:Nat) (d:GS),Pv vs->Ki (rk vs) vs g.toList->(∀b o,s.heap.get? b=Aa o->h'.get? b=Aa o)->s.heap.objs.size<=l->h'.get? l=Aa (AG "list" g n)->Q (.ref l) {s with heap:=h',toks:=f,drawn:=d}):
  Ak (Ao prog w) A (call (.builtin "sorted") [x]) Q E s:=by
 refine D9 GX Gp Gq (IS _) ?_;unfold Bl.«sorted»;refine ac (m:=HM "sorted" 1 1 _)<|ah ?_;refine ac (q _ _ _ rfl λvs c f d pv u j=>?_);have i:=i vs pv;refine ac<|Cz ?_ i;have O:(c.push<|AG "list" vs.toArray 0).get? c.objs.size=Aa (AG "list" vs.toArray 0):=bc _ rfl;show Ak _ _ _ _ _ {s with heap:=c.push<|AG "list" vs.toArray 0,toks:=f,drawn:=d};have J:∀b o,s.heap.get? b=Aa o->(c.push<|AG "list" vs.toArray 0).get? b=Aa o:=λb o e=>aw _<|u b o e;refine ac<|dG<|gg Fw ⟨_,O,zr⟩ Fc (Ky O i (t vs _ _ _ pv ?_ j J) λg v=>⟨_,zr,?_⟩)<|HN _
 .show A.units+2<=A.units+4
  lia
 .have Z:∀b o,s.heap.get? b=Aa o->b≠c.objs.size:=λb o e=>aJ<|cp (aC e) j;have y:=cT (c.push<|AG "list" vs.toArray 0) c.objs.size (AF λ_=>(#[]:Am Ad));obtain⟨p,z⟩:∃p,((c.push<|AG "list" vs.toArray 0).update c.objs.size<|AF λ_=>(#[]:Am Ad)).get? c.objs.size=Aa (AG "list" #[] p):=⟨_,By O λ_=>#[]⟩;have B:=aw (AG "list" #[] 0)<|aw (AG "tuple" vs.toArray 0) z;have C:=By B λ_=>g;have D:=cT ((((c.push<|AG "list" vs.toArray 0).update c.objs.size<|AF λ_=>(#[]:Am Ad)).push<|AG "tuple" vs.toArray 0).push<|AG "list" #[] 0) c.objs.size (AF λ_=>g);refine ah ⟨_,zr,h vs g c.objs.size _ _ f d pv v (λb o e=>?_) j C⟩;refine(D.2 b<|Z b o e).trans<|aw _<|aw _<|(y.2 b<|Z b o e).trans<|J b o e
def nw(P:Ai)(w:Al)(a:Ac)(b:xD):HO:= .ext λh=>cX P w h a b
def uniq(a:xD):Ab Str:=JQ strLt a.eraseDups
def kz(J:xD)(x:Str):x∈uniq J↔x∈J:=by
 unfold uniq;rw[(JW strLt _).mem_iff];exact Gb
def ae.drew{d:GS}(I:ae X xC σ H s):ae X xC σ H {s with drawn:=d}:=
 I.step (h':=s.heap) (g':=s.gens) (d':=d) (t':=s.toks) (ch:=[]) (λ_ z=>nomatch z) (λ_ _ _ _ _ e _=>e) (λb o _ _ _ e _=>⟨o.slots,e⟩) (λ_ _ _ _ n=>n) (λb o _ e=>⟨o,e⟩) (λ_ _ e=>e) (λ_ _ _ e=>e) (λb a e=>⟨#[],by rw[e];simp⟩) (λ_ e=>e) I.hok I.bare
inductive yB (P:Ai) (w:Al) (K:xA) (c:Ab V) (H:Hp) (Q:VK):Prop
 | mk:∀(p:Ac) (a:xD),(c=[.ref p])->((aK K H p (a.map JP)\/ aU K H p (a.map JP)))->(a.length<=4000)->(∀(l:Ac) (b:xD),H l=none->b.Nodup->(∀x,x∈b↔x∈a)->Q (.ref l) (upd H l (nw P w l b)))->yB P w K c H Q
theorem QA(B:X.calm=true)(P:Ai)(w:Al)(K:xA)(C:X.K=K:=by rfl)(D:X.prog=P:=by rfl)(E:X.w=w:=by rfl):cu X (.type "set") (yB P w K):=by
 subst C D E;intro xC s σ H xs N Q I r h;obtain⟨p,Z,rfl,l,R,q⟩:=h;obtain⟨u,rfl,F⟩:=dz r;cases F
 have fin:∀(f:xH),f.length=Z.length->∀(h':AH) (t:Nat) (g:xD),cX X.prog X.w h' s.heap.objs.size g->hD (λi=>Z.getD i "") f.toArray.size g->(∀b o,b < s.heap.objs.size->s.heap.get? b=Aa o->h'.get? b=Aa o)->EP X xC σ Q (.ref s.heap.objs.size) {s with heap:=h',toks:=t}:=λf O h' t g v G L=>by
  have Y:∀b o,s.heap.get? b=Aa o->h'.get? b=Aa o:=λb o e=>L b o (aC e) e;have J:g.Nodup:=by
   obtain⟨_,_,_,_,_,_,_,_,_,J,_⟩:=v;exact J
  have M:∃o,h'.get? s.heap.objs.size=Aa o:=by
   obtain⟨o,_,_,_,e,_⟩:=v;exact⟨o,e⟩
  refine⟨.ref _,_,I.laid (a:=s.heap.objs.size) (o:=nw X.prog X.w s.heap.objs.size g) (t':=t) Y (aj _) ⟨v,M,λS T z k=>z.keep k⟩,zr,q _ g I.fresh J λx=>?_⟩;rw[G.1 x,aP,O]
  constructor
  .rintro ⟨j,m,rfl⟩;show Z.getD j ""∈Z;rw[lJ,aH m];exact iK m
  .intro hx;obtain⟨j,m,e⟩:=pG hx;refine⟨j,m,?_⟩;show Z.getD j ""=x;rw[lJ,aH m];exact e
 have A:=I.ok.hd B;rcases l with l | l
 .obtain⟨f,rv,⟨o,n,e,c,_,d⟩,z⟩:=I.list l;have O:f.length=Z.length:=by rw[<- rv.length,ai]
  obtain⟨_,_,y⟩:=kA rv;exact WI A ⟨o,e,c,n,d⟩ (by rw[ey];exact y) (by rw[aP,O];unfold scanBound;lia)<|fin f O
 .obtain⟨f,rv,⟨o,e,c,n,d⟩,z⟩:=I.tuple l;have O:f.length=Z.length:=by rw[<- rv.length,ai]
  obtain⟨_,_,y⟩:=kA rv;exact UB A ⟨o,e,c,n,d⟩ (by rw[ey];exact y) (by rw[aP,O];unfold scanBound;lia)<|fin f O
theorem vl:∀(n:Nat) (l:xD),l.length<=n->l.eraseDups.Nodup
 | 0,l,h=>by
  have:l=[]:=mL.mp (by lia);subst this;exact dH
 | n+1,[],_=>dH
 | n+1,x::l,h=>by
  rw[List.eraseDups_cons];refine dL.mpr ⟨λa=>?_,vl n _<|az (kQ _ _)<|Nat.le_of_succ_le_succ h⟩;have:=cV.mp<|List.mem_eraseDups.mp a;simp at this
def UX{J a:xD}(b:a.Nodup)(c:∀x,x∈a↔x∈J):JQ strLt a=uniq J:=by
 unfold uniq;refine Kw bT ((JW strLt a).trans ?_)<|Kb bT a;refine(BP b<|vl _ _<|aj _).mpr λx=>?_;rw[c x,Gb]
inductive zK (P:Ai) (w:Al) (a:Ab V) (H:Hp) (Q:VK):Prop
 | mk:∀(p:Ac) (b:xD),(a=[.ref p])->(H p=Aa (nw P w p b))->(∀l,H l=none->Q (.ref l) (upd H l (.lst ((JQ strLt b).map JP))))->zK P w a H Q
def Xz(i:X.calm=true)(P:Ai)(w:Al)(j:X.prog=P:=by rfl)(m:X.w=w:=by rfl):cu X (.builtin "sorted") (zK P w):=by
 subst j m;intro xC s σ H xs L Q I r h;obtain⟨p,ys,rfl,o,q⟩:=h;obtain⟨u,rfl,y⟩:=dz r;cases y
 obtain⟨Z,_,_⟩:bE X.prog X.w H s.heap p (nw X.prog X.w p ys):=I.hok p _ o;have b:ys.length<=sizeLine:=by
  obtain⟨_,es,_,_,_,_,_,_,e,_,A,_⟩:=id Z;rw[<- e,ai,aI];exact C1 A
 have B:=I.ok.hd i;have Y:∀vs,nS ys vs->ap ((vs.map bO).map JP) vs:=λvs z=>ma z.2;refine VE (Pv:=nS ys) (rk:=λvs v=>Kg strLt (vs.map bO)<|bO v) (λvs z=>by rw[show vs.length=ys.length by rw[<- z.1.length_eq,ai]];exact b)
  (λC M R e k=>Zu (by rw[e];exact B) Z λvs h' c d z=>k vs h' c d z) (λvs C N a z _ _ _=>uC<|Y vs z) λvs D l n h' c d z f E g F=>?_
 have G:=Ko bT bO f;have O:∀u∈D.toList,∃x t,u= .str x t:=λu K=>z.2 u<|f.perm.mem_iff.mp K;have J:=ma O;have es:JQ strLt (vs.map bO)=JQ strLt ys:=Kw bT ((JW strLt _).trans z.1)<|Kb bT _;rw[G,es]at J;exact ae.jz (s:={s with drawn:=d}) I.drew J (by rw[ai,(JW strLt ys).length_eq];exact b) E g F<|q l<|I.hok.fresh g
def ae.thaw{d:Ab (af×V)}(I:ae X xC σ H s)(e:H a=Aa (.frz o<|.dK d))(i:∀o u,X.H₀ a≠Aa (.frz o u)):ae X xC σ (upd H a<|.dK d) s where
 ok:=I.ok
 os:=I.os
 bare:=I.bare
 base:=by
  refine⟨I.base.keep,I.base.slot,λb J q n j=>?_,I.base.there,λb xs q=>?_,λb J u q=>?_,λb k q=>?_⟩
  .have:=I.base.free b J q n j;rw[qe (λz=>by rw[z,e]at this;cases this)];exact this
  .have:=I.base.tups b xs q;rw[qe (λz=>by rw[z,e]at this;cases this)];exact this
  .rw[qe (show b≠a from λz=>i J u (by rw[<- z];exact q))];exact I.base.frzs b J u q
  .obtain⟨more,this⟩:=I.base.tbls b k q;exact⟨more,by rw[qe (λz=>by rw[z,e]at this;cases this)];exact this⟩
 loc:=I.loc
 cell:=I.cell
 free:=by rw[qe (qj e I.free).symm];exact I.free
 freeC:=λx c h=>by rw[qe (qj e<|I.freeC x c h).symm];exact I.freeC x c h
 pin:=λp l=>by
  obtain⟨m,f,r⟩:=I.pin p l;exact⟨m,by rw[qe (qj e f).symm];exact f,r⟩
 len:=I.len
 hok:=λb J q=>by
  by_cases z:b=a
  .subst z;rw[qb]at q;cases q
   obtain⟨_,this⟩:=I.hok b _ e;exact this.stay (λc u _ g=>g) (λc g=>by rw[qe (λz=>by rw[z,e]at g;cases g)];exact g) λc xs g=>by rw[qe (λz=>by rw[z,e]at g;cases g)];exact g
  .rw[qe z]at q;have t:=I.hok b J q;exact t.stay (λc u _ g=>g) (λc g=>by rw[qe (λz=>by rw[z,e]at g;cases g)];exact g) λc xs g=>by rw[qe (λz=>by rw[z,e]at g;cases g)];exact g
def UI(d:Hp)(e:TE):TE:=λσ H Q=>e σ H λv b=>Q v b\/ ∃a o c,b a=Aa (.frz o<|.dK c)/\(∀o u,d a≠Aa (.frz o u))/\Q v (upd b a<|.dK c)
def vZ{b:TE}(f:PE X e b):PE X e (UI X.H₀ b):=by
 intro xC s σ H Q I h;refine am (f xC s σ H _ I h) λv l J=>?_;obtain⟨x,g,c,d,i⟩:=J;rcases i with q | ⟨a,o,m,j,k,q⟩
 .exact⟨x,g,c,d,q⟩
 .exact⟨x,_,c.thaw j k,d,q⟩
def cN(H:Hp)(a:Ab V)(c:xF):Prop:=Paired (λx p=>∃b,x=JU b/\H b=Aa (.tup<|p.map JP)) a c
theorem KH{H:Hp}:∀{a:Ab V} {c:xF} {d:xH},cN H a c->ap a d->nX H d c
 | _,_,_,.nil,.nil=> .nil
 | _,_,_,.cons ⟨b,e,f⟩ r,.cons g h=>by
  subst e;exact .cons ⟨b,g,f⟩<|KH r h
inductive wx (K:xA) (a:Ab V) (H:Hp) (Q:VK):Prop
 | mk:∀(p:Ac) (b:Ab V) (c:xF),(a=[.ref p])->(aK K H p b)->(cN H b c)->(∀(l:Ac) (d:Ab V),H l=none->cN H d (JQ bC c)->Q (.ref l) (upd H l (.lst d)))->wx K a H Q
theorem OK(C:X.A.units+64 < cLine)(K:xA)(F:X.K=K:=by rfl):cu X (.builtin "sorted") (wx K):=by
 subst F;intro xC s σ H xs e0 Q I r h;obtain⟨p,f0,ps,rfl,m,G,q⟩:=h;obtain⟨u,rfl,L⟩:=dz r;cases L
 obtain⟨g,D,⟨o,n,e,c,_,d⟩,z⟩:=I.list m;have J:nX H g ps:=KH G D;have Y:∀v p,(∃b,v=Aw b/\H b=Aa (.tup<|p.map JP))->cR s.heap v p:=λv p ⟨b,e,i⟩=>by
  obtain⟨_,g,t,o,M,c,n,N⟩:=I.hok b _ i;exact⟨b,o,g.toArray,n,e,M,c,N,by rw[ey];exact t⟩
 have O:Paired (λv p=>cR s.heap v p/\cH H v=p) g ps:=JX J λv p z=>⟨Y v p z,by
  obtain⟨b,rfl,i⟩:=z;exact oO i⟩
 have P:g.map (cH H)=ps:=(jw O λ_ _ z=>z.2).1;have S:∀v∈g,∃b,v=Aw b/\H b=Aa (.tup<|(cH H v).map JP):=(jw (f:=cH H) J λv p ⟨b,e,i⟩=>by
  rw[e];exact oO i).2
 have y:g.length<=sizeLine:=by
  rw[<- D.length];exact z
 refine kK (vs:=g) (rk:=λv=>Kg bC (g.map<|cH H)<|cH H v) y
  (λT g0 R _ k=>sS (.inl rfl) e c d (by rw[aP];exact y) (by rw[ey];exact k))
  (λT h0 a i0 U A=>xX (s:=s) (cH H) O U A<|by lia) λw l n h' j0 B A Z W=>?_
 have E:=Ko fZ (cH H) B;rw[P]at E;have x:∀v∈w.toList,∃b,v=Aw b/\H b=Aa (.tup<|(cH H v).map JP):=λv a0=>S v<|B.perm.mem_iff.mp a0;obtain⟨j,t,m⟩:∃j:Ab V,ap j w.toList/\cN H j (w.toList.map<|cH H):=by
  revert x;generalize w.toList=os;intro x
  induction os with
  | nil=>exact⟨[],.nil,.nil⟩
  | cons v os b0=>
   obtain⟨j,c0,d0⟩:=b0 λu C=>x u<|bb _ C;obtain⟨b,e,i⟩:=x v (be ..);exact⟨.ref b::j,.cons e c0,.cons ⟨b,zr,i⟩ d0⟩
 rw[E]at m;refine I.jz t ?_ A Z W<|q l j (I.hok.fresh Z) m;rw[t.length,B.perm.length_eq];exact y
def Rw{j:Ab BI}(p:Pairs (qv P w) j vs):∀{e:Ab (af×V)} {J:Ab Int},KV e vs->e.map (·.1)=J.map Bv->ap (J.map JN) (j.map (·.key)):=by
 induction p with
 | nil=>
  intro e J r h;cases r
  have:J=[]:=by simpa using h.symm
  subst this;exact .nil
 | cons a b c k=>
  intro e J r h;cases r with
  | cons d f=>
   cases J with
   | nil=>simp at h
   | cons x J=>
    rw[au,au,oy]at h;rw[<- d.1,h.1]at a;refine .cons ?_<|k f h.2;rcases eJ (show gH (Bv x) _=true from a) with ⟨i,t,g,l⟩ | ⟨m,t,g,_⟩
    .cases g
     exact⟨t,l⟩
    .cases g
inductive yt (a:Ab V) (H:Hp) (Q:VK):Prop
 | mk:∀(d:Ac) (b:Ab (af×V)) (c:Ab Int),(a=[.ref d])->(H d=Aa (.dK b))->(b.map (·.1)=c.map Bv)->(∀l,H l=none->Q (.ref l) (upd H l (.lst ((JQ bB c).map JN))))->yt a H Q
def Sl(p:X.calm=true)(K:xA)(w:X.K=K:=by rfl):cu X (.builtin "sorted") yt:=by
 subst w;intro xC s σ H xs W Q I r h;obtain⟨d,y,b,rfl,z,f,q⟩:=h;obtain⟨u,rfl,A⟩:=dz r;cases A
 obtain⟨g,B,vs,C,o,es,ep,D,E,J,_,Z,a0⟩:=I.hok d _ z;have c:ap (b.map JN) (es.toList.map (·.key)):=Rw Z C f;have i:b.length=y.length:=by
  have:=Ba Dw f;rw[ai,ai]at this;exact this.symm
 have e:(es.toList.map (·.key)).length<=sizeLine:=by
  rw[<- c.length,ai,i];exact g
 obtain⟨F,G,_⟩:=qS c;refine kK (vs:=es.toList.map (·.key)) (rk:=λv=>Kg bB ((es.toList.map (·.key)).map gC)<|gC v) e (λL b0 R M k=>qD (M.trans<|I.ok.hd p) B ⟨o,D,E,J⟩ (by rw[ai,aI]at e;exact e) k)
  (λL c0 a _ _ _=>zk c) λN l n h' d0 j P O S=>?_
 have T:∀u∈N.toList,∃x t,u= .int x t:=λu U=>G u<|j.perm.mem_iff.mp U;have m:=Ko gP gC j;rw[F]at m;have Y:=rU T;rw[m]at Y;exact I.jz Y (by rw[ai,(JW bB b).length_eq,i];exact g) P O S<|q l<|I.hok.fresh O
def jO(a:Ac)(o:Obj)(c:Ab (Ab af×V)):It:=
 ⟨λi H=>H a=Aa (.frz o<|.dT c)/\i < c.length,λi H x e=>e=H/\∃d b,c[i]? =Aa d/\x= .ref b/\H b=Aa (.tup<|d.1.map kV),λi H=>H a=Aa (.frz o<|.dT c)/\c.length<=i⟩
variable{kvs:Ab (Ab af×V)}
def ae.freezeT(I:ae X xC σ H s)(e:H a=Aa (.dT kvs))(d:s.heap.get? a=Aa o):ae X xC σ (upd H a<|.frz o<|.dT kvs) s:=by
 have u:Un X.fs [] H (upd H a<|.frz o<|.dT kvs) s.heap s.heap:=by
  refine⟨λb o q _ _ _=>q,λb o q _ _ _=>⟨o.slots,q⟩,λb J q n _=>?_,λb J q _=>⟨J,q⟩,λb xs q=>?_,λb J u q=>?_,λb i q=>⟨#[],?_⟩⟩
  .rw[qe (λz=>by rw[z,e]at n;cases n)];exact n
  .rw[qe (λz=>by rw[z,e]at q;cases q)];exact q
  .rw[qe (λz=>by rw[z,e]at q;cases q)];exact q
  .rw[qe (λz=>by rw[z,e]at q;cases q),q];simp
 have st:∀b J,bE X.prog X.w H s.heap b J->bE X.prog X.w (upd H a<|.frz o<|.dT kvs) s.heap b J:=λb J f=>f.stay (λc u _ g=>g) (λc g=>by rw[qe (λz=>by rw[z,e]at g;cases g)];exact g) λc xs g=>by rw[qe (λz=>by rw[z,e]at g;cases g)];exact g
 have h:HOk X.prog X.w (upd H a<|.frz o<|.dT kvs) s.heap:=λb J q=>by
  by_cases z:b=a
  .subst z;rw[qb]at q;cases q
   exact⟨d,st b _<|I.hok b _ e⟩
  .rw[qe z]at q;exact st b J<|I.hok b J q
 have:=I.un (t':=s.toks) u h;exact this
theorem zP{P:Ai}{w:Al}{H:Hp}:∀{kvs:Ab (Ab af×V)} {xs:Ab (Ab af×Ac×Ad)} {i:Nat} {c:Ab af×V},Paired (λ(p:Ab af×V) (q:Ab af×Ac×Ad)=>p.1=q.1/\H q.2.1=Aa (.tup<|p.1.map kV)/\av p.2 q.2.2) kvs xs->kvs[i]? =Aa c->
  ∃b e,(xs.map<|FX<|DT<|qv P w)[i]? =Aa e/\e.key= .ref b/\H b=Aa (.tup<|c.1.map kV)
 | _,_,i,c,.nil,h=>by simp at h
 | _,_,0,c,.cons a r,h=>by
  simp at h
  subst h;exact⟨_,_,zr,zr,a.2.1⟩
 | _,_,i+1,c,.cons a r,h=>by
  obtain⟨b,e,d,f⟩:=zP (P:=P) (w:=w) (i:=i) r (by simpa using h);exact⟨b,e,by simpa using d,f⟩
theorem Vk(a it:Ac)(o:Obj)(j:Am BI)(G:Nat)(L:Ab (Ab af×V))(M:o.ExactDict)(J:o.data= .dict j G):iE P w K tg (jO a o L) [it] it (λi h=>h.IsKeyIter it a i j.size G) where
 mem:=by simp
 obj:=λi h st b f=>by
  have e:b=it:=by simpa using f
  subst e;obtain⟨o,e,c,d⟩:=st;exact⟨o,e,λv z=>by rw[d]at z;cases z⟩
 keep:=λi h h' st k=>by
  obtain⟨o,e,r⟩:=st;exact⟨o,k it (by simp) o e,r⟩
 item:=by
  intro X l m n N i xC s σ H E I g st p;subst l m n;obtain⟨q,t⟩:=p;obtain⟨Z,T,U,xs,u,W,a0,b0,Y,c0,O,x,d0⟩:=I.hok a _ q;rw[Z]at Y;cases Y
  rw[J]at O;cases O
  obtain⟨b,e,R,e0,f⟩:=zP (P:=X.prog) (w:=X.w) u<|aH t;rw[<- x]at R;obtain⟨y,B,f0,C,D,F⟩:=g it (by simp);refine sU st ⟨o,Z,M,J⟩ (e:=e) (by simpa using R) λh' S g0=>?_;have h0:ae X xC σ H {s with heap:=h'}:=I.turned (t':=s.toks) (λb o f e=>(g0.2 b f).trans e) y B C D F;obtain⟨m0,i0,j0,k0⟩:=id S;rw[e0];exact⟨_,rfl,nk (s:={s with heap:=h'}) i0 j0 k0 (by decide) ⟨.ref b,H,h0,rfl,⟨rfl,_,b,aH t,rfl,f⟩,S,λb f=>(g b f).1⟩⟩
 done:=by
  intro X l m n N i xC s σ H E I g st p;subst l m n;obtain⟨q,t⟩:=p;obtain⟨Z,T,U,xs,u,W,a0,b0,Y,c0,O,x,d0⟩:=I.hok a _ q;rw[Z]at Y;cases Y
  rw[J]at O;cases O
  have n0:j.size=L.length:=by
   rw[<- aI,x,ai];exact(Paired.length u).symm
  obtain⟨y,B,f0,C,D,F⟩:=g it (by simp);exact ti (I.ok.hd N) st ⟨o,Z,M,J⟩ (by lia) λh' l0=>⟨zr,I.turned (t':=s.toks) (λb o f e=>l0 b o f e) y B C D F⟩
 self:=by
  intro A i s Q E st h;exact Dx st h
inductive MV (R:It->Hp->Prop) (x:V) (b:Hp):Prop
 | mk:∀a kvs,(x= .ref a)->(((b a=Aa (.dT kvs)/\∀o,R (jO a o kvs) (upd b a (.frz o (.dT kvs))))\/ ∃o,b a=Aa (.frz o (.dT kvs))/\R (jO a o kvs) b))->MV R x b
def Xb(a:TE):TI:=λσ H R=>a σ H λx b=>MV R x b
def PM{l:AK}(i:PE X l tl):PI X tg l (Xb tl):=by
 intro xC s σ H R I h;refine am (i xC s σ H _ I h) λv c j=>?_;obtain⟨x,k,f,m,n⟩:=j;obtain⟨a,kvs,e,q⟩:=n;subst e;cases m
 obtain⟨H2,o,d,p,t⟩:∃H2 o,ae X xC σ H2 c/\H2 a=Aa (.frz o<|.dT kvs)/\R (jO a o kvs) H2:=by
  rcases q with ⟨e,q⟩ | ⟨o,e,q⟩
  .obtain⟨u,O,xs,w,o,es,ep,ho,r⟩:=f.hok a _ e;exact⟨_,o,f.freezeT e ho,qb,q o⟩
  .exact⟨k,o,f,e,q⟩
 obtain⟨Z,u,O,xs,w,z,es,ep,Y,g,J,A,B⟩:=d.hok a _ p;rw[Z]at Y;cases Y
 refine vp O ⟨o,Z,g,J⟩ ?_;refine⟨c.heap.objs.size,[c.heap.objs.size],_,_,H2,zr,d.kept (t':=c.toks) λb o e=>aw _ e,Vk a _ o es ep kvs g J,⟨_,bc _ rfl,zr,zr⟩,λb y=>?_,t⟩;have e:b=c.heap.objs.size:=by simpa using y
 subst e;exact d.fpOk (aj _)<|d.hok.fresh<|aj _
def Tf{g:TG}{j:TS}{D:dJ}(Pv:Nat->St->Hp->Prop)(n:Pv 0 σ H)(k:∀i σ H,i<=kvs.length->Pv i σ H->H a=Aa (.frz o<|.dT kvs))
  (q:∀i d b σ H,kvs[i]? =Aa d->H b=Aa (.tup<|d.1.map kV)->Pv i σ H->g (.ref b) σ H λe f=>j {D with nx:=Pv<|i+1,ct:=Pv<|i+1,bk:=D.nx} e f) (r:∀σ H,Pv kvs.length σ H->D.nx σ H):
  ∃W:Nat->Nat->St->Hp->Prop,(∃m,W 0 m σ H)/\∀i m σ H,W i m σ H->((jO a o kvs).stop i H/\D.nx σ H)\/ ((jO a o kvs).go i H/\∃N:St->Hp->Prop,(∀l c,N l c->∃J,J < m/\W (i+1) J l c)/\∀x c,(jO a o kvs).yld i H x c->g x σ c λe f=>j {D with nx:=N,ct:=N,bk:=D.nx} e f):=by
 refine yd kvs.length Pv n (λi σ H h p=>⟨k i σ H (c_ h) p,h⟩) (λσ H p=>⟨⟨k _ σ H (aj _) p,aj _⟩,r σ H p⟩) λi σ H h p x c y=>?_;obtain⟨rfl,d,b,s,rfl,t⟩:=y;exact q i d b σ c s t p
inductive zJ (x:V) (y:V) (H:Hp) (Q:VK):Prop
 | mk:∀a b xs c,(x= .ref a)->(y= .ref b)->(H a=Aa (.tup xs))->(H b=Aa (.tup c))->(xs.length+c.length<=sizeLine)->(∀p d,ag H d->d p=Aa (.tup (xs++c))->Q (.ref p) d)->zJ x y H Q
def RU:bH X (eA .Add) zJ:=by
 intro xC s σ H x y v u Q I f g h;obtain⟨a,b,xs,m,rfl,rfl,c,d,o,q⟩:=h;by_cases i:xs=[]
 .subst i;cases f
  cases g
  obtain⟨r,t,w,_⟩:=I.tuple<|JT (K:=X.K) c;obtain⟨Z,L,z,_⟩:=I.tuple<|JT (K:=X.K) d;have A:r=[]:=t.lY.mpr rfl;subst A;obtain⟨⟨M,B,N,C⟩,j,k,n,l⟩:=id w;obtain⟨⟨P,D,R,E⟩,Y,J,F,O⟩:=id z;simp only at k l J O;subst k l J O;exact EV ⟨_,j,zr⟩ ⟨_,Y,zr⟩ Df Es PySem.F.slot_tuple_add PySem.F.entry_tuple_add (PySem.F.args_tuple_add_2 _ _)
   (Jp a b #[] Z.toArray n F B D C E rfl) ⟨j,Y,⟨.ref b,H,I,rfl,q b H (JZ _) d⟩⟩
 .refine yR xC s σ H _ _ v u Q I f g ⟨a,b,xs,m,zr,zr,JT c,JT d,i,o,λe=>?_,λ_ p G=>q p _ (qc G) qb⟩;subst e;exact q a H (JZ _) (by rw[dy];exact c)
variable{fp:Ab Ac}
def cf.ch(a:∀b∈fp,cf X xC H b):∀b∈fp,(b∈X.ex\/ X.s₀.heap.objs.size<=b)/\b≠X.env.locals/\(∀x c,X.env.cells.lookup x=Aa c->c≠b)/\∀p∈X.pn++xC,p.1≠b:=λb d=>
 let ⟨_,e,_,f,g,h⟩:=a b d;⟨f,e,g,h⟩
variable{t':Nat}
def oC(I:ae X xC σ H s)(Y:∀b∈fp,cf X xC H b)(k:∀b o,b∉fp->s.heap.get? b=Aa o->h'.get? b=Aa o):ae X xC σ H {s with heap:=h',toks:=t'}:=by
 have O:∀b u,H b=Aa u->b∉fp:=λb u e z=>by rw[(Y b z).1]at e;cases e
 refine I.step (g':=s.gens) (d':=s.drawn) (ch:=fp) (cf.ch Y) (λb o _ _ J e _=>k b o J e) (λb o _ _ J e _=>⟨o.slots,k b o J e⟩) (λ_ _ _ _ n=>n)
  (λb o J e=>⟨o,k b o J e⟩) (λ_ _ e=>e) (λ_ _ _ e=>e) (λb d e=>⟨#[],by rw[e];simp⟩) (λm a=>?_) (λb u e=>?_) I.bare
 .obtain⟨o,es,ep,ho,r⟩:=a;exact⟨o,es,ep,k _ o (λz=>(Y _ z).2.1 rfl) ho,r⟩
 .refine(I.hok b u e).stay (λc v J q=>k c v ?_ q) (λ_ q=>q) λ_ _ q=>q;rcases J with z | z
  .rw[z];exact O b u e
  .exact O c _ z
def Oq{o:HO}(I:ae X xC σ H s)(Y:∀b∈fp,cf X xC H b)(k:∀b o,b∉fp->s.heap.get? b=Aa o->h'.get? b=Aa o)(f:s.heap.objs.size<=a)
  (g:bE X.prog X.w (upd H a o) h' a o):ae X xC σ (upd H a o) {s with heap:=h',toks:=t'}:=by
 have h:H a=none:=I.hok.fresh f;have O:∀b u,H b=Aa u->b∉fp:=λb u e z=>by rw[(Y b z).1]at e;cases e
 have d:∀{b u},H b=Aa u->upd H a o b=Aa u:=λ{b u} q=>by rw[qe<|qj q h];exact q
 refine I.step (g':=s.gens) (d':=s.drawn) (ch:=fp) (cf.ch Y) (λb o _ _ J e _=>k b o J e) (λb o _ _ J e _=>⟨o.slots,k b o J e⟩)
  (λb u J e n=>by rw[qe<|aJ<|cp (aC e) f];exact n)
  (λb o J e=>⟨o,k b o J e⟩) (λb xs e=>d e) (λb o u e=>d e) (λb j e=>⟨#[],by rw[d e];simp⟩) (λm i=>?_) (λb u e=>?_) I.bare
 .obtain⟨o,es,ep,ho,r⟩:=i;exact⟨o,es,ep,k _ o (λz=>(Y _ z).2.1 rfl) ho,r⟩
 .by_cases hb:b=a
  .subst hb;rw[qb]at e;cases e
   exact g
  .rw[qe hb]at e;refine(I.hok b u e).stay (λc v J q=>k c v ?_ q) (λc q=>d q) λc xs q=>d q;rcases J with z | z
   .rw[z];exact O b u e
   .exact O c _ z
theorem bh.imp{P:Ai}{w:Al}{K:xA}{a:xE}{b:AH}{k:Nat}{C:Ac}{m:Str}{c:xD}{d J:Sp}(D:bh P w K a b k C m c d)(h:∀vs H Q E,J vs H Q E->d vs H Q E):bh P w K a b k C m c J:=by
 obtain⟨f,e,F,g,i⟩:=D.ex;exact⟨f,e,F.imp h,g,i⟩
theorem bh.mono{P:Ai}{w:Al}{K:xA}{a:xE}{b:AH}{j k:Nat}{C:Ac}{m:Str}{c:xD}{sp:Sp}(D:bh P w K a b j C m c sp)(h:j<=k):bh P w K a b k C m c sp:=by
 obtain⟨f,d,F,e,g⟩:=D.ex;exact⟨f,d,F.mono h,e,g⟩
def xo{b:Type}(e:b->Ac)(m:Str)(f:b->Sp)(g:TE)(t:TA):TE:=λσ H Q=>g σ H λx c=>∃i a h d,x= .ref a/\c a=Aa (.ins (e i) h d)/\d.lookup m=none/\
 t σ c λvs j=>f i (x::vs) j Q E0
section
variable{X:Cx}{k k':Nat}{ι:Type}{cls:ι->Ac}{ps:xD}{sp:ι->Sp}{x m:Str}{p pos apos:Pos}{e o:AK}{es:Ab AK}{ta:TE}{t:TA}
def kY{pl:Sem AJ}(D:∀i,bh X.prog X.w X.K X.mg X.base k (cls i) m ps<|sp i)(c:∀i,cU X.K<|cls i)(j:aR k' X.A)(n:PE X o ta)(p:PA X (e::es) t)(J:k<=k':=by decide)
  (Y:AA (e::es) X.env=(false,Bp e X.env)::AA es X.env:=by rfl) (O:(Bs pos<|AA es X.env).any (·.1)=false:=by rfl)
  (v:Bp (.Call (.Attribute o m apos) (e::es) [] pos) X.env=(do
   let ov <- Bp o X.env
   DL apos.atName
   let (f,first) <- Dp [ov] (CO ov m pl)
   ED pos f first (Bs pos<|AA (e::es) X.env) (Cn pos<|BE [] X.env)):=by rfl):
  PE X (.Call (.Attribute o m apos) (e::es) [] pos) (xo cls m sp ta t):=by
 intro xC s σ H Q I h;refine PySem.W.methodCall_KW (pl:=pl) (am (n xC s σ H _ I h) λu w Z=>?_) v;obtain⟨x,y,b,z,i,a,G,K,A,B,l,q⟩:=Z;obtain⟨f,L,F,d,C⟩:=(D i).ex;subst A;obtain rfl:u=Aw a:=z;refine pd b B (c i) d l ?_;refine PySem.W.callWith_K (first:=[.ref a]) (h₀:=X.base) I.ok.mod.kin d.kp (am (p pos xC w σ y _ b q) λus M ⟨vs,N,g,r,E⟩=>⟨g.kIn,?_⟩) Y O;exact nN (us:= .ref a::us) (vs:= .ref a::vs) F (j.mono J) C .nil iV g (.cons rfl r) (by rw[dy];exact E)
def oU{pl:Sem AJ}(D:∀i,bh X.prog X.w X.K X.mg X.base k (cls i) m ps<|sp i)(c:∀i,cU X.K<|cls i)(e:aR k' X.A)(g:PE X o ta)(J:k<=k':=by decide)
  (j:Bp (.Call (.Attribute o m apos) [] [] pos) X.env=(do
   let ov <- Bp o X.env
   DL apos.atName
   let (f,first) <- Dp [ov] (CO ov m pl)
   ED pos f first (Bs pos<|AA [] X.env) (Cn pos<|BE [] X.env)):=by rfl):
  PE X (.Call (.Attribute o m apos) [] [] pos) (xo cls m sp ta eE):=by
 intro xC s σ H Q I h;refine PySem.W.methodCall_KW (pl:=pl) (am (g xC s σ H _ I h) λu v O=>?_) j;obtain⟨x,w,b,n,i,a,y,z,p,r,l,q⟩:=O;obtain⟨f,A,F,d,t⟩:=(D i).ex;subst p;obtain rfl:u=Aw a:=n;refine pd b r (c i) d l ?_;exact PySem.W.callWith_K0 (first:=[.ref a]) b.kIn d.kp<|nN (us:=[.ref a]) (vs:=[.ref a]) F (e.mono J) t .nil iV b (.cons rfl .nil) q
def Vc{C:Ac}(a:Gl X x)(b:X.mg x=Aa (.ref C))(c:(x==("__debug__":Str))=false:=by decide):PE X (.Name x pos) (tC<|.ref C):=rJ a b rfl c
end
def ju(x:Str)(n:Int):Str:=if n < 1 then DU else if (n==1 || x.length==0)=true then x else {cps:=D0 (λa b=>a++b) #[] (AI n.toNat x.cps)}
theorem B_(a:Am Nat):∀(k:Nat) (acc:Am Nat),(D0 (λa b=>a++b) acc<|AI k a).size=acc.size+k*a.size
 | 0,acc=>by simp
 | k+1,acc=>by
  rw[kH,G9,B_ a k,El,DM]
  lia
inductive NQ (x:V) (y:V) (H:Hp) (Q:VK):Prop
 | mk:∀i n,(x= .str i)->(y= .int n)->(0<=n)->(n<=1000)->(i.length<=1000)->(Q (.str (ju i n)) H)->NQ x y H Q
theorem YH:bH X (eA .Mult) NQ:=by
  intro xC s σ H x y v u Q I f g h;obtain⟨i,n,rfl,rfl,k,l,j,q⟩:=h;obtain⟨t,rfl⟩:=f;obtain⟨t',rfl⟩:=g;have d:i.length*n.toNat<=1000*1000:=lS j (by lia);refine P.mul_str (by simp;lia) (λ_ _=>?_) (λ_ _=>?_) ?_
  · have:(1000:Int)<=(2^63 - 1) / n:=by
      refine Int.le_ediv_of_mul_le (by lia) ?_
      lia
    lia
  · unfold Builtin.Str.tooLong
    exact aN<|Nat.not_lt.mpr<|az d (show 1000*1000<=sizeLine by decide)
  · unfold ju at q
    split
    · rename_i h
      rw[Ah h]at q;exact⟨ba _,.str _,H,I.tok _,⟨_,zr⟩,q⟩
    · rename_i h
      rw[Ae h]at q;split
      · rename_i c
        rw[Ah c]at q;exact⟨.str _,H,I,⟨_,zr⟩,q⟩
      · rename_i c
        rw[Ae c]at q;refine⟨?_,.str _,H,I.tok _,⟨_,zr⟩,q⟩;show (D0 (λa b=>a++b) #[] (AI n.toNat i.cps)).size<=sizeLine;rw[B_];have e:i.length=i.cps.size:=rfl;have:1000*1000<=sizeLine:=by decide
        rw[e,IP]at d;simp only[aP,ku]
        lia
end L2
open L2.bh renaming mono->Kj
namespace L2
open PySem PySem.Spec PyProof.Rows PySem.W
variable{prog:Ai}{w:Al}{A:As}{s:Af}
theorem wo{fin:AJ}{r:AJ}{Q:AJ->Af->Prop}:∀(a b:Ab AQ) (d f:xH) (k l:Ab Ac) (i:Nat),Fu s.heap d a k->Fu s.heap f b l->AB a=true->AB b=true->
  A.units+min (Az a) (Az b) < cLine->fin=decide (d.length < f.length)->aL a b=Aa r->Q r s->HP prog w A false fin Q (d.zip f) i s
 | [],[],_,_,_,_,i,Z,c,_,_,_,Y,e,q=>by
  cases Z
  cases c
  cases e
  rw[BV,Y];exact q
 | [],_::_,_,_,_,_,i,Z,c,_,_,_,Y,e,q=>by
  cases Z
  cases c
  cases e
  rw[BV,Y];refine IU ?_;rw[aS<|by simp];exact q
 | _::_,[],_,_,_,_,i,Z,c,_,_,_,Y,e,q=>by
  cases Z
  cases c
  cases e
  rw[D1,Y];refine IU ?_;rw[aN<|by simp];exact q
 | x::a,y::b,_,_,_,_,i,Z,c,m,n,g,Y,e,q=>by
  have J:x.canLay0=true/\AB a=true:=by simpa [AB] using m
  have O:y.canLay0=true/\AB b=true:=by simpa [AB] using n
  cases Z with
  | cons h o=>
   cases c with
   | cons j p=>
    have eq:=Di x y A s _ _ _ _ h j J.1 O.1<|DD g;rw[iX];refine Jm<|eq prog w _ _ ?_;rw[aL]at e;cases z:AC x y with
    | true=>
     rw[Ah z]at e;exact JE<|wo a b _ _ _ _ (i+1) o p J.2 O.2 (Hf g) (by rw[Y];simp) e q
    | false=>
     rw[Ae (by rw[z];exact aY)]at e;refine kat_no ?_;rw[hV];exact JD _ _<|yA x y A s _ _ _ _ r h j J.1 O.1 (DD g) e prog w _ _ q
variable{rk:Ad->Int}{ks vs:xH}
theorem Wt{a:Am At}(f:ks.length=vs.length)(b:a.Perm (ks.toArray.zip vs.toArray))(c:Tim.Up (λp=>rk p.2) a 0 vs.length):Ki rk vs (a.map (·.2)).toList:=by
 have Z:a.toList.Perm (ks.zip vs):=by
  have:=l_.mp b;rw[JG]at this
  simpa using this
 have g:a.size=vs.length:=by
  rw[b.size_eq,HZ,aP,aP]
  lia
 refine⟨?_,?_⟩
 .rw[B1];have:=Z.map Prod.snd
  rwa [Dc<|by lia]at this
 .rw[B1,gA];intro i j d e Y;rw[Dd,Dd];have O:i < a.toList.length:=by simpa using d
  have J:j < a.toList.length:=by simpa using e
  have:=c i j (ba _) (c_ Y) (by rw[aI]at J;lia);rw[Kz a i<|aH O,Kz a j<|aH J]at this;exact this
variable{X:Cx}{k:Nat}{f:Ac}{ps:xD}{sp:Sp}{xC:xG}{σ:St}{H:Hp}
def VW{c:BD}{Q:VK}{a:xH}{vs:Ab V}(F:bZ X.prog X.w X.K X.mg X.base CX0 k f c ps sp)(d:aR (k+2) X.A)(g:df X.K c ps [])
  (I:ae X xC σ H s) (r:ap vs a) (h:sp vs H Q E0):Ak (Ao X.prog X.w) X.A.in1.in1 (call (.ref f) a) (EP X xC σ Q) (λ_ _=>Bj) s:=by
 have i:(a++ []).length=ps.length:=by
  rw[dy,<- r.length];exact F.len _ _ _ _ h
 have J:=g s a I.kIn i;rw[dy]at J;refine DZ (eZ (F.run X.A.in1.in1 X.stack s H ⟨a,[]⟩ a vs Q E0 d.in1.in1 I.env0.in1.in1 J r h) λr l b=>?_);cases r with
 | error e=>exact b.elim
 | ok j=>
  cases j with
  | ret u=>exact I.after b
  | next=>exact Bc b
  | brk=>exact Bc b
  | cont=>exact Bc b
variable{a:Ac}
def ae.track{o:HO}(I:ae X xC σ H s)(O:cf X xC H a)(g:bE X.prog X.w (upd H a o) s.heap a o):ae X xC σ (upd H a o) s:=by
 have h:H a=none:=O.1;have d:∀{b u},H b=Aa u->upd H a o b=Aa u:=λ{b u} q=>by rw[qe<|qj q h];exact q
 have:=I.step (h':=s.heap) (H':=upd H a o) (t':=s.toks) (g':=s.gens) (d':=s.drawn) (ch:=[a]) (cf.ch (λb f=>by rw[aM.mp f];exact O)) (λb o _ _ J e _=>e) (λb o _ _ J e _=>⟨o.slots,e⟩)
  (λb u J e n=>by rw[qe λz=>J (by rw[z];exact aM.mpr rfl)];exact n)
  (λb o J e=>⟨o,e⟩) (λb j e=>d e) (λb o u e=>d e) (λb ps e=>⟨#[],by rw[d e];simp⟩) (λm i=>i) (λb u e=>?_) I.bare
 .exact this
 .by_cases f:b=a
  .subst f;rw[qb]at e;cases e
   exact g
  .rw[qe f]at e;exact(I.hok b u e).stay (λc v J q=>q) (λ_ q=>d q) λ_ _ q=>d q
variable{kS:Ac}{e e1:Nat}{P:PySem.Fin->Af->Prop}{E:xB}
def wp{st:AD}(I:ae X (xC++ [(a,AG "list" #[] e1),(kS,AG "list" ks.toArray e)]) σ H s)(n:cf X xC H a)(p:cf X xC H kS)(Z:kS≠a)(q:ks.length=vs.length)(j:vs.length<=sizeLine)
  (k:Ki rk vs ((Aq st).map (·.2)).toList) (Y:BM st=none)
  (h:∀f l c,Ki rk vs l.toList->ae X xC σ H f->f.heap.get? a=Aa (AG "list" l c)->P (.done<|.ret .none) f):Ak (Ao X.prog X.w) A (ksk_tail a false e1 (.ref kS) st) P E s:=by
 have r:=(I.pin (a,AG "list" #[] e1)<|b_ _<|b_ _<|.head _).1;have t:=(I.pin (kS,AG "list" ks.toArray e)<|b_ _<|b_ _<|.tail _<|.head _).1;have u:((Aq st).map (·.2)).size=vs.length:=by rw[<- aI,k.perm.length_eq]
 have m:=cT s.heap kS (AF λ_=>(#[]:Am Ad));have J:(s.heap.update kS<|AF λ_=>(#[]:Am Ad)).get? a=Aa (AG "list" #[] e1):=(m.2 a Z.symm).trans r;have v:=cT (s.heap.update kS<|AF λ_=>(#[]:Am Ad)) a (AF λ_=>(Aq st).map (·.2));obtain⟨i,O⟩:∃i,((s.heap.update kS<|AF λ_=>(#[]:Am Ad)).update a (AF λ_=>(Aq st).map (·.2))).get? a=Aa (AG "list" ((Aq st).map (·.2)) i):=⟨_,By J λ_=>(Aq st).map (·.2)⟩;unfold ksk_tail
 try dsimp only
 refine ac<|BY t rfl ?_ (by rw[aP,q];exact j)<|ba _;refine ac<|Jq ?_;refine ac<|Ed J rfl ?_;refine ac<|BY J rfl ?_ (ba _) (by simp only[bL,AZ];rw[u];exact Ci j);rw[Y];simp only[Ee,bL,AZ];refine ah<|h _ _ i k (oC (fp:=[a,kS]) I.unpinned (λb d=>?_) λb o d g=>?_) O
 .simp only[aA,cc,Bf]at d;rcases d with rfl | rfl
  .exact n
  .exact p
 .simp only[aA,cc,Bf,E7]at d;exact(v.2 b d.1).trans<|(m.2 b d.2).trans g
theorem YW{n:Nat}(I:ae X xC σ H s)(G:s.heap.get? a=Aa (AG "list" vs.toArray n))(C:cf X xC H a)(K:vs.length<=sizeLine)
    (J:Nat->Ab Ad->Hp->Prop) (m0:J 0 [] H)
    (turn:∀i v ks L d j,vs[i]? =Aa v->ks.length=i->J i ks d->ae X L σ d j->Ak (Ao X.prog X.w) A (call (.ref f) [v]) (λu O=>∃a0,ae X L σ a0 O/\J (i+1) (ks++ [u]) a0) (λ_ _=>Bj) j)
    (n0:∀ks L d j,ks.length=vs.length->J vs.length ks d->ae X L σ d j->2<=vs.length->
      ∃M:Bu,(∀(E:xB) (Q:Bu->Af->Prop),Q M j->Ak (Ao X.prog X.w) A (Ho ks.toArray) Q E j)/\∀x∈ks.zip vs,∀y∈ks.zip vs,Ku X.prog X.w A j M x.1 y.1 (decide (rk x.2 < rk y.2)))
    (h:∀ks d j B c,J vs.length ks d->Ki rk vs B.toList->ae X xC σ d j->cf X xC d a->j.heap.get? a=Aa (AG "list" B c)->P (.done<|.ret .none) j):
    Ak (Ao X.prog X.w) A (ksk_tree a (.ref f) false) P E s:=by
  have o0:a < s.heap.objs.size:=aC G;have p0:=cT s.heap a (AF λ_=>(#[]:Am Ad));obtain⟨e1,b0⟩:∃e1,(s.heap.update a<|AF λ_=>(#[]:Am Ad)).get? a=Aa (AG "list" #[] e1):=⟨_,By G λ_=>#[]⟩;have c0:((s.heap.update a<|AF λ_=>(#[]:Am Ad)).push<|AG "tuple" vs.toArray 0).objs.size=s.heap.objs.size+1:=by rw[size_push',GJ]
  unfold ksk_tree;refine ac<|Cq G rfl ?_;refine ac<|BY G rfl ?_ (by rw[aP];exact K)<|ba _;refine ac<|Ed b0 rfl ?_;refine ac<|Hq ?_ (by rw[ey];exact K);refine ac<|Cz ?_<|ba _;refine dG ?_;have d0:∀b o,(s.heap.update a<|AF λ_=>(#[]:Am Ad)).get? b=Aa o->(((s.heap.update a<|AF λ_=>(#[]:Am Ad)).push<|AG "tuple" vs.toArray 0).push<|AG "list" #[] 0).get? b=Aa o:=λb o z=>aw _<|aw _ z;have e0:ae X xC σ H {s with heap:=((s.heap.update a<|AF λ_=>(#[]:Am Ad)).push<|AG "tuple" vs.toArray 0).push<|AG "list" #[] 0}:=
    oC (t':=s.toks) (fp:=[a]) I (λb m=>by rw[aM.mp m];exact C) λb o m z=>d0 b o<|(p0.2 b λw=>m (by rw[w];exact aM.mpr rfl)).trans z
  have f0:(((s.heap.update a<|AF λ_=>(#[]:Am Ad)).push<|AG "tuple" vs.toArray 0).push<|AG "list" #[] 0).get? ((s.heap.update a<|AF λ_=>(#[]:Am Ad)).push<|AG "tuple" vs.toArray 0).objs.size=Aa (AG "list" #[] 0):=bc _ rfl;have q0:=d0 a _ b0;generalize U0:((s.heap.update a<|AF λ_=>(#[]:Am Ad)).push<|AG "tuple" vs.toArray 0).objs.size=kS at f0 c0;have D:cf X xC H kS:=I.fpOk (by lia) (I.hok.fresh<|by lia);have T:kS≠a:=by rw[c0];exact ge<|iN o0
  have nc:∀(r0:Am Ad) (s0:Nat) (v:Ag Ad),(AG "list" r0 s0).data≠ .cell v:=λ_ _ _ z=>nomatch z;have t0:ae X (xC++ [(a,AG "list" #[] e1),(kS,AG "list" ([]:xH).toArray 0)]) σ H {s with heap:=((s.heap.update a<|AF λ_=>(#[]:Am Ad)).push<|AG "tuple" vs.toArray 0).push<|AG "list" #[] 0}:=e0.qJ λp g=>by
    rcases aF.mp g with g | g
    · exact e0.pin p<|b_ _ g
    · simp only[aA,cc,Bf]at g
      rcases g with rfl | rfl
      · exact⟨q0,C.1,C.2.1,C.2.2.1,nc _ _⟩
      · exact⟨f0,D.1,D.2.1,D.2.2.1,nc _ _⟩
  unfold ksk_rest;refine ac (eS ?_)
  first
    | rw[List.forIn_toArray]
    | (rw[<- CM];simp only[ey])
    | rw[<- CM]
  refine ac (ksk_fold (λi j=>∃d ks e,ae X (xC++ [(a,AG "list" #[] e1),(kS,AG "list" (ks:xH).toArray e)]) σ d j/\J i ks d/\ks.length=i) vs 0 _ ⟨H,[],0,t0,m0,zr⟩ ?step ?done)
  case step=>
    rintro g0 x j N ⟨d,ks,e,q,r,k⟩;simp only[dF]at r k ⊢;have V0:g0 < vs.length:=(bR.mp N).1;refine ac (jT<|bK (turn g0 x ks _ d j N k r q) (λu O u0=>?_) λ_ _ v0=>v0.elim);obtain⟨h0,F,w0⟩:=u0
    try dsimp only
    have R:=F.pin (a,AG "list" #[] e1)<|b_ _<|b_ _<|.head _;have l:=F.pin (kS,AG "list" ks.toArray e)<|b_ _<|b_ _<|.tail _<|.head _;have i0:=cT O.heap kS (AF (·.push u));obtain⟨U,x0⟩:∃U,(O.heap.update kS (AF (·.push u))).get? kS=Aa (AG "list" (ks.toArray.push u) U):=⟨_,By l.1 (·.push u)⟩;refine ac<|BY l.1 rfl ?_ (by rw[aP];lia) (by rw[Array.size_push,aP];lia);have j0:ae X xC σ h0 {O with heap:=O.heap.update kS (AF (·.push u))}:=oC (t':=O.toks) (fp:=[kS]) F.unpinned (λb m=>by rw[aM.mp m];exact⟨l.2.1,D.2⟩) λb o m z=>(i0.2 b λw=>m (by rw[w];exact aM.mpr rfl)).trans z;refine ah ⟨rfl,h0,ks++ [u],U,j0.qJ λp g=>?_,w0,by rw[aX,k];rfl⟩;rcases aF.mp g with g | g
    · exact j0.pin p<|b_ _ g
    · simp only[aA,cc,Bf]at g
      rcases g with rfl | rfl
      · exact⟨(i0.2 a T.symm).trans R.1,R.2⟩
      · exact⟨by rw[x0];simp,l.2.1,l.2.2.1,l.2.2.2.1,nc _ _⟩
  case done=>
    rintro j ⟨d,ks,e,q,r,k⟩;simp only[dF]at r k;have R:=q.pin (a,AG "list" #[] e1)<|b_ _<|b_ _<|.head _;have l:=q.pin (kS,AG "list" ks.toArray e)<|b_ _<|b_ _<|.tail _<|.head _;have Z:cf X xC d a:=⟨R.2.1,C.2⟩;have k0:cf X xC d kS:=⟨l.2.1,D.2⟩
    try dsimp only
    refine ac<|Cq l.1 rfl ?_;unfold ksk_end
    try dsimp only
    simp only[bL,AZ];by_cases t:vs.toArray.size < 2
    · rw[Ah t,Ah t]
      refine ac<|ah ?_;rw[G8];refine ac (ah ?_)
      try dsimp only
      refine wp (st:=FT HQ (ks.toArray.zip vs.toArray) #[] 7 none) q Z k0 T k K ?_ rfl λl0 B c W F y0=>h ks d l0 B c r W F Z y0;have z0:((ks.toArray.zip vs.toArray).map (·.2)).toList=vs:=by
        rw[B1,JG,ey,Dc<|by lia]
      show Ki rk vs ((ks.toArray.zip vs.toArray).map (·.2)).toList;rw[z0];refine⟨Hr _,?_⟩;rw[aP]at t
      match vs,t with
      | [],_=>exact .nil
      | [_],_=>exact iL ..
    · rw[Ae t,Ae t]
      rw[aP]at t;obtain⟨M,A0,H0⟩:=n0 ks _ d j k r q (by lia);refine ac<|A0 _ _ ?_;have J0:(ks.toArray.zip vs.toArray).size=vs.length:=by
        rw[HZ,aP,aP]
        lia
      have K0:∀p∈(ks.toArray.zip vs.toArray).toList,p∈ks.zip vs:=λp g=>by
        rw[JG,ey]at g;exact g
      refine ac (bK (Tim.Mi (S:=λp=>p∈ks.zip vs) (rk:=λp=>rk p.2) (n:=vs.length) (st:=FT M (ks.toArray.zip vs.toArray) #[] 7 none)
        (Q:=λ_ Y=>(Aq Y).Perm (ks.toArray.zip vs.toArray)/\BM Y=none/\Tim.Up (λp=>rk p.2) (Aq Y) 0 vs.length)
        (Tim.Lb λx y N L0=>H0 x N y L0) ⟨J0,K0,rfl,rfl⟩ (by lia) rfl λY M0 N0 O0=>⟨M0,N0,O0⟩) ?_ λ_ _ e=>e)
      rintro ⟨⟨⟩,Y⟩ l0 ⟨rfl,g,P0,Q0⟩
      try dsimp only
      exact wp q Z k0 T k K (Wt k g Q0) P0 λR0 B c W S0 T0=>h ks d R0 B c r W S0 Z T0
theorem tS{d e c:Type}{F:d->c->Prop}{G:e->c->Prop}:∀{ks:Ab d} {vs:Ab e} {l:Ab c},Paired F ks l->Paired G vs l->∀x∈ks.zip vs,∃a∈l,F x.1 a/\G x.2 a
 | _,_,_,.nil,.nil,_,h=>nomatch h
 | _,_,_,.cons a r,.cons b q,x,h=>by
  rw[iX]at h;rcases aA.mp h with rfl | h
  .exact⟨_,be ..,a,b⟩
  .obtain⟨z,hz,r1⟩:=tS r q x h;exact⟨z,bb _ hz,r1⟩
theorem x_{c f:Type}{F:c->f->Prop}:∀{l:Ab c} {k:Ab f} {i:Nat} {x:c},Paired F l k->l[i]? =Aa x->∃y,k[i]? =Aa y/\F x y
 | _,_,0,x,.cons a b,h=>by
  cases h
  exact⟨_,zr,a⟩
 | _,_,i+1,x,.cons a b,h=>by
  obtain⟨d,e,r⟩:=x_ (i:=i) (x:=x) b (by simpa using h);exact⟨d,by simpa using e,r⟩
theorem paired_app{c d:Type}{F:c->d->Prop}{x:c}{y:d}:∀{e:Ab c} {f:Ab d},Paired F e f->F x y->Paired F (e++ [x]) (f++ [y])
 | _,_,.nil,h=> .cons h .nil
 | _,_,.cons a b,h=> .cons a<|paired_app b h
theorem rq{c d:Type}{F:c->d->Prop}:∀{l:Ab c} {k:Ab d} {x:c},Paired F l k->x∈l->∃y∈k,F x y
 | _,_,x,.cons a b,h=>by
  rcases aA.mp h with rfl | h
  .exact⟨_,be ..,a⟩
  .obtain⟨y,hy,r⟩:=rq b h;exact⟨y,bb _ hy,r⟩
def QB:AU "enumerate"=Aa (.type "enumerate"):=by decide+kernel
def nH(K:xA)(a:Ac):It:=
  ⟨λi H=>∃b x,aK K H a b/\b[i]? =Aa x,
   λi H v c=>∃p x,v= .ref p/\H p=none/\c=upd H p (.tup [.int (i:Nat),x])/\∀b,aK K H a b->b[i]? =Aa x,
   λi H=>∃b,aK K H a b/\i=b.length⟩
variable{K:xA}{elts:Ab AK}{pos:Pos}
theorem RS{P:Ai}{kk}(e b a:Ac)(Z:e≠b)(U:e≠a)(L:a≠b):
  iE P w K (.Tuple elts kk pos) (nH K a) [e,b] e (λi h=>(∃f,IsEnum h e b (i:Nat) f)/\h.IsListIter b a i) where
 mem:=by simp
 obj:=λi h st c J=>by
  obtain⟨⟨f,O⟩,⟨W,e1,_,a0⟩⟩:=st;simp only[aA,cc,Bf]at J;rcases J with rfl | rfl
  .exact⟨_,O,λ_ q=>by cases q⟩
  .exact⟨_,e1,λ_ q=>by rw[a0]at q;cases q⟩
 keep:=λi h M st k=>by
  obtain⟨⟨f,O⟩,g⟩:=st;exact⟨⟨f,k e (by simp) _ O⟩,g.at λo z=>k b (by simp) o z⟩
 item:=by
  intro X n p r J i xC s σ H E I j st t;subst n p r;obtain⟨N,x,Y,Q⟩:=t;obtain⟨d,v,⟨y,A,B,C,_,dl⟩,_⟩:=I.list Y;have D:s.heap.IsList a d.toArray:=⟨y,B,C,A,dl⟩;obtain⟨u,R,b0⟩:=v.get Q;obtain⟨⟨f,O⟩,g⟩:=st;have c0:i < d.toArray.size:=by
   have:=(bR.mp R).1
   simpa using this
  refine wpAny_pyNext_enum_itemD (Draws.list (show X.A.in1.handled=none from I.ok.hd J) b a L d.toArray) O ⟨g,D⟩ c0 Z (by simp only[aA,cc,Bf,E7];exact⟨Z,U⟩) λl M m e1 d0 e0 f0 n0 F=>?_;have g0:l=u:=by simpa [R] using e1.symm
  subst g0;refine⟨_,zr,wpAny_letOwnedTupleGo_enum d0 λS h0 G=>?_⟩;have T:e < s.heap.objs.size:=aC O;have i0:S.get? s.heap.objs.size=Aa {cls:= .type "tuple",data:= .seq #[.int (i:Nat) m,l]}:=G.extBut _ _ (ge T) f0;have j0:ae X xC σ (upd H s.heap.objs.size<|.tup [.int (i:Nat),x]) {s with heap:=S,toks:=m+1}:=by
   refine Oq (s:=s) (fp:=[e,b]) I j (λc o J z=>?_) (aj _) ?_
   .simp only[aA,cc,Bf,E7]at J;exact G.extBut _ _ J.1<|F c o J.1 J.2 z
   .exact⟨by show 2<=sizeLine;decide,[.int (i:Nat) m,l],.cons ⟨m,rfl⟩<|.cons b0 .nil,_,i0,rfl,_,rfl⟩
  refine⟨.ref s.heap.objs.size,_,j0,zr,⟨_,x,zr,I.fresh,zr,λo0 k0=>?_⟩,⟨⟨l,?_⟩,e0.1.extBut G.extBut<|Bi Z⟩,λc J=>?_⟩
  .rw[I.vR k0 Y];exact Q
  .have:(((i:Nat):Int)+1)=((i+1:Nat):Int):=by lia
   rw[<- this];exact h0
  .rw[qe]
   .exact(j c J).1
   .simp only[aA,cc,Bf]at J;obtain⟨W,l0,_⟩:=g;rcases J with rfl | rfl
    .exact aJ T
    .exact aJ (aC l0)
 done:=by
  intro X n p r J i xC s σ H E I j st t;subst n p r;obtain⟨N,Y,m0⟩:=t;obtain⟨d,v,⟨y,A,B,C,_,dl⟩,_⟩:=I.list Y;have D:s.heap.IsList a d.toArray:=⟨y,B,C,A,dl⟩;obtain⟨⟨f,O⟩,g⟩:=st;have l1:d.toArray.size=N.length:=by rw[aP];exact v.length.symm
  refine wpAny_pyNext_enum_endD (Draws.list (show X.A.in1.handled=none from I.ok.hd J) b a L d.toArray) O ⟨by rw[l1,<- m0];exact g,D⟩ λM F=>⟨rfl,oC I j λc o J z=>?_⟩;simp only[aA,cc,Bf,E7]at J;exact F c o J.2 z
 self:=λ_ _ _ _ _ st h=>let ⟨⟨_,O⟩,_⟩:=st;Gz O h
def Wb(l:Ac)(J:Am Ad):
  JK (Bl.«enumerate.__new__» ⟨[.type "enumerate",.ref l],[]⟩) (λ_ R s=>s.heap.IsList l J/\
   R (.ok<|.ret<|.ref (s.heap.push {cls:= .type "list_iterator",data:= .fields #[.ref l,.int 0 0]}).objs.size)
    {s with heap:=(s.heap.push {cls:= .type "list_iterator",data:= .fields #[.ref l,.int 0 0]}).push {cls:= .type "enumerate",data:= .fields #[.none,.bool false,.ref s.heap.objs.size,BK 0,.none,.none]}}):=
 .of_wp λprog w A R s h=>by
  obtain⟨a,g,d,b,os⟩:=s;obtain⟨e,h⟩:=h;have Y:=sub_enumerate;have O:Heap.IsList (Shared.heap ⟨a,g,d,b,os⟩) l J:=e
  wp_walk using gK O
  refine wpAny_stack_any λst=>ah ?_;split
  .rename_i c _ _ _ _ _;cases (c==AN "enumerate")
   .wp_walk using gK O
    exact⟨_,zr,h⟩
   .wp_walk using gK O
    exact⟨_,zr,h⟩
  .wp_walk using gK O
   exact⟨_,zr,h⟩
def Zp{l:Ac}{J:Am Ad}{Q:xB}(d:s.heap.IsList l J)
  (h:∀a,IsEnum a (s.heap.objs.size+1) s.heap.objs.size 0 .none->a.IsListIter s.heap.objs.size l 0->a.objs.size=s.heap.objs.size+2->
   (∀b o,s.heap.get? b=Aa o->a.get? b=Aa o)->Q (.ref<|s.heap.objs.size+1) {s with heap:=a}):
  Ak (Ao prog w) A (call (.type "enumerate") [.ref l]) Q E s:=by
 refine callType_new F.called_enumerate (by decide) (F.typeCall_enumerate_1 _) (F.newCall_enumerate_1 _) (λe=>F.args_object_init_2 e _) F.entry_enumerate_new
  (Wb l J) ⟨d,?_⟩
 have c:(s.heap.push {cls:= .type "list_iterator",data:= .fields #[.ref l,.int 0 0]}).objs.size=s.heap.objs.size+1:=fi ..;show _/\_;rw[c];have O:IsEnum ((s.heap.push {cls:= .type "list_iterator",data:= .fields #[.ref l,.int 0 0]}).push
   {cls:= .type "enumerate",data:= .fields #[.none,.bool false,.ref s.heap.objs.size,BK 0,.none,.none]}) (s.heap.objs.size+1) s.heap.objs.size 0 .none:=by
  have:=bc (s.heap.push {cls:= .type "list_iterator",data:= .fields #[.ref l,.int 0 0]})
   (o:={cls:= .type "enumerate",data:= .fields #[.none,.bool false,.ref s.heap.objs.size,BK 0,.none,.none]}) rfl
  rw[c]at this;exact this
 refine⟨⟨_,O,zr⟩,h _ O ⟨_,aw _<|bc _ rfl,zr,zr⟩ (by rw[fi,c]) λb o x=>aw _<|aw _ x⟩
inductive zE (K:xA) (R:It->Hp->Prop) (c:Ab V) (b:Hp):Prop
 | mk:∀a,(c=[.ref a])->((∃d,aK K b a d))->(R (nH K a) b)->zE K R c b
def QH(K:xA)(a:TA):TI:=λσ H R=>a σ H λvs b=>zE K R vs b
variable{pt p:Pos}
def Zb(K:xA){kk}{a:AK}{f:TA}(i:Gl X "enumerate")(j:X.mg "enumerate"=none)(k:PA X [a] f)(l:AA [a] X.env=[(false,Bp a X.env)]:=by rfl)(m:X.K=K:=by rfl):
  PI X (.Tuple elts kk pt) (.Call (.Name "enumerate" p) [a] [] pos) (QH K f):=by
 subst m;intro xC s σ H R I h;refine Call_<|ky I i j QB<|tH (am (k pos xC s σ H _ I h) λE b J=>?_) l rfl;obtain⟨vs,n,d,o,t⟩:=J;obtain⟨x,e,⟨F,u⟩,q⟩:=t;subst e;cases o with
 | cons r v=>
  cases v
  cases r
  obtain⟨w,G,⟨y,z,A,B,_,dl⟩,_⟩:=d.list u;have Z:b.heap.IsList x w.toArray:=⟨y,A,B,z,dl⟩;have g:x < b.heap.objs.size:=by obtain⟨_,e,_⟩:=id Z;exact aC e
  refine Zp Z λL Y C M D=>Gz Y ?_;refine⟨_,_,_,_,n,zr,d.kept (t':=b.toks) D,RS (b.heap.objs.size+1) b.heap.objs.size x (ge<|iw _) (ge<|iN g)<|aJ g,⟨⟨_,Y⟩,C⟩,λc O=>?_,q⟩;have le:b.heap.objs.size<=c:=by
   simp only[aA,cc,Bf]at O;rcases O with rfl | rfl
   .exact Nat.le_add_right _ 1
   .exact aj _
  exact d.fpOk le<|d.hok.fresh le
def TV{xs:Ab V}{g:TG}{j:TS}{D:dJ}(Pv:Nat->St->Hp->Prop)(l:Pv 0 σ H)(e:∀i σ H,i<=xs.length->Pv i σ H->aK K H a xs)
  (n:∀i x p σ H,xs[i]? =Aa x->H p=none->Pv i σ H->g (.ref p) σ (upd H p<|.tup [.int (i:Nat),x]) λf h=>j {D with nx:=Pv<|i+1,ct:=Pv<|i+1,bk:=D.nx} f h) (o:∀σ H,Pv xs.length σ H->D.nx σ H):
  ∃W:Nat->Nat->St->Hp->Prop,(∃m,W 0 m σ H)/\∀i m σ H,W i m σ H->((nH K a).stop i H/\D.nx σ H)\/ ((nH K a).go i H/\∃N:St->Hp->Prop,(∀k b,N k b->∃J,J < m/\W (i+1) J k b)/\∀x b,(nH K a).yld i H x b->g x σ b λf h=>j {D with nx:=N,ct:=N,bk:=D.nx} f h):=by
 refine yd xs.length Pv l (λi σ H d p=>?_) (λσ H p=>⟨⟨xs,e _ σ H (aj _) p,zr⟩,o σ H p⟩) λi σ H d p x b y=>?_
 .exact⟨xs,xs[i],e i σ H (c_ d) p,aH d⟩
 .obtain⟨c,x',rfl,hc,rfl,hq⟩:=y;exact n i x' c σ H (hq xs<|e i σ H (c_ d) p) hc p
variable{e:AK}{k':Nat}{C:Ac}{x:Str}{es:Ab AK}{t:TA}
def UH(D:bh X.prog X.w X.K X.mg X.base k C "__init__" ps sp)(b:PySem.W.makesIn X.K C=true)(c:PySem.W.keepIn X.K (.ref C)=true)(d:aR k' X.A)(g:Gl X x)(h:X.mg x=Aa (.ref C))(i:PA X (e::es) t)(O:k+1<=k':=by decide)
  (J:(x==("__debug__":Str))=false:=by decide) (j:AA (e::es) X.env=(false,Bp e X.env)::AA es X.env:=by rfl) (Y:(Bs pos<|AA es X.env).any (·.1)=false:=by rfl):PE X (.Call (.Name x p) (e::es) [] pos) (lT C sp [] E0 t):=by
 obtain⟨f,m,F,a,l⟩:=D.ex;exact KI ⟨b,a.at_,a.fn,c⟩ F (d.mono O) g h l .nil iV i J j Y
end L2
open PySem PySem.W PyProof.Rows
namespace L2
variable{p:Ab Ad->Prop}
def Uf(h:p []):∀us:Ab Ad,us.length=0->p us:=λ_ e=>(mL.mp e).symm ▸ h
def cK(h:∀a:Ad,p [a]):∀b:Ab Ad,b.length=1->p b
 | [],e=>Au e (by decide)
 | a::t,e=>Uf (p:=λb=>p<|a::b) (h a) t<|Ct e
def dM(h:∀a b:Ad,p [a,b]):∀c:Ab Ad,c.length=2->p c
 | [],e=>Au e (by decide)
 | a::t,e=>cK (p:=λc=>p<|a::c) (h a) t<|Ct e
def eV(h:∀a b c:Ad,p [a,b,c]):∀d:Ab Ad,d.length=3->p d
 | [],e=>Au e (by decide)
 | a::t,e=>dM (p:=λd=>p<|a::d) (h a) t<|Ct e
def kc(h:∀a b c d:Ad,p [a,b,c,d]):∀f:Ab Ad,f.length=4->p f
 | [],e=>Au e (by decide)
 | a::t,e=>eV (p:=λf=>p<|a::f) (h a) t<|Ct e
def NS(h:∀a b c d e:Ad,p [a,b,c,d,e]):∀f:Ab Ad,f.length=5->p f
 | [],e=>Au e (by decide)
 | a::t,e=>kc (p:=λf=>p<|a::f) (h a) t<|Ct e
structure bn (K:xA) (x:Str) (st:AV):Prop where
 ex:∃(f:Ac) (oc:Ad) (od an:Ag Ac) (osl:Am (Ag Ad)) (kV doc pm cdv ct:Ad),PySem.W.nsIn K Ar x=Aa (Aa (.ref f))/\
  K.lookup f=Aa ⟨oc,od,.func (PySem.W.fnOf x x (dr st) (bU st) (qf st) .none kV doc pm an cdv ct),osl⟩/\PySem.W.codeIn K cdv x=true/\PySem.W.keepIn K (.ref f)=true
variable{K:xA}{x:Str}{Z:Ad}{O:Am (Ag Ad)}
def fiK{st:AV}{f:Ac}{d Y:Ag Ac}{kV J e b g:Ad}(a:PySem.W.nsIn K Ar x=Aa (Aa<|.ref f))
  (l:K.lookup f=Aa ⟨Z,d,.func<|PySem.W.fnOf x x (dr st) (bU st) (qf st) .none kV J e Y b g,O⟩) (c:PySem.W.codeIn K b x=true) (k:PySem.W.keepIn K (.ref f)=true):bn K x st:=
 ⟨f,Z,d,Y,O,kV,J,e,b,g,a,l,c,k⟩
variable{h:AH}{mg:xE}{ps:xD}
def bn.top{st:AV}(F:bn K x st)(X:K.In h)(G:h.Ns Ar mg)
  (b:∀(kV J Y:Ad) (O:Ag Ac) (e g:Ad) (d:xH),d.length=ps.length->EC (PySem.W.fnOf x x (dr st) (bU st) (qf st) .none kV J Y O e g) ⟨d,[]⟩=AX (ps.zip d)):aZ K mg x st ps:=by
 obtain⟨f,i,j,O,m,kV,J,Y,e,g,a,l,c,k⟩:=F.ex;exact XT X G b a l c k
structure cm (K:xA) (x m qual:Str) (st:AV):Prop where
 ex:∃(C f:Ac) (oc:Ad) (od an:Ag Ac) (osl:Am (Ag Ad)) (kV doc pm cdv ct:Ad),PySem.W.nsIn K Ar x=Aa (Aa (.ref C))/\PySem.W.findIn K (.ref C) m=Aa (Aa (.ref f))/\PySem.W.isFn K (.ref f)=true/\
  K.lookup f=Aa ⟨oc,od,.func (PySem.W.fnOf m qual (dr st) (bU st) (qf st) .none kV doc pm an cdv ct),osl⟩/\PySem.W.codeIn K cdv qual=true/\PySem.W.keepIn K (.ref f)=true
variable{C:Ac}
def miK{m b:Str}{st:AV}{f:Ac}{e Y:Ag Ac}{kV J g d h:Ad}(n:PySem.W.nsIn K Ar x=Aa (Aa<|.ref C))
  (a:PySem.W.findIn K (.ref C) m=Aa (Aa<|.ref f)) (i:PySem.W.isFn K (.ref f)=true)
  (l:K.lookup f=Aa ⟨Z,e,.func<|PySem.W.fnOf m b (dr st) (bU st) (qf st) .none kV J g Y d h,O⟩) (c:PySem.W.codeIn K d b=true) (k:PySem.W.keepIn K (.ref f)=true):cm K x m b st:=
 ⟨C,f,Z,e,Y,O,kV,J,g,d,h,n,a,i,l,c,k⟩
def cm.top{m d:Str}{st:AV}(F:cm K x m d st)(X:K.In h)(G:h.Ns Ar mg)
  (b:∀(kV J Y:Ad) (O:Ag Ac) (g j:Ad) (e:xH),e.length=ps.length->EC (PySem.W.fnOf m d (dr st) (bU st) (qf st) .none kV J Y O g j) ⟨e,[]⟩=AX (ps.zip e)):bY K (cA mg x) m d st ps:=by
 obtain⟨C,f,o,p,O,q,kV,J,Y,g,j,n,a,i,l,c,k⟩:=F.ex;rw[gn<|fu X G n];exact Yh b a i l c k
structure fj (K:xA) (x:Str):Prop where
 ex:∃C:Ac,PySem.W.nsIn K Ar x=Aa (Aa (.ref C))/\PySem.W.plainGet K C DU=true/\PySem.W.hasDictIn K C=true/\PySem.W.plainOver K C=true/\
  PySem.W.findIn K (.ref C) "__setattr__"=Aa (Aa (.builtin "object.__setattr__"))/\PySem.W.makesIn K C=true/\PySem.W.keepIn K (.ref C)=true
def ciK(n:PySem.W.nsIn K Ar x=Aa (Aa<|.ref C))(a:PySem.W.plainGet K C DU=true)(b:PySem.W.hasDictIn K C=true)(c:PySem.W.plainOver K C=true)
  (d:PySem.W.findIn K (.ref C) "__setattr__"=Aa (Aa<|.builtin "object.__setattr__")) (mk:PySem.W.makesIn K C=true) (e:PySem.W.keepIn K (.ref C)=true):fj K x:=⟨C,n,a,b,c,d,mk,e⟩
def fj.g(F:fj K x)(X:K.In h)(G:h.Ns Ar mg):mg x=Aa (.ref<|cA mg x):=by
 obtain⟨C,n,_⟩:=F.ex;rw[gn<|fu X G n];exact fu X G n
def fj.cl(F:fj K x)(X:K.In h)(G:h.Ns Ar mg):cU K (cA mg x):=by
 obtain⟨C,n,a,b,c,d,_⟩:=F.ex;rw[gn<|fu X G n];exact⟨a,b,c,d⟩
def fj.mk'(F:fj K x)(X:K.In h)(G:h.Ns Ar mg):PySem.W.makesIn K (cA mg x)=true:=by
 obtain⟨C,n,_,_,_,_,mk,_⟩:=F.ex;rw[gn<|fu X G n];exact mk
def fj.kp(F:fj K x)(X:K.In h)(G:h.Ns Ar mg):PySem.W.keepIn K (.ref<|cA mg x)=true:=by
 obtain⟨C,n,_,_,_,_,_,a⟩:=F.ex;rw[gn<|fu X G n];exact a
variable{a:Str}{v:Ag (Ag Ad)}
structure fA (K:xA) (x a:Str) (v:Ag (Ag Ad)):Prop where
 ex:∃C:Ac,PySem.W.nsIn K Ar x=Aa (Aa (.ref C))/\PySem.W.findIn K (.ref C) a=v
def aiK(n:PySem.W.nsIn K Ar x=Aa (Aa<|.ref C))(f:PySem.W.findIn K (.ref C) a=v):fA K x a v:=⟨C,n,f⟩
def fA.at'(F:fA K x a v)(X:K.In h)(G:h.Ns Ar mg):PySem.W.findIn K (.ref<|cA mg x) a=v:=by
 obtain⟨C,n,f⟩:=F.ex;rw[gn<|fu X G n];exact f
open PySem PySem.Spec PyProof.Rows PySem.Builtin.Str
variable{X:Cx}{e:AK}{te:TE}{pos:Pos}
def NL(c:PE X e te):PE X (.FormattedValue e (-1) none pos) (λa H Q=>te a H λx b=>∃z,x= .str z/\z.length<=sizeLine/\Q (.str z) b):=by
 intro d s a H Q I h;refine FormattedValue_plain (am (c d s a H _ I h) λv k J=>?_);obtain⟨x,b,f,g,z,i,j,q⟩:=J;subst i;obtain⟨t,rfl⟩:=g;exact formatField_str (λl m=>⟨.str z,b,f.tok _,⟨_,zr⟩,q⟩) j
variable{v1 v2 v3:AK}{t1 t2 t3:TE}
def Xh(l:PE X v1 t1)(m:PE X v2 t2)(n:PE X v3 t3):PE X (.JoinedStr [v1,v2,v3] pos) (λd H Q=>t1 d H λx e=>∃a,x= .str a/\a.length<=100000/\t2 d e λy f=>∃b,y= .str b/\b.length<=100000/\t3 d f λz g=>∃c,z= .str c/\c.length<=100000/\Q (.str<|a++b++c) g):=by
 intro i s d H Q I h;have J:Str.empty.length=0:=rfl;refine Ib (C2<|am (l i s d H _ I h) λv o Y=>?_);obtain⟨x,e,p,q,a,r,j,u⟩:=Y;subst r;obtain⟨t,rfl⟩:=q;refine⟨?_,C2<|am (m i o d e _ p u) λv w ⟨y,f,A,B,b,C,k,D⟩=>?_⟩
 .rw[Br,J,dF];exact az j (by decide)
 subst C;obtain⟨t,rfl⟩:=B;refine⟨?_,C2<|am (n i w d f _ A D) λv M ⟨z,g,E,F,c,G,K,L⟩=>?_⟩
 .rw[Br,Br,J,dF];exact az (B4 j k) (by decide)
 subst G;obtain⟨t,rfl⟩:=F;have O:(DU++a++b++c).length<=sizeLine:=by
  rw[Br,Br,Br,J,dF];exact az (B4 (B4 j k) K) (by decide)
 rw[GN]at O ⊢;exact⟨O,Iw ⟨.str<|a++b++c,g,E.tok _,⟨_,zr⟩,L⟩ O⟩
def eY(P:Ai)(w:Al):gT:=λd H s E e a=>
 ∃(f:Ac) (g:Ad) (t:Ac) (c:Hp) (B:AH),e= .ref f/\a.os=s.os/\DK a.gens/\Un (cC d) [] H c s.heap a.heap/\HOk P w c a.heap/\
  Cu B d f g (.ref t) a.heap/\(∀b u,c b=Aa u->∃o,B.get? b=Aa o)/\(∀b o,s.heap.get? b=Aa o->b∉cC d->∃h,B.get? b=Aa h)/\E g none c
variable{P:Ai}{w:Al}{H:Hp}
def bE.there{a:Ac}{o:HO}(x:bE P w H h a o):∃u,h.get? a=Aa u:=by
 cases o with
 | lst b=>obtain⟨_,_,_,_,e⟩:=x;exact⟨_,e⟩
 | tup b=>obtain⟨_,_,_,u,e,_⟩:=x;exact⟨u,e⟩
 | dK c=>obtain⟨_,_,_,_,o,_,_,e,_⟩:=x;exact⟨o,e⟩
 | dT c=>obtain⟨_,_,_,_,o,_,_,e,_⟩:=x;exact⟨o,e⟩
 | set S n=>obtain⟨o,_,_,_,e,_⟩:=x;exact⟨o,e⟩
 | ins C g d=>obtain⟨_,_,_,e,_⟩:=x;exact⟨_,e⟩
 | own y=>obtain⟨o,e⟩:=x;exact⟨o,e⟩
 | xd d=>obtain⟨_,⟨o,_,_,e,_⟩,_⟩:=x;exact⟨o,e⟩
 | rng lo i=>obtain⟨_,_,_,e⟩:=x;exact⟨_,e⟩
 | frz j u=>obtain⟨e,_⟩:=x;exact⟨_,e⟩
 | tbl ps=>exact⟨_,(show h.get? a=Aa _ from x)⟩
 | met f y=>exact⟨_,(show h.get? a=Aa _ from x)⟩
 | ext k=>obtain⟨_,⟨o,e⟩,_⟩:=x;exact⟨o,e⟩
section
variable{X:Cx}{xC:xG}{σ:St}{H:Hp}{s:Af}{E:XK}{B h':AH}{ea t:Ac}{cls:Ad}
def wO{P:Ai}{w:Al}{h:AH}(ok:HOk P w H h)(st:B.StaysIn h)(d:∀b u,H b=Aa u->∃o,B.get? b=Aa o)(k:B.StaysIn h'):HOk P w H h':=λa u e=>
 (ok a u e).stay (λb v c q=>by
  have J:∃O,H b=Aa O:=by
   rcases c with rfl | c
   .exact⟨_,e⟩
   .exact⟨_,c⟩
  obtain⟨O,f⟩:=J;obtain⟨o,Y⟩:=d b O f;have z:=st b o Y;rw[q]at z;cases z
  exact k b _ Y) (λ_ q=>q) λ_ _ q=>q
def wk{l:Ab Env}{H j:Hp}{h f h2:AH}(d:Un (cC l) [] H j h f)(st:B.StaysIn f)(p:f.FunFrames B l)(Y:∀b o,h.get? b=Aa o->b∉cC l->∃e,B.get? b=Aa e)(k:B.StaysIn h2)(J:h2.FunFrames B l)(r:f.UpToSlots h2):
  Un (cC l) [] H j h h2:=by
 refine⟨λb o q n a i=>?_,λb o q n a i=>?_,d.free,λb o q _=>?_,d.tups,d.frzs,d.tbls⟩
 .have e1:=d.keep b o q n a i;obtain⟨e,g⟩:=Y b o q a;have c:=st b e g;rw[e1]at c;cases c
  exact k b _ g
 .obtain⟨sl,e1⟩:=d.slot b o q n a i;obtain⟨_,m,c,s⟩:=p.mem a;rw[e1]at c;cases c
  obtain⟨O,t⟩:=r b _ e1 s;exact⟨O,t⟩
 .by_cases a:b∈cC l
  .obtain⟨_,m,c,_⟩:=J.mem a;exact⟨m,c⟩
  .obtain⟨e,g⟩:=Y b o q a;exact⟨e,k b _ g⟩
def XB{b h:AH}{l:Ab Env}(f:h.FunFrames b l)(st:B.StaysIn h){c:AH}(d:c.FunFrames B l):h.FunFrames B l:=by
 induction l with
 | nil=>trivial
 | cons n r e=>
  obtain⟨g,⟨L,o,J,p,i⟩,j⟩:=f;obtain⟨q,⟨s,t,a,k,u⟩,m⟩:=d;rw[J]at a;cases a
  exact⟨g,⟨L,o,J,k,i⟩,e j m⟩
def yM(I:ae X xC σ H s)(J:X.ex=[])(st:B.StaysIn s.heap)(c:∀b u,H b=Aa u->∃o,B.get? b=Aa o)(O:∀b o,X.s₀.heap.get? b=Aa o->b∉cC X.outer->∃d,B.get? b=Aa d)
  (a:Cu B X.outer ea cls (.ref t) h') (e:s.heap.UpToSlots h') (f:E cls none H):eY X.prog X.w X.outer X.H₀ X.s₀ E (.ref ea) {s with heap:=h'}:=by
 have Y:=I.base;rw[J]at Y;exact⟨ea,cls,t,H,B,zr,I.os,I.bare,wk Y st (XB I.funs st a.2.2.1) O a.1 a.2.2.1 e,wO I.hok st c a.1,a,c,O,f⟩
structure oS (X:Cx) (E:XK):Prop where
 ex:X.ex=[]
 st:X.stack=X.env::X.outer
 fr:X.env.frame=Aa X.env.locals
 xe:X.xe=λe s'=>Ak (Ao X.prog X.w) X.A (leaving X.env e) (λ_ s''=>eY X.prog X.w X.outer X.H₀ X.s₀ E e s'') (λe' s''=>eY X.prog X.w X.outer X.H₀ X.s₀ E e' s'') s'
def lO{P:Ai}{w:Al}{K:xA}{a:xE}{b:AH}{N:xD}{c:Str}{d:Ck}{f:Ac}{e:Ad}{A:As}{g:Ab Env}{s:Af}{H:Hp}:
  oS (eF (eY P w) P w K a b N c d f e A g s H E) E:=⟨rfl,rfl,rfl,rfl⟩
def ae.old(I:ae X xC σ H s)(st:X.stack=X.env::X.outer)(c:X.env.frame=Aa X.env.locals){b:Ac}{o:Obj}(q:X.s₀.heap.get? b=Aa o)(a:b∉cC X.outer):b∉cC X.stack:=λz=>by
 rcases aA.mp (I.stkSub b z) with e | e
 .exact Au (cp (aC q) I.ok.above) (by rw[e];exact ii _)
 .exact a e
def tX(L:oS X E):fx (eY X.prog X.w) X E:=by
 intro xC σ H s e s' I h;obtain⟨ea,cls,t,c,B,rfl,os,d,f,g,a,i,j,k⟩:=h;have l:ae X xC σ c s':=I.call' (ch:=[]) os f g d (λb z=>nomatch z);rw[L.xe];have J:=a;rw[L.st]at J;refine wpAny_leaves_onW (by rw[<- L.st];exact I.ok.frames) L.fr J λh' m n=>?_;refine yM l L.ex a.1 i (λb o q p=>?_) m n k;obtain⟨r,u⟩:=I.base.there b o q (by rw[L.ex];simp);exact j b r u<|I.old L.st L.fr q p
def TF(L:oS X E)(I:ae X xC σ H s){d:AH}{i:xH}(f:Heap.MadeExcOf s.heap d ea cls i)(J:E cls none H):X.xe (.ref ea) {s with heap:=d}:=by
 rw[L.xe];have O:∀a∈X.env::X.outer,∀b,a.frame=Aa b->b∈cC X.stack:=λa J b c=>by rw[L.st];exact List.mem_filterMap.mpr ⟨a,J,c⟩
 have g:=I.stack;rw[L.st]at g;refine wpAny_leaves_madeW (base:=PySem.W.hideAll s.heap<|cC X.stack) (h:=s.heap) (by rw[<- L.st];exact I.ok.frames) L.fr (λb o q=>PySem.W.of_hideAll _ q) (PySem.W.funFrames_hide g O) f λh' t j _ _ k=>?_;have l:s.heap.UpToSlots h':=(Heap.UpToSlots.of_keeps f.keeps).trans k;show eY X.prog X.w X.outer X.H₀ X.s₀ E (.ref ea) {s with heap:=h'};refine yM (s:=s) I L.ex (λb o q=>PySem.W.of_hideAll _ q) (λb u q=>?_) (λb o q c=>?_) j l J
 .obtain⟨o,e⟩:∃o,s.heap.get? b=Aa o:=(I.hok b u q).there;exact⟨o,PySem.W.hideAll_get _ e λz=>by rw[I.stkFree b z]at q;cases q⟩
 .obtain⟨o',q'⟩:=I.base.there b o q (by rw[L.ex];simp);exact⟨o',PySem.W.hideAll_get _ q'<|I.old L.st L.fr q c⟩
end
abbrev NV:Ab Ad:=[.type "ValueError",.type "Exception",.type "BaseException",.type "object"]
def Uc{Y:xH}{J:BL}(X:K.In h)(q:PySem.W.excIn K C Y J=true):
  ∃bm N f g i j k sub m o p a b c d e s,h.get? C=Aa (excClassObj f g C N i bm j k sub m o p a b c d e J)/\h.Ns N s/\s "__init__"=none/\OwnTail h Y bm:=by
 unfold PySem.W.excIn at q;split at q
 .rename_i p cd sl ho;split at q
  .rename_i C' bm a b c d n e hm hs;simp only[ir,HF,Gm]at q;obtain⟨⟨⟨⟨⟨rfl,rfl⟩,O⟩,t⟩,r⟩,Z⟩:=q;obtain⟨f,i,w,u,g,j,k,sub,m,o,x⟩:=cd
   dsimp only at hm O r Z
   subst hm O;have v:sl=#[a,b,c,d,Aa<|.builtin n,e]:=by
    obtain⟨l⟩:=sl;simp only at hs;rw[hs]
   subst v;exact⟨bm,u,f,g,i,j,k,sub,m,o,p,a,b,c,d,e,_,X _ _ ho,.of_isNs<|PySem.W.isNs_of_in X r,PySem.W.nsMap_none_of_in X r Z,PySem.W.tail_of_in X t⟩
  .cases q
 .cases q
def Pp(C:Ac)(E:XK)(t:TA):TS:=λ_ a H=>t a H λb c=>b.length<=sizeLine/\E (.ref C) none c
variable{E:XK}{np cpos:Pos}{es:Ab AK}{t:TA}
def yq(L:oS X E)(c:PySem.W.excIn X.K C NV "ValueError.__new__"=true)(d:X.mg x=Aa (.ref C))(f:PA X (e::es) t)(g:Gl X x:=by rfl)(i:X.calm=true:=by rfl)
  (Y:AA (e::es) X.env=(false,Bp e X.env)::AA es X.env:=by rfl) (O:(Bs cpos<|AA es X.env).any (·.1)=false:=by rfl) (j:(x==("__debug__":Str))=false:=by decide):
  PS X (.Raise (Aa<|.Call (.Name x np) (e::es) [] cpos) none pos) (Pp C E t):=by
 intro k s l H D I h;obtain⟨bm,N,nm,q,bs,hdct,sn,sub,ab,col,dd,k0,k1,k2,k3,k5,mN,m,n,J,T⟩:=Uc I.mod.kin c;refine wpAny_Raise_call_subT (C:=C) (nm:=nm) (q:=q) (N:=N) (bs:=bs) (bm:=bm) (hdct:=hdct) (sn:=sn) (sub:=sub) (ab:=ab) (col:=col) (dd:=dd) (k0:=k0) (k1:=k1) (k2:=k2) (k3:=k3) (k5:=k5)
  F.excBase_ValueError (mN:=mN) (T.hasType F.excBase_ValueError.hasBase) (I.ok.hd i) (by rw[Y];show (false || (Bs cpos<|AA es X.env).any (·.1))=false;rw[O];rfl) J (jb I g d ⟨rfl,?_⟩ j)
 have a:=f cpos k s l H _ I h;rw[Y]at a ⊢;refine BF (am a λp u ⟨v,w,b,r,z,q⟩=>⟨rfl,by rw[<- r.length];exact z,b.bk _ _ m,n.keeps b.bk,T.keeps b.bk,λy A o=>?_⟩);exact TF L b o q
abbrev Cx.tried(X:Cx)(xC:xG)(xe:xB):Cx:={X with pn:=X.pn++xC,xe:=xe}
abbrev Cx.hand(X:Cx)(ea:Ac)(oe:Obj):Cx:={X with A:=X.A.mark<|Aa<|.ref ea,calm:=false,pn:=(ea,oe)::X.pn,xe:=λ_ _=>Bj}
variable{xC:xG}{σ:St}{s:Af}{xe:xB}
theorem ae.tried(I:ae X xC σ H s):ae (X.tried xC xe) [] σ H s:=
 ⟨⟨I.ok.mod,I.ok.kind,I.ok.glob,I.ok.blt,I.ok.above,I.ok.inj,I.ok.has,I.ok.cab,I.ok.hd,I.ok.frames,I.ok.stk,I.ok.exf,I.ok.bs,I.ok.bsz,I.ok.noex,I.ok.exfs,I.ok.funs,I.ok.frf⟩,I.os,I.bare,I.base,I.loc,I.cell,I.free,I.freeC,
  λp a=>I.pin p (by rw[dy]at a;exact a),I.hok,I.len⟩
variable{pins':xG}
def ae.untried(I:ae (X.tried xC xe) pins' σ H s)(ok:X.Ok):ae X xC σ H s:=
 ⟨ok,I.os,I.bare,I.base,I.loc,I.cell,I.free,I.freeC,λp a=>I.pin p<|vw _ a,I.hok,I.len⟩
variable{ea:Ac}{oe:Obj}
theorem ae.hand(I:ae X xC σ H s)(h:s.heap.get? ea=Aa oe/\H ea=none/\ea≠X.env.locals/\ea∉X.fs/\∀v,oe.data≠ .cell v):ae (X.hand ea oe) xC σ H s:=
 ⟨⟨I.ok.mod,I.ok.kind,I.ok.glob,I.ok.blt,I.ok.above,I.ok.inj,I.ok.has,I.ok.cab,(λz=>by cases z),I.ok.frames,I.ok.stk,I.ok.exf,I.ok.bs,I.ok.bsz,I.ok.noex,I.ok.exfs,I.ok.funs,I.ok.frf⟩,I.os,I.bare,I.base,I.loc,I.cell,I.free,I.freeC,
  λp a=>by
   rcases aA.mp a with rfl | z
   .exact h
   .exact I.pin p z,I.hok,I.len⟩
def ae.unhand(I:ae (X.hand ea oe) xC σ H s)(ok:X.Ok):ae X xC σ H s:=
 ⟨ok,I.os,I.bare,I.base,I.loc,I.cell,I.free,I.freeC,λp a=>I.pin p<|bb _ a,I.hok,I.len⟩
theorem SP.unhand{D:dJ}{f:Flow}(ok:X.Ok)(h:SP (X.hand ea oe) xC D f s):SP X xC D f s:=by
 cases f with
 | next=>obtain⟨a,b,I,q⟩:=h;exact⟨a,b,I.unhand ok,q⟩
 | brk=>obtain⟨a,b,I,q⟩:=h;exact⟨a,b,I.unhand ok,q⟩
 | cont=>obtain⟨a,b,I,q⟩:=h;exact⟨a,b,I.unhand ok,q⟩
 | ret u=>obtain⟨v,a,b,I,r,q⟩:=h;exact⟨v,a,b,I.unhand ok,r,q⟩
theorem SP.untried{D:dJ}{f:Flow}(ok:X.Ok)(h:SP (X.tried xC xe) pins' D f s):SP X xC D f s:=by
 cases f with
 | next=>obtain⟨a,b,I,q⟩:=h;exact⟨a,b,I.untried ok,q⟩
 | brk=>obtain⟨a,b,I,q⟩:=h;exact⟨a,b,I.untried ok,q⟩
 | cont=>obtain⟨a,b,I,q⟩:=h;exact⟨a,b,I.untried ok,q⟩
 | ret u=>obtain⟨v,a,b,I,r,q⟩:=h;exact⟨v,a,b,I.untried ok,r,q⟩
variable{E:xB}{M:Cv}{A:As}{i:Nat}{n:Str}{Q:Ge->Af->Prop}
def pM(I:ae X xC σ H s)(B:X.N.Nodup)(r:X.N[i]? =Aa n)(C:X.env.kindOf n=Aa .local)
  (h:∀t,ae X xC (σ.set i none) H t->Q () t):Ak M A (do bindName X.env n .none;unbindBehindTheSuite X.env n pos) Q E s:=by
 obtain⟨m,u,D⟩:=id I.loc;have Y:(X.env.scope.kind== .class || (X.env.scope.kind== .module&&X.env.locals !=X.env.globals))=false:=by rw[I.ok.kind];rfl
 have F:i < σ.length:=by rw[I.len];exact(bR.mp r).1
 have w:=I.cne;obtain⟨T,_,_,U,_⟩:=id u;refine wpAny_nameGoes_keeps C u Y λW v G J=>?_;have O:∀b o,X.s₀.heap.get? b=Aa o->b≠X.env.locals:=λb o e=>aJ<|cp (aC e) I.ok.above;refine h _ ⟨I.ok,I.os,I.bare,⟨λb o e n l f=>(J.2 b<|O b o e).trans<|I.base.keep b o e n l f,λb o e n l f=>?_,I.base.free,λb o e f=>?_,I.base.tups,I.base.frzs,I.base.tbls⟩,⟨_,G,λj y K a g L=>?_⟩,λy c e=>?_,I.free,I.freeC,λp N=>?_,λb P e=>?_,by simpa using I.len⟩
 .obtain⟨sl,a⟩:=I.base.slot b o e n l f;exact⟨sl,(J.2 b<|O b o e).trans a⟩
 .obtain⟨o',a⟩:=I.base.there b o e f;exact⟨o',(J.2 b<|O b o e).trans a⟩
 .by_cases hj:j=i
  .subst hj;rw[CW F]at g;cases g
  .rw[Dt<|Bi hj]at g;obtain⟨R,S,q⟩:=D j y K a g L;refine⟨R,S,?_⟩;rcases q with ⟨k,e⟩ | ⟨k,c,e,z⟩
   .refine .inl ⟨k,?_⟩;have:y≠n:=λe=>hj<|vF B a (e ▸ r);simp[this,e]
   .exact .inr ⟨k,c,e,z.sameBut J<|w y c e⟩
 .obtain⟨x,z⟩:=I.cell y c e;exact⟨x,z.sameBut J<|w y c e⟩
 .obtain⟨e,n,ne,nf,d⟩:=I.pin p N;exact⟨(J.2 p.1 ne).trans e,n,ne,nf,d⟩
 .refine(I.hok b P e).stay (λc x Z q=>(J.2 c ?_).trans q) (λ_ q=>q) λ_ _ q=>q;rintro rfl;rcases Z with z | Z
  .rw[<- z,I.free]at e;cases e
  .rw[I.free]at Z;cases Z
def Mr(K:xA)(W:Ac)(n:Nat)(d:Ac->Obj->St->Hp->Prop):XK:=λa _ b=>PySem.W.exmOne K a (.ref W)=Aa true/\∀ea oe c,oe.cls=a->b ea=none->c.length=n->d ea oe c b
def dJ.less(D:dJ)(i:Nat):dJ:={nx:=λσ H=>D.nx (σ.set i none) H,rt:=D.rt,bk:=λσ H=>D.bk (σ.set i none) H,ct:=λσ H=>D.ct (σ.set i none) H}
def YF(K:xA)(W:Ac)(n i:Nat)(a:XK->TS)(b:Ac->Obj->TS):TS:=λD σ H=>a (Mr K W n λea oe c=>b ea oe (D.less i)<|c.set i<|Aa<|.ref ea) D σ H
variable{W:Ac}
def Tw{Q:Flow->Af->Prop}{th:Ac->Obj->St->Hp->Prop}{hd:ExceptHandler}(ok:X.Ok)(g:X.stack=X.env::X.outer)(x:X.env.frame=Aa X.env.locals)
  (go:∀(ea:Ac) (a:Ad) (t:Ac) (B:AH) (σ:St) (H:Hp) (s:Af),PySem.W.exmOne X.K a (.ref W)=Aa true->(∃oe,oe.cls=a/\s.heap.get? ea=Aa oe/\ae (X.hand ea oe) xC σ H s)->(∀oe,oe.cls=a->th ea oe σ H)->Cu B (X.env::X.outer) ea a (.ref t) s.heap->
   (∀h2,Cu B (X.env::X.outer) ea a (.ref t) h2->s.heap.UpToSlots h2->∃oe,oe.cls=a/\ae (X.hand ea oe) xC σ H {s with heap:=h2})->
   Ak (Ao X.prog X.w) X.A (handleBy (.ref ea) X.env [hd]) Q X.xe s):
  fx (eY X.prog X.w) (X.tried xC λe s'=>Ak (Ao X.prog X.w) X.A (IE e X.env) (λ_ y=>Ak (Ao X.prog X.w) X.A (setFlight e none) (λ_ A=>Ak (Ao X.prog X.w) X.A (handleBy e X.env [hd]) Q X.xe A) X.xe y) X.xe s') (Mr X.K W X.N.length th):=by
 intro pins' d T U e s' C D;obtain⟨ea,a,t,b,B,rfl,os,E,F,G,c,j,I,K,L⟩:=D;have M:Cu B (X.env::X.outer) ea a (.ref t) s'.heap:=by rw[<- g];exact c
 have k:b ea=none:=by
  cases q:b ea with
  | none=>rfl
  | some u=>
   obtain⟨o,e⟩:=j ea u q;rw[c.2.1]at e;cases e
 have l:∀h2,Cu B (X.env::X.outer) ea a (.ref t) h2->s'.heap.UpToSlots h2->∃oe,oe.cls=a/\h2.get? ea=Aa oe/\ae (X.hand ea oe) xC d b {s' with heap:=h2}:=λh2 f h=>by
  have i:Cu B X.stack ea a (.ref t) h2:=by rw[g];exact f
  have J:ae X xC d b {s' with heap:=h2}:=(C.call' (s':={s' with heap:=h2}) (ch:=[]) os (wk F c.1 c.2.2.1 I i.1 i.2.2.1 h) (wO G c.1 j i.1) E (λa0 z=>nomatch z)).untried ok;obtain⟨oe,N,Z,P,Y,_⟩:=f.first;refine⟨oe,P,Z,J.hand ⟨Z,k,λz=>?_,λz=>?_,λv z=>by rw[Y]at z;cases z⟩⟩
  .obtain⟨m,⟨o,es,ep,ho,hd,_⟩,_⟩:=J.loc;rw[<- z]at ho;have O:h2.get? ea=Aa o:=ho;rw[Z]at O;cases O
   rw[Y]at hd;cases hd
  .obtain⟨_,o,ho,nf⟩:=J.funs.mem z;have O:h2.get? ea=Aa o:=ho;rw[Z]at O;cases O
   exact nf N Y
 show Ak (Ao X.prog X.w) X.A (IE (.ref ea) X.env) _ _ _;refine wpAny_looks_onW (by rw[<- g];exact ok.frames) x M λb0 R n=>?_;refine wpAny_landsW R λp r w=>?_;have J:=l p r<|n.trans w;refine go ea a t B d b {s' with heap:=p} K J (λoe S=>L ea oe d S k ?_) r λh2 f h=>?_
 .obtain⟨oe,_,_,J⟩:=J;exact J.len
 .obtain⟨oe,h1,_,J⟩:=l h2 f<|(n.trans w).trans h;exact⟨oe,h1,J⟩
def rc(e:h.get? ea=Aa oe):PySem.W.Looks M h (Ft<|.ref ea) oe.cls:=(PySem.W.Looks.ld e).andThen .now
variable{th:Ac->Obj->TS}{hpos:Pos}{b₀:AV}{body suite:Ab AV}{tb:XK->TS}
def TM(o:X.mg x=Aa (.ref W))(p:∀xC xe E,fx (eY X.prog X.w) (X.tried xC xe) E->bf (X.tried xC xe) body (tb E))(w:∀ea oe,bf (X.hand ea oe) (b₀::suite)<|th ea oe)
  (c:X.N[i]? =Aa n) (b:X.env.kindOf n=Aa .local) (d:X.N.Nodup)
  (y:Gl X x:=by rfl) (A:X.stack=X.env::X.outer:=by rfl) (C:X.env.frame=Aa X.env.locals:=by rfl) (hd:(x==("__debug__":Str))=false:=by decide):
  PS X (.Try body [.ExceptHandler (Aa<|.Name x np) (Aa n) (b₀::suite) hpos] [] [] pos) (YF X.K W X.N.length i tb th):=by
 intro xC s σ H D I h;refine wpAny_Try_except ?_;refine bK (p xC _ _ (Tw (X:=X) (W:=W) (Q:=SP X xC D) (th:=λea oe m=>th ea oe (D.less i)<|m.set i<|Aa<|.ref ea) (hd:= .ExceptHandler (Aa<|.Name x np) (Aa n) (b₀::suite) hpos) I.ok A C ?_) [] s σ H D I.tried h) (λf F g=>?_) λe F z=>z
 .intro ea cls t B m H' s' hE J hw fl back;obtain⟨oe,G,K,J⟩:=J;refine wpAny_handleBy_cons (codeAny_handlers_test ?_) (by intro q;cases q);refine jb (X:=X.hand ea oe) J y o ?_ hd;refine(PySem.W.exm_one (M:=Ao X.prog X.w) J.kIn (G ▸ rc K) hE).here ?_;show BQ _ _ _ _ _;refine codeAny_handlers_suite_as ?_;refine lands_againW fl λL N P=>?_;obtain⟨j,R,S⟩:=back L N P;refine oj (X:=X.hand ea j) S d c (.inl b) (show av (.ref ea) (.ref ea) from rfl) (λU T=>?_)<|.inr b;refine bK (w ea j xC _ _ H' (D.less i) T<|hw j R) (λf a0 g=>?_) λ_ _ z=>z.elim;have O:=g.unhand I.ok;cases f with
  | next=>obtain⟨k,a,Y,q⟩:=O;exact pM Y d c b λl Z=>⟨_,a,Z,q⟩
  | brk=>obtain⟨k,a,Y,q⟩:=O;exact pM Y d c b λl Z=>⟨_,a,Z,q⟩
  | cont=>obtain⟨k,a,Y,q⟩:=O;exact pM Y d c b λl Z=>⟨_,a,Z,q⟩
  | ret u=>obtain⟨v,k,a,Y,r,q⟩:=O;exact pM Y d c b λl Z=>⟨v,_,a,Z,r,q⟩
 .have O:=g.untried I.ok;cases f with
  | next=>exact CG O
  | brk=>exact O
  | cont=>exact O
  | ret u=>exact O
open PySem.W Builtin Builtin.ObjectAttr Builtin.Getset_descriptor
structure hG (K:xA) (C:Ac):Prop where
 hga:GO K (.ref C) "__getattribute__"=Aa (Aa (.builtin "BaseException.__getattribute__"))
 hgx:GO K (.ref C) "__getattr__"=Aa none
 ha:GO K (.ref C) "__class__"=Aa (Aa (.builtin "object.__class__"))
 hm:EN K C (.type "object")=Aa true
 hb:JM K (.ref C) (.type "BaseException")=Aa true
section
variable{prog:Ai}{w:Al}{A:As}{E:xB}{K:xA}{h:AH}{g:Am EA}{d:GS}{t:Nat}{os:OsState}{a C:Ac}{o:Obj}
def ua(F:hG K C):(Jr K C).isSome=true:=by
 have a:=F.hm;unfold EN at a;cases e:Jr K C with
 | none=>rw[e]at a;cases a
 | some _=>rfl
def OV{R:CJ->Af->Prop}{b:Ad}(X:K.In h)(c:h.get? a=Aa o)(e:o.cls= .ref C)(f:EN K C (.type "object")=Aa true)(i:R (.ok<|.ret<|.ref C) ⟨h,g,d,t,os⟩):
  BQ (Ao prog w) A (.call (.builtin "getset_descriptor.__get__") ⟨[.builtin "object.__class__",.ref a,b],[]⟩) R ⟨h,g,d,t,os⟩:=by
 have j:JF (Ao prog w) h (Ft<|.ref a) (.ref C):=e ▸ rc c;have k:=looks_mroIn (M:=Ao prog w) X f;refine BX KF.slot_gs.plain KF.entry_gs<|KF.slot_gs.check _ _ _ _ _ _ _ _ KF.type_class (KF.args_gs _ _ _) ?_;unfold Bl.«getset_descriptor.__get__» descrGet;rw[dga_obj];refine ac<|ah ?_;unfold descrGetter descrCheckInstance descrNameAndClass Dl;simp only[KF.owner_class]
 repeat lk
 refine⟨CL _ (by decide+kernel),ek KF.entry_class ?_⟩;unfold Bl.«object.__class__» shownTypeOf
 repeat lk
 exact i
def Tu{c:Tok}{Q:Fin->Af->Prop}(X:K.In h)(F:hG K C)(b:h.get? a=Aa o)(J:o.cls= .ref C)(f:Q (.done<|.ret<|.ref C) ⟨h,g,d,t,os⟩):
  Ak (Ao prog w) A (Bl.«object.__getattribute__» ⟨[.ref a,.str "__class__" c],[]⟩) Q E ⟨h,g,d,t,os⟩:=by
 have i:(⟨h,g,d,t,os⟩:Af).TypeIs (.builtin "object.__class__") "getset_descriptor":=PySem.F.typeOf_object_class;have j:=PySem.F.typeOf_object_class;have k:=PySem.F.slot_gs_get.lookup;have l:=PySem.F.slot_gs_set.lookup;have e:=GA (M:=Ao prog w) X F.ha
 repeat (any_goals (first | assumption | (with_reducible refine Em b ?_;rw[J]) | with_reducible refine e.at ?_ | wp_step))
 refine OV X b J F.hm ?_
 repeat (any_goals (first | assumption | wp_step))
def VJ{M:Cv}{J:Ad}{Q:Ge->Af->Prop}(X:K.In h)(F:hG K C)(b:h.get? a=Aa o)(c:o.cls= .ref C)(e:Q () ⟨h,g,d,t,os⟩):
  Ak M A (EM "BaseException.__getattribute__" ⟨[.ref a,J],[]⟩) Q E ⟨h,g,d,t,os⟩:=by
 have f:builtinKind "BaseException.__getattribute__"=Aa .slot:=by decide+kernel
 have O:splitId "BaseException.__getattribute__"=Aa ("BaseException","__getattribute__"):=by decide+kernel
 have j:=PySem.F.args_bexc_ga (.ref a) J;have i:JF M h (FN (.ref C)<|.type "BaseException") true:=looks_subIn X F.hb;simp only[EM,f,O];refine ac ?_
 .unfold Dl
  repeat (first | (with_reducible refine Em b ?_;rw[c]) | with_reducible refine i.at ?_ | wp_step)
  exact e
def OD{c:Tok}{R:CJ->Af->Prop}(X:K.In h)(F:hG K C)(b:h.get? a=Aa o)(J:o.cls= .ref C)(e:R (.ok<|.ret<|.ref C) ⟨h,g,d,t,os⟩):
  BQ (Ao prog w) A (.call (.builtin "BaseException.__getattribute__") ⟨[.ref a,.str "__class__" c],[]⟩) R ⟨h,g,d,t,os⟩:=
 BX (PySem.F.excAttr_ValueError).ga.plain PySem.F.entry_bexc_ga (VJ X F b J<|Tu X F b J e)
def Wk{c:Tok}{O J:AJ}{Q:xB}(X:K.In h)(F:hG K C)(b:h.get? a=Aa o)(Z:o.cls= .ref C)(i:Q (.ref C) ⟨h,g,d,t,os⟩):
  Ak (Ao prog w) A (getAttrBy (.ref a) (.str "__class__" c) O J) Q E ⟨h,g,d,t,os⟩:=by
 have j:=(PySem.F.excAttr_ValueError).ga.bind<|.ref a;have k:(J&&onTheHeap (Ce "BaseException.__getattribute__"))=false:=by cases J <;> rfl
 have Y:(Ce "BaseException.__getattribute__"==Ce "object.__getattribute__")=false:=by decide+kernel
 have l:(onTheHeap (Aw C)&&Ce "BaseException.__getattribute__"==Ce "object.__getattribute__")=false:=by rw[Y];rfl
 have e:=GA (M:=Ao prog w) X F.hga;have f:=GA (M:=Ao prog w) X F.hgx
 repeat (any_goals (first | assumption | (with_reducible refine Em b ?_;rw[Z]) | with_reducible refine e.at ?_ | with_reducible refine f.at ?_ | wp_step))
 refine OD X F b Z ?_
 repeat (any_goals (first | assumption | wp_step))
def VL{Q:Ag Ad->Af->Prop}(X:K.In h)(F:hG K C)(b:h.get? a=Aa o)(c:o.cls= .ref C)(e:Q (Aa<|.ref C) ⟨h,g,d,t+1,os⟩):
  Ak (Ao prog w) A (HS (.ref a) "__class__") Q E ⟨h,g,d,t,os⟩:=by
 unfold HS getAttrBy?
 repeat (any_goals (first | assumption | with_reducible apply Wk X F b c | wp_step))
def wh(a C:Ac)(h:AH):Prop:=∃o,h.get? a=Aa o/\o.cls= .ref C
def xx(F:hG K C):KitX K (.ref a) (.ref C) (wh a C) where
 ty:=λM h _ p=>by
  obtain⟨o,b,c⟩:=p;exact c ▸ rc b
 it:=λ_ _ X _=>by
  obtain⟨f,J⟩:=Option.isSome_iff_exists.mp<|ua F;unfold Jr at J;split at J
  .rename_i c' d' O Z ho;intro i j l m k q;unfold isType loadHead;exact ac<|Hw (k _ _<|X _ _ ho)<|ah q
  .cases J
 ne:=λh tp r u n v X Y=>by
  obtain⟨f,J⟩:=Option.isSome_iff_exists.mp<|ua F;refine Bool.eq_false_iff.mpr λq=>?_;have e:C=tp:=Value.ref.inj<|beq_iff_eq.mp q;subst e;unfold Jr at J;split at J
  .rename_i c' d' O Z ho;have z:=(X _ _ ho).symm.trans Y;cases z
  .cases J
 ca:=λ{_ _ _ _ _ s} X p k=>by
  obtain⟨h,g,d,t,os⟩:=s;obtain⟨o,b,c⟩:=p;exact VL X F b c k
end
def Ql:AU "ValueError"=Aa (.type "ValueError"):=by decide+kernel
def ae.excAt(I:ae (X.hand ea oe) xC σ H s)(a:oe.cls= .ref C):wh ea C s.heap:=⟨oe,(I.pin (ea,oe) be).1,a⟩
inductive zi (K:xA) (a:Ac) (d:Obj) (e:Ab V) (H:Hp) (Q:VK):Prop
 | mk:∀C c v b,(e=[.ref a,v])->(d.cls= .ref C)->(hG K C)->((v= .ref c/\Jx K (.ref C) (.ref c)=Aa b\/ ∃n,v= .ty n/\Jx K (.ref C) (.type n)=Aa b))->(Q (.bl b) H)->zi K a d e H Q
def Wn(K:xA)(d:X.K=K:=by rfl):cu (X.hand ea oe) (.builtin "isinstance") (zi K ea oe):=by
 subst d;intro xC s σ H i j Q I r h;obtain⟨C,c,v,b,rfl,J,F,f,q⟩:=h;obtain⟨u,k,rfl,g,O⟩:=sX r;cases g
 have fin:∀a,EP (X.hand ea oe) xC σ Q (.bool b) {s with toks:=a}:=λa=>⟨.bl _,H,I.tok a,rfl,q⟩;rcases f with ⟨rfl,e⟩ | ⟨n,rfl,e⟩
 .cases O
  exact kia_one (xx F) I.kIn (I.excAt J) e (λz=>nomatch z) fin
 .cases O
  exact kia_one (xx F) I.kIn (I.excAt J) e (λz=>nomatch z) fin
structure ls (P:Ai) (w:Al) (K:xA) (mg:xE) (base:AH) (k:Nat) (x:Str) (ps:xD) (sp:Sp):Prop where
 ex:∃f fd,bZ P w K mg base (eY P w) k f fd ps sp/\mg x=Aa (.ref f)/\PySem.W.keepIn K (.ref f)=true/\df K fd ps []
variable{base:AH}{sp:Sp}
def aZ.okE{st:AV}{N:xD}{k:Nat}(T:aZ K mg x st ps)(S:aB N ps (qf st))(c:∀a H Q E,sp a H Q E->a.length=ps.length)
  (J:∀(f:Ac) (b:Ad) (A:As) (d:Ab Env) (s:Af) (H:Hp) (a:Ab V) (Q:VK) (E:XK),aR k (A.deeper<|CK x (qf st) s.heap.objs.size f b)->sp a H Q E->
   ∃t,bf (eF (eY P w) P w K mg base N x (qf st) f b A d s H E) (bU st) t/\t {nx:=λ_ e=>Q .non e,rt:=Q} (start N a) H):ls P w K mg base (k+1) x ps sp:=by
 obtain⟨f,g,F,h,i⟩:=T.ex;refine⟨f,g,?_,h,F.kp,df.all i⟩;obtain⟨l,m,kV,n,o,p,b,q,r,rfl,j,O⟩:=F.ex;exact pK j O S c<|J f b
section
variable{X:Cx}{k k':Nat}{ps:xD}{sp:Sp}{E:XK}{x:Str}{p pos:Pos}{e:AK}{es:Ab AK}{t:TA}
def tP(D:ls X.prog X.w X.K X.mg X.base k x ps sp)(a:fx (eY X.prog X.w) X E)(b:aR k' X.A)(c:Gl X x)(d:PA X (e::es) t)(O:k<=k':=by decide)
  (J:(x==("__debug__":Str))=false:=by decide) (g:AA (e::es) X.env=(false,Bp e X.env)::AA es X.env:=by rfl) (Y:(Bs pos<|AA es X.env).any (·.1)=false:=by rfl):
  PE X (.Call (.Name x p) (e::es) [] pos) (sQ sp [] E t):=by
 obtain⟨f,l,F,h,i,j⟩:=D.ex;exact Lf F (b.mono O) c h i j .nil a d J g Y
end
structure fD (K:xA) (C:Ac):Prop where
 new:excIn K C NV "ValueError.__new__"=true
 isi:hG K C
 ve:EN K C (.type "ValueError")=Aa true
 self:EN K C (.ref C)=Aa true
 ty:typeIn K (.ref C)=Aa (.type "type")
structure kR (K:xA) (x:Str):Prop where
 ex:∃C:Ac,Dz K Ar x=Aa (Aa (.ref C))/\fD K C
def xiK(n:Dz K Ar x=Aa (Aa<|.ref C))(a:excIn K C [.type "ValueError",.type "Exception",.type "BaseException",.type "object"] "ValueError.__new__"=true)(b:GO K (.ref C) "__getattribute__"=Aa (Aa<|.builtin "BaseException.__getattribute__"))
  (c:GO K (.ref C) "__getattr__"=Aa none) (d:GO K (.ref C) "__class__"=Aa (Aa<|.builtin "object.__class__")) (e:EN K C (.type "object")=Aa true) (f:EN K C (.type "BaseException")=Aa true)
  (g:EN K C (.type "ValueError")=Aa true) (h:EN K C (.ref C)=Aa true) (i:typeIn K (.ref C)=Aa (.type "type")):kR K x:=⟨C,n,a,⟨b,c,d,e,f⟩,g,h,i⟩
structure pT (K:xA) (x y:Str) (b:AJ):Prop where
 ex:∃C D:Ac,Dz K Ar x=Aa (Aa (.ref C))/\Dz K Ar y=Aa (Aa (.ref D))/\EN K C (.ref D)=Aa b
variable{y:Str}{b:AJ}{D:Ac}
def piK(n:Dz K Ar x=Aa (Aa<|.ref C))(m:Dz K Ar y=Aa (Aa<|.ref D))(e:EN K C (.ref D)=Aa b):pT K x y b:=⟨C,D,n,m,e⟩
def kR.g(F:kR K x)(X:K.In h)(G:h.Ns Ar mg):mg x=Aa (.ref<|cA mg x):=by
 obtain⟨C,n,_⟩:=F.ex;rw[gn<|JI X G n];exact JI X G n
def kR.at'(F:kR K x)(X:K.In h)(G:h.Ns Ar mg):fD K (cA mg x):=by
 obtain⟨C,n,q⟩:=F.ex;rw[gn<|JI X G n];exact q
def pT.at'(F:pT K x y b)(X:K.In h)(G:h.Ns Ar mg):EN K (cA mg x) (.ref<|cA mg y)=Aa b:=by
 obtain⟨C,D,n,m,q⟩:=F.ex;rw[gn<|JI X G n,gn<|JI X G m];exact q
def fD.cls(F:fD K C):(Jr K C).isSome=true:=ua F.isi
def fD.kit(F:fD K C)(G:fD K D)(e:EN K C (.ref D)=Aa b):kitCls K (.ref C) (.ref D)=Aa b:=by
 show (if ((Jr K D).isSome&&typeIn K (.ref D)==Aa (.type "type"))=true then JM K (.ref C) (.ref D) else none)=Aa b;rw[Ah (by rw[G.cls,G.ty];simp)];exact e
def fD.veI(F:fD K C):Jx K (.ref C) (.type "ValueError")=Aa true:=by
 unfold Jx;rw[Ae (λz=>nomatch (beq_iff_eq.mp z:Aw C=AN "ValueError"))];show (if kitMeta "ValueError"=true then JM K (.ref C) (.type "ValueError") else none)=Aa true;rw[Ah<|by decide+kernel];exact F.ve
def fD.caught(F:fD K C)(G:fD K D)(e:EN K C (.ref D)=Aa true):exmOne K (.ref C) (.ref D)=Aa true:=by
 unfold exmOne;rw[Ah (by rw[show JM K (.ref D) (.type "BaseException")=Aa true from G.isi.hb];rfl)];exact F.kit G e
variable{a:AK}
def Wq(f:PE X v1 t1)(g:PE X v2 t2):PE X (.JoinedStr [v1,v2] pos) (λσ H Q=>t1 σ H λx c=>∃a,x= .str a/\a.length<=100000/\t2 σ c λy d=>∃b,y= .str b/\b.length<=100000/\Q (.str<|a++b) d):=by
 intro xC s σ H Q I h;have Y:Str.empty.length=0:=rfl;refine Ib (C2<|am (f xC s σ H _ I h) λv i O=>?_);obtain⟨x,c,j,k,a,ea,e,l⟩:=O;subst ea;obtain⟨t,rfl⟩:=k;refine⟨?_,C2<|am (g xC i σ c _ j l) λv r ⟨y,d,m,n,b,o,p,q⟩=>?_⟩
 .rw[Br,Y,dF];exact az e (by decide)
 subst o;obtain⟨t,rfl⟩:=n;have J:(DU++a++b).length<=sizeLine:=by
  rw[Br,Br,Y,dF];exact az (B4 e p) (by decide)
 rw[GN]at J ⊢;exact⟨J,Iw ⟨.str<|a++b,d,m.tok _,⟨_,zr⟩,q⟩ J⟩
variable{J:Am Ad}{l:Ac}
def IsList.ext{a:AH}{b:Ac}(x:h.IsList l J)(k:GV b h a)(n:l≠b):a.IsList l J:=
 let ⟨o,e,c,d⟩:=x;⟨o,k l o n e,c,d⟩
variable{prog:Ai}
theorem zW{a l:Ac}{J:Am Ad}(d:l≠a):∀(n i:Nat) (s:Af) (Q:Ab Ad->Af->Prop),s.heap.IsListIter a l i->s.heap.IsList l J->i+n<=J.size->
  (∀b,b.IsListIter a l (i+n)->Bn a s.heap b->Q ((J.toList.drop i).take n) {s with heap:=b})->Ak (Ao prog w) A (draw (.ref a) n) Q E s
 | 0,i,s,Q,O,_,_,c=>by
  show Ak _ _ (AX []) Q E s;exact ah (by simpa using c s.heap O (Gu ..))
 | n+1,i,s,Q,O,e,m,c=>by
  have f:i < J.size:=by lia
  show Ak _ _ (Cm (.ref a) >>=_) Q E s;refine ac (EU O e (x:=J[i]) (by simp[f]) λo Y g=>?_);refine ac (dG<|zW d n (i+1) _ _ Y (IsList.ext e g.extBut d) (by lia) λh Z j=>ah ?_);have k:J.toList.drop i=J[i]::J.toList.drop (i+1):=by simp[jh,f]
  have:=c h (by rw[show i+(n+1)=i+1+n by lia];exact Z)<|g.trans j;rw[k,List.take_succ_cons]at this;exact this
theorem WZ{O:Ab (AJ×(Ad->Sem Ge))}(k:A.handled=none)(a:s.heap.IsList l J)
  (m:O.length=J.size) (Y:O.findIdx? (·.1)=none)
  (h:∀d,GV s.heap.objs.size s.heap d->Ak (Ao prog w) A (Ig (O.map (·.2)) J.toList) Q E {s with heap:=d}):
  Ak (Ao prog w) A (unpack (.ref l) O) Q E s:=by
 unfold unpack;rw[m,Y];refine ac<|dG ?_;have f:l≠s.heap.objs.size:=by obtain⟨o,c,_⟩:=a;exact aJ<|aC c
 unfold unpackItems;refine ac ?_;unfold notIterableAtAll;refine ac<|Cc a.typeIs slot_list_iter.lookup ?_;refine ah ?_;simp only[bL,AZ];refine ac<|dG<|gK a ?_;have g:(s.heap.push {cls:= .type "list_iterator",data:= .fields #[.ref l,.int 0 0]}).IsList l J:=by
  obtain⟨o,c,r⟩:=a;exact⟨o,aw _ c,r⟩
 refine ac (dG<|zW f J.size 0 _ _ ⟨_,bc _ rfl,zr,zr⟩ g (by lia) λn p i=>?_);have Z:IF J.size (List.drop 0 J.toList)=J.toList:=by
  rw[B0];exact jm (by simp)
 rw[Z];rw[Ae<|by simp];have q:n.IsList l J:=IsList.ext g i.extBut f;refine ac (dG<|Fk k p q (by simp) λt u=>?_);simp only[Option.isSome_none,bL,AZ];refine ah (h t λb o j e=>u b o j<|i.extBut b o j<|aw _ e)
inductive zS (K:xA) (n:Nat) (t:ij) (v:V) (c:St) (H:Hp) (Q:St->Hp->Prop):Prop
 | mk:∀a b,(v= .ref a)->(aK K H a b)->(b.length=n)->(t b c H Q)->zS K n t v c H Q
def yZ{k:Nat}{t:ij}{n:Nat}(f:X.calm=true)(h:lv X es t)
  (g:(B8 es X.env).length=n:=by rfl) (J:(B8 es X.env).findIdx? (·.1)=none:=by rfl):PG X (.Tuple es k pos) (zS X.K n t):=by
 intro xC s σ H v u Q I r c;obtain⟨a,i,j,l,m,c⟩:=c;subst j;cases r
 obtain⟨y,d,p,z⟩:=I.list l;rw[assign_Tuple];refine ac (Er<|WZ (I.ok.hd f) p.isList (by simp[g,<- m,d.length]) J λq w=>?_);have x:ae X xC σ H {s with heap:=q}:=I.kept (t':=s.toks) λb o e=>w b o (aJ<|aC e) e;exact h xC _ σ H i _ Q x (by simpa using d) c
open PySem.StrLaws PySem.NumText
def yD{S G:Prop}(a:S->G)(b:S):G:=a b
def ls.toD{k:Nat}(D:ls P w K mg base k x ps sp):bv P w K mg base k x ps (λa H Q _=>sp a H Q λ_ _ _=>Bj):=by
 obtain⟨f,c,F,d,g,b⟩:=D.ex;refine⟨f,c,⟨λa H Q E h=>F.len a H Q _ h,λA i s H j l a Q E m n b o p=>?_⟩,d,g,b⟩;refine eZ (F.run A i s H j l a Q _ m n b o p) λr t z=>?_;cases r with
 | error e=>
  obtain⟨_,_,_,_,_,_,_,_,_,_,_,_,_,z⟩:=z;exact z
 | ok q=>cases q <;> exact z
inductive NK where
 | leaf (k:af)
 | tup (a:Ab NK)
noncomputable instance : Bh NK := fun a b => Classical.propDecidable _
mutual
def NK.deep:NK->Nat
 | .leaf _=>0
 | .tup a=>NK.deeps a+1
def NK.deeps:Ab NK->Nat
 | []=>0
 | x::r=>max x.deep<|NK.deeps r
end
mutual
def NK.draws:NK->Nat
 | .leaf _=>1
 | .tup a=>NK.drawss a+1
def NK.drawss:Ab NK->Nat
 | []=>0
 | x::r=>x.draws+NK.drawss r
end
theorem NK.xk:∀b a:Ab NK,NK.drawss (b++a)=NK.drawss b+NK.drawss a
 | [],a=>by rw[Ha,NK.drawss,dF]
 | x::r,a=>by rw[GI,NK.drawss,NK.drawss,NK.xk r a,Cd]
section
variable{P:Ai}{w:Al}
def RK{i:Int}{v:Ad}(h:(qv P w).is (.inl i) v=true):∃t,v= .int i t:=by
 have h:gH (.inl i) v=true:=h;rcases eJ h with ⟨j,t,e,rfl⟩ | ⟨x,t,e,rfl⟩
 .cases e
  exact⟨t,zr⟩
 .cases e
def Xu{z:Str}{v:Ad}(h:(qv P w).is (.inr z) v=true):∃t,v= .str z t:=by
 have h:gH (.inr z) v=true:=h;rcases eJ h with ⟨j,t,e,rfl⟩ | ⟨x,t,e,rfl⟩
 .cases e
 .cases e
  exact⟨t,zr⟩
mutual
def NK.hash(P:Ai)(w:Al):NK->Int
 | .leaf k=>(qv P w).hash k
 | .tup a=>reduceHash<|Bq<|NK.hashs P w a
def NK.hashs(P:Ai)(w:Al):Ab NK->Ab Int
 | []=>[]
 | x::r=>x.hash P w::NK.hashs P w r
end
mutual
def bp(P:Ai)(w:Al)(h:AH):NK->Ad->Prop
 | .leaf k,v=>(qv P w).is k v=true
 | .tup c,v=>∃a o b n,v= .ref a/\h.get? a=Aa o/\o.cls= .type "tuple"/\o.data= .seq b n/\bq P w h c b.toList
def bq(P:Ai)(w:Al)(h:AH):Ab NK->Ab Ad->Prop
 | [],a=>a=[]
 | x::r,a=>∃v b,a=v::b/\bp P w h x v/\bq P w h r b
end
mutual
theorem bp.inj{h:AH}:∀{x y:NK} {v:Ad},bp P w h x v->bp P w h y v->x=y
 | .leaf k,.leaf j,v,b,c=>by
  rw[bp]at b;rw[bp]at c;rw[(qv P w).inj _ _ _ b c]
 | .leaf k,.tup d,v,b,c=>by
  rw[bp]at b;rw[bp]at c;obtain⟨a,_,_,_,rfl,_⟩:=c;exact Au ((qv P w).byValue _ _ b) (by simp[Ic])
 | .tup f,.leaf k,v,b,c=>by
  rw[bp]at b;rw[bp]at c;obtain⟨a,_,_,_,rfl,_⟩:=b;exact Au ((qv P w).byValue _ _ c) (by simp[Ic])
 | .tup f,.tup d,v,b,c=>by
  rw[bp]at b;rw[bp]at c;obtain⟨a,o,p,n,rfl,g,_,i,l⟩:=b;obtain⟨q,o',O,r,e,Z,_,J,Y⟩:=c;injection e with e;subst e;obtain rfl:o=o':=AO<|g.symm.trans Z;rw[i]at J;injection J with m _;subst m;rw[bq.inj l Y]
theorem bq.inj{h:AH}:∀{x y:Ab NK} {c:xH},bq P w h x c->bq P w h y c->x=y
 | [],[],_,_,_=>rfl
 | [],y::r,c,a,b=>by
  rw[bq]at a;rw[bq]at b;obtain⟨v,J,e,_⟩:=b;rw[a]at e;cases e
 | x::r,[],c,a,b=>by
  rw[bq]at a;rw[bq]at b;obtain⟨v,J,e,_⟩:=a;rw[b]at e;cases e
 | x::r,y::t,c,a,b=>by
  rw[bq]at a;rw[bq]at b;obtain⟨v,J,rfl,d,f⟩:=a;obtain⟨j,k,e,g,i⟩:=b;cases e
  rw[bp.inj d g,bq.inj f i]
end
mutual
theorem bp.keeps{h c:AH}{d:Ac}{o:Obj}{es ep}(e:h.get? d=Aa o)(f:o.data= .dict es ep)(g:Bn d h c):∀{x:NK} {v:Ad},bp P w h x v->bp P w c x v
 | .leaf k,v,b=>by
  rw[bp]at b ⊢;exact b
 | .tup m,v,b=>by
  rw[bp]at b ⊢;obtain⟨a,i,O,n,rfl,Y,j,J,l⟩:=b;have Z:a≠d:=by
   rintro rfl;obtain rfl:i=o:=AO<|Y.symm.trans e;rw[f]at J;exact nomatch J
  exact⟨a,i,O,n,zr,(g.2 a Z).trans Y,j,J,bq.keeps e f g l⟩
theorem bq.keeps{h c:AH}{d:Ac}{o:Obj}{es ep}(e:h.get? d=Aa o)(f:o.data= .dict es ep)(J:Bn d h c):∀{x:Ab NK} {b:xH},bq P w h x b->bq P w c x b
 | [],b,a=>by
  rw[bq]at a ⊢;exact a
 | x::r,b,a=>by
  rw[bq]at a ⊢;obtain⟨v,g,rfl,i,j⟩:=a;exact⟨v,g,zr,bp.keeps e f J i,bq.keeps e f J j⟩
end
theorem NK.KC:∀a:Ab NK,NK.hashs P w a=a.map (NK.hash P w)
 | []=>by rw[NK.hashs];rfl
 | x::r=>by rw[NK.hashs,NK.KC r];rfl
theorem zN:∀(n:Nat) {A:As} {E:xB} {s:Af} {x:NK} {v:Ad} {Q:Int->Af->Prop},x.deep<=n->A.units+4*n < cLine->bp P w s.heap x v->Q (x.hash P w) {s with toks:=s.toks+x.draws}->Ak (Ao P w) A (pyHash v) Q E s
  | n,A,E,s,.leaf k,v,Q,_,u,d,h=>by
    rw[bp]at d;rw[NK.hash,NK.draws]at h;exact(qv P w).pyHash d h
  | 0,A,E,s,.tup i,v,Q,j,_,_,_=>by
    rw[NK.deep]at j
    lia
  | n+1,A,E,s,.tup i,v,Q,j,u,d,h=>by
    rw[NK.deep]at j;rw[bp]at d;obtain⟨a,o,O,m,rfl,q,y,z,B⟩:=d;have J:s.TypeIs (.ref a) "tuple":=⟨o,q,y⟩;unfold pyHash
    first | unfold pyHashByItsType | skip
    first | refine ac (wpAny_cRoomFor_or (.inr<|by lia) ?_) | skip
    refine ac<|Cc J F.slot_tuple_hash.lookup ?_;show Ak _ _ (if (Aa (Ce "tuple.__hash__")==Aa Bw)=true then _ else _) Q E s;rw[Ae (by rw[beq_builtin_none];exact aY)];refine ac<|Cc J F.slot_tuple_hash.lookup ?_;show Ak _ _ (callSpecialIfBoundUnlessNone? (.ref a) "__hash__" _ >>=_) Q E s;refine ac<|wpAny_callSpecialIfBoundUnlessNone?_slot J GB<|gg GB J F.entry_tuple_hash ?_<|F.args_tuple_hash_1 _;show Ak _ _ (Builtin.Tuple.tupleItemsOf (.ref a) >>=_) _ _ s;refine ac<|wpAny_tupleItemsOf q z ?_;refine ac ?_;rw[<- CM];refine EH _ (λr (b:Am Int) l=>∃done left,i=done++left/\bq P w s.heap left r/\NK.deeps left<=n/\b.toList=done.map (NK.hash P w)/\l={s with toks:=s.toks+NK.drawss done}) _ ?_ ?_ _ _ ⟨[],i,rfl,B,by lia,rfl,rfl⟩
    · rintro x r b l ⟨done,left,rfl,c,dl,f,rfl⟩
      cases left with
      | nil=>
        rw[bq]at c;cases c
      | cons k p=>
        rw[bq]at c;obtain⟨v,C,e,D,t⟩:=c;cases e
        rw[NK.deeps]at dl;refine ac<|zN n (x:=k) (by lia) (by rw[GP];lia) D ?_;have Y:NK.drawss (done++ [k])=NK.drawss done+k.draws:=by
          rw[NK.xk,NK.drawss,NK.drawss]
          lia
        first
          | exact ah ⟨done++ [k],p,by simp,t,by lia,by simp[f],by rw[Y,Cd]⟩
          | exact ac<|ah<|ah ⟨done++ [k],p,by simp,t,by lia,by simp[f],by rw[Y,Cd]⟩
    · rintro b l ⟨done,left,rfl,c,_,f,rfl⟩
      cases left with
      | cons k p=>
        rw[bq]at c;obtain⟨v,C,e,_⟩:=c;cases e
      | nil=>
        rw[dy]at h;rw[NK.hash,NK.draws,NK.KC]at h;show Ak _ _ (retInt<|Bq b.toList) _ _ _;rw[f];refine wpAny_ret_mkInt ?_;show Ak _ _ (if (decide (-(2:Int)^63<=Bq (done.map<|NK.hash P w))&&decide (Bq (done.map<|NK.hash P w) < 2^63))=true then _ else _) Q E _;unfold reduceHash at h;by_cases g:(decide (-(2:Int)^63<=Bq (done.map<|NK.hash P w))&&decide (Bq (done.map<|NK.hash P w) < 2^63))=true
        · rw[Ah g]
          rw[Ah g]at h;exact ah (by simpa [Cd] using h)
        · rw[Ae g]
          rw[Ae g]at h;exact ac<|eS (ah<|by simpa [Cd] using h)
mutual
def NK.dat:NK->AQ
 | .leaf (.inl i)=> .int i
 | .leaf (.inr z)=> .str z
 | .tup a=> .tuple<|NK.dats a
def NK.dats:Ab NK->Ab AQ
 | []=>[]
 | x::r=>x.dat::NK.dats r
end
mutual
theorem bp.reads{h:AH}:∀{x:NK} {v:Ad},bp P w h x v->∃c,HI h v x.dat c
 | .leaf (.inl i),v,b=>by
  rw[bp]at b;obtain⟨t,rfl⟩:=RK b;exact⟨[],by rw[NK.dat];exact .int i t⟩
 | .leaf (.inr z),v,b=>by
  rw[bp]at b;obtain⟨t,rfl⟩:=Xu b;exact⟨[],by rw[NK.dat];exact .str z t⟩
 | .tup k,v,b=>by
  rw[bp]at b;obtain⟨a,o,J,n,rfl,d,e,f,g⟩:=b;obtain⟨c,j⟩:=bq.reads g;exact⟨c,by rw[NK.dat];exact .tuple d e f j⟩
theorem bq.reads{h:AH}:∀{x:Ab NK} {b:xH},bq P w h x b->∃c,Fu h b (NK.dats x) c
 | [],b,a=>by
  rw[bq]at a;subst a;exact⟨[],by rw[NK.dats];exact .nil⟩
 | x::r,b,a=>by
  rw[bq]at a;obtain⟨v,j,rfl,d,e⟩:=a;obtain⟨c,f⟩:=bp.reads d;obtain⟨g,i⟩:=bq.reads e;exact⟨c++g,by rw[NK.dats];exact .cons f i⟩
end
mutual
theorem NK.eqv:∀x y:NK,AC x.dat y.dat=decide (x=y)
 | .leaf (.inl i),.leaf (.inl j)=>by
  rw[NK.dat,NK.dat];show decide (i=j)=_;exact decide_eq_decide.mpr ⟨λe=>by rw[e],λe=>by injection e with e;injection e⟩
 | .leaf (.inl i),.leaf (.inr z)=>by
  rw[NK.dat,NK.dat];exact(aN (λe=>by injection e with e;cases e)).symm
 | .leaf (.inr z),.leaf (.inl i)=>by
  rw[NK.dat,NK.dat];exact(aN (λe=>by injection e with e;cases e)).symm
 | .leaf (.inr z),.leaf (.inr y)=>by
  rw[NK.dat,NK.dat];show (z==y)=_;by_cases e:z=y
  .subst e;rw[aS rfl];simp
  .rw[aN λq=>e (by injection q with q;injection q)]
   simpa using e
 | .leaf (.inl i),.tup a=>by
  rw[NK.dat,NK.dat];exact(aN (λe=>by cases e)).symm
 | .leaf (.inr z),.tup a=>by
  rw[NK.dat,NK.dat];exact(aN (λe=>by cases e)).symm
 | .tup b,.leaf (.inl i)=>by
  rw[NK.dat,NK.dat];exact(aN (λe=>by cases e)).symm
 | .tup b,.leaf (.inr z)=>by
  rw[NK.dat,NK.dat];exact(aN (λe=>by cases e)).symm
 | .tup b,.tup a=>by
  rw[NK.dat,NK.dat,AC,NK.eqvs b a];exact decide_eq_decide.mpr ⟨λe=>by rw[e],λe=>by injection e⟩
theorem NK.eqvs:∀x y:Ab NK,AE (NK.dats x) (NK.dats y)=decide (x=y)
 | [],[]=>by rw[NK.dats,AE,aS rfl]
 | [],_::_=>by rw[NK.dats,NK.dats,AE];exact(aN (λe=>by cases e)).symm
 | _::_,[]=>by rw[NK.dats,NK.dats,AE];exact(aN (λe=>by cases e)).symm
 | x::p,y::q=>by
  rw[NK.dats,NK.dats,AE,NK.eqv x y,NK.eqvs p q];by_cases a:x=y
  .by_cases h2:p=q
   .rw[aS a,aS h2,aS<|by rw[a,h2]];rfl
   .rw[aS a,aN h2,aN λe=>h2 (CD e).2];rfl
  .rw[aN a,aN λe=>a (CD e).1];rfl
end
mutual
theorem NK.depth:∀x:NK,x.dat.depth=x.deep
 | .leaf (.inl i)=>by rw[NK.dat,NK.deep];rfl
 | .leaf (.inr z)=>by rw[NK.dat,NK.deep];rfl
 | .tup a=>by rw[NK.dat,NK.deep,<- NK.depths a];rfl
theorem NK.depths:∀x:Ab NK,Az (NK.dats x)=NK.deeps x
 | []=>by rw[NK.dats,NK.deeps];rfl
 | x::r=>by rw[NK.dats,NK.deeps,<- NK.depth x,<- NK.depths r];rfl
end
theorem Md:∀{b:Ab NK} {n:Nat},NK.deeps b<=n->∀x∈b,x.deep<=n
 | [],_,_,x,a=>nomatch a
 | y::r,n,h,x,a=>by
  rw[NK.deeps]at h;rcases aA.mp a with rfl | a
  .lia
  .exact Md (by lia) x a
theorem bq.mem{h:AH}:∀{c:Ab NK} {b:xH},bq P w h c b->∀v∈b,∃x∈c,bp P w h x v
 | [],b,a,v,J=>by
  rw[bq]at a;subst a;cases J
 | x::r,b,a,v,J=>by
  rw[bq]at a;obtain⟨u,f,rfl,d,e⟩:=a;rcases aA.mp J with rfl | J
  .exact⟨x,be ..,d⟩
  .obtain⟨y,hy,h3⟩:=bq.mem e v J;exact⟨y,bb _ hy,h3⟩
theorem zb:∀(n:Nat) {A:As} {E:xB} {s:Af} {x:NK} {v:Ad} {Q:AJ->Af->Prop},x.deep<=n->bp P w s.heap x v->Q true s->Ak (Ao P w) A (eqIsQuiet n v) Q E s
 | n,A,E,s,.leaf k,v,Q,_,b,h=>by
  rw[bp]at b;rw[eqIsQuiet_byValue n<|(qv P w).byValue _ _ b];exact ah h
 | 0,A,E,s,.tup i,v,Q,c,_,_=>by
  rw[NK.deep]at c
  lia
 | n+1,A,E,s,.tup i,v,Q,c,b,h=>by
  rw[NK.deep]at c;rw[bp]at b;obtain⟨a,o,J,m,rfl,f,j,l,p⟩:=b;have Z:s.TypeIs (.ref a) "tuple":=⟨o,f,j⟩;unfold eqIsQuiet;refine ac<|Cc Z F.slot_tuple_eq.lookup ?_;show Ak _ _ (Dl (.ref a) (.type "tuple") >>=_) _ _ s;refine ac<|Dj Z isSubtype_tuple_tuple ?_;simp only[Do,bL,AZ];refine ac<|D5 f l ?_;refine ac ?_;show Ak _ _ (Iz J _ _) _ _ s;rw[<- CM];have all:∀v∈J.toList,∃y,y.deep<=n/\bp P w s.heap y v:=λv q=>by
   obtain⟨y,t,d⟩:=bq.mem p v q;exact⟨y,Md (by lia) y t,d⟩
  refine EH _ (λg r e=>r.1=none/\e=s/\∀v∈g,∃y,y.deep<=n/\bp P w s.heap y v) _ ?_ ?_ _ _ ⟨rfl,rfl,all⟩
  .rintro v g r e ⟨hr,rfl,O⟩;obtain⟨y,d,z⟩:=O v be;refine ac<|zb n d z ?_;simp only[Do,bL,AZ];exact ah ⟨zr,zr,λu Y=>O u<|bb _ Y⟩
  .rintro ⟨r1,r2⟩ e ⟨hr,rfl,_⟩;simp only at hr;subst hr;exact ah h
end
noncomputable def jj (P : Ai) (w : Al) : Ia P w NK where
 is:=λh x a=>bp P w h x (.ref a)/\x.deep<=7/\x.dat.canLay0=true
 hash:=NK.hash P w
 draws:=NK.draws
 room:=λA=>A.units+40 < cLine
 inj:=λc e=>bp.inj c.1 e.1
 keeps:=λx f g i=>⟨x.1.keeps f g i,x.2⟩
 pyHash:=λj d h=>zN 7 d.2.1 (by lia) d.1 h
 eqBool:=λ{A E s x y a b Q} j c e h=>by
  obtain⟨k,l⟩:=c.1.reads;obtain⟨m,n⟩:=e.1.reads;refine Di x.dat y.dat A s _ _ k m l n c.2.2 e.2.2 ?_ _ _ _ _ ?_
  ·rw[NK.depth,NK.depth];have:=c.2.1
   lia
  ·rw[NK.eqv];exact h
 quiet:=λd h=>zb 8 (Ci d.2.1) d.1 h
mutual
def ax(H:Hp):NK->V->Prop
 | .leaf k,v=>v=kV k
 | .tup c,v=>∃a b,v= .ref a/\H a=Aa (.tup b)/\bu H c b
def bu(H:Hp):Ab NK->Ab V->Prop
 | [],a=>a=[]
 | x::r,a=>∃v b,a=v::b/\ax H x v/\bu H r b
end
mutual
theorem ax.keep{H H':Hp}(J:∀b c,H b=Aa (.tup c)->H' b=Aa (.tup c)):∀{x:NK} {v:V},ax H x v->ax H' x v
 | .leaf k,v,h=>by
  rw[ax]at h ⊢;exact h
 | .tup i,v,h=>by
  rw[ax]at h ⊢;obtain⟨a,d,e,f,g⟩:=h;exact⟨a,d,e,J _ _ f,bu.keep J g⟩
theorem bu.keep{H H':Hp}(J:∀b a,H b=Aa (.tup a)->H' b=Aa (.tup a)):∀{x:Ab NK} {v:Ab V},bu H x v->bu H' x v
 | [],v,h=>by
  rw[bu]at h ⊢;exact h
 | x::r,v,h=>by
  rw[bu]at h ⊢;obtain⟨u,c,e,d,f⟩:=h;exact⟨u,c,e,ax.keep J d,bu.keep J f⟩
end
variable{v:V}{H':Hp}
def ax.same{x:NK}(s:ag H H')(h:ax H x v):ax H' x v:=h.keep λ_ _ e=>s _ _ e
mutual
theorem ax.is{P:Ai}{w:Al}{H:Hp}{h:AH}(ok:HOk P w H h):∀{x:NK} {v:V} {u:Ad},ax H x v->av v u->bp P w h x u
 | .leaf k,v,u,b,r=>by
  rw[ax]at b;subst b;rw[bp];exact iC r
 | .tup m,v,u,b,r=>by
  rw[ax]at b;obtain⟨a,c,rfl,d,e⟩:=b;cases (show u=Aw a from r)
  obtain⟨_,f,g,o,i,j,n,l⟩:=(show bE P w H h a (.tup c) from ok a _ d);rw[bp];exact⟨a,o,f.toArray,n,zr,i,j,l,by simpa using bu.is ok e g⟩
theorem bu.is{P:Ai}{w:Al}{H:Hp}{h:AH}(ok:HOk P w H h):∀{x:Ab NK} {v:Ab V} {u:xH},bu H x v->ap v u->bq P w h x u
 | [],v,u,a,r=>by
  rw[bu]at a;subst a;cases r
  rw[bq]
 | x::f,v,u,a,r=>by
  rw[bu]at a;obtain⟨v1,g,rfl,b,c⟩:=a;cases r with
  | cons d e=>
   rw[bq];exact⟨_,_,zr,ax.is ok b d,bu.is ok c e⟩
end
def cW(x:NK):Prop:=x.deep<=7/\x.dat.canLay0=true
abbrev KN(H:Hp):Ab (NK×V)->Ab (NK×Ac×Ad)->Prop:=Paired λp q=>p.1=q.1/\(ax H p.1 (.ref q.2.1)/\cW p.1)/\av p.2 q.2.2
variable{kvs:Ab (NK×V)}{xs:Ab (NK×Ac×Ad)}
def KN.val(r:KN H kvs xs)(k:NK):cQ (ao kvs k) ((CQ xs k).map (·.2)):=by
 induction r with
 | nil=>exact Ay
 | @cons p q ps J h t c=>
  obtain⟨a,_,d⟩:=h;by_cases e:p.1=k
  .have e':q.1=k:=a.symm.trans e;have b:CQ (q::J) k=Aa q.2:=by simp[CQ,iU,e']
   rw[dZ e,b];exact d
  .have e':q.1≠k:=λz=>e<|a.trans z;have b:CQ (q::J) k=CQ J k:=by simp[CQ,iU,e']
   rw[dO e,b];exact c
variable{y:V}{u:Ad}
def KN.repl(r:KN H kvs xs)(k:NK)(d:av y u):
  KN H (kvs.map λb=>if b.1=k then (b.1,y) else b) (xs.map<|JJ k u):=by
 induction r with
 | nil=>exact .nil
 | @cons p q ps i h t f=>
  rw[au,au];refine .cons ?_ f;obtain⟨a,c,g⟩:=h;unfold JJ;by_cases e:p.1=k
  .have e':q.1=k:=a.symm.trans e;rw[Ah e,Ah e'];exact⟨a,c,d⟩
  .have e':q.1≠k:=λz=>e<|a.trans z;rw[Ae e,Ae e'];exact⟨a,c,g⟩
variable{b:Ac}
def KN.put(r:KN H kvs xs)(k:NK)(c:ax H k (.ref b)/\cW k)(a:av y u):
  KN H (aq kvs k y) (EY xs k b u):=by
 have e:(kvs.any λd=>decide (d.1=k))=(CQ xs k).isSome:=by
  rw[gc,(r.val k).jx,BU]
 unfold aq EY;rw[e];by_cases q:(CQ xs k).isSome=true
 .rw[Ah q,Ah q];exact r.repl k a
 .rw[Ae q,Ae q];exact Paired.snoc r ⟨rfl,c,a⟩
def KN.keeps(r:KN H kvs xs)(c:∀b a,H b=Aa (.tup a)->H' b=Aa (.tup a)):KN H' kvs xs:=
 JX r λ_ _ z=>⟨z.1,⟨z.2.1.1.keep c,z.2.1.2⟩,z.2.2⟩
def gh(P:Ai)(w:Al)(a:Ac)(b:Ab (NK×Ac×Ad)):AH->Prop:=λh=>(a==Bm)=false/\b.length<=sizeLine/\∃o es c,h.get? a=Aa o/\o.ExactDict/\o.data= .dict es c/\es.toList=b.map (FX<|jj P w)/\(b.map (·.1)).Nodup
variable{a:Ac}
def ro(x:gh P w a xs h):bE P w H h a (.ext<|gh P w a xs):=by
 refine⟨x,let ⟨_,_,o,_,_,b,_⟩:=x;⟨o,b⟩,λb i y k=>?_⟩;obtain⟨c,d,o,es,e,f,g⟩:=y;exact⟨c,d,o,es,e,k _ f,g⟩
def DN(P:Ai)(w:Al)(H:Hp)(a:Ac)(b:Ab (NK×V)):Prop:=∃xs,H a=Aa (.ext<|gh P w a xs)/\KN H b xs
def DN.same(s:ag H H')(h:DN P w H a kvs):DN P w H' a kvs:=let ⟨xs,b,c⟩:=h;⟨xs,s _ _ b,c.keeps λ_ _ e=>s _ _ e⟩
def io(ok:HOk P w H h)(e:DN P w H a kvs):kvs.length<=sizeLine/\(a==Bm)=false/\∃xs,H a=Aa (.ext<|gh P w a xs)/\KN H kvs xs/\h.DictOfH (jj P w) a xs:=by
 obtain⟨xs,e,r⟩:=e;obtain⟨⟨y,z,o,es,c,d,f,g,i,j⟩,_⟩:=(show bE P w H h a (.ext<|gh P w a xs) from ok a _ e);refine⟨by rw[Paired.length r];exact z,y,xs,e,r,o,es,c,d,f,g,i,λx b=>?_,j⟩;have all:∀{l:Ab (NK×V)} {m:Ab (NK×Ac×Ad)},KN H l m->∀x∈m,(jj P w).is h x.1 x.2.1:=by
  intro l m q
  induction q with
  | nil=>intro x b;exact nomatch b
  | @cons p q ps A k t n=>
   intro x b;rcases aA.mp b with e | b
   .subst e;obtain⟨s,⟨u,v⟩,_⟩:=k;rw[<- s];exact⟨u.is ok rfl,v⟩
   .exact n x b
 exact all r x b
variable{k:NK}
def nu(ok:HOk P w H h)(e:ax H k (.ref b))(o:cW k):(jj P w).is h k b:=⟨e.is ok rfl,o⟩
theorem m_(a:A.units+64 < cLine):(jj P w).room A.in1:=by
 show A.in1.units+40 < cLine;rw[GP]
 lia
def RD{Q:xB}(d:A.units+64 < cLine)(I:ae X xC σ H s)(g:DN X.prog X.w H a kvs)(e:ax H k (.ref b))(ok:cW k)(l:ao kvs k=Aa v)(h:∀J c,ae X xC σ H c->av v J->Q J c):
  Ak (Ao X.prog X.w) A (FK (.ref a)<|.ref b) Q E s:=by
 obtain⟨z,m,xs,_,Y,f⟩:=io I.hok g;obtain⟨J,i,Z⟩:=cQ.lX (v:=v) (o:=(CQ xs k).map (·.2)) (by rw[<- l];exact Y.val k);obtain⟨p,j,O⟩:=dq.mp i;refine F3 (m_ d) (nu I.hok e ok) f j ?_;rw[O];exact h J _ (I.tok _) Z
def Yn{Q:xB}(d:A.units+64 < cLine)(I:ae X xC σ H s)(g:DN X.prog X.w H a kvs)(e:ax H k (.ref b))(ok:cW k)(h:∀c,ae X xC σ H c->Q (.bool (ao kvs k).isSome) c):
  Ak (Ao X.prog X.w) A (Bg .In (.ref b)<|.ref a) Q E s:=by
 obtain⟨z,f,xs,_,J,i⟩:=io I.hok g;refine Il (m_ d) (nu I.hok e ok) f i ?_;have q:=(J.val k).jx;rw[BU]at q;rw[<- q];exact h _<|I.tok _
variable{d:V}{r:Ad}
def WV{Q:xB}(f:A.units+64 < cLine)(I:ae X xC σ H s)(g:DN X.prog X.w H a kvs)(i:ax H k (.ref b))(ok:cW k)(j:av d r)(h:∀O c,ae X xC σ H c->av ((ao kvs k).getD d) O->Q O c):
  Ak (Ao X.prog X.w) A (call (.builtin "dict.get") [.ref a,.ref b,r]) Q E s:=by
 obtain⟨z,l,xs,_,J,e⟩:=io I.hok g;exact DO PySem.F.slot_dict_get e.typeIs PySem.F.entry_dict_get (PySem.F.args_dict_get_3 _ _ _) (EG (jj X.prog X.w) a b l r) ⟨m_ f,k,xs,nu I.hok i ok,e,h _ _ (I.tok _)<|(J.val k).getD j⟩
theorem Pu(m:A.units+64 < cLine)(I:ae X xC σ H s)(g:DN X.prog X.w H a kvs)(f:ax H k (.ref b))(ok:cW k)(l:kvs.length < sizeLine)(n:av v r)(h:∀o i,DN X.prog X.w (upd H a o) a (aq kvs k v)->ae X xC σ (upd H a o) i->Q () i):
  Ak (Ao X.prog X.w) A (setItem (.ref a) (.ref b) r) Q E s:=by
 obtain⟨z,p,xs,e,O,t⟩:=io I.hok g;have u:xs.length<=sizeLine:=by rw[<- Paired.length O];exact z
 refine F6 (hsz:=u) (m_ m) (nu I.hok f ok) t λG Z w=>?_;obtain⟨q,es,x,j,y,B,C,_,D⟩:=Z;have J:=O.put k ⟨f,ok⟩ n;have F:(EY xs k b r).length<=sizeLine:=by
  rw[<- Paired.length J];have:=jX kvs k v
  lia
 have Y:KN (upd H a<|.ext<|gh X.prog X.w a<|EY xs k b r) (aq kvs k v) (EY xs k b r):=J.keeps λc K d=>by
  rw[qe (λz=>by rw[z,e]at d;cases d)];exact d
 exact h (.ext<|gh X.prog X.w a<|EY xs k b r) _ ⟨_,qb,Y⟩<|mW I (by rw[e];exact Ay) w ⟨q,j⟩<|ro ⟨p,F,q,es,x,j,y,B,C,D⟩
def YO(P:Ai)(w:Al):TE:=λσ H Q=>∀p o,H p=none->DN P w (upd H p o) p []->Q (.ref p) (upd H p o)
inductive LU (P:Ai) (w:Al) (Q:VK) (x:V) (y:V) (c:Hp):Prop
 | mk:∀a b kvs k v,(x= .ref a)->(y= .ref b)->(DN P w c a kvs)->(ax c k (.ref b))->(cW k)->(ao kvs k=Aa v)->(Q v c)->LU P w Q x y c
def N_(P:Ai)(w:Al)(a ty:TE):TE:=λσ H Q=>a σ H λx b=>ty σ b λy c=>LU P w Q x y c
inductive zm (P:Ai) (w:Al) (Q:VK) (y:V) (x:V) (c:Hp):Prop
 | mk:∀a b kvs k,(x= .ref a)->(y= .ref b)->(DN P w c a kvs)->(ax c k (.ref b))->(cW k)->(Q (.bl (ao kvs k).isSome) c)->zm P w Q y x c
def Yf(P:Ai)(w:Al)(ty a:TE):TE:=λσ H Q=>ty σ H λy b=>a σ b λx c=>zm P w Q y x c
inductive Ly (P:Ai) (w:Al) (ty:TE) (f:TE) (c:St) (Q:VK) (x:V) (d:Hp):Prop
 | mk:∀a,(x= .ref a)->((∃kvs,DN P w d a kvs))->(ty c d λy g=>f c g λz e=>∃b kvs k,y= .ref b/\DN P w e a kvs/\ax e k (.ref b)/\cW k/\Q ((ao kvs k).getD z) e)->Ly P w ty f c Q x d
def Pn(P:Ai)(w:Al)(a ty b:TE):TE:=λσ H Q=>a σ H λx c=>Ly P w ty b σ Q x c
inductive zC (P:Ai) (w:Al) (D:dJ) (d:St) (v:V) (x:V) (y:V) (c:Hp):Prop
 | mk:∀a b kvs k,(x= .ref a)->(y= .ref b)->(DN P w c a kvs)->(ax c k (.ref b))->(cW k)->(kvs.length < sizeLine)->(∀o,DN P w (upd c a o) a (aq kvs k v)->D.nx d (upd c a o))->zC P w D d v x y c
def RF(P:Ai)(w:Al)(a ty b:TE):TS:=λD σ H=>b σ H λv c=>a σ c λx d=>ty σ d λy e=>zC P w D σ v x y e
def rg(I:ae X xC σ H s)(g:DN X.prog X.w H a kvs):s.TypeIs (.ref a) "dict":=by
 obtain⟨_,_,xs,_,_,b⟩:=io I.hok g;exact b.typeIs
variable{o:AK}
def nB(b:X.prog=P:=by rfl)(c:X.w=w:=by rfl):PE X (.Dict [] [] pos) (YO P w):=by
 subst b c;intro xC s σ H Q I h;have J:(s.heap.objs.size==Bm)=false:=beq_eq_false_iff_ne.mpr<|Bi<|aJ I.big;have d:gh X.prog X.w s.heap.objs.size [] (s.heap.push {cls:= .type "dict",data:= .dict #[]}):=⟨J,ba _,_,#[],0,bc _ rfl,⟨rfl,rfl,rfl⟩,rfl,rfl,dH⟩;exact EF ⟨.ref s.heap.objs.size,_,I.laid (a:=s.heap.objs.size) (o:= .ext<|gh X.prog X.w s.heap.objs.size []) (t':=s.toks) (λ_ _ q=>aw _ q) (aj _)<|ro d,zr,h _ _ (I.hok.fresh<|aj _) ⟨[],qb,.nil⟩⟩
variable{i:AK}{td ty:TE}
def oD(d:X.A.units+64 < cLine)(e:PE X o td)(f:PE X i ty)(j:rQ i)(m:X.prog=P:=by rfl)(n:X.w=w:=by rfl):PE X (.Subscript o i pos) (N_ P w td ty):=by
 subst m n;intro xC s σ H Q I h;refine Nq PySem.F.slot_dict_getitem.lookup j (am (e xC s σ H _ I h) λu p ⟨x,q,r,t,z⟩=>am (f xC p σ q _ r z) λA L O=>?_);obtain⟨y,B,c,C,a,b,kvs,k,v,D,E,g,F,ok,l,G⟩:=O;subst D E;obtain rfl:u=Aw a:=t;obtain rfl:A=Aw b:=C;exact⟨rg c g,RD d c g F ok l λM N K J=>⟨v,B,K,J,G⟩⟩
def Ts(c:X.A.units+64 < cLine)(d:PE X i ty)(e:PE X o td)(f:X.prog=P:=by rfl)(j:X.w=w:=by rfl):PC X .In i o (Yf P w ty td):=by
 subst f j;intro xC s σ H Q I h;refine am (d xC s σ H _ I h) λl m ⟨y,n,p,q,r⟩=>am (e xC m σ n _ p r) λu F J=>?_;obtain⟨x,t,v,z,a,b,kvs,k,A,B,g,C,ok,D⟩:=J;subst A B;obtain rfl:u=Aw a:=z;obtain rfl:l=Aw b:=q;exact Yn c v g C ok λG E=>⟨.bl (ao kvs k).isSome,t,E,zr,D⟩
variable{value:AK}{pos':Pos}{tv:TE}
def lR(c:X.A.units+64 < cLine)(d:PE X o td)(e:PE X i ty)(f:PE X value tv)(j:EB value (Aa<|.Subscript o i pos') pos.line X.env=AX false)(m:X.prog=P:=by rfl)(n:X.w=w:=by rfl):
  PS X (.Assign [.Subscript o i pos'] value pos) (RF P w td ty tv):=by
 subst m n;intro xC s σ H D I h;refine EZ (am (f xC s σ H _ I h) λr p ⟨v,q,t,z,A⟩=>am (d xC p σ q _ t A) λu B ⟨x,C,E,F,G⟩=>am (e xC B σ C _ E G) λK U J=>?_) j;obtain⟨y,W,L,M,a,b,kvs,k,N,O,g,Q,ok,l,R⟩:=J;subst N O;obtain rfl:u=Aw a:=F;obtain rfl:K=Aw b:=M;exact Pu c L g Q ok l z λo Y S T=>⟨σ,_,T,R o S⟩
variable{f:AK}{apos:Pos}{tx:TE}
def ya(j:X.A.units+64 < cLine)(l:PE X o td)(n:PE X e ty)(p:PE X f tx)(m:M2 X o "get" apos e f cpos)(r:X.prog=P:=by rfl)(t:X.w=w:=by rfl):PE X (.Call (.Attribute o "get" apos) [e,f] [] cpos) (Pn P w td ty tx):=by
 subst r t;intro xC s σ H Q I h;refine CY m.base m.few m.line PySem.F.plainAttrs_dict PySem.F.slot_dict_get PySem.F.type_dict_get (am (l xC s σ H _ I h) λu i Y=>?_);obtain⟨x,v,c,A,a,B,⟨b0,d⟩,C⟩:=Y;subst B;obtain rfl:u=Aw a:=A;have t2:∀b,Aw a= .ref b->∃J,i.heap.get? b=Aa J/\J.dict=none:=λb q=>by
  cases q
  obtain⟨_,_,xs,_,_,J,_,_,D,E,_⟩:=io c.hok d;exact⟨J,D,E.2.1⟩
 refine⟨rg c d,t2,?_⟩;rw[m.trees];refine Bx rfl (BF<|Bt<|am (n xC i σ v _ c C) λF G ⟨y,K,L,M,N⟩=>
  Bt<|am (p xC G σ K _ L N) λc0 d0 ⟨z,R,S,T,b,kvs,k,U,g,W,ok,Z⟩=>Cg ?_)
 subst U;obtain rfl:F=Aw b:=M;exact WV j S g W ok T λe0 f0 a0 O=>⟨_,R,a0,O,Z⟩
end L2
open L2.NK renaming deeps->Ka,deep->Kh,leaf->Kq
open L2.DN renaming same->Kl
namespace L2
open PySem PySem.Spec PyProof.Rows PySem.W
variable{prog:Ai}{w:Al}{A:As}{s:Af}
theorem yf{fin:AJ}{Q:AJ->Af->Prop}:∀(l:Ab (Ad×Ad)) (i:Nat) (s:Af),HP prog w A true fin Q l (i+1) s=HP prog w A false fin Q l (i+1) s
  | [],_,_=>rfl
  | (p,q)::r,i,s=>by
    have e:(λ(e:AJ) (s':Af)=>if e=true then HP prog w A true fin Q r (i+1+1) s' else Ak (Ao prog w) A (oneLt' (true&&i+1==0) p q) Q (λ_ _=>Bj) s')=λe s'=>if e=true then HP prog w A false fin Q r (i+1+1) s' else Ak (Ao prog w) A (oneLt' (false&&i+1==0) p q) Q (λ_ _=>Bj) s':=by
      funext e s'
      rw[yf r (i+1) s'];rfl
    show Ak (Ao prog w) A (eqBool p q) _ _ s=Ak (Ao prog w) A (eqBool p q) _ _ s;rw[e]
def vP(h:AH)(v:Ad):Prop:=∃z a b,HI h v (.tuple<|.str z::a) b
variable{E:xB}
theorem yv:∀(a:xH),(∀v∈a,vP s.heap v)->∃c:Ab (Ag Ad),(∀(M:Cv) (A:As) (E:xB) (Q:Ab (Ag Ad)->Af->Prop),Q c s->Ak M A (a.mapM Iq) Q E s)/\c.length=a.length/\
  ∀f∈c,∃x t,f=Aa (.str x t)
 | [],_=>⟨[],λM A E Q q=>by rw[Ir];exact ah q,rfl,λ_ z=>nomatch z⟩
 | v::a,h=>by
  obtain⟨c,i,j,k⟩:=yv a λu m=>h u<|bb _ m;obtain⟨z,D,F,p⟩:=h v (be ..);cases p with
  | @tuple b o e n _ _ g r w J=>
   refine⟨e[0]? ::c,λM A E Q q=>?_,by rw[bz,j,bz],λf O=>?_⟩
   .rw[Fz];refine ac ?_;rw[IV];refine ac<|Looks.here (show JF M s.heap (Ft<|.ref b) o.cls from(Jo g).andThen .now) ?_;rw[r,Ae<|by decide];refine ac<|Cq g w<|ah ?_;exact ac<|i M A E (λy B=>Ak M A (AX<|e[0]? ::y) Q E B)<|ah q
   .rcases aA.mp O with rfl | O
    .rw[<- bG];revert J;generalize e.toList=l;intro J;cases J with
     | @cons _ d _ _ _ _ C G=>
      cases C with
      | str x t=>exact⟨_,t,rfl⟩
    .exact k f O
theorem Xg{c:xH}(h:∀v∈c,vP s.heap v)(p:2<=c.length):∀(M:Cv) (A:As) (E:xB) (Q:Bu->Af->Prop),Q (Gs true) s->Ak M A (Ho c.toArray) Q E s:=by
 obtain⟨a,i,d,g⟩:=yv c h;have J:(a.toArray.all λx=>x.isSome)=true:=by
  simp only[Dk,eh];intro f Y;obtain⟨x,t,rfl⟩:=g f Y;rfl
 intro M A E Q q;rw[FC,je,Cs];refine ac<|ac<|i M A E _<|ah ?_;rw[Ah J];refine ac<|eS ?_;obtain⟨b,fr,e⟩:∃b fr,a=b::fr:=by
  cases e:a with
  | nil=>rw[e]at d;simp at d;lia
  | cons b fr=>exact⟨b,fr,rfl⟩
 have j:∀v∈a.filterMap id,∃x t,v= .str x t:=λv k=>by
  obtain⟨f,Y,e⟩:=List.mem_filterMap.mp k;obtain⟨x,t,rfl⟩:=g f Y;exact⟨x,t,(AO e).symm⟩
 have Z:a.toArray.filterMap id=(a.filterMap id).toArray:=by simp
 rw[Z,Fd,je,rK _ j];simp only[map_pure,GK];have l:∃v O,a.filterMap id=v::O:=by
  rw[e]at J ⊢;cases b with
  | none=>simp at J
  | some v=>exact⟨v,fr.filterMap id,rfl⟩
 obtain⟨v,O,m⟩:=l;rw[m];have n:((D4 (λ_=>AN "str")<|v::O).toArray.all λx=>x==AN "str")=true:=by
  simp only[Dk,gQ,eh];intro _ _;rfl
 have o:(D4 (λ_=>AN "str")<|v::O).toArray[0]? =Aa (AN "str"):=by simp
 rw[o];simp only[n,Bz,GK];exact ah q
theorem Qt{x y:Ad}{z J:Str}{a c:Ab AQ}{l m:Ab Ac}{r:AJ}(p:HI s.heap x (.tuple<|.str z::a) l)(B:HI s.heap y (.tuple<|.str J::c) m)(C:(E8<|.str z::a).canLay0=true)(D:(E8<|.str J::c).canLay0=true)(T:A.units+64 < cLine)(F:(E8<|.str z::a).depth<=50)
  (e:cz (.tuple<|.str z::a) (.tuple<|.str J::c)=Aa r):Ku prog w A s (Gs true) x y r:=by
 have U:Az (.str z::a)+1<=50:=F;have d:aL (.str z::a) (.str J::c)=Aa r:=by rw[cz]at e;exact e
 intro E Q k;cases p with
 | @tuple b o f n _ _ G W H g=>
  cases B with
  | @tuple X a0 h b0 _ _ I c0 K i=>
   refine kat_lt G H I K ?_;have L:decide (f.size < h.size)=decide (f.toList.length < h.toList.length):=by rw[aI,aI]
   rw[L];revert g i;generalize f.toList=d0;generalize h.toList=e0;intro g i;have M:AB (.str z::a)=true:=C;have N:AB (.str J::c)=true:=D;have O:(D6 z).canLay0=true/\AB a=true:=by simpa [AB] using M
   have Y:(D6 J).canLay0=true/\AB c=true:=by simpa [AB] using N
   cases g with
   | @cons v f0 _ _ g0 h0 j P=>
    cases i with
    | @cons i0 j0 _ _ k0 l0 Z R=>
     have m0:min (Az a) (Az c)<=Az (.str z::a):=by
      show _<=max 0 (Az a)
      lia
     rw[iX];have eq:=Di (.str z) (.str J) A s _ _ _ _ j Z O.1 Y.1 (by show A.units+min 0 0 < cLine;lia);refine Jm<|eq prog w _ _ ?_;rw[aL]at d;cases q:AC (.str z) (.str J) with
     | true=>
      rw[Ah q]at d;refine JE ?_;rw[yf];exact wo a c _ _ _ _ 1 P R O.2 Y.2 (by lia) (by simp) d k
     | false=>
      rw[Ae (by rw[q];exact aY)]at d;refine kat_no ?_;cases j with
      | str _ t=>
       cases Z with
       | str _ u=>
        have S:decide (z.cps.toList < J.cps.toList)=r:=by
         rw[cz]at d;exact AO d
        refine y_ _ z J t u ?_;show Q (decide (z.cps.toList < J.cps.toList)) s;rw[S];exact k
mutual
theorem ax.inj{H:Hp}:∀{x y:NK} {v:V},ax H x v->ax H y v->x=y
 | .leaf k,.leaf j,v,b,c=>by
  rw[ax]at b;rw[ax]at c;rw[VG<|b.symm.trans c]
 | .leaf k,.tup d,v,b,c=>by
  rw[ax]at b;rw[ax]at c;obtain⟨a,_,e,_⟩:=c;rw[b]at e;cases k <;> cases e
 | .tup f,.leaf k,v,b,c=>by
  rw[ax]at b;rw[ax]at c;obtain⟨a,_,e,_⟩:=b;rw[c]at e;cases k <;> cases e
 | .tup f,.tup d,v,b,c=>by
  rw[ax]at b;rw[ax]at c;obtain⟨a,l,rfl,g,h⟩:=b;obtain⟨m,n,e,J,i⟩:=c;injection e with e;subst e;rw[g]at J;injection J with J;injection J with J;subst J;rw[bu.inj h i]
theorem bu.inj{H:Hp}:∀{x y:Ab NK} {c:Ab V},bu H x c->bu H y c->x=y
 | [],[],_,_,_=>rfl
 | [],y::r,c,a,b=>by
  rw[bu]at a;rw[bu]at b;obtain⟨v,J,e,_⟩:=b;rw[a]at e;cases e
 | x::r,[],c,a,b=>by
  rw[bu]at a;rw[bu]at b;obtain⟨v,J,e,_⟩:=a;rw[b]at e;cases e
 | x::r,y::t,c,a,b=>by
  rw[bu]at a;rw[bu]at b;obtain⟨v,J,rfl,d,f⟩:=a;obtain⟨i,j,e,g,h⟩:=b;cases e
  rw[ax.inj d g,bu.inj f h]
end
abbrev PR:=Str×Ab af
def pN(p:PR):NK:= .tup [.leaf<|.inr p.1,.tup<|p.2.map Kq]
theorem LM:∀{a b:Ab af},a.map Kq=b.map Kq->a=b
 | [],[],_=>rfl
 | [],_::_,e=>nomatch e
 | _::_,[],e=>nomatch e
 | x::a,y::b,e=>by
  rw[au,au]at e;injection e with c d;injection c with c;rw[c,LM d]
variable{p:PR}
def oE{q:PR}(e:pN p=pN q):p=q:=by
 unfold pN at e;injection e with e;injection e with a b;injection b with b _;injection a with a;injection a with a;injection b with b;exact Prod.ext a<|LM b
def iY(H:Hp)(v:Ad)(p:PR):Prop:=∃b,v=Aw b/\ax H (pN p) (.ref b)
theorem iY.inj{H:Hp}{v:Ad}{p q:PR}(h:iY H v p)(g:iY H v q):p=q:=by
 obtain⟨b,rfl,a⟩:=h;obtain⟨d,e,c⟩:=g;cases e
 exact oE<|a.inj c
open Classical in
noncomputable def gw (H : Hp) (v : Ad) : PR := if h : ∃ p, iY H v p then GQ h else (DU, [])
variable{H:Hp}
def pe{v:Ad}(h:iY H v p):gw H v=p:=by
 unfold gw;rw[dif_pos ⟨p,h⟩];exact iY.inj (C9 (⟨p,h⟩:∃p,iY H v p)) h
def DP(P:Ai)(w:Al)(H:Hp)(a:Ac)(c:Ab (PR×V)):Prop:=DN P w H a (c.map λb=>(pN b.1,b.2))
inductive yG (P:Ai) (w:Al) (K:xA) (i:Sp) (Q:VK) (j:Ab V) (e:Hp):Prop
 | mk:∀(d:Ac) (f:Ab (PR×V)) (g:PR->AQ) (lt:PR->PR->AJ),(j=[.ref d])->(DP P w e d f)->(Kc lt)->((∀a∈f.map (·.1),∀b∈f.map (·.1),cz (g a) (g b)=Aa (lt a b)))->((∀a∈f.map (·.1),(∃z m,g a= .tuple (.str z::m))/\(g a).depth<=50))->((∀a∈f.map (·.1),∀b c (R:VK),ag e c->ax c (pN a) (.ref b)->(∀v h,ag c h->ay K h (g a) v->R v h)->i [.ref b] c R E0))->((∀l k c,ag e c->e l=none->c l=none->Paired (λx a=>∃b,x=JU b/\ax e (pN a) (.ref b)) k (JQ lt (f.map (·.1)))->Q (.ref l) (upd c l (.lst k))))->yG P w K i Q j e
def Rl(P:Ai)(w:Al)(K:xA)(a:Sp)(t:TA):TE:=λb H Q=>t b H λc d=>yG P w K a Q c d
variable{x p1:Str}{p pos kpos xp:Pos}{X:Cx}{k k':Nat}{sp:Sp}{e:AK}{t:TA}
theorem sL(P:Ai)(w:Al)(K:xA)(e1:bv X.prog X.w X.K X.mg X.base k x [p1] sp)(F:aR k' X.A)(f1:X.calm=true)(g1:Gl X "sorted")(h1:X.mg "sorted"=none)(C:AU "sorted"=Aa (.builtin "sorted"))(i1:Gl X x)(i:PA X [e] t)
  (j1:k+2<=k':=by decide) (k1:X.K=K:=by rfl) (l1:X.prog=P:=by rfl) (m1:X.w=w:=by rfl) (n1:(x==("__debug__":Str))=false:=by decide) (o1:(Bs pos<|AA [e] X.env).any (·.1)=false:=by rfl) (q1:Bs pos (AA [e] X.env)=(false,Bp e X.env)::Bs pos (AA [] X.env):=by rfl):
  PE X (.Call (.Name "sorted" p) [e] [⟨Aa "key",.Name x xp,kpos⟩] pos) (Rl P w K sp t):=by
 subst k1 l1 m1;intro b0 s j0 H Q x0 h;obtain⟨f,f2,r1,s1,y0,N⟩:=e1.ex;have z0:=F.mono j1;have t1:=Zf (X:=X) (nm:="key") (kpos:=kpos) (Vc (pos:=xp) i1 s1 n1) ZD;refine jM<|ky x0 g1 h1 C ?_;refine callWith_kw (am (i pos b0 s j0 H _ x0 h) λg2 u1 ⟨vs,A0,v1,k0,w1⟩=>am (t1 pos b0 u1 j0 A0 (λH0 g=>H0=[.ref f]/\g=A0) v1 ⟨zr,zr⟩) λH0 c0 x1=>?_) q1 o1;obtain⟨B,g,O,y1,z1,A1⟩:=x1;subst z1 A1;obtain⟨d,j,R,lt,rfl,J0,K0,L0,d0,M0,q⟩:=w1;obtain⟨u,rfl,l0⟩:=dz k0;cases l0
 obtain⟨u,rfl,l0⟩:=dz y1;cases l0
 obtain⟨m0,G1,h2,H1,n0,o,D,i2,N0,G,O0,o0,I1,J1⟩:=io O.hok J0;rw[ai]at m0;have J:Paired (iY g) (D.toList.map (·.key)) (j.map (·.1)):=by
  rw[o0,cr];clear m0 o0 O0 N0 q J0 J1 L0 d0 M0 H1 I1;generalize Z:(j.map λe0:PR×V=>(pN e0.1,e0.2))=j2 at n0
  induction n0 generalizing j with
  | nil=>
   cases j with
   | nil=>exact .nil
   | cons c r=>cases Z
  | @cons c k2 l2 m2 a n2 p0=>
   cases j with
   | nil=>cases Z
   | cons e0 r=>
    rw[au]at Z;injection Z with q0 K1;refine .cons ⟨_,zr,?_⟩<|p0 r K1;rw[show pN e0.1=c.1 by rw[<- q0]];exact a.2.1.1
 have r0:(D.toList.map (·.key)).length=j.length:=by
  rw[o0,ai,ai,<- Paired.length n0,ai]
 have I:(D.toList.map (·.key)).length<=sizeLine:=by rw[r0];exact m0
 have P0:(j.map (·.1)).length=(D.toList.map (·.key)).length:=by rw[ai,r0]
 have Q0:∀v∈D.toList.map (·.key),∃b,v=Aw b/\ax g (pN<|gw g v) (.ref b):=λv C=>by
  obtain⟨a,_,i⟩:=rq J C;have L1:=pe i;obtain⟨b,rfl,N⟩:=i;exact⟨b,rfl,by rw[L1];exact N⟩
 have R0:(D.toList.map (·.key)).map (gw g)=j.map (·.1):=(jw (f:=gw g) J λv p h=>pe h).1;show Ak _ _ (call (.builtin "sorted") [.ref d] [(Cr "key",.ref f)]) _ _ c0;refine call_function_entry_kw GX Gp Gq (ksk_s1 _ _) ?_;unfold Bl.«sorted»;refine ac (m:=HM "sorted" 1 1 _)<|ah ?_;refine ac (qD (O.ok.hd f1) G1 ⟨o,N0,G,O0⟩ (by rw[ai,aI]at I;exact I) λl S0 N1 T0=>?_);generalize D.toList.map (·.key)=vs at J r0 I P0 Q0 R0;refine ac<|Cz ?_ I;have U0:(l.push<|AG "list" vs.toArray 0).get? l.objs.size=Aa (AG "list" vs.toArray 0):=bc _ rfl;have O1:∀b o,c0.heap.get? b=Aa o->(l.push<|AG "list" vs.toArray 0).get? b=Aa o:=λb o e=>aw _<|N1 b o e;show Ak _ _ _ _ _ {c0 with heap:=l.push<|AG "list" vs.toArray 0,toks:=S0};have P1:ae X b0 j0 g {c0 with heap:=l.push<|AG "list" vs.toArray 0,toks:=S0}:=O.kept O1;have V0:g l.objs.size=none:=O.hok.fresh T0;have Q1:cf X b0 g l.objs.size:=O.fpOk T0 V0;refine ac (dG<|wpAny_call_entry_kw Fw ⟨_,U0,zr⟩ Fc ?body<|ksk_l1 _ _)
 case body=>
  show Ak (Ao X.prog X.w) X.A.in1.in1 (Bl.«list.sort» ⟨[.ref l.objs.size],[(Cr "key",.ref f)]⟩) _ _ _;rw[ksk_t1];refine YW (rk:=λv=>Kg lt (vs.map<|gw g)<|gw g v) P1 U0 Q1 I (λW0 S n=>ag g n/\Paired (λk a=>∃x,av x k/\ay X.K n (R a) x) S ((j.map (·.1)).take W0)) ⟨JZ _,.nil⟩ (λW0 v S R1 n T C S1 U W=>?_) (λS R1 n T S1 U W o2=>?_) λS n T Y c U s0 W X0 T1=>⟨_,zr,?_⟩
  .obtain⟨sm,A⟩:=U;obtain⟨a,i,b,rfl,U1⟩:=x_ J C;refine bK (VW (Q:=λv a0=>ag n a0/\ay X.K a0 (R a) v) (vs:=[JU b]) r1 z0 N W (.cons (show av (JU b) (Aw b) from rfl) .nil)<|M0 a (bJ i) b n _ sm (U1.same sm) λv a0 f0 t0=>⟨f0,t0⟩) (λu p2 z=>?_) λ_ _ z=>z;obtain⟨y,a0,V1,g0,f0,t0⟩:=z;refine⟨a0,V1,sm.trans f0,?_⟩;rw[bx,i];exact paired_app (JX A λk a ⟨x,L,h0⟩=>⟨x,L,Kk f0 _ _ h0⟩) ⟨y,g0,t0⟩
  .obtain⟨sm,A⟩:=U;rw[jm (by rw[P0];exact aj _)]at A;have u0:∀k a,a∈j.map (·.1)->(∃x,av x k/\ay X.K n (R a) x)->∃M,HI T.heap k (R a) M/\(R a).canLay0=true:=λk a _ ⟨x,L,h0⟩=>by
    obtain⟨M,F⟩:=ay.reads W _ _ _ h0 L;exact⟨M,F,ay.lay _ _ h0⟩
   have W1:∀k∈S,vP T.heap k:=λk y0=>by
    obtain⟨a,i,G⟩:=rq A y0;obtain⟨M,F,_⟩:=u0 k a i G;obtain⟨⟨z,Y0,ed⟩,_⟩:=d0 a i;rw[ed]at F;exact⟨z,Y0,M,F⟩
   have X1:=Xg (s:=T) W1 (by lia);refine⟨Gs true,λE Q z=>X1 _ _ E Q z,λx G y Z0=>?_⟩;obtain⟨a,i,Y1,Z1⟩:=tS A J x G;obtain⟨b,v0,a2,b2⟩:=tS A J y Z0;obtain⟨M,L,a1⟩:=u0 _ a i Y1;obtain⟨q2,g0,b1⟩:=u0 _ b v0 a2;have w0:=L0 a i b v0;have q0:=Kv K0 (gw g) (CH G).2 (CH Z0).2;rw[<- q0,pe Z1,pe b2];obtain⟨⟨z,Y0,ed⟩,c1⟩:=d0 a i;obtain⟨⟨r2,s2,c2⟩,_⟩:=d0 b v0;rw[ed]at L a1 w0 c1;rw[c2]at g0 b1 w0;exact Qt L g0 a1 b1 z0.in1.in1.units c1 w0
  .have ed:=Ko K0 (gw g) s0;rw[R0]at ed;have i0:∀v∈Y.toList,∃b,v=Aw b/\ax g (pN<|gw g v) (.ref b):=λv C=>Q0 v<|s0.perm.mem_iff.mp C;obtain⟨B,d1,A⟩:∃B:Ab V,ap B Y.toList/\Paired (λx a=>∃b,x=JU b/\ax g (pN a) (.ref b)) B (Y.toList.map<|gw g):=by
    revert i0;generalize Y.toList=os;intro i0
    induction os with
    | nil=>exact⟨[],.nil,.nil⟩
    | cons v os p0=>
     obtain⟨B,k0,d2⟩:=p0 λu e2=>i0 u<|bb _ e2;obtain⟨b,e,N⟩:=i0 v (be ..);exact⟨.ref b::B,.cons e k0,.cons ⟨b,zr,N⟩ d2⟩
   rw[ed]at A;refine ah ⟨_,rfl,.ref l.objs.size,upd n l.objs.size<|.lst B,W.track X0 ⟨?_,Y.toList,c,d1,by rw[Fy];exact T1⟩,rfl,q _ B n U.1 V0 X0.1 A⟩;rw[d1.length,s0.perm.length_eq];exact I
section
variable{κ:Type}[Bh κ]
def eu(a:Ab (κ×Ac×Ad))(k:κ):Ab (κ×Ac×Ad):=a.filter λx=>decide (x.1≠k)
theorem w_:∀{a:Ab (κ×Ac×Ad)} {k:κ},¬ k∈a.map (·.1)->eu a k=a
 | [],_,_=>rfl
 | x::r,k,h=>by
  have b:x.1≠k:=λe=>h (by rw[<- e];exact be ..);unfold eu;rw[B5<|by simpa using b];exact Ba _ (w_ λz=>h<|bb _ z)
theorem E_{a b:Type}(f:a->b):∀(l:Ab a) (j:Nat),(l.map f).eraseIdx j=(l.eraseIdx j).map f
 | [],_=>rfl
 | _::_,0=>rfl
 | x::l,j+1=>Ba (f x:: ·)<|E_ f l j
theorem Nh:∀{b:Ab (κ×Ac×Ad)} {k:κ} {j:Nat} {p:Ac×Ad},(b.map (·.1)).Nodup->b[j]? =Aa (k,p)->b.eraseIdx j=eu b k
 | [],_,_,_,_,e=>by rw[List.getElem?_nil]at e;cases e
 | x::r,k,0,p,a,e=>by
  rw[List.getElem?_cons_zero]at e;cases e
  rw[au,dL]at a;show r=eu ((k,p)::r) k;unfold eu;rw[CT<|by simp];exact(w_ a.1).symm
 | x::r,k,j+1,p,a,e=>by
  rw[Ey]at e;rw[au,dL]at a;have c:x.1≠k:=λz=>a.1 (by rw[z];exact aE.mpr ⟨(k,p),bJ e,rfl⟩);rw[EE,Nh a.2 e];unfold eu;rw[B5<|by simpa using c]
end
variable{kvs:Ab (NK×V)}
def KN.drop{a:Ab (NK×Ac×Ad)}(r:KN H kvs a)(k:NK):KN H (dt kvs k) (eu a k):=by
 induction r with
 | nil=>exact .nil
 | @cons p q b c h t J=>
  by_cases e:p.1=k
  .have e':q.1=k:=h.1.symm.trans e;rw[mH e];unfold eu;rw[CT<|by simp[e']];exact J
  .have e':q.1≠k:=λz=>e<|h.1.trans z;rw[lK e];unfold eu;rw[B5<|by simpa using e'];exact .cons h J
section
variable{prog:Ai}{w:Al}{K:Type}[Bh K]{knd:Ia prog w K}{A:As}{E:xB}{s:Af}{d a:Ac}{k:K}{xs:Ab (K×Ac×Ad)}{p:Ac×Ad}
def Wr{Q:Ag BI->Af->Prop}(n:knd.room A)(q:knd.is s.heap k a)(r:s.heap.DictOfH knd d xs)(f:CQ xs k=Aa p)(t:xs.length<=sizeLine)
  (h:∀e m,e.val=p.2->m.DictOfH knd d (eu xs k)->Bn d s.heap m->Q (Aa e) {s with heap:=m,toks:=s.toks+knd.draws k}):Ak (Ao prog w) A (FE d<|.ref a) Q E s:=by
 obtain⟨o,g,u,c,v,b,O,J,i⟩:=r;unfold FE
 try with_reducible refine dG ?_
 refine ac<|knd.pyHash n q<|ac<|wpAny_dictFind_heap (s:={s with toks:=s.toks+knd.draws k}) n q c b O J i ?_ ?_
 .intro a1;rw[atKey_none_of_get a1]at f;cases f
 .intro j p' Z;rw[atKey_of_get i Z]at f;cases f
  refine ac<|mf (s:={s with toks:=s.toks+knd.draws k}) c b ?_;rw[entry_at O j,Z];have Y:g.size<=sizeLine:=by rw[Hi O];exact t
  refine ac<|wpAny_updateDictKeys (hz:=Y) (s:={s with toks:=s.toks+knd.draws k}) c b<|ah<|h _ _ rfl ⟨_,_,u+1,hH _ c<|Obj.isFreed_of_dict<|FF b _,
   v.mapDictKeys _,FF b _,?_,?_,?_⟩ (cT ..)
  .rw[<- Nh i Z];have y:(g.eraseIdxIfInBounds j).toList=g.toList.eraseIdx j:=by
    obtain⟨l⟩:=g;simp
   rw[y,O];exact E_ _ _ _
  .intro x hx;exact knd.keeps (J x (cV.mp hx).1) c b (cT ..)
  .exact i.sublist<|(DI ..).map _
def SG(b:Ia prog w K)(d a:Ac):MeetsIn prog w (Bl.«dict.pop» ⟨[.ref d,.ref a],[]⟩) (λA R s=>b.room A.in1/\∃k xs p,b.is s.heap k a/\s.heap.DictOfH b d xs/\xs.length<=sizeLine/\CQ xs k=Aa p/\
  ∀f,f.DictOfH b d (eu xs k)->Bn d s.heap f->R (.ok<|.ret p.2) {s with heap:=f,toks:=s.toks+b.draws k}):=
 .of_wp λA R s ⟨m,k,xs,p,n,i,q,g,h⟩=>by
  unfold Bl.«dict.pop»;refine ac ?_;unfold Builtin.Dict.keyAndDefault;refine ac<|C6 i.typeIs ?_;show Ak _ _ (AX (d,Aw a,none)) _ _ s;refine ah ?_;have Z:∀{c:Am BI},c.toList=xs.map (FX b)->c.isEmpty=false:=λ{c} J=>by
   have r:c.size≠0:=λz=>by
    rw[Hi J]at z;rw[mL.mp z]at g;cases g
   simpa [Array.isEmpty] using r
  have t:(keyPart<|Aw a).isSome=false:=rfl;simp only[t,bL,AZ];refine ac ?_;obtain⟨o,c,u,j,v,l,J,O,x⟩:=i;refine mf j l<|ac<|ah ?_;rw[Z J];simp only[bL,AZ];refine ac (Wr m n ⟨o,c,u,j,v,l,J,O,x⟩ g q λe f y Y B=>?_);simp only[Option.isNone_some,bL,AZ];exact ac<|Jq<|ah ⟨e.val,rfl,by rw[y];exact h f Y B⟩
end
variable{v:V}{k:NK}{xC:xG}{σ:St}{a b:Ac}
def Rf{Q:xB}(t:A.units+64 < cLine)(I:ae X xC σ H s)(g:DN X.prog X.w H a kvs)(u:ax H k (.ref b))(ok:cW k)(l:ao kvs k=Aa v)(h:∀o f j,DN X.prog X.w (upd H a o) a (dt kvs k)->ae X xC σ (upd H a o) j->av v f->Q f j):
  Ak (Ao X.prog X.w) A (call (.builtin "dict.pop") [.ref a,.ref b]) Q E s:=by
 obtain⟨z,w,d,e,J,m⟩:=io I.hok g;have n:d.length<=sizeLine:=by rw[<- Paired.length J];exact z
 obtain⟨f,x,y⟩:=cQ.lX (v:=v) (o:=(CQ d k).map (·.2)) (by rw[<- l];exact J.val k);obtain⟨p,B,Z⟩:=dq.mp x;refine DO PySem.F.slot_dict_pop m.typeIs PySem.F.entry_dict_pop (PySem.F.args_dict_pop_2 _ _) (SG (jj X.prog X.w) a b) ⟨m_ t,k,d,p,nu I.hok u ok,m,n,B,λP Y C=>?_⟩;obtain⟨q,D,F,r,G,K,L,_,M⟩:=Y;have N:(eu d k).length<=sizeLine:=az (kQ _ _) n;have O:KN (upd H a<|.ext<|gh X.prog X.w a<|eu d k) (dt kvs k) (eu d k):=(J.drop k).keeps λc R i=>by
  rw[qe (λz=>by rw[z,e]at i;cases i)];exact i
 refine h (.ext<|gh X.prog X.w a<|eu d k) _ _ ⟨_,qb,O⟩ (mW I (by rw[e];exact Ay) C ⟨q,r⟩<|ro ⟨w,N,q,D,F,r,G,K,L,M⟩) ?_;rw[Z];exact y
inductive Le (P:Ai) (w:Al) (ty:TE) (e:St) (Q:VK) (x:V) (d:Hp):Prop
 | mk:∀a,(x= .ref a)->((∃kvs,DN P w d a kvs))->(ty e d λy c=>∃b kvs k v,y= .ref b/\DN P w c a kvs/\ax c k (.ref b)/\cW k/\ao kvs k=Aa v/\∀o,DN P w (upd c a o) a (dt kvs k)->Q v (upd c a o))->Le P w ty e Q x d
def Wm(P:Ai)(w:Al)(a ty:TE):TE:=λσ H Q=>a σ H λx b=>Le P w ty σ Q x b
variable{P:Ai}{o:AK}{apos cpos:Pos}{td ty:TE}
def o_(i:X.A.units+64 < cLine)(j:PE X o td)(n:PE X e ty)(m:M1 X o "pop" apos e cpos)(p:X.prog=P:=by rfl)(r:X.w=w:=by rfl):PE X (.Call (.Attribute o "pop" apos) [e] [] cpos) (Wm P w td ty):=by
 subst p r;intro xC s σ H Q I h;refine CY m.base m.few m.line PySem.F.plainAttrs_dict PySem.F.slot_dict_pop PySem.F.type_dict_pop (am (j xC s σ H _ I h) λu f Y=>?_);obtain⟨x,t,c,z,a,A,⟨T,d⟩,B⟩:=Y;subst A;obtain rfl:u=Aw a:=z;have C:∀b,Aw a= .ref b->∃J,f.heap.get? b=Aa J/\J.dict=none:=λb q=>by
  cases q
  obtain⟨_,_,U,_,_,J,_,_,D,E,_⟩:=io c.hok d;exact⟨J,D,E.2.1⟩
 refine⟨rg c d,C,?_⟩;rw[m.trees];refine Bx rfl (BF<|Bt<|am (n xC f σ t _ c B) λF W ⟨y,Z,G,K,b,kvs,k,v,L,g,M,ok,l,N⟩=>Cg ?_);subst L;obtain rfl:F=Aw b:=K;exact Rf i G g M ok l λo a0 b0 R S O=>⟨v,_,S,O,N o R⟩
structure ko (P:Ai) (w:Al) (K:xA) (mg:xE) (base:AH) (k:Nat) (C:Ac) (m:Str) (ps:xD) (sp:Sp):Prop where
 ex:∃f fd,bZ P w K mg base (eY P w) k f fd ps sp/\lj K C m f/\df K fd ps []
variable{k:Nat}{K:xA}{mg:xE}{base:AH}{C:Ac}{m qual:Str}{st:AV}{N ps:xD}
def bY.okE(T:bY K C m qual st ps)(S:aB N ps (qf st))(c:∀a H Q E,sp a H Q E->a.length=ps.length)
  (J:∀(f:Ac) (b:Ad) (A:As) (d:Ab Env) (s:Af) (H:Hp) (a:Ab V) (Q:VK) (E:XK),aR k (A.deeper<|CK qual (qf st) s.heap.objs.size f b)->sp a H Q E->
   ∃t,bf (eF (eY P w) P w K mg base N qual (qf st) f b A d s H E) (bU st) t/\t {nx:=λ_ e=>Q .non e,rt:=Q} (start N a) H):ko P w K mg base (k+1) C m ps sp:=by
 obtain⟨f,g,F,h,i⟩:=T.ex;refine⟨f,g,?_,h,df.all i⟩;obtain⟨l,n,kV,o,p,q,b,r,u,rfl,j,O⟩:=F.ex;exact pK j O S c<|J f b
def ko.toD(D:ko P w K mg base k C m ps sp):bh P w K mg base k C m ps (λa H Q _=>sp a H Q λ_ _ _=>Bj):=by
 obtain⟨f,c,F,d,b⟩:=D.ex;refine⟨f,c,⟨λa H Q E h=>F.len a H Q _ h,λA g s H i j a Q E l n b o p=>?_⟩,d,b⟩;refine eZ (F.run A g s H i j a Q _ l n b o p) λr t z=>?_;cases r with
 | error e=>
  obtain⟨_,_,_,_,_,_,_,_,_,_,_,_,_,z⟩:=z;exact z
 | ok q=>cases q <;> exact z
variable{E:XK}{es:Ab AK}{ta:TE}
def Nb{a:Sem AJ}(D:ko X.prog X.w X.K X.mg X.base k C m ps sp)(b:fx (eY X.prog X.w) X E)(c:cU X.K C)(d:aR k' X.A)(g:PE X o ta)(h:PA X (e::es) t)(J:k<=k':=by decide)
  (Y:AA (e::es) X.env=(false,Bp e X.env)::AA es X.env:=by rfl) (O:(Bs pos<|AA es X.env).any (·.1)=false:=by rfl)
  (i:Bp (.Call (.Attribute o m apos) (e::es) [] pos) X.env=(do
   let ov <- Bp o X.env
   DL apos.atName
   let (f,first) <- Dp [ov] (CO ov m a)
   ED pos f first (Bs pos<|AA (e::es) X.env) (Cn pos<|BE [] X.env)):=by rfl):
  PE X (.Call (.Attribute o m apos) (e::es) [] pos) (nQ C m sp [] E ta t):=by
 obtain⟨f,n,F,j,l⟩:=D.ex;exact Mb g c j F (d.mono J) l .nil b h Y O i
end L2
set_option maxHeartbeats 4000000
namespace Wy
open PySem L2
def top(i:Nat):AV:=PySem.Challenge.pw_whyrows_k76_ledger_of_lists.main.body.getD i<|.Pass ⟨0,0,0,0⟩
abbrev Ln:AV:=top 0
abbrev sD:AV:=top 8
abbrev rO:AV:=top 9
abbrev sI:AV:=top 10
abbrev qZ:AV:=top 12
abbrev vu:AV:=top 13
abbrev ry:AV:=top 14
abbrev uy:AV:=top 15
abbrev uE:AV:=top 17
abbrev ur:AV:=top 19
abbrev vN:AV:=top 21
abbrev ri:AV:=top 22
abbrev rY:AV:=top 23
abbrev ue:AV:=cF (top 25) 0
abbrev sT:AV:=cF (top 25) 2
abbrev re:AV:=cF (top 25) 3
abbrev so:AV:=cF (top 25) 4
abbrev rH:AV:=cF (top 25) 5
abbrev ud:AV:=cF (top 25) 6
abbrev vo:AV:=cF (top 25) 7
abbrev ui:AV:=top 28
abbrev vG:AV:=top 29
abbrev sq:AV:=top 30
abbrev tj:AV:=top 31
abbrev tU:AV:=top 32
abbrev ra:AV:=top 33
abbrev qW:AV:=top 34
abbrev uW:AV:=top 35
abbrev ye:AV:=cF (top 37) 0
abbrev nP:AV:=cF (top 38) 0
abbrev tO:AV:=cF (top 38) 1
abbrev uc:AV:=cF (top 38) 2
abbrev uX:AV:=cF (top 38) 3
abbrev uh:AV:=cF (top 38) 4
abbrev uB:AV:=cF (top 38) 5
abbrev u_:AV:=cF (top 38) 6
abbrev uZ:AV:=cF (top 38) 7
abbrev tF:AV:=cF (top 39) 0
abbrev tJ:AV:=cF (top 39) 1
abbrev tw:AV:=cF (top 39) 2
abbrev rF:AV:=cF (top 39) 3
abbrev rs:AV:=cF (top 39) 4
abbrev tT:AV:=cF (top 37) 0
abbrev tK:AV:=top 41
abbrev sE:AV:=top 42
abbrev va:AV:=top 43
abbrev rD:AV:=top 44
abbrev tG:AV:=top 45
abbrev uo:AV:=top 46
abbrev uv:AV:=top 47
abbrev rS:AV:=top 48
abbrev rM:AV:=top 49
abbrev su:AV:=top 50
abbrev vJ:AV:=top 51
abbrev vt:AV:=top 52
abbrev uL:AV:=top 53
abbrev ts:AV:=top 54
abbrev ru:AV:=top 55
local macro_rules | `(tactic| k_updF)=>`(tactic| exact⟨rfl,rfl,rfl,by decide+kernel,rfl,by decide+kernel,by decide+kernel⟩)
def Om:aB ["thing"] ["thing"] (qf sD):=by k_updF
def OB:aB ["thing","first_signs"] ["thing","first_signs"] (qf rO):=by k_updF
def VM:aB ["thing"] ["thing"] (qf sI):=by k_updF
def WJ:aB ["value"] ["value"] (qf qZ):=by k_updF
def YG:aB ["row"] ["row"] (qf vu):=by k_updF
def Sh:aB ["pair"] ["pair"] (qf ry):=by k_updF
def UD:aB ["pairs"] ["pairs"] (qf uy):=by k_updF
def my:aB ["why","found","product","ways","name"] ["why"] (qf uE):=by k_updF
def QX:aB ["worth"] ["worth"] (qf ur):=by k_updF
def wH:aB ["names","by","worths","name"] ["names","by","worths"] (qf vN):=by k_updF
def pz:aB ["product","by","worths","worth","name"] ["product","by","worths"] (qf ri):=by k_updF
def nK:aB ["why","by","worths","worth","product","ways"] ["why","by","worths"] (qf rY):=by k_updF
def Ym:aB ["self","by"] ["self","by"] (qf ue):=by k_updF
def sV:aB ["self","name","worth","bearers","pair"] ["self","name","worth"] (qf sT):=by k_updF
def sN:aB ["self","table","row","why","worth","pair"] ["self","table","row","why"] (qf re):=by k_updF
def Ma:aB ["self","pair","name"] ["self","pair"] (qf so):=by k_updF
def qY:aB ["self","pair","why","worth","name","pairs"] ["self","pair","why","worth"] (qf rH):=by k_updF
def YQ:aB ["self","table","row"] ["self","table","row"] (qf ud):=by k_updF
def QG:aB ["self"] ["self"] (qf vo):=by k_updF
def PQ:aB ["thing"] ["thing"] (qf ui):=by k_updF
def Uq:aB ["thing"] ["thing"] (qf vG):=by k_updF
def pC:aB ["tree","words","node","word"] ["tree","words"] (qf sq):=by k_updF
def UR:aB ["node","members"] ["node","members"] (qf tj):=by k_updF
def og:aB ["tree","words","members","nodes","node"] ["tree","words"] (qf tU):=by k_updF
def mx:aB ["sets","once","words","by_size"] ["sets"] (qf ra):=by k_updF
def jv:aB ["sets","by_size","smaller","kept","size","least_here","words"] ["sets"] (qf qW):=by k_updF
def sB:aB ["one","other","together","words"] ["one","other"] (qf uW):=by k_updF
def Zg:aB ["self","many"] ["self","many"] (qf nP):=by k_updF
def PJ:aB ["self","numbers"] ["self","numbers"] (qf tO):=by k_updF
def Wp:aB ["self","thing"] ["self","thing"] (qf uc):=by k_updF
def RY:aB ["self"] ["self"] (qf uX):=by k_updF
def XZ:aB ["self"] ["self"] (qf uh):=by k_updF
def XO:aB ["self","one","other"] ["self","one","other"] (qf uB):=by k_updF
def rj:aB ["self","one","other","sums","number"] ["self","one","other"] (qf u_):=by k_updF
def Vz:aB ["self","worth","many"] ["self","worth","many"] (qf uZ):=by k_updF
def Tq:aB ["self","thing"] ["self","thing"] (qf tF):=by k_updF
def Ov:aB ["self"] ["self"] (qf tJ):=by k_updF
def XN:aB ["self"] ["self"] (qf tw):=by k_updF
def Q_:aB ["self","one","other"] ["self","one","other"] (qf rF):=by k_updF
def TU:aB ["self","one","other"] ["self","one","other"] (qf rs):=by k_updF
def Zs:aB ["self","worth","many"] ["self","worth","many"] (qf tT):=by k_updF
def Va:aB ["_law_script","_law_k"] ["_law_script","_law_k"] (qf tK):=by k_updF
def mi:aB ["_law_cell","_law_place","_law_number","_law_some","_law_k"] ["_law_cell","_law_place"] (qf sE):=by k_updF
def gZ:aB ["_law_cell","_law_many","_law_signs","_law_size","_law_at","_law_words_here","_law_k","_law_word","_law_j","_law_place"] ["_law_cell","_law_many"] (qf va):=by k_updF
def tZ:aB ["_law_cell","_law_number","_law_words_here"] ["_law_cell"] (qf rD):=by k_updF
def SR:aB ["_law_pair"] ["_law_pair"] (qf tG):=by k_updF
def nU:aB ["_law_cell","_law_names","_law_one","_law_two","_law_three","_law_some"] ["_law_cell","_law_names"] (qf uo):=by k_updF
def LK:aB ["_law_cell","_law_most","_law_some"] ["_law_cell","_law_most"] (qf uv):=by k_updF
def mh:aB ["_law_cell","_law_names","_law_s","_law_many","_law_k","_law_product"] ["_law_cell","_law_names"] (qf rS):=by k_updF
def xK:aB ["_law_ledger","_law_way","_law_thing","e"] ["_law_ledger","_law_way","_law_thing"] (qf rM):=by k_updF
def vC:aB ["_law_hands","_law_names","_law_most","_law_cell","_law_one","_law_two"] ["_law_hands","_law_names","_law_most","_law_cell"] (qf su):=by k_updF
def nj:aB ["_law_ledger","_law_name","_law_worth","_law_whys","_law_handed","_law_found","_law_due","_law_pair"] ["_law_ledger","_law_name","_law_worth","_law_whys"] (qf vJ):=by k_updF
def yU:aB ["_law_ledger","_law_pair","_law_why_here","_law_whys","_law_prices","_law_handed"] ["_law_ledger","_law_pair","_law_why_here","_law_whys","_law_prices"] (qf vt):=by k_updF
def oi:aB ["_law_ledger","_law_by","_law_pair","_law_whys","_law_prices","_law_due","_law_k","_law_found"] ["_law_ledger","_law_by","_law_pair","_law_whys","_law_prices"] (qf uL):=by k_updF
def nD:aB ["_law_ledger","_law_by","_law_whys","_law_prices","_law_due","_law_k","_law_told_here","_law_entry"] ["_law_ledger","_law_by","_law_whys","_law_prices"] (qf ts):=by k_updF
def eo:aB ["_law_script","_law_hands","_law_most","_law_by","_law_ledger","_law_words_here","_law_values_here","_law_pairs","_law_prices","_law_whys","_law_k","_law_cell","_law_name","_law_pair"] ["_law_script"] (qf ru):=by k_updF
structure Txt (K:xA) (mg:xE):Prop where
 Qw:mg "ValueError"=none
 b_all:mg "all"=none
 b_any:mg "any"=none
 Pk:mg "bool"=none
 YX:mg "dict"=none
 VQ:mg "enumerate"=none
 b_int:mg "int"=none
 fJ:mg "isinstance"=none
 b_len:mg "len"=none
 gz:mg "list"=none
 b_min:mg "min"=none
 jA:mg "range"=none
 b_set:mg "set"=none
 eG:mg "sorted"=none
 b_str:mg "str"=none
 kE:mg "tuple"=none
 VV:∃t,mg "SMALL_LETTERS"=Aa (.str "abcdefghijklmnopqrstuvwxyz" t)
 RP:∃t,mg "FURTHER_SIGNS"=Aa (.str "abcdefghijklmnopqrstuvwxyz0123456789" t)
 Sk:∃t,mg "MOST_SIGNS"=Aa (.int 12 t)
 c_END:∃t,mg "END"=Aa (.str "" t)
 ZR:aZ K mg "_wall" Ln ["k"]
 PZ:aZ K mg "is_whole" sD ["thing"]
 Zv:aZ K mg "is_text_begun_by" rO ["thing","first_signs"]
 VC:aZ K mg "is_word" sI ["thing"]
 Py:aZ K mg "value_key" qZ ["value"]
 Yb:aZ K mg "row_key" vu ["row"]
 Yp:aZ K mg "pair_key" ry ["pair"]
 PD:aZ K mg "pairs_in_order" uy ["pairs"]
 YA:aZ K mg "names_of" uE ["why"]
 t_own:aZ K mg "own" ur ["worth"]
 P_:aZ K mg "ask_worths" vN ["names","by","worths"]
 WM:aZ K mg "product_reckoned" ri ["product","by","worths"]
 Vm:aZ K mg "reckoned" rY ["why","by","worths"]
 RL:aZ K mg "is_tuple_of_words" ui ["thing"]
 Qq:aZ K mg "is_accord" vG ["thing"]
 VH:aZ K mg "put_into" sq ["tree","words"]
 Yc:aZ K mg "kids_within" tj ["node","members"]
 Ul:aZ K mg "has_one_within" tU ["tree","words"]
 VB:aZ K mg "once_by_size" ra ["sets"]
 Zx:aZ K mg "thinned" qW ["sets"]
 We:aZ K mg "agreed" uW ["one","other"]
 OL:aZ K mg "_law_cell_at" tK ["_law_script","_law_k"]
 QL:aZ K mg "_law_stream" sE ["_law_cell","_law_place"]
 Sm:aZ K mg "_law_words" va ["_law_cell","_law_many"]
 Wa:aZ K mg "_law_values" rD ["_law_cell"]
 Tc:aZ K mg "_law_key" tG ["_law_pair"]
 OM:aZ K mg "_law_accord" uo ["_law_cell","_law_names"]
 Yr:aZ K mg "_law_bests" uv ["_law_cell","_law_most"]
 XH:aZ K mg "_law_why" rS ["_law_cell","_law_names"]
 YY:aZ K mg "_law_refused" rM ["_law_ledger","_law_way","_law_thing"]
 Vt:aZ K mg "_law_no_price" su ["_law_hands","_law_names","_law_most","_law_cell"]
 Oa:aZ K mg "_law_priced" vJ ["_law_ledger","_law_name","_law_worth","_law_whys"]
 OP:aZ K mg "_law_entered" vt ["_law_ledger","_law_pair","_law_why_here","_law_whys","_law_prices"]
 Qe:aZ K mg "_law_stands" uL ["_law_ledger","_law_by","_law_pair","_law_whys","_law_prices"]
 PN:aZ K mg "_law_told" ts ["_law_ledger","_law_by","_law_whys","_law_prices"]
 t_law:aZ K mg "law" ru ["_law_script"]
 XQ:mg "Ledger"=Aa (.ref (cA mg "Ledger"))
 qo:cU K (cA mg "Ledger")
 QQ:PySem.W.makesIn K (cA mg "Ledger")=true
 XI:PySem.W.keepIn K (.ref (cA mg "Ledger"))=true
 pQ:en K (cA mg "Ledger") "bearers"
 nC:en K (cA mg "Ledger") "by"
 pp:en K (cA mg "Ledger") "prices"
 kB:en K (cA mg "Ledger") "whys"
 lq:en K (cA mg "Ledger") "worths"
 Sx:bY K (cA mg "Ledger") "__init__" "Ledger.__init__" ue ["self","by"]
 Px:bY K (cA mg "Ledger") "price" "Ledger.price" sT ["self","name","worth"]
 Td:bY K (cA mg "Ledger") "enter" "Ledger.enter" re ["self","table","row","why"]
 Rm:bY K (cA mg "Ledger") "take_out" "Ledger.take_out" so ["self","pair"]
 Vn:bY K (cA mg "Ledger") "take_in" "Ledger.take_in" rH ["self","pair","why","worth"]
 Sc:bY K (cA mg "Ledger") "worth" "Ledger.worth" ud ["self","table","row"]
 Ss:bY K (cA mg "Ledger") "told" "Ledger.told" vo ["self"]
 ZT:mg "Reckoning"=Aa (.ref (cA mg "Reckoning"))
 ZO:cU K (cA mg "Reckoning")
 ZN:PySem.W.makesIn K (cA mg "Reckoning")=true
 ZQ:PySem.W.keepIn K (.ref (cA mg "Reckoning"))=true
 ZS:PySem.W.findIn K (.ref (cA mg "Reckoning")) "__init__"=Aa (Aa (.builtin "object.__init__"))
 ZU:en K (cA mg "Reckoning") "either"
 ZP:en K (cA mg "Reckoning") "nought"
 ZM:bY K (cA mg "Reckoning") "repeated" "Reckoning.repeated" ye ["self","worth","many"]
 yj:mg "Bests"=Aa (.ref (cA mg "Bests"))
 iA:cU K (cA mg "Bests")
 LN:PySem.W.makesIn K (cA mg "Bests")=true
 yX:PySem.W.keepIn K (.ref (cA mg "Bests"))=true
 pH:en K (cA mg "Bests") "most"
 Qi:oZ K (cA mg "Bests") "Bests.__init__" "many" nP (.int 3)
 Ug:bY K (cA mg "Bests") "least_ones" "Bests.least_ones" tO ["self","numbers"]
 To:bY K (cA mg "Bests") "fits" "Bests.fits" uc ["self","thing"]
 Wv:bY K (cA mg "Bests") "nought" "Bests.nought" uX ["self"]
 OE:bY K (cA mg "Bests") "unit" "Bests.unit" uh ["self"]
 YR:bY K (cA mg "Bests") "either" "Bests.either" uB ["self","one","other"]
 Sq:bY K (cA mg "Bests") "both" "Bests.both" u_ ["self","one","other"]
 Vi:bY K (cA mg "Bests") "repeated" "Bests.repeated" uZ ["self","worth","many"]
 TD:mg "Hands"=Aa (.ref (cA mg "Hands"))
 XW:cU K (cA mg "Hands")
 Qy:PySem.W.makesIn K (cA mg "Hands")=true
 OQ:PySem.W.keepIn K (.ref (cA mg "Hands"))=true
 Ws:PySem.W.findIn K (.ref (cA mg "Hands")) "__init__"=Aa (Aa (.builtin "object.__init__"))
 SI:bY K (cA mg "Hands") "fits" "Hands.fits" tF ["self","thing"]
 UO:bY K (cA mg "Hands") "nought" "Hands.nought" tJ ["self"]
 ZH:bY K (cA mg "Hands") "unit" "Hands.unit" tw ["self"]
 Vu:bY K (cA mg "Hands") "either" "Hands.either" rF ["self","one","other"]
 RV:bY K (cA mg "Hands") "both" "Hands.both" rs ["self","one","other"]
 Yz:bY K (cA mg "Hands") "repeated" "Reckoning.repeated" tT ["self","worth","many"]
 ub:mg "NoWorth"=Aa (.ref (cA mg "NoWorth"))
 he:fD K (cA mg "NoWorth")
 zQ:PySem.W.mroIn K (cA mg "NoWorth") (.ref (cA mg "NoWorth"))=Aa true
def fq{b:AJ}{A B:Prop}(e:b=false)(h:B):if b=true then A else B:=by
 subst e;exact eK h
def fG{b:AJ}{A B:Prop}(e:b=true)(h:A):if b=true then A else B:=by
 subst e;exact gy h
def bw:Str:="abcdefghijklmnopqrstuvwxyz0123456789"
def mX(a:Str):Ab Nat->AJ
 | []=>false
 | c::r=>decide (c∈a.cps.toList)&&r.all λd=>decide (d∈bw.cps.toList)
def bS(a z:Str):AJ:=decide (1<=z.length)&&decide (z.length<=12)&&mX a z.cps.toList
def YI:af->Prop
 | .inr z=>z.length<=200/\AW z=true
 | .inl _=>Ez
def sr{b z:Str}(h:¬ (1<=z.length/\z.length<=12)):bS b z=false:=by
 unfold bS;by_cases a:1<=z.length
 .have h2:¬ z.length<=12:=λq=>h ⟨a,q⟩;simp[h2]
 .simp[a]
def qQ{fs z:Str}(a:1<=z.length)(b:z.length<=12):bS fs z=mX fs z.cps.toList:=by
 unfold bS;simp[a,b]
def fk(z:Str):z.cps.toList.length=z.length:=by simp[F1]
theorem MP{z:Str}(h:1<=z.length):∃c r,z.cps.toList=c::r:=by
 have:=fk z;cases e:z.cps.toList with
 | nil=>rw[e]at this;simp at this;lia
 | cons c r=>exact⟨c,r,rfl⟩
theorem Pt{z:Str}(h:1<=z.length):(dN z (Aa 1) none).cps.toList=z.cps.toList.tail:=by
 have a:JV z.length 0 (Aa 1)=1:=by
  have:=Kp z.length 0 1;rw[show ((1:Nat):Int)=1 from rfl]at this;rw[this]
  lia
 have b:=fk z;unfold dN;rw[a,Km];show ((z.cps.toList.drop 1).take<|z.length - 1).toArray.toList=_;rw[ey,jm (by rw[fB];lia),List.drop_one]
variable{K:xA}
inductive yu (K:xA) (b:Ab V) (H:Hp) (Q:VK) (d:XK):Prop
 | mk:∀(a:Ac) (c:Ab Int) (k:Int),(b=[.ref a,.int k])->(aK K H a (c.map JN))->(0<=k)->(Q (.int (c.getD k.toNat 0)) H)->yu K b H Q d
variable{P:Ai}{w:Al}{mg:xE}{base:AH}
theorem j_(T:Txt K mg):bv P w K mg base 1 "_law_cell_at" ["_law_script","_law_k"] (yu K):=by
 refine T.OL.ok Va (λd H Q E h=>?_) λf g A i s H d Q E j h=>?_
 .obtain⟨a,ns,k,rfl,_⟩:=h;rfl
 .obtain⟨a,ns,k,rfl,O,h0,q⟩:=h;refine⟨_,eg
   (bQ (fF NB (pv 1) (qp (mj K) rfl T.b_len jL<|ak<|pv 0)<|du _) (qg<|qi<|bg (cJ K) (pv 0) (pv 1) λ_ _=>rfl) ci)
   (qi qd),?_⟩
  refine⟨_,zr,_,zr,_,_,zr,.inl ⟨_,O,zr⟩,_,_,zr,zr,_,zr,?_⟩;rw[ai];refine dP (λb=>?_) λb=>?_
  .have J:k < ns.length:=by simpa using b
   have c:k.toNat < ns.length:=by lia
   refine⟨_,zr,_,zr,_,_,_,JN<|ns.getD k.toNat 0,zr,zr,O,?_,q⟩;rw[SK h0 (by rw[ai];exact J),bF,aH c,Nu c];rfl
  .have J:¬ k < ns.length:=by simpa using b
   have e:ns.getD k.toNat 0=0:=by
    exact Sa (by lia)
   rw[e]at q;exact q
def lD(a b:Str):(a++b).cps.toList=a.cps.toList++b.cps.toList:=by
 show (a.cps++b.cps).toList=_;rw[gF]
def UG(a b:Str):(a++b).length=a.length+b.length:=by
 show (a.cps++b.cps).size=a.cps.size+b.cps.size;exact El
def vS{z:Str}(h:∀c∈z.cps.toList,c < 0x110000):AW z=true:=by
 unfold AW;rw[<- Array.all_toList,eh];exact λc a=>aS<|h c a
theorem pa{K:xA}{H:Hp}:∀{c:Ab AQ} {f:Ab V} {i:Nat} {x:V},aW K H c f->f[i]? =Aa x->∃d,c[i]? =Aa d/\ay K H d x
 | _,_,i,x,.nil,h=>by simp at h
 | _,_,0,x,.cons a b,h=>by
  simp at h
  subst h;exact⟨_,zr,a⟩
 | _,_,i+1,x,.cons a b,h=>by
  obtain⟨d,e,r⟩:=pa (i:=i) (x:=x) b (by simpa using h);exact⟨d,by simpa using e,r⟩
theorem kJ{K:xA}{H:Hp}:∀{c:Ab AQ} {d:Ab V},aW K H c d->c.length=d.length
 | _,_,.nil=>rfl
 | _,_,.cons a b=>by rw[bz,bz,kJ b]
theorem uU{K:xA}{H:Hp}{d:AQ}{x:V}:∀{c:Ab AQ} {e:Ab V},aW K H c e->ay K H d x->aW K H (c++ [d]) (e++ [x])
 | _,_,.nil,h=> .cons h .nil
 | _,_,.cons a b,h=> .cons a<|uU b h
def bD(H c:Hp):Prop:=∀b a,H b=Aa (.tup a)->c b=Aa (.tup a)
variable{H H':Hp}
def ag.keepT(s:ag H H'):bD H H':=λb a e=>s b _ e
variable{H1 H2:Hp}
def bD.trans(a:bD H H1)(b:bD H1 H2):bD H H2:=λc d e=>b c d<|a c d e
theorem bD.upd{H a:Hp}{d:Ac}{f g:Ab V}(k:bD H a)(e:a d=Aa (.lst f)):bD H (upd a d<|.lst g):=λb h c=>by
 rw[qe (λz=>by rw[z]at c;have:=k _ _ c;rw[e]at this;cases this)];exact k b h c
abbrev ar:=Ab<|Ab Str×Int
def fM(W:ar):Ab (Ab Str×V):=W.map λa=>(a.1,JN a.2)
def LF(W:ar):HO:= .dT ((fM W).map λa=>(a.1.map Aj,a.2))
def lm(W:ar)(k:xD):Ag Int:=(W.find? λa=>decide (a.1=k)).map (·.2)
def gm(W:ar)(k:xD)(v:Int):ar:=if (W.any λa=>decide (a.1=k))=true then W.map (λa=>if a.1=k then (a.1,v) else a) else W++ [(k,v)]
def qM{a b:xD}:a.map (Aj:Str->af)=b.map Aj↔a=b:=by
 constructor
 .intro h;exact List.map_inj_right (λx y e=>Ef e) |>.mp h
 .intro h;rw[h]
def Wh(a b:xD):decide (a.map (Aj:Str->af)=b.map Aj)=decide (a=b):=decide_eq_decide.mpr qM
def NX(W:ar)(k:xD):ao ((fM W).map λa=>(a.1.map (Aj:Str->af),a.2)) (k.map Aj)=(lm W k).map JN:=by
 unfold ao lm fM
 induction W with
 | nil=>rfl
 | cons p W b=>
  rw[au,au];by_cases e:p.1=k
  .rw[Ng (by rw[e];simp),Ng<|by simpa using e];rfl
  .rw[vY (by simpa using λq=>e<|qM.mp q),vY<|by simpa using e];exact b
def So(W:ar)(k:xD)(v:Int):aq ((fM W).map λa=>(a.1.map (Aj:Str->af),a.2)) (k.map Aj) (JN v)=(fM<|gm W k v).map λa=>(a.1.map Aj,a.2):=by
 unfold aq gm fM;have b:((D4 (λa:Ab Str×V=>(a.1.map (Aj:Str->af),a.2))<|W.map λa=>(a.1,JN a.2)).any λa=>decide (a.1=k.map Aj))=W.any λa=>decide (a.1=k):=by
  rw[IZ,IZ]
  congr 1
  funext a
  exact Wh a.1 k
 rw[b];split
 .rw[cr,cr,cr,cr];refine fT λa _=>?_;show (if a.1.map (Aj:Str->af)=k.map Aj then (a.1.map Aj,JN v) else (a.1.map Aj,JN a.2))=_;by_cases h:a.1=k
  .rw[Ah<|by rw[h]];show _=(((if a.1=k then (a.1,v) else a).1).map Aj,JN (if a.1=k then (a.1,v) else a).2);rw[Ah h]
  .rw[Ae λq=>h<|qM.mp q];show _=(((if a.1=k then (a.1,v) else a).1).map Aj,JN (if a.1=k then (a.1,v) else a).2);rw[Ae h]
 .rw[a_,a_];rfl
def zw(W:ar)(k:xD)(v:Int):(gm W k v).map (·.1)=if k∈W.map (·.1) then W.map (·.1) else W.map (·.1)++ [k]:=by
 unfold gm;have e:(W.any λa=>decide (a.1=k))=decide (k∈W.map (·.1)):=by
  rw[hN,fN,D7,aE]
  constructor
  .rintro ⟨p,hp,h⟩;exact⟨p,hp,AT h⟩
  .rintro ⟨p,hp,h⟩;exact⟨p,hp,aS h⟩
 rw[e];by_cases h:k∈W.map (·.1)
 .rw[Ah<|aS h,Ah h,cr];refine fT λa _=>?_;show (if a.1=k then (a.1,v) else a).1=a.1;split <;> rfl
 .rw[Ae (by simpa using h),Ae h,a_];rfl
def Zo{W:ar}(h:(W.map (·.1)).Nodup)(k:xD)(v:Int):((gm W k v).map (·.1)).Nodup:=by
 rw[zw];split
 .exact h
 .rename_i hk;exact qL h hk
theorem Ui(W:ar)(k:xD)(v:Int):(gm W k v).length<=W.length+1:=by
 have:(gm W k v).length=((gm W k v).map (·.1)).length:=by rw[ai]
 rw[this,zw];split
 .rw[ai];lia
 .rw[aX,ai];exact aj _
def Yt(a:Ab Str×Int):AQ:= .tuple [.tuple<|a.1.map .str,.int a.2]
def gM(W:ar):Ab AQ:=W.map Yt
theorem LD{c d:Type}{F:c->d->Prop}{x:c}{y:d}:∀{e:Ab c} {f:Ab d},Paired F e f->F x y->Paired F (e++ [x]) (f++ [y])
 | _,_,.nil,h=> .cons h .nil
 | _,_,.cons a b,h=> .cons a<|LD b h
def hL(H:Hp)(x:V)(a:Ab Str×Int):Prop:=∃q b,x= .ref q/\H q=Aa (.tup [.ref b,.int a.2])/\H b=Aa (.tup<|a.1.map JP)
variable{kv:Ab Str×Int}
def hL.keep{x:V}(h:hL H x kv)(s:bD H H'):hL H' x kv:=by
 obtain⟨q,b,e,a,c⟩:=h;exact⟨q,b,e,s _ _ a,s _ _ c⟩
theorem lE{H c:Hp}(s:bD H c):∀{d:Ab V} {e:ar},Paired (hL H) d e->Paired (hL c) d e
 | _,_,.nil=> .nil
 | _,_,.cons a b=> .cons (a.keep s)<|lE s b
def MA{a:Ab Int}{k:Nat}(h:k < a.length):bV (a.map JN) (k:Int)=Aa (JN<|a.getD k 0):=by
 rw[Nu h];exact cv (by rw[bF,aH h];rfl)
theorem pW{K:xA}{H:Hp}:∀a:Ab Int,aW K H (a.map .int)<|a.map JN
 | []=> .nil
 | n::a=> .cons (.int n)<|pW a
def sj(a:Ab Int):Az (a.map .int)=0:=by
 induction a with
 | nil=>rfl
 | cons x p b=>
  show max (DS<|.int x) (Az<|p.map .int)=0;rw[b];rfl
def mK:bw.length=36:=by decide+kernel
def Nr:∀c∈bw.cps.toList,c < 0x110000:=by decide+kernel
def Wz(n:Nat)(z:Str):Prop:=z.length<=n/\∀c∈z.cps.toList,c∈bw.cps.toList
def Wz.ok{n:Nat}{z:Str}(h:Wz n z):AW z=true:=vS λc a=>Nr c<|h.2 c a
def UT(d:Nat):(⟨#[d]⟩:Str).length<=1:=aj _
theorem UC(c:Int){m:Int}(a:0 < m)(b:m<=36):∃d,bV bw.cps.toList (c%m)=Aa d/\d∈bw.cps.toList:=
 iQ (cG _<|by lia) (by rw[fk,mK];have:=cS c a;lia)
def TZ:bw.length<=sizeLine:=by rw[mK];decide
def qU{W:ar}(h:(W.map (·.1)).Nodup){k:xD}(a:k∈W.map (·.1)):∃n,lm W k=Aa n/\(k,n)∈W:=by
 obtain⟨⟨k',n⟩,b,e⟩:=aE.mp a;have c:k'=k:=e;subst c;unfold lm;cases q:W.find? λkv=>decide (kv.1=k') with
 | none=>
  have:=List.find?_eq_none.mp q _ b;simp at this
 | some x=>
  have d:=List.find?_some q;have f:=List.mem_of_find?_eq_some q;obtain⟨g,i⟩:=x;have:g=k':=by simpa using d
  subst this;exact⟨i,zr,f⟩
def Vd{b:Ac}{p:xD}(h:H b=Aa (.tup<|p.map JP))(a:∀x∈p,AW x=true):ay K H (.tuple<|p.map .str) (.ref b):=by
 refine .tup (JT h) ?_;clear h
 induction p with
 | nil=>exact .nil
 | cons x p c=>exact .cons (.str x<|a x (be ..)) (c λy d=>a y<|bb _ d)
theorem H_{K:xA}{H:Hp}:∀{a:Ab V} {W:ar},Paired (hL H) a W->(∀kv∈W,∀z∈kv.1,AW z=true)->aW K H (gM W) a
 | _,_,.nil,_=> .nil
 | _,_,.cons ⟨q,b,e,c,d⟩ r,ok=>by
  subst e;exact .cons (.tup (JT c)<|.cons (Vd d<|ok _ (be ..))<|.cons (.int _) .nil) (H_ r λkv J=>ok kv<|bb _ J)
theorem fC{b c:Type}{F:b->c->Prop}:∀{l:Ab b} {k:Ab c} {i:Nat} {x:b},Paired F l k->l[i]? =Aa x->∃y,k[i]? =Aa y/\F x y
 | _,_,_,_,.nil,h=>by simp at h
 | _,_,0,_,.cons a _,h=>by
  simp at h
  subst h;exact⟨_,zr,a⟩
 | _,_,i+1,x,.cons _ r,h=>by
  obtain⟨y,e,f⟩:=fC (i:=i) (x:=x) r (by simpa using h);exact⟨y,by simpa using e,f⟩
def jq(a b:Str):AC (.str a) (.str b)=decide (a=b):=by
 show (a==b)=_;by_cases h:a=b <;> simp[h]
def Pw(p:xD):Az (p.map .str)=0:=by
 induction p with
 | nil=>rfl
 | cons x p a=>
  show max (DS<|.str x) (Az<|p.map .str)=0;rw[a];rfl
theorem vr{c:Type}{lt:c->c->AJ}(h:Kc lt):∀{l:Ab c},l.Pairwise (λa b=>lt b a=false)->l.Nodup->l.Pairwise λa b=>lt a b=true
 | [],_,_=> .nil
 | a::l,f,g=>by
  obtain⟨i,j⟩:=eC.mp f;obtain⟨k,m⟩:=dL.mp g;refine eC.mpr ⟨λb d=>?_,vr h j m⟩;cases e:lt a b with
  | true=>rfl
  | false=>exact Au (h.tri a b e<|i b d) λz=>k (z ▸ d)
theorem Xc(a:Ab Int)(lo b:Ag Int):∃J:Ab Int,bX (a.map JN) lo b=J.map JN/\J.length<=a.length:=by
 refine⟨(a.drop<|JV a.length 0 lo).take<|JV a.length a.length b - JV a.length 0 lo,?_,?_⟩
 .unfold bX;rw[ai,CF,FS]
 .rw[bt,fB]
  lia
def VN{W:ar}{k:xD}{v:Int}(h:kv∈gm W k v):kv∈W\/ kv=(k,v):=by
 unfold gm at h;split at h
 .obtain⟨x,hx,e⟩:=aE.mp h;by_cases q:x.1=k
  .rw[Ah q]at e;exact .inr (by rw[<- e,q])
  .rw[Ae q]at e;exact .inl (e ▸ hx)
 .rcases aF.mp h with h | h
  .exact .inl h
  .exact .inr<|aM.mp h
theorem paired_app{c d:Type}{F:c->d->Prop}:∀{e J:Ab c} {f O:Ab d},Paired F e f->Paired F J O->Paired F (e++J) (f++O)
 | _,_,_,_,.nil,h=>h
 | _,_,_,_,.cons a b,h=> .cons a<|paired_app b h
def Wd(W:ar):Az (gM W)<=2:=by
 induction W with
 | nil=>exact ba _
 | cons p W a=>
  refine Nat.max_le.mpr ⟨?_,a⟩;show max (Az (p.1.map .str)+1) (max 0 0)+1<=2;rw[Pw];decide
def KO(W:ar):DS (.list<|gM W)<=60:=az (fP<|Wd W) (by decide)
def Bd(n L:Nat)(b:Int)(W:ar):Prop:=W.length<=n/\∀p∈W,(∀x∈p.1,AW x=true)/\p.1.length<=L/\0<=p.2/\p.2<=b
abbrev BW(W:ar):Prop:=Bd 200 1000 (2^599) W
def WA(H:Hp)(l:Ac)(W:ar):Prop:=∃a,H l=Aa (.lst a)/\Paired (hL H) a W/\BW W
def WA.same{l:Ac}{W:ar}(h:WA H l W)(s:ag H H'):WA H' l W:=by
 obtain⟨a,b,c,d⟩:=h;exact⟨a,s _ _ b,lE (ag.keepT s) c,d⟩
def WA.bd{l:Ac}{W:ar}(h:WA H l W):BW W:=by
 obtain⟨b,c,d,a⟩:=h;exact a
def WA.dat{l:Ac}{W:ar}(h:WA H l W):ay K H (.list<|gM W) (.ref l):=by
 obtain⟨e,a,b,c⟩:=h;exact .lst (JO a) (H_ b λp d=>(c.2 p d).1)
noncomputable def WA.xs  {l : Ac} {W : ar} (h : WA H l W) : Ab V := GQ h
theorem WA.lst{H:Hp}{l:Ac}{W:ar}(h:WA H l W):H l=Aa (.lst h.xs):=(C9 h).1
def WA.prd{l:Ac}{W:ar}(h:WA H l W):Paired (hL H) h.xs W:=(C9 h).2.1
def WA.copy{l q:Ac}{W:ar}(h:WA H l W)(a:H q=none):WA (upd H q<|.lst h.xs) q W:=⟨h.xs,qb,lE (ag.keepT<|qc a) h.prd,h.bd⟩
def Mf(W:ar)(c:xD):Prop:=(c.Pairwise λa b=>strLt a b=true)/\∀x,x∈c↔∃kv∈W,x∈kv.1
def WQ{a:Ab (af×V)}{k:af}(v:V)(h:k∈a.map (·.1)):(aq a k v).map (·.1)=a.map (·.1):=by
 obtain⟨p,b,e⟩:=aE.mp h;unfold aq;rw[Ah<|fN.mpr ⟨p,b,aS e⟩,cr];refine fT λkv _=>?_;show (if kv.1=k then (kv.1,v) else kv).1=kv.1;split <;> rfl
def Qr{a:Ab (af×V)}{k:af}(v:V)(h:¬ k∈a.map (·.1)):(aq a k v).map (·.1)=a.map (·.1)++ [k]:=by
 unfold aq;rw[Ae,a_]
 .rfl
 .intro z;obtain⟨p,b,e⟩:=fN.mp z;exact h<|aE.mpr ⟨p,b,AT e⟩
def uM(H:Hp)(d:Ac)(b:xD)(v:V):Prop:=∃a,H d=Aa (.dK a)/\a.map (·.1)=b.map Aj/\b.Nodup/\∀kv∈a,kv.2=v
variable{J:xD}
def zj{x:Str}:(Aj x:af)∈J.map Aj↔x∈J:=by
 rw[aE]
 constructor
 .rintro ⟨y,hy,e⟩;cases e
  exact hy
 .exact λh=>⟨x,h,zr⟩
def yQ{a:Ab (af×V)}{k:af}{v:V}(h:∀kv∈a,kv.2=v):∀kv∈aq a k v,kv.2=v:=λkv J=>by
 unfold aq at J;split at J
 .obtain⟨x,hx,e⟩:=aE.mp J;by_cases q:x.1=k
  .rw[Ah q]at e;rw[<- e]
  .rw[Ae q]at e;exact e ▸ h x hx
 .rcases aF.mp J with g | g
  .exact h kv g
  .rw[aM.mp g]
def YB{d:Ac}{v:V}{x:Str}{b:Ab (af×V)}(a:b.map (·.1)=J.map Aj)(c:J.Nodup)(Y:∀kv∈b,kv.2=v):∃O,uM (upd H d<|.dK<|aq b (Aj x) v) d O v/\(∀y,y∈O↔y∈J\/ y=x)/\O.length<=J.length+1:=by
 by_cases h:x∈J
 .refine⟨J,⟨_,qb,?_,c,yQ Y⟩,λy=>⟨.inl,λz=>z.elim id λe=>e ▸ h⟩,Du _⟩;rw[WQ v (by rw[a];exact zj.mpr h),a]
 .refine⟨J++ [x],⟨_,qb,?_,qL c h,yQ Y⟩,λy=>by rw[aF,aM],by rw[aX];exact aj _⟩;rw[Qr v (by rw[a];exact λz=>h<|zj.mp z),a,a_];rfl
inductive zI (b:Ab V) (H:Hp) (Q:VK) (c:XK):Prop
 | mk:∀(l:Ac) (W:ar),(b=[.ref l])->(WA H l W)->(∀p a H',ag H H'->H p=none->H' p=Aa (.lst (a.map JP))->Mf W a->a.length<=200000->Q (.ref p) H')->zI b H Q c
theorem Xm{W:ar}{n L:Nat}(h:∀p∈W,p.1.length<=L)(a:W.length<=n):(W.flatMap (·.1)).length<=n*L:=by
 have:(W.flatMap (·.1)).length<=W.length*L:=by
  clear a
  induction W with
  | nil=>simp
  | cons p W b=>
   rw[C3,aX,bz,Nat.add_mul];have d:=h p (be ..);have e:=b λq c=>h q<|bb _ c
   lia
 exact az this<|Nat.mul_le_mul_right _ a
theorem vg(T:Txt K mg):bv P w K mg base 1 "names_of" ["why"] zI:=by
 refine T.YA.ok my (λC H Q E h=>?_) λc0 d0 e0 f0 g0 H C Q E D h=>?_
 .obtain⟨l,W,rfl,_⟩:=h;rfl
 .obtain⟨l,W,rfl,⟨xs,hl,f,hb⟩,k⟩:=h;refine⟨_,em
   (ql (i:=1) my.nd rfl (Ax rfl) iP)
   (cw AL rfl (cB K<|pv 0) (ot rfl<|dQ (qk (i:=2) my.nd rfl<|Ax rfl)<|dQ (qk (i:=3) my.nd rfl<|Ax rfl) iS)<|qg<|cw AL rfl (iG K<|pv 2) (qk (i:=4) my.nd rfl<|Ax rfl)<|qg<|jQ (cL D) (pv 1) (pv 4) cM rfl)
   (qi<|qp (YJ rfl K) rfl T.eG eH<|ak<|pv 1),?_⟩
  refine λd t=>?_;have u:=qc (o:=Kt []) t;have I:=Paired.length f;have v:∀i,((W.take i).flatMap (·.1)).length<=200000:=λi=>Xm (n:=200) (L:=1000) (λp f=>(hb.2 p<|kW f).2.1)<|az (by rw[bt];lia) hb.1;refine⟨_,rfl,l,rfl,⟨_,JO<|u _ _ hl⟩,fo (xs:=xs) (λi a G=>ag H G/\(∃v1 m g,a=[Aa<|.ref l,Aa<|.ref d,v1,m,g])/\∃J,uM G d J (.bl true)/\(∀x,x∈J↔x∈(W.take i).flatMap (·.1))/\J.length<=((W.take i).flatMap (·.1)).length) ⟨u,⟨_,_,_,rfl⟩,[],⟨[],qb,rfl,dH,λ_ z=>nomatch z⟩,λx=>by simp,ba _⟩ (λi a G _ z=>JO<|z.1 _ _ hl) ?_ ?_⟩
  .rintro i x a G hx ⟨sg,⟨v1,m,g,rfl⟩,J,hk,hm,O⟩;obtain⟨kv,M,N⟩:=fC f hx;obtain⟨q,b,rfl,R,A⟩:=N.keep<|ag.keepT sg;refine⟨_,_,zr,JT R,zr,_,_,zr,_,_,zr,zr,?_⟩;have r:(W.take<|i+1).flatMap (·.1)=(W.take i).flatMap (·.1)++kv.1:=by
    rw[bx,M,vz];simp
   have S:=v<|i+1;rw[r,aX]at S;refine⟨_,rfl,b,rfl,⟨_,JT A⟩,uN (xs:=kv.1.map JP) (λj a F=>ag H F/\F b=Aa (.tup<|kv.1.map JP)/\(∃g,a=[Aa<|.ref l,Aa<|.ref d,Aa<|.ref b,Aa<|.int kv.2,g])/\∃J,uM F d J (.bl true)/\(∀x,x∈J↔x∈(W.take i).flatMap (·.1)\/ x∈kv.1.take j)/\J.length<=((W.take i).flatMap (·.1)).length+j) ⟨sg,A,⟨_,rfl⟩,J,hk,λx=>by rw[hm x];simp,O⟩ (λj a F _ z=>JT z.2.1) ?_ ?_⟩
   .rintro j y a F hy ⟨sf,fb,⟨g,rfl⟩,J,⟨kvs,Y,Z,a2,a4⟩,hm,O⟩;rw[bF]at hy;obtain⟨z,B,rfl⟩:=dq.mp hy;have h0:j < kv.1.length:=(bR.mp B).1;have U:kvs.length=J.length:=by
     have:=Ba Dw Z;rw[ai,ai]at this;exact this
    obtain⟨X,a0,b0,i0⟩:=YB (H:=F) (d:=d) (x:=z) Z a2 a4;refine⟨_,rfl,_,rfl,d,_,rfl,e_.k (k:=Aj z) Y (by rw[U];exact cp (show J.length < 1000000 by lia)<|by decide),?_⟩;refine⟨λc o s=>by rw[qe (λe=>by rw[e,t]at s;cases s)];exact sf c o s,by rw[qe (λe=>by rw[e,Y]at fb;cases fb)];exact fb,⟨_,rfl⟩,X,a0,λx=>?_,by lia⟩;rw[b0,hm,bx,B,Js];simp
   .rintro a F ⟨sf,fb,⟨g,rfl⟩,J,hk,hm,O⟩;rw[ai,bA]at hm;rw[ai]at O;refine⟨sf,⟨_,_,_,zr⟩,J,hk,λx=>?_,?_⟩
    .rw[hm,r,aF]
    .rw[r,aX];exact O
  .rintro a G ⟨sg,⟨v1,m,g,rfl⟩,J,⟨kvs,Y,Z,a2,a4⟩,hm,O⟩;rw[I,bA]at hm;have j0:=v xs.length;refine⟨_,zr,d,kvs,J,zr,Y,Z,λp f=>?_⟩;refine k p _ _ (sg.trans<|qc f) (sg.free f) qb ⟨vr bT (Kb bT _)<|(JW strLt _).nodup_iff.mpr a2,λx=>?_⟩ ?_
   .rw[(JW strLt _).mem_iff,hm,GR]
   .rw[(JW strLt _).length_eq]
    lia
def dS:Str:="abcdefghijklmnopqrstuvwxyz"
def gN(a:Str):AQ->AJ
 | .str z=>bS a z
 | _=>false
def gk:AQ->AJ
 | .int _=>true
 | _=>false
def tD:AQ->Prop
 | .str z=>z.length<=200
 | _=>Ez
def Pl{d:AQ}{x:V}(h:ay K H d x):(∃z,d= .str z/\x= .str z)\/ (fK (iZ d) "str"=false/\∀a,gN a d=false):=by
 cases h with
 | str z _=>exact .inl ⟨z,rfl,rfl⟩
 | non=>exact .inr ⟨rfl,λ_=>rfl⟩
 | bl _=>exact .inr ⟨rfl,λ_=>rfl⟩
 | int _=>exact .inr ⟨rfl,λ_=>rfl⟩
 | lst _ _=>exact .inr ⟨rfl,λ_=>rfl⟩
 | tup _ _=>exact .inr ⟨rfl,λ_=>rfl⟩
inductive wG (K:xA) (a:Ab V) (H:Hp) (Q:VK) (c:XK):Prop
 | mk:∀x b d,(a=[x,.str b])->(ay K H d x)->(tD d)->(∀H',ag H H'->Q (.bl (gN b d)) H')->wG K a H Q c
theorem Ru(T:Txt K mg):bv P w K mg base 1 "is_text_begun_by" ["thing","first_signs"] (wG K):=by
 refine T.Zv.ok OB (λt H Q E h=>?_) λf G A I s H t Q E L h=>?_
 .obtain⟨x,fs,d,rfl,_⟩:=h;rfl
 .obtain⟨x,fs,d,rfl,hd,hz,k⟩:=h;refine⟨_,eg
   (bQ (PW.pt<|kl (el<|dX<|qp (gv K) rfl T.fJ fS<|aD (pv 0)<|fY rfl T.b_str MD)<|kb<|el<|Pr NP NP qd (qp (mj K) rfl T.b_len jL<|ak<|pv 0)<|Rh rfl T.Sk) (qg<|qi cM) ci)
   (qi<|mO (im NC (bg Lk (pv 0) qd λ_ _=>rfl) (pv 1)<|by with_unfolding_all rfl)<|nM<|qp (lf rfl K) rfl T.b_all kN<|ak<|dU (N:=["sign"]) (caps:=[none]) rfl (by with_unfolding_all rfl) (Zw<|fE Ni (pv 0) (eM qd) fQ) (λ_ _ _ _ _=>qk (i:=0) (show (["sign"]:xD).Nodup by decide+kernel) rfl<|Ax rfl) (λ_ _ _ _ _=>d_) λ_ _ _ _ _=>(im NC (pv 0) (qI rfl T.RP)<|by with_unfolding_all rfl)),?_⟩
  rcases Pl hd with ⟨z,rfl,rfl⟩ | ⟨ty,u⟩
  .have hz:z.length<=200:=hz;have O:z.length<=sizeLine:=az hz (by decide);have n:¬ (1<=z.length/\z.length<=12)->Q (.bl false) H:=λq=>by
    have:=k H<|JZ H;rw[show gN fs (.str z)=false from sr q]at this;exact this
   refine⟨_,zr,_,_,_,zr,hd,by decide,_,zr,?_⟩;refine fq (show (!fK "str" "str")=false by decide) ?_;refine⟨_,zr,_,_,zr,⟨O,zr⟩,_,_,zr,zr,_,zr,?_⟩;refine dP (λb=>?_) λb=>?_
   .refine⟨_,_,zr,zr,_,zr,?_⟩;refine dP (λe=>?_) λe=>?_
    .exact n λq=>by simp at e;lia
    .have l1:1<=z.length:=by simp at b;lia
     have l2:z.length<=12:=by simp at e;lia
     obtain⟨c,r,J⟩:=MP l1;have g:gN fs (.str z)=mX fs z.cps.toList:=qQ (fs:=fs) l1 l2;rw[J]at g;refine⟨_,rfl,_,_,c,rfl,rfl,O,(by rw[J];exact cv (j:=0) rfl),_,rfl,_,_,rfl,rfl,_,rfl,?_⟩;rw[GC];refine dP (λl=>?_) λl=>?_
     .refine⟨_,zr,_,zr,_,zr,O,_,zr,λD B=>?_⟩;have Y:(dN z (Aa 1) none).cps.toList=r:=by rw[Pt l1,J];rfl
      have M:r.length<=12:=by
       have:=fk z;rw[J,bz]at this
       lia
      have Z:(dN z (Aa 1) none).cps.size=r.length:=by rw[<- Y,aI]
      refine dg r.length (λi a H'=>(∃v,a=[v])/\H'=upd H D (.lst<|(r.take i).map λc=>Ke (decide (c∈bw.cps.toList)))) ⟨⟨_,rfl⟩,rfl⟩ (λi a H' o _=>by show i < _;rw[Z];exact o) (λa H' p=>⟨Z.symm,?_⟩) λi a H' o p x H2 y=>?_
      .obtain⟨_,rfl⟩:=p;refine⟨D,r.map λc=>decide (c∈bw.cps.toList),rfl,JO (by rw[qb,bA,cr];rfl),?_⟩;have:=k (upd H D<|.lst<|(r.take r.length).map λc=>Ke (decide (c∈bw.cps.toList)))<|qc B;rw[g]at this;have m:mX fs (c::r)=(r.map λc=>decide (c∈bw.cps.toList)).all id:=by
        show (decide (c∈fs.cps.toList)&&_)=_;rw[l,kC,gQ];rfl
       rw[m]at this;exact this
      .obtain⟨⟨v,rfl⟩,rfl⟩:=p;obtain⟨rfl,c',C,rfl⟩:=y;have F:r[i]? =Aa c':=by rw[<- Y,bG];exact C
       refine⟨_,zr,_,_,zr,zr,_,qb,?_,⟨_,zr⟩,?_⟩
       .rw[ai,bt];exact cY (by lia)
       .rw[zo,GC,bx,F,a_];rfl
     .have:=k H<|JZ H;rw[g]at this;have m:mX fs (c::r)=false:=by
       show (decide (c∈fs.cps.toList)&&_)=_;rw[Bool.eq_false_iff.mpr l,hV]
      rw[m]at this;exact this
   .refine⟨_,zr,gy ?_⟩;exact n λq=>by simp at b;lia
  .refine⟨_,zr,_,_,_,zr,hd,by decide,_,zr,?_⟩;refine fG (by rw[ty];rfl)<|gy ?_;have:=k H<|JZ H;rw[u]at this;exact this
inductive zD (K:xA) (a:Str) (b:Ab V) (H:Hp) (Q:VK) (c:XK):Prop
 | mk:∀x d,(b=[x])->(ay K H d x)->(tD d)->(∀H',ag H H'->Q (.bl (gN a d)) H')->zD K a b H Q c
def Tn(T:Txt K mg):bv P w K mg base 2 "is_word" ["thing"] (zD K dS):=by
 refine T.VC.ok VM (λa H Q E h=>?_) λf c A e s H a Q E b h=>?_
 .obtain⟨x,d,rfl,_⟩:=h;rfl
 .obtain⟨x,d,rfl,hd,hz,k⟩:=h;refine⟨_,qg<|qi<|qr (Ru T) b rfl<|aD (pv 0)<|qI rfl T.VV,?_⟩;exact⟨_,zr,_,_,d,zr,hd,hz,k⟩
inductive yo (K:xA) (a:Ab V) (H:Hp) (Q:VK) (b:XK):Prop
 | mk:∀x d,(a=[x])->(ay K H d x)->(Q (.bl (gk d)) H)->yo K a H Q b
def zg(T:Txt K mg):bv P w K mg base 1 "is_whole" ["thing"] (yo K):=by
 refine T.PZ.ok Om (λb H Q E h=>?_) λf c A e s H b Q E g h=>?_
 .obtain⟨x,d,rfl,_⟩:=h;rfl
 .obtain⟨x,d,rfl,hd,k⟩:=h;refine⟨_,qg<|qi<|mO (qp (gv K) rfl T.fJ fS<|aD (pv 0)<|fY rfl T.b_int qR)<|nM<|US<|qp (gv K) rfl T.fJ fS<|aD (pv 0)<|fY rfl T.Pk Vs,?_⟩;refine⟨_,zr,_,_,_,zr,hd,by decide,_,zr,dP (λa=>?_) λa=>?_⟩
  .refine⟨_,zr,_,_,_,zr,hd,by decide,_,zr,?_⟩;cases hd <;> first | exact k | (exact Au a aY)
  .cases hd <;> first | exact k | (exact Au rfl a)
def cq(a:Ab (af×V))(w:Str):Ag Ac:=match ao a (Aj w) with
 | some (.ref b)=>Aa b
 | _=>none
def jP(H:Hp)(a:Ac):Ab (af×V):=match H a with
 | some (.dK b)=>b
 | _=>[]
def go(H:Hp):Ac->Ab Str->Ag Ac
 | a,[]=>Aa a
 | a,w::c=>(cq (jP H a) w).bind λb=>go H b c
theorem fv(H:Hp):∀(x y:xD) (a:Ac),go H a (x++y)=(go H a x).bind λb=>go H b y
 | [],y,a=>rfl
 | w::x,y,a=>by
  show (cq (jP H a) w).bind (λb=>go H b<|x++y)=((cq (jP H a) w).bind λb=>go H b x).bind λb=>go H b y;cases cq (jP H a) w with
  | none=>rfl
  | some b=>exact fv H x y b
def cP{a:Ac}{c:Ab (af×V)}(e:H a=Aa (.dK c))(w:Str)(J:xD):go H a (w::J)=(cq c w).bind λb=>go H b J:=by
 show (cq (jP H a) w).bind (λb=>go H b J)=_;rw[show jP H a=c by unfold jP;rw[e]]
structure pR (H:Hp) (r:Ac):Prop where
 node:∀p a,go H r p=Aa a->∃kvs,H a=Aa (.dK kvs)
 inj:∀p q a,go H r p=Aa a->go H r q=Aa a->p=q
def NZ(a:Ab (af×V))(w u:Str)(m:Ac):cq (aq a (Aj w)<|.ref m) u=if u=w then Aa m else cq a u:=by
 unfold cq;rw[gX];by_cases h:u=w
 .rw[Ah h,Ah<|by rw[h]]
 .rw[Ae h,Ae (λz=>h<|by injection z)]
theorem Zz{r a m:Ac}{p:xD}{w:Str}{g:Ab (af×V)}(N:pR H r)(h:go H r p=Aa a)(i:H a=Aa (.dK g))(n:cq g w=none)(o:H m=none):
    ∀(y x:xD) (b:Ac),go H r x=Aa b->go (upd (upd H m<|.dK []) a<|.dK<|aq g (Aj w)<|.ref m) b y=if x++y=p++ [w] then Aa m else go H b y:=by
  have A:a≠m:=qj i o;have B:go H r (p++ [w])=none:=by
    rw[fv,h];show go H a [w]=none;rw[cP i,n];rfl
  intro y
  induction y with
  | nil=>
    intro x b f;rw[dy,Ae (λz=>by rw[z,B]at f;cases f)];rfl
  | cons u d q=>
    intro x b f;obtain⟨j,J⟩:=N.node x b f;have step:∀c,cq j u=Aa c->go H r (x++ [u])=Aa c:=λc O=>by
      rw[fv,f];show go H b [u]=Aa c;rw[cP J,O];rfl
    by_cases e:b=a
    · subst e
      have C:x=p:=N.inj x p b f h;subst C;rw[i]at J;cases J
      have k:upd (upd H m<|.dK []) b (.dK<|aq g (Aj w)<|.ref m) b=Aa (.dK<|aq g (Aj w)<|.ref m):=qb;rw[cP k,NZ,cP i];by_cases l:u=w
      · subst l
        rw[Ah rfl,n];show go _ m d=_;cases d with
        | nil=>
          rw[Ah rfl];rfl
        | cons v L=>
          have D:upd (upd H m<|.dK []) b (.dK<|aq g (Aj u)<|.ref m) m=Aa (.dK []):=by rw[qe A.symm,qb]
          rw[cP D,Ae (λz=>by
            have:=CU z;simp at this)]
          rfl
      · rw[Ae l]
        cases O:cq g u with
        | none=>
          rw[Ae (λz=>by
            have:=CU z;simp at this
            exact l this.1)]
          rfl
        | some c=>
          show go _ c d=if _ then _ else go H c d
          rw[q (x++ [u]) c<|step c O,dk];rfl
    · have Z:b≠m:=qj J o
      have k:upd (upd H m<|.dK []) a (.dK<|aq g (Aj w)<|.ref m) b=Aa (.dK j):=by rw[qe e,qe Z];exact J
      rw[cP k,cP J];cases O:cq j u with
      | none=>
        rw[Ae λz=>?_]
        · rfl
        · have:go H r (x++u::d)=none:=by
            rw[fv,f];show go H b (u::d)=none;rw[cP J,O];rfl
          have E:x=p:=by
            have F:=Ba Dw z;rw[aX,aX,bz,lh]at F;by_cases s:d=[]
            · subst s
              exact(List.append_inj' z rfl).1
            · exfalso
              have Y:x.length < p.length:=by
                have:0 < d.length:=List.length_pos_iff.mpr s
                lia
              have G:x++ [u] <+:p:=by
                have I:x++ [u] <+:p++ [w]:=⟨d,by rw[dk];exact z⟩;exact List.prefix_of_prefix_length_le I (D8 _ _) (by rw[aX];exact Y)
              obtain⟨t,K⟩:=G;rw[<- K,fv,fv,f]at h;have:go H b [u]=none:=by
                rw[cP J,O];rfl
              simp[this]at h
          subst E;rw[f]at h;cases h
          exact e rfl
      | some c=>
        show go _ c d=if _ then _ else go H c d
        rw[q (x++ [u]) c<|step c O,dk];rfl
def Ks(b:Ab (af×V))(a:xD):Prop:=b.map (·.1)=a.map Aj/\a.Nodup
def sv(a:Ab (af×V))(k:af):(ao a k).isSome=true↔∃kv∈a,kv.1=k:=by
 unfold ao;rw[BU,List.find?_isSome];simp
def Ks.mem{a:Ab (af×V)}{b:xD}(h:Ks a b)(w:Str):w∈b↔(ao a<|.inr w).isSome=true:=by
 rw[sv]
 constructor
 .intro hw;have:(Aj w:af)∈a.map (·.1):=by
   rw[h.1];exact aE.mpr ⟨w,hw,zr⟩
  obtain⟨kv,c,e⟩:=aE.mp this;exact⟨kv,c,e⟩
 .rintro ⟨kv,c,e⟩;have:(Aj w:af)∈b.map Aj:=by
   rw[<- h.1,<- e];exact aE.mpr ⟨kv,c,zr⟩
  obtain⟨u,d,J⟩:=aE.mp this;injection J with J;rw[<- J];exact d
def Ks.put{d:Ab (af×V)}{c:xD}(h:Ks d c)(w:Str)(v:V):∃J,Ks (aq d (.inr w) v) J:=by
 unfold aq;split
 .refine⟨c,?_,h.2⟩;rw[cr,<- h.1]
  apply fT
  intro kv _;show (if kv.1=Aj w then (kv.1,v) else kv).1=kv.1;split <;> rfl
 .rename_i z;refine⟨c++ [w],by rw[a_,a_,h.1];rfl,?_⟩;rw[me];refine⟨h.2,by simp,λa f b g e=>z ?_⟩;have i:b=w:=by simpa using g
  rw[e,i,h.mem,sv]at f;obtain⟨kv,j,k⟩:=f;exact fN.mpr ⟨kv,j,aS k⟩
def Ks.len{a:Ab (af×V)}{b:xD}(h:Ks a b):b.length=a.length:=by
 have:=Ba Dw h.1;rw[ai,ai]at this;exact this.symm
variable{i:Nat}
def Ks.get{c:Ab (af×V)}{a:xD}(h:Ks c a){b:af×V}(e:c[i]? =Aa b):∃w,a[i]? =Aa w/\b.1= .inr w:=by
 have:(a.map (Aj:Str->af))[i]? =Aa b.1:=by rw[<- h.1,bF,e];rfl
 rw[bF]at this;obtain⟨w,d,e⟩:=dq.mp this;exact⟨w,d,e.symm⟩
structure cs (H0 H:Hp) (r:Ac) (S:Ab Str->Prop) (n:Nat):Prop where
 nodes:pR H r
 dom:∀p,(∃a,go H r p=Aa a)↔S p
 new:∀p a,go H r p=Aa a->H0 a=none
 size:∀p a kvs,go H r p=Aa a->H a=Aa (.dK kvs)->kvs.length<=n
 refs:∀p a kvs w v,go H r p=Aa a->H a=Aa (.dK kvs)->ao kvs (Aj w)=Aa v->∃b,v= .ref b
 nd:∀p a kvs,go H r p=Aa a->H a=Aa (.dK kvs)->∃us,Ks kvs us
def KY{r m:Ac}{o:HO}(N:pR H r)(e:H m=none):∀(y x:xD) (b:Ac),go H r x=Aa b->go (upd H m o) b y=go H b y:=by
 intro y
 induction y with
 | nil=>exact λ_ _ _=>rfl
 | cons u i f=>
  intro x b a;obtain⟨d,J⟩:=N.node x b a;have g:upd H m o b=Aa (.dK d):=by rw[qe<|qj J e];exact J
  rw[cP g,cP J];cases h:cq d u with
  | none=>rfl
  | some c=>
   refine f (x++ [u]) c ?_;rw[fv,a];show go H b [u]=Aa c;rw[cP J,h];rfl
def cs.lay{J:Hp}{r m:Ac}{S:Ab Str->Prop}{n:Nat}{o:HO}(T:cs J H r S n)(f:H m=none):cs J (upd H m o) r S n:=by
 have g:∀x,go (upd H m o) r x=go H r x:=λx=>KY T.nodes f x [] r rfl;have h:∀x b c,go H r x=Aa b->upd H m o b=Aa (.dK c)->H b=Aa (.dK c):=λx b c a e=>by
  obtain⟨O,d⟩:=T.nodes.node x b a;rw[qe<|qj d f]at e;exact e
 refine⟨⟨λx b a=>?_,λx y b i j=>?_⟩,λx=>?_,λx b a=>?_,λx b c a e=>?_,λx b c w v a e k=>?_,λx b c a e=>?_⟩
 .rw[g]at a;obtain⟨O,d⟩:=T.nodes.node x b a;exact⟨O,by rw[qe<|qj d f];exact d⟩
 .rw[g]at i j;exact T.nodes.inj x y b i j
 .rw[g];exact T.dom x
 .rw[g]at a;exact T.new x b a
 .rw[g]at a;exact T.size x b c a<|h x b c a e
 .rw[g]at a;exact T.refs x b c w v a (h x b c a e) k
 .rw[g]at a;exact T.nd x b c a<|h x b c a e
theorem MG{t:Hp}{r a m:Ac}{S:Ab Str->Prop}{n:Nat}{p:xD}{w:Str}{f:Ab (af×V)}(T:cs t H r S n)(D:ag t H)(E:go H r p=Aa a)(A:H a=Aa (.dK f))(F:cq f w=none)(k:H m=none):
  cs t (upd (upd H m<|.dK []) a<|.dK<|aq f (Aj w)<|.ref m) r (λx=>S x\/ x=p++ [w]) (n+1)/\go (upd (upd H m<|.dK []) a<|.dK<|aq f (Aj w)<|.ref m) r (p++ [w])=Aa m:=by
 have g:∀x,go (upd (upd H m<|.dK []) a<|.dK<|aq f (Aj w)<|.ref m) r x=if x=p++ [w] then Aa m else go H r x:=λx=>Zz T.nodes E A F k x [] r rfl
 have G:a≠m:=qj A k;have l:upd (upd H m<|.dK []) a (.dK<|aq f (Aj w)<|.ref m) m=Aa (.dK []):=by rw[qe G.symm,qb]
 generalize B:upd (upd H m<|.dK []) a (.dK<|aq f (Aj w)<|.ref m)=H' at*;have o:∀b d,H b=Aa (.dK d)->(b=a/\d=f/\H' b=Aa (.dK<|aq f (Aj w)<|.ref m))\/ H' b=Aa (.dK d):=λb d e=>by
  by_cases z:b=a
  .subst z;rw[A]at e;cases e
   exact .inl ⟨rfl,rfl,by rw[<- B,qb]⟩
  .exact .inr (by rw[<- B,qe z,qe<|qj e k];exact e)
 refine⟨⟨⟨λx b c=>?_,λx y b i j=>?_⟩,λx=>?_,λx b c=>?_,λx b d c e=>?_,λx b d u v c e O=>?_,λx b d c e=>?_⟩,by rw[g,Ah rfl]⟩
 .rw[g]at c;by_cases z:x=p++ [w]
  .rw[Ah z]at c;cases c
   exact⟨_,l⟩
  .rw[Ae z]at c;obtain⟨d,e⟩:=T.nodes.node x b c;rcases o b d e with ⟨_,_,q⟩ | q
   .exact⟨_,q⟩
   .exact⟨_,q⟩
 .rw[g]at i j;by_cases s:x=p++ [w]
  .by_cases Z:y=p++ [w]
   .rw[s,Z]
   .rw[Ah s]at i;rw[Ae Z]at j;cases i
    obtain⟨d,e⟩:=T.nodes.node y _ j;rw[k]at e;cases e
  .by_cases Z:y=p++ [w]
   .rw[Ae s]at i;rw[Ah Z]at j;cases j
    obtain⟨d,e⟩:=T.nodes.node x _ i;rw[k]at e;cases e
   .rw[Ae s]at i;rw[Ae Z]at j;exact T.nodes.inj x y b i j
 .rw[g];by_cases z:x=p++ [w]
  .rw[Ah z];exact⟨λ_=> .inr z,λ_=>⟨m,zr⟩⟩
  .rw[Ae z,T.dom x];exact⟨.inl,λq=>q.elim id λq=>Au q z⟩
 .rw[g]at c;by_cases z:x=p++ [w]
  .rw[Ah z]at c;cases c
   exact D.free k
  .rw[Ae z]at c;exact T.new x b c
 .rw[g]at c;by_cases z:x=p++ [w]
  .rw[Ah z]at c;cases c
   rw[l]at e;cases e
   exact ba _
  .rw[Ae z]at c;obtain⟨J,h⟩:=T.nodes.node x b c;have K:=T.size x b J c h;rcases o b J h with ⟨_,rfl,q⟩ | q
   .rw[q]at e;cases e
    have:=jX J (Aj w)<|JU m
    lia
   .rw[q]at e;cases e
    lia
 .rw[g]at c;by_cases z:x=p++ [w]
  .rw[Ah z]at c;cases c
   rw[l]at e;cases e
   cases O
  .rw[Ae z]at c;obtain⟨J,h⟩:=T.nodes.node x b c;rcases o b J h with ⟨_,rfl,q⟩ | q
   .rw[q]at e;cases e
    rw[gX]at O;by_cases C:(Aj u:af)=Aj w
    .rw[Ah C]at O;cases O
     exact⟨m,zr⟩
    .rw[Ae C]at O;exact T.refs x b _ u v c h O
   .rw[q]at e;cases e
    exact T.refs x b _ u v c h O
 .rw[g]at c;by_cases z:x=p++ [w]
  .rw[Ah z]at c;cases c
   rw[l]at e;cases e
   exact⟨[],zr,dH⟩
  .rw[Ae z]at c;obtain⟨J,h⟩:=T.nodes.node x b c;obtain⟨I,Y⟩:=T.nd x b J c h;rcases o b J h with ⟨_,rfl,q⟩ | q
   .rw[q]at e;cases e
    exact Y.put w<|.ref m
   .rw[q]at e;cases e
    exact⟨I,Y⟩
def aT:Str:=""
def qz{n:Nat}(h:n < 1000000):n < sizeLine:=cp h (by decide)
inductive yy (c:Ab V) (H:Hp) (Q:VK) (e:XK):Prop
 | mk:∀(a:Hp) (r:Ac) (t:Ac) (b:xD) (S:Ab Str->Prop) (n:Nat),(c=[.ref r,.ref t])->(a t=Aa (.tup (b.map JP)))->(ag a H)->(cs a H r S n)->(n+b.length<=900000)->(¬ S (b++ [aT]))->(∀H' d,ag a H'->cs a H' r d (n+b.length+1)->(∀x,d x↔S x\/ x <+:b++ [aT])->Q .non H')->yy c H Q e
theorem Ud(T:Txt K mg):bv P w K mg base 1 "put_into" ["tree","words"] yy:=by
  refine T.VH.ok pC (λU H Q E h=>?_) λf0 g0 h0 i0 j0 H U Q E W h=>?_
  · obtain⟨C,r,t,J,S,n,rfl,_⟩:=h
    rfl
  · obtain⟨C,r,t,J,S,n,rfl,G,I,L,k0,X,q⟩:=h
    refine⟨_,em
      (ql (i:=2) pC.nd rfl (Ax rfl)<|pv 0)
      (cw AL rfl (iG K<|pv 1) (qk (i:=3) pC.nd rfl<|Ax rfl)<|qg<|ql (i:=2) pC.nd rfl (Ax rfl)<|sR (pv 2) (pv 3) iP ⟨rfl,rfl,rfl,rfl⟩)
      (jQ (cL W) (pv 2) (qI rfl T.c_END) iP rfl),?_⟩
    refine⟨_,zr,?_⟩;refine⟨_,rfl,t,rfl,⟨_,JT<|I _ _ G⟩,uN (xs:=J.map JP) (λi y H'=>hI λ(c:Ac) (v:Ag V) (g:Ab Str->Prop)=>pP (y=[Aa<|.ref r,Aa<|.ref t,Aa<|.ref c,v]) (ag C H') (cs C H' r g<|n+i) ((∀x,g x↔S x\/ x <+:J.take i))<|go H' r (J.take i)=Aa c)
      ⟨r,none,S,rfl,I,L,λx=>⟨.inl,λz=>z.elim id λz=>?_⟩,rfl⟩ (λi y H' _ z=>by obtain⟨_,_,_,_,z,_⟩:=z;exact JT<|z _ _ G) ?_ ?_⟩
    · have:x=[]:=by simpa using z
      rw[this];exact(L.dom []).mp ⟨r,zr⟩
    · rintro i x y H1 M ⟨c,v,g,rfl,l,Y,O,d⟩
      rw[bF]at M;obtain⟨u,N,rfl⟩:=dq.mp M;have l0:i < J.length:=(bR.mp N).1;obtain⟨j,Z⟩:=Y.nodes.node _ c d;have A:J.take (i+1)=J.take i++ [u]:=by
        rw[bx,N];rfl
      have R:∀x,x <+:J.take (i+1)↔x <+:J.take i\/ x=J.take i++ [u]:=λx=>by
        rw[A,E9];exact or_comm
      refine⟨_,zr,c,zr,.inl ⟨j,.inl Z⟩,_,zr,λm f=>?_⟩;have a0:=Y.size _ c j d Z;have D:c≠m:=qj Z f;refine⟨j,Aj u,by rw[qe D];exact Z,rfl,qz (by lia),λv B=>?_,λB=>?_⟩
      · obtain⟨b,rfl⟩:=Y.refs _ c j u v d Z B
        have s:go (upd H1 m<|.dK []) r (J.take<|i+1)=Aa b:=by
          rw[KY Y.nodes f _ [] r rfl,A,fv,d];show go H1 c [u]=Aa b;rw[cP Z];unfold cq;rw[B];rfl
        have e:=Y.lay (o:=Kt []) f;refine⟨b,_,g,zr,l.trans<|qc f,⟨e.nodes,e.dom,e.new,λp a k b0 c0=>Ci<|e.size p a k b0 c0,e.refs,e.nd⟩,λx=>?_,s⟩;have d0:g (J.take<|i+1):=(e.dom _).mp ⟨b,s⟩;rw[O x,R]
        constructor
        · rintro (z | z)
          · exact .inl z
          · exact .inr<|.inl z
        · rintro (z | z | z)
          · exact .inl z
          · exact .inr z
          · rw[z,<- A]
            exact(O _).mp d0
      · have F:cq j u=none:=by
          unfold cq;rw[B]
        obtain⟨e,s⟩:=MG Y l d Z F f;refine⟨m,_,_,rfl,?_,e,λx=>?_,by rw[A];exact s⟩
        · exact(l.trans<|qc f).set<|Y.new _ c d
        · show g x\/ x=J.take i++ [u]↔_
          rw[O x,R,Js]
    · rintro y H1 ⟨c,v,g,rfl,l,Y,O,d⟩
      rw[ai]at Y;rw[ai,bA]at d;rw[ai,bA]at O;obtain⟨j,Z⟩:=Y.nodes.node _ c d;have a0:=Y.size _ c j d Z;intro m f;have D:c≠m:=qj Z f;have F:cq j aT=none:=by
        cases e0:cq j aT with
        | none=>rfl
        | some b=>
          have:g (J++ [aT]):=(Y.dom _).mp ⟨b,by
            rw[fv,d];show go H1 c [aT]=Aa b;rw[cP Z,e0];rfl⟩
          rcases (O _).mp this with z | z
          · exact Au z X
          · have:=z.length_le
            rw[aX,lh]at this
            lia
      obtain⟨e,s⟩:=MG Y l d Z F f;refine⟨_,rfl,c,_,rfl,e_.k (k:=Aj aT) (by rw[qe D];exact Z) (qz<|by lia),?_⟩;refine q _ _ ((l.trans<|qc f).set<|Y.new _ c d) e λx=>?_;show g x\/ x=J++ [aT]↔_;rw[O x,E9,Js,or_comm (a:=x=J++ [aT])]
def gW(a:Ab (af×V))(w:Str):V:=(ao a<|.inr w).getD .non
inductive KA (f:Ab V) (H:Hp) (Q:VK) (h:XK):Prop
 | mk:∀(a:Ac) (m:Ac) (b:Ab (af×V)) (g:Ab (af×V)) (c:xD) (d:xD),(f=[.ref a,.ref m])->(a≠m)->(H a=Aa (.dK b))->(H m=Aa (.dK g))->(Ks b c)->(Ks g d)->(c.length<=900000)->(d.length<=900000)->(∀p (e:xD) H',ag H H'->H p=none->H' p=Aa (.lst (e.map (gW b)))->e.Nodup->(∀w,w∈e↔w∈c/\w∈d)->Q (.ref p) H')->KA f H Q h
def sy{a:Ab (af×V)}{w:Str}(h:(ao a<|.inr w).isSome=true):ao a (.inr w)=Aa (gW a w):=by
 unfold gW;cases e:ao a (.inr w) with
 | none=>rw[e]at h;cases h
 | some v=>rfl
theorem Su(T:Txt K mg):bv P w K mg base 1 "kids_within" ["node","members"] KA:=by
 refine T.Yc.ok UR (λC H Q E h=>?_) λf L A M s H C Q E q h=>?_
 .obtain⟨a,m,kvs,a1,us,ms,rfl,_⟩:=h;rfl
 .obtain⟨a,m,kvs,a1,us,ms,rfl,a2,ha,hm,k1,k2,l1,l2,k⟩:=h;have F:=k1.len;have G:=k2.len;refine⟨_,eg
   (bQ (fF NB (qp Mp rfl T.b_len jL<|ak<|pv 0) (qp Mp rfl T.b_len jL<|ak<|pv 1)<|du _) (qg<|qi<|vZ<|dU (N:=["word","node","members"]) (caps:=[none,Aa 0,Aa 1]) rfl (by with_unfolding_all rfl) (xn<|pv 0) (λ_ _ _ _ _=>qk (i:=0) (show (["word","node","members"]:xD).Nodup by decide+kernel) rfl<|Ax rfl) (λ_ _ _ _ _=>rZ<|ni<|pS (cL q) (pv 0)<|pv 2) λ_ _ _ _ _=>iF (cL q) (pv 1) (pv 0) λ_ _=>rfl) ci)
   (qi<|vZ<|dU (N:=["word","node"]) (caps:=[none,Aa 0]) rfl (by with_unfolding_all rfl) (xn<|pv 1) (λ_ _ _ _ _=>qk (i:=0) (show (["word","node"]:xD).Nodup by decide+kernel) rfl<|Ax rfl) (λ_ _ _ _ _=>rZ<|ni<|pS (cL q) (pv 0)<|pv 1) λ_ _ _ _ _=>iF (cL q) (pv 1) (pv 0) λ_ _=>rfl),?_⟩
  refine⟨_,zr,a,kvs,zr,ha,_,zr,m,a1,zr,hm,_,_,zr,zr,_,zr,dP (λ_=>?_) λ_=>?_⟩
  .refine⟨_,zr,a,kvs,zr,.inl ⟨ha,λo D c=>?_⟩⟩;have O:D≠a:=λz=>by rw[z,qb]at c;cases c
   have Y:H D=none:=by rw[qe O]at c;exact c
   refine dg kvs.length (λi d H'=>(∃v,d=[v,Aa<|.ref a,Aa<|.ref m])/\(∀b u,b≠a->H b=Aa u->H' b=Aa u)/\H' a=Aa (.frz o<|.dK kvs)/\H' D=Aa (.lst<|((us.take i).filter λw=>decide (w∈ms)).map<|gW kvs)) ⟨⟨_,rfl⟩,(λb u j e=>by rw[qe<|qj e Y,qe j];exact e),by rw[qe O.symm,qb],qb⟩ (λi d H' l p=>⟨p.2.2.1,l⟩) (λd H' p=>⟨⟨p.2.2.1,aj _⟩,?_⟩) λi d H' l p x H2 y=>?_
   .obtain⟨_,sm,ea,eD⟩:=p;refine .inr ⟨a,o,kvs,ea,(λo u z=>by have n:H a=Aa (.frz o u):=z;rw[ha]at n;cases n),?_⟩;rw[<- F,bA]at eD;refine k D _ _ (λb u e=>?_) Y (by rw[qe O];exact eD) (k1.2.filter _) λw=>by rw[cV];simp
    by_cases z:b=a
    .subst z;rw[ha]at e;cases e
     exact qb
    .rw[qe z];exact sm b u z e
   .obtain⟨⟨v,rfl⟩,sm,ea,eD⟩:=p;obtain⟨rfl,kv,t,rfl⟩:=y;obtain⟨w,r,B⟩:=k1.get t;rw[B];have J:(us.take<|i+1).filter (λw=>decide (w∈ms))=(us.take i).filter (λw=>decide (w∈ms))++(if w∈ms then [w] else []):=by
     rw[bx,r,kj]
     congr 1
     by_cases z:w∈ms
     .rw[Ah z];simp[z]
     .rw[Ae z];simp[z]
    refine⟨_,zr,_,zr,m,_,zr,Kn (k:=Aj w)<|sm m _ a2.symm hm,_,zr,dP (λg=>?_) λg=>?_⟩
    .have Z:w∈ms:=(k2.mem w).mpr g;have I:w∈us:=bJ r;refine⟨_,zr,_,zr,a,gW kvs w,zr,.inl ⟨kvs,.inr w,.inr ⟨o,ea⟩,zr,(sy<|(k1.mem w).mp I).symm⟩,?_⟩;refine⟨_,eD,?_,⟨_,rfl⟩,(λb u j e=>by rw[qe<|qj e Y];exact sm b u j e),by rw[qe O.symm];exact ea,?_⟩
     .rw[ai];exact qz (by have:=kQ (λw=>decide (w∈ms))<|us.take i;rw[bt]at this;lia)
     .rw[qb,J,Ah Z,a_];rfl
    .have Z:w∉ms:=λz=>g<|(k2.mem w).mp z;exact⟨⟨_,rfl⟩,sm,ea,by rw[J,Ae Z,dy];exact eD⟩
  .refine⟨_,zr,m,a1,zr,.inl ⟨hm,λo D c=>?_⟩⟩;have O:D≠m:=λz=>by rw[z,qb]at c;cases c
   have Y:H D=none:=by rw[qe O]at c;exact c
   refine dg a1.length (λi d H'=>(∃v,d=[v,Aa<|.ref a])/\(∀b u,b≠m->H b=Aa u->H' b=Aa u)/\H' m=Aa (.frz o<|.dK a1)/\H' D=Aa (.lst<|((ms.take i).filter λw=>decide (w∈us)).map<|gW kvs)) ⟨⟨_,rfl⟩,(λb u j e=>by rw[qe<|qj e Y,qe j];exact e),by rw[qe O.symm,qb],qb⟩ (λi d H' l p=>⟨p.2.2.1,l⟩) (λd H' p=>⟨⟨p.2.2.1,aj _⟩,?_⟩) λi d H' l p x H2 y=>?_
   .obtain⟨_,sm,ea,eD⟩:=p;refine .inr ⟨m,o,a1,ea,(λo u z=>by have n:H m=Aa (.frz o u):=z;rw[hm]at n;cases n),?_⟩;rw[<- G,bA]at eD;refine k D _ _ (λb u e=>?_) Y (by rw[qe O];exact eD) (k2.2.filter _) λw=>by rw[cV,and_comm];simp
    by_cases z:b=m
    .subst z;rw[hm]at e;cases e
     exact qb
    .rw[qe z];exact sm b u z e
   .obtain⟨⟨v,rfl⟩,sm,ea,eD⟩:=p;obtain⟨rfl,kv,t,rfl⟩:=y;obtain⟨w,r,B⟩:=k2.get t;rw[B];have J:(ms.take<|i+1).filter (λw=>decide (w∈us))=(ms.take i).filter (λw=>decide (w∈us))++(if w∈us then [w] else []):=by
     rw[bx,r,kj]
     congr 1
     by_cases z:w∈us
     .rw[Ah z];simp[z]
     .rw[Ae z];simp[z]
    refine⟨_,zr,_,zr,a,_,zr,Kn (k:=Aj w)<|sm a _ a2 ha,_,zr,dP (λg=>?_) λg=>?_⟩
    .have Z:w∈us:=(k1.mem w).mpr g;refine⟨_,zr,_,zr,a,gW kvs w,zr,?_,?_⟩
     .rw[<- sy g];exact Kn<|sm a _ a2 ha
     refine⟨_,eD,?_,⟨_,rfl⟩,(λb u j e=>by rw[qe<|qj e Y];exact sm b u j e),by rw[qe O.symm];exact ea,?_⟩
     .rw[ai];exact qz (by have:=kQ (λw=>decide (w∈us))<|ms.take i;rw[bt]at this;lia)
     .rw[qb,J,Ah Z,a_];rfl
    .have Z:w∉us:=λz=>g<|(k1.mem w).mp z;exact⟨⟨_,rfl⟩,sm,ea,by rw[J,Ae Z,dy];exact eD⟩
def mu(acc:xF)(p:xD):Nat:=1+(acc.map λq=>if p <+:q++ [aT] then q.length+2 - p.length else 0).sum
theorem xa{a:Type}(f g:a->Nat):∀l:Ab a,(l.map λx=>f x+g x).sum=(l.map f).sum+(l.map g).sum
 | []=>rfl
 | x::l=>by
  rw[au,au,au,eO,eO,eO,xa f g l]
  lia
theorem vf{a:Type}{f:a->Nat}:∀{l:Ab a},(∀x∈l,f x=0)->(l.map f).sum=0
 | [],_=>rfl
 | x::l,h=>by
  rw[au,eO,h x (be ..),vf λy b=>h y<|bb _ b]
theorem sk{a:Type}{f g:a->Nat}:∀{l:Ab a},(∀x∈l,f x<=g x)->(l.map f).sum<=(l.map g).sum
 | [],_=>aj _
 | x::l,h=>by
  rw[au,au,eO,eO];exact B4 (h x (be ..)) (sk λy b=>h y<|bb _ b)
theorem uA{a:Type}{f:a->Nat}:∀{l:Ab a},(∀x∈l,1<=f x)->l.length<=(l.map f).sum
 | [],_=>aj _
 | x::l,h=>by
  rw[au,eO,bz];have:=h x (be ..);have:=uA λy b=>h y<|bb _ b
  lia
def SW{p q:xD}{w v:Str}(a:p++ [w] <+:q)(b:p++ [v] <+:q):w=v:=by
 obtain⟨s,rfl⟩:=a;obtain⟨t,e⟩:=b;rw[dk,dk]at e;have:=CU e;simp at this
 exact this.1.symm
theorem xi(p q:xD)(c:Nat):∀{O:xD},O.Nodup->(O.map λw=>if p++ [w] <+:q then c else 0).sum<=if p <+:q then c else 0
 | [],_=>ba _
 | w::O,nd=>by
  rw[au,eO];have J:=dL.mp nd;by_cases h:p++ [w] <+:q
  .have hp:p <+:q:=(D8 p [w]).trans h;rw[Ah h,Ah hp,vf λv a=>Ae λz=>J.1 (by rw[SW h z];exact a)]
   lia
  .rw[Ae h,dF];exact xi p q c J.2
theorem wE(p:xD){J:xD}(nd:J.Nodup):∀acc:Ab (Ab Str),(J.map λw=>(acc.map λq=>if p++ [w] <+:q++ [aT] then q.length+2 - p.length else 0).sum).sum<=(acc.map λq=>if p <+:q++ [aT] then q.length+2 - p.length else 0).sum
 | []=>B9 (vf λ_ _=>rfl)
 | q::acc=>by
  have e:(J.map λw=>((q::acc).map λq=>if p++ [w] <+:q++ [aT] then q.length+2 - p.length else 0).sum)=J.map λw=>(if p++ [w] <+:q++ [aT] then q.length+2 - p.length else 0)+(acc.map λq=>if p++ [w] <+:q++ [aT] then q.length+2 - p.length else 0).sum:=by
   apply fT
   intro w _;rw[au,eO]
  rw[e,xa,au,eO];exact B4 (xi p (q++ [aT]) _ nd)<|wE p nd acc
theorem wC{p:xD}{w:Str}:∀{acc:xF},(∃q∈acc,p++ [w] <+:q++ [aT])->mu acc (p++ [w])<=(acc.map λq=>if p++ [w] <+:q++ [aT] then q.length+2 - p.length else 0).sum
 | [],h=>by
  obtain⟨_,h,_⟩:=h;cases h
 | q::acc,h=>by
  unfold mu;rw[au,eO,au,eO];have all:(acc.map λq=>if p++ [w] <+:q++ [aT] then q.length+2 - (p++ [w]).length else 0).sum<=(acc.map λq=>if p++ [w] <+:q++ [aT] then q.length+2 - p.length else 0).sum:=sk λq _=>by
   split
   .rw[aX]
    lia
   .exact aj _
  by_cases a:p++ [w] <+:q++ [aT]
  .rw[Ah a,Ah a];have d:=a.length_le;rw[aX,aX,lh,lh]at d;have f:(p++ [w]).length=p.length+1:=by rw[aX];rfl
   lia
  .rw[Ae a,Ae a];have:∃q∈acc,p++ [w] <+:q++ [aT]:=by
    obtain⟨e,b,c⟩:=h;rcases aA.mp b with rfl | b
    .exact Au c a
    .exact⟨e,b,c⟩
   have:=wC this;unfold mu at this
   lia
theorem S_{acc:xF}{p:xD}(nd:J.Nodup)(h:∀w∈J,∃q∈acc,p++ [w] <+:q++ [aT]):((J.map λw=>p++ [w]).map<|mu acc).sum < mu acc p:=by
 rw[cr];have b:(J.map<|mu acc∘λw=>p++ [w]).sum<=(J.map λw=>(acc.map λq=>if p++ [w] <+:q++ [aT] then q.length+2 - p.length else 0).sum).sum:=sk λw a=>wC<|h w a;have c:=wE p nd acc;show _ < 1+_
 lia
variable{α:Type}
def Wx{f:Type}{F:α->f->Prop}{e:Ab α}{g:Ab f}(h:Paired F e g):e≠ []->∃d y J p,e=d++ [y]/\g=J++ [p]/\Paired F d J/\F y p:=by
 induction h with
 | nil=>exact λz=>Au rfl z
 | @cons a b j r i k l=>
  intro _;cases j with
  | nil=>
   cases k
   exact⟨[],a,[],b,zr,zr,.nil,i⟩
  | cons c s=>
   obtain⟨d,y,J,p,m,n,o,q⟩:=l (by simp);exact⟨a::d,y,b::J,p,by rw[m];rfl,by rw[n];rfl,.cons i o,q⟩
theorem Lo{b c a:Type}{F:b->c->Prop}{f:a->b}{g:a->c}:∀{l:Ab a},(∀x∈l,F (f x)<|g x)->Paired F (l.map f) (l.map g)
 | [],_=> .nil
 | x::l,h=> .cons (h x (be ..)) (Lo λy d=>h y<|bb _ d)
structure vA (acc:xF) (S:Ab Str->Prop):Prop where
 dom:∀p,S p↔p=[]\/ ∃q∈acc,p <+:q++ [aT]
 ne:∀q∈acc,aT∉q
def xv{p q:xD}(h:p++ [aT] <+:q++ [aT])(a:aT∉q):p=q:=by
 rcases List.prefix_concat_iff.mp h with e | h
 .exact List.append_cancel_right e
 .exact Au (h.subset<|by simp) a
theorem NE(w:Str):∀(J:xD) (m:Ab (af×V)),(ao (eW (J.map λw=>(w,Ke true)) m)<|.inr w).isSome=true↔w∈J\/ (ao m<|.inr w).isSome=true
 | [],m=>by simp[eW]
 | x::J,m=>by
  show (ao (eW (J.map λw=>(w,Ke true))<|aq m (.inr x)<|.bl true)<|.inr w).isSome=true↔_;rw[NE w J,gX];by_cases e:w=x
  .subst e;rw[Ah rfl];simp
  .rw[Ae (λz=>e<|by injection z),aA];simp[e]
theorem Ld:∀(O:xD) (m:Ab (af×V)) {us:xD},Ks m us->∃J,Ks (eW (O.map λw=>(w,Ke true)) m) J
 | [],m,us,h=>⟨us,h⟩
 | x::O,m,us,h=>by
  obtain⟨J,a⟩:=h.put x<|.bl true;exact Ld O _ a
inductive M_ (b:Ab V) (H:Hp) (Q:VK) (c:XK):Prop
 | mk:∀(d:Hp) (r:Ac) (t:Ac) (a:xD) (acc:xF) (S:Ab Str->Prop) (n:Nat),(b=[.ref r,.ref t])->(H t=Aa (.tup (a.map JP)))->(cs d H r S n)->(n<=900000)->(a.length<=1000)->(vA acc S)->(mu acc []<=900000)->(∀H',ag H H'->Q (.bl (decide (∃q∈acc,∀w∈q,w∈a))) H')->M_ b H Q c
theorem Th(T:Txt K mg):bv P w K mg base 2 "has_one_within" ["tree","words"] M_:=by
  refine T.Ul.ok og (λb1 H Q c1 h=>?_) λf w1 x1 y1 z1 H b1 Q c1 y0 h=>?_
  · obtain⟨d1,r,c0,ws,acc,e1,n,rfl,_⟩:=h
    rfl
  · obtain⟨d1,r,c0,ws,acc,e1,n,rfl,d0,C,A1,G1,e0,f1,k⟩:=h
    refine⟨_,jD
      (ql (i:=2) og.nd rfl (Ax rfl)<|eT (Oe rfl K) rfl T.YX PB<|ak<|dU (N:=["word"]) (caps:=[none]) rfl (by with_unfolding_all rfl) (iG K<|pv 1) (λ_ _ _ _ _=>qk (i:=0) (show (["word"]:xD).Nodup by decide+kernel) rfl<|Ax rfl) (λ_ _ _ _ _=>d_) λ_ _ _ _ _=>qy<|aD (pv 0) cM)
      (ql (i:=3) og.nd rfl (Ax rfl)<|qu<|ak<|pv 0)
      (Pe AL (fF rW (qp (mj K) rfl T.b_len jL<|ak<|pv 3) qd<|du _)<|em
      (ql (i:=4) og.nd rfl (Ax rfl)<|QJ eX PySem.F.slot_list_pop PySem.F.type_list_pop QI<|pv 3)
      (bQ (ni<|pS (cL y0) (qI rfl T.c_END)<|pv 4) (qg<|qi cM) ci)
      (cy<|fe eX qO oz oa (pv 3)<|ak<|qr (Su T) y0 rfl<|aD (pv 4)<|pv 2))
      (qi cM),?_⟩
    refine⟨_,zr,c0,zr,⟨_,JT d0⟩,λD z0=>?_⟩;refine dg (ws.map JP).length (λi I H'=>(∃v,I=[v])/\ag H H'/\∃E,H' D=Aa (.lst E)/\E.length=i/\∀H2,bD H' H2->Paired (vM K H2) E ((ws.take i).map λw=>(w,Ke true))) ⟨⟨_,zr⟩,qc z0,[],qb,zr,λ_ _=> .nil⟩ (λi I H' m0 p=>?_) (λI H' p=>⟨?_,?_⟩) λi I H' m0 p x H2 y=>?_
    · obtain⟨_,L,_⟩:=p
      exact⟨_,(ws.map JP)[i],JT<|L _ _ d0,aH m0⟩
    · obtain⟨_,L,_⟩:=p
      exact⟨_,JT<|L _ _ d0,aj _⟩
    · obtain⟨_,A0,E,U,n0,o0⟩:=p
      have H0:=o0 H' λ_ _ e=>e;rw[ai,bA]at H0;refine⟨D,E,_,zr,JO U,H0,λm J0=>?_⟩;have A:=A0.trans<|qc (o:=Kt<|eW (ws.map λw=>(w,Ke true)) []) J0;have g1:=qb (H:=H') (a:=m) (o:=Kt<|eW (ws.map λw=>(w,Ke true)) []);obtain⟨p0,q0⟩:=Ld ws [] (us:=[]) ⟨rfl,dH⟩;have K0:∀w,w∈p0↔w∈ws:=λw=>by
        rw[q0.mem,NE];simp[ao]
      have H1:p0.length<=1000:=by
        rw[q0.len];have:=rf (ws.map λw=>(w,Ke true)) [];rw[ai]at this;simp at this
        lia
      have h1:H m=none:=A0.free J0;generalize upd H' m (.dK<|eW (ws.map λw=>(w,Ke true)) [])=G at*;generalize eW (ws.map λw=>(w,Ke true)) []=i1 at*;refine⟨_,rfl,by show 1<=sizeLine;decide,λq f0=>?_⟩;have I1:H q=none:=A.free f0;refine⟨λmm L0 H'=>∃(v:Ag V) (s:Ab V) (t:xF),L0=[Aa<|.ref r,Aa<|.ref c0,Aa<|.ref m,Aa<|.ref q,v]/\ag G H'/\H' q=Aa (.lst s)/\Paired (λx p=>∃b,x=JU b/\go H r p=Aa b) s t/\(∀p∈t,∀w∈p,w∈ws)/\(∀u∈acc,(∀w∈u,w∈ws)->∃p∈t,p <+:u)/\mm=(t.map<|mu acc).sum/\mm<=900000,
        ⟨mu acc [],none,[.ref r],[[]],rfl,qc f0,qb,.cons ⟨r,rfl,rfl⟩ .nil,(λp M w d=>by rw[aM.mp M]at d;cases d),(λu _ _=>⟨[],by simp,Hj⟩),by simp,f1⟩,?_⟩
      rintro mm L0 g0 ⟨v,s,t,rfl,M0,eq,r0,s0,N0,j1,J1⟩;have K1:s.length<=900000:=by
        have R:=Paired.length r0;have W:=uA (f:=mu acc) (l:=t) λp _=>by unfold mu;lia
        lia
      refine⟨_,zr,_,_,zr,.inl ⟨_,JO eq,zr⟩,_,_,zr,zr,_,zr,dP (λR=>?_) λR=>?_⟩
      · have k1:s≠ []:=λz=>by
          rw[z]at R;exact Au R (by decide)
        obtain⟨X,y,t0,p,rfl,rfl,l1,b,rfl,F⟩:=Wx r0 k1;refine⟨λI O0=>∃u0,u0 < mm/\∃(v:Ag V) (s:Ab V) (t:xF),I=[Aa<|.ref r,Aa<|.ref c0,Aa<|.ref m,Aa<|.ref q,v]/\ag G O0/\O0 q=Aa (.lst s)/\Paired (λx p=>∃b,x=JU b/\go H r p=Aa b) s t/\(∀p∈t,∀w∈p,w∈ws)/\(∀u∈acc,(∀w∈u,w∈ws)->∃p∈t,p <+:u)/\u0=(t.map<|mu acc).sum/\u0<=900000,λ_ _ z=>z,?_⟩;obtain⟨g,Y⟩:=C.nodes.node p b F;obtain⟨us,h0⟩:=C.nd p b g F Y;have L1:=C.size p b g F Y;refine⟨_,zr,.inl ⟨zr,_,JO eq⟩,_,_,.ref b,zr,zr,eq,by simp,?_⟩;rw[List.dropLast_concat];have i0:ag G (upd g0 q<|.lst X):=M0.set f0;have P0:=qb (H:=g0) (a:=q) (o:=JR X);generalize upd g0 q (.lst X)=m1 at*;have Q0:=i0 _ _<|A _ _ Y;have R0:∀w,(ao g<|.inr w).isSome=true->∃c,gW g w= .ref c/\go H r (p++ [w])=Aa c:=λw d=>by
          have S0:=sy d;obtain⟨c,j0⟩:=C.refs p b g w _ F Y S0;refine⟨c,j0,?_⟩;rw[fv,F];show go H b [w]=Aa c;rw[cP Y];unfold cq;rw[S0,j0];rfl
        have T0:∀w,(ao g<|.inr w).isSome=true->∃u∈acc,p++ [w] <+:u++ [aT]:=λw d=>by
          obtain⟨c,_,U0⟩:=R0 w d;rcases (e0.dom _).mp ((C.dom _).mp ⟨c,U0⟩) with z | z
          · simp at z
          · exact z
        refine⟨_,zr,b,_,zr,Kn (k:=Aj aT) Q0,_,zr,dP (λW=>?_) λW=>?_⟩
        · obtain⟨u,B,Z⟩:=T0 aT W
          have n1:=xv Z<|e0.ne u B;have a0:=k m1<|A.trans i0;rw[aS ⟨u,B,by rw[<- n1];exact s0 p<|by simp⟩]at a0;exact a0
        · refine⟨_,rfl,.inl ⟨rfl,_,JO P0⟩,_,rfl,_,rfl,b,m,g,i1,us,p0,rfl,qj Y h1,Q0,i0 _ _ g1,h0,q0,by rw[h0.len];lia,by lia,λc S N1 V0 U0 j0 nd v0=>?_⟩
          have W0:∀w∈S,(ao g<|.inr w).isSome=true:=λw d=>(h0.mem w).mp ((v0 w).mp d).1;have O1:=S_ (acc:=acc) (p:=p) nd λw d=>T0 w<|W0 w d;have o1:((t0++S.map λw=>p++ [w]).map<|mu acc).sum < mm:=by
            rw[j1,a_,a_,Hk,Hk];simp only[au,bP,eO,List.sum_nil]
            lia
          have X0:Paired (λx p=>∃b,x=JU b/\go H r p=Aa b) (X++S.map (gW g)) (t0++S.map λw=>p++ [w]):=paired_app l1 (Lo λw d=>R0 w<|W0 w d);have p1:(X++S.map (gW g)).length<=900000:=by
            have R:=Paired.length X0;have W:=uA (f:=mu acc) (l:=t0++S.map λw=>p++ [w]) λp _=>by unfold mu;lia
            lia
          rw[aX]at p1;refine⟨q,c,_,_,zr,zr,V0 _ _ P0,j0,c_ (qz<|by lia),?_⟩;refine⟨_,o1,_,_,_,zr,(i0.trans V0).set f0,qb,X0,λw0 J w d=>?_,λu B k0=>?_,zr,by lia⟩
          · rcases aF.mp J with J | J
            · exact s0 w0 (aF.mpr<|.inl J) w d
            · obtain⟨j,q1,rfl⟩:=aE.mp J
              rcases aF.mp d with d | d
              · exact s0 p (by simp) w d
              · rw[aM.mp d]
                exact(K0 j).mp ((v0 j).mp q1).2
          · obtain⟨w0,J,Z⟩:=N0 u B k0
            rcases aF.mp J with J | J
            · exact⟨w0,aF.mpr<|.inl J,Z⟩
            · rw[aM.mp J]at Z
              obtain⟨x0,l0⟩:=Z;cases x0 with
              | nil=>
                rw[dy]at l0;refine Au ?_ W;obtain⟨c',b0⟩:=(C.dom<|p++ [aT]).mpr<|(e0.dom _).mpr<|.inr ⟨u,B,by rw[l0];exact List.prefix_refl _⟩;rw[fv,F]at b0;have O:go H b [aT]=Aa c':=b0;rw[cP Y]at O;cases e:ao g (.inr aT) with
                | none=>
                  unfold cq at O;rw[e]at O;cases O
                | some _=>rfl
              | cons j x0=>
                have Y0:p++ [j] <+:u:=⟨x0,by rw[<- l0];simp⟩;refine⟨p++ [j],aF.mpr<|.inr<|aE.mpr ⟨j,(v0 j).mpr ⟨?_,(K0 j).mpr<|k0 j (by rw[<- l0];simp)⟩,rfl⟩,Y0⟩;obtain⟨c',b0⟩:=(C.dom<|p++ [j]).mpr<|(e0.dom _).mpr<|.inr ⟨u,B,Y0.trans<|D8 _ _⟩;rw[fv,F]at b0;have O:go H b [j]=Aa c':=b0;rw[cP Y]at O;rw[h0.mem];cases e:ao g (.inr j) with
                | none=>
                  unfold cq at O;rw[e]at O;cases O
                | some _=>rfl
      · have r1:s=[]:=by
          cases s with
          | nil=>rfl
          | cons x s=>exact Au (by simp) R
        subst r1;cases r0
        have a0:=k g0<|A.trans M0;rw[aN (by
          rintro ⟨u,B,k0⟩;obtain⟨p,M,_⟩:=N0 u B k0;cases M)]at a0
        exact a0
    · obtain⟨⟨v,rfl⟩,L,E,U,n0,o0⟩:=p
      obtain⟨rfl,s1⟩:=y;have Z0:=s1 _<|JT<|L _ _ d0;rw[bF]at Z0;obtain⟨z,t1,rfl⟩:=dq.mp Z0;refine⟨_,rfl,by show 2<=sizeLine;decide,λp M=>?_⟩;have A:=qc (o:=JY [.str z,.bl true]) M;have u1:p≠D:=(qj U M).symm;refine⟨_,A _ _ U,by rw[n0];exact qz (by rw[ai]at m0;lia),⟨_,rfl⟩,(L.trans A).set z0,E++ [.ref p],qb,by rw[aX,n0];rfl,λG a1=>?_⟩;rw[bx,t1,a_];refine paired_app (o0 G λb v1 e=>a1 b v1 ?_)<|.cons ⟨p,zr,JT (a1 p _<|by rw[qe u1,qb])⟩ .nil;rw[qe (λz=>by rw[z,U]at e;cases e)];exact A _ _ e
def TQ:AU "set"=Aa (.type "set"):=by decide+kernel
def fH(U:xF):Ab (Ab af×V):=U.map λu=>(u.map Aj,Ke true)
def hQ(U:xF)(u:xD):Ab (Ab Str):=if u∈U then U else U++ [u]
def Ut(U:xF)(u:xD):aq (fH U) (u.map Aj) (Ke true)=fH (hQ U u):=by
 have any:((fH U).any λkv=>decide (kv.1=u.map Aj))=decide (u∈U):=by
  rw[hN,fN,D7]
  constructor
  .rintro ⟨kv,hk,e⟩;obtain⟨v,a,rfl⟩:=aE.mp hk;have:=qM.mp<|AT e;rw[<- this];exact a
  .intro h;exact⟨_,aE.mpr ⟨u,h,zr⟩,aS rfl⟩
 unfold aq hQ;rw[any];by_cases h:u∈U
 .rw[Ah<|aS h,Ah h];unfold fH;rw[cr]
  apply fT
  intro v _;show (if v.map (Aj:Str->af)=u.map Aj then (v.map Aj,Ke true) else (v.map Aj,Ke true))=_;split <;> rfl
 .rw[Ae (by simpa using h),Ae h];unfold fH;rw[a_];rfl
def UZ{U:xF}{u v:xD}:v∈hQ U u↔v∈U\/ v=u:=by
 unfold hQ;by_cases h:u∈U
 .rw[Ah h];exact⟨.inl,λz=>z.elim id λz=>by rw[z];exact h⟩
 .rw[Ae h,aF,aM]
def WO{U:xF}{u:xD}(h:U.Nodup):(hQ U u).Nodup:=by
 unfold hQ;by_cases J:u∈U
 .rw[Ah J];exact h
 .rw[Ae J,me];exact⟨h,by simp,λa c b d e=>J (by rw[<- aM.mp d,<- e];exact c)⟩
theorem WK{U:xF}{u:xD}:(hQ U u).length<=U.length+1:=by
 unfold hQ;split
 .lia
 .rw[aX];exact aj _
def eL(U:xF)(n:Int):Ab (Ab Str):=U.filter λu=>decide ((u.length:Int)=n)
structure fL (H0 H:Hp) (kvs:Ab (af×V)) (ns:Ab Int) (U:xF):Prop where
 keys:kvs.map (·.1)=ns.map Bv
 nd:ns.Nodup
 has:∀n∈ns,∃c xs,ao kvs (.inl n)=Aa (.ref c)/\H c=Aa (.lst xs)/\cN H xs (eL U n)/\H0 c=none
 inj:∀n m c,ao kvs (.inl n)=Aa (.ref c)->ao kvs (.inl m)=Aa (.ref c)->n=m
 all:∀u∈U,(u.length:Int)∈ns
def oK{a:Ab (af×V)}{b:Ab Int}(h:a.map (·.1)=b.map Bv)(n:Int):n∈b↔(ao a<|.inl n).isSome=true:=by
 rw[sv]
 constructor
 .intro hn;have:(Bv n:af)∈a.map (·.1):=by
   rw[h];exact aE.mpr ⟨n,hn,zr⟩
  obtain⟨kv,c,e⟩:=aE.mp this;exact⟨kv,c,e⟩
 .rintro ⟨kv,c,e⟩;have:(Bv n:af)∈b.map Bv:=by
   rw[<- h,<- e];exact aE.mpr ⟨kv,c,zr⟩
  obtain⟨m,d,J⟩:=aE.mp this;injection J with J;rw[<- J];exact d
theorem gY{H a:Hp}(k:bD H a):∀{c:Ab V} {d:xF},cN H c d->cN a c d
 | _,_,.nil=> .nil
 | _,_,.cons ⟨b,e,f⟩ h=> .cons ⟨b,e,k _ _ f⟩<|gY k h
def fL.same{J:Hp}{a:Ab (af×V)}{d:Ab Int}{U:xF}(M:fL J H a d U)(s:ag H H'):fL J H' a d U:=
 ⟨M.keys,M.nd,λn f=>by
  obtain⟨c,g,h,i,j,k⟩:=M.has n f;exact⟨c,g,h,s _ _ i,gY (λb l e=>s b _ e) j,k⟩,M.inj,M.all⟩
def PY(U:xF)(u:xD)(n:Int):eL (U++ [u]) n=eL U n++(if (u.length:Int)=n then [u] else []):=by
 unfold eL;rw[kj]
 congr 1
 by_cases h:(u.length:Int)=n
 .rw[Ah h];simp[h]
 .rw[Ae h];simp[h]
def fL.more{Z:Hp}{a:Ab (af×V)}{ns:Ab Int}{U:xF}{u:xD}{c b:Ac}{d:Ab V}(M:fL Z H a ns U)(O:ao a (.inl (u.length:Int))=Aa (.ref c))(h:H c=Aa (.lst d))(i:H b=Aa (.tup<|u.map JP)):
  fL Z (upd H c<|.lst<|d++ [.ref b]) a ns (U++ [u]):=by
 have f:bD H (upd H c<|.lst<|d++ [.ref b]):=bD.upd (λ_ _ e=>e) h;have g:(u.length:Int)∈ns:=(oK M.keys _).mpr (by rw[O];rfl);refine⟨M.keys,M.nd,λn g=>?_,M.inj,λv J=>?_⟩
 .obtain⟨c',Y,h1,h2,h3,h4⟩:=M.has n g;rw[PY];by_cases e:(u.length:Int)=n
  .subst e;rw[O]at h1;cases h1
   rw[h]at h2;cases h2
   refine⟨c,_,O,qb,?_,h4⟩;rw[Ah rfl];exact paired_app (gY f h3)<|.cons ⟨b,zr,f _ _ i⟩ .nil
  .have ne:c'≠c:=λz=>e<|M.inj _ _ c O (by rw[<- z];exact h1);refine⟨c',Y,h1,by rw[qe ne];exact h2,?_,h4⟩;rw[Ae e,dy];exact gY f h3
 .rcases aF.mp J with J | J
  .exact M.all v J
  .rw[aM.mp J];exact g
def fL.new{O:Hp}{j:Ab (af×V)}{ns:Ab Int}{U:xF}{n:Int}{e:Ac}(M:fL O H j ns U)(k:ao j (.inl n)=none)(l:H e=Aa (.lst []))(o:O e=none)(J:∀m c,ao j (.inl m)=Aa (.ref c)->c≠e):
  fL O H (aq j (.inl n)<|.ref e) (ns++ [n]) U:=by
 have nn:n∉ns:=λz=>by
  have:=(oK M.keys n).mp z;rw[k]at this;cases this
 refine⟨?_,?_,λm h=>?_,λm Z c d f=>?_,λv Y=>aF.mpr<|.inl<|M.all v Y⟩
 .rw[Qc _ k,a_,a_,M.keys];rfl
 .rw[me];exact⟨M.nd,by simp,λa p b q e=>nn (by rw[<- aM.mp q,<- e];exact p)⟩
 .rw[gX];rcases aF.mp h with h | h
  .obtain⟨c,xs,d,f⟩:=M.has m h;refine⟨c,xs,?_,f⟩;rw[Ae λz=>nn (by injection z with z;rw[<- z];exact h)];exact d
  .rw[aM.mp h];refine⟨e,[],Ah rfl,l,?_,o⟩;have:eL U n=[]:=by
    unfold eL;rw[List.filter_eq_nil_iff];intro v Y z;have:=M.all v Y;rw[AT z]at this;exact nn this
   rw[this];exact .nil
 .rw[gX]at d f;by_cases i:(Bv m:af)=Bv n
  .by_cases g:(Bv Z:af)=Bv n
   .injection i with i;injection g with g;rw[i,g]
   .rw[Ah i]at d;rw[Ae g]at f;cases d
    exact Au rfl<|J _ _ f
  .by_cases g:(Bv Z:af)=Bv n
   .rw[Ae i]at d;rw[Ah g]at f;cases f
    exact Au rfl<|J _ _ d
   .rw[Ae i]at d;rw[Ae g]at f;exact M.inj _ _ c d f
def mI(K:xA)(H:Hp)(a:Ab V)(c:xF):Prop:=Paired (λx s=>∃b,x=JU b/\(aK K H b (s.map JP)\/ aU K H b (s.map JP))) a c
theorem Lp{K:xA}{H:Hp}:∀{a:Ab V} {J:xF} {i:Nat} {x:V},mI K H a J->a[i]? =Aa x->∃s b,J[i]? =Aa s/\x=JU b/\(aK K H b (s.map JP)\/ aU K H b (s.map JP))
 | _,_,i,x,.nil,h=>by simp at h
 | _,_,0,x,.cons ⟨b,e,c⟩ _,h=>by
  simp at h
  subst h;exact⟨_,b,zr,e,c⟩
 | _,_,i+1,x,.cons _ r,h=>by
  obtain⟨s,b,e,q⟩:=Lp (i:=i) (x:=x) r (by simpa using h);exact⟨s,b,by simpa using e,q⟩
inductive Nc (K:xA) (b:Ab V) (H:Hp) (Q:VK) (f:XK):Prop
 | mk:∀(l:Ac) (c:Ab V) (a:xF),(b=[.ref l])->(aK K H l c)->(mI K H c a)->(a.length<=20000)->((∀s∈a,s.length<=4000))->(∀d e g (U:xF) H',ag H H'->H d=none->H' d=Aa (.dK e)->fL H H' e g U->(∀u,u∈U↔∃s∈a,u=uniq s)->U.Nodup->U.length<=a.length->Q (.ref d) H')->Nc K b H Q f
theorem Rk(T:Txt K mg):bv P w K mg base 1 "once_by_size" ["sets"] (Nc K):=by
 refine T.VB.ok mx (λi0 H Q j0 h=>?_) λJ0 K0 L0 M0 s H i0 Q j0 k0 h=>?_
 .obtain⟨l,xs,ss,rfl,_⟩:=h;rfl
 .obtain⟨l,xs,ss,rfl,hl,hx,f,g,k⟩:=h;have l0:xs.length=ss.length:=Paired.length hx;refine⟨_,qH
   (ql (i:=1) mx.nd rfl (Ax rfl) xR)
   (cw AL rfl (cB K<|pv 0) (qk (i:=2) mx.nd rfl<|Ax rfl)<|qg<|jQ (cL k0) (pv 1) (eT (lM K) rfl T.kE ke<|ak<|qp (Xz rfl P w) rfl T.eG eH<|ak<|eT (QA rfl P w K) rfl T.b_set TQ<|ak<|pv 2) cM rfl)
   (ql (i:=3) mx.nd rfl (Ax rfl) iP)
   (cw AL rfl (PM<|pv 1) (qk (i:=2) mx.nd rfl<|Ax rfl)<|qg<|cy<|fe eX iq il gO (sR (pv 3) (qp (mj K) rfl T.b_len jL<|ak<|pv 2) (qu ck) ⟨rfl,rfl,rfl,rfl⟩)<|ak<|pv 2)
   (qi<|pv 3),?_⟩
  intro o C;have W:=qc (o:=HO.dT []) C;refine⟨_,rfl,l,rfl,⟨_,W.seq hl⟩,fo (xs:=xs) (λi j H'=>ie λ(v:Ag V) (U:xF)=>mZ (j=[Aa<|.ref l,Aa<|.ref o,v,none]) (ag H H') (H' o=Aa (.dT<|fH U)) (U.Nodup) (U.length<=i) (∀u,u∈U↔∃s∈ss.take i,u=uniq s))
   ⟨none,[],rfl,W,qb,dH,aj _,λu=>by simp⟩ (λi j H' _ z=>by obtain⟨_,_,_,z,_⟩:=z;exact z.seq hl) ?_ ?_⟩
  .rintro i x j H1 a7 ⟨v,U,rfl,s1,e1,nd,lu,hU⟩;obtain⟨st,b,X,rfl,D⟩:=Lp hx a7;have A:i < xs.length:=(bR.mp a7).1;have m0:aK K H1 b (st.map JP)\/ aU K H1 b (st.map JP):=D.elim (λz=> .inl<|s1.seq z) λz=> .inr<|s1.seqT z;refine⟨_,zr,_,zr,b,st,zr,m0,g st<|bJ X,λe E p n0 o0=>?_⟩;have t:=qc (o:=nw P w e E) p;refine⟨e,E,zr,qb,λN0 p0=>?_⟩;rw[UX n0 o0];have q:=qc (o:=JR<|(uniq st).map JP) p0;refine⟨_,_,zr,.inl ⟨JO qb,λO0 q0=>?_⟩⟩;have J:=qc (o:=JY<|(uniq st).map JP) q0;refine⟨o,_,rfl,e_.t (k:=(uniq st).map Aj) (J _ _<|q _ _<|t _ _ e1) (by rw[nr];exact qb) (by unfold fH;rw[ai];exact qz<|by lia),?_⟩;rw[Ut];refine⟨_,hQ U<|uniq st,zr,(s1.trans<|t.trans<|q.trans J).set C,qb,WO nd,az WK (by lia),λu=>?_⟩;rw[UZ,hU,bx,X]
   constructor
   .rintro (⟨s,f,g⟩ | h)
    .exact⟨s,aF.mpr<|.inl f,g⟩
    .exact⟨st,aF.mpr (.inr<|by simp),h⟩
   .rintro ⟨s,f,g⟩;rcases aF.mp f with f | f
    .exact .inl ⟨s,f,g⟩
    .have:s=st:=by simpa using f
     rw[this]at g;exact .inr g
  .rintro j H1 ⟨v,U,rfl,s1,e1,nd,lu,hU⟩;rw[l0,bA]at hU;intro d F;have a0:H d=none:=s1.free F;have t:=qc (o:=Kt []) F;have r0:=t _ _ e1;have b0:d≠o:=(qj e1 F).symm;refine⟨_,rfl,o,_,rfl,.inl ⟨r0,λs0=>Tf (λi j H'=>hI λ(v:Ag V) (a:Ab (af×V)) (r:Ab Int)=>mZ (j=[Aa<|.ref l,Aa<|.ref o,v,Aa<|.ref d]) (ag H H') (H' o=Aa (.frz s0<|.dT<|fH U)) (H' d=Aa (.dK a)) (a.length<=i)<|fL H H' a r<|U.take i)
    ⟨v,[],[],rfl,(s1.trans t).set C,qb,by rw[qe b0,qb],aj _,⟨rfl,dH,(λ_ z=>nomatch z),(λn m c h _=>nomatch h),λu G=>by simp at G⟩⟩ (λi j H' _ z=>by obtain⟨_,_,_,_,_,z,_⟩:=z;exact z) ?_ ?_⟩⟩
   .rintro i kv b j H2 hk D ⟨v,a,r,rfl,q,e3,Z,lk,M⟩;have A:i < (fH U).length:=(bR.mp hk).1;have P0:i < U.length:=by unfold fH at A;rw[ai]at A;exact A
    obtain⟨u,G,rfl⟩:∃u,U[i]? =Aa u/\kv=(u.map Aj,Ke true):=by
     unfold fH at hk;rw[bF]at hk;obtain⟨u,f,g⟩:=dq.mp hk;exact⟨u,f,g.symm⟩
    have Y:H2 b=Aa (.tup<|u.map JP):=by rw[D,nr]
    have c0:U.take (i+1)=U.take i++ [u]:=by rw[bx,G];rfl
    refine⟨_,rfl,d,rfl,.inl ⟨a,.inl Z⟩,_,rfl,_,_,rfl,.inr ⟨_,JT Y,rfl⟩,by show 0<=sizeLine;decide,λe p=>?_⟩;rw[ai];have J:=qc (o:=JR []) p;have d0:H e=none:=q.free p;have M1:=M.same J;have Q0:U.length<=20000:=by lia
    have t0:∀n,(eL (U.take i) n).length<=20000:=λn=>by
     have:=kQ (λu:Ab Str=>decide ((u.length:Int)=n))<|U.take i;rw[bt]at this;unfold eL
     lia
    refine⟨a,.inl (u.length:Int),J _ _ Z,zr,qz (by lia),λv y=>?_,λy=>?_⟩
    .obtain⟨c,e0,B,O,I,L⟩:=M1.has _<|(oK M1.keys _).mpr (by rw[y];rfl);rw[y]at B;cases B
     have R0:=Paired.length I;refine⟨.inl ⟨rfl,_,JO O⟩,_,rfl,c,_,_,rfl,rfl,O,qz (by have:=t0 (u.length:Int);lia),?_⟩;have u0:c≠o:=λz=>by rw[z,J _ _ e3]at O;cases O
     have N:c≠d:=λz=>by rw[z,J _ _ Z]at O;cases O
     rw[c0];exact⟨_,a,r,rfl,(q.trans J).set L,by rw[qe u0.symm];exact J _ _ e3,by rw[qe N.symm];exact J _ _ Z,by lia,M1.more y O<|J _ _ Y⟩
    .have a6:e≠d:=(qj Z p).symm;have v0:e≠o:=(qj e3 p).symm;have M2:=M1.new y qb d0 λm c f0 z=>by
      obtain⟨S0,T0,g0,h0,_⟩:=M.has m<|(oK M.keys m).mpr (by rw[f0];rfl);rw[f0]at g0;cases g0
      rw[z]at h0;rw[h0]at p;cases p
     have w0:fL H (upd (upd H2 e<|.lst []) d<|.dK<|aq a (.inl (u.length:Int))<|.ref e) (aq a (.inl (u.length:Int))<|.ref e) (r++ [(u.length:Int)]) (U.take i):=by
      refine⟨M2.keys,M2.nd,λn x0=>?_,M2.inj,M2.all⟩;obtain⟨c,e0,B,O,I,L⟩:=M2.has n x0;have N:c≠d:=λz=>by rw[z,J _ _ Z]at O;cases O
      refine⟨c,e0,B,by rw[qe N];exact O,gY (λU0 E R=>?_) I,L⟩;rw[qe (λz=>by rw[z,J _ _ Z]at R;cases R)];exact R
     have S:upd (upd H2 e<|.lst []) d (.dK<|aq a (.inl (u.length:Int))<|.ref e) e=Aa (.lst []):=by rw[qe a6,qb]
     have y0:ao (aq a (.inl (u.length:Int))<|.ref e) (.inl (u.length:Int))=Aa (.ref e):=by rw[gX,Ah rfl]
     have z0:upd (upd H2 e<|.lst []) d (.dK<|aq a (.inl (u.length:Int))<|.ref e) b=Aa (.tup<|u.map JP):=by
      rw[qe (λz=>by rw[z,Z]at Y;cases Y)];exact J _ _ Y
     refine⟨.inl ⟨rfl,_,JO S⟩,_,rfl,e,_,_,rfl,rfl,S,by show 0 < sizeLine;decide,?_⟩;have A0:ag H (upd (upd H2 e<|.lst []) d<|.dK<|aq a (.inl (u.length:Int))<|.ref e):=(q.trans J).set a0;rw[c0];refine⟨_,_,_,zr,A0.set d0,?_,?_,az (jX _ _ _) (by lia),w0.more y0 S z0⟩
     .rw[qe v0.symm,qe b0.symm];exact J _ _ e3
     .rw[qe a6.symm,qb]
   .rintro j H2 ⟨v,a,r,rfl,q,e3,Z,lk,M⟩;have H0:(fH U).length=U.length:=by unfold fH;rw[ai]
    rw[H0,bA]at M;refine⟨_,zr,k d a r U H2 q a0 Z M hU nd<|by lia⟩
def Up(F:xF)(x:xD):Prop:=∃f∈F,∀w∈f,w∈x
def ev(r:xD):Prop:=r.Pairwise λa b=>strLt a b=true
structure cE (R:xF):Prop where
 srt:R.Pairwise λa b=>bC a b=true
 norm:∀r∈R,ev r
 anti:∀r∈R,∀q∈R,(∀w∈r,w∈q)->r=q
def li{lt:α->α->AJ}(h:Kc lt){l:Ab α}(a:l.Pairwise λa b=>lt b a=false)(n:l.Nodup):l.Pairwise λa b=>lt a b=true:=
 (List.Pairwise.and a n).imp λ{x y} z=>by
  cases e:lt x y with
  | true=>rfl
  | false=>exact Au (h.tri x y e z.1) z.2
def LZ{lt:α->α->AJ}(h:Kc lt){l:Ab α}(a:l.Pairwise λa b=>lt a b=true):l.Pairwise λa b=>lt b a=false:=
 a.imp λ{x y} z=>by
  cases e:lt y x with
  | false=>rfl
  | true=>
   have:=h.tr x y x z e;rw[h.irr]at this;cases this
def ji{lt:α->α->AJ}(h:Kc lt){l:Ab α}(a:l.Pairwise λa b=>lt a b=true):l.Nodup:=
 a.imp λ{x y} z e=>by
  rw[e,h.irr]at z;cases z
def xr[Bh α]{lt:α->α->AJ}(h:Kc lt){l k:Ab α}(a:l.Pairwise λa b=>lt a b=true)(b:k.Pairwise λa b=>lt a b=true)(m:∀x,x∈l↔x∈k):l=k:=
 h.uniq ((BP (ji h a)<|ji h b).mpr m) (LZ h a) (LZ h b)
def rb{r q:xD}(a:ev r)(b:ev q)(c:∀w∈r,w∈q)(d:∀w∈q,w∈r):r=q:=xr bT a b λx=>⟨c x,d x⟩
def mz(s:xD):ev (uniq s):=li bT (Kb bT _)<|(JW strLt _).nodup_iff.mpr<|vl _ _<|aj _
theorem iT{a:Type}[Bh a]:∀{u v:Ab a},u.Nodup->(∀w∈u,w∈v)->u.length<=v.length
 | [],_,_,_=>ba _
 | x::u,v,nd,h=>by
  have J:=dL.mp nd;have b:=h x (be ..);have:=iT (u:=u) (v:=v.erase x) J.2 λw c=>(FG λe=>J.1 (by rw[<- e];exact c)).mpr<|h w<|bb _ c;rw[Ev b]at this;have:=Fa b;rw[bz]
  lia
def W_(s:xD):(uniq s).length<=s.length:=iT (ji bT<|mz s) λw a=>(kz s w).mp a
theorem MU{r q:xD}(b:ev r)(d:ev q)(c:∀w∈r,w∈q)(h:q.length<=r.length):r=q:=by
 refine rb b d c λw e=>?_;have f:=ji bT b
 apply BR
 intro g;have:=iT (u:=w::r) (v:=q) (dL.mpr ⟨g,f⟩) λx a=>by
  rcases aA.mp a with rfl | a
  .exact e
  .exact c x a
 rw[bz]at this
 lia
def Sv{R Q:xF}(hR:cE R)(J:cE Q)(h:∀x,Up R x↔Up Q x):R=Q:=by
 have c:∀{A B:xF},cE A->cE B->(∀x,Up A x↔Up B x)->∀r∈A,r∈B:=λ{A B} Y g h r a=>by
  obtain⟨q,b,d⟩:=(h r).mp ⟨r,a,λ_ z=>z⟩;obtain⟨i,O,f⟩:=(h q).mpr ⟨q,b,λ_ z=>z⟩;have e:=Y.anti i O r a λw j=>d w<|f w j;subst e;rw[rb (Y.norm _ a) (g.norm _ b) f d];exact b
 exact xr fZ hR.srt J.srt λx=>⟨c hR J h x,c J hR (λy=>(h y).symm) x⟩
structure nZ (U:xF) (szs:Ab Int) (i:Nat) (acc:xF):Prop where
 sub:∀u∈acc,u∈U/\(u.length:Int)∈szs.take i
 cov:∀u∈U,(u.length:Int)∈szs.take i->∃q∈acc,∀w∈q,w∈u
 anti:∀u∈acc,∀q∈acc,(∀w∈u,w∈q)->u=q
 nd:acc.Nodup
def lst(U acc:xF)(n:Int):Ab (Ab Str):=(eL U n).filter λu=> !decide (∃q∈acc,∀w∈q,w∈u)
def jN{U acc:xF}{n:Int}{u:xD}:u∈lst U acc n↔u∈U/\(u.length:Int)=n/\¬ ∃q∈acc,∀w∈q,w∈u:=by
 unfold lst eL;rw[cV,cV];simp[and_assoc]
theorem nZ.step{U:xF}{O:Ab Int}{acc:xF}{n:Int}(T:nZ U O i acc)(k:O.Pairwise λa b=>bB a b=true)(f:O[i]? =Aa n)(l:U.Nodup)(Y:∀u∈U,ev u):nZ U O (i+1) (acc++lst U acc n):=by
 have g:O.take (i+1)=O.take i++ [n]:=by rw[bx,f];rfl
 have less:∀m∈O.take i,m < n:=λm o=>by
  obtain⟨j,p,e⟩:=pG o;rw[bt]at p;obtain⟨Z,r⟩:=bR.mp f;have:=(gA.mp k) j i (by lia) Z (by lia);rw[k_]at e;rw[r,e]at this;exact AT this
 refine⟨λu J=>?_,λu J d=>?_,λu J q c h=>?_,?_⟩
 .rw[g];rcases aF.mp J with J | J
  .exact⟨(T.sub u J).1,aF.mpr<|.inl (T.sub u J).2⟩
  .obtain⟨h1,h2,_⟩:=jN.mp J;exact⟨h1,aF.mpr<|.inr (by rw[h2];simp)⟩
 .rw[g]at d;rcases aF.mp d with d | d
  .obtain⟨q,h1,h2⟩:=T.cov u J d;exact⟨q,aF.mpr<|.inl h1,h2⟩
  .have e:(u.length:Int)=n:=by simpa using d
   by_cases z:∃q∈acc,∀w∈q,w∈u
   .obtain⟨q,h1,h2⟩:=z;exact⟨q,aF.mpr<|.inl h1,h2⟩
   .exact⟨u,aF.mpr<|.inr<|jN.mpr ⟨J,e,z⟩,λ_ z=>z⟩
 .rcases aF.mp J with J | J
  .rcases aF.mp c with c | c
   .exact T.anti u J q c h
   .exact Au ⟨u,J,h⟩ (jN.mp c).2.2
  .obtain⟨u1,u2,_⟩:=jN.mp J;rcases aF.mp c with c | c
   .have l1:=less _ (T.sub q c).2;have:=iT (ji bT<|Y u u1) h
    lia
   .obtain⟨q1,q2,_⟩:=jN.mp c;exact MU (Y u u1) (Y q q1) h (by lia)
 .rw[me];refine⟨T.nd,(l.filter _).filter _,λa s b t e=>?_⟩;subst e;exact(jN.mp t).2.2 ⟨a,s,λ_ z=>z⟩
theorem Zy{acc:xF}{B:Nat}(h:∀q∈acc,q.length<=B):mu acc []<=1+acc.length*(B+2):=by
 unfold mu;have:∀acc:Ab (Ab Str),(∀q∈acc,q.length<=B)->(acc.map λq=>if [] <+:q++ [aT] then q.length+2 - ([]:xD).length else 0).sum<=acc.length*(B+2):=λacc=>by
  induction acc with
  | nil=>exact λ_=>ba _
  | cons q acc a=>
   intro h;have c:=h q (be ..);have d:=a λx b=>h x<|bb _ b;rw[au,eO,Ah Hj,bz,DM];have e:([]:xD).length=0:=rfl
   lia
 have:=this acc h
 lia
open Classical in
noncomputable def fX (H : Hp) (r : Ac) : Hp := fun b => if ∃ p, go H r p = Aa b then none else H b
def TL(H:Hp)(r:Ac):ag (fX H r) H:=λb o e=>by
 unfold fX at e;split at e
 .cases e
 .exact e
def Zt{r b:Ac}{p:xD}(h:go H r p=Aa b):fX H r b=none:=by
 unfold fX;exact Ah ⟨p,h⟩
variable{S:Ab Str->Prop}
def cs.other{c:Hp}{r b:Ac}{n:Nat}{o:HO}(T:cs c H r S n)(h:H b=Aa o)(d:∀a,o≠ .dK a):fX H r b=Aa o:=by
 unfold fX;rw[Ae]
 .exact h
 .rintro ⟨p,hp⟩;obtain⟨a,e⟩:=T.nodes.node p b hp;rw[h]at e;exact d a<|AO e
def cs.bas{a:Hp}{r:Ac}{n:Nat}(T:cs a H r S n):cs (fX H r) H r S n:=⟨T.nodes,T.dom,λ_ _ h=>Zt h,T.size,T.refs,T.nd⟩
def cs.back{r:Ac}{O:Ab Str->Prop}{n Y:Nat}(T:cs H1 H r S n)(c:ag H1 H)(d:ag (fX H r) H')(J:cs (fX H r) H' r O Y):cs H1 H' r O Y/\ag H1 H':=by
 have b:∀a o,H1 a=Aa o->fX H r a=Aa o:=λa o e=>by
  unfold fX;rw[Ae]
  .exact c _ _ e
  .rintro ⟨p,hp⟩;rw[T.new p a hp]at e;cases e
 refine⟨⟨J.nodes,J.dom,λp a h=>?_,J.size,J.refs,J.nd⟩,λa o e=>d _ _<|b a o e⟩;have:=J.new p a h;cases e:H1 a with
 | none=>rfl
 | some o=>
  rw[b a o e]at this;cases this
def Ro{r:Ac}(N:pR H r)(k:∀b a,H b=Aa (.dK a)->H' b=Aa (.dK a)):∀(y x:xD) (b:Ac),go H r x=Aa b->go H' b y=go H b y:=by
 intro y
 induction y with
 | nil=>exact λ_ _ _=>rfl
 | cons u h e=>
  intro x b d;obtain⟨f,J⟩:=N.node x b d;rw[cP<|k _ _ J,cP J];cases g:cq f u with
  | none=>rfl
  | some c=>
   refine e (x++ [u]) c ?_;rw[fv,d];show go H b [u]=Aa c;rw[cP J,g];rfl
def cs.keep{J:Hp}{r:Ac}{n:Nat}(T:cs J H r S n)(k:∀b h,H b=Aa (.dK h)->H' b=Aa (.dK h)):cs J H' r S n:=by
 have g:∀x,go H' r x=go H r x:=λx=>Ro T.nodes k x [] r rfl;have f:∀x b c,go H r x=Aa b->H' b=Aa (.dK c)->H b=Aa (.dK c):=λx b c a e=>by
  obtain⟨O,d⟩:=T.nodes.node x b a;rw[k _ _ d]at e;rw[d];exact e
 refine⟨⟨λx b a=>?_,λx y b i j=>?_⟩,λx=>?_,λx b a=>?_,λx b c a e=>?_,λx b c w v a e l=>?_,λx b c a e=>?_⟩
 .rw[g]at a;obtain⟨O,d⟩:=T.nodes.node x b a;exact⟨O,k _ _ d⟩
 .rw[g]at i j;exact T.nodes.inj x y b i j
 .rw[g];exact T.dom x
 .rw[g]at a;exact T.new x b a
 .rw[g]at a;exact T.size x b c a<|f x b c a e
 .rw[g]at a;exact T.refs x b c w v a (f x b c a e) l
 .rw[g]at a;exact T.nd x b c a<|f x b c a e
theorem mT{H:Hp}:∀{a:Ab V} {c:xF} {i:Nat} {x:V},cN H a c->a[i]? =Aa x->∃p b,c[i]? =Aa p/\x=JU b/\H b=Aa (.tup<|p.map JP)
 | _,_,i,x,.nil,h=>by simp at h
 | _,_,0,x,.cons ⟨b,e,d⟩ _,h=>by
  simp at h
  subst h;exact⟨_,b,zr,e,d⟩
 | _,_,i+1,x,.cons _ r,h=>by
  obtain⟨s,b,e,q⟩:=mT (i:=i) (x:=x) r (by simpa using h);exact⟨s,b,by simpa using e,q⟩
inductive Lx (K:xA) (b:Ab V) (H:Hp) (Q:VK) (e:XK):Prop
 | mk:∀(l:Ac) (c:Ab V) (a:xF),(b=[.ref l])->(aK K H l c)->(mI K H c a)->(a.length<=20000)->((∀s∈a,s.length<=30/\aT∉s))->(∀p d (R:xF) H',ag H H'->H p=none->H' p=Aa (.lst d)->cN H' d R->cE R->(∀x,Up R x↔Up a x)->Q (.ref p) H')->Lx K b H Q e
theorem vq(T:Txt K mg):bv P w K mg base 3 "thinned" ["sets"] (Lx K):=by
 refine T.Zx.ok jv (λY0 H Q Z0 h=>?_) λN1 O1 P1 Q1 s H Y0 Q Z0 W h=>?_
 .obtain⟨l,xs,ss,rfl,_⟩:=h;rfl
 .obtain⟨l,xs,ss,rfl,hl,A,l1,l2,k⟩:=h;refine⟨_,qH
   (ql (i:=1) jv.nd rfl (Ax rfl)<|qr (Rk T) W rfl<|ak<|pv 0)
   (ql (i:=2) jv.nd rfl (E2 rfl) iP)
   (ql (i:=3) jv.nd rfl (Ax rfl)<|qu ck)
   (cw AL rfl (cB K<|qp (Sl rfl K) rfl T.eG eH<|ak<|pv 1) (qk (i:=4) jv.nd rfl<|Ax rfl)<|em
   (LH (i:=5) jv.nd rfl rfl (N:=["words","smaller"]) (caps:=[none,Aa 2]) rfl (by with_unfolding_all rfl) (cB K<|iF (cL W) (pv 1) (pv 4) λ_ _=>rfl) (λ_ _ _ _ _=>qk (i:=0) (show (["words","smaller"]:xD).Nodup by decide+kernel) rfl<|Ax rfl) (λ_ _ _ _ _=>rZ<|el<|dX<|qr (Th T) W rfl<|aD (pv 1)<|pv 0) λ_ _ _ _ _=>pv 0)
   (cw AL rfl (cB K<|pv 5) (qk (i:=6) jv.nd rfl<|Ax rfl)<|qg<|cy<|qr (Ud T) W rfl<|aD (pv 2)<|pv 6)
   (cy<|fe eX qO oz oa (pv 3)<|ak<|pv 5))
   (qi<|qp (OK W.units K) rfl T.eG eH<|ak<|pv 3),?_⟩
  refine⟨_,zr,l,xs,ss,zr,hl,A,l1,λs F=>az (l2 s F).1 (by decide),λd f0 ns U H1 H0 R1 J0 g0 X K0 S1=>?_⟩;have L0:∀u∈U,ev u:=λu J=>by
   obtain⟨s,_,rfl⟩:=(X u).mp J;exact mz s
  have r0:∀u∈U,u.length<=30:=λu J=>by
   obtain⟨s,F,rfl⟩:=(X u).mp J;exact az (W_ s) (l2 s F).1
  have a1:∀u∈U,aT∉u:=λu J=>by
   obtain⟨s,F,rfl⟩:=(X u).mp J;exact λz=>(l2 s F).2 ((kz s _).mp z)
  intro r M0;have s0:=qc (o:=Kt []) M0;refine⟨by show 0<=sizeLine;decide,λq t0=>?_⟩;have h0:=qc (o:=JR []) t0;have T1:q≠r:=(qj qb t0).symm;have b1:H1 q=none:=s0.free t0;refine⟨_,zr,d,f0,ns,zr,h0 _ _<|s0 _ _ J0,g0.keys,λE u0=>?_⟩;have v0:=qc (o:=JR<|(JQ bB ns).map JN) u0;have U1:E≠r:=(qj (h0 _ _ qb) u0).symm;have c1:E≠q:=(qj qb u0).symm;have d1:(JQ bB ns).Pairwise λa b=>bB a b=true:=li gP (Kb gP _)<|(JW bB _).nodup_iff.mpr g0.nd;have N0:∀n,n∈JQ bB ns↔n∈ns:=λn=>(JW bB ns).mem_iff;have a0:upd (upd (upd H1 r<|.dK []) q<|.lst []) E (.lst<|(JQ bB ns).map JN) r=Aa (.dK []):=(h0.trans v0) _ _ qb;have e1:upd (upd (upd H1 r<|.dK []) q<|.lst []) E (.lst<|(JQ bB ns).map JN) q=Aa (.lst []):=v0 _ _ qb;have O0:upd (upd (upd H1 r<|.dK []) q<|.lst []) E (.lst<|(JQ bB ns).map JN) E=Aa (.lst<|(JQ bB ns).map JN):=qb;have f1:ag H1 (upd (upd (upd H1 r<|.dK []) q<|.lst []) E<|.lst<|(JQ bB ns).map JN):=s0.trans<|h0.trans v0;generalize upd (upd (upd H1 r<|.dK []) q<|.lst []) E (.lst<|(JQ bB ns).map JN)=P0 at*;generalize JQ bB ns=i0 at*;have h1:cs H1 P0 r (λp=>p=[]) 0:=by
   have g:∀p a,go P0 r p=Aa a->p=[]/\a=r:=λp a h=>by
    cases p with
    | nil=>exact⟨rfl,(AO h).symm⟩
    | cons w C=>
     rw[cP a0]at h;cases h
   refine⟨⟨λp a h=>?_,λp Z a f G=>?_⟩,λp=>⟨λ⟨a,h⟩=>(g p a h).1,λh=>⟨r,by rw[h];rfl⟩⟩,λp a h=>?_,λp a f0 h e=>?_,λp a f0 w v h e w0=>?_,λp a f0 h e=>?_⟩
   .rw[(g p a h).2];exact⟨[],a0⟩
   .rw[(g p a f).1,(g Z a G).1]
   .rw[(g p a h).2];exact M0
   .rw[(g p a h).2,a0]at e;cases e
    exact aj _
   .rw[(g p a h).2,a0]at e;cases e
    cases w0
   .rw[(g p a h).2,a0]at e;cases e
    exact⟨[],zr,dH⟩
  refine⟨E,rfl,⟨_,JO O0⟩,fo (xs:=i0.map JN) (λi I H'=>yN λ(v1:Ag V) (x0:Ag V) (j0:Ag V) (L:Ab V) (acc:xF) (S:Ab Str->Prop) (n:Nat)=>wN (I=[Aa<|.ref l,Aa<|.ref d,Aa<|.ref r,Aa<|.ref q,v1,x0,j0]) (ag H1 H') (H' q=Aa (.lst L)) (H' E=Aa (.lst<|i0.map JN)) (cN H1 L acc) (cs H1 H' r S n) (vA acc S) (n<=acc.length*31)<|nZ U i0 i acc)
   ⟨none,none,none,[],[],λp=>p=[],0,rfl,f1,e1,O0,.nil,h1,⟨λp=>by simp,λ_ z=>nomatch z⟩,ba _,⟨(λ_ z=>nomatch z),(λu J h=>by simp at h),(λ_ z=>nomatch z),dH⟩⟩ (λi I H' _ z=>by obtain⟨_,_,_,_,_,_,_,_,_,_,z,_⟩:=z;exact JO z) ?_ ?_⟩
  .rintro i x I H2 A ⟨v1,x0,j0,L,acc,S,n,rfl,s3,eq,es,hz,T2,hP,hn,TI⟩;rw[bF]at A;obtain⟨m,Q0,rfl⟩:=dq.mp A;have i1:m∈ns:=(N0 m).mp<|bJ Q0;obtain⟨c,k0,w0,l0,m0,_⟩:=g0.has m i1;have R0:∀u∈acc,u∈U:=λu J=>(TI.sub u J).1;have V1:acc.length<=U.length:=iT TI.nd R0;have y0:=TI.step d1 Q0 K0 L0;have j1:(acc++lst U acc m).length<=U.length:=iT y0.nd λu J=>(y0.sub u J).1;rw[aX]at j1;have k1:mu acc []<=900000:=by
    have:=Zy (acc:=acc) (B:=30) λu J=>r0 u<|R0 u J
    lia
   have m1:di H2 d (JN m) (Aa<|.ref c):=by
    rw[<- w0];exact Kn (k:=Bv m)<|s3 _ _ J0
   have n1:=Paired.length m0;refine⟨_,zr,_,zr,d,_,zr,m1,c,zr,⟨_,JO<|s3 _ _ l0⟩,λD z0=>?_⟩;have W1:H1 D=none:=s3.free z0;have X1:(eL U m).length<=U.length:=kQ _ _;refine dg k0.length (λj n0 H'=>(∃v,n0=[v,Aa<|.ref r])/\ag H2 H'/\∃C,H' D=Aa (.lst C)/\cN H1 C (((eL U m).take j).filter λu=> !decide (∃q∈acc,∀w∈q,w∈u))/\C.length<=j) ⟨⟨_,rfl⟩,qc z0,[],qb,.nil,aj _⟩ (λj n0 H' S0 p=>?_) (λn0 H' p=>⟨?_,?_⟩) λj n0 H' S0 p x o1 y=>?_
   .obtain⟨_,sm,_⟩:=p;exact⟨_,k0[j],JO<|sm _ _<|s3 _ _ l0,aH S0⟩
   .obtain⟨_,sm,_⟩:=p;exact⟨_,JO<|sm _ _<|s3 _ _ l0,aj _⟩
   .obtain⟨_,sm,C,eD,t,lw⟩:=p;rw[n1,bA]at t;have t:cN H1 C (lst U acc m):=t;have T0:C.length=(lst U acc m).length:=Paired.length t;have A0:=T2.keep (H':=H') λb b0 e=>sm _ _ e;refine⟨_,rfl,D,rfl,⟨_,JO eD⟩,fo (xs:=C) (λj I c0=>hI λ(v:Ag V) (R:Ab Str->Prop) (M:Nat)=>zz (I=[Aa<|.ref l,Aa<|.ref d,Aa<|.ref r,Aa<|.ref q,Aa<|.int m,Aa<|.ref D,v]) (ag H1 c0) (c0 q=Aa (.lst L)) (c0 E=Aa (.lst<|i0.map JN)) (c0 D=Aa (.lst C)) (cs H1 c0 r R M) (vA (acc++(lst U acc m).take j) R)<|M<=(acc.length+j)*31)
     ⟨j0,S,n,rfl,s3.trans sm,sm _ _ eq,sm _ _ es,eD,A0,by rw[Hn,dy];exact hP,hn⟩ (λj I H' _ z=>by obtain⟨_,_,_,_,_,_,_,z,_⟩:=z;exact JO z) ?_ ?_⟩
    .rintro j x I G1 A ⟨v,R,M,rfl,g1,gq,gs,gD,T4,Y,b4⟩;obtain⟨u,b,J,rfl,o0⟩:=mT t A;have p1:j < (lst U acc m).length:=(bR.mp J).1;have q1:u∈lst U acc m:=bJ J;obtain⟨p0,Y1,r1⟩:=jN.mp q1;have Z1:=r0 u p0;have s1:=g1 _ _ o0;have U0:(lst U acc m).take (j+1)=(lst U acc m).take j++ [u]:=by rw[bx,J];rfl
     have t1:(lst U acc m).Nodup:=(K0.filter _).filter _;refine⟨_,rfl,_,rfl,fX G1 r,r,b,u,R,M,rfl,T4.other s1 (λ_ z=>nomatch z),TL _ _,T4.bas,by lia,?_,λa2 u1 q0 w1 x1=>?_⟩
     .intro z;rcases (Y.dom _).mp z with z | ⟨Z,d0,y1⟩
      .simp at z
      .have e:=xv y1<|Y.ne Z d0;subst e;rcases aF.mp d0 with h | h
       .exact r1 ⟨u,h,λ_ z=>z⟩
       .obtain⟨j',c5,e'⟩:=pG h;rw[bt]at c5;rw[k_]at e';obtain⟨_,z1⟩:=bR.mp J;exact(gA.mp t1) j' j (by lia) p1 (by lia)<|e'.trans z1.symm
     .obtain⟨T6,g3⟩:=T4.back g1 q0 w1;have A1:M+u.length+1<=(acc.length+(j+1))*31:=by lia
      refine⟨_,u1,_,rfl,g3,q0 _ _<|T4.other gq (λ_ z=>nomatch z),q0 _ _<|T4.other gs (λ_ z=>nomatch z),q0 _ _<|T4.other gD (λ_ z=>nomatch z),T6,⟨λp=>?_,λZ d0=>?_⟩,A1⟩
      .rw[x1,Y.dom,U0]
       constructor
       .rintro ((h | ⟨Z,f,G⟩) | h)
        .exact .inl h
        .refine .inr ⟨Z,?_,G⟩;rw[<- dk];exact aF.mpr<|.inl f
        .exact .inr ⟨u,by simp,h⟩
       .rintro (h | ⟨Z,f,G⟩)
        .exact .inl<|.inl h
        .rw[<- dk]at f;rcases aF.mp f with f | f
         .exact .inl<|.inr ⟨Z,f,G⟩
         .rw[aM.mp f]at G;exact .inr G
      .rw[U0,<- dk]at d0;rcases aF.mp d0 with f | f
       .exact Y.ne Z f
       .rw[aM.mp f];exact a1 u p0
    .rintro I G1 ⟨v,R,M,rfl,g1,gq,gs,gD,T4,Y,b4⟩;rw[T0,bA]at Y;have b2:=Paired.length hz;refine⟨_,zr,.inl ⟨zr,_,JO gq⟩,_,zr,q,D,_,_,zr,zr,gq,gD,c_ (qz<|by lia),?_⟩;have I1:∀b b0,G1 b=Aa (.dK b0)->upd G1 q (.lst<|L++C) b=Aa (.dK b0):=λb b0 e=>by
      rw[qe (λz=>by rw[z,gq]at e;cases e)];exact e
     exact⟨_,_,_,_,acc++lst U acc m,R,M,rfl,g1.set b1,qb,by rw[qe c1];exact gs,paired_app hz t,T4.keep I1,Y,by rw[aX,<- T0];exact b4,y0⟩
   .obtain⟨⟨v,rfl⟩,sm,C,eD,t,lw⟩:=p;obtain⟨rfl,A⟩:=y;have J1:=A _<|JO<|sm _ _<|s3 _ _ l0;obtain⟨u,b,J,rfl,o0⟩:=mT m0 J1;have p0:u∈U:=(cV.mp<|bJ J).1;have V0:((eL U m).take<|j+1).filter (λu=> !decide (∃q∈acc,∀w∈q,w∈u))=((eL U m).take j).filter (λu=> !decide (∃q∈acc,∀w∈q,w∈u))++(if (!decide (∃q∈acc,∀w∈q,w∈u))=true then [u] else []):=by
     rw[bx,J,kj]
     congr 1
     show List.filter _ [u]=_;rw[jo,Fh]
    have A0:=T2.keep (H':=o1) λb b0 e=>sm _ _ e;refine⟨_,zr,_,zr,H1,r,b,u,acc,S,n,zr,sm _ _<|s3 _ _ o0,A0,by lia,az (r0 u p0) (by decide),hP,k1,λc2 O=>⟨_,zr,dP (λf=>?_) λf=>?_⟩⟩
    .refine⟨_,rfl,_,O _ _ eD,qz (by lia),⟨_,rfl⟩,(sm.trans O).set z0,_,qb,?_,by rw[aX];show _+1<=_;lia⟩;rw[V0,Ah f];exact paired_app t<|.cons ⟨b,zr,o0⟩ .nil
    .refine⟨⟨_,zr⟩,sm.trans O,C,O _ _ eD,?_,by lia⟩;rw[V0,Ae f,dy];exact t
  .rintro I H2 ⟨v1,x0,j0,L,acc,S,n,rfl,s3,eq,es,hz,T2,hP,hn,TI⟩;rw[ai]at TI;have K1:∀u∈U,∃q∈acc,∀w∈q,w∈u:=λu J=>TI.cov u J (by rw[bA,N0];exact g0.all u J);refine⟨_,zr,q,L,acc,zr,JO eq,gY (λb k0 e=>s3 b _ e) hz,λp W0 X0 L1=>?_⟩;have O:=qc (o:=JR W0) X0;have e0:∀x,x∈JQ bC acc↔x∈acc:=λx=>(JW bC acc).mem_iff;refine k p W0 (JQ bC acc) _ (H0.trans<|s3.trans O) (H0.free<|s3.free X0) qb (gY (λb k0 e=>O b _ e) L1) ⟨li fZ (Kb fZ _)<|(JW bC _).nodup_iff.mpr TI.nd,λx A=>L0 x (TI.sub x<|(e0 x).mp A).1,λx A y m0 h=>TI.anti x ((e0 x).mp A) y ((e0 y).mp m0) h⟩ λx=>?_
   constructor
   .rintro ⟨u,J,h⟩;obtain⟨s,F,rfl⟩:=(X u).mp (TI.sub u<|(e0 u).mp J).1;exact⟨s,F,λw t=>h w<|(kz s w).mpr t⟩
   .rintro ⟨s,F,h⟩;obtain⟨Z,f,G⟩:=K1 (uniq s)<|(X _).mpr ⟨s,F,rfl⟩;exact⟨Z,(e0 Z).mpr f,λw t=>h w<|(kz s w).mp<|G w t⟩
def jY(K:xA)(H:Hp)(a:Ab V)(C:xF):Prop:=Paired (λx s=>∃b,x=JU b/\aU K H b (s.map JP)) a C
theorem vh{K:xA}{H a:Hp}(k:∀b c,aU K H b c->aU K a b c):∀{d:Ab V} {C:xF},jY K H d C->jY K a d C
 | _,_,.nil=> .nil
 | _,_,.cons ⟨b,e,f⟩ h=> .cons ⟨b,e,k _ _ f⟩<|vh k h
theorem rR{K:xA}{H:Hp}:∀{a:Ab V} {C:xF},jY K H a C->mI K H a C
 | _,_,.nil=> .nil
 | _,_,.cons ⟨b,e,c⟩ h=> .cons ⟨b,e,.inr c⟩<|rR h
variable{zs:Ab V}
def pc{t b:Ac}{a xs:Ab V}(J:H t=Aa (.lst zs))(h:aU K H b xs):aU K (upd H t<|.lst a) b xs:=by
 rcases h with (h | ⟨o,h⟩) | h
 .exact .inl<|.inl (by rw[qe (λz=>by rw[z,J]at h;cases h)];exact h)
 .exact .inl<|.inr ⟨o,by rw[qe (λz=>by rw[z,J]at h;cases h)];exact h⟩
 .exact .inr h
def gt(A B:xF):Ab (Ab Str):=A.flatMap λa=>B.map λb=>a++b
def uG{A B:xF}{c:xD}:c∈gt A B↔∃a∈A,∃b∈B,c=a++b:=by
 unfold gt;rw[GR]
 constructor
 .rintro ⟨a,ha,h⟩;obtain⟨b,d,rfl⟩:=aE.mp h;exact⟨a,ha,b,d,zr⟩
 .rintro ⟨a,ha,b,d,rfl⟩;exact⟨a,ha,aE.mpr ⟨b,d,zr⟩⟩
theorem wR(A B:xF):(gt A B).length=A.length*B.length:=by
 unfold gt
 induction A with
 | nil=>simp
 | cons a A b=>
  rw[C3,aX,b,ai,bz,DM]
  lia
def VI(A B:xF)(a:xD):gt (A++ [a]) B=gt A B++B.map λb=>a++b:=by
 unfold gt;rw[vz];simp
def vB{A B:xF}{x:xD}:Up (gt A B) x↔Up A x/\Up B x:=by
 constructor
 .rintro ⟨c,hc,h⟩;obtain⟨a,e,b,f,rfl⟩:=uG.mp hc;exact⟨⟨a,e,λw d=>h w<|aF.mpr<|.inl d⟩,b,f,λw d=>h w<|aF.mpr<|.inr d⟩
 .rintro ⟨⟨a,e,h1⟩,b,f,h2⟩;exact⟨a++b,uG.mpr ⟨a,e,b,f,zr⟩,λw d=>(aF.mp d).elim (h1 w)<|h2 w⟩
inductive se (K:xA) (c:Ab V) (H:Hp) (Q:VK) (f:XK):Prop
 | mk:∀(a:Ac) (b:Ac) (d:Ab V) (e:Ab V) (A:xF) (B:xF),(c=[.ref a,.ref b])->(aK K H a d)->(aK K H b e)->(cN H d A)->(cN H e B)->(A.length*B.length<=20000)->(B.length<=20000)->((∀r∈A,r.length<=15/\aT∉r))->((∀r∈B,r.length<=15/\aT∉r))->(∀p zs (R:xF) H',ag H H'->H p=none->H' p=Aa (.lst zs)->cN H' zs R->cE R->(∀x,Up R x↔Up A x/\Up B x)->Q (.ref p) H')->se K c H Q f
theorem Vx(T:Txt K mg):bv P w K mg base 4 "agreed" ["one","other"] (se K):=by
 refine T.We.ok sB (λM H Q E h=>?_) λn0 o0 A p0 q0 H M Q E S h=>?_
 .obtain⟨a,b,xs,ys,A,B,rfl,_⟩:=h;rfl
 .obtain⟨a,b,xs,ys,FA,FB,rfl,ha,hb,hA,hB,lA,lB,oA,oB,k⟩:=h;have U:=Paired.length hA;have W:=Paired.length hB;refine⟨_,em
   (ql (i:=2) sB.nd rfl (Ax rfl)<|qu ck)
   (cw AL rfl (cB K<|pv 0) (qk (i:=3) sB.nd rfl<|E2 rfl)<|qg<|cy<|fe eX qO oz oa (pv 2)<|ak<|dU (N:=["more_words","words"]) (caps:=[none,Aa 3]) rfl (by with_unfolding_all rfl) (cB K<|pv 1) (λ_ _ _ _ _=>qk (i:=0) (show (["more_words","words"]:xD).Nodup by decide+kernel) rfl<|Ax rfl) (λ_ _ _ _ _=>d_) λ_ _ _ _ _=>qh (Xl K) (pv 1)<|pv 0)
   (qi<|qr (vq T) S rfl<|ak<|pv 2),?_⟩
  refine⟨by show 0<=sizeLine;decide,λt r=>?_⟩;have s:=qc (o:=JR []) r;refine⟨_,zr,a,zr,⟨_,s.seq ha⟩,fo (xs:=xs) (λi f H'=>ie λ(v:Ag V) (zs:Ab V)=>lG (f=[Aa<|.ref a,Aa<|.ref b,Aa<|.ref t,v]) (ag H H') (H' t=Aa (.lst zs))<|jY K H' zs<|gt (FA.take i) FB)
   ⟨none,[],rfl,s,qb,.nil⟩ (λi f H' _ z=>by obtain⟨_,_,_,z,_⟩:=z;exact z.seq ha) ?_ ?_⟩
  .rintro i x f H1 hx ⟨v,zs,rfl,s1,Y,hz⟩;obtain⟨m,X,O,rfl,a0⟩:=mT hA hx;have n:=Paired.length hz;rw[wR,bt]at n;have r0:i < FA.length:=(bR.mp O).1;have s0:zs.length<=20000:=by rw[n];exact az (lS (by lia)<|aj _) lA
   refine⟨_,zr,.inl ⟨zr,_,JO Y⟩,_,zr,b,zr,⟨_,s1.seq hb⟩,λD u=>?_⟩;refine dg ys.length (λj g H'=>(∃v,g=[v,Aa<|.ref X])/\ag H1 H'/\∃d,H' D=Aa (.lst d)/\(∀H2,(∀b xs,aU K H' b xs->aU K H2 b xs)->jY K H2 d ((FB.take j).map λb=>m++b))) ⟨⟨_,zr⟩,qc u,[],qb,λ_ _=> .nil⟩ (λj g H' C p=>?_) (λg H' p=>⟨?_,?_⟩) λj g H' C p x b0 y=>?_
   .obtain⟨_,sm,_⟩:=p;exact⟨_,ys[j],(s1.trans sm).seq hb,aH C⟩
   .obtain⟨_,sm,_⟩:=p;exact⟨_,(s1.trans sm).seq hb,aj _⟩
   .obtain⟨_,sm,d,eD,Z⟩:=p;have J:=Z H' λ_ _ z=>z;have q:=Paired.length J;rw[ai,bt]at q;rw[W,bA]at Z;refine⟨t,D,_,_,zr,zr,sm _ _ Y,eD,c_ (qz<|by lia),?_⟩;have c0:FA.take (i+1)=FA.take i++ [m]:=by rw[bx,O];rfl
    refine⟨_,zs++d,zr,(s1.trans sm).set r,qb,?_⟩;rw[c0,VI];exact paired_app (vh (λb xs h=>pc (sm _ _ Y)<|sm.seqT h) hz) (Z _ λb xs h=>pc (sm _ _ Y) h)
   .obtain⟨⟨v,rfl⟩,sm,d,eD,Z⟩:=p;obtain⟨rfl,d0⟩:=y;have e0:=d0 _<|(s1.trans sm).seq hb;obtain⟨f0,t0,F,rfl,g0⟩:=mT hB e0;have J:=Z b0 λ_ _ z=>z;have q:=Paired.length J;rw[ai,bt]at q;have G:=oA m<|bJ O;have I:=oB f0<|bJ F;refine⟨_,rfl,_,rfl,_,_,_,_,rfl,rfl,JT<|sm _ _<|s1 _ _ a0,JT<|sm _ _<|s1 _ _ g0,c_<|qz (by rw[ai,ai];lia),λp u0 e l=>?_⟩;rw[<- a_]at l;refine⟨_,e _ _ eD,qz (by lia),⟨_,zr⟩,(sm.trans e).set u,d++ [.ref p],qb,λh0 L=>?_⟩;rw[bx,F,a_];exact paired_app (Z h0 λb xs h=>L b xs<|pc (e _ _ eD)<|e.seqT h)<|.cons ⟨p,zr,L _ _<|pc (e _ _ eD) l⟩ .nil
  .rintro f H1 ⟨v,zs,rfl,s1,Y,hz⟩;rw[U,bA]at hz;have n:=Paired.length hz;refine⟨_,rfl,t,zs,gt FA FB,rfl,JO Y,rR hz,by rw[wR];exact lA,λc i0=>?_,λp d R H2 j0 l k0 hR l0 m0=>?_⟩
   .obtain⟨x,hx,y,hy,rfl⟩:=uG.mp i0;have G:=oA x hx;have I:=oB y hy;refine⟨by rw[aX];lia,λz=>?_⟩;rcases aF.mp z with z | z
    .exact G.2 z
    .exact I.2 z
   .exact k p d R H2 (s1.trans j0) (s1.free l) k0 hR l0 λx=>by rw[m0,vB]
def Uo{R A B:xF}(hR:cE R)(h:∀x,Up R x↔Up A x/\Up B x):∀r∈R,∃a∈A,∃b∈B,∀w∈r,w∈a\/ w∈b:=λr d=>by
 obtain⟨⟨a,f,i⟩,b,g,j⟩:=(h r).mp ⟨r,d,λ_ z=>z⟩;refine⟨a,f,b,g,?_⟩;obtain⟨q,k,J⟩:=(h<|a++b).mpr ⟨⟨a,f,λw c=>aF.mpr<|.inl c⟩,b,g,λw c=>aF.mpr<|.inr c⟩;have e:=hR.anti q k r d λw c=>(aF.mp<|J w c).elim (i w)<|j w;subst e;exact λw c=>aF.mp<|J w c
theorem uF:∀(W:xD) (R:xF),R.Nodup->(∀r∈R,ev r/\∀w∈r,w∈W)->R.length<=2^W.length
 | [],R,nd,h=>by
  have:∀r∈R,r=[]:=λr c=>by
   cases r with
   | nil=>rfl
   | cons w r=>exact Au ((h _ c).2 w (be ..)) (by simp)
  exact iT (v:=[[]]) nd λr c=>by rw[this r c];simp
 | x::W,R,nd,h=>by
  have e:R.length=(R.filter λr=>decide (x∈r)).length+(R.filter λr=> !decide (x∈r)).length:=by
   induction R with
   | nil=>rfl
   | cons r R j=>
    have:=j (dL.mp nd).2 λq f=>h q<|bb _ f;by_cases z:x∈r <;> simp[z] <;> lia
  have A:(R.filter λr=> !decide (x∈r)).length<=2^W.length:=uF W _ (nd.filter _) λr c=>by
   obtain⟨g,k⟩:=cV.mp c;refine⟨(h r g).1,λw d=>?_⟩;rcases aA.mp ((h r g).2 w d) with rfl | z
   .exact Au d (by simpa using k)
   .exact z
  have g:((R.filter λr=>decide (x∈r)).map λr=>r.filter λw=>decide (w≠x)).length<=2^W.length:=by
   refine uF W _ ?_ λq f=>?_
   .refine List.pairwise_map.mpr ((nd.filter _).imp_of_mem λ{a b} l m O e=>O ?_);obtain⟨n,o⟩:=cV.mp l;obtain⟨s,t⟩:=cV.mp m;have J:∀(p q:xD),x∈q->(p.filter λw=>decide (w≠x))=(q.filter λw=>decide (w≠x))->∀w∈p,w∈q:=λp q f e w d=>by
     by_cases z:w=x
     .rw[z];exact f
     .have:w∈p.filter λw=>decide (w≠x):=cV.mpr ⟨d,aS z⟩;rw[e]at this;exact(cV.mp this).1
    exact rb (h a n).1 (h b s).1 (J a b (AT t) e) (J b a (AT o) e.symm)
   .obtain⟨r,c,rfl⟩:=aE.mp f;obtain⟨i,_⟩:=cV.mp c;refine⟨List.Pairwise.filter _ (h r i).1,λw d=>?_⟩;obtain⟨u,y⟩:=cV.mp d;rcases aA.mp ((h r i).2 w u) with z | z
    .exact Au z<|AT y
    .exact z
  rw[ai]at g;rw[bz,Nat.pow_succ]
  lia
structure Of (n:Nat) (W:xD) (R:xF):Prop where
 top:n<=10
 few:W.length<=n
 ne:aT∉W
 sub:∀r∈R,∀w∈r,w∈W
theorem Of.len{n:Nat}{W:xD}{R:xF}(h:Of n W R){r:xD}(a:r∈R)(b:ev r):r.length<=10/\aT∉r:=
 ⟨by have:=iT (ji bT b)<|h.sub r a;have:=h.few;have:=h.top;lia,λz=>h.ne<|h.sub r a _ z⟩
def Of.card{n:Nat}{W:xD}{R:xF}(h:Of n W R)(a:cE R):R.length<=2^n:=by
 have c:=uF W R (ji fZ a.srt) λr b=>⟨a.norm r b,h.sub r b⟩;exact az c<|FH (by decide) h.few
def Of.cards{n:Nat}{W:xD}{R:xF}(h:Of n W R)(a:cE R):R.length<=1024:=
 az (h.card a) (az (FH (by decide) h.top)<|by decide)
def NA{R S:xF}(hR:cE R)(h:∀x,Up R x↔Up S x):∀r∈R,∃s∈S,∀w∈r,w∈s:=λr a=>by
 obtain⟨s,J,c⟩:=(h r).mp ⟨r,a,λ_ z=>z⟩;obtain⟨q,d,b⟩:=(h s).mpr ⟨s,J,λ_ z=>z⟩;have e:=hR.anti q d r a λw f=>c w<|b w f;subst e;exact⟨s,J,b⟩
def Of.agr{n:Nat}{W:xD}{A B C:xF}(a:Of n W A)(b:Of n W B)(c:cE C)(h:∀x,Up C x↔Up A x/\Up B x):Of n W C:=⟨a.top,a.few,a.ne,λr d w e=>by
 obtain⟨x,f,y,g,z⟩:=Uo c h r d;exact(z w e).elim (a.sub x f w)<|b.sub y g w⟩
def Of.thin{n:Nat}{W:xD}{A B C:xF}(a:Of n W A)(b:Of n W B)(d:cE C)(h:∀x,Up C x↔Up (A++B) x):Of n W C:=⟨a.top,a.few,a.ne,λr e w c=>by
 obtain⟨x,f,z⟩:=NA d h r e;exact(aF.mp f).elim (λq=>a.sub x q w<|z w c) λq=>b.sub x q w<|z w c⟩
theorem NW{K:xA}{H:Hp}:∀{zs:Ab V} {C:xF},cN H zs C->mI K H zs C
 | _,_,.nil=> .nil
 | _,_,.cons ⟨b,e,a⟩ h=> .cons ⟨b,e,.inr<|JT a⟩<|NW h
def dR(r:xD):AQ:= .tuple<|r.map .str
theorem zT{K:xA}{H:Hp}:∀{r:xD},(∀w∈r,AW w=true)->aW K H (r.map .str) (r.map JP)
 | [],_=> .nil
 | w::r,h=> .cons (.str w<|h w (be ..)) (zT λx a=>h x<|bb _ a)
theorem n_{K:xA}{H:Hp}:∀{zs:Ab V} {R:xF},cN H zs R->(∀r∈R,∀w∈r,AW w=true)->aW K H (R.map dR) zs
 | _,_,.nil,_=> .nil
 | _,_,.cons ⟨b,e,a⟩ t,h=>by
  rw[e];exact .cons (.tup (JT a)<|zT<|h _ (be ..)) (n_ t λr c=>h r<|bb _ c)
def Pf(r:xD):Az (r.map .str)=0:=by
 induction r with
 | nil=>rfl
 | cons x p a=>
  show max (DS<|.str x) (Az<|p.map .str)=0;rw[a];rfl
def rL(R:xF):Az (R.map dR)<=1:=by
 induction R with
 | nil=>exact ba _
 | cons r R a=>
  show max (DS<|dR r) (Az<|R.map dR)<=1;refine Nat.max_le.mpr ⟨?_,a⟩;show Az (r.map .str)+1<=1;rw[Pf];exact aj _
def jF(m:Int)(a:Ab Int):Ab Int:=(JQ bB a).take m.toNat
def sums(a b:Ab Int):Ab Int:=a.flatMap λx=>b.map λy=>x+y
def Rs(a b:Ab Int):(sums a b).length=a.length*b.length:=by
 unfold sums
 induction a with
 | nil=>simp
 | cons x a c=>rw[C3,aX,c,ai,bz,DM,IN]
def kD(a:Ab V){m:Int}(h:0<=m):bX a none (Aa m)=a.take m.toNat:=by
 obtain⟨n,rfl⟩:=jB h;unfold bX;rw[Kp,Km,B0];show a.take (min n a.length - 0)=a.take n;rw[EQ,<- Fq]
def lZ(a:xE)(H:Hp)(p:Ac)(m:Int):Prop:=∃b,H p=Aa (.ins (cA a "Bests") b [("most",.int m)])
def lZ.same{p:Ac}{m:Int}(h:lZ mg H p m)(s:ag H H'):lZ mg H' p m:=by
 obtain⟨a,e⟩:=h;exact⟨a,s _ _ e⟩
inductive xT (C:Ac) (a:Ab V) (H:Hp) (Q:VK) (c:XK):Prop
 | mk:∀(p:Ac) (b:Ac) (v:V),(a=[.ref p,v])->(H p=Aa (.ins C b []))->(Q .non (upd H p (.ins C b [("most",v)])))->xT C a H Q c
def yP(T:Txt K mg):ph P w K mg base 1 (cA mg "Bests") "many" (.int 3) (xT<|cA mg "Bests"):=by
 refine T.Qi.ok Zg (λa H Q E h=>?_) λf b A c s H a Q E d h=>?_
 .obtain⟨p,dx,v,rfl,_⟩:=h;rfl
 .obtain⟨p,dx,v,rfl,hp,q⟩:=h;exact⟨_,qg<|kI (pv 0) (pv 1) rfl,⟨_,rfl,_,rfl,p,_,dx,_,rfl,hp,T.iA,T.pH,(by show 0 < 1000;decide),q⟩⟩
inductive NO (a:xE) (c:Ab V) (H:Hp) (Q:VK) (e:XK):Prop
 | mk:∀(p:Ac) (b:Ac) (m:Int) (d:Ab Int),(c=[.ref p,.ref b])->(lZ a H p m)->(0<=m)->(H b=Aa (.lst (d.map JN)))->(∀l H',ag H H'->H l=none->H' l=Aa (.lst ((jF m d).map JN))->Q (.ref l) H')->NO a c H Q e
def sG(T:Txt K mg):bh P w K mg base 1 (cA mg "Bests") "least_ones" ["self","numbers"] (NO mg):=by
 refine T.Ug.ok PJ (λc H Q E h=>?_) λf e A g s H c Q E i h=>?_
 .obtain⟨p,b,m,ns,rfl,_⟩:=h;rfl
 .obtain⟨p,b,m,ns,rfl,⟨dx,hp⟩,m0,hb,q⟩:=h;refine⟨_,qg<|qi<|fE (gr K) (qp (rX K) rfl T.eG eH<|ak<|pv 1) fQ<|eM<|cD (pv 0) rfl,?_⟩;refine⟨_,zr,b,ns,zr,.inl<|JO hb,λl d=>?_⟩;have a:=qc (o:=JR<|(JQ bB ns).map JN) d;refine⟨_,zr,p,_,dx,_,_,zr,a _ _ hp,T.iA,T.pH,zr,_,zr,_,_,zr,JO qb,λl2 J=>?_⟩;rw[kD _ m0,<- CF];exact q l2 _ (a.trans<|qc J) (a.free J) qb
inductive yi (a:Ab V) (H:Hp) (Q:VK) (b:XK):Prop
 | mk:∀(p:Ac),(a=[.ref p])->(∀l,H l=none->Q (.ref l) (upd H l (.lst [])))->yi a H Q b
def SN(T:Txt K mg):bh P w K mg base 1 (cA mg "Bests") "nought" ["self"] yi:=by
 refine T.Wv.ok RY (λa H Q E h=>?_) λf b A c s H a Q E d h=>?_
 .obtain⟨p,rfl,_⟩:=h;rfl
 .obtain⟨p,rfl,q⟩:=h;exact⟨_,qg<|qi<|qu ck,⟨by decide,q⟩⟩
inductive xI (a:Ab V) (H:Hp) (Q:VK) (b:XK):Prop
 | mk:∀(p:Ac),(a=[.ref p])->(∀l,H l=none->Q (.ref l) (upd H l (.lst [.int 0])))->xI a H Q b
def RT(T:Txt K mg):bh P w K mg base 1 (cA mg "Bests") "unit" ["self"] xI:=by
 refine T.OE.ok XZ (λa H Q E h=>?_) λf b A c s H a Q E d h=>?_
 .obtain⟨p,rfl,_⟩:=h;rfl
 .obtain⟨p,rfl,q⟩:=h;exact⟨_,qg<|qi<|qu<|ak qd,⟨by show 1<=sizeLine;decide,q⟩⟩
inductive uz (e:xE) (g:Ab Int->Ab Int->Ab Int) (f:Ab V) (H:Hp) (Q:VK) (h:XK):Prop
 | mk:∀(p:Ac) (a:Ac) (b:Ac) (m:Int) (c:Ab Int) (d:Ab Int),(f=[.ref p,.ref a,.ref b])->(lZ e H p m)->(0<=m)->(H a=Aa (.lst (c.map JN)))->(H b=Aa (.lst (d.map JN)))->(c.length<=20)->(d.length<=20)->(∀l H',ag H H'->H l=none->H' l=Aa (.lst ((jF m (g c d)).map JN))->Q (.ref l) H')->uz e g f H Q h
theorem QP(T:Txt K mg):bh P w K mg base 2 (cA mg "Bests") "either" ["self","one","other"] (uz mg (· ++ ·)):=by
 refine T.YR.ok XO (λg H Q E h=>?_) λf t A u s H g Q E i h=>?_
 .obtain⟨p,a,b,m,xs,ys,rfl,_⟩:=h;rfl
 .obtain⟨p,a,b,m,xs,ys,rfl,hp,m0,ha,hb,lx,ly,q⟩:=h;refine⟨_,qg<|qi<|ig (sG T) T.iA i (pv 0)<|ak<|qh Ex (pv 1)<|pv 2,?_⟩;obtain⟨j,J⟩:=id hp;refine⟨_,rfl,p,j,_,rfl,J,rfl,_,rfl,_,rfl,a,b,_,_,rfl,rfl,ha,hb,by rw[ai,ai];exact c_ (cY<|by lia),λc k=>?_⟩;have d:=qc (o:=JR<|xs.map JN++ys.map JN) k;exact⟨p,c,m,xs++ys,zr,hp.same d,m0,by rw[qb,a_],λl H' n r e=>q l H' (d.trans n) (d.free r) e⟩
theorem RZ(T:Txt K mg):bh P w K mg base 2 (cA mg "Bests") "both" ["self","one","other"] (uz mg sums):=by
 refine T.Sq.ok rj (λt H Q E h=>?_) λf I A L s H t Q E u h=>?_
 .obtain⟨p,a,b,m,xs,ys,rfl,_⟩:=h;rfl
 .obtain⟨p,a,b,m,xs,ys,rfl,hp,m0,ha,hb,lx,ly,q⟩:=h;refine⟨_,em
   (ql (i:=3) rj.nd rfl (Ax rfl)<|qu ck)
   (cw AL rfl (cB K<|pv 1) (qk (i:=4) rj.nd rfl<|E2 rfl)<|qg<|cy<|fe eX qO oz oa (pv 3)<|ak<|dU (N:=["more","number"]) (caps:=[none,Aa 4]) rfl (by with_unfolding_all rfl) (cB K<|pv 2) (λ_ _ _ _ _=>qk (i:=0) (show (["more","number"]:xD).Nodup by decide+kernel) rfl<|Ax rfl) (λ_ _ _ _ _=>d_) λ_ _ _ _ _=>qh cI (pv 1)<|pv 0)
   (qi<|ig (sG T) T.iA u (pv 0)<|ak<|pv 3),?_⟩
  refine⟨by decide,λS j=>?_⟩;refine⟨_,rfl,a,rfl,⟨_,JO<|qc j _ _ ha⟩,fo (xs:=xs.map JN) (λi c H'=>∃(v:Ag V),lH (c=[Aa<|.ref p,Aa<|.ref a,Aa<|.ref b,Aa<|.ref S,v]) (ag H H')<|H' S=Aa (.lst<|(sums (xs.take i) ys).map JN)) ⟨none,rfl,qc j,qb⟩ (λi c H' _ z=>by obtain⟨_,_,z,_⟩:=z;exact JO<|z _ _ ha) ?_ ?_⟩
  .rintro i x c H' d ⟨v,rfl,s1,h1⟩;rw[bF]at d;obtain⟨n,O,rfl⟩:=dq.mp d;have M:i < xs.length:=(bR.mp O).1;have J:=s1 _ _ hb;refine⟨_,zr,.inl ⟨zr,_,JO h1⟩,_,zr,b,zr,⟨_,JO J⟩,λD k=>?_⟩;refine dg (ys.map JN).length (λi g G=>(∃v,g=[v,Aa<|.int n])/\ag H' G/\G D=Aa (.lst<|((ys.take i).map λy=>n+y).map JN)) ⟨⟨_,zr⟩,qc k,qb⟩ (λi g G o p=>?_) (λg G p=>⟨?_,?_⟩) λi g G o p x H2 y=>?_
   .obtain⟨_,sm,_⟩:=p;exact⟨_,_,JO<|sm _ _ J,aH o⟩
   .obtain⟨_,sm,_⟩:=p;exact⟨_,JO<|sm _ _ J,aj _⟩
   .obtain⟨_,sm,e⟩:=p;rw[ai,bA]at e;have R:(sums (xs.take i) ys).length<=400:=by
     rw[Rs,bt];exact lS (show min i xs.length<=20 by lia) ly
    refine⟨S,D,_,_,rfl,rfl,sm _ _ h1,e,by rw[ai,ai,ai];exact c_ (cY<|by lia),_,rfl,(s1.trans sm).set j,?_⟩;rw[qb,bx,O,<- a_]
    congr 3
    unfold sums;rw[vz];show _=_++List.flatMap _ [n];rw[C3,List.flatMap_nil,dy]
   .obtain⟨⟨v,rfl⟩,sm,e⟩:=p;obtain⟨rfl,d⟩:=y;have Z:=d _<|JO<|sm _ _ J;rw[bF]at Z;obtain⟨z,B,rfl⟩:=dq.mp Z;refine⟨_,zr,_,zr,_,_,zr,zr,?_⟩;refine⟨_,e,by rw[ai,ai,bt];exact cY (by lia),⟨_,rfl⟩,sm.set k,?_⟩;rw[qb,bx,B,a_,a_];rfl
  .rintro c H' ⟨v,rfl,s1,h1⟩;rw[ai,bA]at h1;obtain⟨r,Y⟩:=hp.same s1;exact⟨_,zr,p,r,_,zr,Y,zr,_,zr,p,S,m,sums xs ys,zr,⟨r,Y⟩,m0,h1,λl H2 C F e=>q l H2 (s1.trans C) (s1.free F) e⟩
inductive yJ (a:Ab V) (H:Hp) (Q:VK) (b:XK):Prop
 | mk:∀o,(a=[o])->(∀p,H p=none->Q (.ref p) (upd H p (.lst [])))->yJ a H Q b
def Ve(T:Txt K mg):bh P w K mg base 1 (cA mg "Hands") "nought" ["self"] yJ:=by
 refine T.UO.ok Ov (λa H Q E h=>?_) λf c A d s H a Q E e h=>?_
 .obtain⟨o,rfl,_⟩:=h;rfl
 .obtain⟨o,rfl,k⟩:=h;exact⟨_,qg<|qi<|qu ck,by show 0<=sizeLine;decide,λp b=>k p b⟩
inductive KD (a:Ab V) (H:Hp) (Q:VK) (b:XK):Prop
 | mk:∀o,(a=[o])->(∀p e H',ag H H'->H p=none->H' p=Aa (.lst [.ref e])->H' e=Aa (.tup [])->Q (.ref p) H')->KD a H Q b
def Rc(T:Txt K mg):bh P w K mg base 1 (cA mg "Hands") "unit" ["self"] KD:=by
 refine T.ZH.ok XN (λc H Q E h=>?_) λf g A i s H c Q E j h=>?_
 .obtain⟨o,rfl,_⟩:=h;rfl
 .obtain⟨o,rfl,k⟩:=h;refine⟨_,qg<|qi<|qu<|ak<|qy ck,by show 0<=sizeLine;decide,λe d=>⟨by show 1<=sizeLine;decide,λp a=>?_⟩⟩;have b:=qc (o:=JY []) d;have J:=qc (o:=JR [.ref e]) a;exact k p e _ (b.trans J) (b.free a) qb<|J _ _ qb
inductive KR (c:Ab V) (H:Hp) (Q:VK) (f:XK):Prop
 | mk:∀(o:V) (a:Ac) (b:Ac) (d:Ab V) (e:Ab V) (A:xF) (B:xF),(c=[o,.ref a,.ref b])->(H a=Aa (.lst d))->(H b=Aa (.lst e))->(cN H d A)->(cN H e B)->(A.length<=2000)->(B.length<=2000)->((∀r∈A,r.length<=15/\aT∉r))->((∀r∈B,r.length<=15/\aT∉r))->(∀p zs (R:xF) H',ag H H'->H p=none->H' p=Aa (.lst zs)->cN H' zs R->cE R->(∀x,Up R x↔Up (A++B) x)->Q (.ref p) H')->KR c H Q f
theorem YT(T:Txt K mg):bh P w K mg base 4 (cA mg "Hands") "either" ["self","one","other"] KR:=by
 refine T.Vu.ok Q_ (λj H Q E h=>?_) λf x A y s H j Q E g h=>?_
 .obtain⟨o,a,b,xs,d,A,B,rfl,_⟩:=h;rfl
 .obtain⟨o,a,b,xs,d,FA,FB,rfl,ha,hb,J,O,lA,lB,wA,wB,k⟩:=h;have l1:=Paired.length J;have l2:=Paired.length O;refine⟨_,qg<|qi<|qr (vq T) g rfl<|ak<|qh Ex (pv 1)<|pv 2,?_⟩;refine⟨_,zr,_,zr,a,b,_,_,zr,zr,ha,hb,c_ (qz<|by lia),λc l=>?_⟩;have i:=qc (o:=JR<|xs++d) l;refine⟨c,xs++d,FA++FB,rfl,JO qb,NW<|gY (λb d e=>i b _ e)<|paired_app J O,by rw[aX];lia,λr g=>?_,λp zs R H' m n q t u v=>k p zs R H' (i.trans m) (i.free n) q t u v⟩;have:=(aF.mp g).elim (wA r)<|wB r;exact⟨by lia,this.2⟩
inductive MK (K:xA) (a:Ab V) (H:Hp) (Q:VK) (E:XK):Prop
 | mk:∀o b,(a=o::b)->(se K b H Q E)->MK K a H Q E
def Wi(T:Txt K mg):bh P w K mg base 5 (cA mg "Hands") "both" ["self","one","other"] (MK K):=by
 refine T.RV.ok TU (λc H Q E h=>?_) λf e A g s H c Q E d h=>?_
 .obtain⟨o,ws,rfl,a,b,xs,ys,A,B,rfl,_⟩:=h;rfl
 .obtain⟨o,ws,rfl,a,b,xs,ys,FA,FB,rfl,h1,h2,h3,h4,h5,h6,h7,h8,h9⟩:=h;exact⟨_,qg<|qi<|qr (Vx T) d rfl<|aD (pv 1)<|pv 2,_,zr,_,zr,a,b,xs,ys,FA,FB,zr,h1,h2,h3,h4,h5,h6,h7,h8,h9⟩
def mC(F:xF):Ab (Ab Str):=(F.map uniq).filter λu=> !(F.map uniq).any λv=>decide ((∀w∈v,w∈u)/\v≠u)
def jR:Ab (Ab Str)->Ab (Ab Str)
 | []=>[]
 | x::l=>if x∈l then jR l else x::jR l
theorem pq{x:xD}:∀{l:xF},x∈jR l↔x∈l
 | []=>I0
 | y::l=>by
  unfold jR;split
  .rename_i h;rw[pq,aA];exact⟨.inr,λz=>z.elim (λe=>e ▸ h) id⟩
  .rw[aA,aA,pq]
theorem sA:∀l:Ab (Ab Str),(jR l).Nodup
 | []=>dH
 | y::l=>by
  unfold jR;split
  .exact sA l
  .rename_i h;exact dL.mpr ⟨λz=>h<|pq.mp z,sA l⟩
def gu(F:xF):Ab (Ab Str):=JQ bC<|jR<|mC F
def nq{F:xF}{r:xD}:r∈gu F↔r∈mC F:=by
 unfold gu;rw[(JW bC _).mem_iff,pq]
def mE{F:xF}{r:xD}:r∈mC F↔(∃f∈F,uniq f=r)/\∀f∈F,(∀w∈uniq f,w∈r)->uniq f=r:=by
 unfold mC;rw[cV,aE];refine and_congr I0 ?_
 constructor
 .intro h f J hw
  apply BR
  intro a;have:((F.map uniq).any λv=>decide ((∀w∈v,w∈r)/\v≠r))=true:=fN.mpr ⟨uniq f,aE.mpr ⟨f,J,rfl⟩,aS ⟨hw,a⟩⟩;rw[this]at h;cases h
 .intro h;have:((F.map uniq).any λv=>decide ((∀w∈v,w∈r)/\v≠r))=false:=by
   rw[Gh];intro v b;obtain⟨f,J,rfl⟩:=aE.mp b;intro z;have z:=AT z;exact z.2<|h f J z.1
  rw[this];rfl
def ln(F:xF):cE (gu F):=by
 refine⟨li fZ (Kb fZ _)<|(JW bC _).nodup_iff.mpr<|sA _,λr a=>?_,λr a q b h=>?_⟩
 .obtain⟨⟨f,_,rfl⟩,_⟩:=mE.mp<|nq.mp a;exact mz f
 .obtain⟨⟨f,hf,rfl⟩,_⟩:=mE.mp<|nq.mp a;exact(mE.mp<|nq.mp b).2 f hf h
theorem yE{F:xF}:∀(n:Nat) (f:xD),f∈F->(uniq f).length<=n->∃r∈mC F,∀w∈r,w∈uniq f
 | n,f,b,e=>by
  by_cases z:∀g∈F,(∀w∈uniq g,w∈uniq f)->uniq g=uniq f
  .exact⟨uniq f,mE.mpr ⟨⟨f,b,zr⟩,z⟩,λ_ z=>z⟩
  .obtain⟨g,z⟩:=Classical.not_forall.mp z;obtain⟨c,z⟩:=Classical.not_imp.mp z;obtain⟨a,J⟩:=Classical.not_imp.mp z;have i:(uniq g).length < (uniq f).length:=by
    apply BR
    intro q;exact J (MU (mz g) (mz f) a<|by lia)
   match n with
   | 0=>lia
   | n+1=>
    obtain⟨r,d,h⟩:=yE n g c (by lia);exact⟨r,d,λw q=>a w<|h w q⟩
def rp{F:xF}{x:xD}:Up (gu F) x↔Up F x:=by
 constructor
 .rintro ⟨r,a,h⟩;obtain⟨⟨f,J,rfl⟩,_⟩:=mE.mp<|nq.mp a;exact⟨f,J,λw b=>h w<|(kz f w).mpr b⟩
 .rintro ⟨f,J,h⟩;obtain⟨r,a,c⟩:=yE _ f J<|aj _;exact⟨r,nq.mpr a,λw b=>h w<|(kz f w).mp<|c w b⟩
def oY{A R:xF}(a:cE R)(h:∀x,Up R x↔Up A x):R=gu A:=Sv a (ln A) λx=>(h x).trans rp.symm
def strLt(x y:Str):AJ:=decide (x.cps.toList < y.cps.toList)
def kg:af->af->AJ
 | .inl i,.inl j=>decide (i < j)
 | .inl _,.inr _=>true
 | .inr _,.inl _=>false
 | .inr x,.inr y=>strLt x y
def r_:af->Ab V
 | .inl i=>[.int 0,.int i,.str ""]
 | .inr z=>[.int 1,.int 0,.str z]
def yK:af->Ab AQ
 | .inl i=>[.int 0,.int i,.str ""]
 | .inr z=>[.int 1,.int 0,.str z]
def da(k:af):AQ:= .tuple<|yK k
def gb:af->AQ
 | .inl i=> .int i
 | .inr z=> .str z
def mG:af->Prop
 | .inl _=>Ez
 | .inr z=>Wz 40 z
def uY:∀{k:af},mG k->ay K H (gb k) (kV k)
 | .inl i,_=> .int i
 | .inr z,h=> .str z<|Wz.ok (n:=40) h
def YC:∀{k:af},mG k->aW K H (yK k) (r_ k)
 | .inl i,_=> .cons (.int 0)<|.cons (.int i)<|.cons (.str ""<|by decide+kernel) .nil
 | .inr z,h=> .cons (.int 1)<|.cons (.int 0)<|.cons (.str z<|Wz.ok (n:=40) h) .nil
def Wu(k:af):(da k).depth=1:=by cases k <;> rfl
def h_(a b:Int):AC (.int a) (.int b)=decide (a=b):=by
 show (a==b)=_;by_cases h:a=b <;> simp[h]
def QR:∀a b:af,cz (da a) (da b)=Aa (kg a b)
 | .inl i,.inl j=>by
  show aL [.int 0,.int i,.str ""] [.int 0,.int j,.str ""]=_;rw[aL,Ah (by decide),aL,h_];by_cases h:i=j
  .subst h;rw[Ah (by simp),aL,Ah (by decide),aL];simp[kg]
  .rw[Ae (by simpa using h),cz];rfl
 | .inl i,.inr y=>by
  show aL [.int 0,.int i,.str ""] [.int 1,.int 0,.str y]=_;rw[aL,Ae (by decide),cz];rfl
 | .inr x,.inl j=>by
  show aL [.int 1,.int 0,.str x] [.int 0,.int j,.str ""]=_;rw[aL,Ae (by decide),cz];rfl
 | .inr x,.inr y=>by
  show aL [.int 1,.int 0,.str x] [.int 1,.int 0,.str y]=_;rw[aL,Ah (by decide),aL,Ah (by decide),aL,jq];by_cases h:x=y
  .subst h;rw[Ah (by simp),aL];simp[kg,strLt,List.lt_irrefl]
  .rw[Ae (by simpa using h),cz];rfl
inductive yc (a:Ab V) (H:Hp) (Q:VK) (b:XK):Prop
 | mk:∀(k:af),(a=[kV k])->(mG k)->(∀p,H p=none->Q (.ref p) (upd H p (.tup (r_ k))))->yc a H Q b
def Og(T:Txt K mg):bv P w K mg base 2 "value_key" ["value"] yc:=by
 refine T.Py.ok WJ (λb H Q E h=>?_) λf d A e s H b Q E c h=>?_
 .obtain⟨k,rfl,_⟩:=h;rfl
 .obtain⟨k,rfl,hk,q⟩:=h;refine⟨_,eg
   (bQ (dX<|qr (zg T) c rfl<|ak<|pv 0) (qg<|qi<|qy<|cZ qd (pv 0) gx) ci)
   (qi<|qy<|cZ qd qd<|pv 0),?_⟩
  refine⟨_,zr,_,gb k,zr,uY hk,_,zr,?_⟩;cases k with
  | inl i=>
   refine gy ?_;exact⟨_,rfl,by show 3<=sizeLine;decide,λp a=>q p a⟩
  | inr z=>
   refine eK ?_;exact⟨_,rfl,by show 3<=sizeLine;decide,λp a=>q p a⟩
def ee:Str:="abcdefghijklmnopqrstuvwxyz"
theorem Ry{F z:Str}{c:Nat}{r:Ab Nat}(e:z.cps.toList=c::r)(h:r.length<=11)(a:c∈F.cps.toList)(b:∀d∈r,d∈bw.cps.toList):bS F z=true:=by
 have f:=fk z;rw[e,bz]at f;rw[qQ (by lia) (by lia),e];show (decide (c∈F.cps.toList)&&r.all λd=>decide (d∈bw.cps.toList))=true;rw[aS a,kC,eh];exact λd g=>aS<|b d g
def RJ:∀c∈ee.cps.toList,c < 0x110000:=by decide+kernel
def kO{F z:Str}(h:bS F z=true):1<=z.length/\z.length<=12/\∃c r,z.cps.toList=c::r/\c∈F.cps.toList/\∀d∈r,d∈bw.cps.toList:=by
 by_cases a:1<=z.length/\z.length<=12
 .obtain⟨c,r,e⟩:=MP a.1;rw[qQ a.1 a.2,e]at h;have b:(decide (c∈F.cps.toList)&&r.all λd=>decide (d∈bw.cps.toList))=true:=h;rw[ir,eh]at b;exact⟨a.1,a.2,c,r,e,AT b.1,λd f=>AT<|b.2 d f⟩
 .rw[sr a]at h;cases h
def YK{F z:Str}(b:∀c∈F.cps.toList,c < 0x110000)(h:bS F z=true):AW z=true:=by
 obtain⟨_,_,c,r,e,f,g⟩:=kO h;refine vS λd a=>?_;rw[e]at a;rcases aA.mp a with rfl | a
 .exact b _ f
 .exact Nr d<|g d a
def ej:af->Prop
 | .inl _=>Ez
 | .inr z=>bS ee z=true
def ej.tx:∀{k:af},ej k->YI k
 | .inl _,_=>Ay
 | .inr z,h=>⟨az (kO h).2.1 (by decide),YK RJ h⟩
def gS(F z:Str)(i:Nat):Prop:=(i=0/\z="")\/ ∃c r,z.cps.toList=c::r/\r.length+1=i/\c∈F.cps.toList/\∀d∈r,d∈bw.cps.toList
def gS.one{F:Str}{c:Nat}(h:c∈F.cps.toList):gS F ⟨#[c]⟩ 1:= .inr ⟨c,[],rfl,rfl,h,λ_ z=>nomatch z⟩
theorem gS.more{F z:Str}{d:Nat}(h:gS F z i)(b:i≠0)(f:d∈bw.cps.toList):gS F (z++⟨#[d]⟩) (i+1):=by
 rcases h with ⟨e,_⟩ | ⟨c,r,e,k,g,j⟩
 .exact Au e b
 .refine .inr ⟨c,r++ [d],by rw[lD,e];rfl,by rw[aX];show r.length+1+1=_;lia,g,λx a=>?_⟩;rcases aF.mp a with a | a
  .exact j x a
  .rw[aM.mp a];exact f
def gS.len{F z:Str}(h:gS F z i):z.length=i:=by
 rcases h with ⟨rfl,rfl⟩ | ⟨c,r,e,a,_⟩
 .rfl
 .rw[<- fk,e,bz,a]
def zB:∀c∈ee.cps.toList,c∈bw.cps.toList:=by decide+kernel
def ej.ok:∀{k:af},ej k->mG k
 | .inl _,_=>Ay
 | .inr z,h=>by
  obtain⟨i,b,c,r,e,f,g⟩:=kO h;refine⟨az b (by decide),λd a=>?_⟩;rw[e]at a;rcases aA.mp a with rfl | a
  .exact zB _ f
  .exact g d a
def LS:∀a b:af,AC (da a) (da b)=decide (a=b)
 | .inl i,.inl j=>by
  show (AC (.int 0) (.int 0)&&(AC (.int i) (.int j)&&(AC (.str "") (.str "")&&true)))=_;rw[h_,h_,jq];by_cases h:i=j <;> simp[h]
 | .inl i,.inr y=>by
  show (AC (.int 0) (.int 1)&&(AC (.int i) (.int 0)&&(AC (.str "") (.str y)&&true)))=_;rw[h_];simp
 | .inr x,.inl j=>by
  show (AC (.int 1) (.int 0)&&(AC (.int 0) (.int j)&&(AC (.str x) (.str "")&&true)))=_;rw[h_];simp
 | .inr x,.inr y=>by
  show (AC (.int 1) (.int 1)&&(AC (.int 0) (.int 0)&&(AC (.str x) (.str y)&&true)))=_;rw[h_,h_,jq];by_cases h:x=y <;> simp[h]
def jZ(a b:Ab af):AJ:=Kf kg a b
theorem zv:∀a b:Ab af,aL (a.map da) (b.map da)=Aa (jZ a b)
 | [],[]=>by rw[bP,aL];rfl
 | [],_::_=>by rw[bP,au,aL];rfl
 | _::_,[]=>by rw[bP,au,aL];rfl
 | x::a,y::b=>by
  rw[au,au,aL,LS,jZ,Kf];by_cases h:x=y
  .subst h;rw[Ah (by simp),Ah rfl];exact zv a b
  .rw[Ae (by simpa using h),Ae h];exact QR x y
def UN(a:Ab af):Az (a.map da)<=1:=by
 induction a with
 | nil=>exact ba _
 | cons k a b=>exact Nat.max_le.mpr ⟨B9<|Wu k,b⟩
inductive KS (K:xA) (c:Ab V) (H:Hp) (Q:VK) (e:XK):Prop
 | mk:∀(a:Ac) (b:Ab af),(c=[.ref a])->(aU K H a (b.map kV))->((∀k∈b,mG k))->(b.length<=100)->(∀p d H',ag H H'->H' p=Aa (.tup d)->aW K H' (b.map da) d->Q (.ref p) H')->KS K c H Q e
theorem SY(T:Txt K mg):bv P w K mg base 3 "row_key" ["row"] (KS K):=by
 refine T.Yb.ok YG (λt H Q E h=>?_) λf I A L s H t Q E u h=>?_
 .obtain⟨a,ks,rfl,_⟩:=h;rfl
 .obtain⟨a,ks,rfl,ht,hok,hl,k⟩:=h;refine⟨_,(qg<|qi<|eT (lM K) rfl T.kE ke<|ak<|dU (N:=["value"]) (caps:=[none]) rfl (by with_unfolding_all rfl) (iG K<|pv 0) (λ_ _ _ _ _=>qk (i:=0) (show (["value"]:xD).Nodup by decide+kernel) rfl<|Ax rfl) (λ_ _ _ _ _=>d_) λ_ _ _ _ _=>qr (Og T) u rfl<|ak<|pv 0),?_⟩;refine⟨_,zr,a,zr,⟨_,ht⟩,λD m=>?_⟩;refine dg (ks.map kV).length (λi d H'=>(∃v,d=[v])/\ag H H'/\∃J,H' D=Aa (.lst J)/\∀H2,(∀b o,b≠D->H' b=Aa o->H2 b=Aa o)->aW K H2 ((ks.take i).map da) J) ⟨⟨_,zr⟩,qc m,[],qb,λ_ _=> .nil⟩ (λi d H' n p=>?_) (λd H' p=>⟨?_,?_⟩) λi d H' n p x H2 y=>?_
  .obtain⟨_,sm,_⟩:=p;exact⟨_,(ks.map kV)[i],sm.seqT ht,aH n⟩
  .obtain⟨_,sm,_⟩:=p;exact⟨_,sm.seqT ht,aj _⟩
  .obtain⟨_,sm,J,e,hd⟩:=p;rw[ai,bA]at hd;refine⟨_,_,zr,.inl ⟨JO e,λq c=>?_⟩⟩;have O:=qc (o:=JY J) c;exact k q J _ (sm.trans O) qb (hd _ λb o _ g=>O b o g)
  .obtain⟨⟨v,rfl⟩,sm,J,e,hd⟩:=p;obtain⟨rfl,B⟩:=y;have Z:=B _<|sm.seqT ht;rw[bF]at Z;obtain⟨j,l,rfl⟩:=dq.mp Z;have C:J.length=min i ks.length:=by
    rw[<- kJ (hd _ λb o _ h=>h),ai,bt]
   refine⟨_,zr,j,zr,hok j<|bJ l,λq c=>?_⟩;have O:=qc (o:=JY<|r_ j) c;have Y:q≠D:=λz=>by
    rw[z,e]at c;cases c
   refine⟨_,O _ _ e,by rw[C];exact cY (by lia),⟨_,rfl⟩,(sm.trans O).set m,J++ [.ref q],qb,λF r=>?_⟩;rw[bx,l,a_];refine uU (hd F λb o g G=>r b o g ?_)<|.tup (JT (r q _ Y<|by rw[qe Y,qb]))<|YC<|hok j<|bJ l;rw[qe g];exact O b o G
def Si:Kc kg:=by
 have J:Kc strLt:=bT;refine⟨λa=>?_,λa b c e d=>?_,λa b e d=>?_⟩
 .cases a with
  | inl i=>exact aN<|Int.lt_irrefl i
  | inr z=>exact J.irr z
 .cases a with
  | inl i=>
   cases c with
   | inr z=>rfl
   | inl k=>
    cases b with
    | inr y=>cases d
    | inl j=>exact Tim.ul.tr i j k e d
  | inr x=>
   cases b with
   | inl j=>cases e
   | inr y=>
    cases c with
    | inl k=>cases d
    | inr z=>exact J.tr x y z e d
 .cases a with
  | inl i=>
   cases b with
   | inl j=>exact Ba Bv<|Tim.ul.tri i j e d
   | inr y=>cases e
  | inr x=>
   cases b with
   | inl j=>cases d
   | inr y=>exact Ba Aj<|J.tri x y e d
def nL:Kc jZ:=Si.lex
def Zm(a b:af):AC (da a) (da b)=decide (a=b):=LS a b
theorem Nt:∀a b:Ab af,AE (a.map da) (b.map da)=decide (a=b)
 | [],[]=>by rw[bP,AE];rfl
 | [],_::_=>by rw[bP,au,AE];rfl
 | _::_,[]=>by rw[bP,au,AE];rfl
 | x::p,y::q=>by
  rw[au,au,AE,Zm,Nt p q];by_cases c:x=y
  .by_cases h2:p=q
   .rw[aS c,aS h2,aS<|by rw[c,h2]];rfl
   .rw[aS c,aN h2,aN λe=>h2 (CD e).2];rfl
  .rw[aN c,aN λe=>c (CD e).1];rfl
def aO(a b:PR):AJ:=if a.1=b.1 then jZ a.2 b.2 else strLt a.1 b.1
def jI:Kc aO:=by
 have O:Kc strLt:=bT;refine⟨λa=>?_,λa b c f d=>?_,λa b f d=>?_⟩
 .unfold aO;rw[Ah rfl];exact nL.irr _
 .unfold aO at f d ⊢;by_cases e:a.1=b.1
  .rw[Ah e]at f;by_cases g:b.1=c.1
   .rw[Ah g]at d;rw[Ah<|e.trans g];exact nL.tr _ _ _ f d
   .rw[Ae g]at d;rw[Ae λz=>g<|e.symm.trans z,e];exact d
  .rw[Ae e]at f;by_cases g:b.1=c.1
   .rw[Ah g]at d;rw[Ae λz=>e<|z.trans g.symm,<- g];exact f
   .rw[Ae g]at d;have J:=O.tr _ _ _ f d;rw[Ae (λz=>by rw[z,O.irr]at J;cases J)];exact J
 .unfold aO at f d;by_cases e:a.1=b.1
  .rw[Ah e]at f;rw[Ah e.symm]at d;exact Prod.ext e<|nL.tri _ _ f d
  .rw[Ae e]at f;rw[Ae λz=>e z.symm]at d;exact Au (O.tri _ _ f d) e
def mc(p:PR):AQ:= .tuple [.str p.1,.tuple<|p.2.map da]
def TW(a b:PR):cz (mc a) (mc b)=Aa (aO a b):=by
 show aL [.str a.1,.tuple<|a.2.map da] [.str b.1,.tuple<|b.2.map da]=Aa (aO a b);rw[aL,jq];unfold aO;by_cases e:a.1=b.1
 .rw[Ah<|aS e,Ah e,aL];have d:AC (.tuple<|a.2.map da) (.tuple<|b.2.map da)=decide (a.2=b.2):=by
   rw[AC];exact Nt a.2 b.2
  rw[d];by_cases c:a.2=b.2
  .rw[Ah<|aS c,aL,c];rw[nL.irr]
  .rw[Ae (by rw[aN c];exact aY),cz];exact zv a.2 b.2
 .rw[Ae (by rw[aN e];exact aY),Ae e,cz];rfl
theorem VD(p:PR):(mc p).depth<=3:=by
 have:=UN p.2;show max 0 (max (Az (p.2.map da)+1) 0)+1<=3
 lia
def fV(p:PR):Prop:=bS ee p.1=true/\p.2.length<=4/\∀k∈p.2,ej k
theorem Mw{H:Hp}:∀{b:Ab af} {a:Ab V},bu H (b.map Kq) a->a=b.map kV
 | [],a,h=>by
  rw[bP,bu]at h;exact h
 | u::b,a,h=>by
  rw[au,bu]at h;obtain⟨v,e,rfl,c,d⟩:=h;rw[ax]at c;rw[c,Mw d];rfl
theorem LY{H:Hp}:∀a:Ab af,bu H (a.map Kq)<|a.map kV
 | []=>by rw[bP,bu];rfl
 | u::a=>by
  rw[au,bu];exact⟨kV u,a.map kV,zr,by rw[ax],LY a⟩
def fI{p:PR}{b:Ac}:ax H (pN p) (.ref b)↔∃q,H b=Aa (.tup [.str p.1,.ref q])/\H q=Aa (.tup<|p.2.map kV):=by
 unfold pN;rw[ax]
 constructor
 .rintro ⟨a,vs,e,h1,h2⟩;injection e with e;subst e;rw[bu]at h2;obtain⟨v,f,rfl,J,O⟩:=h2;rw[ax]at J;rw[bu]at O;obtain⟨g,h,rfl,Y,Z⟩:=O;rw[bu]at Z;rw[ax]at Y;obtain⟨q,i,rfl,c,d⟩:=Y;rw[Mw d]at c;subst J Z;exact⟨q,h1,c⟩
 .rintro ⟨q,h1,h2⟩;refine⟨b,_,zr,h1,?_⟩;rw[bu];refine⟨_,_,rfl,by rw[ax];rfl,?_⟩;rw[bu];refine⟨_,_,zr,?_,by rw[bu]⟩;rw[ax];exact⟨q,_,zr,h2,LY p.2⟩
inductive K_ (K:xA) (a:Ab V) (H:Hp) (Q:VK) (c:XK):Prop
 | mk:∀(b:Ac) (p:PR),(a=[.ref b])->(ax H (pN p) (.ref b))->(fV p)->(∀v H',ag H H'->ay K H' (mc p) v->Q v H')->K_ K a H Q c
theorem QO(T:Txt K mg):bv P w K mg base 4 "pair_key" ["pair"] (K_ K):=by
 refine T.Yp.ok Sh (λc H Q E h=>?_) λf t A v s H c Q E d h=>?_
 .obtain⟨b,p,rfl,_⟩:=h;rfl
 .obtain⟨b,p,rfl,hb,g,k⟩:=h;obtain⟨q,a,e⟩:=fI.mp hb;have y:=g.2.1;refine⟨_,(qg<|qi<|qy<|aD (bg (ec K) (pv 0) qd λ_ _=>rfl)<|qr (SY T) d rfl<|ak<|bg (ec K) (pv 0) qd λ_ _=>rfl),?_⟩;refine⟨_,zr,_,_,_,_,zr,zr,JT a,cv (j:=0) rfl,?_⟩;refine⟨_,zr,_,_,_,_,zr,zr,JT a,cv (j:=1) rfl,q,p.2,zr,JT e,λu i=>(g.2.2 u i).ok,by lia,λr z H1 l J m=>?_⟩;refine⟨by show 2<=sizeLine;decide,λx n=>?_⟩;have O:=qc (o:=JY [JP p.1,.ref r]) n;exact k _ _ (l.trans O)<|.tup (JT qb)<|.cons (.str _ (ej.tx (k:= .inr p.1) g.1).2)<|.cons (.tup (JT<|O _ _ J)<|aW.same O _ _ m) .nil
inductive zA (P:Ai) (w:Al) (c:Ab V) (H:Hp) (Q:VK) (e:XK):Prop
 | mk:∀(d:Ac) (a:Ab (PR×V)),(c=[.ref d])->(DP P w H d a)->((∀p∈a.map (·.1),fV p))->(∀l zs H',ag H H'->H l=none->H' l=Aa (.lst zs)->Paired (λx p=>∃b,x=JU b/\ax H (pN p) (.ref b)) zs (JQ aO (a.map (·.1)))->Q (.ref l) H')->zA P w c H Q e
def Lc(T:Txt K mg):bv P w K mg base 7 "pairs_in_order" ["pairs"] (zA P w):=by
 refine T.PD.ok UD (λc H Q E h=>?_) λf p A q s H c Q E e h=>?_
 .obtain⟨d,kvs,rfl,_⟩:=h;rfl
 .obtain⟨d,kvs,rfl,hd,gp,k⟩:=h;refine⟨_,qg<|qi<|sL P w K (QO T) e rfl rfl T.eG eH rfl<|ak<|pv 0,?_⟩;refine⟨_,zr,d,kvs,mc,aO,zr,hd,jI,λa _ b _=>TW a b,λa _=>⟨⟨_,_,zr⟩,az (VD a)<|by decide⟩,λa g b H2 R J i j=>⟨b,a,zr,i,gp a g,j⟩,λl zs H2 J m n o=>?_⟩;exact k l zs _ (J.trans<|qc n) m qb o
theorem MT{f:Str}{v:V}:∀{b:Ab (Str×V)} (a:xD),b.map (·.1)=a->a.contains f=false->dI f v b=b++ [(f,v)]
  | [],_,_,_=>rfl
  | (g,x)::r,[],e,_=>nomatch e
  | (g,x)::r,n::a,e,h=>by
    injection e with c d;have c:g=n:=c;rw[List.contains_cons,Bool.or_eq_false_iff]at h;have i:¬ g=f:=λz=>by
      rw[<- c,z]at h;simp at h
    show (if g=f then (g,v)::r else (g,x)::dI f v r)=_;rw[Ae i,MT a d h.2];rfl
def lL{J:Hp}{p C c:Ac}{b:Ab (Str×V)}{f:Str}{y:V}{D:L2.dJ}{g:L2.St}(d:xD)(i:ag J H1)(O:J p=none)(j:H1 p=Aa (.ins C c b))(k:cU K C)(l:en K C f)(m:b.length < 1000)(e:b.map (·.1)=d)(q:d.contains f=false)
  (h:∀H2,ag J H2->H2 p=Aa (.ins C c<|b++ [(f,y)])->(∀a o,a≠p->H1 a=Aa o->H2 a=Aa o)->D.nx g H2):
  tL K f D g y (.ref p) H1:=
 ⟨p,C,c,b,rfl,j,k,l,m,h _ (i.set O) (by rw[qb,MT d e q]) λa o n z=>by rw[qe n];exact z⟩
def Mt(l:Ab Int):Prop:=l.Pairwise λa b=>bB b a=false
inductive Wo where
 | nums (l:Ab Int) | acc (R:xF)
inductive Kd where
 | bests (m:Int) | hands
def Kd.ok:Kd->Prop
 | .bests m=>1<=m/\m<=9
 | _=>Ez
structure HOk (W:xD):Prop where
 few:W.length<=7
 ne:aT∉W
 ok:∀w∈W,AW w=true
 tx:∀w∈W,bS dS w=true
inductive bo (W:xD):Kd->Wo->Prop where
 | bests {m:Int} {l:Ab Int} (h:Mt l) (b:l.length<=m.toNat):bo W (.bests m) (.nums l)
 | hands {R:xF} (a:cE R) (o:Of 7 W R):bo W .hands (.acc R)
def eN:Kd->Wo
 | .bests _=> .nums []
 | .hands=> .acc []
def qX:Kd->Wo
 | .bests _=> .nums [0]
 | .hands=> .acc [[]]
def iW:Kd->Wo->Wo->Wo
 | .bests m,.nums a,.nums b=> .nums<|jF m<|a++b
 | .hands,.acc A,.acc B=> .acc<|gu<|A++B
 | _,x,_=>x
def pX:Kd->Wo->Wo->Wo
 | .bests m,.nums a,.nums b=> .nums<|jF m<|sums a b
 | .hands,.acc A,.acc B=> .acc<|gu<|gt A B
 | _,x,_=>x
def qT(l:Ab Int)(j:Int):Ab Int:=(AI j.toNat l).flatten
def jl:Kd->Wo->Int->Wo
 | .bests m,.nums l,n=> .nums<|jF m<|qT l (if m < n then m else n)
 | k,w,n=>if n=0 then eN k else iW k w w
section
variable{W:xD}{k:Kd}{a b:Wo}
def mU(a:HOk W):bo W k (eN k):=by
 cases k with
 | bests m=>exact .bests BH<|ba _
 | hands=>exact .hands ⟨BH,(λ_ z=>nomatch z),λ_ z=>nomatch z⟩ ⟨by decide,a.few,a.ne,λ_ z=>nomatch z⟩
theorem OX(b:HOk W)(d:k.ok):bo W k (qX k):=by
 cases k with
 | bests m=>
  have:1<=m:=d.1;exact .bests (iL _ _) (by show 1<=m.toNat;lia)
 | hands=>exact .hands ⟨iL _ _,(λr a=>by rw[aM.mp a];exact BH),λr a q e _=>by rw[aM.mp a,aM.mp e]⟩ ⟨by decide,b.few,b.ne,λr a w c=>by rw[aM.mp a]at c;cases c⟩
theorem rT{m:Int}(l:Ab Int):bo W (.bests m) (.nums<|jF m l):= .bests ((Kb gP l).sublist<|Cf _ _) (by unfold jF;rw[bt];lia)
def LO(d:bo W k a)(c:bo W k b):bo W k (iW k a b):=by
 cases d with
 | bests h f=>cases c with | bests g i=>exact rT _
 | hands x o=>cases c with | hands y e=>exact .hands (ln _) (o.thin e (ln _) λ_=>rp)
def QS(d:bo W k a)(c:bo W k b):bo W k (pX k a b):=by
 cases d with
 | bests h f=>cases c with | bests g i=>exact rT _
 | hands x o=>cases c with | hands y e=>exact .hands (ln _) (o.agr e (ln _) λ_=>rp.trans vB)
def Li(b:HOk W)(h:bo W k a){n:Int}:bo W k (jl k a n):=by
 cases h with
 | bests h c=>exact rT _
 | hands x o=>
  show bo W _ (if _ then _ else _);split
  .exact mU b
  .exact LO (.hands x o)<|.hands x o
end
def WL(H:Hp)(p:Ac):Wo->Prop
 | .nums l=>H p=Aa (.lst<|l.map JN)
 | .acc R=>∃zs,H p=Aa (.lst zs)/\cN H zs R
theorem WL.lst{H:Hp}{p:Ac}{a:Wo}(h:WL H p a):∃zs,H p=Aa (.lst zs)/\∀H' q,bD H H'->H' q=Aa (.lst zs)->WL H' q a:=by
 cases a with
 | nums l=>exact⟨_,h,λ_ _ _ e=>e⟩
 | acc R=>
  obtain⟨zs,b,c⟩:=h;exact⟨zs,b,λ_ _ k e=>⟨zs,e,gY k c⟩⟩
def WL.keep{p:Ac}{a:Wo}(h:WL H p a)(b:bD H H')(e:∀zs,H p=Aa (.lst zs)->H' p=Aa (.lst zs)):WL H' p a:=by
 obtain⟨zs,c,d⟩:=h.lst;exact d H' p b<|e zs c
def WL.same{p:Ac}{a:Wo}(h:WL H p a)(s:ag H H'):WL H' p a:=h.keep (ag.keepT s) λ_ e=>s _ _ e
def dW:Wo->AQ
 | .nums l=> .list<|l.map .int
 | .acc R=> .list<|R.map dR
def WL.dat{W:xD}{k:Kd}{a:Wo}{p:Ac}(h:WL H p a)(b:HOk W)(g:bo W k a):ay K H (dW a) (.ref p):=by
 cases g with
 | bests _ _=>exact .lst (JO h)<|pW _
 | hands x o=>
  obtain⟨zs,h,t⟩:=h;exact .lst (JO h) (n_ t λr c w d=>b.ok w<|o.sub r c w d)
def Ta(w:Wo):(dW w).depth<=60:=by
 cases w with
 | nums l=>exact az (fP<|B9<|sj l) (by decide)
 | acc R=>exact az (fP<|rL R) (by decide)
def iz(a:xE):Kd->Ac
 | .bests _=>cA a "Bests"
 | .hands=>cA a "Hands"
def Mq:Kd->Ab (Str×V)
 | .bests m=>[("most",.int m)]
 | _=>[]
def gJ{m:Str}(a:m≠"most")(k:Kd):(Mq k).lookup m=none:=by
 cases k with
 | bests n=>
  show (match m=="most" with | true=>Aa _ | false=>B6 m [])=none;rw[beq_eq_false_iff_ne.mpr a];rfl
 | _=>rfl
def fc(a:xE)(H:Hp)(o:Ac)(k:Kd):Prop:=∃b,H o=Aa (.ins (iz a k) b<|Mq k)
def fc.same{o:Ac}{k:Kd}(h:fc mg H o k)(s:ag H H'):fc mg H' o k:=let ⟨a,e⟩:=h;⟨a,s _ _ e⟩
inductive zh (a:xE) (k:Kd) (b:Ab V) (H:Hp) (Q:VK) (c:XK):Prop
 | mk:∀o,(b=[.ref o])->(fc a H o k)->(∀p H',ag H H'->H p=none->WL H' p (eN k)->Q (.ref p) H')->zh a k b H Q c
inductive NH (a:xE) (k:Kd) (b:Ab V) (H:Hp) (Q:VK) (c:XK):Prop
 | mk:∀o,(b=[.ref o])->(fc a H o k)->(∀p H',ag H H'->H p=none->WL H' p (qX k)->Q (.ref p) H')->NH a k b H Q c
inductive rm (c:xE) (k:Kd) (f:Wo->Wo->Wo) (d:Ab V) (H:Hp) (Q:VK) (e:XK):Prop
 | mk:∀(o:Ac) (a:Ac) (b:Ac) (x:Wo) (y:Wo) (W:xD),(d=[.ref o,.ref a,.ref b])->(fc c H o k)->(k.ok)->(bo W k x)->(bo W k y)->(WL H a x)->(WL H b y)->(∀p H',ag H H'->H p=none->WL H' p (f x y)->Q (.ref p) H')->rm c k f d H Q e
variable{R:xF}
def qs{W:xD}(a:cE R)(o:Of 7 W R):∀r∈R,r.length<=15/\aT∉r:=λr b=>⟨az (o.len b<|a.norm r b).1 (by decide),(o.len b<|a.norm r b).2⟩
def hF(T:Txt K mg)(k:Kd):cU K (iz mg k):=by
 cases k with
 | bests _=>exact T.iA
 | hands=>exact T.XW
def rn(T:Txt K mg)(k:Kd):bh P w K mg base 1 (iz mg k) "nought" ["self"] (zh mg k):=by
 cases k with
 | bests _=>exact(SN T).imp λb H Q E ⟨o,e,_,q⟩=>⟨o,e,λl a=>q _ _ (qc a) a qb⟩
 | hands=>exact(Ve T).imp λb H Q E ⟨o,e,_,q⟩=>⟨_,e,λl a=>q _ _ (qc a) a ⟨[],qb,.nil⟩⟩
def SM(T:Txt K mg)(k:Kd):bh P w K mg base 1 (iz mg k) "unit" ["self"] (NH mg k):=by
 cases k with
 | bests _=>exact(RT T).imp λb H Q E ⟨o,e,_,q⟩=>⟨o,e,λl a=>q _ _ (qc a) a qb⟩
 | hands=>exact(Rc T).imp λb H Q E ⟨o,e,_,q⟩=>⟨_,e,λp t H' s c d f=>q _ _ s c ⟨_,d,.cons ⟨t,rfl,f⟩ .nil⟩⟩
theorem wm(T:Txt K mg)(k:Kd):bh P w K mg base 4 (iz mg k) "either" ["self","one","other"] (rm mg k<|iW k):=by
 cases k with
 | bests m=>
  refine(Kj (QP T)<|by decide).imp λr H Q E J=>?_;obtain⟨o,Y,Z,a,b,W,e,⟨t,u⟩,g,c,O,d,f,q⟩:=J;have:m<=9:=g.2;have:1<=m:=g.1;cases c with | bests h i=>cases O with | bests N S=>
   exact⟨o,Y,Z,m,_,_,e,⟨t,u⟩,by lia,d,f,by lia,by lia,λl H' s i e=>q _ _ s i e⟩
 | hands=>
  refine(Kj (YT T)<|by decide).imp λr H Q E J=>?_;obtain⟨o,Y,Z,a,b,W,e,_,_,c,O,d,f,q⟩:=J;cases c with | hands A j=>cases O with | hands B n=>
   obtain⟨v,x,y⟩:=d;obtain⟨z,C,D⟩:=f;have U:=j.cards A;have X:=n.cards B;refine⟨_,Y,Z,v,z,_,_,e,x,C,y,D,by lia,by lia,qs A j,qs B n,λp zs R H' s F G I L M=>q _ _ s F ⟨zs,G,?_⟩⟩;rw[<- oY L M];exact I
theorem Ox(T:Txt K mg)(k:Kd):bh P w K mg base 5 (iz mg k) "both" ["self","one","other"] (rm mg k<|pX k):=by
 cases k with
 | bests m=>
  refine(Kj (RZ T)<|by decide).imp λr H Q E J=>?_;obtain⟨o,Y,Z,a,b,W,e,⟨t,u⟩,g,c,O,d,f,q⟩:=J;have:m<=9:=g.2;have:1<=m:=g.1;cases c with | bests h i=>cases O with | bests U X=>
   exact⟨o,Y,Z,m,_,_,e,⟨t,u⟩,by lia,d,f,by lia,by lia,λa0 H' s i e=>q _ _ s i e⟩
 | hands=>
  refine(Kj (Wi T)<|by decide).imp λr H Q E J=>?_;obtain⟨o,Y,Z,a,b,W,e,_,_,c,O,d,f,q⟩:=J;cases c with | hands A j=>cases O with | hands B l=>
   obtain⟨v,y,z⟩:=d;obtain⟨C,D,F⟩:=f;have G:=j.card A;have n:=l.card B;refine⟨_,_,e,Y,Z,v,C,_,_,zr,JO y,JO D,z,F,az (lS G n) (by decide),az n (by decide),qs A j,qs B l,λp zs R H' s I L M N S=>q _ _ s I ⟨zs,L,?_⟩⟩;rw[<- oY N λx=>(S x).trans vB.symm];exact M
def jU:AQ->Str
 | .str z=>z
 | _=>aT
def eI:AQ->Int
 | .int i=>i
 | _=>0
def setD:AQ->Ab Str
 | .tuple a=>a.map jU
 | _=>[]
def twB:AQ->AJ
 | .tuple a=>a.all<|gN dS
 | _=>false
def mo:AQ->AJ
 | .list a=>a.all twB&&decide (a.map setD=gu (a.map setD))
 | _=>false
def fh:Kd->AQ->AJ
 | .bests m,.list a=>decide ((a.length:Int)<=m)&&(a.all gk&&decide (a.map eI=JQ bB (a.map eI)))
 | .hands,d=>mo d
 | _,_=>false
def Nz:AQ->Prop
 | .tuple a=>a.length<=10/\∀x∈a,tD x
 | _=>Ez
def gL:AQ->Prop
 | .list a=>a.length<=2000/\∀e∈a,Nz e
 | _=>Ez
def Qu{d:AQ}{x:V}(h:ay K H d x):(∃i,d= .int i/\x= .int i)\/ (gk d=false/\∀i,d≠ .int i):=by
 cases h with
 | int i=>exact .inl ⟨i,rfl,rfl⟩
 | non=>exact .inr ⟨rfl,λ_ z=>nomatch z⟩
 | bl _=>exact .inr ⟨rfl,λ_ z=>nomatch z⟩
 | str _ _=>exact .inr ⟨rfl,λ_ z=>nomatch z⟩
 | lst _ _=>exact .inr ⟨rfl,λ_ z=>nomatch z⟩
 | tup _ _=>exact .inr ⟨rfl,λ_ z=>nomatch z⟩
def wY{d:AQ}{x:V}(h:ay K H d x):(∃a e c,d= .list c/\x= .ref a/\aK K H a e/\aW K H c e)\/ (fK (iZ d) "list"=false/\(∀c,d≠ .list c)):=by
 cases h with
 | lst a b=>exact .inl ⟨_,_,_,rfl,rfl,a,b⟩
 | non=>exact .inr ⟨rfl,λ_ z=>nomatch z⟩
 | bl _=>exact .inr ⟨rfl,λ_ z=>nomatch z⟩
 | int _=>exact .inr ⟨rfl,λ_ z=>nomatch z⟩
 | str _ _=>exact .inr ⟨rfl,λ_ z=>nomatch z⟩
 | tup _ _=>exact .inr ⟨rfl,λ_ z=>nomatch z⟩
def wf{d:AQ}{x:V}(h:ay K H d x):(∃a c e,d= .tuple e/\x= .ref a/\aU K H a c/\aW K H e c)\/ (fK (iZ d) "tuple"=false/\twB d=false):=by
 cases h with
 | tup a b=>exact .inl ⟨_,_,_,rfl,rfl,a,b⟩
 | non=>exact .inr ⟨rfl,rfl⟩
 | bl _=>exact .inr ⟨rfl,rfl⟩
 | int _=>exact .inr ⟨rfl,rfl⟩
 | str _ _=>exact .inr ⟨rfl,rfl⟩
 | lst _ _=>exact .inr ⟨rfl,rfl⟩
theorem wy{K:xA}{H:Hp}:∀{c:Ab AQ} {f:Ab V},aW K H c f->c.all gk=true->f=(c.map eI).map JN/\c=(c.map eI).map CN
 | _,_,.nil,_=>⟨rfl,rfl⟩
 | d::c,x::f,.cons h t,e=>by
  rw[Dr,ir]at e;rcases Qu h with ⟨i,rfl,rfl⟩ | ⟨n,_⟩
  .obtain⟨a,b⟩:=wy t e.2;exact⟨by rw[au,au,<- a];rfl,by rw[au,au,<- b];rfl⟩
  .rw[n]at e;exact Au e.1 aY
theorem zY{K:xA}{H:Hp}:∀{f:Ab AQ} {g:Ab V},aW K H f g->f.all (gN dS)=true->g=(f.map jU).map JP/\f=(f.map jU).map D6/\(∀w∈f.map jU,AW w=true/\bS dS w=true)
 | _,_,.nil,_=>⟨rfl,rfl,λ_ z=>nomatch z⟩
 | d::k,x::g,.cons h t,e=>by
  rw[Dr,ir]at e;cases h with
  | str z j=>
   obtain⟨a,b,c⟩:=zY t e.2;refine⟨by rw[au,au,<- a];rfl,by rw[au,au,<- b];rfl,λw i=>?_⟩;rcases aA.mp i with rfl | i
   .exact⟨j,e.1⟩
   .exact c w i
  | non=>exact Au e.1 aY
  | bl _=>exact Au e.1 aY
  | int _=>exact Au e.1 aY
  | lst _ _=>exact Au e.1 aY
  | tup _ _=>exact Au e.1 aY
theorem xm{K:xA}{H:Hp}:∀{f:Ab AQ} {i:Ab V},aW K H f i->f.all twB=true->jY K H i (f.map setD)/\f=(f.map setD).map dR/\∀s∈f.map setD,∀w∈s,AW w=true/\bS dS w=true
 | _,_,.nil,_=>⟨.nil,rfl,λ_ z=>nomatch z⟩
 | d::f,x::i,.cons h t,e=>by
  rw[Dr,ir]at e;rcases wf h with ⟨a,m,o,rfl,rfl,Y,J⟩ | ⟨_,n⟩
  .obtain⟨b,c,g⟩:=xm t e.2;obtain⟨j,k,l⟩:=zY J e.1;refine⟨.cons ⟨a,rfl,by rw[j]at Y;exact Y⟩ b,?_,λs O=>?_⟩
   .rw[au,au,<- c];exact Ba (· ::f)<|Ba E8 k
   .rcases aA.mp O with rfl | O
    .exact l
    .exact g s O
  .rw[n]at e;exact Au e.1 aY
theorem wW:∀p q:Ab Str,AE (p.map .str) (q.map .str)=decide (p=q)
 | [],[]=>by rw[bP,AE];rfl
 | [],_::_=>by rw[bP,au,AE];rfl
 | _::_,[]=>by rw[bP,au,AE];rfl
 | x::p,y::q=>by
  have a:AC (.str x) (.str y)=decide (x=y):=by
   show (x==y)=_;by_cases h:x=y <;> simp[h]
  rw[au,au,AE,a,wW p q];by_cases h:x=y
  .by_cases h2:p=q <;> simp[h,h2]
  .simp[h]
theorem Mj:∀p q:Ab (Ab Str),AE (p.map dR) (q.map dR)=decide (p=q)
 | [],[]=>by rw[bP,AE];rfl
 | [],_::_=>by rw[bP,au,AE];rfl
 | _::_,[]=>by rw[bP,au,AE];rfl
 | x::p,y::q=>by
  have a:AC (dR x) (dR y)=decide (x=y):=by
   unfold dR;rw[AC,wW]
  rw[au,au,AE,a,Mj p q];by_cases h:x=y
  .by_cases h2:p=q <;> simp[h,h2]
  .simp[h]
theorem yV:∀p q:Ab Int,AE (p.map .int) (q.map .int)=decide (p=q)
 | [],[]=>by rw[bP,AE];rfl
 | [],_::_=>by rw[bP,au,AE];rfl
 | _::_,[]=>by rw[bP,au,AE];rfl
 | x::p,y::q=>by
  have a:AC (.int x) (.int y)=decide (x=y):=by
   show (x==y)=_;by_cases h:x=y <;> simp[h]
  rw[au,au,AE,a,yV p q];by_cases h:x=y
  .by_cases h2:p=q <;> simp[h,h2]
  .simp[h]
def wc{z:Str}(h:bS dS z=true):z≠aT:=λe=>by
 subst e;exact Au h (by decide+kernel)
inductive pZ (K:xA) (a:xE) (k:Kd) (b:Ab V) (H:Hp) (Q:VK) (c:XK):Prop
 | mk:∀(o:Ac) (x:V) (d:AQ),(b=[.ref o,x])->(fc a H o k)->(ay K H d x)->(gL d)->(∀H',ag H H'->Q (.bl (fh k d)) H')->pZ K a k b H Q c
theorem Yx(T:Txt K mg)(m:Int):bh P w K mg base 2 (cA mg "Bests") "fits" ["self","thing"] (pZ K mg<|.bests m):=by
 refine T.To.ok Wp (λG H Q E h=>?_) λf S A U s H G Q E r h=>?_
 .obtain⟨o,x,d,rfl,_⟩:=h;rfl
 .obtain⟨o,x,d,rfl,⟨dx,hp⟩,hd,hz,q⟩:=h;refine⟨_,eg
   (bQ (PW.pt<|kl (el<|dX<|qp (gv K) rfl T.fJ fS<|aD (pv 1)<|fY rfl T.gz gE)<|kb<|fF rW (qp (mj K) rfl T.b_len jL<|ak<|pv 1) (cD (pv 0) rfl)<|du _) (qg<|qi cM) ci)
   (qi<|mO (qp (lf rfl K) rfl T.b_all kN<|ak<|dU (N:=["part"]) (caps:=[none]) rfl (by with_unfolding_all rfl) (cB K<|pv 1) (λ_ _ _ _ _=>qk (i:=0) (show (["part"]:xD).Nodup by decide+kernel) rfl<|Ax rfl) (λ_ _ _ _ _=>d_) λ_ _ _ _ _=>qr (zg T) r rfl<|ak<|pv 0)<|nM<|im (pU r.units K) (pv 1) (qp (rX K) rfl T.eG eH<|ak<|pv 1)<|du _),?_⟩
  refine⟨_,zr,x,_,d,zr,hd,by decide,_,zr,?_⟩;rcases wY hd with ⟨a,g,b,rfl,rfl,c,J⟩ | ⟨ty,I⟩
  .refine fq (show (!fK "list" "list")=false by decide) ?_;have t:=kJ J;have W:b.length<=2000:=hz.1;refine⟨_,zr,_,_,zr,.inl ⟨_,c,zr⟩,_,zr,o,_,dx,_,_,zr,hp,T.iA,T.pH,zr,_,_,zr,zr,_,zr,?_⟩;rw[<- t];refine dP (λn=>?_) λn=>?_
   .have q:=q H<|JZ H;have e:fh (.bests m) (.list b)=false:=by
     have:¬ (b.length:Int)<=m:=Int.not_le.mpr<|AT n;show (decide ((b.length:Int)<=m)&&_)=false;rw[aN this,hV]
    rw[e]at q;exact q
   .have hm:(b.length:Int)<=m:=Int.not_lt.mp λz=>n<|aS z;refine⟨_,zr,a,zr,⟨_,c⟩,λD u=>?_⟩;refine dg g.length (λi j H'=>(∃v,j=[v])/\ag H H'/\H' D=Aa (.lst<|((b.take i).map gk).map Ke)) ⟨⟨_,zr⟩,qc u,qb⟩ (λi j H' B p=>?_) (λj H' p=>⟨?_,?_⟩) λi j H' B p x H2 y=>?_
    .obtain⟨_,sm,_⟩:=p;exact⟨g,g[i],sm.seq c,aH B⟩
    .obtain⟨_,sm,_⟩:=p;exact⟨g,sm.seq c,aj _⟩
    .obtain⟨_,sm,e⟩:=p;refine⟨D,b.map gk,rfl,JO (by rw[e,<- t,bA]),_,rfl,?_⟩;have L:(b.map gk).all id=b.all gk:=by rw[gQ];rfl
     rw[L];have C:fh (.bests m) (.list b)=(b.all gk&&decide (b.map eI=JQ bB (b.map eI))):=by
      show (decide ((b.length:Int)<=m)&&_)=_;rw[aS hm,kC]
     refine dP (λk=>?_) λk=>?_
     .obtain⟨ex,ed⟩:=wy J k;refine⟨_,rfl,_,rfl,a,b.map eI,rfl,.inl (by rw[<- ex];exact sm.seq c),λl Z=>?_⟩;have M:=qc (o:=JR<|(JQ bB<|b.map eI).map JN) Z;have F:=sm.trans M;refine⟨.list<|(b.map eI).map .int,.list<|(JQ bB<|b.map eI).map .int,?_,.lst (JO qb)<|pW _,?_,?_⟩
      .rw[<- ed];exact Kk F _ _ hd
      .show Az ((b.map eI).map .int)+1<=60;rw[sj];decide
      .have q:=q _ F;rw[C,k,kC,<- yV]at q;exact q
     .have q:=q _ sm;rw[C,Bool.eq_false_iff.mpr k,hV]at q;exact q
    .obtain⟨⟨v,rfl⟩,sm,e⟩:=p;obtain⟨rfl,R⟩:=y;obtain⟨d,O,Y⟩:=pa (aW.same sm _ _ J)<|R g<|sm.seq c;refine⟨_,zr,x,d,zr,Y,_,e,?_,⟨_,zr⟩,sm.set u,?_⟩
     .rw[ai,ai,bt];exact qz (by lia)
     .rw[qb,bx,O,a_,a_];rfl
  .refine fG (by rw[ty];rfl)<|gy ?_;have q:=q H<|JZ H;have e:fh (.bests m) d=false:=by
    cases d with
    | list b=>exact Au rfl<|I b
    | _=>rfl
   rw[e]at q;exact q
inductive ME (K:xA) (a:Ab V) (H:Hp) (Q:VK) (b:XK):Prop
 | mk:∀(x:V) (d:AQ),(a=[x])->(ay K H d x)->(Nz d)->(∀H',ag H H'->Q (.bl (twB d)) H')->ME K a H Q b
theorem Xk(T:Txt K mg):bv P w K mg base 3 "is_tuple_of_words" ["thing"] (ME K):=by
 refine T.RL.ok PQ (λm H Q E h=>?_) λf u A z s H m Q E n h=>?_
 .obtain⟨x,d,rfl,_⟩:=h;rfl
 .obtain⟨x,d,rfl,hd,hz,q⟩:=h;refine⟨_,(qg<|qi<|mO (qp (gv K) rfl T.fJ fS<|aD (pv 0)<|fY rfl T.kE ke)<|nM<|qp (lf rfl K) rfl T.b_all kN<|ak<|dU (N:=["part"]) (caps:=[none]) rfl (by with_unfolding_all rfl) (iG K<|pv 0) (λ_ _ _ _ _=>qk (i:=0) (show (["part"]:xD).Nodup by decide+kernel) rfl<|Ax rfl) (λ_ _ _ _ _=>d_) λ_ _ _ _ _=>qr (Tn T) n rfl<|ak<|pv 0),?_⟩;refine⟨_,zr,x,_,d,zr,hd,by decide,_,zr,?_⟩;rcases wf hd with ⟨a,b,g,rfl,rfl,Y,O⟩ | ⟨ty,o⟩
  .refine fG (show fK "tuple" "tuple"=true by decide) ?_;have r:=kJ O;have B:g.length<=10:=hz.1;refine⟨_,zr,a,zr,⟨_,Y⟩,λD j=>?_⟩;refine dg b.length (λi c H'=>(∃v,c=[v])/\ag H H'/\H' D=Aa (.lst<|((g.take i).map<|gN dS).map Ke)) ⟨⟨_,zr⟩,qc j,qb⟩ (λi c H' k p=>?_) (λc H' p=>⟨?_,?_⟩) λi c H' k p x H2 y=>?_
   .obtain⟨_,sm,_⟩:=p;exact⟨b,b[i],sm.seqT Y,aH k⟩
   .obtain⟨_,sm,_⟩:=p;exact⟨b,sm.seqT Y,aj _⟩
   .obtain⟨_,sm,e⟩:=p;refine⟨D,g.map<|gN dS,rfl,JO (by rw[e,<- r,bA]),?_⟩;rw[gQ];exact q _ sm
   .obtain⟨⟨v,rfl⟩,sm,e⟩:=p;obtain⟨rfl,t⟩:=y;obtain⟨d,J,Z⟩:=pa (aW.same sm _ _ O)<|t b<|sm.seqT Y;refine⟨_,zr,x,d,zr,Z,hz.2 d<|bJ J,λC l=>⟨_,l _ _ e,?_,⟨_,zr⟩,(sm.trans l).set j,?_⟩⟩
    .rw[ai,ai,bt];exact cY (by lia)
    .rw[qb,bx,J,a_,a_];rfl
  .refine fq ty ?_;have q:=q H<|JZ H;rw[o]at q;exact q
inductive yx (K:xA) (a:Ab V) (H:Hp) (Q:VK) (b:XK):Prop
 | mk:∀(x:V) (d:AQ),(a=[x])->(ay K H d x)->(gL d)->(∀H',ag H H'->Q (.bl (mo d)) H')->yx K a H Q b
theorem Pz(T:Txt K mg):bv P w K mg base 4 "is_accord" ["thing"] (yx K):=by
 refine T.Qq.ok Uq (λA H Q E h=>?_) λd0 e0 f0 g0 s H A Q E c h=>?_
 .obtain⟨x,d,rfl,_⟩:=h;rfl
 .obtain⟨x,d,rfl,hd,hz,q⟩:=h;refine⟨_,eg
   (bQ (PW.pt<|kl (el<|dX<|qp (gv K) rfl T.fJ fS<|aD (pv 0)<|fY rfl T.gz gE)<|kb<|el<|dX<|qp (lf rfl K) rfl T.b_all kN<|ak<|dU (N:=["part"]) (caps:=[none]) rfl (by with_unfolding_all rfl) (cB K<|pv 0) (λ_ _ _ _ _=>qk (i:=0) (show (["part"]:xD).Nodup by decide+kernel) rfl<|Ax rfl) (λ_ _ _ _ _=>d_) λ_ _ _ _ _=>qr (Xk T) c rfl<|ak<|pv 0) (qg<|qi cM) ci)
   (qi<|im (pU c.units K) (pv 0) (qr (vq T) c rfl<|ak<|pv 0)<|du _),?_⟩
  refine⟨_,zr,x,_,d,zr,hd,by decide,_,zr,?_⟩;rcases wY hd with ⟨a,f,b,rfl,rfl,g,J⟩ | ⟨ty,B⟩
  .refine fq (show (!fK "list" "list")=false by decide) ?_;have C:=kJ J;have h0:b.length<=2000:=hz.1;refine⟨_,zr,a,zr,⟨_,g⟩,λD m=>?_⟩;refine dg f.length (λi k H'=>(∃v,k=[v])/\ag H H'/\H' D=Aa (.lst<|((b.take i).map twB).map Ke)) ⟨⟨_,zr⟩,qc m,qb⟩ (λi k H' n p=>?_) (λk H' p=>⟨?_,?_⟩) λi k H' n p x H2 y=>?_
   .obtain⟨_,sm,_⟩:=p;exact⟨f,f[i],sm.seq g,aH n⟩
   .obtain⟨_,sm,_⟩:=p;exact⟨f,sm.seq g,aj _⟩
   .obtain⟨_,sm,e⟩:=p;refine⟨D,b.map twB,rfl,JO (by rw[e,<- C,bA]),_,rfl,?_⟩;have F:(b.map twB).all id=b.all twB:=by rw[gQ];rfl
    rw[F];have o:mo (.list b)=(b.all twB&&decide (b.map setD=gu (b.map setD))):=rfl;cases l:b.all twB with
    | true=>
     refine fq rfl ?_;obtain⟨G,I,ok⟩:=xm J l;refine⟨_,rfl,_,rfl,a,f,b.map setD,rfl,sm.seq g,rR<|vh (λ_ _ z=>sm.seqT z) G,by rw[ai];lia,λr c=>?_,λp zs R L j i0 M S t u=>?_⟩
     .refine⟨?_,λz=>wc ((ok r c _ z).2) rfl⟩;obtain⟨e,U,rfl⟩:=aE.mp c;have W:=hz.2 e U;cases e with
      | tuple X=>
       show (X.map jU).length<=30;rw[ai];exact az W.1 (by decide)
      | _=>exact ba _
     .have eR:=oY t u;have Z:∀r∈R,∀w∈r,AW w=true:=λr c w Y=>by
       obtain⟨s,a0,z⟩:=NA t u r c;exact(ok s a0 w<|z w Y).1
      refine⟨.list<|(b.map setD).map dR,.list<|R.map dR,?_,.lst (JO M)<|n_ S Z,?_,?_⟩
      .rw[<- I];exact Kk (sm.trans j) _ _ hd
      .exact az (fP<|rL _) (by decide)
      .have q:=q _<|sm.trans j;rw[o,l,kC,<- eR,<- Mj]at q;exact q
    | false=>
     refine fG rfl ?_;have q:=q _ sm;rw[o,l,hV]at q;exact q
   .obtain⟨⟨v,rfl⟩,sm,e⟩:=p;obtain⟨rfl,b0⟩:=y;obtain⟨d,O,c0⟩:=pa (aW.same sm _ _ J)<|b0 f<|sm.seq g;refine⟨_,zr,x,d,zr,c0,hz.2 d<|bJ O,λL j=>⟨_,j _ _ e,?_,⟨_,zr⟩,(sm.trans j).set m,?_⟩⟩
    .rw[ai,ai,bt];exact qz (by lia)
    .rw[qb,bx,O,a_,a_];rfl
  .refine fG (by rw[ty];rfl)<|gy ?_;have q:=q H<|JZ H;have e:mo d=false:=by
    cases d with
    | list b=>exact Au rfl<|B b
    | _=>rfl
   rw[e]at q;exact q
def XR(T:Txt K mg):bh P w K mg base 5 (cA mg "Hands") "fits" ["self","thing"] (pZ K mg .hands):=by
 refine T.SI.ok Tq (λa H Q E h=>?_) λf c A e s H a Q E b h=>?_
 .obtain⟨o,x,d,rfl,_⟩:=h;rfl
 .obtain⟨o,x,d,rfl,_,hd,hz,q⟩:=h;exact⟨_,qg<|qi<|qr (Pz T) b rfl<|ak<|pv 1,_,zr,x,d,zr,hd,hz,q⟩
def zX(T:Txt K mg)(k:Kd):bh P w K mg base 5 (iz mg k) "fits" ["self","thing"] (pZ K mg k):=by
 cases k with
 | bests m=>exact Kj (Yx T m) (by decide)
 | hands=>exact XR T
theorem rN{W:xD}{k:Kd}{a:Wo}(g:bo W k a)(f:k.ok)(j:HOk W):fh k (dW a)=true/\gL (dW a):=by
 cases g with
 | @bests m l h p=>
  have J:(l.map CN).map eI=l:=by rw[cr];exact kh _
  have c:(l.map CN).all gk=true:=by rw[gQ];exact eh.mpr λ_ _=>rfl
  have s:1<=m:=f.1;have u:m<=9:=f.2;refine⟨?_,by rw[ai];lia,λe O=>?_⟩
  .show (decide (((l.map CN).length:Int)<=m)&&((l.map CN).all gk&&decide ((l.map CN).map eI=JQ bB ((l.map CN).map eI))))=true;rw[J,c,ai,aS (show l=JQ bB l from gP.uniq (JW bB l).symm h<|Kb gP l),kC,Ix];exact aS (by lia)
  .obtain⟨i,_,rfl⟩:=aE.mp O;trivial
 | @hands R a o=>
  have J:(R.map dR).map setD=R:=by
   rw[cr]
   conv=>rhs;rw[<- kh R]
   refine fT λr _=>?_;show (r.map D6).map jU=r;rw[cr];exact kh _
  have c:(R.map dR).all twB=true:=by
   rw[gQ];refine eh.mpr λr b=>?_;show (r.map D6).all (gN dS)=true;rw[gQ];exact eh.mpr λw d=>j.tx w<|o.sub r b w d
  refine⟨?_,by rw[ai];exact az (o.cards a) (by decide),λe O=>?_⟩
  .show ((R.map dR).all twB&&decide ((R.map dR).map setD=gu ((R.map dR).map setD)))=true;rw[J,c,aS<|oY a λ_=>I0];rfl
  .obtain⟨r,b,rfl⟩:=aE.mp O;refine⟨by rw[ai];exact(o.len b<|a.norm r b).1,λx n=>?_⟩;obtain⟨w,d,rfl⟩:=aE.mp n;have t:=j.tx w<|o.sub r b w d;show w.length<=200
   apply BR
   intro z;rw[sr λq=>z (az q.2<|by decide)]at t;cases t
def vi{a b:Int}(h:decide (JN a=JN b)=true):a=b:=by
 have:=AT h;injection this
def Ub{a b:Int}(h:¬ decide (JN a=JN b)=true):a≠b:=λe=>h<|aS<|Ba JN e
inductive oP (b:xE) (k:Kd) (c:Ab V) (H:Hp) (Q:VK) (d:XK):Prop
 | mk:∀(o:Ac) (a:Ac) (n:Int) (x:Wo) (W:xD),(c=[.ref o,.ref a,.int n])->(fc b H o k)->(k.ok)->(bo W k x)->(WL H a x)->(0<=n)->(∀p H',ag H H'->H p=none->WL H' p (jl k x n)->Q (.ref p) H')->oP b k c H Q d
theorem OJ(T:Txt K mg)(m:Int):bh P w K mg base 2 (cA mg "Bests") "repeated" ["self","worth","many"] (oP mg<|.bests m):=by
 refine T.Vi.ok Vz (λb H Q E h=>?_) λf k A r s H b Q E d h=>?_
 .obtain⟨o,a,n,x,W,rfl,_⟩:=h;rfl
 .obtain⟨o,p,n,x,W,rfl,⟨dx,J⟩,hk,ga,e,hn,q⟩:=h;cases ga with | @bests _ l h t=>
   have u:m<=9:=hk.2;have v:1<=m:=hk.1;have y:0<=(if m < n then m else n):=by split <;> lia
   have z:(if m < n then m else n)<=9:=by split <;> lia
   refine⟨_,qg<|qi<|ig (sG T) T.iA d (pv 0)<|ak<|qh xq (pv 1)<|qp (WT rfl) rfl T.b_min Ur<|aD (pv 2)<|cD (pv 0) rfl,?_⟩;refine⟨_,zr,o,dx,_,zr,J,zr,_,zr,_,zr,_,zr,o,_,dx,_,_,zr,J,T.iA,T.pH,zr,_,_,zr,p,_,_,zr,zr,e,by lia,by lia,?_,λc g=>?_⟩
   .rw[ai];refine az (lS (show l.length<=9 by lia) (show (if m < n then m else n).toNat<=9 by lia)) (by decide)
   .have s1:=qc (o:=JR (AI (if m < n then m else n).toNat<|l.map JN).flatten) g;refine⟨o,c,m,qT l (if m < n then m else n),rfl,⟨dx,s1 _ _ J⟩,by lia,?_,λl2 H' i O j=>q _ _ (s1.trans i) (s1.free O) j⟩;rw[qb]
    congr 2
    unfold qT;rw[List.map_flatten,Gc]
def WP(T:Txt K mg):bh P w K mg base 5 (cA mg "Hands") "repeated" ["self","worth","many"] (oP mg .hands):=by
 refine T.Yz.ok Zs (λd H Q E h=>?_) λf e A g s H d Q E c h=>?_
 .obtain⟨o,a,n,x,W,rfl,_⟩:=h;rfl
 .obtain⟨o,p,n,x,W,rfl,⟨dx,J⟩,hk,ga,Z,hn,q⟩:=h;have eq:jl .hands x n=if n=0 then eN .hands else iW .hands x x:=by cases ga <;> rfl
  rw[eq]at q;refine⟨_,eg
   (bQ (fF kF (pv 2) qd<|du _) (qg<|qi<|oU (rn T) (hF T) c<|pv 0) ci)
   (qi<|kY (wm T) (hF T) c (pv 0)<|aD (pv 1)<|pv 1),?_⟩
  refine⟨_,zr,zr,_,zr,dP (λh=>?_) λh=>?_⟩
  .rw[Ah<|vi h]at q;exact⟨_,zr,.hands,o,dx,_,zr,J,gJ (by decide) .hands,o,zr,⟨dx,J⟩,λz H' b O Y=>q z H' b O Y⟩
  .rw[Ae<|Ub h]at q;exact⟨_,zr,.hands,o,dx,_,zr,J,gJ (by decide) .hands,_,zr,_,zr,o,p,p,x,x,W,zr,⟨dx,J⟩,hk,ga,ga,Z,Z,λz H' b O Y=>q z H' b O Y⟩
def UF(T:Txt K mg)(k:Kd):bh P w K mg base 5 (iz mg k) "repeated" ["self","worth","many"] (oP mg k):=by
 cases k with
 | bests m=>exact Kj (OJ T m) (by decide)
 | hands=>exact WP T
def WD(H:Hp)(d:Ac)(f:Str->Ag Wo):Prop:=∃b,H d=Aa (.dK b)/\(∀z,f z=none->ao b (Aj z)=none)/\∀z a,f z=Aa a->∃p,ao b (Aj z)=Aa (.ref p)/\WL H p a
theorem WD.same{H b:Hp}{d:Ac}{f:Str->Ag Wo}(h:WD H d f)(s:ag H b):WD b d f:=by
 obtain⟨c,g,i,j⟩:=h;refine⟨c,s _ _ g,i,λz a e=>?_⟩;obtain⟨p,k,l⟩:=j z a e;exact⟨p,k,l.same s⟩
def WD.get{d:Ac}{f:Str->Ag Wo}(h:WD H d f)(z:Str):(f z=none/\di H d (.str z) none)\/ ∃a p,f z=Aa a/\di H d (.str z) (Aa<|.ref p)/\WL H p a:=by
 obtain⟨l,b,c,g⟩:=h;have J:=Kn (k:=Aj z) b;cases e:f z with
 | none=>
  rw[c z e]at J;exact .inl ⟨zr,J⟩
 | some a=>
  obtain⟨p,i,j⟩:=g z a e;rw[i]at J;exact .inr ⟨a,p,zr,J,j⟩
def dc(k:Kd)(f:Str->Ag Wo)(z:Str):Wo:=(f z).getD<|eN k
structure gB (W:xD) (k:Kd) (f:Str->Ag Wo):Prop where
 hk:k.ok
 hW:HOk W
 good:∀z a,f z=Aa a->bo W k a
def gB.g{W:xD}{k:Kd}{f:Str->Ag Wo}(h:gB W k f)(z:Str):bo W k (dc k f z):=by
 unfold dc;cases e:f z with
 | none=>exact mU h.hW
 | some a=>exact h.good z a e
def rkP(k:Kd)(g:Str->Wo)(p:xD):Wo:=p.foldl (λz n=>pX k z<|g n)<|qX k
def rkY(k:Kd)(g:Str->Wo)(Y:ar):Wo:=Y.foldl (λz kv=>iW k z<|jl k (rkP k g kv.1) kv.2)<|eN k
def QM(k:Kd)(g:Str->Wo)(p:xD)(n:Str):rkP k g (p++ [n])=pX k (rkP k g p) (g n):=zO
def Sd(k:Kd)(g:Str->Wo)(Y:ar)(a:Ab Str×Int):rkY k g (Y++ [a])=iW k (rkY k g Y) (jl k (rkP k g a.1) a.2):=zO
theorem rC{a:Type}{C:Wo->Prop}{f:Wo->a->Wo}(J:∀z x,C z->C (f z x)):∀(l:Ab a) (z:Wo),C z->C (l.foldl f z)
 | [],_,h=>h
 | x::l,z,h=>rC J l _<|J z x h
section
variable{P:Ai}{w:Al}{K:xA}{mg:xE}{base:AH}{W:xD}{k:Kd}{f:Str->Ag Wo}
theorem gB.rkP(h:gB W k f)(p:xD):bo W k (rkP k (dc k f) p):=rC (C:=bo W k) (λ_ n a=>QS a<|h.g n) p _<|OX h.hW h.hk
theorem gB.rkY(h:gB W k f)(Y:ar):bo W k (rkY k (dc k f) Y):=rC (C:=bo W k) (λ_ kv a=>LO a<|Li h.hW<|h.rkP kv.1) Y _<|mU h.hW
inductive MY (c:xE) (e:Ab V) (H:Hp) (Q:VK) (g:XK):Prop
 | mk:∀(b:Ac) (o:Ac) (d:Ac) (p:xD) (k:Kd) (f:Str->Ag Wo) (W:xD),(e=[.ref b,.ref o,.ref d])->(H b=Aa (.tup (p.map JP)))->(fc c H o k)->(WD H d f)->(gB W k f)->((∀n∈p,∃a,f n=Aa a))->(∀z H',ag H H'->H z=none->WL H' z (rkP k (dc k f) p)->Q (.ref z) H')->MY c e H Q g
def Yg(T:Txt K mg):bv P w K mg base 6 "product_reckoned" ["product","by","worths"] (MY mg):=by
 refine T.WM.ok pz (λy H Q E h=>?_) λf X A a0 b0 H y Q E l h=>?_
 .obtain⟨b,o,d,p,k,f,W,rfl,_⟩:=h;rfl
 .obtain⟨b,o,d,p,k,Z,W,rfl,hb,hB,hd,ok,a2,q⟩:=h;refine⟨_,em
   (ql (i:=3) pz.nd rfl (Ax rfl)<|oU (SM T) (hF T) l<|pv 1)
   (cw AL rfl (iG K<|pv 0) (qk (i:=4) pz.nd rfl<|Ax rfl)<|qg<|ql (i:=3) pz.nd rfl (Ax rfl)<|kY (Ox T) (hF T) l (pv 1)<|aD (pv 3)<|iF (cL l) (pv 2) (pv 4) λ_ _=>rfl)
   (qi<|pv 3),?_⟩
  obtain⟨c,B⟩:=id hB;refine⟨_,zr,k,o,c,_,zr,B,gJ (by decide) k,o,zr,hB,λC H1 m D F=>?_⟩;refine⟨_,rfl,b,rfl,⟨_,JT<|m _ _ hb⟩,uN (xs:=p.map JP) (λi g G=>ie λ(z:Ac) (v:Ag V)=>lG (g=[Aa<|.ref b,Aa<|.ref o,Aa<|.ref d,Aa<|.ref z,v]) (ag H G) (H z=none)<|WL G z<|rkP k (dc k Z)<|p.take i) ⟨C,_,rfl,m,D,F⟩ (λi g G _ z=>by obtain⟨_,_,_,z,_⟩:=z;exact JT<|z _ _ hb) ?_ ?_⟩
  .rintro i x g G hx ⟨z,v,rfl,J,nz,Y⟩;rw[bF]at hx;obtain⟨n,r,rfl⟩:=dq.mp hx;obtain⟨a,j⟩:=a2 n<|bJ r;rcases (hd.same J).get n with ⟨e,_⟩ | ⟨c0,u,s,I,L⟩
   .rw[j]at e;cases e
   rw[j]at s;cases s
   obtain⟨c,O⟩:=hB.same J;have M:dc k Z n=a:=by
    unfold dc;rw[j];rfl
   refine⟨_,zr,k,o,c,_,zr,O,gJ (by decide) k,_,zr,_,zr,_,zr,d,_,zr,I,o,z,u,_,a,W,zr,⟨c,O⟩,ok.hk,ok.rkP _,ok.good n a j,Y,L,λt N R S U=>?_⟩;refine⟨t,_,zr,J.trans R,J.free S,?_⟩;rw[bx,r];show WL N t<|rkP k (dc k Z)<|p.take i++ [n];rw[QM,M];exact U
  .rintro g G ⟨z,v,rfl,J,nz,Y⟩;rw[ai,bA]at Y;exact⟨_,zr,q z G J nz Y⟩
inductive yL (K:xA) (c:xE) (e:Ab V) (H:Hp) (Q:VK) (E:XK):Prop
 | mk:∀(p:Ac) (o:Ac) (d:Ac) (b:xD) (k:Kd) (f:Str->Ag Wo) (W:xD),(e=[.ref p,.ref o,.ref d])->(H p=Aa (.lst (b.map JP)))->(fc c H o k)->(WD H d f)->(gB W k f)->((∀n∈b,n.length<=1000))->(((∀n∈b,∃a,f n=Aa a)->∀H',ag H H'->Q .non H'))->(((∃n∈b,f n=none)->∀H',ag H H'->E (.ref (cA c "NoWorth")) none H'))->yL K c e H Q E
def RA(T:Txt K mg):ls P w K mg base 6 "ask_worths" ["names","by","worths"] (yL K mg):=by
 refine T.P_.okE wH (λy H Q E h=>?_) λf I A L s H y Q E c h=>?_
 .obtain⟨p,o,d,ns,k,f,W,rfl,_⟩:=h;rfl
 .obtain⟨p,o,d,ns,k,ff,W,rfl,hp,hB,hd,ok,nl,q,no⟩:=h;refine⟨_,qg<|cw En rfl (cB K<|pv 0) (qk (i:=3) wH.nd rfl<|Ax rfl)<|qg<|bQ (PW.pt<|kl (ni<|Re (cL c) (pv 3)<|pv 2)<|kb<|el<|dX<|kY (zX T) (hF T) c (pv 1)<|ak<|iF (cL c) (pv 2) (pv 3) λ_ _=>rfl) (qg<|yq lO T.he.new T.ub<|ak<|Wq (NL<|pv 3) gx) ci,?_⟩;refine⟨_,rfl,p,rfl,⟨_,JO hp⟩,fo (xs:=ns.map JP) (λi b G=>∃v,lH (b=[Aa<|.ref p,Aa<|.ref o,Aa<|.ref d,v]) (ag H G) (∀n∈ns.take i,∃v,ff n=Aa v)) ⟨_,rfl,JZ _,λ_ z=>nomatch z⟩ (λi b G _ z=>by obtain⟨_,_,z,_⟩:=z;exact JO<|z _ _ hp) ?_ ?_⟩
  .rintro i x b G hx ⟨v,rfl,J,Y⟩;rw[bF]at hx;obtain⟨z,g,rfl⟩:=dq.mp hx;have j:=bJ g;have l:=nl z j;rcases (hd.same J).get z with ⟨e,Z⟩ | ⟨a,u,m,Z,B⟩
   .refine⟨_,zr,_,zr,d,_,zr,Z,_,zr,fG rfl<|gy ?_⟩;exact⟨_,rfl,z,rfl,az l (by decide),_,rfl,az l (by decide),_,rfl,by decide,by show 1<=sizeLine;decide,no ⟨z,j,e⟩ _ J⟩
   .obtain⟨dx,O⟩:=hB.same J;have r:=ok.good z a m;obtain⟨C,D⟩:=rN r ok.hk ok.hW;refine⟨_,zr,_,zr,d,_,zr,Z,_,zr,fq rfl ?_⟩;refine⟨_,zr,k,o,dx,_,zr,O,gJ (by decide) k,_,zr,_,zr,d,_,zr,Z,o,.ref u,dW a,zr,⟨dx,O⟩,B.dat ok.hW r,D,λH2 F=>?_⟩;rw[C];refine⟨_,zr,eK ⟨_,zr,J.trans F,λn t=>?_⟩⟩;rw[bx,g]at t;rcases aF.mp t with h | h
    .exact Y n h
    .rw[aM.mp h];exact⟨a,m⟩
  .rintro b G ⟨v,rfl,J,Y⟩;rw[ai,bA]at Y;exact q Y _ J
inductive vL (K:xA) (b:xE) (c:Ab V) (H:Hp) (Q:VK) (E:XK):Prop
 | mk:∀(l:Ac) (o:Ac) (d:Ac) (Y:ar) (k:Kd) (f:Str->Ag Wo) (W:xD),(c=[.ref l,.ref o,.ref d])->(WA H l Y)->(fc b H o k)->(WD H d f)->(gB W k f)->((∀p∈Y,∀n∈p.1,n.length<=1000))->(((∀p∈Y,∀n∈p.1,∃a,f n=Aa a)->∀z H',ag H H'->H z=none->WL H' z (rkY k (dc k f) Y)->Q (.ref z) H'))->(((∃p∈Y,∃n∈p.1,f n=none)->∀H',ag H H'->E (.ref (cA b "NoWorth")) none H'))->vL K b c H Q E
def sP(T:Txt K mg):ls P w K mg base 7 "reckoned" ["why","by","worths"] (vL K mg):=by
 refine T.Vm.okE nK (λR H Q E h=>?_) λf s0 t0 u0 v0 H R Q E b h=>?_
 .obtain⟨l,o,d,Y,k,f,W,rfl,_⟩:=h;rfl
 .obtain⟨l,o,d,Y,k,ff,W,rfl,hl,hB,hd,ok,sh,q,no⟩:=h;refine⟨_,jD
   (cy<|tP (RA T) (tX lO) b rfl<|cZ (qr (vg T) b rfl<|ak<|pv 0) (pv 1)<|pv 2)
   (ql (i:=3) nK.nd rfl (Ax rfl)<|oU (rn T) (hF T) b<|pv 1)
   (cw En rfl (cB K<|pv 0) (ot rfl<|dQ (qk (i:=4) nK.nd rfl<|Ax rfl)<|dQ (qk (i:=5) nK.nd rfl<|Ax rfl) iS)<|qg<|ql (i:=3) nK.nd rfl (Ax rfl)<|kY (wm T) (hF T) b (pv 1)<|aD (pv 3)<|kY (UF T) (hF T) b (pv 1)<|aD (qr (Yg T) b rfl<|cZ (pv 4) (pv 1)<|pv 2)<|pv 5)
   (qi<|pv 3),?_⟩
  refine⟨_,zr,l,Y,zr,hl,λp S H1 m _ s t _=>?_⟩;refine⟨_,zr,_,zr,p,o,d,S,k,ff,W,zr,s,hB.same m,hd.same m,ok,λn g=>?_,λU H2 Z=>?_,λX H2 Z=>?_⟩
  .obtain⟨kv,J,j⟩:=(t.2 n).mp g;exact sh kv J n j
  .have a4:∀p∈Y,∀n∈p.1,∃v,ff n=Aa v:=λp s n g=>U n<|(t.2 n).mpr ⟨p,s,g⟩;have A:=m.trans Z;obtain⟨a,F⟩:=hB.same A;refine⟨_,zr,k,o,a,_,zr,F,gJ (by decide) k,o,zr,⟨a,F⟩,λa0 b0 c c0 d0=>?_⟩;have B:=A.trans c;obtain⟨xs,I,L,e0⟩:=hl.same B;have f0:=Paired.length L;refine⟨_,rfl,l,rfl,⟨_,JO I⟩,fo (xs:=xs) (λi r G=>hI λ(z:Ac) (v1:Ag V) (C:Ag V)=>lG (r=[Aa<|.ref l,Aa<|.ref o,Aa<|.ref d,Aa<|.ref z,v1,C]) (ag b0 G) (H z=none)<|WL G z<|rkY k (dc k ff)<|Y.take i) ⟨a0,_,_,rfl,JZ _,A.free c0,d0⟩ (λi r G _ z=>by obtain⟨_,_,_,_,z,_⟩:=z;exact JO<|z _ _ I) ?_ ?_⟩
   .rintro i x r G j ⟨z,v1,C,rfl,sg,nz,wz⟩;obtain⟨kv,J,g0⟩:=fC L j;obtain⟨w0,h0,rfl,i0,j0⟩:=g0.keep<|ag.keepT sg;have M:=bJ J;have D:=B.trans sg;obtain⟨a,O⟩:=hB.same D;have k0:0<=kv.2:=(e0.2 kv M).2.2.1;refine⟨_,_,zr,JT i0,zr,_,_,zr,_,_,zr,zr,?_⟩;refine⟨_,zr,k,o,a,_,zr,O,gJ (by decide) k,_,zr,_,zr,k,o,a,_,zr,O,gJ (by decide) k,_,zr,_,zr,_,zr,h0,o,d,kv.1,k,ff,W,zr,j0,⟨a,O⟩,hd.same D,ok,a4 kv M,λu x0 Z _ l0=>?_⟩;refine⟨_,zr,o,u,kv.2,_,W,zr,⟨a,Z _ _ O⟩,ok.hk,ok.rkP kv.1,l0,k0,λy y0 c _ m0=>?_⟩;refine⟨o,z,y,_,_,W,zr,⟨a,(Z.trans c) _ _ O⟩,ok.hk,ok.rkY _,Li ok.hW<|ok.rkP kv.1,wz.same<|Z.trans c,m0,λN n0 o0 p0 q0=>?_⟩;have r0:=Z.trans<|c.trans o0;refine⟨N,_,_,zr,sg.trans r0,(D.trans<|Z.trans c).free p0,?_⟩;rw[bx,J];show WL n0 N<|rkY k (dc k ff)<|Y.take i++ [kv];rw[Sd];exact q0
   .rintro r G ⟨z,v1,C,rfl,sg,nz,wz⟩;rw[f0,bA]at wz;exact⟨_,zr,q a4 z G (B.trans sg) nz wz⟩
  .obtain⟨n,g,e⟩:=X;obtain⟨kv,J,j⟩:=(t.2 n).mp g;exact no ⟨kv,J,n,j,e⟩ H2<|m.trans Z
end
def we(o:V)(a y z b:Ac):Ab (Str×V):=[("by",o),("prices",.ref a),("whys",.ref y),("worths",.ref z),("bearers",.ref b)]
def lN{a p:Ac}(h:DN P w H a [])(b:a≠p)(k:∀a o,a≠p->H a=Aa o->H2 a=Aa o):DN P w H2 a []:=by
 obtain⟨c,e,r⟩:=h;exact⟨c,k _ _ b e,by cases r;exact .nil⟩
variable{kvs:Ab (NK×V)}
def vm{a:Ac}(h:DN P w H a kvs):∃o,H a=Aa o:=let ⟨_,e,_⟩:=h;⟨_,e⟩
inductive Lv (P:Ai) (w:Al) (d:xE) (e:Ab V) (H:Hp) (Q:VK) (g:XK):Prop
 | mk:∀(a:Hp) (p:Ac) (f:Ac) (o:V),(e=[.ref p,o])->(ag a H)->(a p=none)->(H p=Aa (.ins (cA d "Ledger") f []))->(∀H' c y z b,ag a H'->H' p=Aa (.ins (cA d "Ledger") f (we o c y z b))->H' c=Aa (.dK [])->DN P w H' y []->DN P w H' z []->H' b=Aa (.dK [])->(c≠p/\y≠p/\z≠p/\b≠p)->(y≠c/\z≠c/\b≠c)->(z≠y/\b≠y/\b≠z)->(a c=none/\a y=none/\a z=none/\a b=none)->Q .non H')->Lv P w d e H Q g
def UU(T:Txt K mg):bh P w K mg base 1 (cA mg "Ledger") "__init__" ["self","by"] (Lv P w mg):=by
 refine T.Sx.ok Ym (λX H Q E h=>?_) λu0 v0 w0 x0 y0 H X Q E z0 h=>?_
 .obtain⟨H0,p,dx,o,rfl,_⟩:=h;rfl
 .obtain⟨H0,p,dx,o,rfl,s0,J,hp,k⟩:=h;refine⟨_,qH
   (kI (pv 0) (pv 1) rfl)
   (kI (pv 0) iP rfl)
   (kI (pv 0) (nB (P:=P) (w:=w)) rfl)
   (kI (pv 0) (nB (P:=P) (w:=w)) rfl)
   (kI (pv 0) iP rfl),?_⟩
  have c:∀{G:Hp} {a q:Ac} {x:HO},G q=Aa x->G a=none->a≠q:=λ{G a q x} a0 t b0=>by rw[b0,a0]at t;cases t
  refine⟨_,zr,_,zr,?_⟩;refine lL [] s0 J hp T.qo T.nC (by show 0 < 1000;decide) rfl rfl λH1 u Y _=>?_;refine λpr O=>?_;have v:=qc (o:=Kt []) O;refine⟨_,zr,?_⟩;refine lL ["by"] (u.trans v) J (v _ _ Y) T.qo T.pp (by show 1 < 1000;decide) rfl (by decide+kernel) λH2 A Z c0=>?_;have e:pr≠p:=c Y O;have d0:H0 pr=none:=u.free O;have B:H2 pr=Aa (.dK []):=c0 pr _ e qb;refine λy e0 i f0=>?_;have n:=qc (o:=e0) i;refine⟨_,zr,?_⟩;refine lL ["by","prices"] (A.trans n) J (n _ _ Z) T.qo T.kB (by show 2 < 1000;decide) rfl (by decide+kernel) λg0 C D F=>?_;have j:y≠p:=c Z i;have h0:y≠pr:=c B i;have I:g0 pr=Aa (.dK []):=F pr _ e<|n _ _ B;have L:=lN f0 j F;obtain⟨A0,i0⟩:=vm L;refine λz j0 f k0=>?_;have l:=qc (o:=j0) f;refine⟨_,zr,?_⟩;refine lL ["by","prices","whys"] (C.trans l) J (l _ _ D) T.qo T.lq (by show 3 < 1000;decide) rfl (by decide+kernel) λl0 M N r=>?_;have s:z≠p:=c D f;have m0:z≠pr:=c I f;have n0:z≠y:=c i0 f;have R:l0 pr=Aa (.dK []):=r pr _ e<|l _ _ I;have S:=lN (L.same l) j r;have U:=lN k0 s r;obtain⟨J0,o0⟩:=vm S;obtain⟨K0,p0⟩:=vm U;refine λb d=>?_;have g:=qc (o:=Kt []) d;refine⟨_,zr,?_⟩;refine lL ["by","prices","whys","worths"] (M.trans g) J (g _ _ N) T.qo T.pQ (by show 4 < 1000;decide) rfl (by decide+kernel) λq0 r0 t0 m=>?_;have W:b≠p:=c N d;exact k q0 pr y z b r0 t0 (m pr _ e<|g _ _ R) (lN (S.same g) j m) (lN (U.same g) s m) (m b _ W qb) ⟨e,j,s,W⟩ ⟨h0,m0,c R d⟩ ⟨n0,c o0 d,c p0 d⟩ ⟨d0,A.free i,C.free f,M.free d⟩
inductive wn (b:Ab V) (H:Hp) (Q:VK) (c:XK):Prop
 | mk:∀(p:Ac) (a:Wo) (W:xD) (k:Kd),(b=[.ref p])->(HOk W)->(bo W k a)->(WL H p a)->(∀q H',ag H H'->H q=none->WL H' q a->Q (.ref q) H')->wn b H Q c
def Lr(T:Txt K mg):bv P w K mg base 1 "own" ["worth"] wn:=by
 refine T.t_own.ok QX (λc H Q E h=>?_) λf g A i s H c Q E j h=>?_
 .obtain⟨p,a,W,k,rfl,_⟩:=h;rfl
 .obtain⟨p,a,W,k,rfl,hW,ga,wl,q⟩:=h;refine⟨_,qg<|qi<|ZK (dX<|qp (gv K) rfl T.fJ fS<|aD (pv 0)<|fY rfl T.gz gE) (eT (nA K) rfl T.gz gE<|ak<|pv 0)<|pv 0,?_⟩;obtain⟨zs,d,e⟩:=wl.lst;refine⟨_,rfl,_,_,_,rfl,wl.dat hW ga,by decide,_,rfl,fG (by cases a <;> rfl) ⟨_,rfl,p,zs,rfl,.inl<|JO d,λl b=>q l _ (qc b) b<|e _ _ (ag.keepT<|qc b) qb⟩⟩
theorem MF:∀{us:Ab af},(∀u∈us,ej u)->AB (NK.dats<|us.map Kq)=true/\Ka (us.map Kq)=0
 | [],_=>by
  rw[bP,NK.dats,Ka];exact⟨zr,zr⟩
 | u::us,h=>by
  have J:=MF (us:=us) λx a=>h x<|bb _ a;have b:=(h u (be ..)).tx;rw[au,NK.dats,Ka,Kh,J.2];refine⟨?_,zr⟩;rw[AB,J.1,Ix];cases u with
  | inl i=>rw[NK.dat];rfl
  | inr z=>rw[NK.dat];exact b.2
def hJ{p:PR}(g:fV p):cW (pN p):=by
 obtain⟨a,b⟩:=MF g.2.2;have c:=ej.tx (k:= .inr p.1) g.1;unfold pN cW
 constructor
 .rw[Kh,Ka,Kh,Ka,Kh,Ka,b];decide
 .rw[NK.dat,NK.dats,NK.dat,NK.dats,NK.dat,NK.dats,FI,AB,AB,FI,FI,a,show AW p.1=true from c.2];rfl
def fO(b:Ab (PR×V))(p:PR):ao (b.map λkv=>(pN kv.1,kv.2)) (pN p)=ao b p:=by
 induction b with
 | nil=>rfl
 | cons a r c=>
  rw[au];by_cases e:a.1=p
  .rw[dZ (p:=(pN a.1,a.2))<|Ba pN e,dZ e]
  .rw[dO (p:=(pN a.1,a.2)) λz=>e<|oE z,dO e,c]
def lg(b:Ab (PR×V))(p:PR)(v:V):aq (b.map λkv=>(pN kv.1,kv.2)) (pN p) v=(aq b p v).map λkv=>(pN kv.1,kv.2):=by
 unfold aq;rw[gc,gc,fO];split
 .rw[cr,cr];refine fT λa _=>?_;show (if pN a.1=pN p then _ else _)=_;by_cases e:a.1=p
  .rw[Ah<|Ba pN e];show _=(λkv:PR×V=>(pN kv.1,kv.2)) (if a.1=p then (a.1,v) else a);rw[Ah e]
  .rw[Ae λz=>e<|oE z];show _=(λkv:PR×V=>(pN kv.1,kv.2)) (if a.1=p then (a.1,v) else a);rw[Ae e]
 .rw[a_];rfl
section
variable{κ:Type}[Bh κ]
def yF(a:Ab (κ×V))(k:κ)(v:V):(aq a k v).map (·.1)=if (ao a k).isSome then a.map (·.1) else a.map (·.1)++ [k]:=by
 unfold aq;rw[gc];split
 .rw[cr];refine fT λx _=>?_;show (if x.1=k then (x.1,v) else x).1=x.1;split <;> rfl
 .rw[a_];rfl
def LR{a:Ab (κ×V)}{k:κ}{v:V}{x:κ}:x∈(aq a k v).map (·.1)↔x∈a.map (·.1)\/ x=k:=by
 rw[yF];cases e:ao a k with
 | none=>
  rw[Ae (by decide),aF,aM]
 | some u=>
  show (x∈a.map (·.1))↔_;exact⟨.inl,λz=>z.elim id λz=>by rw[z];exact nR e⟩
def Zh{a:Ab (κ×V)}{k:κ}{v:V}(h:(a.map (·.1)).Nodup):((aq a k v).map (·.1)).Nodup:=by
 rw[yF];cases e:ao a k with
 | none=>
  rw[Ae<|by decide];exact qL h<|wq e
 | some u=>
  exact h
theorem oW:∀(kvs:Ab (κ×V)) (k j:κ),ao (dt kvs k) j=if j=k then none else ao kvs j
 | [],k,j=>by
  show none=_;split <;> rfl
 | p::r,k,j=>by
  have J:=oW r k j;by_cases e:p.1=k
  .rw[mH e,J];by_cases a:j=k
   .rw[Ah a,Ah a]
   .rw[Ae a,Ae a,dO λz=>a<|z.symm.trans e]
  .rw[lK e];by_cases a:p.1=j
   .rw[dZ a,dZ a,Ae λz=>e<|a.trans z]
   .rw[dO a,dO a,J]
def ow{a:Ab (κ×V)}{k:κ}:k∈a.map (·.1)↔∃v,ao a k=Aa v:=by
 constructor
 .intro h;cases e:ao a k with
  | none=>exact Au h<|wq e
  | some v=>exact⟨v,rfl⟩
 .rintro ⟨v,h⟩;exact nR h
def xZ{a:Ab (κ×V)}{k x:κ}:x∈(dt a k).map (·.1)↔x∈a.map (·.1)/\x≠k:=by
 rw[ow,ow,oW];by_cases e:x=k
 .rw[Ah e];exact⟨λ⟨_,z⟩=>(by cases z),λz=>Au e z.2⟩
 .rw[Ae e];exact⟨λz=>⟨z,e⟩,λz=>z.1⟩
theorem mB:∀{l m:Ab κ},l.Nodup->(∀x∈l,x∈m)->l.length<=m.length
 | [],_,_,_=>ba _
 | x::l,m,h,a=>by
  obtain⟨d,f⟩:=dL.mp h;have b:=a x (be ..);have g:=mB (l:=l) (m:=m.erase x) f λy c=>(FG λe=>d (by rw[<- e];exact c)).mpr<|a y<|bb _ c;rw[Ev b]at g;have:=Fa b;rw[bz]
  lia
end
def nd:HO->Prop
 | .dK _=>Bj
 | .ext _=>Bj
 | _=>Ez
def ce(H b:Hp):Prop:=∀a o,nd o->H a=Aa o->b a=Aa o
def ce.trans{H3:Hp}(h:ce H1 H2)(g:ce H2 H3):ce H1 H3:=λa o n e=>g a o n<|h a o n e
def ce.up{c:Ac}{x o:HO}(h:H c=Aa x)(n:¬ nd x):ce H (upd H c o):=λa y b e=>by
 rw[qe (λz=>by rw[z,h]at e;cases e;exact n b)];exact e
def ce.kT(h:ce H H'):bD H H':=λ_ _ e=>h _ _ Ay e
def ce.wa{l:Ac}{Y:ar}(h:ce H H')(x:WA H l Y):WA H' l Y:=by
 obtain⟨a,b,c,d⟩:=x;exact⟨a,h _ _ Ay b,lE h.kT c,d⟩
def ce.nat{x:NK}{v:V}(h:ce H H')(e:ax H x v):ax H' x v:=e.keep h.kT
def gU{a:Ac}(h:DN P w H a kvs):∃x,H a=Aa x/\¬ nd x:=let ⟨_,e,_⟩:=h;⟨_,e,λz=>z⟩
def dh{a:Ac}(h:DN P w H a kvs):∃b,H a=Aa (.ext b):=let ⟨_,e,_⟩:=h;⟨_,e⟩
def pL(b:Ab (PR×V))(p:PR):dt (b.map λkv=>(pN kv.1,kv.2)) (pN p)=(dt b p).map λkv=>(pN kv.1,kv.2):=by
 induction b with
 | nil=>rfl
 | cons a r J=>
  rw[au];by_cases e:a.1=p
  .rw[mH (p:=(pN a.1,a.2))<|Ba pN e,mH e,J]
  .rw[lK (p:=(pN a.1,a.2)) λz=>e<|oE z,lK e,J,au]
def KF(F:Ac->Prop)(H b:Hp):Prop:=bD H b/\∀a o,F a->nd o->H a=Aa o->b a=Aa o
def ce.kf{F:Ac->Prop}(h:ce H H'):KF F H H':=⟨h.kT,λa o _ n e=>h a o n e⟩
def KF.wl{F:Ac->Prop}{p:Ac}{a:Wo}(k:KF F H H')(f:F p)(h:WL H p a):WL H' p a:=h.keep k.1 λzs e=>k.2 p _ f Ay e
def KF.wa{F:Ac->Prop}{p:Ac}{Y:ar}(k:KF F H H')(f:F p)(h:WA H p Y):WA H' p Y:=by
 obtain⟨a,b,c,d⟩:=h;exact⟨a,k.2 p _ f Ay b,lE k.1 c,d⟩
def KF.dn{F:Ac->Prop}{a:Ac}(h:KF F H H')(x:DN P w H a kvs)(e:H' a=H a):DN P w H' a kvs:=by
 obtain⟨b,c,d⟩:=x;exact⟨b,by rw[e];exact c,d.keeps h.1⟩
variable{κ:Type}
def dm(S:Ab κ)(a:Ab (κ×V)):Prop:=(a.map (·.1)).Nodup/\∀x∈a.map (·.1),x∈S
def Gv{a:Type}[Bh κ](e:a->κ)(F:Ac->Prop)(R:Ac->α->Prop)(b:Ab (κ×V))(g:a->Ag α):Prop:=(∀q,g q=none->ao b (e q)=none)/\∀q x,g q=Aa x->∃l,ao b (e q)=Aa (.ref l)/\R l x/\F l
section
variable{ι κ α:Type}[Bh κ][Bh ι]{e:ι->κ}{F F':Ac->Prop}{R R':Ac->α->Prop}{kvs:Ab (κ×V)}{g:ι->Ag α}{S:Ab κ}
def dm.put(h:dm S kvs){q:κ}{v:V}(a:q∈S):dm S (aq kvs q v):=⟨Zh h.1,λy b=>(LR.mp b).elim (h.2 y) λe=>by rw[e];exact a⟩
def dm.drop(h:dm S kvs){q:κ}:dm S (dt kvs q):=⟨vn h.1,λy a=>h.2 y (xZ.mp a).1⟩
theorem dm.len(h:dm S kvs)(l:S.length<=1000):kvs.length < sizeLine:=by
 have:=mB h.1 h.2;rw[ai]at this;exact cY (by lia)
omit [Bh ι] in
def Gv.imp(h:Gv e F R kvs g)(k:∀l x,F l->R l x->R' l x/\F' l):Gv e F' R' kvs g:=⟨h.1,λq x a=>by
 obtain⟨l,b,c,d⟩:=h.2 q x a;exact⟨l,b,k l x d c⟩⟩
def Gv.put(h:Gv e F R kvs g)(i:∀a b,e a=e b->a=b){q:ι}{l:Ac}{x:α}(r:R l x)(f:F l):Gv e F R (aq kvs (e q)<|.ref l) (λy=>if y=q then Aa x else g y):=by
 refine⟨λy c=>?_,λy z c=>?_⟩
 .dsimp only at c
  rw[gX];by_cases d:y=q
  .rw[Ah d]at c;cases c
  .rw[Ae d]at c;rw[Ae λz=>d<|i _ _ z];exact h.1 y c
 .dsimp only at c
  rw[gX];by_cases d:y=q
  .rw[Ah d]at c;cases c
   rw[Ah<|Ba e d];exact⟨l,zr,r,f⟩
  .rw[Ae d]at c;rw[Ae λz=>d<|i _ _ z];exact h.2 y z c
def Gv.drop(h:Gv e F R kvs g)(f:∀a b,e a=e b->a=b){q:ι}:Gv e F R (dt kvs<|e q) (λy=>if y=q then none else g y):=by
 refine⟨λy c=>?_,λy z c=>?_⟩
 .dsimp only at c
  rw[oW];by_cases d:y=q
  .rw[Ah<|Ba e d]
  .rw[Ae d]at c;rw[Ae λz=>d<|f _ _ z];exact h.1 y c
 .dsimp only at c
  by_cases d:y=q
  .rw[Ah d]at c;cases c
  .rw[Ae d]at c;rw[oW,Ae λz=>d<|f _ _ z];exact h.2 y z c
omit [Bh ι] in
def Gv.mem(h:Gv e F R kvs g)(q:ι):e q∈kvs.map (·.1)↔∃x,g q=Aa x:=by
 rw[ow]
 constructor
 .rintro ⟨v,O⟩;cases J:g q with
  | none=>
   rw[h.1 q J]at O;cases O
  | some x=>exact⟨x,rfl⟩
 .rintro ⟨x,J⟩;obtain⟨l,a,_⟩:=h.2 q x J;exact⟨_,a⟩
end
def Zk:∀a b:Str,(Aj a:af)=Aj b->a=b:=λ_ _ z=>Ef z
structure LA where
 p:Ac
 dx:Ac
 o:Ac
 pr:Ac
 y:Ac
 z:Ac
 b:Ac
def ft(W:xD)(H:Hp)(F:Ac->Prop)(a:Ac)(f:Str->Ag Wo):Prop:=∃kvs,H a=Aa (.dK kvs)/\dm (W.map Aj) kvs/\Gv Aj F (WL H) kvs f
def er(P:Ai)(w:Al)(b:Ab PR)(H:Hp)(F:Ac->Prop)(a:Ac)(g:PR->Ag ar):Prop:=∃kvs:Ab (PR×V),DP P w H a kvs/\dm b kvs/\Gv id F (WA H) kvs g
def oI(P:Ai)(w:Al)(b:Ab PR)(H:Hp)(F:Ac->Prop)(a:Ac)(h:PR->Ag Wo):Prop:=∃kvs:Ab (PR×V),DP P w H a kvs/\dm b kvs/\Gv id F (WL H) kvs h
def Xx(P:Ai)(w:Al)(b:Ab PR)(H:Hp)(a:Ac)(S:PR->Prop):Prop:=∃kvs:Ab (PR×V),DP P w H a kvs/\dm b kvs/\∀q,q∈kvs.map (·.1)↔S q
structure hg (P:Ai) (w:Al) (W:xD) (Ps:Ab PR) (H:Hp) (F:Ac->Prop) (A:LA) (B:Str->PR->Prop) (bks:Ab (af×V)):Prop where
 at_:H A.b=Aa (.dK bks)
 kin:dm (W.map Aj) bks
 has:∀n v,ao bks (Aj n)=Aa v->∃a,v= .ref a/\Xx P w Ps H a (B n)/\F a
 no:∀n,ao bks (Aj n)=none->∀q,¬ B n q
 inj:∀n m a,ao bks (Aj n)=Aa (.ref a)->ao bks (Aj m)=Aa (.ref a)->n=m
 nyz:∀n a,ao bks (Aj n)=Aa (.ref a)->a≠A.y/\a≠A.z
structure aQ (P:Ai) (w:Al) (mg:xE) (W:xD) (Ps:Ab PR) (H:Hp) (F:Ac->Prop) (A:LA) (k:Kd) (f:Str->Ag Wo) (g:PR->Ag ar) (h:PR->Ag Wo) (B:Str->PR->Prop):Prop where
 ins:H A.p=Aa (.ins (cA mg "Ledger") A.dx (we (.ref A.o) A.pr A.y A.z A.b))
 by_:fc mg H A.o k
 pri:ft W H F A.pr f
 why:er P w Ps H F A.y g
 wor:oI P w Ps H F A.z h
 bea:∃bks,hg P w W Ps H F A B bks
 d1:A.pr≠A.b
 d2:A.y≠A.z
 wl:W.length<=1000
 pl:Ps.length<=1000
 pg:∀q∈Ps,fV q
 fs:F A.p/\F A.o/\F A.pr/\F A.y/\F A.z/\F A.b
 al:∀a,F a->H a≠none
def Fn(F:Ac->Prop)(H b:Hp)(a:Ac):Prop:=(F a\/ H a=none)/\b a≠none
structure aG (F:Ac->Prop) (H H':Hp):Prop where
 st:∀a o,¬ F a->H a=Aa o->H' a=Aa o
 kt:bD H H'
 al:∀a,H a≠none->H' a≠none
section
variable{P:Ai}{w:Al}{mg:xE}{W:xD}{Ps:Ab PR}{H H':Hp}{F F':Ac->Prop}{A:LA}{k:Kd}{f:Str->Ag Wo}{g:PR->Ag ar}{h:PR->Ag Wo}{B:Str->PR->Prop}
def ft.keep{a:Ac}(x:ft W H F a f)(c:KF F H H')(d:∀a,F a->F' a)(e:H' a=H a):ft W H' F' a f:=by
 obtain⟨kvs,g,h,i⟩:=x;exact⟨kvs,by rw[e];exact g,h,i.imp λl x b r=>⟨c.wl b r,d l b⟩⟩
def er.keep{a:Ac}(x:er P w Ps H F a g)(b:KF F H H')(d:∀a,F a->F' a)(e:H' a=H a):er P w Ps H' F' a g:=by
 obtain⟨kvs,f,h,i⟩:=x;exact⟨kvs,b.dn f e,h,i.imp λl x c r=>⟨b.wa c r,d l c⟩⟩
def oI.keep{a:Ac}(x:oI P w Ps H F a h)(b:KF F H H')(d:∀a,F a->F' a)(e:H' a=H a):oI P w Ps H' F' a h:=by
 obtain⟨kvs,f,g,i⟩:=x;exact⟨kvs,b.dn f e,g,i.imp λl x c r=>⟨b.wl c r,d l c⟩⟩
def hg.keep{J:Ab (af×V)}(x:hg P w W Ps H F A B J)(b:KF F H H')(c:∀a,F a->F' a)(e:H' A.b=H A.b)(d:∀n a,ao J (Aj n)=Aa (.ref a)->H' a=H a):hg P w W Ps H' F' A B J:=by
 refine⟨by rw[e];exact x.at_,x.kin,λn v O=>?_,x.no,x.inj,x.nyz⟩;obtain⟨a,rfl,⟨kvs,f,g⟩,h⟩:=x.has n v O;exact⟨a,zr,⟨kvs,b.dn f<|d n a O,g⟩,c a h⟩
theorem aQ.keep(x:aQ P w mg W Ps H F A k f g h B)(p:bD H H')(e:∀a o,F a->H a=Aa o->H' a=Aa o)(b:∀a,F a->F' a)(q:∀a,F' a->H' a≠none):aQ P w mg W Ps H' F' A k f g h B:=by
 have c:KF F H H':=⟨p,λa o J _ z=>e a o J z⟩;have eq:∀{a},F a->H' a=H a:=λ{a} J=>by
  cases z:H a with
  | none=>exact Au z<|x.al a J
  | some o=>exact e a o J z
 obtain⟨d,Z,i,j,l,m⟩:=x.fs;obtain⟨O,Y⟩:=x.bea;obtain⟨r,s⟩:=x.by_;refine⟨e _ _ d x.ins,⟨r,e _ _ Z s⟩,x.pri.keep c b<|eq i,x.why.keep c b<|eq j,x.wor.keep c b<|eq l,⟨O,Y.keep c b (eq m) λn a t=>?_⟩,x.d1,x.d2,x.wl,x.pl,x.pg,⟨b _ d,b _ Z,b _ i,b _ j,b _ l,b _ m⟩,q⟩;obtain⟨v,u,_,J⟩:=Y.has n _ t;cases u
 exact eq J
def aQ.same(x:aQ P w mg W Ps H F A k f g h B)(s:ag H H'):aQ P w mg W Ps H' F A k f g h B:=x.keep (ag.keepT s) (λa o _ e=>s a o e) (λ_ z=>z) λa b z=>by
 cases e:H a with
 | none=>exact x.al a b e
 | some o=>
  rw[s a o e]at z;cases z
theorem aQ.up(x:aQ P w mg W Ps H F A k f g h B)(b:∀a,F a->F' a)(c:∀a,F' a->H a≠none):aQ P w mg W Ps H F' A k f g h B:=x.keep (λ_ _ e=>e) (λ_ _ _ e=>e) b c
def aQ.else_(x:aQ P w mg W Ps H F A k f g h B){c:Ac}{o:HO}(b:bD H (upd H c o))(d:¬ F c):aQ P w mg W Ps (upd H c o) F A k f g h B:=
 have e:∀a,F a->upd H c o a=H a:=λa J=>qe λz=>d (by rw[<- z];exact J)
 x.keep b (λa i J z=>by rw[e a J];exact z) (λ_ z=>z) λa J=>by rw[e a J];exact x.al a J
def aQ.imp{f':Str->Ag Wo}{g':PR->Ag ar}{h':PR->Ag Wo}{B':Str->PR->Prop}(x:aQ P w mg W Ps H F A k f g h B)(a:∀n,f n=f' n)(b:∀q,g q=g' q)(c:∀q,h q=h' q)(d:∀n q,B n q↔B' n q):aQ P w mg W Ps H F A k f' g' h' B':=by
 have e:f=f':=funext a;have i:g=g':=funext b;have j:h=h':=funext c;have l:B=B':=funext λn=>funext λq=>propext<|d n q;subst e i j l;exact x
def iB{c:Ac}{o:HO}(b:∀a,F a->H a≠none):∀a,F a->upd H c o a≠none:=λa d=>by
 by_cases e:a=c
 .rw[e,qb];exact nofun
 .rw[qe e];exact b a d
def ja{c:Ac}{b:Ab (af×V)}{o:HO}(d:H c=Aa (.dK b)):∀{a J},DN P w H a J->upd H c o a=H a:=λ{a J} e=>qe λz=>by
 obtain⟨f,e⟩:=dh e;rw[z,d]at e;cases e
def iI{c:Ac}{b:Ab (NK×V)}{o:HO}(d:DN P w H c b):∀{a J},H a=Aa (.dK J)->upd H c o a=H a:=λ{a J} e=>qe λz=>by
 obtain⟨g,f⟩:=dh d;rw[z,f]at e;cases e
def aQ.br(x:aQ P w mg W Ps H F A k f g h B){c:Ac}{o:HO}{b:Ab (af×V)}(d:H c=Aa (.dK b)){J:Ab (af×V)}(e:hg P w W Ps H F A B J):∀n a,ao J (Aj n)=Aa (.ref a)->upd H c o a=H a:=λn a i=>by
 obtain⟨m,j,⟨_,l,_⟩,_⟩:=e.has n _ i;cases j
 exact ja d l
def aQ.setY(x:aQ P w mg W Ps H F A k f g h B){o:HO}{c:Ab (PR×V)}{i:PR->Ag ar}(d:DP P w (upd H A.y o) A.y c)(m:dm Ps c)(p:Gv id F (WA H) c i):aQ P w mg W Ps (upd H A.y o) F A k f i h B:=by
 obtain⟨_,e,_⟩:=x.why;obtain⟨C,q⟩:=dh e;have b:KF F H (upd H A.y o):=ce.kf (.up q λz=>z);obtain⟨D,s,_⟩:=x.pri;obtain⟨J,O⟩:=x.bea;obtain⟨t,u⟩:=x.by_;exact⟨b.2 _ _ x.fs.1 Ay x.ins,⟨t,b.2 _ _ x.fs.2.1 Ay u⟩,x.pri.keep b (λ_ z=>z)<|iI e s,⟨c,d,m,p.imp λl y j r=>⟨b.wa j r,j⟩⟩,x.wor.keep b (λ_ z=>z)<|qe<|Bi x.d2,⟨J,O.keep b (λ_ z=>z) (iI e O.at_) λn a v=>qe (O.nyz n a v).1⟩,x.d1,x.d2,x.wl,x.pl,x.pg,x.fs,iB x.al⟩
def aQ.setZ(x:aQ P w mg W Ps H F A k f g h B){o:HO}{c:Ab (PR×V)}{i:PR->Ag Wo}(d:DP P w (upd H A.z o) A.z c)(m:dm Ps c)(p:Gv id F (WL H) c i):aQ P w mg W Ps (upd H A.z o) F A k f g i B:=by
 obtain⟨_,e,_⟩:=x.wor;obtain⟨C,q⟩:=dh e;have b:KF F H (upd H A.z o):=ce.kf (.up q λz=>z);obtain⟨D,s,_⟩:=x.pri;obtain⟨J,O⟩:=x.bea;obtain⟨t,u⟩:=x.by_;exact⟨b.2 _ _ x.fs.1 Ay x.ins,⟨t,b.2 _ _ x.fs.2.1 Ay u⟩,x.pri.keep b (λ_ z=>z)<|iI e s,x.why.keep b (λ_ z=>z)<|qe x.d2,⟨c,d,m,p.imp λl y j r=>⟨b.wl j r,j⟩⟩,⟨J,O.keep b (λ_ z=>z) (iI e O.at_) λn a v=>qe (O.nyz n a v).2⟩,x.d1,x.d2,x.wl,x.pl,x.pg,x.fs,iB x.al⟩
def aQ.setP(x:aQ P w mg W Ps H F A k f g h B){b:Ab (af×V)}{d:Str->Ag Wo}(i:dm (W.map Aj) b)(j:Gv Aj F (WL H) b d):aQ P w mg W Ps (upd H A.pr<|.dK b) F A k d g h B:=by
 obtain⟨q,c,_⟩:=x.pri;have a:KF F H (upd H A.pr<|.dK b):=ce.kf (.up c λz=>z);obtain⟨_,m,_⟩:=x.why;obtain⟨_,n,_⟩:=x.wor;obtain⟨J,O⟩:=x.bea;obtain⟨o,p⟩:=x.by_;exact⟨a.2 _ _ x.fs.1 Ay x.ins,⟨o,a.2 _ _ x.fs.2.1 Ay p⟩,⟨b,qb,i,j.imp λl y e r=>⟨a.wl e r,e⟩⟩,x.why.keep a (λ_ z=>z)<|ja c m,x.wor.keep a (λ_ z=>z)<|ja c n,⟨J,O.keep a (λ_ z=>z) (qe<|Bi x.d1)<|x.br c O⟩,x.d1,x.d2,x.wl,x.pl,x.pg,x.fs,iB x.al⟩
def aQ.setD(x:aQ P w mg W Ps H F A k f g h B){n:Str}{c:Ac}{o:HO}{i:Ab (PR×V)}{S:PR->Prop}{O:Ab (af×V)}(J:hg P w W Ps H F A B O)(e:ao O (Aj n)=Aa (.ref c))(d:DP P w (upd H c o) c i)(r:dm Ps i)(s:∀q,q∈i.map (·.1)↔S q):
  aQ P w mg W Ps (upd H c o) F A k f g h (λm q=>if m=n then S q else B m q):=by
 obtain⟨E,t,⟨_,j,_⟩,G⟩:=J.has n _ e;cases t
 obtain⟨I,u⟩:=dh j;have b:KF F H (upd H c o):=ce.kf (.up u λz=>z);obtain⟨K,y,_⟩:=x.pri;obtain⟨C,D⟩:=x.by_;have p:=J.nyz n c e;refine⟨b.2 _ _ x.fs.1 Ay x.ins,⟨C,b.2 _ _ x.fs.2.1 Ay D⟩,x.pri.keep b (λ_ z=>z)<|iI j y,x.why.keep b (λ_ z=>z)<|qe<|Bi p.1,x.wor.keep b (λ_ z=>z)<|qe<|Bi p.2,⟨O,by rw[iI j J.at_];exact J.at_,J.kin,λm v Y=>?_,λm l q=>?_,J.inj,J.nyz⟩,x.d1,x.d2,x.wl,x.pl,x.pg,x.fs,iB x.al⟩
 .obtain⟨a,rfl,hb,fa⟩:=J.has m v Y;by_cases Z:m=n
  .subst Z;rw[e]at Y;cases Y
   refine⟨_,zr,⟨i,d,r,λq=>?_⟩,fa⟩;show _↔if m=m then S q else B m q
   rw[Ah rfl];exact s q
  .obtain⟨a1,h1,h5,h6⟩:=hb;refine⟨a,rfl,⟨a1,b.dn h1 (qe λz=>Z<|J.inj m n a Y (by rw[z];exact e)),h5,λq=>?_⟩,fa⟩;show _↔if m=n then S q else B m q
   rw[Ae Z];exact h6 q
 .rw[Ae (λz=>by rw[z,e]at l;cases l)];exact J.no m l q
def aQ.setB(x:aQ P w mg W Ps H F A k f g h B){n:Str}{c:Ac}{J:Ab (af×V)}(Z:hg P w W Ps H F A B J)(e:ao J (Aj n)=none)(u:n∈W)(d:DP P w H c [])(nc:∀m,ao J (Aj m)≠Aa (.ref c))(y:c≠A.y/\c≠A.z)(C:F c):
  aQ P w mg W Ps (upd H A.b<|.dK<|aq J (Aj n)<|.ref c) F A k f g h B/\hg P w W Ps (upd H A.b<|.dK<|aq J (Aj n)<|.ref c) F A B (aq J (Aj n)<|.ref c):=by
 have l:=Z.at_;have i:KF F H (upd H A.b<|.dK<|aq J (Aj n)<|.ref c):=ce.kf (.up l λz=>z);obtain⟨_,D,_⟩:=x.why;obtain⟨_,E,_⟩:=x.wor;obtain⟨G,I⟩:=x.by_;have p:∀m,ao (aq J (Aj n)<|.ref c) (Aj m)=if m=n then Aa (.ref c) else ao J (Aj m):=λm=>by
  rw[gX];by_cases O:m=n
  .rw[Ah O,Ah<|Ba Aj O]
  .rw[Ae O,Ae λz=>O<|Ef z]
 have t:hg P w W Ps (upd H A.b<|.dK<|aq J (Aj n)<|.ref c) F A B (aq J (Aj n)<|.ref c):=by
  refine⟨qb,Z.kin.put<|aE.mpr ⟨n,u,zr⟩,λm v Y=>?_,λm o=>?_,λm r a b j=>?_,λm a Y=>?_⟩
  .rw[p]at Y;by_cases O:m=n
   .rw[Ah O]at Y;cases Y
    exact⟨c,rfl,⟨[],i.dn d<|ja l d,⟨dH,λ_ z=>nomatch z⟩,λq=>⟨(λz=>nomatch z),λz=>Au z<|Z.no m (by rw[O];exact e) q⟩⟩,C⟩
   .rw[Ae O]at Y;obtain⟨a,rfl,⟨K,b,L⟩,M⟩:=Z.has m v Y;exact⟨a,zr,⟨K,i.dn b<|ja l b,L⟩,M⟩
  .rw[p]at o;by_cases O:m=n
   .rw[Ah O]at o;cases o
   .rw[Ae O]at o;exact Z.no m o
  .rw[p]at b j;by_cases s:m=n
   .by_cases e2:r=n
    .rw[s,e2]
    .rw[Ah s]at b;rw[Ae e2]at j;cases b
     exact Au j<|nc r
   .by_cases e2:r=n
    .rw[Ae s]at b;rw[Ah e2]at j;cases j
     exact Au b<|nc m
    .rw[Ae s]at b;rw[Ae e2]at j;exact Z.inj m r a b j
  .rw[p]at Y;by_cases O:m=n
   .rw[Ah O]at Y;cases Y
    exact y
   .rw[Ae O]at Y;exact Z.nyz m a Y
 exact⟨⟨i.2 _ _ x.fs.1 Ay x.ins,⟨G,i.2 _ _ x.fs.2.1 Ay I⟩,x.pri.keep i (λ_ z=>z)<|qe x.d1,x.why.keep i (λ_ z=>z)<|ja l D,x.wor.keep i (λ_ z=>z)<|ja l E,⟨_,t⟩,x.d1,x.d2,x.wl,x.pl,x.pg,x.fs,iB x.al⟩,t⟩
def aQ.fn(x:aQ P w mg W Ps H F A k f g h B):aQ P w mg W Ps H (Fn F H H) A k f g h B:=x.up (λa J=>⟨.inl J,x.al a J⟩) λ_ z=>z.2
end
def aG.refl(F:Ac->Prop)(H:Hp):aG F H H:=⟨λ_ _ _ e=>e,λ_ _ e=>e,λ_ e=>e⟩
def aG.of{F:Ac->Prop}(s:ag H H'):aG F H H':=⟨λa o _ e=>s a o e,ag.keepT s,λa n z=>by
 cases e:H a with
 | none=>exact n e
 | some o=>
  rw[s a o e]at z;cases z⟩
def aG.same{F:Ac->Prop}(h:aG F H H1)(s:ag H1 H2):aG F H H2:=⟨λa o n e=>s a o<|h.st a o n e,λb c e=>s _ _<|h.kt b c e,λa n=>(aG.of (F:=F) s).al a<|h.al a n⟩
variable{o:HO}
def aG.put{F:Ac->Prop}{c:Ac}(h:aG F H H1)(J:F c\/ H c=none)(f:∃x,H1 c=Aa x/\¬ nd x):aG F H (upd H1 c o):=by
  obtain⟨x,g,i⟩:=f;refine⟨λa y n e=>?_,λb d e=>ce.kT (.up g i) b d<|h.kt b d e,λa n=>?_⟩
  · rw[qe (λz=>by
      subst z;rcases J with J | J
      · exact n J
      · rw[J]at e
        cases e)]
    exact h.st a y n e
  · by_cases e:a=c
    · rw[e,qb]
      exact nofun
    · rw[qe e]
      exact h.al a n
def aG.new{F:Ac->Prop}(c:aG F H H1){a:Ac}(z:H1 a=none):H a=none:=by
 cases e:H a with
 | none=>rfl
 | some o=>exact Au z<|c.al a (by rw[e];exact nofun)
def aG.then{F L:Ac->Prop}(h:aG F H H1)(sub:∀a,L a->F a\/ H a=none)(k:aG L H1 H2):aG F H H2:=⟨λa o n e=>k.st a o (λz=>(sub a z).elim n λy=>by rw[e]at y;cases y)<|h.st a o n e,λb c e=>k.kt b c<|h.kt b c e,λa n=>k.al a<|h.al a n⟩
theorem Fn.sub{F L:Ac->Prop}{H b d:Hp}{a:Ac}(c:aG F H b)(sub:∀a,L a->F a\/ H a=none)(h:Fn L b d a):Fn F H d a:=⟨h.1.elim (sub a) λz=> .inr<|c.new z,h.2⟩
def aG.back{F:Ac->Prop}(s:ag H H1)(h:aG F H1 H2):aG F H H2:=⟨λa o n e=>h.st a o n<|s _ _ e,λb c e=>h.kt b c<|s _ _ e,λa n=>h.al a<|(aG.of (F:=F) s).al a n⟩
inductive xQ (P:Ai) (w:Al) (b:xE) (c:Ab V) (H:Hp) (Q:VK) (d:XK):Prop
 | mk:∀(W:xD) (U:xD) (e:Ab PR) (F:Ac->Prop) (A:LA) (k:Kd) (f:Str->Ag Wo) (g:PR->Ag ar) (h:PR->Ag Wo) (B:Str->PR->Prop) (r:Ac) (q:PR),(c=[.ref A.p,.str q.1,.ref r])->(aQ P w b W e H F A k f g h B)->(H r=Aa (.tup (q.2.map kV)))->(fV q)->(HOk U)->((∀a,h q=Aa a->bo U k a))->(∀l H',ag H H'->H l=none->WL H' l ((h q).getD (eN k))->Q (.ref l) H')->xQ P w b c H Q d
def MC(T:Txt K mg):bh P w K mg base 3 (cA mg "Ledger") "worth" ["self","table","row"] (xQ P w mg):=by
 refine T.Sc.ok YQ (λx H Q E h=>?_) λf G A I s H x Q E d h=>?_
 .obtain⟨W,U,Ps,F,A,k,f,g,h,B,r,q,rfl,_⟩:=h;rfl
 .obtain⟨W,U,Ps,F,A,k,ff,g,hh,B,r,q,rfl,L,a1,pg,Z,hok,Y⟩:=h;refine⟨_,qg<|qi<|qr (Lr T) d rfl<|ak<|ya (P:=P) (w:=w) d.units (cD (pv 0) rfl) (qy<|aD (pv 1)<|pv 2) (oU (rn T) (hF T) d<|cD (pv 0) rfl) ⟨zr,zr,zr,zr⟩,?_⟩;obtain⟨m,n,_,p⟩:=L.wor;refine⟨_,zr,A.p,_,A.dx,_,_,zr,L.ins,T.qo,T.lq,zr,A.z,zr,⟨_,n⟩,?_⟩;refine⟨_,rfl,_,rfl,by show 2<=sizeLine;decide,λa y=>?_⟩;have c:=qc (o:=JY [JP q.1,JU r]) y;obtain⟨t,O⟩:=L.by_.same c;refine⟨_,zr,A.p,_,A.dx,_,_,zr,c _ _ L.ins,T.qo,T.nC,zr,k,A.o,t,_,zr,O,gJ (by decide) k,A.o,zr,⟨t,O⟩,λz H2 v M C=>?_⟩;have J:=c.trans v;refine⟨a,_,pN q,zr,Kl J n,ax.same v<|fI.mpr ⟨r,qb,c _ _ a1⟩,hJ pg,?_⟩;rw[fO];cases e:hh q with
  | none=>
   rw[show ao m q=none from p.1 q e];rw[e]at Y;exact⟨z,_,U,k,zr,Z,mU Z,C,λl H' i j b=>Y l H' (J.trans i) (J.free j) b⟩
  | some u=>
   obtain⟨l,D,b,_⟩:=p.2 q u e;rw[show ao m q=_ from D];rw[e]at Y;exact⟨l,_,U,k,zr,Z,hok u e,b.same J,λl H' i j b=>Y l H' (J.trans i) (J.free j) b⟩
def jd(Y:ar)(n:Str):Prop:=∃kv∈Y,n∈kv.1
def ZJ{Y:ar}{c:xD}(h:Mf Y c):c.Nodup:=h.1.imp λ{a b} e z=>by
 rw[z]at e;have d:JS b b=false:=bT.irr b;rw[d]at e;cases e
def aQ.nf{W:xD}{b:Ab PR}{F:Ac->Prop}{A:LA}{k:Kd}{f:Str->Ag Wo}{g:PR->Ag ar}{h:PR->Ag Wo}{B:Str->PR->Prop}(x:aQ P w mg W b H F A k f g h B){a:Ac}(e:H a=none):¬ F a:=λz=>x.al a z e
inductive Ms (P:Ai) (w:Al) (b:xE) (d:Ab V) (H:Hp) (Q:VK) (e:XK):Prop
 | mk:∀(W:xD) (c:Ab PR) (F:Ac->Prop) (A:LA) (k:Kd) (f:Str->Ag Wo) (g:PR->Ag ar) (h:PR->Ag Wo) (B:Str->PR->Prop) (q:PR) (Y:ar) (a:Ac) (u:Wo),(d=[.ref A.p,.ref a])->(aQ P w b W c H F A k f g h B)->(ax H (pN q) (.ref a))->(q∈c)->(g q=Aa Y)->(h q=Aa u)->((∀n,B n q↔jd Y n))->(∀H',aQ P w b W c H' F A k f (λx=>if x=q then none else g x) (λx=>if x=q then none else h x) (λn x=>B n x/\x≠q)->aG F H H'->Q .non H')->Ms P w b d H Q e
theorem WN(T:Txt K mg):bh P w K mg base 2 (cA mg "Ledger") "take_out" ["self","pair"] (Ms P w mg):=by
 refine T.Rm.ok Ma (λf0 H Q g0 h=>?_) λh0 S0 A T0 U0 H f0 Q g0 b h=>?_
 .obtain⟨W,Ps,F,A,k,h0,g,h,B,q,Y,a,u,rfl,_⟩:=h;rfl
 .obtain⟨W,Ps,F,A,k,ff,g,hh,B,q,Y,a,u,rfl,L,hq,a7,gq,hu,hB,kk⟩:=h;have O:cW (pN q):=hJ<|L.pg q a7;refine⟨_,em
   (cw AL rfl (cB K<|qr (vg T) b rfl<|ak<|oD (P:=P) (w:=w) b.units (cD (pv 0) rfl) (pv 1) λ_ _=>rfl) (qk (i:=2) Ma.nd rfl<|Ax rfl)<|qg<|cy<|o_ (P:=P) (w:=w) b.units (iF (cL b) (cD (pv 0) rfl) (pv 2) λ_ _=>rfl) (pv 1) ⟨rfl,rfl,rfl,rfl⟩)
   (cy<|o_ (P:=P) (w:=w) b.units (cD (pv 0) rfl) (pv 1) ⟨rfl,rfl,rfl,rfl⟩)
   (cy<|o_ (P:=P) (w:=w) b.units (cD (pv 0) rfl) (pv 1) ⟨rfl,rfl,rfl,rfl⟩),?_⟩
  obtain⟨i0,j0,V0,k0⟩:=L.why;obtain⟨l0,m0,n0,_⟩:=k0.2 q Y gq;refine⟨_,zr,A.p,_,A.dx,_,_,zr,L.ins,T.qo,T.kB,zr,_,zr,A.y,a,_,pN q,_,zr,zr,j0,hq,O,(fO i0 q).trans m0,l0,Y,zr,n0,λp ns H1 d o0 N Z _=>?_⟩;have p0:=L.same d;have q0:=ZJ Z;have r0:¬ F p:=L.nf o0;refine⟨p,rfl,⟨_,JO N⟩,fo (xs:=ns.map JP) (λi j G=>∃v,lH (j=[Aa<|.ref A.p,Aa<|.ref a,v]) (aQ P w mg W Ps G F A k ff g hh λn x=>B n x/\(n∈ns.take i->x≠q))<|aG F H1 G) ⟨none,rfl,p0.imp (λ_=>rfl) (λ_=>rfl) (λ_=>rfl) λn x=>⟨λz=>⟨z,λy=>nomatch y⟩,λz=>z.1⟩,aG.refl _ _⟩ (λi j G _ z=>?_) ?_ ?_⟩
  .obtain⟨v,_,_,c⟩:=z;exact JO<|c.st _ _ r0 N
  .rintro i x j G hx ⟨v,rfl,J,c⟩;rw[bF]at hx;obtain⟨n,l,rfl⟩:=dq.mp hx;have s0:n∈ns:=bJ l;have t0:=(bR.mp l).1;have R:n∉ns.take i:=λz=>by
    obtain⟨u0,v0,e⟩:=pG z;rw[bt]at v0;rw[k_]at e;have w0:ns[i]=n:=(bR.mp l).2;exact gA.mp q0 u0 i (by lia) t0 (by lia)<|e.trans w0.symm
   have U:B n q:=(hB n).mpr<|(Z.2 n).mp s0;obtain⟨x0,r⟩:=J.bea;cases s:ao x0 (Aj n) with
   | none=>exact Au ⟨U,λz=>Au z R⟩<|r.no n s q
   | some y0=>
    obtain⟨t,rfl,⟨z0,E,A0,X⟩,H0⟩:=r.has n y0 s;have a0:=Kn (k:=Aj n) r.at_;rw[s]at a0;obtain⟨W0,J0⟩:=ow.mp<|(X q).mpr ⟨U,λz=>Au z R⟩;refine⟨_,zr,A.p,_,A.dx,_,_,zr,J.ins,T.qo,T.pQ,zr,_,zr,A.b,_,zr,a0,t,zr,⟨_,E⟩,_,zr,a,_,pN q,_,zr,E,(hq.same d).keep c.kt,O,(fO z0 q).trans J0,λo f=>?_⟩;rw[pL]at f;refine⟨_,zr,(J.setD (S:=λy=>B n y/\y≠q) r s f A0.drop λy=>?_).imp (λ_=>rfl) (λ_=>rfl) (λ_=>rfl) λm y=>?_,c.put (.inl H0)<|gU E⟩
    .rw[xZ,X];exact⟨λz=>⟨z.1.1,z.2⟩,λz=>⟨⟨z.1,λ_=>z.2⟩,z.2⟩⟩
    .rw[bx,l];show (if m=n then _ else _)↔_/\(m∈ns.take i++ [n]->y≠q);rw[aF,aM];by_cases C:m=n
     .rw[Ah C,C];exact⟨λz=>⟨z.1,λ_=>z.2⟩,λz=>⟨z.1,z.2<|.inr rfl⟩⟩
     .rw[Ae C];exact⟨λz=>⟨z.1,λy=>y.elim z.2 λy=>Au y C⟩,λz=>⟨z.1,λy=>z.2<|.inl y⟩⟩
  .rintro j G ⟨v,rfl,J,c⟩;rw[ai,bA]at J;have K0:=(hq.same d).keep c.kt;have J:=J.imp (λ_=>rfl) (λ_=>rfl) (λ_=>rfl) (B':=λn x=>B n x/\x≠q) λn x=>⟨λz=>⟨z.1,λe=>by
    have b0:=z.1;rw[e]at b0;exact z.2 ((Z.2 n).mpr<|(hB n).mp b0) e⟩,λz=>⟨z.1,λ_=>z.2⟩⟩
   obtain⟨L0,I,M0,c0⟩:=J.why;obtain⟨l2,N0,_⟩:=c0.2 q Y gq;refine⟨_,zr,A.p,_,A.dx,_,_,zr,J.ins,T.qo,T.kB,zr,A.y,zr,⟨_,I⟩,_,zr,a,_,pN q,_,zr,I,K0,O,(fO L0 q).trans N0,λo f=>?_⟩;rw[pL]at f;have D:=J.setY f M0.drop<|c0.drop (λ_ _ z=>z) (q:=q);have t:=c.put (c:=A.y) (o:=o) (.inl J.fs.2.2.2.1)<|gU I;have O0:=(hq.same d).keep t.kt;generalize upd G A.y o=X0 at*;obtain⟨P0,M,Q0,d0⟩:=D.wor;obtain⟨l3,R0,_⟩:=d0.2 q u hu;refine⟨_,zr,A.p,_,A.dx,_,_,zr,D.ins,T.qo,T.lq,zr,A.z,zr,⟨_,M⟩,_,zr,a,_,pN q,_,zr,M,O0,O,(fO P0 q).trans R0,λY0 e0=>?_⟩;rw[pL]at e0;exact kk _ (D.setZ e0 Q0.drop<|d0.drop (λ_ _ z=>z) (q:=q))<|.back d<|t.put (.inl D.fs.2.2.2.2.1)<|gU M
inductive KJ (P:Ai) (w:Al) (b:xE) (d:Ab V) (H:Hp) (Q:VK) (e:XK):Prop
 | mk:∀(W:xD) (c:Ab PR) (F:Ac->Prop) (A:LA) (k:Kd) (f:Str->Ag Wo) (g:PR->Ag ar) (h:PR->Ag Wo) (B:Str->PR->Prop) (q:PR) (Y:ar) (a:Ac) (l:Ac) (z:Ac) (u:Wo),(d=[.ref A.p,.ref a,.ref l,.ref z])->(aQ P w b W c H F A k f g h B)->(ax H (pN q) (.ref a))->(q∈c)->(WA H l Y)->(F l)->(WL H z u)->(F z)->((∀n,jd Y n->n∈W))->(∀H',aQ P w b W c H' (Fn F H H') A k f (λx=>if x=q then Aa Y else g x) (λx=>if x=q then Aa u else h x) (λn x=>B n x\/ x=q/\jd Y n)->aG F H H'->Q .non H')->KJ P w b d H Q e
def Oo(T:Txt K mg):bh P w K mg base 2 (cA mg "Ledger") "take_in" ["self","pair","why","worth"] (KJ P w mg):=by
 refine T.Vn.ok qY (λQ0 H Q R0 h=>?_) λS0 t1 A u1 w1 H Q0 Q R0 M h=>?_
 .obtain⟨W,Ps,F,A,k,S0,g,h,B,q,Y,a,l,z,u,rfl,_⟩:=h;rfl
 .obtain⟨W,Ps,F,A,k,ff,g,hh,B,q,Y,a,l,zl,u,rfl,L,hq,a3,wl,fl,wz,fz,hW,kk⟩:=h;have N:cW (pN q):=hJ<|L.pg q a3;refine⟨_,em
   (lR (P:=P) (w:=w) M.units (cD (pv 0) rfl) (pv 1) (pv 2) rfl)
   (lR (P:=P) (w:=w) M.units (cD (pv 0) rfl) (pv 1) (pv 3) rfl)
   (cw AL rfl (cB K<|qr (vg T) M rfl<|ak<|pv 2) (qk (i:=4) qY.nd rfl<|Ax rfl)<|eg
   (ql (i:=5) qY.nd rfl (Ax rfl)<|sR (cD (pv 0) rfl) (pv 4) (nB (P:=P) (w:=w)) ⟨rfl,rfl,rfl,rfl⟩)
   (lR (P:=P) (w:=w) M.units (pv 5) (pv 1) cM rfl)),?_⟩
  obtain⟨x1,g0,q0,T0⟩:=L.why;obtain⟨y1,U0⟩:=dh g0;refine⟨_,rfl,_,rfl,A.p,_,A.dx,_,_,rfl,L.ins,T.qo,T.kB,rfl,_,rfl,A.y,a,_,pN q,rfl,rfl,g0,hq,N,by rw[ai];exact q0.len L.pl,λo R=>?_⟩;rw[lg]at R;have U:=L.setY R (q0.put a3)<|T0.put (λ_ _ z=>z) (q:=q) wl fl;have V0:aG F H (upd H A.y o):=(aG.refl _ H).put (.inl L.fs.2.2.2.1)<|gU g0;have h0:ce H (upd H A.y o):= .up U0 λz=>z;generalize upd H A.y o=H1 at*;obtain⟨z1,i0,r0,W0⟩:=U.wor;obtain⟨A1,X0⟩:=dh i0;refine⟨_,rfl,_,rfl,A.p,_,A.dx,_,_,rfl,U.ins,T.qo,T.lq,rfl,_,rfl,A.z,a,_,pN q,rfl,rfl,i0,h0.nat hq,N,by rw[ai];exact r0.len L.pl,λj0 s0=>?_⟩;rw[lg]at s0;have t0:=U.setZ s0 (r0.put a3)<|W0.put (λ_ _ z=>z) (q:=q) (h0.kf.wl fz wz) fz;have r:=V0.put (c:=A.z) (o:=j0) (.inl U.fs.2.2.2.2.1)<|gU i0;have Y0:ce H (upd H1 A.z j0):=h0.trans (.up X0 λz=>z);generalize upd H1 A.z j0=H2 at*;refine⟨_,zr,l,Y,zr,Y0.wa wl,λp ns d u0 Z0 v0 k0 _=>?_⟩;have a1:=t0.same u0;have t:=r.same u0;have w0:=hq.keep t.kt;have b1:¬ F p:=t0.nf Z0;refine⟨p,rfl,⟨_,JO v0⟩,fo (xs:=ns.map JP) (λi X G=>ie λv1 a0=>lH (X=[Aa<|.ref A.p,Aa<|.ref a,Aa<|.ref l,Aa<|.ref zl,v1,a0]) (aQ P w mg W Ps G (Fn F d G) A k ff (λx=>if x=q then Aa Y else g x) (λx=>if x=q then Aa u else hh x) λn x=>B n x\/ x=q/\n∈ns.take i)<|aG F d G) ⟨none,none,rfl,a1.fn.imp (λ_=>rfl) (λ_=>rfl) (λ_=>rfl) λn x=>⟨.inl,λz=>z.elim id λz=>nomatch z.2⟩,aG.refl _ _⟩ (λi X G _ z=>?_) ?_ ?_⟩
  .obtain⟨v1,a0,_,_,c⟩:=z;exact JO<|c.st _ _ b1 v0
  .rintro i x X G hx ⟨v1,a0,rfl,LG,c⟩;rw[bF]at hx;obtain⟨n,x0,rfl⟩:=dq.mp hx;have c1:n∈ns:=bJ x0;have d1:n∈W:=hW n<|(k0.2 n).mp c1;have y0:∀m y,(if m=n then B n y\/ y=q\/ y=q/\n∈ns.take i else B m y\/ y=q/\m∈ns.take i)↔B m y\/ y=q/\m∈ns.take (i+1):=λm y=>by
    rw[bx,x0];show _↔_\/ _/\m∈ns.take i++ [n];rw[aF,aM];by_cases b0:m=n
    .rw[Ah b0,b0];exact⟨λz=>z.elim .inl λz=> .inr ⟨z.elim id λz=>z.1,.inr rfl⟩,λz=>z.elim .inl λz=> .inr<|.inl z.1⟩
    .rw[Ae b0];exact⟨λz=>z.elim .inl λz=> .inr ⟨z.1,.inl z.2⟩,λz=>z.elim .inl λz=> .inr ⟨z.1,z.2.elim id λz=>Au z b0⟩⟩
   have z0:∀(O:Ab (PR×V)),(∀y,y∈O.map (·.1)↔B n y\/ y=q/\n∈ns.take i)->∀y,y∈(aq O q<|Ke true).map (·.1)↔B n y\/ y=q\/ y=q/\n∈ns.take i:=λO C y=>by
    rw[LR,C];exact⟨λz=>z.elim (λz=>z.elim .inl λz=> .inr<|.inr z) λz=> .inr<|.inl z,λz=>z.elim (λz=> .inl<|.inl z) λz=>z.elim .inr λz=> .inl<|.inr z⟩
   obtain⟨J,Z⟩:=LG.bea;refine⟨_,zr,A.p,_,A.dx,_,_,zr,LG.ins,T.qo,T.pQ,zr,A.b,zr,.inl ⟨_,.inl Z.at_⟩,_,zr,λe f l0 R=>?_⟩;have j:=qc (o:=f) l0;have m0:=c.same j;have A0:¬ Fn F d G e:=LG.nf l0;have H0:d e=none:=by
    cases e1:d e with
    | none=>rfl
    | some x=>exact Au l0<|c.al e (by rw[e1];exact nofun)
   have LE:aQ P w mg W Ps (upd G e f) (Fn F d<|upd G e f) A k ff (λx=>if x=q then Aa Y else g x) (λx=>if x=q then Aa u else hh x) (λn x=>B n x\/ x=q/\n∈ns.take i):=(LG.same j).up (λb z=>⟨z.1,(aG.of (F:=F) j).al b z.2⟩) λ_ z=>z.2;obtain⟨G1,I1,J1,f1,g1,h1⟩:=LG.fs;have s:hg P w W Ps (upd G e f) (Fn F d<|upd G e f) A (λn x=>B n x\/ x=q/\n∈ns.take i) J:=Z.keep ⟨ag.keepT j,λa o _ _ z=>j a o z⟩ (λb z=>⟨z.1,(aG.of (F:=F) j).al b z.2⟩) (by rw[Z.at_,j _ _ Z.at_]) λm a n0=>by
    obtain⟨i1,o0,⟨_,j1,_⟩,_⟩:=Z.has m _ n0;cases o0
    obtain⟨K1,J0⟩:=dh j1;rw[J0,j _ _ J0]
   have k1:upd G e f e≠none:=by rw[qb];exact nofun
   have l1:ax (upd G e f) (pN q) (.ref a):=w0.keep m0.kt;have p0:∀{c0 d0:Hp} {r:Ac} {e0:HO},d0=upd c0 r e0->∀b,Fn F d c0 b->Fn F d d0 b:=λ{c0 d0 r e0} m1 b z=>⟨z.1,by
    rw[m1];exact iB (F:=λa=>c0 a≠none) (λ_ y=>y) b z.2⟩
   refine⟨_,Aj n,s.at_,rfl,s.kin.len (by rw[ai];exact L.wl),λv f0=>?_,λf0=>?_⟩
   .obtain⟨r,rfl,⟨O,D,E,C⟩,K0⟩:=s.has n v f0;refine⟨_,rfl,_,rfl,r,a,_,pN q,rfl,rfl,D,l1,N,by rw[ai];exact E.len L.pl,λe0 I=>?_⟩;rw[lg]at I;exact⟨_,_,zr,((LE.setD (S:=λy=>B n y\/ y=q\/ y=q/\n∈ns.take i) s f0 I (E.put a3)<|z0 O C).imp (λ_=>rfl) (λ_=>rfl) (λ_=>rfl) y0).up (p0 rfl) λ_ z=>z.2,m0.put K0.1<|gU D⟩
   .have ny:∀{b},Fn F d G b->e≠b:=λ{b} n1 z=>A0 (by rw[z];exact n1);obtain⟨o1,L0⟩:=LE.setB s f0 d1 R (λm n0=>by
     obtain⟨i1,o0,_,p1⟩:=Z.has m _ n0;cases o0
     exact A0 p1) ⟨ny f1,ny g1⟩ ⟨.inr H0,k1⟩
    have M0:=m0.put (c:=A.b) (o:= .dK<|aq J (Aj n)<|.ref e) h1.1 ⟨_,s.at_,λz=>z⟩;have N0:ao (aq J (Aj n)<|.ref e) (Aj n)=Aa (.ref e):=by rw[gX,Ah rfl]
    have q1:=p0 (rfl:upd (upd G e f) A.b (.dK<|aq J (Aj n)<|.ref e)=_);have r1:=w0.keep M0.kt;generalize upd (upd G e f) A.b (.dK<|aq J (Aj n)<|.ref e)=d0 at*;obtain⟨r,s1,⟨O,D,E,C⟩,K0⟩:=L0.has n _ N0;cases s1
    refine⟨_,rfl,_,rfl,e,a,_,pN q,rfl,rfl,D,r1,N,by rw[ai];exact E.len L.pl,λe0 I=>?_⟩;rw[lg]at I;exact⟨_,_,zr,((o1.setD (S:=λy=>B n y\/ y=q\/ y=q/\n∈ns.take i) L0 N0 I (E.put a3)<|z0 O C).imp (λ_=>rfl) (λ_=>rfl) (λ_=>rfl) y0).up (λb z=>p0 rfl b<|q1 b z) λ_ z=>z.2,M0.put (.inr H0)<|gU D⟩
  .rintro X G ⟨v1,a0,rfl,LG,c⟩;rw[ai,bA]at LG;have cA:aG F H G:=⟨λb x O0 e=>c.st b x O0<|t.st b x O0 e,λb P0 e=>c.kt b P0<|t.kt b P0 e,λb n=>c.al b<|t.al b n⟩;refine kk G ((LG.imp (λ_=>rfl) (λ_=>rfl) (λ_=>rfl) λn x=>?_).up (λb z=>⟨z.1.elim .inl λy=>?_,z.2⟩) λ_ z=>z.2) cA
   .exact⟨λz=>z.elim .inl λz=> .inr ⟨z.1,(k0.2 n).mp z.2⟩,λz=>z.elim .inl λz=> .inr ⟨z.1,(k0.2 n).mpr z.2⟩⟩
   .cases eb:H b with
    | none=>exact .inr rfl
    | some x=>exact Au y<|t.al b (by rw[eb];exact nofun)
def hY(W:xD)(Y:ar):Prop:=∀kv∈Y,∀n∈kv.1,n∈W/\n.length<=1000
def iO(f:Str->Ag Wo)(Y:ar):Prop:=∀p∈Y,∀n∈p.1,∃v,f n=Aa v
def jd.inW{W:xD}{Y:ar}(h:hY W Y){n:Str}(i:jd Y n):n∈W:=let ⟨kv,a,b⟩:=i;(h kv a n b).1
theorem sw{b:Type}{f a:Wo->b->Wo}:∀(l:Ab b) (z:Wo),(∀x∈l,∀z,f z x=a z x)->l.foldl f z=l.foldl a z
 | [],_,_=>rfl
 | x::l,z,h=>by
  show l.foldl f (f z x)=l.foldl a (a z x);rw[h x (be ..) z];exact sw l _ λy c=>h y<|bb _ c
def Us{k:Kd}{g a:Str->Wo}(Y:ar)(h:∀kv∈Y,∀n∈kv.1,g n=a n):rkY k g Y=rkY k a Y:=
 sw Y _ λkv J z=>by
  show iW k z (jl k (rkP k g kv.1) kv.2)=iW k z (jl k (rkP k a kv.1) kv.2);rw[show rkP k g kv.1=rkP k a kv.1 from sw kv.1 _ λn b z=>by rw[h kv J n b]]
def dE(f:Str->Ag Wo)(n:Str)(v:Wo):Str->Ag Wo:=λm=>if m=n then Aa v else f m
def fy(g:PR->Ag ar)(n:Str)(q:PR):Prop:=∃Y,g q=Aa Y/\jd Y n
def cj(k:Kd)(f:Str->Ag Wo)(g:PR->Ag ar)(q:PR):Ag Wo:=(g q).map<|rkY k<|dc k f
def lz{k:Kd}{f:Str->Ag Wo}{g:PR->Ag ar}{q:PR}{Y:ar}(e:g q=Aa Y):cj k f g q=Aa (rkY k (dc k f) Y):=by
 unfold cj;rw[e];rfl
def mq{k:Kd}{f:Str->Ag Wo}{g:PR->Ag ar}{q:PR}(e:g q=none):cj k f g q=none:=by
 unfold cj;rw[e];rfl
structure cx (P:Ai) (w:Al) (mg:xE) (W U:xD) (Ps:Ab PR) (H:Hp) (F:Ac->Prop) (A:LA) (k:Kd) (f:Str->Ag Wo) (g:PR->Ag ar):Prop where
 led:aQ P w mg W Ps H F A k f g (cj k f g) (fy g)
 ok:gB U k f
 sm:∀q Y,g q=Aa Y->hY W Y/\iO f Y
def sO{lt:PR->PR->AJ}(l:Ab PR):(JQ lt l).length=l.length:=(JW lt l).length_eq
def js(H:Hp)(x:V)(p:PR):Prop:=∃b,x=JU b/\ax H (pN p) (.ref b)
def ft.wd{W:xD}{F:Ac->Prop}{a:Ac}{f:Str->Ag Wo}(h:ft W H F a f):WD H a f:=by
 obtain⟨kvs,b,_,J⟩:=h;refine⟨kvs,b,J.1,λz a e=>?_⟩;obtain⟨l,c,d,_⟩:=J.2 z a e;exact⟨l,c,d⟩
inductive vO (P:Ai) (w:Al) (K:xA) (b:xE) (e:Ab V) (H:Hp) (Q:VK) (E:XK):Prop
  | mk:∀(W:xD) (U:xD) (h:Ab PR) (F:Ac->Prop) (A:LA) (k:Kd) (f:Str->Ag Wo) (g:PR->Ag ar) (n:Str) (x:V) (d:AQ),(e=[.ref A.p,.str n,x])->(cx P w b W U h H F A k f g)->(n∈W)->(n.length<=1000)->(ay K H d x)->(gL d)->(((∃p a,x= .ref p/\d=dW a/\WL H p a/\bo U k a/\∀H' l zs c,cx P w b W U h H' (Fn F H H') A k (dE f n a) g->aG F H H'->H l=none->H' l=Aa (.lst zs)->Paired (js H') zs (JQ aO c)->c.Nodup->(∀q,q∈c↔fy g n q)->Q (.ref l) H')\/
   (fh k d=false/\∀H',ag H H'->E (.ref (cA b "NoWorth")) none H')))->vO P w K b e H Q E
def MS(T:Txt K mg):ko P w K mg base 8 (cA mg "Ledger") "price" ["self","name","worth"] (vO P w K mg):=by
 refine T.Px.okE sV (λV0 H Q W0 h=>?_) λf J1 A K1 L1 H V0 Q W0 s h=>?_
 .obtain⟨W,U,Ps,F,A,k,f,g,n,x,d,rfl,_⟩:=h;rfl
 .obtain⟨W,U,Ps,F,A,k,ff,g,n,x,d,rfl,L,nW,nl,d0,b5,yn⟩:=h;obtain⟨p0,q0⟩:=L.led.by_;refine⟨_,qH
   (bQ (el<|dX<|kY (zX T) (hF T) s (cD (pv 0) rfl)<|ak<|pv 2) (qg<|yq lO T.he.new T.ub<|ak<|Xh gx (NL<|pv 1) gx) ci)
   (jQ (cL s) (cD (pv 0) rfl) (pv 1) (qr (Lr T) s rfl<|ak<|pv 2) rfl)
   (ql (i:=3) sV.nd rfl (Ax rfl)<|qr (Lc T) s rfl<|ak<|Sw (cL s) (cD (pv 0) rfl) (pv 1) (nB (P:=P) (w:=w)) ⟨rfl,rfl,rfl,rfl⟩)
   (cw En rfl (cB K<|pv 3) (qk (i:=4) sV.nd rfl<|Ax rfl)<|qg<|lR (P:=P) (w:=w) s.units (cD (pv 0) rfl) (pv 4) (tP (sP T) (tX lO) s rfl<|cZ (oD (P:=P) (w:=w) s.units (cD (pv 0) rfl) (pv 4) λ_ _=>rfl) (cD (pv 0) rfl)<|cD (pv 0) rfl) rfl)
   (qi<|pv 3),?_⟩
  refine⟨_,zr,A.p,_,A.dx,_,_,zr,L.led.ins,T.qo,T.nC,zr,k,A.o,p0,_,zr,q0,gJ (by decide) k,_,zr,A.o,x,d,zr,⟨p0,q0⟩,d0,b5,λH1 M=>?_⟩;rcases yn with ⟨p,a,rfl,rfl,e0,f0,g0⟩ | ⟨X0,Y0⟩
  .obtain⟨f1,_⟩:=rN f0 L.ok.hk L.ok.hW;rw[f1];refine⟨_,zr,eK ?_⟩;refine⟨_,zr,p,a,U,k,zr,L.ok.hW,f0,e0.same M,λp2 H2 Z0 a1 r0=>?_⟩;have h0:=M.trans Z0;have i0:=(L.led.same h0).up (F':=Fn F H H2) (λb s0=>⟨.inl s0,(L.led.same h0).al b s0⟩) λ_ z=>z.2;have b1:Fn F H H2 p2:=⟨.inr<|M.free a1,by
    obtain⟨_,e,_⟩:=r0.lst;rw[e];exact nofun⟩
   obtain⟨t0,j,u0,c1⟩:=i0.pri;refine⟨_,rfl,A.p,_,A.dx,_,_,rfl,i0.ins,T.qo,T.pp,rfl,_,rfl,A.pr,_,rfl,e_.k (k:=Aj n) j<|u0.len (by rw[ai];exact L.led.wl),?_⟩;have D:=i0.setP (u0.put<|aE.mpr ⟨n,nW,rfl⟩)<|c1.put Zk (q:=n) r0 b1;have ok:gB U k (dE ff n a):=⟨L.ok.hk,L.ok.hW,λz v e=>by
    unfold dE at e;by_cases E:z=n
    .rw[Ah E]at e;cases e
     exact f0
    .rw[Ae E]at e;exact L.ok.good z v e⟩
   have v0:∀q Y,g q=Aa Y->hY W Y/\iO (dE ff n a) Y:=λq Y e=>⟨(L.sm q Y e).1,λp j m t=>by
    unfold dE;by_cases E:m=n
    .exact⟨a,Ah E⟩
    .rw[Ae E];exact(L.sm q Y e).2 p j m t⟩
   have w0:aG F H (upd H2 A.pr<|.dK<|aq t0 (Aj n)<|.ref p2):=(aG.of h0).put (.inl L.led.fs.2.2.1) ⟨_,j,λz=>z⟩;have sub:∀b,Fn F H H2 b->F b\/ H b=none:=λ_ z=>z.1;generalize upd H2 A.pr (.dK<|aq t0 (Aj n)<|.ref p2)=d1 at*;generalize N1:Fn F H H2=u at*;obtain⟨x0,N⟩:=D.bea;refine⟨_,zr,A.p,_,A.dx,_,_,zr,D.ins,T.qo,T.pQ,zr,A.b,zr,.inl ⟨_,.inl N.at_⟩,_,zr,λe y0 e1 g1=>?_⟩;have B:=qc (o:=y0) e1;obtain⟨c,J,h1,d0,z0,A0⟩:∃c J,(ao x0<|Aj n).getD (.ref e)= .ref c/\DP P w (upd d1 e y0) c J/\dm Ps J/\∀q,q∈J.map (·.1)↔fy g n q:=by
    cases R:ao x0 (Aj n) with
    | none=>exact⟨e,[],rfl,g1,⟨dH,λ_ z=>nomatch z⟩,λq=>⟨(λz=>nomatch z),λz=>Au z<|N.no n R q⟩⟩
    | some v=>
     obtain⟨a,rfl,⟨J,i1,j1,k1⟩,_⟩:=N.has n v R;exact⟨a,J,zr,Kl B i1,j1,k1⟩
   refine⟨_,Kn (k:=Aj n)<|B _ _ N.at_,c,J,by rw[h1];rfl,d0,λp j=>D.pg p<|z0.2 p j,λl zs I j0 l0 k0 m1=>?_⟩;have n1:=(D.same B).same j0;have H0:=(w0.same B).same j0;have m0:Paired (js I) zs (JQ aO (J.map (·.1))):=JX m1 λ_ _ ⟨b,e,h⟩=>⟨b,e,h.same j0⟩;have J0:∀q,q∈JQ aO (J.map (·.1))↔fy g n q:=λq=>((JW aO _).mem_iff).trans<|A0 q;have K0:¬ u l:=(D.same B).nf l0;have g0:=λH'=>g0 H' l zs (J.map (·.1));generalize JQ aO (J.map (·.1))=S at*;have o1:=Paired.length m0;refine⟨_,rfl,l,rfl,⟨_,JO k0⟩,fo (xs:=zs) (λi X G=>ie λ(n0:Ag V) (C:PR->Ag Wo)=>pP (X=[Aa<|.ref A.p,Aa<|.str n,Aa<|.ref p,Aa<|.ref l,n0]) (aQ P w mg W Ps G (Fn u I G) A k (dE ff n a) g C<|fy g) (aG u I G) ((∀q∈S.take i,C q=cj k (dE ff n a) g q)) (∀q,C q=cj k (dE ff n a) g q\/ C q=cj k ff g q)) ⟨none,cj k ff g,rfl,n1.fn,aG.refl _ _,(λ_ z=>nomatch z),λ_=> .inr rfl⟩ (λi X G _ z=>?_) ?_ ?_⟩
   .obtain⟨v,_,_,_,c,_⟩:=z;exact JO<|c.st _ _ K0 k0
   .rintro i y X G a0 ⟨n0,C,rfl,Z,cg,done,O⟩;obtain⟨q,L0,b,rfl,p1⟩:=fC m0 a0;have b0:q∈S:=bJ L0;obtain⟨Y,r,O1⟩:=(J0 q).mp b0;obtain⟨q1,r1⟩:=v0 q Y r;have M0:=p1.keep cg.kt;obtain⟨s1,t1,u1,v1⟩:=Z.why;obtain⟨l1,N0,e0,_⟩:=v1.2 q Y r;have O0:q∈Ps:=u1.2 q<|nR N0;have P0:cW (pN q):=hJ<|Z.pg q O0;refine⟨_,zr,A.p,_,A.dx,_,_,zr,Z.ins,T.qo,T.kB,zr,_,zr,A.y,b,_,pN q,_,zr,zr,t1,M0,P0,(fO s1 q).trans N0,_,zr,A.p,_,A.dx,_,_,zr,Z.ins,T.qo,T.nC,zr,_,zr,A.p,_,A.dx,_,_,zr,Z.ins,T.qo,T.pp,zr,l1,A.o,A.pr,Y,k,dE ff n a,U,zr,e0,Z.by_,Z.pri.wd,ok,λp j m t=>(q1 p j m t).2,λP1 z o0 c0 w1 Q0=>?_,λx1=>?_⟩
    .have L6:=(Z.same c0).up (F':=Fn u I o0) (λb z=>⟨z.1,(aG.of (F:=u) c0).al b z.2⟩) λ_ z=>z.2;have y1:=cg.same c0;have z1:=M0.same c0;obtain⟨Q1,R0,S0,A1⟩:=L6.wor;refine⟨_,rfl,A.p,_,A.dx,_,_,rfl,L6.ins,T.qo,T.lq,rfl,_,rfl,A.z,b,_,pN q,rfl,rfl,R0,z1,P0,by rw[ai];exact S0.len Z.pl,λo T0=>?_⟩;rw[lg]at T0;have U0:=lz (k:=k) (f:=dE ff n a) r;have G1:Fn u I o0 z:=⟨.inr<|cg.new w1,by
      obtain⟨_,e,_⟩:=Q0.lst;rw[e];exact nofun⟩
     refine⟨_,_,zr,(L6.setZ T0 (S0.put O0)<|A1.put (λ_ _ z=>z) (q:=q) Q0 G1).up (λb z=>⟨z.1,iB (F:=λa=>o0 a≠none) (λ_ y=>y) b z.2⟩) λ_ z=>z.2,y1.put L6.fs.2.2.2.2.1.1<|gU R0,λy a0=>?_,λy=>?_⟩
     .show (if y=q then _ else _)=_;by_cases e:y=q
      .rw[Ah e,e,U0]
      .rw[Ae e];rw[bx,L0]at a0;rcases aF.mp a0 with h | h
       .exact done y h
       .exact Au (aM.mp h) e
     .show (if y=q then _ else _)=_\/ (if y=q then _ else _)=_;by_cases e:y=q
      .rw[Ah e,e,U0];exact .inl rfl
      .rw[Ae e];exact O y
    .obtain⟨p,j,m,t,e⟩:=x1;obtain⟨v,R⟩:=r1 p j m t;rw[R]at e;cases e
   .rintro X G ⟨n0,C,rfl,Z,cg,done,O⟩;rw[o1,bA]at done;refine⟨_,zr,g0 G ⟨(Z.imp (λ_=>rfl) (λ_=>rfl) (λq=>?_) λ_ _=>I0).up (λb z=>z.sub H0 sub) λ_ z=>z.2,ok,v0⟩ (H0.then sub cg) ((w0.same B).new l0) (cg.st _ _ K0 k0) (JX m0 λ_ _ ⟨b,e,h⟩=>⟨b,e,h.keep cg.kt⟩) z0.1 A0⟩;by_cases b0:q∈S
    .exact done q b0
    .rcases O q with h | h
     .exact h
     .rw[h];cases r:g q with
      | none=>rw[mq r,mq r]
      | some Y=>
       rw[lz r,lz r];refine Ba Aa (Us Y λkv I1 m t=>?_);unfold dc dE;rw[Ae λe=>b0<|(J0 q).mpr ⟨Y,r,kv,I1,by rw[<- e];exact t⟩]
  .rw[X0];exact⟨_,rfl,gy ⟨_,rfl,by decide,_,rfl,n,rfl,az nl (by decide),_,rfl,az nl (by decide),_,rfl,by decide,by show 1<=sizeLine;decide,Y0 _ M⟩⟩
def fW(g:PR->Ag ar)(q:PR)(Y:ar):PR->Ag ar:=λx=>if x=q then (if Y=[] then none else Aa Y) else g x
def LW{l:Ac}{Y:ar}(h:WA H l Y)(a:bD H H')(e:∀o,H l=Aa o->H' l=Aa o):WA H' l Y:=by
 obtain⟨b,c,d,f⟩:=h;exact⟨b,e _ c,lE a d,f⟩
inductive rx (P:Ai) (w:Al) (a:xE) (c:Ab V) (H:Hp) (Q:VK) (E:XK):Prop
 | mk:∀(W:xD) (U:xD) (b:Ab PR) (F:Ac->Prop) (A:LA) (k:Kd) (f:Str->Ag Wo) (g:PR->Ag ar) (q:PR) (Y:ar) (r:Ac) (l:Ac),(c=[.ref A.p,.str q.1,.ref r,.ref l])->(cx P w a W U b H F A k f g)->(q∈b)->(H r=Aa (.tup (q.2.map kV)))->(WA H l Y)->(¬ F l)->(hY W Y)->((iO f Y->∀H',cx P w a W U b H' (Fn F H H') A k f (fW g q Y)->aG F H H'->Q .non H'))->(((∃p∈Y,∃n∈p.1,f n=none)->∀H',ag H H'->E (.ref (cA a "NoWorth")) none H'))->rx P w a c H Q E
def xh(T:Txt K mg):ko P w K mg base 8 (cA mg "Ledger") "enter" ["self","table","row","why"] (rx P w mg):=by
  refine T.Td.okE sN (λu0 H Q v0 h=>?_) λw0 h1 A i1 j1 H u0 Q v0 E h=>?_
  · obtain⟨W,i0,I,F,A,k,w0,g,q,Y,r,l,rfl,_⟩:=h
    rfl
  · obtain⟨W,i0,I,F,A,k,O,g,q,Y,r,l,rfl,L,S,x0,j0,y0,U,X,z0⟩:=h
    have A0:cW (pN q):=hJ<|L.led.pg q S;refine uk 3 (λk0 G=>ie λ(a:Ac) (z:Ac)=>oq (k0=[Aa<|.ref A.p,Aa<|.str q.1,Aa<|.ref r,Aa<|.ref l,Aa<|.ref z,Aa<|.ref a]) (iO O Y) (aQ P w mg W I G F A k O (λx=>if x=q then none else g x) (λx=>if x=q then none else cj k O g x) λn x=>fy g n x/\x≠q) (aG F H G) (ax G (pN q)<|.ref a) (WL G z<|rkY k (dc k O) Y)<|H z=none) ⟨_,qg<|bQ (fF (vD E.units K) (pv 3) (qu ck)<|du _) (qg<|cy<|ig (Oo T) T.qo E (pv 0)<|cZ (pv 5) (eT (nA K) rfl T.gz gE<|ak<|pv 3)<|pv 4) ci,?_⟩ λu H0 m0=>⟨_,xz
      (ql (i:=4) sN.nd rfl (Ax rfl)<|tP (sP T) (tX lO) E rfl<|cZ (pv 3) (cD (pv 0) rfl)<|cD (pv 0) rfl)
      (ql (i:=5) sN.nd rfl (Ax rfl)<|qy<|aD (pv 1)<|pv 2)
      (bQ (ni<|Ts (P:=P) (w:=w) E.units (pv 5)<|cD (pv 0) rfl) (qg<|cy<|ig (WN T) T.qo E (pv 0)<|ak<|pv 5) ci)
      H0,?_⟩
    · rintro k0 G ⟨a,z,rfl,B,J0,a0,C,b0,K0⟩
      have L0:=LW j0 a0.kt λo e=>a0.st l o y0 e;refine⟨_,zr,by decide,λe M0=>?_⟩;have y:=qc (o:=JR []) M0;have LE:=J0.same y;have D:=L0.same y;have c0:=a0.same y;have N0:=C.same y;have O0:=b0.same y;refine⟨.list<|gM Y,.list [],D.dat,.lst (JO qb) .nil,KO Y,_,zr,?_⟩;have d0:∀x J,fW g q Y x=Aa J->hY W J/\iO O J:=λx J e=>by
        unfold fW at e;by_cases d:x=q
        · rw[Ah d]at e
          by_cases s:Y=[]
          · rw[Ah s]at e
            cases e
          · rw[Ae s]at e
            cases e
            exact⟨U,B⟩
        · rw[Ae d]at e
          exact L.sm x J e
      generalize upd G e (.lst [])=n0 at*;by_cases s:Y=[]
      · have e0:(!PyData.eqv (.list<|gM Y) (.list []))=false:=by rw[s];rfl
        rw[e0];have P0:fW g q Y=λx=>if x=q then none else g x:=by
          funext x
          unfold fW;rw[Ah s]
        rw[P0]at d0 X;refine eK<|X B _ ⟨(LE.imp (λ_=>rfl) (λ_=>rfl) (λx=>?_) λn x=>?_).up (λb m=>⟨.inl m,LE.al b m⟩) λ_ z=>z.2,L.ok,d0⟩ c0
        · show (if x=q then none else cj k O g x)=(if x=q then none else g x).map _
          by_cases d:x=q
          · rw[Ah d,Ah d]
            rfl
          · rw[Ae d,Ae d]
            rfl
        · constructor
          · rintro ⟨⟨J,f,j⟩,f0⟩
            exact⟨J,by show (if x=q then none else g x)=_;rw[Ae f0];exact f,j⟩
          · rintro ⟨J,f,j⟩
            replace f:(if x=q then none else g x)=Aa J:=f
            by_cases d:x=q
            · rw[Ah d]at f
              cases f
            · rw[Ae d]at f
              exact⟨⟨J,f,j⟩,d⟩
      · have e0:(!PyData.eqv (.list<|gM Y) (.list []))=true:=by
          cases Y with
          | nil=>exact Au rfl s
          | cons a r=>rfl
        rw[e0];refine gy ?_;have Q0:=D.lst;refine⟨_,zr,A.p,A.dx,_,zr,LE.ins,zr,_,zr,_,zr,l,_,zr,.inl<|JO Q0,λc g0=>?_⟩;have v:=qc (o:=JR D.xs) g0;have o0:=c0.same v;have R0:=D.copy g0;have S0:=N0.same v;have p0:=O0.same v;have T0:=c0.new g0;have U0:upd n0 c (.lst D.xs) c≠none:=by rw[qb];exact nofun
        have V0:=(LE.same v).up (F':=λb=>F b\/ b=z\/ b=c) (λ_=> .inl) λb m=>by
          rcases m with m | rfl | rfl
          · exact(LE.same v).al b m
          · obtain⟨_,e,_⟩:=p0.lst
            rw[e];exact nofun
          · exact U0
        have sub:∀b,(F b\/ b=z\/ b=c)->F b\/ H b=none:=λb m=>by
          rcases m with m | rfl | rfl
          · exact .inl m
          · exact .inr K0
          · exact .inr T0
        generalize upd n0 c (.lst D.xs)=k1 at*;refine⟨_,zr,W,I,_,A,k,O,_,_,_,q,Y,a,c,z,_,zr,V0,S0,S,R0,.inr<|.inr rfl,p0,.inr<|.inl rfl,λn W0=>W0.inW U,λH' X0 Y0=>?_⟩;refine X B H' ⟨(X0.imp (λ_=>rfl) (λx=>?_) (λx=>?_) λn x=>?_).up (λb z=>z.sub o0 sub) λ_ z=>z.2,L.ok,d0⟩<|o0.then sub Y0
        · show (if x=q then Aa Y else if x=q then none else g x)=if x=q then _ else g x
          rw[Ae s];by_cases d:x=q
          · rw[Ah d,Ah d]
          · rw[Ae d,Ae d,Ae d]
        · show (if x=q then Aa _ else if x=q then none else cj k O g x)=((if x=q then (if Y=[] then none else Aa Y) else g x)).map _
          rw[Ae s];by_cases d:x=q
          · rw[Ah d,Ah d]
            rfl
          · rw[Ae d,Ae d,Ae d]
            rfl
        · show ((fy g n x/\x≠q)\/ x=q/\jd Y n)↔fy _ n x
          unfold fy fW;rw[Ae s]
          constructor
          · rintro (⟨⟨J,f,j⟩,f0⟩ | ⟨d,j⟩)
            · exact⟨J,by rw[Ae f0];exact f,j⟩
            · exact⟨Y,by rw[Ah d],j⟩
          · rintro ⟨J,f,j⟩
            by_cases d:x=q
            · rw[Ah d]at f
              cases f
              exact .inr ⟨d,j⟩
            · rw[Ae d]at f
              exact .inl ⟨⟨J,f,j⟩,d⟩
    · refine⟨_,zr,_,zr,A.p,_,A.dx,_,_,zr,L.led.ins,T.qo,T.nC,zr,_,zr,A.p,_,A.dx,_,_,zr,L.led.ins,T.qo,T.pp,zr,l,A.o,A.pr,Y,k,O,i0,zr,j0,L.led.by_,L.led.pri.wd,L.ok,λp Z0 a1 b1=>(U p Z0 a1 b1).2,λB z H1 y h0 b0=>?_,z0⟩
      refine⟨_,rfl,_,rfl,by show 2<=sizeLine;decide,λa c1=>?_⟩;have v:=qc (o:=JY [JP q.1,JU r]) c1;have M:=y.trans v;have Z:=L.led.same M;have C:ax (upd H1 a<|.tup [JP q.1,JU r]) (pN q) (.ref a):=fI.mpr ⟨r,qb,M _ _ x0⟩;have q0:=b0.same v;have d1:¬ F z:=L.led.nf h0;generalize upd H1 a (.tup [JP q.1,JU r])=H2 at*;obtain⟨r0,e1,l1,s0⟩:=Z.why;refine⟨_,zr,_,zr,A.p,_,A.dx,_,_,zr,Z.ins,T.qo,T.kB,zr,A.y,a,_,pN q,zr,zr,e1,C,A0,_,zr,?_⟩;rw[fO];cases t:g q with
      | none=>
        rw[show ao r0 q=none from s0.1 q t];refine eK<|m0 _ _ ⟨a,z,zr,B,Z.imp (λ_=>rfl) (λx=>?_) (λx=>?_) λn x=>?_,aG.of M,C,q0,h0⟩
        · show _=if x=q then none else g x
          by_cases e:x=q
          · rw[Ah e,e,t]
          · rw[Ae e]
        · show _=if x=q then none else cj k O g x
          by_cases e:x=q
          · rw[Ah e,e,mq t]
          · rw[Ae e]
        · refine⟨λz=>⟨z,λe=>?_⟩,λz=>z.1⟩
          obtain⟨N,t0,_⟩:=z;rw[e,t]at t0;cases t0
      | some N=>
        obtain⟨l0,f1,m1,_⟩:=s0.2 q N t;rw[show ao r0 q=_ from f1];refine gy ?_;refine⟨_,zr,A.p,A.dx,_,zr,Z.ins,zr,_,zr,W,I,F,A,k,O,g,cj k O g,fy g,q,N,a,_,zr,Z,C,S,t,lz t,λn=>?_,λn1 g1 R=>?_⟩
        · exact⟨λ⟨o1,f,j⟩=>by rw[t]at f;cases f;exact j,λh=>⟨N,t,h⟩⟩
        · exact m0 _ _ ⟨a,z,zr,B,g1,.back M R,C.keep R.kt,q0.keep R.kt λzs e=>R.st z _ d1 e,h0⟩
def cx.wok{W U:xD}{b:Ab PR}{F:Ac->Prop}{A:LA}{k:Kd}{f:Str->Ag Wo}{g:PR->Ag ar}(L:cx P w mg W U b H F A k f g){q:PR}{a:Wo}(e:cj k f g q=Aa a):bo U k a:=by
 unfold cj at e;cases J:g q with
 | none=>
  rw[J]at e;cases e
 | some Y=>
  rw[J]at e;have e:Aa (rkY k (dc k f) Y)=Aa a:=e;cases e
  exact L.ok.rkY Y
def pi(a H:Hp)(k:Kd)(f:Str->Ag Wo)(g:PR->Ag ar)(x:V)(p:PR):Prop:=∃b r l,x=JU b/\H b=Aa (.tup [.str p.1,.ref r,.ref l])/\H r=Aa (.tup<|p.2.map kV)/\WL H l ((cj k f g p).getD<|eN k)/\a l=none
inductive yI (P:Ai) (w:Al) (b:xE) (c:Ab V) (H:Hp) (Q:VK) (d:XK):Prop
 | mk:∀(W:xD) (U:xD) (e:Ab PR) (F:Ac->Prop) (A:LA) (k:Kd) (f:Str->Ag Wo) (g:PR->Ag ar),(c=[.ref A.p])->(cx P w b W U e H F A k f g)->(∀H' l zs a,ag H H'->H l=none->H' l=Aa (.lst zs)->Paired (pi H H' k f g) zs (JQ aO a)->a.Nodup->(∀q,q∈a↔∃Y,g q=Aa Y)->Q (.ref l) H')->yI P w b c H Q d
theorem SQ(T:Txt K mg):bh P w K mg base 9 (cA mg "Ledger") "told" ["self"] (yI P w mg):=by
  refine T.Ss.ok QG (λo0 H Q p0 h=>?_) λq0 U0 A V0 W0 H o0 Q p0 X h=>?_
  · obtain⟨W,U,Ps,a0,A,k,q0,g,rfl,_⟩:=h
    rfl
  · obtain⟨W,U,Ps,a0,A,k,b0,g,rfl,L,M⟩:=h
    refine⟨_,(qg<|qi<|dU (N:=["table","row","self"]) (caps:=[none,none,Aa 0]) rfl (by with_unfolding_all rfl) (cB K<|qr (Lc T) X rfl<|ak<|cD (pv 0) rfl) (λ_ _ _ _ _=>rP K (n:=2) rfl<|dQ (qk (i:=0) (show (["table","row","self"]:xD).Nodup by decide+kernel) rfl<|Ax rfl)<|dQ (qk (i:=1) (show (["table","row","self"]:xD).Nodup by decide+kernel) rfl<|Ax rfl) iS) (λ_ _ _ _ _=>d_) λ_ _ _ _ _=>qy<|cZ (pv 0) (pv 1)<|ig (MC (P:=P) (w:=w) T) T.qo X (pv 2)<|aD (pv 0)<|pv 1),?_⟩;obtain⟨Z,r0,m,s0⟩:=L.led.wor;refine⟨_,zr,A.p,_,A.dx,_,_,zr,L.led.ins,T.qo,T.lq,zr,A.z,Z,zr,r0,λp t0=>L.led.pg p<|m.2 p t0,λl zs H1 B l0 C c0=>?_⟩;have u0:∀q,q∈Z.map (·.1)↔∃Y,g q=Aa Y:=λq=>by
      refine(s0.mem q).trans ?_;cases d0:g q with
      | none=>exact⟨λ⟨_,z⟩=>(by rw[mq d0]at z;cases z),λ⟨_,z⟩=>nomatch z⟩
      | some Y=>exact⟨λ_=>⟨Y,rfl⟩,λ_=>⟨_,lz d0⟩⟩
    have v0:∀q∈JQ aO (Z.map (·.1)),q∈Ps:=λq E=>m.2 q<|(JW aO _).mem_iff.mp E;have M:=λH' l zs=>M H' l zs (Z.map (·.1));have X0:(JQ aO (Z.map (·.1))).length<=1000:=by
      have:=mB m.1 m.2;rw[sO];exact az this L.led.pl
    generalize JQ aO (Z.map (·.1))=S at*;have w0:=Paired.length c0;refine⟨l,zr,⟨_,JO C⟩,λD F=>?_⟩;refine dg zs.length (λi I H'=>(∃v1 e0,I=[v1,e0,Aa<|.ref A.p])/\ag H1 H'/\∃J,H' D=Aa (.lst J)/\∀H2,(∀b o,b≠D->H' b=Aa o->H2 b=Aa o)->Paired (pi H H2 k b0 g) J (S.take i)) ⟨⟨_,_,zr⟩,qc F,[],qb,λ_ _=> .nil⟩ (λi I H' f0 p=>?_) (λI H' p=>⟨?_,?_⟩) λi I H' f0 p x H2 y=>?_
    · obtain⟨_,d,_⟩:=p
      exact⟨_,zs[i],JO<|d _ _ C,aH f0⟩
    · obtain⟨_,d,_⟩:=p
      exact⟨_,JO<|d _ _ C,aj _⟩
    · obtain⟨_,d,J,e,s⟩:=p
      rw[w0,bA]at s;exact M H' D J (B.trans d) (B.free F) e (s H' λ_ _ _ h=>h) m.1 u0
    · obtain⟨⟨v1,e0,rfl⟩,d,J,e,s⟩:=p
      obtain⟨rfl,x0⟩:=y;have y0:=x0 _<|JO<|d _ _ C;obtain⟨q,E,b,rfl,R⟩:=fC c0 y0;have t:=B.trans d;obtain⟨r,z0,O⟩:=fI.mp R;have A0:=v0 q<|bJ E;have g0:=L.led.same t;refine⟨_,_,zr,JT<|t _ _ z0,zr,_,_,zr,_,_,zr,zr,?_⟩;refine⟨_,zr,_,zr,_,zr,A.p,A.dx,_,zr,g0.ins,zr,_,zr,_,zr,W,U,Ps,a0,A,k,b0,g,_,_,r,q,zr,g0,t _ _ O,L.led.pg q A0,L.ok.hW,λa H0=>L.wok H0,λz J0 f h0 K0=>?_⟩;refine⟨by show 3<=sizeLine;decide,λc i0=>?_⟩;have j:=qc (o:=JY [JP q.1,JU r,JU z]) i0;have L0:=j _ _<|f _ _ e;have M0:J.length=min i S.length:=by
        rw[Paired.length (s _ λ_ _ _ h=>h),bt]
      have j0:∀{b:Ac} {G:Hp},G b=none->G D=Aa (.lst J)->b≠D:=λ{b G} k0 N0 z=>by
        rw[z,N0]at k0;cases k0
      have O0:c≠D:=j0 i0<|f _ _ e;have P0:z≠D:=j0 h0 e;refine⟨_,L0,by rw[M0];exact cY (by lia),⟨_,_,rfl⟩,((d.trans f).trans j).set F,J++ [.ref c],qb,λm0 Q0=>?_⟩;have u:∀b o,b≠D->upd J0 c (.tup [JP q.1,JU r,JU z]) b=Aa o->m0 b=Aa o:=λb o n0 v=>Q0 b o n0 (by rw[qe n0];exact v);rw[bx,E];refine Paired.snoc (s m0 λb o R R0=>u b o R<|j _ _<|f _ _ R0) ⟨c,r,z,zr,u c _ O0 qb,?_,?_,t.free h0⟩
      · have S0:r≠D:=λz=>by
          have:=B _ _ O;rw[z,F]at this;cases this
        exact u r _ S0<|j _ _<|f _ _<|t _ _ O
      · refine K0.keep (λb Y0 v=>u b _ (λz=>?_)<|j _ _ v) λzs T0=>u z _ P0<|j _ _ T0
        rw[z,f _ _ e]at v;cases v
def La(a:Ab V)(n:Nat)(h:n<=a.length):bX a (Aa (n:Int)) none=a.drop n:=by
 unfold bX;rw[Kp,Km,G0 h,jm (by rw[fB];exact aj _)]
inductive F_ (a:Ab V) (H:Hp) (Q:VK) (d:XK):Prop
 | mk:∀(c:Int) (m:Int),(a=[.int c,.int m])->(∀p (b:Ab Int) H',ag H H'->H' p=Aa (.lst (b.map JN))->b.length=24->H p=none->Q (.ref p) H')->F_ a H Q d
theorem YL(T:Txt K mg):bv P w K mg base 1 "_law_stream" ["_law_cell","_law_place"] F_:=by
 refine T.QL.ok mi (λl H Q E h=>?_) λf t A u s H l Q E v h=>?_
 .obtain⟨c,m,rfl,_⟩:=h;rfl
 .obtain⟨c,m,rfl,k⟩:=h;refine⟨_,jD
   (ql (i:=2) mi.nd rfl (Ax rfl)<|qh bN (qh cI (pv 0)<|qh gl qd<|pv 1) qd)
   (ql (i:=3) mi.nd rfl (Ax rfl)<|qu ck)
   (cw AL rfl (jH rfl T.jA<|ak qd) (qk (i:=4) mi.nd rfl<|Ax rfl)<|eg
   (ql (i:=2) mi.nd rfl (Ax rfl)<|qh bN (qh cI (qh cI (qh gl (pv 2) qd)<|qh gl qd<|pv 4) qd) qd)
   (cy<|fe eX iq il gO (pv 3)<|ak<|qh dD (pv 2) qd))
   (qi<|fE (gr K) (pv 3) (eM qd) fQ),?_⟩
  refine⟨_,rfl,_,rfl,_,_,rfl,rfl,.inl ⟨by decide,by decide⟩,_,_,rfl,rfl,_,_,rfl,rfl,(by show (0:Int) < 2147483629;decide),?_⟩;refine⟨by decide,λp r=>?_⟩;refine⟨_,zr,by decide,by decide,kU (lo:=0) (n:=25) (λi b H'=>hI λ(d:Ag V) (n:Int) (a:Ab Int)=>lH (b=[Aa<|.int c,Aa<|.int m,Aa<|.int n,Aa<|.ref p,d]) (H'=upd H p (.lst<|a.map JN))<|a.length=i) ⟨none,_,[],zr,zr,zr⟩ ?_ ?_⟩
  .rintro i b H' hi ⟨d,n,a,rfl,rfl,hl⟩;refine⟨_,rfl,_,_,rfl,rfl,.inr ⟨by decide,by decide⟩,_,rfl,_,_,rfl,rfl,.inl ⟨by decide,by decide⟩,_,_,rfl,rfl,_,_,rfl,rfl,_,_,rfl,rfl,(by show (0:Int) < 2147483647;decide),?_⟩;refine⟨_,rfl,.inl ⟨rfl,_,JO qb⟩,_,rfl,_,_,rfl,rfl,⟨by decide,by decide⟩,_,_,_,rfl,rfl,qb,by rw[ai,hl];exact cY (by lia),?_⟩;exact⟨_,_,a++ [_],rfl,by rw[zo,a_];rfl,by rw[aX,hl];rfl⟩
  .rintro b H' ⟨d,n,a,rfl,rfl,hl⟩;refine⟨_,zr,_,zr,_,_,zr,JO qb,λq g=>?_⟩;have e:bX (a.map JN) (Aa 1) none=(a.drop 1).map JN:=by
    rw[FS];exact La (a.map JN) 1 (by rw[ai];lia)
   rw[e];have j:=qc (o:=JR<|a.map JN) r;exact k q (a.drop 1) _ (j.trans<|qc g) qb (by rw[fB];lia)<|j.free g
def km:Str:="7"
theorem WU{n:Int}(a:0<=n)(b:n<=8):Wz 8 (ju km n):=by
 have:∀k:Nat,k<=8->(ju km (k:Int)).length<=8/\∀c∈(ju km (k:Int)).cps.toList,c∈bw.cps.toList:=by decide+kernel
 obtain⟨k,rfl⟩:=jB a;exact this k (by lia)
theorem Yi(x:Int):∃d,bV bw.cps.toList (x%26)=Aa d/\d∈ee.cps.toList:=by
 have all:∀k:Nat,k < 26->bw.cps.toList.getD k 0∈ee.cps.toList:=by decide+kernel
 obtain⟨d,a,f⟩:=iQ (xs:=bw.cps.toList) (i:=x%26) (cG _<|by decide) (by rw[fk,mK];have:=cS x (show (0:Int) < 26 by decide);lia);refine⟨d,a,?_⟩;obtain⟨n,c⟩:=jB<|cG x (show (26:Int)≠0 by decide);have O:n < 26:=by
  have:=cS x (show (0:Int) < 26 by decide)
  lia
 have h:=all n O;rw[c]at a;have J:bw.cps.toList[n]? =Aa d:=by
  have b:n < bw.cps.toList.length:=by rw[fk,mK];lia
  have e:=cv (xs:=bw.cps.toList)<|aH b;rw[e]at a;rw[aH b];exact a
 rw[lJ,J]at h;exact h
theorem Qx{z y:Str}{n:Nat}(h:gS ee z i)(a:i≠0)(b:Wz n y):bS ee (dN (z++y) none<|Aa 12)=true:=by
  rcases h with ⟨e,_⟩ | ⟨c,r,e,l,f,g⟩
  · exact Au e a
  · have j:(dN (z++y) none<|Aa 12).cps.toList=c::(r++y.cps.toList).take 11:=by
      unfold dN;rw[Km,B0,show (Aa 12:Ag Int)=Aa ((12:Nat):Int) from rfl,Kp,EQ,lD,e];have J:(z++y).length=(c::(r++y.cps.toList)).length:=by
        rw[<- fk,lD,e];rfl
      rw[J];show IF (min 12 _) (c::(r++y.cps.toList))=_;rw[<- Fq];rfl
    refine Ry j (by rw[bt];lia) f λd k=>?_;rcases aF.mp (kW k) with h | h
    · exact g d h
    · exact b.2 d h
def mS(c:Int)(i:Nat):Ag Nat:=bV bw.cps.toList<|(c / (144+13*(c / 12%(1+c%12)))+(c / 12%(1+c%12))*(c / 12%(1+c%12))+(i:Int))%(26+10*(if decide ((0:Int) < c / 12%(1+c%12))=true then 1 else 0))
theorem OA{c:Int}{a b:Nat}(o:a<=8)(p:b<=8)(e:mS c a=mS c b):a=b:=by
 have all:∀m:Fin 36,∀n:Fin 36,bw.cps.toList[m.1]? =bw.cps.toList[n.1]? ->m=n:=by decide+kernel
 unfold mS at e;generalize c / (144+13*(c / 12%(1+c%12)))+(c / 12%(1+c%12))*(c / 12%(1+c%12))=x at e;have g:∀M:Int,(M=26\/ M=36)->bV bw.cps.toList ((x+(a:Int))%M)=bV bw.cps.toList ((x+(b:Int))%M)->a=b:=λM h e=>by
  have f:0 < M:=by lia
  obtain⟨m,i⟩:=jB<|cG (x+(a:Int)) (show M≠0 by lia);obtain⟨n,j⟩:=jB<|cG (x+(b:Int)) (show M≠0 by lia);have q:=cS (x+(a:Int)) f;have r:=cS (x+(b:Int)) f;have d:∀k:Nat,k < 36->bV bw.cps.toList (k:Int)=bw.cps.toList[k]? :=λk l=>by
   have d:k < bw.cps.toList.length:=by rw[fk,mK];exact l
   rw[cv<|aH d,aH d]
  rw[i,j,d m (by lia),d n<|by lia]at e;have:=Ba Fin.val<|all ⟨m,by lia⟩ ⟨n,by lia⟩ e;have:m=n:=this;rcases h with rfl | rfl <;> lia
 refine g _ ?_ e;split
 .exact .inr rfl
 .exact .inl rfl
theorem Od{z y:Str}{t:Nat}(b:t < z.length)(c:z.length<=12):(dN (z++y) none<|Aa 12).cps.toList[t]? =z.cps.toList[t]? :=by
 unfold dN;rw[Km,B0,show (Aa 12:Ag Int)=Aa ((12:Nat):Int) from rfl,Kp,EQ,lD];have d:=fk z;have a:=fk<|z++y;rw[lD,aX]at a;show (IF _ _)[t]? =_;rw[Cy (by lia),Bo<|by lia]
inductive LL (b:Ab V) (H:Hp) (Q:VK) (d:XK):Prop
 | mk:∀(c:Int) (m:Int),(b=[.int c,.int m])->(0<=m)->(m<=9)->(∀p (a:xD) H',ag H H'->H' p=Aa (.lst (a.map JP))->a.length=m.toNat->H p=none->(∀z∈a,bS ee z=true)->a.Nodup->Q (.ref p) H')->LL b H Q d
theorem ND(T:Txt K mg):bv P w K mg base 1 "_law_words" ["_law_cell","_law_many"] LL:=by
  refine T.Sm.ok gZ (λM H Q E h=>?_) λf0 g0 h0 i0 j0 H M Q E k0 h=>?_
  · obtain⟨c,m,rfl,_⟩:=h
    rfl
  · obtain⟨c,m,rfl,l0,m0,k⟩:=h
    refine⟨_,xW
      (ql (i:=2) gZ.nd rfl (Ax rfl) gx)
      (ql (i:=3) gZ.nd rfl (Ax rfl)<|qh cI qd<|qh bN (pv 0) qd)
      (ql (i:=4) gZ.nd rfl (Ax rfl)<|qh bN (qh dD (pv 0) qd)<|pv 3)
      (ql (i:=5) gZ.nd rfl (Ax rfl)<|qu ck)
      (cw AL rfl (jH rfl T.jA<|ak<|pv 1) (qk (i:=6) gZ.nd rfl<|Ax rfl)<|em
      (ql (i:=7) gZ.nd rfl (Ax rfl) gx)
      (cw AL rfl (jH rfl T.jA<|ak<|pv 3) (qk (i:=8) gZ.nd rfl<|Ax rfl)<|eg
      (ql (i:=9) gZ.nd rfl (Ax rfl)<|qh cI (qh cI (qh dD (pv 0)<|qh cI qd<|qh gl qd<|pv 8)<|qh gl (pv 8)<|pv 8)<|qh gl (pv 6)<|eT vW rfl T.b_int qR<|ak<|im kF (pv 8) (pv 4)<|du _)
      (ql (i:=7) gZ.nd rfl (Ax rfl)<|qh LB (pv 7)<|bg Lk (pv 2) (qh bN (pv 9)<|qh cI qd<|qh gl qd<|eT vW rfl T.b_int qR<|ak<|im rW (pv 8) qd<|du _) λ_ _=>rfl))
      (cy<|fe eX iq il gO (pv 5)<|ak<|fE Ni (qh LB (pv 7)<|qh YH gx<|qh gl (pv 6)<|qh bN (qh dD (pv 0) qd) qd) fQ<|eM qd))
      (qi<|pv 5),?_⟩
    have n0:=cG c (show (12:Int)≠0 by decide);have o0:=cS c (show (0:Int) < 12 by decide);refine⟨_,rfl,_,_,rfl,rfl,(by show (0:Int) < 12;decide),_,_,rfl,rfl,?_⟩;refine⟨_,rfl,_,_,rfl,rfl,⟨by decide,by decide⟩,_,rfl,_,_,rfl,rfl,(by show 0 < 1+c%12;lia),?_⟩;refine⟨by decide,λp t=>?_⟩;have N:=qc (o:=JR []) t;refine⟨_,rfl,_,rfl,by lia,by lia,kU (lo:=0) (n:=m.toNat) (λi f H'=>vT λ(v1:Ag V) (u:Ag V) (g:Ag V) (Z:Ag V) (J:xD)=>mZ (f=[Aa<|.int c,Aa<|.int m,Aa<|.str bw,Aa<|.int<|1+c%12,Aa<|.int<|c / 12%(1+c%12),Aa<|.ref p,v1,u,g,Z]) (ag H H') (H' p=Aa (.lst<|J.map JP)) (J.length=i) ((∀z∈J,bS ee z=true)) (∀(j:Nat) (z:Str),J[j]? =Aa z->z.cps.toList[(c / 12%(1+c%12)).toNat]? =mS c j)) ⟨none,none,none,none,[],rfl,N,qb,rfl,(λ_ z=>nomatch z),λ_ _ z=>nomatch z⟩ ?_ ?_⟩
    · rintro i f H1 p0 ⟨v1,u,g,Z,J,rfl,v,e,x,A,s⟩
      have q0:=cG (c / 12) (show (1+c%12)≠0 by lia);have r0:=cS (c / 12) (show 0 < 1+c%12 by lia);refine⟨_,rfl,_,rfl,by lia,by lia,kU (lo:=0) (n:=(1+c%12).toNat) (λj f H'=>hI λ(g:Ag V) (Z:Ag V) (z:Str)=>lG (f=[Aa<|.int c,Aa<|.int m,Aa<|.str bw,Aa<|.int<|1+c%12,Aa<|.int<|c / 12%(1+c%12),Aa<|.ref p,Aa<|.int<|0+(i:Int),Aa<|.str z,g,Z]) (H'=H1) (gS ee z j)<|(c / 12%(1+c%12)).toNat < j->z.cps.toList[(c / 12%(1+c%12)).toNat]? =mS c i) ⟨_,_,"",rfl,rfl,.inl ⟨rfl,rfl⟩,λh=>Au h<|DF _⟩ ?_ ?_⟩
      · rintro j f H' F ⟨g,Z,z,rfl,rfl,Y,B⟩
        have s0:j<=12:=by lia
        refine⟨_,rfl,_,rfl,_,_,rfl,rfl,.inl ⟨by decide,by decide⟩,_,_,rfl,rfl,_,_,rfl,rfl,⟨by show (0:Int) < 144+13*(0+(j:Int));lia,by show 144+13*(0+(j:Int)) < 1073741824;lia⟩,_,rfl,_,rfl,_,_,rfl,rfl,.inl ⟨by lia,by lia⟩,_,_,rfl,rfl,_,rfl,_,rfl,_,rfl,rfl,.inr ⟨_,rfl,_,_,rfl,rfl,.inl ⟨by lia,by lia⟩,_,_,rfl,rfl,?_⟩⟩;have C:(0:Int) < 26+10*(if decide ((0:Int) < 0+(j:Int))=true then 1 else 0)/\26+10*(if decide ((0:Int) < 0+(j:Int))=true then 1 else 0)<=(36:Int):=by split <;> lia
        obtain⟨d,D,R,S⟩:∃d,bV bw.cps.toList ((c / (144+13*(0+(j:Int)))+(0+(j:Int))*(0+(j:Int))+(0+(i:Int))*(if decide (JN (0+(j:Int))=JN (c / 12%(1+c%12)))=true then 1 else 0))%(26+10*(if decide ((0:Int) < 0+(j:Int))=true then 1 else 0)))=Aa d/\d∈bw.cps.toList/\(j=0->d∈ee.cps.toList):=by
          by_cases O:j=0
          · have U:(26+10*(if decide ((0:Int) < 0+(j:Int))=true then 1 else 0):Int)=26:=by
              rw[O];rfl
            rw[U];obtain⟨d,l,q⟩:=Yi<|c / (144+13*(0+(j:Int)))+(0+(j:Int))*(0+(j:Int))+(0+(i:Int))*(if decide (JN (0+(j:Int))=JN (c / 12%(1+c%12)))=true then 1 else 0);exact⟨d,l,zB d q,λ_=>q⟩
          · obtain⟨d,l,q⟩:=UC (c / (144+13*(0+(j:Int)))+(0+(j:Int))*(0+(j:Int))+(0+(i:Int))*(if decide (JN (0+(j:Int))=JN (c / 12%(1+c%12)))=true then 1 else 0)) C.1 C.2
            exact⟨d,l,q,λz=>Au z O⟩
        refine⟨_,zr,_,zr,_,zr,_,zr,_,_,zr,zr,.inr ⟨_,zr,_,_,zr,zr,.inl ⟨by decide,by decide⟩,_,_,zr,zr,_,_,zr,zr,C.1,_,_,d,zr,zr,TZ,D,_,_,zr,zr,?_,?_⟩⟩
        · have:=B9 Y.len
          exact az (B4 this<|UT d) (az (show j+1<=1000 by lia)<|by decide)
        · have t0:=fk z
          have W:=Y.len;refine⟨_,_,_,zr,zr,?_,λu0=>?_⟩
          rotate_left
          · rw[lD]
            by_cases X:(c / 12%(1+c%12)).toNat < j
            · rw[Bo<|by lia]
              exact B X
            · have O:(j:Int)=c / 12%(1+c%12):=by lia
              rw[jg (by lia),show (c / 12%(1+c%12)).toNat - z.cps.toList.length=0 by lia];rw[I8,I8,O,aS rfl,Ah rfl,Jg]at D;exact D.symm
          by_cases O:j=0
          · subst O
            rcases Y with ⟨_,rfl⟩ | ⟨v0,r,_,w0,_⟩
            · exact gS.one<|S rfl
            · lia
          · exact Y.more O R
      · rintro f H' ⟨g,Z,z,rfl,rfl,Y,B⟩
        have a0:=cG (c / 5) (show (2:Int)≠0 by decide);have x0:=cS (c / 5) (show (0:Int) < 2 by decide);have y0:(i:Int)<=8:=by lia
        have G:0<=(0+(i:Int))*(c / 5%2):=Int.mul_nonneg (by lia) a0;have b0:(0+(i:Int))*(c / 5%2)<=8:=by
          rcases (show c / 5%2=0\/ c / 5%2=1 by lia) with h | h <;> rw[h] <;> lia
        have I:=WU G b0;have L:z.length+(ju km<|(0+(i:Int))*(c / 5%2)).length<=20:=by
          have:=Y.len;have:=I.1
          lia
        refine⟨_,rfl,.inl ⟨rfl,_,JO e⟩,_,rfl,_,rfl,_,rfl,_,_,rfl,rfl,⟨by decide,by decide⟩,_,_,rfl,rfl,(by show (0:Int) < 2;decide),_,_,rfl,rfl,.inl ⟨by lia,by lia⟩,km,_,rfl,rfl,G,by lia,by decide+kernel,z,_,rfl,rfl,az L (by decide),?_⟩;refine⟨_,rfl,_,rfl,by rw[UG];exact az L (by decide),_,_,_,rfl,rfl,e,cY (by rw[ai];lia),?_⟩;refine⟨_,_,_,_,J++ [dN (z++ju km ((0+(i:Int))*(c / 5%2))) none<|Aa 12],rfl,v.set t,by rw[qb,a_];rfl,by rw[aX,x];rfl,λy b=>?_,λj y b=>?_⟩
        · rcases aF.mp b with b | b
          · exact A y b
          · rw[aM.mp b]
            exact Qx Y (by lia) I
        · by_cases F:j < J.length
          · rw[Bo F]at b
            exact s j y b
          · rw[jg<|by lia]at b
            have O:j - J.length=0:=by
              have:=(bR.mp b).1;rw[lh]at this
              lia
            rw[O]at b;cases b
            have W:=Y.len;rw[Od (by lia) (by lia),show j=i by lia];exact B (by lia)
    · rintro f H1 ⟨v1,u,g,Z,J,rfl,v,e,x,A,s⟩
      refine⟨_,zr,k p J _ v e x t A<|gA.mpr λa c0 d0 e0 z0 z=>?_⟩;have l:=s a _<|aH d0;have q:=s c0 _<|aH e0;rw[z]at l;have:=OA (by lia) (by lia)<|l.symm.trans q
      lia
inductive wL (b:Ab V) (H:Hp) (Q:VK) (d:XK):Prop
 | mk:∀(c:Int),(b=[.int c])->(∀p (a:Ab af) H',ag H H'->H' p=Aa (.lst (a.map kV))->a.length=3->(∀v∈a,ej v)->Q (.ref p) H')->wL b H Q d
theorem YD(T:Txt K mg):bv P w K mg base 2 "_law_values" ["_law_cell"] wL:=by
 refine T.Wa.ok tZ (λn H Q E h=>?_) λf D A F s H n Q E p h=>?_
 .obtain⟨c,rfl,_⟩:=h;rfl
 .obtain⟨c,rfl,k⟩:=h;refine⟨_,em
   (ql (i:=1) tZ.nd rfl (Ax rfl)<|qh gl (qh bN (qh dD (pv 0) qd)<|qh mQ qd qd)<|qh lC qd<|qh gl qd<|qh bN (qh dD (pv 0) qd) qd)
   (ql (i:=2) tZ.nd rfl (Ax rfl)<|qr (ND T) p rfl<|aD (qh dD (pv 0) qd) qd)
   (qi<|bg (cJ K) (qu<|cZ (qu<|cZ (pv 1) (bg (cJ K) (pv 2) qd λ_ _=>rfl)<|bg (cJ K) (pv 2) qd λ_ _=>rfl) (qu<|cZ (pv 1) (qh cI (pv 1) qd)<|bg (cJ K) (pv 2) qd λ_ _=>rfl)<|qu<|cZ (pv 1) (bg (cJ K) (pv 2) qd λ_ _=>rfl)<|qh lC (qh lC qd<|pv 1) qd) (qh bN (pv 0) qd) λ_ _=>rfl),?_⟩
  have G:=cG (c / 3) (show (2:Int)≠0 by decide);have I:=cS (c / 3) (show (0:Int) < 2 by decide);refine⟨_,rfl,_,_,rfl,rfl,⟨by decide,by decide⟩,_,_,rfl,rfl,⟨by decide,by decide,by decide⟩,_,_,rfl,rfl,(by show (0:Int) < 10^30;decide),_,rfl,_,_,rfl,rfl,⟨by decide,by decide⟩,_,_,rfl,rfl,(by show (0:Int) < 2;decide),_,_,rfl,rfl,.inl ⟨by decide,by decide⟩,_,_,rfl,rfl,_,_,rfl,rfl,.inr ⟨by show -(2^64) < 1 - 2*(c / 3%2);lia,by show 1 - 2*(c / 3%2) < 2^64;lia⟩,?_⟩;refine⟨_,zr,_,_,zr,zr,⟨by decide,by decide⟩,_,2,zr,by decide,by decide,λM W H1 q b r _ l _=>?_⟩;obtain⟨O,Y,rfl⟩:∃O Y,W=[O,Y]:=by
   match W,r with
   | [O,Y],_=>exact⟨_,_,rfl⟩
  have d:=l O (by simp);have t:=l Y (by simp);refine⟨_,rfl,_,rfl,_,_,_,_,rfl,rfl,JO b,rfl,_,rfl,_,_,_,_,rfl,rfl,JO b,rfl,by show 3<=sizeLine;decide,λl1 u=>?_⟩;have m:=qc (o:=JR [JN<|c / 6%10^30*(1 - 2*(c / 3%2)),JP O,JP Y]) u;have Z:=m _ _ b;refine⟨_,rfl,_,rfl,_,_,rfl,rfl,_,rfl,_,_,_,_,rfl,rfl,JO Z,rfl,by show 3<=sizeLine;decide,λl2 x=>?_⟩;have e:=qc (o:=JR [JN<|c / 6%10^30*(1 - 2*(c / 3%2)),JN<|c / 6%10^30*(1 - 2*(c / 3%2))+1,JP O]) x;have y:=e _ _ Z;refine⟨_,rfl,_,rfl,_,_,_,_,rfl,rfl,JO y,rfl,_,rfl,_,_,rfl,rfl,_,_,rfl,rfl,by show 3<=sizeLine;decide,λl3 z=>?_⟩;have g:=qc (o:=JR [JN<|c / 6%10^30*(1 - 2*(c / 3%2)),JP O,JN<|0 - c / 6%10^30*(1 - 2*(c / 3%2)) - 1]) z;refine⟨by show 3<=sizeLine;decide,λL B=>?_⟩;have a:=qc (o:=JR [JU l1,.ref l2,.ref l3]) B;obtain⟨v,C,J⟩:=iQ (xs:=[JU l1,.ref l2,.ref l3]) (i:=c%3) (cG _<|by decide) (cS _<|by decide);refine⟨_,rfl,_,_,rfl,rfl,(by show (0:Int) < 3;decide),_,_,_,v,rfl,rfl,JO qb,C,?_⟩;have j:=q.trans<|m.trans<|e.trans<|g.trans a;simp only[aA,cc,Bf]at J;rcases J with rfl | rfl | rfl
  .refine k l1 [.inl<|c / 6%10^30*(1 - 2*(c / 3%2)),.inr O,.inr Y] _ j ((e.trans<|g.trans a) _ _ qb) rfl λv J=>?_;simp only[aA,cc,Bf]at J;rcases J with rfl | rfl | rfl
   .exact Ay
   .exact d
   .exact t
  .refine k l2 [.inl<|c / 6%10^30*(1 - 2*(c / 3%2)),.inl<|(c / 6%10^30*(1 - 2*(c / 3%2)))+1,.inr O] _ j ((g.trans a) _ _ qb) rfl λv J=>?_;simp only[aA,cc,Bf]at J;rcases J with rfl | rfl | rfl
   .exact Ay
   .exact Ay
   .exact d
  .refine k l3 [.inl<|c / 6%10^30*(1 - 2*(c / 3%2)),.inr O,.inl<|0 - c / 6%10^30*(1 - 2*(c / 3%2)) - 1] _ j (a _ _ qb) rfl λv J=>?_;simp only[aA,cc,Bf]at J;rcases J with rfl | rfl | rfl
   .exact Ay
   .exact d
   .exact Ay
def kX:af->AJ
 | .inl _=>false
 | .inr _=>true
def dY(k:af):AQ:= .tuple [.bool<|kX k,gb k]
def lI(p:PR):AQ:= .tuple [.str p.1,.list<|p.2.map dY]
def qK(a b:AJ):AC (.bool a) (.bool b)=decide (a=b):=by cases a <;> cases b <;> rfl
def wv:∀a b:af,AC (dY a) (dY b)=decide (a=b)
 | .inl i,.inl j=>by
  show (AC (.bool false) (.bool false)&&(AC (.int i) (.int j)&&true))=_;rw[qK,h_];by_cases h:i=j <;> simp[h]
 | .inl i,.inr y=>by
  show (AC (.bool false) (.bool true)&&(AC (.int i) (.str y)&&true))=_;rw[qK];simp
 | .inr x,.inl j=>by
  show (AC (.bool true) (.bool false)&&(AC (.str x) (.int j)&&true))=_;rw[qK];simp
 | .inr x,.inr y=>by
  show (AC (.bool true) (.bool true)&&(AC (.str x) (.str y)&&true))=_;rw[qK,jq];by_cases h:x=y <;> simp[h]
def Yv:∀a b:af,a≠b->cz (dY a) (dY b)=Aa (kg a b)
 | .inl i,.inl j,h=>by
  show aL [.bool false,.int i] [.bool false,.int j]=_;rw[aL,Ah (by decide),aL,h_,Ae (by simpa using λz=>h<|Ba Bv z),cz];rfl
 | .inl i,.inr y,_=>by
  show aL [.bool false,.int i] [.bool true,.str y]=_;rw[aL,Ae (by decide),cz];rfl
 | .inr x,.inl j,_=>by
  show aL [.bool true,.str x] [.bool false,.int j]=_;rw[aL,Ae (by decide),cz];rfl
 | .inr x,.inr y,h=>by
  show aL [.bool true,.str x] [.bool true,.str y]=_;rw[aL,Ah (by decide),aL,jq,Ae (by simpa using λz=>h<|Ba Aj z),cz];rfl
theorem Lu:∀a b:Ab af,aL (a.map dY) (b.map dY)=Aa (jZ a b)
 | [],[]=>by rw[bP,aL];rfl
 | [],_::_=>by rw[bP,au,aL];rfl
 | _::_,[]=>by rw[bP,au,aL];rfl
 | x::a,y::b=>by
  rw[au,au,aL,wv,jZ,Kf];by_cases h:x=y
  .subst h;rw[Ah (by simp),Ah rfl];exact Lu a b
  .rw[Ae (by simpa using h),Ae h];exact Yv x y h
theorem yT:∀a b:Ab af,AE (a.map dY) (b.map dY)=decide (a=b)
 | [],[]=>by rw[bP,AE];rfl
 | [],_::_=>by rw[bP,au,AE];rfl
 | _::_,[]=>by rw[bP,au,AE];rfl
 | x::p,y::q=>by
  rw[au,au,AE,wv,yT p q];by_cases c:x=y
  .by_cases h2:p=q
   .rw[aS c,aS h2,aS<|by rw[c,h2]];rfl
   .rw[aS c,aN h2,aN λe=>h2 (CD e).2];rfl
  .rw[aN c,aN λe=>c (CD e).1];rfl
def zL(a b:PR):cz (lI a) (lI b)=Aa (aO a b):=by
 show aL [.str a.1,.list<|a.2.map dY] [.str b.1,.list<|b.2.map dY]=Aa (aO a b);rw[aL,jq];unfold aO;by_cases e:a.1=b.1
 .rw[Ah<|aS e,Ah e,aL];have d:AC (.list<|a.2.map dY) (.list<|b.2.map dY)=decide (a.2=b.2):=by
   rw[AC];exact yT a.2 b.2
  rw[d];by_cases c:a.2=b.2
  .rw[Ah<|aS c,aL,c];rw[nL.irr]
  .rw[Ae (by rw[aN c];exact aY),cz];exact Lu a.2 b.2
 .rw[Ae (by rw[aN e];exact aY),Ae e,cz];rfl
def Ys(a:Ab af):Az (a.map dY)<=1:=by
 induction a with
 | nil=>exact ba _
 | cons k a b=>exact Nat.max_le.mpr ⟨by cases k <;> exact aj _,b⟩
theorem Ny(p:PR):(lI p).depth<=3:=by
 have:=Ys p.2;show max 0 (max (Az (p.2.map dY)+1) 0)+1<=3
 lia
inductive wt (K:xA) (a:Ab V) (H:Hp) (Q:VK) (c:XK):Prop
 | mk:∀(b:Ac) (p:PR),(a=[.ref b])->(ax H (pN p) (.ref b))->(fV p)->(∀v H',ag H H'->ay K H' (lI p) v->Q v H')->wt K a H Q c
theorem Ml(T:Txt K mg):bv P w K mg base 1 "_law_key" ["_law_pair"] (wt K):=by
 refine T.Tc.ok SR (λM H Q E h=>?_) λf U A W s H M Q E X h=>?_
 .obtain⟨b,p,rfl,_⟩:=h;rfl
 .obtain⟨b,p,rfl,c,g,k⟩:=h;obtain⟨q,B,d⟩:=fI.mp c;have a0:=g.2.1;refine⟨_,(qg<|qi<|qy<|aD (bg (ec K) (pv 0) qd λ_ _=>rfl)<|dU (N:=["_law_value"]) (caps:=[none]) rfl (by with_unfolding_all rfl) (iG K<|bg (ec K) (pv 0) qd λ_ _=>rfl) (λ_ _ _ _ _=>qk (i:=0) (show (["_law_value"]:xD).Nodup by decide+kernel) rfl<|Ax rfl) (λ_ _ _ _ _=>d_) λ_ _ _ _ _=>qy<|aD (qp (gv K) rfl T.fJ fS<|aD (pv 0)<|fY rfl T.b_str MD)<|pv 0),?_⟩;refine⟨_,zr,_,_,_,_,zr,zr,JT B,cv (j:=0) rfl,?_⟩;refine⟨_,zr,_,_,_,_,zr,zr,JT B,cv (j:=1) rfl,q,zr,⟨_,JT d⟩,λD C=>?_⟩;refine dg (p.2.map kV).length (λi m H'=>(∃v,m=[v])/\ag H H'/\∃J,H' D=Aa (.lst J)/\∀H2,(∀b o,b≠D->H' b=Aa o->H2 b=Aa o)->aW K H2 ((p.2.take i).map dY) J) ⟨⟨_,zr⟩,qc C,[],qb,λ_ _=> .nil⟩ (λi m H' F p=>?_) (λm H' p=>⟨?_,?_⟩) λi m H' F p x H2 y=>?_
  .obtain⟨_,sm,_⟩:=p;exact⟨_,_,JT<|sm _ _ d,aH F⟩
  .obtain⟨_,sm,_⟩:=p;exact⟨_,JT<|sm _ _ d,aj _⟩
  .obtain⟨_,sm,J,e,hd⟩:=p;rw[ai,bA]at hd;refine⟨by show 2<=sizeLine;decide,λx t=>?_⟩;have O:=qc (o:=JY [JP p.1,.ref D]) t;exact k _ _ (sm.trans O)<|.tup (JT qb)<|.cons (.str _ (ej.tx (k:= .inr p.1) g.1).2)<|.cons (.lst (JO<|O _ _ e)<|hd _ λb o _ c=>O b o c) .nil
  .obtain⟨⟨v,rfl⟩,sm,J,e,hd⟩:=p;obtain⟨rfl,t⟩:=y;have Z:=t _<|JT<|sm _ _ d;rw[bF]at Z;obtain⟨a,G,rfl⟩:=dq.mp Z;have I:=g.2.2 a<|bJ G;have R:J.length=min i p.2.length:=by
    rw[<- kJ (hd _ λb o _ h=>h),ai,bt]
   have fin:∀q,H2 q=none->∃l,upd H2 q (.tup [.bl<|kX a,kV a]) D=Aa (.lst l)/\l.length < sizeLine/\(∃v,[Aa<|kV a]=[v])/\ag H (upd (upd H2 q<|.tup [.bl<|kX a,kV a]) D<|.lst<|l++ [.ref q])/\∃J,upd (upd H2 q<|.tup [.bl<|kX a,kV a]) D (.lst<|l++ [.ref q]) D=Aa (.lst J)/\∀r,(∀b o,b≠D->upd (upd H2 q<|.tup [.bl<|kX a,kV a]) D (.lst<|l++ [.ref q]) b=Aa o->r b=Aa o)->aW K r ((p.2.take<|i+1).map dY) J:=λq u=>by
    have O:=qc (o:=JY [.bl<|kX a,kV a]) u;have Y:q≠D:=λz=>by
     rw[z,e]at u;cases u
    refine⟨J,O _ _ e,by rw[R];exact cY (by lia),⟨_,rfl⟩,(sm.trans O).set C,J++ [.ref q],qb,λr L=>?_⟩;rw[bx,G,a_];refine uU (hd r λb o c S=>L b o c ?_)<|.tup (JT (L q _ Y<|by rw[qe Y,qb]))<|.cons (.bl _)<|.cons (uY I.ok) .nil;rw[qe c];exact O b o S
   cases a with
   | inl n=>exact⟨_,rfl,_,_,_,rfl,.int n,by decide,_,rfl,by show 2<=sizeLine;decide,fin⟩
   | inr z=>exact⟨_,rfl,_,_,_,rfl,.str z (ej.tx I).2,by decide,_,rfl,by show 2<=sizeLine;decide,fin⟩
inductive vX (b:Ab V) (H:Hp) (Q:VK) (e:XK):Prop
 | mk:∀(c:Int) (d:Ac) (a:xD),(b=[.int c,.ref d])->(H d=Aa (.lst (a.map JP)))->(a.length=7)->((∀z∈a,bS ee z=true))->(∀l W H',ag H H'->H l=none->WA H' l W->hY a W->Q (.ref l) H')->vX b H Q e
theorem Ri(T:Txt K mg):bv P w K mg base 2 "_law_why" ["_law_cell","_law_names"] vX:=by
 refine T.XH.ok mh (λA0 H Q H0 h=>?_) λr1 s1 t1 u1 w1 H A0 Q H0 F h=>?_
 .obtain⟨c,wa,ws,rfl,_⟩:=h;rfl
 .obtain⟨c,wa,ws,rfl,b8,wl,c0,k⟩:=h;refine⟨_,jD
   (ql (i:=2) mh.nd rfl (E2 rfl)<|qr (YL T) F rfl<|aD (pv 0) qd)
   (ql (i:=3) mh.nd rfl (E2 rfl) xR)
   (cw AL rfl (jH rfl T.jA<|ak<|bg (cJ K) (qu<|Rb qd qd qd qd qd qd) (qh bN (bg (cJ K) (pv 2) qd λ_ _=>rfl) qd) λ_ _=>rfl) (qk (i:=4) mh.nd rfl<|E2 rfl)<|eg
   (ql (i:=5) mh.nd rfl (Ax rfl)<|qp (sZ K) rfl T.eG eH<|ak<|dU (N:=["_law_j","_law_names","_law_s","_law_k"]) (caps:=[none,Aa 1,Aa 2,Aa 4]) rfl (by with_unfolding_all rfl) (jH rfl T.jA<|ak<|qh bN (bg (cJ K) (pv 2) (qh cI qd<|pv 4) λ_ _=>rfl) qd) (λ_ _ _ _ _=>qk (i:=0) (show (["_law_j","_law_names","_law_s","_law_k"]:xD).Nodup by decide+kernel) rfl<|Ax rfl) (λ_ _ _ _ _=>d_) λ_ _ _ _ _=>bg (cJ K) (pv 1) (qh bN (bg (cJ K) (pv 2) (qh cI (qh cI qd<|qh gl qd<|pv 3)<|pv 0) λ_ _=>rfl) qd) λ_ _=>rfl)
   (jQ (cL F) (pv 3) (eT (lM K) rfl T.kE ke<|ak<|pv 5) (qh cI qd<|qh bN (bg (cJ K) (pv 2) (qh cI qd<|pv 4) λ_ _=>rfl) qd) rfl))
   (qi<|dU (N:=["_law_product","_law_many"]) (caps:=[none,Aa 3]) rfl (by with_unfolding_all rfl) (cB K<|qp (Rz F.units rfl K) rfl T.eG eH<|ak<|pv 3) (λ_ _ _ _ _=>qk (i:=0) (show (["_law_product","_law_many"]:xD).Nodup by decide+kernel) rfl<|Ax rfl) (λ_ _ _ _ _=>d_) λ_ _ _ _ _=>qy<|aD (pv 0)<|iF (cL F) (pv 1) (pv 0) λ_ _=>rfl),?_⟩
  refine⟨_,zr,c,5,zr,λp g H1 k0 U l0 x1=>?_⟩;refine λd m0=>?_;have n0:=qc (o:=HO.dT []) m0;have o0:=k0.trans n0;have J0:=n0 _ _ U;have K0:=o0 _ _ b8;have L0:=k0.free m0;have dW:upd H1 d (.dT []) d=Aa (LF []):=qb;generalize upd H1 d (.dT [])=H2 at*;refine⟨by show 6<=sizeLine;decide,λp0 M0=>?_⟩;have I:=qc (o:=JR [JN 1,JN 2,JN 0,JN 2,JN 1,JN 1]) M0;have N0:bV (g.map JN) 0=Aa (JN<|g.getD 0 0):=MA (k:=0) (by lia);obtain⟨v,O0,q0⟩:=iQ (xs:=[JN 1,JN 2,JN 0,JN 2,JN 1,JN 1]) (i:=g.getD 0 0%6) (cG _<|by decide) (cS _<|by decide);obtain⟨m,rfl,y1,z1⟩:∃m:Int,v= .int m/\0<=m/\m<=3:=by
   simp only[aA,cc,Bf]at q0;rcases q0 with rfl | rfl | rfl | rfl | rfl | rfl
   .exact⟨1,zr,by decide,by decide⟩
   .exact⟨2,zr,by decide,by decide⟩
   .exact⟨0,zr,by decide,by decide⟩
   .exact⟨2,zr,by decide,by decide⟩
   .exact⟨1,zr,by decide,by decide⟩
   .exact⟨1,zr,by decide,by decide⟩
  have P0:=o0.trans I;have Q0:=qb (H:=H2) (a:=p0) (o:=JR [JN 1,JN 2,JN 0,JN 2,JN 1,JN 1]);have r0:=I _ _ J0;have A1:=I _ _ K0;have R0:=I _ _ dW;refine⟨_,rfl,_,_,_,_,rfl,rfl,JO r0,N0,_,_,rfl,rfl,(by show (0:Int) < 6;decide),_,_,_,_,rfl,rfl,JO Q0,O0,?_⟩;generalize upd H2 p0 (.lst [JN 1,JN 2,JN 0,JN 2,JN 1,JN 1])=G1 at*;refine⟨_,rfl,by lia,by lia,kU (lo:=0) (n:=m.toNat) (λi X G=>hI λ(v1:Ag V) (L:Ag V) (W:ar)=>oq (X=[Aa<|.int c,Aa<|.ref wa,Aa<|.ref p,Aa<|.ref d,v1,L]) (ag H G) (G p=Aa (.lst<|g.map JN)) (G d=Aa (LF W)) ((W.map (·.1)).Nodup) (W.length<=i) (∀kv∈W,1<=kv.2/\kv.2<=10^30/\kv.1.length<=3/\∀z∈kv.1,z∈ws)) ⟨none,none,[],rfl,P0,r0,R0,dH,aj _,λ_ z=>nomatch z⟩ ?_ ?_⟩
  .rintro i X G C ⟨v1,L,W,rfl,sg,O,a9,Z,a7,a3⟩;have I1:i < 3:=by lia
   have S0:=sg _ _ b8;have a0:∀j:Nat,j < 24->bV (g.map JN) (j:Int)=Aa (JN<|g.getD j 0):=λj T0=>MA (k:=j) (by lia);have b0:(1:Int)+(0+(i:Int))=((1+i:Nat):Int):=by lia
   have U0:(13:Int)+(0+(i:Int))=((13+i:Nat):Int):=by lia
   have J1:=cG (g.getD (1+i) 0) (show (3:Int)≠0 by decide);have K1:=cS (g.getD (1+i) 0) (show (0:Int) < 3 by decide);refine⟨_,rfl,_,rfl,_,_,rfl,rfl,_,_,_,_,rfl,rfl,JO O,by rw[b0];exact a0 (1+i) (by lia),_,_,rfl,rfl,(by show (0:Int) < 3;decide),_,rfl,by lia,by lia,λV0 s0=>?_⟩;refine dg (g.getD (1+i) 0%3).toNat (λj s H'=>(∃v,s=[v,Aa<|.ref wa,Aa<|.ref p,Aa<|.int<|0+(i:Int)])/\ag G H'/\∃f:Ab Str,H' V0=Aa (.lst<|f.map JP)/\f.length=j/\∀y∈f,y∈ws) ⟨⟨_,rfl⟩,qc s0,[],qb,rfl,λ_ z=>nomatch z⟩ (λi s H' C p=>C) (λs H' p=>⟨aj _,?_⟩) λj s H' T0 p x H2 y=>?_
   .obtain⟨_,sm,f,e,yl,hy⟩:=p;have L1:f.length<=3:=by lia
    refine⟨_,f,zr,.inl<|JO e,λl W0=>?_⟩;have u:=qc (o:=JR<|(JQ JS f).map JP) W0;have N1:(JQ JS f).length=f.length:=(JW JS _).length_eq;have X0:∀z∈JQ JS f,z∈ws:=λz r=>hy z<|(JW JS _).mem_iff.mp r;have t0:=sm.trans u;have Y0:=qb (H:=H') (a:=l) (o:=JR<|(JQ JS f).map JP);have Z0:=t0 _ _ O;generalize upd H' l (.lst<|(JQ JS f).map JP)=M at*;generalize JQ JS f=S at*;refine⟨_,rfl,_,rfl,_,_,rfl,rfl,_,_,_,_,rfl,rfl,JO Z0,by rw[U0];exact a0 (13+i) (by lia),_,_,rfl,rfl,(by show (0:Int) < 4;decide),_,_,rfl,rfl,?_⟩;have O1:=cG (g.getD (13+i) 0) (show (4:Int)≠0 by decide);have P1:=cS (g.getD (13+i) 0) (show (0:Int) < 4 by decide);have d0:1<=1+g.getD (13+i) 0%4/\1+g.getD (13+i) 0%4<=10^30:=by lia
    obtain⟨N,u0⟩:∃N,N=1+g.getD (13+i) 0%4:=⟨_,rfl⟩;rw[<- u0]at d0;refine⟨_,zr,_,zr,_,_,zr,.inl ⟨JO Y0,λe0 a1=>?_⟩⟩;have b1:=qc (o:=JY<|S.map JP) a1;have d1:upd M e0 (.tup<|S.map JP) e0=Aa (.tup<|(S.map (Aj:Str->af)).map kV):=by
     rw[qb,nr]
    have f0:=t0.trans b1;generalize upd M e0 (.tup<|S.map JP)=Q1 at*;have e1:((fM W).map λkv=>(kv.1.map (Aj:Str->af),kv.2)).length < sizeLine:=by rw[ai];unfold fM;rw[ai];exact cY (by lia)
    refine⟨d,_,zr,e_.t (f0 _ _ a9) d1 e1,?_⟩;have f1:p≠d:=λz=>by
     rw[z,a9]at O;cases O
    refine⟨_,_,gm W S N,rfl,(sg.trans f0).set L0,by rw[qe f1];exact f0 _ _ O,by rw[qb,So,u0];rfl,Zo Z _ _,az (Ui _ _ _)<|fP a7,λkv D=>?_⟩;rcases VN D with h | h
    .exact a3 kv h
    .rw[h];exact⟨d0.1,d0.2,by show S.length<=3;lia,X0⟩
   .obtain⟨⟨v,rfl⟩,sm,f,e,yl,hy⟩:=p;obtain⟨rfl,rfl⟩:=y;have g1:(4:Int)+3*(0+(i:Int))+(0+(j:Int))=((4+3*i+j:Nat):Int):=by lia
    obtain⟨L,h1,i1⟩:=iQ (xs:=ws.map JP) (i:=g.getD (4+3*i+j) 0%4) (cG _<|by decide) (by rw[ai,wl];have:=cS (g.getD (4+3*i+j) 0) (show (0:Int) < 4 by decide);lia);obtain⟨z,r,rfl⟩:=aE.mp i1;refine⟨_,rfl,_,rfl,_,rfl,_,_,rfl,rfl,.inl ⟨by decide,by decide⟩,_,_,rfl,rfl,_,rfl,_,_,rfl,rfl,_,_,_,_,rfl,rfl,JO<|sm _ _ O,by rw[g1];exact a0 (4+3*i+j) (by lia),_,_,rfl,rfl,(by show (0:Int) < 4;decide),_,_,_,_,rfl,rfl,JO<|sm _ _ S0,h1,?_⟩;refine⟨_,e,by rw[ai,yl];exact cY (by lia),⟨_,rfl⟩,sm.set s0,f++ [z],by rw[qb,a_];rfl,by rw[aX,yl];rfl,λy j1=>?_⟩;rcases aF.mp j1 with h | h
    .exact hy y h
    .rw[aM.mp h];exact r
  .rintro X G ⟨v1,L,W,rfl,sg,O,hW,Z,a7,a3⟩;refine⟨_,zr,d,fM W,zr,hW,λl zs l0 r=>?_⟩;have k1:(fM W).map (·.1)=W.map (·.1):=by unfold fM;rw[cr];rfl
   rw[k1]at r;have u:=qc (o:=JR zs) l0;refine⟨l,zr,⟨_,JO qb⟩,λD2 g0=>?_⟩;have l1:zs.length=(JQ bC (W.map (·.1))).length:=Paired.length r;have v0:G D2=none:=u.free g0;have R1:(JQ bC (W.map (·.1))).length=W.length:=by
    rw[(JW bC _).length_eq,ai]
   have J:∀p∈JQ bC (W.map (·.1)),p∈W.map (·.1):=λp U=>(JW bC _).mem_iff.mp U;have S1:(JQ bC (W.map (·.1))).Pairwise λa b=>bC a b=true:=vr fZ (Kb fZ _)<|(JW bC _).nodup_iff.mpr Z;generalize JQ bC (W.map (·.1))=S at*;refine dg zs.length (λi s H'=>(∃v,s=[v,Aa<|.ref d])/\ag (upd G l<|.lst zs) H'/\∃f,H' D2=Aa (.lst f)/\(∀H2,bD H' H2->Paired (hL H2) f ((S.take i).map λk=>(k,(lm W k).getD 0)))/\f.length=i) ⟨⟨_,zr⟩,qc g0,[],qb,λ_ _=> .nil,zr⟩ (λi s H' C p=>?_) (λs H' p=>⟨?_,?_⟩) λi s H' C p x H2 y=>?_
   .obtain⟨_,sm,_⟩:=p;exact⟨_,zs[i],JO<|sm _ _ qb,aH C⟩
   .obtain⟨_,sm,_⟩:=p;exact⟨_,JO<|sm _ _ qb,aj _⟩
   .obtain⟨_,sm,f,e,c1,yl⟩:=p;rw[l1,bA]at c1;refine k D2 _ H' (sg.trans<|u.trans sm) (sg.free v0) ⟨f,e,c1 H' λ_ _ z=>z,by rw[ai];lia,λkv D=>?_⟩ λkv D=>?_
    .obtain⟨t,A,rfl⟩:=aE.mp D;obtain⟨n,B,Y⟩:=qU Z<|J t A;obtain⟨w0,x0,y0,R⟩:=a3 _ Y;rw[B];refine⟨λz r=>(ej.tx (k:= .inr z)<|c0 z<|R z r).2,az y0 (by decide),lr (by decide) w0,lr x0<|by decide⟩
    .obtain⟨t,A,rfl⟩:=aE.mp D;obtain⟨n,B,Y⟩:=qU Z<|J t A;obtain⟨w0,x0,y0,R⟩:=a3 _ Y;rw[B];exact λz r=>⟨R z r,az (kO<|c0 z<|R z r).2.1 (by decide)⟩
   .obtain⟨⟨v,rfl⟩,sm,f,e2,e5,yl⟩:=p;obtain⟨rfl,m1⟩:=y;have n1:=m1 _<|JO<|sm _ _ qb;obtain⟨t,A,b,rfl,h0⟩:=fC r n1;obtain⟨n,B,Y⟩:=qU Z<|J t<|bJ A;have z0:=sm _ _<|u _ _ h0;have o1:di H2 d (.ref b) (Aa<|.int n):=by
     have b0:(Aa<|JN n)=ao ((fM W).map λkv=>(kv.1.map (Aj:Str->af),kv.2)) (t.map Aj):=by rw[NX,B];rfl
     rw[b0];exact di.t (sm _ _<|u _ _ hW) (by rw[nr];exact z0)
    refine⟨_,rfl,_,rfl,_,rfl,d,_,rfl,o1,by show 2<=sizeLine;decide,λq i0=>?_⟩;have E:=qc (o:=JY [.ref b,.int n]) i0;have p1:q≠D2:=λz=>by
     rw[z,e2]at i0;cases i0
    have q1:b≠D2:=λz=>by
     rw[z,v0]at h0;cases h0
    refine⟨_,E _ _ e2,by rw[yl];exact cY (by lia),⟨_,rfl⟩,(sm.trans E).set g0,f++ [.ref q],qb,λM j0=>?_,by rw[aX,yl];rfl⟩;rw[bx,A,a_];refine LD (e5 M<|((ag.keepT E).upd<|E _ _ e2).trans j0) ⟨q,b,rfl,j0 q _ ?_,j0 b _ (by rw[qe q1];exact E _ _ z0)⟩;rw[qe p1,qb];show Aa (JY [JU b,JN n])=Aa (JY [JU b,JN<|(lm W t).getD 0]);rw[B];rfl
inductive wX (b:Ab V) (H:Hp) (Q:VK) (d:XK):Prop
 | mk:∀(c:Int) (m:Int),(b=[.int c,.int m])->(1<=m)->(∀l (a:Ab Int) H',ag H H'->H l=none->H' l=Aa (.lst (a.map JN))->Mt a->a.length<=m.toNat->Q (.ref l) H')->wX b H Q d
theorem Ol(T:Txt K mg):bv P w K mg base 1 "_law_bests" ["_law_cell","_law_most"] wX:=by
 refine T.Yr.ok LK (λd H Q E h=>?_) λf u A v s H d Q E x h=>?_
 .obtain⟨c,m,rfl,_⟩:=h;rfl
 .obtain⟨c,m,rfl,m1,k⟩:=h;refine⟨_,eg
   (ql (i:=2) LK.nd rfl (Ax rfl)<|qu<|UM (qh lC (qh bN (qh dD (pv 0) qd)<|qh mQ qd qd)<|qh mQ qd qd) qd (qh lC (qh bN (qh dD (pv 0) qd) qd) qd) (qh mQ qd qd) (qh lC (qh bN (qh dD (pv 0) qd) qd) qd) qd qd qd<|qh mQ qd qd)
   (qi<|fE (gr K) (qp (rX K) rfl T.eG eH<|ak<|fE (gr K) (pv 2) fQ<|eM<|qh bN (pv 0) qd) fQ<|eM<|pv 1),?_⟩
  refine⟨_,rfl,_,_,rfl,rfl,⟨by decide,by decide⟩,_,_,rfl,rfl,⟨by decide,by decide,by decide⟩,_,_,rfl,rfl,(by show (0:Int) < 10^20;decide),_,_,rfl,rfl,⟨by decide,by decide,by decide⟩,_,_,rfl,rfl,_,rfl,_,_,rfl,rfl,⟨by decide,by decide⟩,_,_,rfl,rfl,(by show (0:Int) < 5;decide),_,_,rfl,rfl,_,_,rfl,rfl,⟨by decide,by decide,by decide⟩,_,rfl,_,_,rfl,rfl,⟨by decide,by decide⟩,_,_,rfl,rfl,(by show (0:Int) < 5;decide),_,_,rfl,rfl,_,_,rfl,rfl,⟨by decide,by decide,by decide⟩,by show 9<=sizeLine;decide,λL e=>?_⟩;obtain⟨b,g⟩:∃b:Ab Int,[JN<|c / 7%10^20 - 10^19,JN 0,JN<|c / 7%5 - 2,JN<|10^20,JN<|c / 11%5 - 2,JN 0,JN 7,JN 7,JN<|10^21]=b.map JN:=⟨[_,_,_,_,_,_,_,_,_],rfl⟩;have j:=qc (o:=JR [JN<|c / 7%10^20 - 10^19,JN 0,JN<|c / 7%5 - 2,JN<|10^20,JN<|c / 11%5 - 2,JN 0,JN 7,JN 7,JN<|10^21]) e;have l:=qb (H:=H) (a:=L) (o:=JR [JN<|c / 7%10^20 - 10^19,JN 0,JN<|c / 7%5 - 2,JN<|10^20,JN<|c / 11%5 - 2,JN 0,JN 7,JN 7,JN<|10^21]);refine⟨_,rfl,_,rfl,_,_,rfl,rfl,(by show (0:Int) < 10;decide),_,rfl,_,_,rfl,JO l,λn O=>?_⟩;have p:=cG c (show (10:Int)≠0 by decide);have q:bX [JN<|c / 7%10^20 - 10^19,JN 0,JN<|c / 7%5 - 2,JN<|10^20,JN<|c / 11%5 - 2,JN 0,JN 7,JN 7,JN<|10^21] none (Aa<|c%10)=(b.take (c%10).toNat).map JN:=by rw[kD _ p,g,CF]
  have r:=qc (o:=JR<|bX [JN<|c / 7%10^20 - 10^19,JN 0,JN<|c / 7%5 - 2,JN<|10^20,JN<|c / 11%5 - 2,JN 0,JN 7,JN 7,JN<|10^21] none<|Aa<|c%10) O;refine⟨n,b.take (c%10).toNat,rfl,.inl<|JO (by rw[<- q];exact qb),λl2 Y=>?_⟩;have t:=qc (o:=JR<|(JQ bB<|b.take (c%10).toNat).map JN) Y;have S:=j.trans<|r.trans t;refine⟨_,zr,_,zr,_,_,zr,JO qb,λl3 J=>?_⟩;rw[kD _ (show 0<=m by lia),<- CF];exact k l3 _ _ (S.trans<|qc J) (S.free J) qb ((Kb gP _).sublist<|Cf _ _) (by rw[bt];lia)
def uI{a:Str}(h:JS a a=true):Bj:=by
 rw[show JS a a=false from bT.irr a]at h;cases h
def nE{a b:Str}(h:JS a b=true):a≠b:=λe=>uI (e ▸ h)
variable{x:xD}
def vj{a b:Str}{y:xD}(h:JS a b=true):bC (a::x) (b::y)=true:=by
 show Kf JS (a::x) (b::y)=true;rw[Kf,Ae<|nE h];exact h
def Yy:cE []:=⟨BH,(λ_ z=>nomatch z),λ_ z=>nomatch z⟩
def uQ(h:ev x):cE [x]:=⟨iL _ _,(λr a=>by rw[aM.mp a];exact h),λr a q b _=>by rw[aM.mp a,aM.mp b]⟩
def um{y:xD}(h:ev x)(k:ev y)(l:bC x y=true){a b:Str}(e:a∈x)(f:a∉y)(g:b∈y)(i:b∉x):cE [x,y]:=by
 have J:∀{r:xD},r∈ [x,y]->r=x\/ r=y:=λ{r} c=>by simpa using c
 refine⟨eC.mpr ⟨λq d=>by rw[aM.mp d];exact l,iL _ _⟩,λr c=>?_,λr c q d s=>?_⟩
 .rcases J c with rfl | rfl
  .exact h
  .exact k
 .rcases J c with rfl | rfl <;> rcases J d with rfl | rfl
  .rfl
  .exact Au (s a e) f
  .exact Au (s b g) i
  .rfl
def qA(a:Str):ev [a]:=iL _ _
def qq{a b:Str}(h:JS a b=true):ev [a,b]:=eC.mpr ⟨λq c=>by rw[aM.mp c];exact h,iL _ _⟩
def PV{l:Ac}(k:H l=none):ag H (upd H l<|.lst [])/\WL (upd H l<|.lst []) l (.acc []):=⟨qc k,[],qb,.nil⟩
variable{xs:Ab V}{r:xD}
def mY{t l:Ac}(e:xs=r.map JP)(h:H t=none)(k:upd H t (.tup xs) l=none):ag H (upd (upd H t<|.tup xs) l<|.lst [.ref t])/\WL (upd (upd H t<|.tup xs) l<|.lst [.ref t]) l (.acc [r]):=
 ⟨(qc h).trans<|qc k,[.ref t],qb,.cons ⟨t,rfl,by rw[<- e];exact qc k _ _ qb⟩ .nil⟩
def nv{t u l:Ac}{ys:Ab V}{q:xD}(e:xs=r.map JP)(a:ys=q.map JP)(h:H t=none)(g:upd H t (.tup xs) u=none)(k:upd (upd H t<|.tup xs) u (.tup ys) l=none):
  ag H (upd (upd (upd H t<|.tup xs) u<|.tup ys) l<|.lst [.ref t,.ref u])/\WL (upd (upd (upd H t<|.tup xs) u<|.tup ys) l<|.lst [.ref t,.ref u]) l (.acc [r,q]):=
 ⟨(qc h).trans<|(qc g).trans<|qc k,[.ref t,.ref u],qb,.cons ⟨t,rfl,by rw[<- e];exact((qc g).trans<|qc k) _ _ qb⟩<|.cons ⟨u,rfl,by rw[<- a];exact qc k _ _ qb⟩ .nil⟩
inductive xg (b:Ab V) (H:Hp) (Q:VK) (e:XK):Prop
 | mk:∀(c:Int) (d:Ac) (a:xD),(b=[.int c,.ref d])->(H d=Aa (.lst (a.map JP)))->(a.length=3)->(a.Nodup)->(HOk a)->(∀l R H',ag H H'->H l=none->WL H' l (.acc R)->bo a .hands (.acc R)->Q (.ref l) H')->xg b H Q e
def Sz(T:Txt K mg):bv P w K mg base 1 "_law_accord" ["_law_cell","_law_names"] xg:=by
 refine T.OM.ok nU (λs0 H Q t0 h=>?_) λL1 N1 O1 P1 Q1 H s0 Q t0 B h=>?_
 .obtain⟨c,wa,J,rfl,_⟩:=h;rfl
 .obtain⟨c,wa,J,rfl,b2,w3,nd,hW,k⟩:=h;refine⟨_,em
   (xP (qp (sZ K) rfl T.eG eH<|ak<|fE (gr K) (pv 1) fQ<|eM qd)<|yZ rfl<|dQ (qk (i:=2) nU.nd rfl<|Ax rfl)<|dQ (qk (i:=3) nU.nd rfl<|Ax rfl)<|dQ (qk (i:=4) nU.nd rfl<|Ax rfl) iS)
   (ql (i:=5) nU.nd rfl (Ax rfl)<|qu<|tt (qu<|ak<|qy<|ak<|pv 2) (qu<|ak<|qy<|aD (pv 2)<|pv 3) (qu<|aD (qy<|ak<|pv 2)<|qy<|ak<|pv 3) (qu<|ak<|qy ck) (qu ck) (qu<|aD (qy<|aD (pv 2)<|pv 4)<|qy<|ak<|pv 3)<|qu<|aD (qy<|aD (pv 2)<|pv 3)<|qy<|aD (pv 2)<|pv 4)
   (qi<|eT (nA K) rfl T.gz gE<|ak<|bg (cJ K) (pv 5) (qh bN (pv 0) qd) λ_ _=>rfl),?_⟩
  refine⟨_,zr,_,zr,_,_,zr,JO b2,λE u0=>?_⟩;have v0:bX (J.map JP) none (Aa 3)=J.map JP:=by
   rw[kD _<|by decide];exact jm (by rw[ai,w3];decide)
  rw[v0];have w0:=qc (o:=JR<|J.map JP) u0;refine⟨E,J,zr,.inl<|JO qb,λl2 x0=>?_⟩;have y0:=qc (o:=JR<|(JQ JS J).map JP) x0;have z0:=w0.trans y0;have A0:=qb (H:=upd H E<|.lst<|J.map JP) (a:=l2) (o:=JR<|(JQ JS J).map JP);have srt:(JQ JS J).Pairwise λa b=>JS a b=true:=li bT (Kb bT J)<|(JW JS J).nodup_iff.mpr nd;have F:∀x∈JQ JS J,x∈J:=λx n=>(JW JS J).mem_iff.mp n;have H0:(JQ JS J).length=3:=by rw[(JW JS J).length_eq,w3]
  generalize upd (upd H E<|.lst<|J.map JP) l2 (.lst<|(JQ JS J).map JP)=H2 at*;generalize JQ JS J=S at*;obtain⟨o,t,r,rfl⟩:∃o t r,S=[o,t,r]:=by
   match S,H0 with
   | [o,t,r],_=>exact⟨_,_,_,rfl⟩
  have s:JS o t=true:=(eC.mp srt).1 t (by simp);have O:JS o r=true:=(eC.mp srt).1 r (by simp);have M:JS t r=true:=(eC.mp (eC.mp srt).2).1 r (by simp);have u:=nE s;have J0:=nE O;have G:=nE M;refine⟨l2,_,zr,JO A0,zr,_,_,zr,_,_,zr,_,_,zr,zr,?_⟩;refine⟨_,rfl,by show 1<=sizeLine;decide,λN K0=>⟨by show 1<=sizeLine;decide,λY L0=>?_⟩⟩;obtain⟨u1,M0⟩:=mY (xs:=[JP o]) (r:=[o]) rfl K0 L0
  replace u1:=z0.trans u1
  generalize upd (upd H2 N<|.tup [JP o]) Y (.lst [.ref N])=N0 at*;refine⟨_,rfl,_,rfl,by show 2<=sizeLine;decide,λU O0=>⟨by show 1<=sizeLine;decide,λZ P0=>?_⟩⟩;obtain⟨Q0,R0⟩:=mY (xs:=[JP o,JP t]) (r:=[o,t]) rfl O0 P0;generalize upd (upd N0 U<|.tup [JP o,JP t]) Z (.lst [.ref U])=S0 at*;refine⟨_,rfl,by show 1<=sizeLine;decide,λW T0=>⟨_,rfl,by show 1<=sizeLine;decide,λX U0=>⟨by show 2<=sizeLine;decide,λd V0=>?_⟩⟩⟩;obtain⟨W0,X0⟩:=nv (xs:=[JP o]) (ys:=[JP t]) (r:=[o]) (q:=[t]) rfl rfl T0 U0 V0;generalize upd (upd (upd S0 W<|.tup [JP o]) X<|.tup [JP t]) d (.lst [.ref W,.ref X])=Y0 at*;refine⟨by show 0<=sizeLine;decide,λa0 Z0=>⟨by show 1<=sizeLine;decide,λf a1=>?_⟩⟩;obtain⟨b1,c1⟩:=mY (xs:=[]) (r:=[]) rfl Z0 a1;generalize upd (upd Y0 a0<|.tup []) f (.lst [.ref a0])=d1 at*;refine⟨by show 0<=sizeLine;decide,λg e1=>?_⟩;obtain⟨f1,g1⟩:=PV e1;generalize upd d1 g (.lst [])=h1 at*;refine⟨_,rfl,_,rfl,by show 2<=sizeLine;decide,λb0 i1=>⟨_,rfl,by show 1<=sizeLine;decide,λc0 j1=>⟨by show 2<=sizeLine;decide,λj k1=>?_⟩⟩⟩;obtain⟨l1,m1⟩:=nv (xs:=[JP o,JP r]) (ys:=[JP t]) (r:=[o,r]) (q:=[t]) rfl rfl i1 j1 k1;generalize upd (upd (upd h1 b0<|.tup [JP o,JP r]) c0<|.tup [JP t]) j (.lst [.ref b0,.ref c0])=n1 at*;refine⟨_,rfl,_,rfl,by show 2<=sizeLine;decide,λd0 o1=>⟨_,rfl,_,rfl,by show 2<=sizeLine;decide,λe0 p1=>⟨by show 2<=sizeLine;decide,λl q1=>?_⟩⟩⟩;obtain⟨r1,s1⟩:=nv (xs:=[JP o,JP t]) (ys:=[JP o,JP r]) (r:=[o,t]) (q:=[o,r]) rfl rfl o1 p1 q1;generalize upd (upd (upd n1 d0<|.tup [JP o,JP t]) e0<|.tup [JP o,JP r]) l (.lst [.ref d0,.ref e0])=f0 at*;refine⟨by show 7<=sizeLine;decide,λg0 t1=>?_⟩;have w1:=qc (o:=JR [JU Y,.ref Z,.ref d,.ref f,.ref g,.ref j,.ref l]) t1;have x1:=qb (H:=f0) (a:=g0) (o:=JR [JU Y,.ref Z,.ref d,.ref f,.ref g,.ref j,.ref l]);generalize upd f0 g0 (.lst [JU Y,.ref Z,.ref d,.ref f,.ref g,.ref j,.ref l])=y1 at*;have h0:=w1;have i0:=r1.trans h0;have j0:=l1.trans i0;have k0:=f1.trans j0;have l0:=b1.trans k0;have m0:=W0.trans l0;have v1:=Q0.trans m0;have n0:=u1.trans v1;obtain⟨v,z1,o0⟩:=iQ (xs:=[JU Y,.ref Z,.ref d,.ref f,.ref g,.ref j,.ref l]) (i:=c%7) (cG _<|by decide) (cS _<|by decide);have m:o∈J:=F o (by simp);have mt:t∈J:=F t (by simp);have p0:r∈J:=F r (by simp);have A:∀{x:Str},x∈J->∀w∈ [x],w∈J:=λ{x} n w I=>by rw[aM.mp I];exact n
  have C:∀{x y:Str},x∈J->y∈J->∀w∈ [x,y],w∈J:=λ{x y} n A1 w I=>(aA.mp I).elim (λe=>e ▸ n)<|A A1 w;have D:∀{x:xD},(∀w∈x,w∈J)->∀r∈ [x],∀w∈r,w∈J:=λ{x} h r B=>by rw[aM.mp B];exact h
  have L:∀{x y:xD},(∀w∈x,w∈J)->(∀w∈y,w∈J)->∀r∈ [x,y],∀w∈r,w∈J:=λ{x y} h k r B=>(aA.mp B).elim (λe=>e ▸ h)<|D k r;obtain⟨p,R,rfl,G1,H1,I1⟩:∃p R,v= .ref p/\WL y1 p (.acc R)/\cE R/\∀r∈R,∀w∈r,w∈J:=by
   simp only[aA,cc,Bf]at o0;rcases o0 with rfl | rfl | rfl | rfl | rfl | rfl | rfl
   .exact⟨Y,_,zr,M0.same v1,uQ<|qA o,D<|A m⟩
   .exact⟨Z,_,zr,R0.same m0,uQ<|qq s,D<|C m mt⟩
   .exact⟨d,_,zr,X0.same l0,(um (qA o) (qA t) (vj s) (a:=o) (b:=t) (by simp) (by simp[u]) (by simp)<|by simp[Bi u]),L (A m)<|A mt⟩
   .exact⟨f,_,rfl,c1.same k0,uQ BH,(D λ_ z=>nomatch z)⟩
   .exact⟨g,_,rfl,g1.same j0,Yy,(λ_ z=>nomatch z)⟩
   .exact⟨j,_,zr,m1.same i0,(um (qq O) (qA t) (vj s) (a:=o) (b:=t) (by simp) (by simp[u]) (by simp)<|by simp[Bi u,G]),L (C m p0)<|A mt⟩
   .refine⟨l,_,zr,s1.same h0,(um (qq s) (qq O) ?_ (a:=t) (b:=r) (by simp) (by simp[Bi u,G]) (by simp)<|by simp[Bi J0,Bi G]),L (C m mt)<|C m p0⟩;show Kf JS (o:: [t]) (o:: [r])=true;rw[Kf,Ah rfl];exact vj M
  obtain⟨zs,J1,K1⟩:=G1.lst;refine⟨_,rfl,_,rfl,_,_,rfl,rfl,(by show (0:Int) < 7;decide),_,_,_,_,rfl,rfl,JO x1,z1,p,zs,rfl,.inl<|JO J1,λq q0=>?_⟩;have r0:=qc (o:=JR zs) q0;exact k q R _ (n0.trans r0) (n0.free q0) (K1 _ _ (ag.keepT r0) qb)<|.hands H1 ⟨by decide,hW.few,hW.ne,I1⟩
def WX(d:AQ):fh .hands d=mo d:=by cases d <;> rfl
def Vb(n:¬ cE R):fh .hands (.list<|R.map dR)=false:=by
 rw[WX];have a:(R.map dR).map setD=R:=by
  rw[cr]
  conv=>rhs;rw[<- kh R]
  refine fT λr _=>?_;show (r.map D6).map jU=r;rw[cr];exact kh _
 show ((R.map dR).all twB&&decide ((R.map dR).map setD=gu ((R.map dR).map setD)))=false;rw[a,aN λe=>n (by rw[e];exact ln R),Co]
theorem WR(f:R.length<=10)(h:∀r∈R,r.length<=2/\∀w∈r,bS dS w=true):gL (.list<|R.map dR):=by
 refine⟨by rw[ai];lia,λe b=>?_⟩;obtain⟨r,a,rfl⟩:=aE.mp b;refine⟨by rw[ai];have:=(h r a).1;lia,λx c=>?_⟩;obtain⟨w,d,rfl⟩:=aE.mp c;exact az (kO<|(h r a).2 w d).2.1 (by decide)
def qC{C:α->Prop}{x y:α}(a:C x)(b:C y):∀z∈ [x,y],C z:=λz c=>(aA.mp c).elim (λe=>e ▸ a) λh=>(aM.mp h) ▸ b
def jE{C:α->Prop}{x:α}(a:C x):∀z∈ [x],C z:=λz b=>(aM.mp b) ▸ a
def ob{p:Ac}(c:WL H p (.acc R))(n:¬ cE R)(e:R.length<=10)(h:∀r∈R,r.length<=2/\∀w∈r,bS dS w=true/\AW w=true):∃d,ay K H d (.ref p)/\gL d/\fh .hands d=false:=by
 obtain⟨zs,f,g⟩:=c;exact⟨_,.lst (JO f) (n_ g λr a w b=>((h r a).2 w b).2),WR e λr a=>⟨(h r a).1,λw b=>((h r a).2 w b).1⟩,Vb n⟩
inductive zp (K:xA) (e:Ab V) (H:Hp) (Q:VK) (g:XK):Prop
 | mk:∀(k:Kd) (b:AJ) (f:Ac) (a:xD) (m:Int) (c:Int),(e=[.bl b,.ref f,.int m,.int c])->((b=true/\k= .hands\/ b=false/\k= .bests m))->(1<=m)->(m<=9)->(H f=Aa (.lst (a.map JP)))->(a.length=3)->(a.Nodup)->(HOk a)->(∀x d H',ag H H'->ay K H' d x->gL d->fh k d=false->Q x H')->zp K e H Q g
theorem VX(o0:Txt K mg):bv P w K mg base 1 "_law_no_price" ["_law_hands","_law_names","_law_most","_law_cell"] (zp K):=by
 refine o0.Vt.ok vC (λA0 H Q H0 h=>?_) λq1 r1 s1 t1 w1 H A0 Q H0 x1 h=>?_
 .obtain⟨k,hb,wa,J,m,c,rfl,_⟩:=h;rfl
 .obtain⟨k,hb,wa,J,m,c,rfl,hk,m1,m9,b2,w3,nd,hW,kk⟩:=h;refine⟨_,eg
   (bQ (rV (pv 0) λ_=>rfl) (eg
   (xP (qp (sZ K) rfl o0.eG eH<|ak<|fE (gr K) (pv 1) fQ<|eM qd)<|yZ rfl<|dQ (qk (i:=4) vC.nd rfl<|Ax rfl)<|dQ (qk (i:=5) vC.nd rfl<|Ax rfl) iS)
   (qi<|bg (cJ K) (qu<|tt (qu<|aD (qy<|ak<|pv 4)<|qy<|aD (pv 4)<|pv 5) (qu<|ak<|qy<|aD (pv 5)<|pv 4) (qu<|aD (qy<|ak<|pv 5)<|qy<|ak<|pv 4) (qu<|ak<|qu<|ak<|pv 4) rG (qu<|ak<|qy<|aD (pv 4)<|pv 4) qd) (qh bN (pv 3) qd) λ_ _=>rfl)) ci)
   (qi<|bg (cJ K) (qu<|tt (qu<|aD qd qd) (qh xq (qu<|ak qd)<|qh cI (pv 2) qd) (qu<|ak cM) rG qd (qu<|ak gx)<|qy<|ak qd) (qh bN (pv 3) qd) λ_ _=>rfl),?_⟩
  rcases hk with ⟨rfl,rfl⟩ | ⟨rfl,rfl⟩
  .refine⟨_,zr,_,zr,fG rfl ?_⟩;refine⟨_,zr,_,zr,_,_,zr,JO b2,λM J0=>?_⟩;have N:bX (J.map JP) none (Aa 2)=(J.take 2).map JP:=by
    rw[kD _ (by decide),CF];rfl
   rw[N];have K0:=qc (o:=JR<|(J.take 2).map JP) J0;refine⟨M,J.take 2,zr,.inl<|JO qb,λl2 L0=>?_⟩;have M0:=qc (o:=JR<|(JQ JS<|J.take 2).map JP) L0;have N0:=K0.trans M0;have R:=qb (H:=upd H M<|.lst<|(J.take 2).map JP) (a:=l2) (o:=JR<|(JQ JS<|J.take 2).map JP);have O0:(J.take 2).Nodup:=nd.sublist<|Cf _ _;have srt:(JQ JS<|J.take 2).Pairwise λa P0=>JS a P0=true:=li bT (Kb bT _)<|(JW JS _).nodup_iff.mpr O0;have D:∀x∈JQ JS (J.take 2),x∈J:=λx Q0=>kW<|(JW JS _).mem_iff.mp Q0;have R0:(JQ JS<|J.take 2).length=2:=by rw[(JW JS _).length_eq,bt,w3];rfl
   generalize upd (upd H M<|.lst<|(J.take 2).map JP) l2 (.lst<|(JQ JS<|J.take 2).map JP)=H2 at*;generalize JQ JS (J.take 2)=S at*;obtain⟨o,t,rfl⟩:∃o t,S=[o,t]:=by
    match S,R0 with
    | [o,t],_=>exact⟨_,_,rfl⟩
   have p0:JS o t=true:=(eC.mp srt).1 t (by simp);have S0:=nE p0;have q0:¬ JS t o=true:=λz=>uI<|bT.tr _ _ _ p0 z;have go:=hW.tx o (D o<|by simp);have T:=hW.tx t (D t<|by simp);have e:=hW.ok o (D o<|by simp);have st:=hW.ok t (D t<|by simp);have U:∀{x:Str},bS dS x=true->AW x=true-> [x].length<=2/\∀w∈ [x],bS dS w=true/\AW w=true:=λ{x} h k=>⟨by show 1<=2;decide,jE ⟨h,k⟩⟩;have W:∀{x y:Str},bS dS x=true->AW x=true->bS dS y=true->AW y=true-> [x,y].length<=2/\∀w∈ [x,y],bS dS w=true/\AW w=true:=λ{x y} h k T0 U0=>⟨aj _,qC ⟨h,k⟩ ⟨T0,U0⟩⟩;refine⟨l2,_,zr,JO R,zr,_,_,zr,_,_,zr,zr,?_⟩;refine⟨_,rfl,by show 1<=sizeLine;decide,λr0 V0=>⟨_,rfl,_,rfl,by show 2<=sizeLine;decide,λs0 W0=>⟨by show 2<=sizeLine;decide,λY X=>?_⟩⟩⟩;obtain⟨u1,X0⟩:=nv (xs:=[JP o]) (ys:=[JP o,JP t]) (r:=[o]) (q:=[o,t]) rfl rfl V0 W0 X
   replace u1:=N0.trans u1
   generalize upd (upd (upd H2 r0<|.tup [JP o]) s0<|.tup [JP o,JP t]) Y (.lst [.ref r0,.ref s0])=E at*;refine⟨_,rfl,_,rfl,by show 2<=sizeLine;decide,λf a0=>⟨by show 1<=sizeLine;decide,λZ b0=>?_⟩⟩;obtain⟨c0,Y0⟩:=mY (xs:=[JP t,JP o]) (r:=[t,o]) rfl a0 b0;generalize upd (upd E f<|.tup [JP t,JP o]) Z (.lst [.ref f])=F at*;refine⟨_,rfl,by show 1<=sizeLine;decide,λt0 Z0=>⟨_,rfl,by show 1<=sizeLine;decide,λu0 a1=>⟨by show 2<=sizeLine;decide,λb d0=>?_⟩⟩⟩;obtain⟨e0,b1⟩:=nv (xs:=[JP t]) (ys:=[JP o]) (r:=[t]) (q:=[o]) rfl rfl Z0 a1 d0;generalize upd (upd (upd F t0<|.tup [JP t]) u0<|.tup [JP o]) b (.lst [.ref t0,.ref u0])=l at*;refine⟨_,rfl,by show 1<=sizeLine;decide,λg c1=>⟨by show 1<=sizeLine;decide,λO G=>?_⟩⟩;have f0:=(qc (o:=JR [JP o]) c1).trans<|qc (o:=JR [JU g]) G;have d1:ay K (upd (upd l g<|.lst [JP o]) O<|.lst [JU g]) (.list [.list [.str o]]) (.ref O):= .lst (JO qb)<|.cons (.lst (JO<|qc (o:=JR [JU g]) G _ _ qb)<|.cons (.str o e) .nil) .nil;generalize upd (upd l g<|.lst [JP o]) O (.lst [JU g])=I at*;refine⟨_,rfl,_,rfl,by show 2<=sizeLine;decide,λv0 e1=>⟨by show 1<=sizeLine;decide,λn f1=>?_⟩⟩;obtain⟨g0,g1⟩:=mY (xs:=[JP o,JP o]) (r:=[o,o]) rfl e1 f1;generalize upd (upd I v0<|.tup [JP o,JP o]) n (.lst [.ref v0])=w0 at*;refine⟨by show 7<=sizeLine;decide,λL h0=>?_⟩;have i0:=qc (o:=JR [JU Y,.ref Z,.ref b,.ref O,.non,.ref n,.int 0]) h0;have j0:=qb (H:=w0) (a:=L) (o:=JR [JU Y,.ref Z,.ref b,.ref O,.non,.ref n,.int 0]);generalize upd w0 L (.lst [JU Y,.ref Z,.ref b,.ref O,.non,.ref n,.int 0])=s at*;have u:=i0;have A:=g0.trans u;have B:=f0.trans A;have x0:=e0.trans B;have v1:=c0.trans x0;obtain⟨v,k0,C⟩:=iQ (xs:=[JU Y,.ref Z,.ref b,.ref O,.non,.ref n,.int 0]) (i:=c%7) (cG _<|by decide) (cS _<|by decide);obtain⟨d,l0,m0,n0⟩:∃d,ay K s d v/\gL d/\fh .hands d=false:=by
    simp only[aA,cc,Bf]at C;rcases C with rfl | rfl | rfl | rfl | rfl | rfl | rfl
    .refine ob (X0.same v1) (λa=>?_) (by show 2<=10;decide)<|qC (U go e)<|W go e T st;have:=a.anti [o] (by simp) [o,t] (by simp) (jE<|by simp);cases this
    .exact ob (Y0.same x0) (λa=>q0<|(eC.mp (a.norm [t,o]<|by simp)).1 o (by simp)) (by show 1<=10;decide)<|jE<|W T st go e
    .refine ob (b1.same B) (λa=>q0 ?_) (by show 2<=10;decide)<|qC (U T st)<|U go e;have:=(eC.mp a.srt).1 [o] (by simp);have:Kf JS (t:: []) (o:: [])=true:=this;rw[Kf,Ae<|Bi S0]at this;exact this
    .exact⟨_,Kk A _ _ d1,⟨by show 1<=2000;decide,jE Ay⟩,rfl⟩
    .exact⟨.none,.non,Ay,zr⟩
    .exact ob (g1.same u) (λa=>uI<|(eC.mp (a.norm [o,o]<|by simp)).1 o (by simp)) (by show 1<=10;decide)<|jE<|W go e go e
    .exact⟨.int 0,.int 0,Ay,zr⟩
   exact⟨_,rfl,_,_,rfl,rfl,(by show (0:Int) < 7;decide),_,_,_,_,rfl,rfl,JO j0,k0,kk v d s (u1.trans v1) l0 m0 n0⟩
  .refine⟨_,zr,_,zr,fq rfl ?_⟩;refine⟨by show 2<=sizeLine;decide,λY X=>⟨by show 1<=sizeLine;decide,λf a0=>?_⟩⟩;have u1:=qc (o:=JR [JN 1,.int 0]) X;have h1:=qb (H:=H) (a:=Y) (o:=JR [JN 1,.int 0]);generalize upd H Y (.lst [JN 1,.int 0])=H1 at*;have c0:=qc (o:=JR [JN 0]) a0;have N:=qb (H:=H1) (a:=f) (o:=JR [JN 0]);generalize upd H1 f (.lst [JN 0])=H2 at*;refine⟨_,rfl,_,_,rfl,rfl,f,m+1,_,rfl,rfl,N,by lia,by lia,by show 1*(m+1).toNat<=sizeLine;exact az (show _<=1000 by lia) (by decide),λZ b0=>?_⟩;have i1:(AI (m+1).toNat [JN 0]).flatten=(AI (m+1).toNat (0:Int)).map JN:=by
    rw[Gc,List.flatten_replicate_singleton]
   rw[i1];have e0:=qc (o:=JR<|(AI (m+1).toNat (0:Int)).map JN) b0;have R:=qb (H:=H2) (a:=Z) (o:=JR<|(AI (m+1).toNat (0:Int)).map JN);generalize upd H2 Z (.lst<|(AI (m+1).toNat (0:Int)).map JN)=E at*;refine⟨by show 1<=sizeLine;decide,λb d0=>?_⟩;have f0:=qc (o:=JR [Ke true]) d0;have j1:=qb (H:=E) (a:=b) (o:=JR [Ke true]);generalize upd E b (.lst [Ke true])=F at*;refine⟨by show 1<=sizeLine;decide,λO G=>?_⟩;have k1:=qc (o:=JR [JP "1"]) G;have l1:=qb (H:=F) (a:=O) (o:=JR [JP "1"]);generalize upd F O (.lst [JP "1"])=l at*;refine⟨by show 1<=sizeLine;decide,λj n1=>?_⟩;have g0:=qc (o:=JY [JN 0]) n1;have o1:=qb (H:=l) (a:=j) (o:=JY [JN 0]);generalize upd l j (.tup [JN 0])=I at*;refine⟨by show 7<=sizeLine;decide,λL h0=>?_⟩;have i0:=qc (o:=JR [JU Y,.ref Z,.ref b,.non,.int 0,.ref O,.ref j]) h0;have j0:=qb (H:=I) (a:=L) (o:=JR [JU Y,.ref Z,.ref b,.non,.int 0,.ref O,.ref j]);generalize upd I L (.lst [JU Y,.ref Z,.ref b,.non,.int 0,.ref O,.ref j])=s at*;have u:=i0;have y0:=g0.trans u;have A:=k1.trans y0;have B:=f0.trans A;have v1:=c0.trans<|e0.trans B;obtain⟨v,k0,C⟩:=iQ (xs:=[JU Y,.ref Z,.ref b,.non,.int 0,.ref O,.ref j]) (i:=c%7) (cG _<|by decide) (cS _<|by decide);obtain⟨d,l0,m0,n0⟩:∃d,ay K s d v/\gL d/\fh (.bests m) d=false:=by
    simp only[aA,cc,Bf]at C;rcases C with rfl | rfl | rfl | rfl | rfl | rfl | rfl
    .refine⟨.list [.int 1,.int 0],.lst (JO<|v1 _ _ h1)<|.cons (.int 1)<|.cons (.int 0) .nil,⟨by show 2<=2000;decide,qC Ay Ay⟩,?_⟩;show (_&&(_&&decide ([1,0]=JQ bB [1,0])))=false;rw[aN (p:=([1,0]:Ab Int)=JQ bB [1,0]) λz0=>?_,Co,Co];have:=Kb gP [1,0];rw[<- z0]at this;have:=(eC.mp this).1 0 (by simp);exact Au this (by decide)
    .refine⟨.list<|(AI (m+1).toNat (0:Int)).map .int,.lst (JO<|B _ _ R)<|pW _,⟨by rw[ai,C5];lia,λz0 p1=>?_⟩,?_⟩
     .obtain⟨i,_,rfl⟩:=aE.mp p1;trivial
     .show (decide ((((AI (m+1).toNat (0:Int)).map CN).length:Int)<=m)&&_)=false;rw[ai,C5,aN (by lia),hV]
    .exact⟨.list [.bool true],.lst (JO<|A _ _ j1)<|.cons (.bl true) .nil,⟨by show 1<=2000;decide,jE Ay⟩,by show (_&&(false&&_))=false;rw[hV,Co]⟩
    .exact⟨.none,.non,Ay,zr⟩
    .exact⟨.int 0,.int 0,Ay,zr⟩
    .exact⟨.list [.str "1"],.lst (JO<|y0 _ _ l1)<|.cons (.str _<|by decide+kernel) .nil,⟨by show 1<=2000;decide,jE Ay⟩,by show (_&&(false&&_))=false;rw[hV,Co]⟩
    .exact⟨.tuple [.int 0],.tup (JT<|u _ _ o1)<|.cons (.int 0) .nil,Ay,zr⟩
   exact⟨_,rfl,_,_,rfl,rfl,(by show (0:Int) < 7;decide),_,_,_,_,rfl,rfl,JO j0,k0,kk v d s (u1.trans v1) l0 m0 n0⟩
def kM(p:PR):AQ:= .tuple [.str p.1,.tuple<|p.2.map gb]
theorem rh:∀a:Ab af,Az (a.map gb)=0
 | []=>rfl
 | k::a=>by
  show max (gb k).depth (Az<|a.map gb)=0;rw[rh a];cases k <;> rfl
theorem rz{K:xA}{H:Hp}:∀{a:Ab af},(∀k∈a,ej k)->aW K H (a.map gb) (a.map kV)
 | [],_=> .nil
 | k::a,h=> .cons (uY (h k (be ..)).ok) (rz λx b=>h x<|bb _ b)
def OH{p:PR}{b:Ac}(g:fV p)(h:ax H (pN p) (.ref b)):ay K H (kM p) (.ref b):=by
 obtain⟨q,a,c⟩:=fI.mp h;exact .tup (JT a)<|.cons (.str _ (ej.tx (k:= .inr p.1) g.1).2)<|.cons (.tup (JT c)<|rz g.2.2) .nil
theorem rE{K:xA}{H:Hp}:∀{zs:Ab V} {a:Ab PR},Paired (js H) zs a->(∀p∈a,fV p)->aW K H (a.map kM) zs
 | _,_,.nil,_=> .nil
 | _,_,.cons ⟨b,e,h⟩ r,g=>by
  subst e;exact .cons (OH (g _ (be ..)) h) (rE r λx c=>g x<|bb _ c)
def Vv(a:Ab PR):(Jt<|a.map kM).depth<=60:=by
 have:Az (a.map kM)<=2:=by
  induction a with
  | nil=>exact ba _
  | cons p a b=>
   refine Nat.max_le.mpr ⟨?_,b⟩;show max 0 (max (Az (p.2.map gb)+1) 0)+1<=2;rw[rh];decide
 exact az (fP this) (by decide)
def WE{a J:Ab PR}(b:a.Nodup)(c:J.Nodup)(h:∀q,q∈a↔q∈J):JQ aO a=JQ aO J:=
 Kw jI ((JW aO a).trans<|(BP b c).mpr h) (Kb jI a)
def QT{a J:Ab PR}{b:PR->AJ}(c:a.Nodup)(d:J.Nodup)(h:∀q,q∈J↔q∈a/\b q=true):(JQ aO a).filter b=JQ aO J:=by
 refine Kw jI ((BP (((JW aO a).nodup_iff.mpr c).sublist DI) d).mpr λq=>?_)<|(Kb jI a).sublist DI;rw[cV,(JW aO a).mem_iff];exact(h q).symm
def LX{x a C:Ac}{fs:Ab (Str×V)}(b:H x=none)(J:H a=none):ag H (upd (upd H a<|.own x) x<|.ins C a fs):=λc o e=>by
 rw[qe<|qj e b,qe<|qj e J];exact e
def MH{x a:Ac}{o1 o2 o3:HO}(b:H x=none)(J:H a=none):ag H (upd (upd (upd H a o1) x o2) x o3):=λc o e=>by
 rw[qe<|qj e b,qe<|qj e b,qe<|qj e J];exact e
def wS(a b:Str):hX (.str a) (.str b)=decide (a=b):=by
 show (a==b)=_;by_cases h:a=b <;> simp[h]
def Qj(x:Str)(J:xD):ng (.str x) (J.map JP)=decide (x∈J):=by
 unfold ng;rw[hN,fN,D7]
 constructor
 .rintro ⟨y,hy,h⟩;obtain⟨z,a,rfl⟩:=aE.mp hy;rw[wS]at h;have:=AT h;exact this ▸ a
 .intro h;exact⟨.str x,aE.mpr ⟨x,h,rfl⟩,by rw[wS];simp⟩
def TK(a:xD):(a.map JP).all hM=true:=by
 rw[eh];intro x b;obtain⟨z,_,rfl⟩:=aE.mp b;rfl
def jt(g:PR->Ag ar)(n:Str)(q:PR):AJ:=match g q with
 | none=>false
 | some Y=>(Y.map λkv=>decide (n∈kv.1)).any id
def Y_{g:PR->Ag ar}{n:Str}{q:PR}:jt g n q=true↔fy g n q:=by
 unfold jt fy;cases e:g q with
 | none=>exact⟨(λz=>nomatch z),λ⟨_,z,_⟩=>nomatch z⟩
 | some Y=>
  show ((Y.map λkv=>decide (n∈kv.1)).any id)=true↔_;rw[fN]
  constructor
  .rintro ⟨b,hb,e⟩;obtain⟨kv,J,rfl⟩:=aE.mp hb;exact⟨Y,zr,kv,J,AT e⟩
  .rintro ⟨Y',e,kv,J,hn⟩;cases e
   exact⟨_,aE.mpr ⟨kv,J,zr⟩,aS hn⟩
variable{c:Ac}
def aG.putT{F:Ac->Prop}(h:aG F H H1)(J:F c\/ H c=none)(f:bD H1 (upd H1 c o)):aG F H (upd H1 c o):=
 ⟨λa y n e=>by
  rw[qe (λz=>by
   subst z;rcases J with J | J
   .exact n J
   .rw[J]at e;cases e)]
  exact h.st a y n e,λb d e=>f b d<|h.kt b d e,λa n=>iB (F:=λa=>H1 a≠none) (λ_ y=>y) a<|h.al a n⟩
def pF(e:H c=Aa (.lst xs)):bD H (upd H c o):=λb d a=>by
 rw[qe (λz=>by rw[z,e]at a;cases a)];exact a
theorem WL.lst2{p:Ac}{a:Wo}{U:xD}{k:Kd}(h:WL H p a)(g:bo U k a)(c:k.ok):∃zs,H p=Aa (.lst zs)/\zs.length<=1024/\∀H' q,bD H H'->H' q=Aa (.lst zs)->WL H' q a:=by
 cases g with
 | @bests m l _ f=>
  have:m<=9:=c.2;exact⟨_,h,by rw[ai];lia,λ_ _ _ e=>e⟩
 | hands x o=>
  obtain⟨zs,d,b⟩:=h;exact⟨zs,d,by rw[Paired.length b];exact o.cards x,λ_ _ k e=>⟨zs,e,gY k b⟩⟩
section
variable{P:Ai}{w:Al}{K:xA}{mg:xE}{base:AH}{W U:xD}{Ps:Ab PR}{H H':Hp}{F F' G:Ac->Prop}{A:LA}{k:Kd}{f:Str->Ag Wo}{g:PR->Ag ar}
theorem cx.same(L:cx P w mg W U Ps H F A k f g)(s:ag H H'):cx P w mg W U Ps H' F A k f g:=⟨L.led.same s,L.ok,L.sm⟩
theorem cx.up(L:cx P w mg W U Ps H F A k f g)(b:∀a,F a->F' a)(c:∀a,F' a->H a≠none):cx P w mg W U Ps H F' A k f g:=⟨L.led.up b c,L.ok,L.sm⟩
theorem cx.else_(L:cx P w mg W U Ps H F A k f g){c:Ac}{o:HO}(a:bD H (upd H c o))(b:¬ F c):cx P w mg W U Ps (upd H c o) F A k f g:=⟨L.led.else_ a b,L.ok,L.sm⟩
end
inductive G_ (P:Ai) (w:Al) (K:xA) (a:xE) (c:Ab V) (H:Hp) (Q:VK) (h:XK):Prop
  | mk:∀(W:xD) (U:xD) (e:Ab PR) (F:Ac->Prop) (A:LA) (k:Kd) (f:Str->Ag Wo) (g:PR->Ag ar) (z:Str) (b:Ac),(c=[.ref A.p,.str z,.ref b])->(cx P w a W U e H F A k f g)->((∀H',ag H H'->Q (.bl true) H'))->(((z="price"/\∃n x d,aU K H b [.str n,x]/\n∈W/\n.length<=1000/\ay K H d x/\gL d/\fh k d=false)\/
   (z="enter"/\∃q r l Y,aU K H b [.str q.1,.ref r,.ref l]/\q∈e/\H r=Aa (.tup (q.2.map kV))/\WA H l Y/\¬ F l/\hY W Y/\∃p∈Y,∃n∈p.1,f n=none)))->G_ P w K a c H Q h
def NI(T:Txt K mg):bv P w K mg base 9 "_law_refused" ["_law_ledger","_law_way","_law_thing"] (G_ P w K mg):=by
 refine T.YY.ok xK (λI H Q E h=>?_) λf l0 A m0 n0 H I Q E B h=>?_
 .obtain⟨W,U,Ps,F,A,k,f,g,z,b,rfl,_⟩:=h;rfl
 .obtain⟨W,U,Ps,F,A,k,ff,g,z,b,rfl,L,q,h⟩:=h;refine⟨_,eg
   (TM (i:=3) T.ub (λ_ _ _ s=>qg<|bQ (fF kF (pv 1) gx<|du _) (qg<|cy<|Nb (MS (P:=P) (w:=w) T) s T.qo B (pv 0)<|aD (bg (ec K) (pv 2) qd λ_ _=>rfl)<|bg (ec K) (pv 2) qd λ_ _=>rfl)<|qg<|cy<|Nb (xh (P:=P) (w:=w) T) s T.qo B (pv 0)<|cZ (bg (ec K) (pv 2) qd λ_ _=>rfl) (bg (ec K) (pv 2) qd λ_ _=>rfl)<|bg (ec K) (pv 2) qd λ_ _=>rfl) (λC D=>qg<|qi<|qp (Wn K) rfl T.fJ fS<|aD (pv 3)<|fY rfl T.Qw Ql) rfl rfl xK.nd)
   (qi cM),?_⟩
  rcases h with ⟨rfl,n,x,d,o,M,N,R,S,X⟩ | ⟨rfl,Y,r,l,a0,o,b0,Z,c0,d0,e0,f0⟩
  .refine⟨_,zr,zr,_,zr,fG (aS rfl) ?_⟩;refine⟨_,zr,A.p,A.dx,_,zr,L.led.ins,zr,_,zr,_,_,_,_,zr,zr,o,cv (j:=0) rfl,_,zr,_,_,_,_,zr,zr,o,cv (j:=1) rfl,W,U,Ps,F,A,k,ff,g,n,x,d,zr,L,M,N,R,S,.inr ⟨X,λH' t=>?_⟩⟩;refine⟨T.he.caught T.he T.zQ,λC D m O u y=>?_⟩;have J:m.length=4:=y;obtain⟨g0,h0,i0,j0,rfl⟩:∃a b c e,m=[a,b,c,e]:=by
    match m,J with
    | [a,b,c,e],_=>exact⟨a,b,c,e,rfl⟩
   exact⟨_,zr,cA mg "NoWorth",0,_,true,zr,O,T.he.isi,.inr ⟨_,zr,T.he.veI⟩,q _ t⟩
  .refine⟨_,zr,zr,_,zr,fq (by decide+kernel) ?_⟩;refine⟨_,zr,A.p,A.dx,_,zr,L.led.ins,zr,_,zr,_,_,_,_,zr,zr,o,cv (j:=0) rfl,_,zr,_,_,_,_,zr,zr,o,cv (j:=1) rfl,_,zr,_,_,_,_,zr,zr,o,cv (j:=2) rfl,W,U,Ps,F,A,k,ff,g,Y,a0,r,l,zr,L,b0,Z,c0,d0,e0,(λk0=>?_),λ_ H' t=>?_⟩
   .obtain⟨p,s,n,u,e⟩:=f0;obtain⟨v,G⟩:=k0 p s n u;rw[e]at G;cases G
   .refine⟨T.he.caught T.he T.zQ,λC D m O u y=>?_⟩;have J:m.length=4:=y;obtain⟨g0,h0,i0,j0,rfl⟩:∃a b c e,m=[a,b,c,e]:=by
     match m,J with
     | [a,b,c,e],_=>exact⟨a,b,c,e,rfl⟩
    exact⟨_,zr,cA mg "NoWorth",0,_,true,zr,O,T.he.isi,.inr ⟨_,zr,T.he.veI⟩,q _ t⟩
def Pm(T:Txt K mg):bh P w K mg base 8 (cA mg "Ledger") "enter" ["self","table","row","why"] (λa H Q _=>rx P w mg a H Q λ_ _ _=>Bj):=(xh T).toD
def RH(T:Txt K mg):bh P w K mg base 8 (cA mg "Ledger") "price" ["self","name","worth"] (λa H Q _=>vO P w K mg a H Q λ_ _ _=>Bj):=(MS T).toD
inductive wV (P:Ai) (w:Al) (c:xE) (h:Ab V) (H:Hp) (Q:VK) (i:XK):Prop
 | mk:∀(W:xD) (U:xD) (d:Ab PR) (F:Ac->Prop) (G:Ac->Prop) (A:LA) (k:Kd) (f:Str->Ag Wo) (g:PR->Ag ar) (e:Ac) (p:Ac) (n:Str) (a:Wo),(h=[.ref A.p,.str n,.ref p,.ref e])->(cx P w c W U d H F A k f g)->(er P w d H G e g)->(G e)->((∀b,G b->¬ F b/\H b≠none))->(n∈W)->(n.length<=1000)->(WL H p a)->(bo U k a)->(∀H',cx P w c W U d H' (Fn F H H') A k (dE f n a) g->aG F H H'->Q (.bl true) H')->wV P w c h H Q i
theorem UY(T:Txt K mg):bv P w K mg base 9 "_law_priced" ["_law_ledger","_law_name","_law_worth","_law_whys"] (wV P w mg):=by
 refine T.Oa.ok nj (λX0 H Q Y0 h=>?_) λZ0 Y1 A Z1 a2 H X0 Q Y0 s h=>?_
 .obtain⟨W,U,Ps,F,G,A,k,Z0,g,dw,p,n,a,rfl,_⟩:=h;rfl
 .obtain⟨W,U,Ps,F,G,A,k,ff,g,dw,p,n,a,rfl,L,hw,b5,gf,nW,nl,wl,d,kk⟩:=h;refine⟨_,xW
   (ql (i:=4) nj.nd rfl (Ax rfl)<|eT (nA K) rfl T.gz gE<|ak<|pv 2)
   (ql (i:=5) nj.nd rfl (Ax rfl)<|ig (RH T) T.qo s (pv 0)<|aD (pv 1)<|pv 4)
   (cy<|fe eX iq il gO (pv 4)<|ak qd)
   (ql (i:=6) nj.nd rfl (Ax rfl)<|qu ck)
   (cw AL rfl (cB K<|sL P w K (Ml T) s rfl rfl T.eG eH rfl<|ak<|pv 3) (qk (i:=7) nj.nd rfl<|Ax rfl)<|qg<|bQ (dX<|qp (OT rfl K) rfl T.b_any VO<|ak<|dU (N:=["_law_product","_law_many","_law_name"]) (caps:=[none,none,Aa 1]) rfl (by with_unfolding_all rfl) (cB K<|oD (P:=P) (w:=w) s.units (pv 3) (pv 7) λ_ _=>rfl) (λ_ _ _ _ _=>rP K (n:=2) rfl<|dQ (qk (i:=0) (show (["_law_product","_law_many","_law_name"]:xD).Nodup by decide+kernel) rfl<|Ax rfl)<|dQ (qk (i:=1) (show (["_law_product","_law_many","_law_name"]:xD).Nodup by decide+kernel) rfl<|Ax rfl) iS) (λ_ _ _ _ _=>d_) λ_ _ _ _ _=>(im (Tb K) (pv 2) (pv 0)<|by with_unfolding_all rfl)) (qg<|cy<|fe eX iq il gO (pv 6)<|ak<|pv 7) ci)
   (qi<|mO (qp (gv K) rfl T.fJ fS<|aD (pv 5)<|fY rfl T.gz gE)<|nM<|im (pU s.units K) (pv 5) (pv 6)<|du _),?_⟩
  obtain⟨zs,b1,c1,d1⟩:=wl.lst2 d L.ok.hk;refine⟨_,zr,p,zs,zr,.inl<|JO b1,λc t=>?_⟩;have j:=qc (o:=JR zs) t;have o0:WL (upd H c<|.lst zs) c a:=d1 _ _ (ag.keepT j) qb;have b0:=qb (H:=H) (a:=c) (o:=JR zs);have p0:=L.same j;have q0:er P w Ps (upd H c<|.lst zs) G dw g:=by
   have c0:=hw;obtain⟨_,d0,_⟩:=c0;obtain⟨e1,e⟩:=dh d0;exact hw.keep ⟨ag.keepT j,λa o _ _ z=>j a o z⟩ (λ_ z=>z) (by rw[e,j _ _ e])
  have r0:¬ F c:=L.led.nf t;obtain⟨b2,f1⟩:=rN d L.ok.hk L.ok.hW;have s0:aG F H (upd H c<|.lst zs):= .of j;generalize upd H c (.lst zs)=H1 at*;refine⟨_,zr,A.p,A.dx,_,zr,p0.led.ins,zr,_,zr,_,zr,W,U,Ps,F,A,k,ff,g,n,.ref c,dW a,zr,p0,nW,nl,o0.dat L.ok.hW d,f1,.inl ⟨c,a,zr,zr,o0,d,λH2 l t0 ks g1 r l0 h1 i1 nd j1=>?_⟩⟩;have e0:=r.st c _ r0 b0;have k1:¬ Fn F H1 H2 c:=λz=>z.1.elim r0 λy=>by rw[b0]at y;cases y
  have l1:l≠c:=λz=>by rw[z,b0]at l0;cases l0
  have m1:er P w Ps H2 G dw g:=by
   have c0:=q0;obtain⟨_,d0,_⟩:=c0;obtain⟨e1,e⟩:=dh d0;exact q0.keep ⟨r.kt,λa o d _ z=>r.st a o (gf a d).1 z⟩ (λ_ z=>z) (by rw[e,r.st dw _ (gf dw b5).1 e])
  refine⟨_,zr,.inl ⟨zr,_,JO e0⟩,c,_,_,zr,zr,e0,BO c1 (by decide),?_⟩;have u:bD H2 (upd H2 c<|.lst<|zs++ [JN 0]):=pF e0;have n1:aG F H (upd H2 c<|.lst<|zs++ [JN 0]):=(s0.then (λ_ z=> .inl z) r).putT (.inr t) u;have u0:=g1.else_ u k1;have o1:upd H2 c (.lst<|zs++ [JN 0]) l=Aa (.lst t0):=by rw[qe l1];exact h1
  have p1:Paired (js<|upd H2 c<|.lst<|zs++ [JN 0]) t0 (JQ aO ks):=JX i1 λ_ _ ⟨b,e,h⟩=>⟨b,e,h.keep u⟩;have v0:¬ G c:=λz=>(gf c z).2 t;have q1:er P w Ps (upd H2 c<|.lst<|zs++ [JN 0]) G dw g:=m1.keep ⟨u,λa o d _ z=>by rw[qe λy=>v0 (by rw[<- y];exact d)];exact z⟩ (λ_ z=>z) (qe λy=>v0 (by rw[<- y];exact b5));generalize upd H2 c (.lst<|zs++ [JN 0])=f0 at*;obtain⟨kvs,w0,m,B⟩:=q1;refine⟨by decide,λD x0=>?_⟩;have y0:=qc (o:=JR []) x0;have z0:=qb (H:=f0) (a:=D) (o:=JR []);generalize upd f0 D (.lst [])=c2 at*;refine⟨_,zr,dw,kvs,lI,aO,zr,Kl y0 w0,jI,λa _ b _=>zL a b,λa _=>⟨⟨_,_,zr⟩,az (Ny a)<|by decide⟩,λa r1 b H2 R d2 C k=>⟨b,a,zr,C,L.led.pg a<|m.2 a r1,k⟩,λl2 J g0 s1 A0 t1 u1=>?_⟩;have H0:∀q,q∈JQ aO (kvs.map (·.1))↔∃Y,g q=Aa Y:=λq=>((JW aO _).mem_iff).trans<|B.mem q;have e2:(JQ aO (kvs.map (·.1))).length<=1000:=by
   rw[sO];exact az (mB m.1 m.2) L.led.pl
  have J0:(JQ aO (kvs.map (·.1))).filter (jt g n)=JQ aO ks:=QT m.1 nd λw1=>by
   rw[j1,Y_];exact⟨λz=>⟨(B.mem w1).mpr (let ⟨Y,e,_⟩:=z;⟨Y,e⟩),z⟩,λz=>z.2⟩
  have x1:=qc (o:=JR J) t1;have K0:=qb (H:=g0) (a:=l2) (o:=JR J);have h0:=s1.trans x1;have y1:=y0.trans h0;have z1:=h0 _ _ z0;have A1:l2≠D:=λz=>by
   rw[z,z0]at A0;cases A0
  have L0:Paired (js<|upd g0 l2<|.lst J) J (JQ aO (kvs.map (·.1))):=JX u1 λ_ _ ⟨b,e,h⟩=>⟨b,e,h.same h0⟩;generalize upd g0 l2 (.lst J)=i0 at*;generalize JQ aO (kvs.map (·.1))=S at*;have G1:=Paired.length L0;refine⟨l2,rfl,⟨_,JO K0⟩,fo (xs:=J) (λi E O=>ie λ(v:Ag V) (f:Ab V)=>oq (E=[Aa<|.ref A.p,Aa<|.str n,Aa<|.ref p,Aa<|.ref dw,Aa<|.ref c,Aa<|.ref l,Aa<|.ref D,v]) (ag f0 O) (O l2=Aa (.lst J)) (O D=Aa (.lst f)) (f.length<=i) (Paired (js i0) f<|(S.take i).filter<|jt g n)<|bD i0 O) ⟨none,[],rfl,y1,K0,z1,aj _,.nil,λ_ _ e=>e⟩ (λi E O _ z=>?_) ?_ ?_⟩
  .obtain⟨_,_,_,_,h,_⟩:=z;exact JO h
  .rintro i x E O j0 ⟨v,f,rfl,Z,a7,a1,rl,pr,kt⟩;obtain⟨q,k0,b,rfl,C⟩:=fC L0 j0;have f2:=(bR.mp k0).1;obtain⟨Y,I⟩:=(H0 q).mp<|bJ k0;obtain⟨l3,M0,I1,_⟩:=B.2 q Y I;have J1:q∈Ps:=m.2 q<|nR M0;have K1:=C.keep kt;obtain⟨xs,M,N0,L1⟩:=I1.same Z;have N1:=Paired.length N0;refine⟨_,zr,_,zr,dw,b,_,pN q,_,zr,zr,Kl Z w0,K1,hJ<|L.led.pg q J1,(fO kvs q).trans M0,l3,zr,⟨_,JO M⟩,λO0 P0=>?_⟩;refine dg xs.length (λi X H'=>(∃v1 Q0,X=[v1,Q0,Aa<|.str n])/\ag O H'/\H' O0=Aa (.lst<|((Y.take i).map λkv=>decide (n∈kv.1)).map Ke)) ⟨⟨_,_,zr⟩,qc P0,qb⟩ (λi X H' R0 p=>?_) (λX H' p=>⟨?_,?_⟩) λi X H' R0 p x H2 y=>?_
   .obtain⟨_,sm,_⟩:=p;exact⟨_,_,JO<|sm _ _ M,aH R0⟩
   .obtain⟨_,sm,_⟩:=p;exact⟨_,JO<|sm _ _ M,aj _⟩
   .obtain⟨_,sm,e⟩:=p;rw[N1,bA]at e;have O1:(Y.map λkv=>decide (n∈kv.1)).any id=jt g n q:=by
     unfold jt;rw[I]
    refine⟨O0,_,zr,JO e,_,zr,?_⟩;rw[O1];have S0:S.take (i+1)=S.take i++ [q]:=by rw[bx,k0];rfl
    have T0:bD i0 H':=λb a0 e=>sm _ _<|kt b a0 e;cases U0:jt g n q with
    | false=>
     refine fq rfl ⟨_,f,zr,Z.trans sm,sm _ _ a7,sm _ _ a1,Ci rl,?_,T0⟩;rw[S0,kj,CT (by rw[U0];exact aY),Fh,dy];exact pr
    | true=>
     have m0:=sm _ _ a1;refine fG rfl ⟨_,rfl,.inl ⟨rfl,_,JO m0⟩,_,rfl,D,_,_,rfl,rfl,m0,cY (by lia),_,f++ [.ref b],rfl,(Z.trans sm).set x0,by rw[qe A1];exact sm _ _ a7,qb,by rw[aX];exact fP rl,?_,λb a0 e=>pF m0 b a0<|T0 b a0 e⟩;rw[S0,kj,B5 U0,Fh];exact Paired.snoc pr ⟨b,zr,C⟩
   .obtain⟨⟨v1,Q0,rfl⟩,sm,e⟩:=p;obtain⟨rfl,j0⟩:=y;have P1:=j0 _<|JO<|sm _ _ M;obtain⟨kv,Q1,R1⟩:=fC N0 P1;obtain⟨g2,S1,rfl,T1,U1⟩:=R1.keep<|ag.keepT sm;have h2:=L1.1;refine⟨_,_,zr,JT T1,zr,_,_,zr,_,_,zr,zr,?_⟩;refine⟨_,zr,_,zr,S1,_,zr,.inr<|JT U1,zr,TK _,_,e,?_,⟨_,_,zr⟩,sm.set P0,?_⟩
    .rw[ai,ai,bt];exact cY (by lia)
    .rw[qb,bx,Q1,a_,a_];show Aa (JR<|_++ [Ke<|ng (JP n)<|kv.1.map JP])=_;rw[Qj];rfl
  .rintro E O ⟨v,f,rfl,Z,a7,a1,rl,pr,kt⟩;rw[G1,bA,J0]at pr;have V0:∀p∈JQ aO ks,fV p:=λp W0=>by
    rw[<- J0]at W0;obtain⟨Y,I⟩:=(H0 p).mp (cV.mp W0).1;obtain⟨i2,V1,_⟩:=B.2 p Y I;exact L.led.pg p<|m.2 p<|nR V1
   have n0:ay K O (.list<|(JQ aO ks).map kM) (.ref l):= .lst (JO<|Z _ _ o1)<|rE (JX p1 λ_ _ ⟨b,e,h⟩=>⟨b,e,h.same Z⟩) V0;have W1:ay K O (.list<|(JQ aO ks).map kM) (.ref D):= .lst (JO a1)<|rE (JX pr λ_ _ ⟨b,e,h⟩=>⟨b,e,h.keep kt⟩) V0;refine⟨_,zr,_,_,_,zr,n0,by decide,_,zr,fG rfl ⟨_,zr,_,zr,_,_,n0,W1,Vv _,?_⟩⟩;rw[FJ _<|ay.lay _ _ n0];have X1:=n1.same Z;exact kk O ((u0.same Z).up (λb z=>⟨z.1.elim .inl λy=> .inr<|s0.new y,(u0.same Z).led.al b z⟩) λ_ z=>z.2) X1
structure eQ (P:Ai) (w:Al) (mg:xE) (W U:xD) (Ps:Ab PR) (H:Hp) (F G:Ac->Prop) (A:LA) (k:Kd) (dp dw:Ac) (f:Str->Ag Wo) (g:PR->Ag ar):Prop where
 led:cx P w mg W U Ps H F A k f g
 lw:er P w Ps H G dw g
 lp:ft W H G dp f
 dj:∀a,G a->¬ F a/\H a≠none
 gd:G dp/\G dw
section
variable{P:Ai}{w:Al}{K:xA}{mg:xE}{base:AH}{W U:xD}{Ps:Ab PR}{H H':Hp}{F G:Ac->Prop}{A:LA}{k:Kd}{dp dw:Ac}{f:Str->Ag Wo}{g:PR->Ag ar}
def er.go{J:Ac->Prop}(x:er P w Ps H G dw g)(b:bD H H')(e:∀a o,G a->H a=Aa o->H' a=Aa o)(c:G dw)(d:∀a,G a->J a):er P w Ps H' J dw g:=by
 have f:=x;obtain⟨_,h,_⟩:=f;obtain⟨j,O⟩:=dh h;exact x.keep ⟨b,λa o i _ z=>e a o i z⟩ d (by rw[O,e _ _ c O])
def ft.go{J:Ac->Prop}(x:ft W H G dp f)(c:bD H H')(e:∀a o,G a->H a=Aa o->H' a=Aa o)(d:G dp)(g:∀a,G a->J a):ft W H' J dp f:=by
 have h:=x;obtain⟨_,b,_⟩:=h;exact x.keep ⟨c,λa o i _ z=>e a o i z⟩ g (by rw[b,e _ _ d b])
theorem eQ.same(L:eQ P w mg W U Ps H F G A k dp dw f g)(s:ag H H'):eQ P w mg W U Ps H' F G A k dp dw f g:=
 ⟨L.led.same s,L.lw.go (ag.keepT s) (λa o _ e=>s a o e) L.gd.2 λ_ z=>z,L.lp.go (ag.keepT s) (λa o _ e=>s a o e) L.gd.1 λ_ z=>z,λa b=>⟨(L.dj a b).1,(aG.of (F:=F) s).al a (L.dj a b).2⟩,L.gd⟩
def eQ.more(L:eQ P w mg W U Ps H F G A k dp dw f g){l:Ac}(c:¬ F l)(d:H l≠none):eQ P w mg W U Ps H F (λb=>G b\/ b=l) A k dp dw f g:=
 ⟨L.led,L.lw.go (λ_ _ e=>e) (λ_ _ _ e=>e) L.gd.2 λ_=> .inl,L.lp.go (λ_ _ e=>e) (λ_ _ _ e=>e) L.gd.1 λ_=> .inl,λa h=>h.elim (L.dj a) λe=>by rw[e];exact⟨c,d⟩,.inl L.gd.1,.inl L.gd.2⟩
inductive vU (P:Ai) (w:Al) (c:xE) (d:Ab V) (H:Hp) (Q:VK) (e:XK):Prop
 | mk:∀(W:xD) (U:xD) (Ps:Ab PR) (F:Ac->Prop) (G:Ac->Prop) (A:LA) (k:Kd) (dp:Ac) (dw:Ac) (f:Str->Ag Wo) (g:PR->Ag ar) (q:PR) (a:Ac) (l:Ac) (Y:ar),(d=[.ref A.p,.ref a,.ref l,.ref dw,.ref dp])->(eQ P w c W U Ps H F G A k dp dw f g)->(q∈Ps)->(ax H (pN q) (.ref a))->(WA H l Y)->(¬ F l)->(hY W Y)->(∀H' F' h,eQ P w c W U Ps H' F' (λb=>G b\/ b=l) A k dp dw f h->KF G H H'->Q (.bl true) H')->vU P w c d H Q e
theorem SD(T:Txt K mg):bv P w K mg base 10 "_law_entered" ["_law_ledger","_law_pair","_law_why_here","_law_whys","_law_prices"] (vU P w mg):=by
  refine T.OP.ok yU (λK1 H Q L1 h=>?_) λf P2 A Q2 S2 H K1 Q L1 c0 h=>?_
  · obtain⟨W,U,Ps,F,G,A,k,dp,dw,f,g,q,a,l,Y,rfl,_⟩:=h
    rfl
  · obtain⟨W,U,Ps,F,G,A,k,dp,dw,Z,g,q,a,l,Y,rfl,L,k0,T0,X,u0,S,U0⟩:=h
    have V0:cW (pN q):=hJ<|L.led.led.pg q k0;obtain⟨r,v0,W0⟩:=fI.mp T0;have X0:H l≠none:=by
      rw[X.lst];exact nofun
    refine uk 3 (λY0 J=>Y0=[Aa<|.ref A.p,Aa<|.ref a,Aa<|.ref l,Aa<|.ref dw,Aa<|.ref dp,none]/\iO Z Y/\cx P w mg W U Ps J F A k Z g/\er P w Ps J (λb=>G b\/ b=l) dw (fW g q Y)/\ft W J (λb=>G b\/ b=l) dp Z/\aG (λb=>b=dw) H J) ⟨_,jD
      (ql (i:=5) yU.nd rfl (Ax rfl)<|eT (nA K) rfl T.gz gE<|ak<|pv 2)
      (bQ (fF PX (ig (Pm T) T.qo c0 (pv 0)<|cZ (bg (ec K) (pv 1) qd λ_ _=>rfl) (bg (ec K) (pv 1) qd λ_ _=>rfl)<|pv 5) rG<|du _) (qg<|qi cM) ci)
      (cy<|fe eX iq il gO (pv 5)<|ak<|qy<|aD (qy ck) qd)
      (qi cM),?_⟩ λu N1 Z0=>⟨_,xz
      (bQ (el<|dX<|qp (lf rfl K) rfl T.b_all kN<|ak<|dU (N:=["_law_product","_law_many","_law_prices"]) (caps:=[none,none,Aa 4]) rfl (by with_unfolding_all rfl) (cB K<|pv 2) (λ_ _ _ _ _=>rP K (n:=2) rfl<|dQ (qk (i:=0) (show (["_law_product","_law_many","_law_prices"]:xD).Nodup by decide+kernel) rfl<|Ax rfl)<|dQ (qk (i:=1) (show (["_law_product","_law_many","_law_prices"]:xD).Nodup by decide+kernel) rfl<|Ax rfl) iS) (λ_ _ _ _ _=>d_) λ_ _ _ _ _=>qp (lf rfl K) rfl T.b_all kN<|ak<|dU (N:=["_law_name","_law_prices"]) (caps:=[none,Aa 2]) rfl (by with_unfolding_all rfl) (iG K<|pv 0) (λ_ _ _ _ _=>qk (i:=0) (show (["_law_name","_law_prices"]:xD).Nodup by decide+kernel) rfl<|Ax rfl) (λ_ _ _ _ _=>d_) λ_ _ _ _ _=>VR<|pS (cL c0) (pv 0)<|pv 1) (qg<|qi<|qr (NI T) c0 rfl<|cZ (pv 0) gx<|qh RU (pv 1)<|qy<|ak<|pv 2) ci)
      (lR (P:=P) (w:=w) c0.units (pv 3) (pv 1) (pv 2) rfl)
      (bQ (fF (pU c0.units K) (pv 2) (qu ck)<|du _) (qg<|cy<|o_ (P:=P) (w:=w) c0.units (pv 3) (pv 1) ⟨rfl,rfl,rfl,rfl⟩) ci)
      N1,?_⟩
    · rintro Y0 J ⟨rfl,l0,a1,O1,P1,d0⟩
      have Q1:l≠dw:=λz=>by
        have w0:=L.lw;obtain⟨_,D,_⟩:=w0;obtain⟨b1,e⟩:=dh D;rw[<- z,X.lst]at e;cases e
      have O:=LW X d0.kt λo e=>d0.st l o Q1 e;have T2:=d0.kt _ _ v0;have a0:=O.lst;have x0:∀b,(G b\/ b=l)->¬ F b/\J b≠none:=λb s=>by
        rcases s with s | rfl
        · exact⟨(L.dj b s).1,d0.al b (L.dj b s).2⟩
        · exact⟨u0,d0.al _ X0⟩
      refine⟨_,zr,l,_,zr,.inl<|JO a0,λc e0=>?_⟩;have C:=qc (o:=JR O.xs) e0;have R1:=O.copy e0;have c1:=a1.same C;have d1:=qb (H:=J) (a:=c) (o:=JR O.xs);have y0:¬ F c:=a1.led.nf e0;have S1:¬ (G c\/ c=l):=λz=>(x0 c z).2 e0;have T1:=O1.go (ag.keepT C) (λa o _ e=>C a o e) (.inl L.gd.2) λ_ z=>z;have U1:=P1.go (ag.keepT C) (λa o _ e=>C a o e) (.inl L.gd.1) λ_ z=>z;have m0:=d0.same C;have e1:O.xs.length<=200:=by
        rw[Paired.length O.prd];exact O.bd.1
      have n0:∀b,(G b\/ b=l)->¬ F b/\upd J c (.lst O.xs) b≠none:=λb s=>⟨(x0 b s).1,(aG.of (F:=F) C).al b (x0 b s).2⟩;generalize upd J c (.lst O.xs)=o0 at*;have f1:=m0.kt _ _ v0;refine⟨_,zr,A.p,A.dx,_,zr,c1.led.ins,zr,_,zr,_,_,_,_,zr,zr,JT f1,cv (j:=0) rfl,_,zr,_,_,_,_,zr,zr,JT f1,cv (j:=1) rfl,_,zr,W,U,Ps,F,A,k,Z,g,q,Y,r,c,zr,c1,k0,m0.kt _ _ W0,R1,y0,S,(λ_ H' V1 z0=>?_),λA0=>?_⟩
      · have g1:=z0.st c _ y0 d1
        have W1:¬ Fn F o0 H' c:=λz=>z.1.elim y0 λy=>by rw[d1]at y;cases y
        refine⟨zr,_,zr,eK ?_⟩;refine⟨_,rfl,.inl ⟨rfl,_,JO g1⟩,by show 0<=sizeLine;decide,λE X1=>⟨by show 2<=sizeLine;decide,λI Y1=>?_⟩⟩;have t:=(qc (o:=JY []) X1).trans<|qc (o:=JY [JU E,JN 1]) Y1;have h1:=t _ _ g1;have Z1:=V1.same t;generalize upd (upd H' E<|.tup []) I (.tup [JU E,JN 1])=i1 at*;refine⟨c,_,_,zr,zr,h1,cY (by lia),?_⟩;have j1:=pF (o:= .lst<|O.xs++ [JU I]) h1;have H0:bD o0 (upd i1 c<|.lst<|O.xs++ [JU I]):=λb S e=>j1 b S<|t _ _<|z0.kt b S e;have go:∀b o,(G b\/ b=l)->o0 b=Aa o->upd i1 c (.lst<|O.xs++ [JU I]) b=Aa o:=λb o M e=>by
          rw[qe λz=>S1 (by rw[<- z];exact M)];exact t _ _<|z0.st b o (n0 b M).1 e
        refine U0 _ _ (fW g q Y) ⟨Z1.else_ j1 W1,T1.go H0 go (.inl L.gd.2) λ_ z=>z,U1.go H0 go (.inl L.gd.1) λ_ z=>z,λb M=>⟨λz=>z.1.elim (n0 b M).1 (n0 b M).2,λz=>?_⟩,.inl L.gd.1,.inl L.gd.2⟩ ⟨λb S e=>H0 b S<|m0.kt b S e,λb o M a2 e=>go b o (.inl M)<|m0.st b o (λz=>?_) e⟩
        · cases e:o0 b with
          | none=>exact(n0 b M).2 e
          | some o=>
            rw[go b o M e]at z;cases z
        · have w0:=L.lw
          obtain⟨_,D,_⟩:=w0;obtain⟨b1,b2⟩:=dh D;rw[z,b2]at e;cases e
          exact a2
      · obtain⟨p,g0,n,b0,e⟩:=A0
        obtain⟨v,k1⟩:=l0 p g0 n b0;rw[e]at k1;cases k1
    · obtain⟨xs,a0,J0,K0⟩:=X
      have X:WA H l Y:=⟨xs,a0,J0,K0⟩;have e1:=Paired.length J0;have U2:=K0.1;have L0:=L.lp;obtain⟨c2,d2,_,l1⟩:=L0;have e2:∀n,(ao c2<|Aj n).isSome=(Z n).isSome:=λn=>by
        cases e:Z n with
        | none=>exact Ba Iy<|l1.1 n e
        | some a=>
          obtain⟨p,E,_⟩:=l1.2 n a e;exact Ba Iy E
      refine⟨_,zr,l,zr,⟨_,JO a0⟩,λm1 n1=>?_⟩;refine dg xs.length (λi R H'=>(∃v1 p0,R=[v1,p0,Aa<|.ref dp])/\ag H H'/\H' m1=Aa (.lst<|((Y.take i).map λkv=>(kv.1.map λn=>(Z n).isSome).all id).map Ke)) ⟨⟨_,_,zr⟩,qc n1,qb⟩ (λi R H' h0 p=>?_) (λR H' p=>⟨?_,?_⟩) λi R H' h0 p x H2 y=>?_
      · obtain⟨_,d,_⟩:=p
        exact⟨_,_,JO<|d _ _ a0,aH h0⟩
      · obtain⟨_,d,_⟩:=p
        exact⟨_,JO<|d _ _ a0,aj _⟩
      · obtain⟨_,d,e⟩:=p
        rw[e1,bA]at e;refine⟨m1,_,zr,JO e,_,zr,?_⟩;have f2:((Y.map λkv=>(kv.1.map λn=>(Z n).isSome).all id).all id=true/\iO Z Y)\/ ((Y.map λkv=>(kv.1.map λn=>(Z n).isSome).all id).all id=false/\∃p∈Y,∃n∈p.1,Z n=none):=by
          cases m:(Y.map λkv=>(kv.1.map λn=>(Z n).isSome).all id).all id with
          | true=>
            refine .inl ⟨zr,λp g0 n b0=>?_⟩;rw[eh]at m;have q0:=m _<|aE.mpr ⟨p,g0,rfl⟩;have q0:(p.1.map λn=>(Z n).isSome).all id=true:=q0;rw[eh]at q0;have g2:(Z n).isSome=true:=q0 _<|aE.mpr ⟨n,b0,rfl⟩;exact Option.isSome_iff_exists.mp g2
          | false=>
            refine .inr ⟨zr,?_⟩;obtain⟨b,s,m⟩:=List.all_eq_false.mp m;obtain⟨p,g0,rfl⟩:=aE.mp s;have m:¬ (p.1.map λn=>(Z n).isSome).all id=true:=m;obtain⟨b,s,m⟩:=List.all_eq_false.mp<|Bool.eq_false_iff.mpr m;obtain⟨n,b0,rfl⟩:=aE.mp s;have m:¬ (Z n).isSome=true:=m;exact⟨p,g0,n,b0,by
              cases h2:Z n with
              | none=>rfl
              | some v=>
                rw[h2]at m;exact Au rfl m⟩
        have B:=(L.same d).more u0<|(aG.of (F:=F) d).al l X0;rcases f2 with ⟨m,l0⟩ | ⟨m,A0⟩
        · rw[m]
          refine fq rfl ?_;have o1:=T0.same d;have p1:=X.same d;obtain⟨V2,r0,q1,i2⟩:=B.lw;refine⟨_,rfl,_,rfl,_,rfl,dw,a,_,pN q,rfl,rfl,r0,o1,V0,by rw[ai];exact q1.len L.led.led.pl,λo r1=>?_⟩;rw[lg]at r1;obtain⟨b1,j2⟩:=dh r0;have i0:ce H' (upd H' dw o):= .up j2 λz=>z;have k2:=B.led.else_ (o:=o) i0.kT (B.dj dw B.gd.2).1;have l2:aG (λb=>b=dw) H (upd H' dw o):=(aG.of d).put (.inl rfl)<|gU r0;have m2:er P w Ps (upd H' dw o) (λb=>G b\/ b=l) dw (λx=>if x=q then Aa Y else g x):=⟨_,r1,q1.put k0,(i2.put (λ_ _ z=>z) (q:=q) p1<|.inr rfl).imp λl x M0 r=>⟨KF.wa (F:=λ_=>Ez) i0.kf Ay r,M0⟩⟩;have n2:ft W (upd H' dw o) (λb=>G b\/ b=l) dp Z:=by
            have L0:=B.lp;obtain⟨_,E,_⟩:=L0;exact B.lp.keep i0.kf (λ_ z=>z)<|iI r0 E
          have o2:=i0.wa p1;have p2:=o1.keep i0.kT;generalize upd H' dw o=s1 at*;refine⟨_,zr,by decide,λe q2=>?_⟩;have t:=qc (o:=JR []) q2;have r2:=o2.same t;have s2:=qb (H:=s1) (a:=e) (o:=JR []);have t1:=k2.same t;have N0:=m2.go (ag.keepT t) (λa o _ e=>t a o e) B.gd.2 λ_ z=>z;have O0:=n2.go (ag.keepT t) (λa o _ e=>t a o e) B.gd.1 λ_ z=>z;have u1:=l2.same t;have t2:=p2.same t;generalize upd s1 e (.lst [])=w1 at*;refine⟨.list<|gM Y,.list [],r2.dat,.lst (JO s2) .nil,KO Y,_,zr,?_⟩;by_cases s0:Y=[]
          · have m:AC (.list<|gM Y) (.list [])=true:=by rw[s0];rfl
            rw[m];refine gy ?_;have u2:=N0;obtain⟨v2,D,p0,x1⟩:=u2;obtain⟨W2,w2,_⟩:=x1.2 q Y (show (if q=q then Aa Y else g q)=Aa Y from Ah rfl);refine⟨_,zr,dw,zr,⟨_,D⟩,_,zr,a,_,pN q,_,zr,D,t2,V0,(fO v2 q).trans w2,λx2 y1=>?_⟩;rw[pL]at y1;obtain⟨X2,y2⟩:=dh D;have P0:ce w1 (upd w1 dw x2):= .up y2 λz=>z;have Q0:fW g q Y=λy=>if y=q then none else (λx=>if x=q then Aa Y else g x) y:=by
              funext x
              unfold fW;rw[Ah s0];by_cases j0:x=q
              · rw[Ah j0,Ah j0]
              · rw[Ae j0,Ae j0]
                exact(Ae j0).symm
            refine Z0 _ _ ⟨zr,l0,t1.else_ P0.kT (B.dj dw B.gd.2).1,?_,?_,u1.put (.inl rfl)<|gU D⟩
            · rw[Q0]
              exact⟨_,y1,p0.drop,(x1.drop (λ_ _ z=>z) (q:=q)).imp λl x M0 r=>⟨KF.wa (F:=λ_=>Ez) P0.kf Ay r,M0⟩⟩
            · have z2:=O0
              obtain⟨_,E,_⟩:=z2;exact O0.keep P0.kf (λ_ z=>z)<|iI D E
          · have m:AC (.list<|gM Y) (.list [])=false:=by
              cases Y with
              | nil=>exact Au rfl s0
              | cons a r=>rfl
            rw[m];have Q0:fW g q Y=λx=>if x=q then Aa Y else g x:=by
              funext x
              unfold fW;rw[Ae s0]
            rw[<- Q0]at N0;exact eK<|Z0 _ _ ⟨zr,l0,t1,N0,O0,u1⟩
        · rw[m]
          refine fG rfl ?_;refine⟨_,rfl,_,rfl,_,rfl,by show 1<=sizeLine;decide,λb s=>?_⟩;have C:=qc (o:=JY [JU l]) s;have z1:=d.trans C;refine⟨a,b,_,_,rfl,rfl,z1 _ _ v0,qb,by show 2+1<=sizeLine;decide,λc Y2 A1 e0=>?_⟩;have R0:=z1.trans A1;refine⟨W,U,Ps,F,A,k,Z,g,"enter",c,zr,L.led.same R0,λA2 D2=>?_,.inr ⟨zr,q,r,l,Y,JT e0,k0,R0 _ _ W0,X.same R0,u0,S,A0⟩⟩;have S0:=C.trans<|A1.trans D2;exact U0 A2 F g (B.same S0) ⟨ag.keepT<|d.trans S0,λb o _ _ e=>(d.trans S0) b o e⟩
      · obtain⟨⟨v1,p0,rfl⟩,d,e⟩:=p
        obtain⟨rfl,F2⟩:=y;have G2:=F2 _<|JO<|d _ _ a0;obtain⟨kv,G1,I2⟩:=fC J0 G2;obtain⟨Z2,J2,rfl,K2,t0⟩:=I2.keep<|ag.keepT d;have L2:=bJ G1;have a3:=(K0.2 kv L2).2.1;refine⟨_,_,zr,JT K2,zr,_,_,zr,_,_,zr,zr,?_⟩;refine⟨_,zr,J2,zr,⟨_,JT t0⟩,λH1 I1=>?_⟩;refine dg (kv.1.map JP).length (λi R H'=>(∃v,R=[v,Aa<|.ref dp])/\ag H2 H'/\H' H1=Aa (.lst<|((kv.1.take i).map λn=>(Z n).isSome).map Ke)) ⟨⟨_,zr⟩,qc I1,qb⟩ (λi R H' h0 p=>?_) (λR H' p=>⟨?_,?_⟩) λi R H' h0 p x b3 y=>?_
        · obtain⟨_,d,_⟩:=p
          exact⟨_,_,JT<|d _ _ t0,aH h0⟩
        · obtain⟨_,d,_⟩:=p
          exact⟨_,JT<|d _ _ t0,aj _⟩
        · obtain⟨_,f0,I⟩:=p
          rw[ai,bA]at I;refine⟨H1,_,zr,JO I,_,f0 _ _ e,?_,⟨_,_,zr⟩,(d.trans f0).set n1,?_⟩
          · rw[ai,ai,bt]
            exact cY (by lia)
          · rw[qb,bx,G1,a_,a_]
            rfl
        · obtain⟨⟨v,rfl⟩,f0,I⟩:=p
          obtain⟨rfl,N2⟩:=y;have J1:=N2 _<|JT<|f0 _ _ t0;rw[bF]at J1;obtain⟨n,b0,rfl⟩:=dq.mp J1;have O2:=Kn (k:=Aj n)<|(d.trans f0) _ _ d2;refine⟨_,zr,_,zr,dp,_,zr,O2,_,I,?_,⟨_,zr⟩,f0.set I1,?_⟩
          · rw[ai,ai,bt]
            exact BO (show _<=1000 by lia) (by decide)
          · rw[qb,bx,b0,a_,a_,e2]
            rfl
end
def A_(T:Txt K mg):bv P w K mg base 7 "reckoned" ["why","by","worths"] (λa H Q _=>vL K mg a H Q λ_ _ _=>Bj):=(sP T).toD
def wU{k:Kd}{f:Str->Ag Wo}{g:PR->Ag ar}{q:PR}{Y:ar}(h:g q=Aa Y\/ g q=none/\Y=[]):(cj k f g q).getD (eN k)=rkY k (dc k f) Y:=by
 rcases h with h | ⟨h,rfl⟩
 .rw[lz h];rfl
 .rw[mq h];rfl
inductive MR (P:Ai) (w:Al) (b:xE) (c:Ab V) (H:Hp) (Q:VK) (i:XK):Prop
 | mk:∀(W:xD) (U:xD) (d:Ab PR) (F:Ac->Prop) (G:Ac->Prop) (A:LA) (k:Kd) (e:Ac) (h:Ac) (f:Str->Ag Wo) (g:PR->Ag ar) (q:PR) (a:Ac),(c=[.ref A.p,.ref A.o,.ref a,.ref h,.ref e])->(eQ P w b W U d H F G A k e h f g)->(q∈d)->(ax H (pN q) (.ref a))->(∀H',ag H H'->Q (.bl true) H')->MR P w b c H Q i
def YV(T:Txt K mg):bv P w K mg base 8 "_law_stands" ["_law_ledger","_law_by","_law_pair","_law_whys","_law_prices"] (MR P w mg):=by
 refine T.Qe.ok oi (λc0 H Q d0 h=>?_) λe0 z0 A A0 H0 H c0 Q d0 c h=>?_
 .obtain⟨W,U,Ps,F,G,A,k,dp,dw,e0,g,q,a,rfl,_⟩:=h;rfl
 .obtain⟨W,U,Ps,F,G,A,k,dp,dw,ff,g,q,a,rfl,L,qP,hq,kk⟩:=h;have E:=L.led.led.pg q qP;obtain⟨r,I,f0⟩:=fI.mp hq;refine⟨_,em
   (ql (i:=5) oi.nd rfl (Ax rfl)<|qr (A_ T) c rfl<|cZ (ya (P:=P) (w:=w) c.units (pv 3) (pv 2) (qu ck) ⟨rfl,rfl,rfl,rfl⟩) (pv 1)<|pv 4)
   (cw AL rfl (jH rfl T.jA<|ak qd) (qk (i:=6) oi.nd rfl<|Ax rfl)<|em
   (ql (i:=7) oi.nd rfl (Ax rfl)<|ig (MC T) T.qo c (pv 0)<|aD (bg (ec K) (pv 2) qd λ_ _=>rfl)<|bg (ec K) (pv 2) qd λ_ _=>rfl)
   (bQ (PW.pt<|kl (el<|dX<|qp (gv K) rfl T.fJ fS<|aD (pv 7)<|fY rfl T.gz gE)<|kb<|fF (vD c.units K) (pv 7) (pv 5)<|du _) (qg<|qi cM) ci)
   (cy<|fe eX iq il gO (pv 7)<|ak<|pv 6))
   (qi cM),?_⟩
  have g0:=L.lw;obtain⟨f,M,J0,N⟩:=g0;refine⟨_,zr,dw,zr,⟨_,M⟩,_,zr,by decide,λe h0=>?_⟩;have b:=qc (o:=JR []) h0;have i0:=qb (H:=H) (a:=e) (o:=JR []);have R:=L.same b;have j0:=hq.same b;have k0:=Kl b M;generalize upd H e (.lst [])=H1 at*;refine⟨a,_,pN q,zr,k0,j0,hJ E,?_⟩;rw[fO];obtain⟨Z,Y,l0,l,m0,n0,o0⟩:∃Z Y,(ao f q).getD (.ref e)= .ref Z/\WA H1 Z Y/\iO ff Y/\hY W Y/\(g q=Aa Y\/ g q=none/\Y=[]):=by
   cases d:g q with
   | none=>exact⟨e,[],by rw[show ao f q=none from N.1 q d];rfl,⟨[],i0,.nil,⟨ba _,λ_ z=>nomatch z⟩⟩,(λ_ z=>nomatch z),(λ_ z=>nomatch z),.inr ⟨rfl,rfl⟩⟩
   | some Y=>
    obtain⟨Z,p0,l,_⟩:=N.2 q Y d;exact⟨Z,Y,by rw[show ao f q=_ from p0];rfl,l.same b,(L.led.sm q Y d).2,(L.led.sm q Y d).1,.inl rfl⟩
  rw[l0];refine⟨_,zr,_,zr,Z,A.o,dp,Y,k,ff,U,zr,l,R.led.led.by_,R.lp.wd,L.led.ok,λp m n s=>(n0 p m n s).2,λ_ z H2 q0 K0 r0=>?_,λs0=>?_⟩
  .have S2:=b.trans q0;have t0:=L.same S2;have t:bo U k (rkY k (dc k ff) Y):=L.led.ok.rkY Y;refine⟨2,zr,by decide,by decide,kU (lo:=0) (n:=2) (λi u J=>ie λ(x:Ag V) (y:Ag V)=>u=[Aa<|.ref A.p,Aa<|.ref A.o,Aa<|.ref a,Aa<|.ref dw,Aa<|.ref dp,Aa<|.ref z,x,y]/\ag H2 J) ⟨none,none,zr,JZ _⟩ ?_ ?_⟩
   .rintro i u J hi ⟨x,y,rfl,O⟩;have S:=t0.same O;have B:=S2.trans O;refine⟨_,zr,A.p,A.dx,_,zr,S.led.led.ins,zr,_,zr,_,_,_,_,zr,zr,JT<|B _ _ I,cv (j:=0) rfl,_,zr,_,_,_,_,zr,zr,JT<|B _ _ I,cv (j:=1) rfl,W,U,Ps,F,A,k,ff,g,_,_,r,q,zr,S.led.led,B _ _ f0,E,L.led.ok.hW,λL0 u0=>L.led.wok u0,λv0 M0 X w0 C=>?_⟩;rw[wU o0]at C;have D:=C.dat (K:=K) L.led.ok.hW t;have x0:=(r0.same<|O.trans X).dat (K:=K) L.led.ok.hW t;obtain⟨zs,a0,y0,_⟩:=C.lst2 t L.led.ok.hk;refine⟨_,rfl,_,_,_,rfl,D,by decide,_,rfl,fq (by cases rkY k (dc k ff) Y <;> rfl) ⟨_,rfl,_,rfl,_,_,D,x0,Ta _,_,rfl,?_⟩⟩;rw[FJ _<|ay.lay _ _ D];refine eK ⟨_,zr,.inl ⟨zr,_,JO a0⟩,_,zr,v0,_,_,zr,zr,a0,BO y0 (by decide),_,_,zr,(O.trans X).set<|O.free w0⟩
   .rintro u J ⟨x,y,rfl,O⟩;exact kk J<|S2.trans O
  .obtain⟨p,m,n,s,e⟩:=s0;obtain⟨v,b0⟩:=m0 p m n s;rw[e]at b0;cases b0
def nh(k:Kd)(f:Str->Ag Wo)(g:PR->Ag ar)(p:PR):AQ:= .tuple [.str p.1,.tuple<|p.2.map gb,dW<|(cj k f g p).getD<|eN k]
def Za(a:Wo):(dW a).depth<=2:=by
 cases a with
 | nums l=>exact fP<|az (B9<|sj l)<|ba _
 | acc R=>exact fP<|rL R
theorem Yj(k:Kd)(f:Str->Ag Wo)(g:PR->Ag ar)(a:Ab PR):(Jt<|a.map<|nh k f g).depth<=60:=by
 have:Az (a.map<|nh k f g)<=3:=by
  induction a with
  | nil=>exact ba _
  | cons p a b=>
   refine Nat.max_le.mpr ⟨?_,b⟩;show max 0 (max (Az (p.2.map gb)+1)<|max (dW<|(cj k f g p).getD<|eN k).depth 0)+1<=3;rw[rh];have:=Za<|(cj k f g p).getD<|eN k
   lia
 exact az (fP this) (by decide)
theorem uw{K:xA}{U:xD}{d H:Hp}{k:Kd}{f:Str->Ag Wo}{g:PR->Ag ar}(Y:HOk U)(c:∀p,bo U k<|(cj k f g p).getD<|eN k):∀{zs:Ab V} {a:Ab PR},Paired (pi d H k f g) zs a->(∀p∈a,fV p)->aW K H (a.map<|nh k f g) zs
 | _,_,.nil,_=> .nil
 | _,_,.cons (b:=p) ⟨b,r,l,e,h1,h2,h3,_⟩ rr,O=>by
  subst e;have J:=O p (be ..);exact .cons (.tup (JT h1)<|.cons (.str _ (ej.tx (k:= .inr p.1) J.1).2)<|.cons (.tup (JT h2)<|rz J.2.2)<|.cons (h3.dat Y<|c p) .nil) (uw Y c rr λx h=>O x<|bb _ h)
def RC{l L:Ac}{a:Wo}{b r l2:Ac}{s:Str}(h:WL H l a)(e:H L=Aa (.lst zs))(c:JU b∈zs)(d:H b=Aa (.tup [.str s,.ref r,.ref l2])):l≠L:=λz=>by
 subst z;cases a with
 | nums f=>
  have h:H l=Aa (.lst<|f.map JN):=h;rw[h]at e;cases e
  obtain⟨_,_,z⟩:=aE.mp c;cases z
 | acc R=>
  obtain⟨m,g,t⟩:=h;rw[g]at e;cases e
  obtain⟨j,i⟩:=List.getElem?_of_mem c;obtain⟨p,_,n,k,J⟩:=fC t i;cases k
  rw[d]at J;cases p with
  | nil=>cases J
  | cons x p=>cases p with
   | nil=>cases J
   | cons y p=>cases J
inductive Lw (P:Ai) (w:Al) (a:xE) (b:Ab V) (H:Hp) (Q:VK) (e:XK):Prop
 | mk:∀(W:xD) (U:xD) (h:Ab PR) (F:Ac->Prop) (G:Ac->Prop) (A:LA) (k:Kd) (c:Ac) (d:Ac) (f:Str->Ag Wo) (g:PR->Ag ar),(b=[.ref A.p,.ref A.o,.ref d,.ref c])->(eQ P w a W U h H F G A k c d f g)->(∀H',Q (.bl true) H')->Lw P w a b H Q e
theorem Oz(T:Txt K mg):bv P w K mg base 10 "_law_told" ["_law_ledger","_law_by","_law_whys","_law_prices"] (Lw P w mg):=by
 refine T.PN.ok nD (λm1 H Q n1 h=>?_) λo1 X1 A Y1 s H m1 Q n1 e0 h=>?_
 .obtain⟨W,U,Ps,F,G,A,k,dp,dw,o1,g,rfl,_⟩:=h;rfl
 .obtain⟨W,U,Ps,F,G,A,k,dp,dw,ff,g,rfl,L,kk⟩:=h;refine⟨_,em
   (LH (i:=4) nD.nd rfl rfl (N:=["_law_pair","_law_by","_law_prices","_law_whys"]) (caps:=[none,Aa 1,Aa 3,Aa 2]) rfl (by with_unfolding_all rfl) (cB K<|sL P w K (Ml T) e0 rfl rfl T.eG eH rfl<|ak<|pv 2) (λ_ _ _ _ _=>qk (i:=0) (show (["_law_pair","_law_by","_law_prices","_law_whys"]:xD).Nodup by decide+kernel) rfl<|Ax rfl) (λ_ _ _ _ _=>d_) λ_ _ _ _ _=>qy<|cZ (bg (ec K) (pv 0) qd λ_ _=>rfl) (bg (ec K) (pv 0) qd λ_ _=>rfl)<|qr (A_ (P:=P) (w:=w) T) e0 rfl<|cZ (oD (P:=P) (w:=w) e0.units (pv 3) (pv 0) λ_ _=>rfl) (pv 1)<|pv 2)
   (cw AL rfl (jH rfl T.jA<|ak qd) (qk (i:=5) nD.nd rfl<|Ax rfl)<|jD
   (ql (i:=6) nD.nd rfl (Ax rfl)<|Xd (SQ T) T.qo e0<|pv 0)
   (bQ (PW.pt<|kl (el<|dX<|qp (gv K) rfl T.fJ fS<|aD (pv 6)<|fY rfl T.gz gE)<|kb<|fF (vD e0.units K) (pv 6) (pv 4)<|du _) (qg<|qi cM) ci)
   (cw AL rfl (cB K<|pv 6) (qk (i:=7) nD.nd rfl<|Ax rfl)<|qg<|cy<|fe eX iq il gO (bg (ec K) (pv 7) qd λ_ _=>rfl)<|ak<|pv 5)
   (cy<|fe eX iq il gO (pv 6)<|ak<|pv 5))
   (qi cM),?_⟩
  have p1:=L.lw;obtain⟨kvs,J0,f0,K0⟩:=p1;refine⟨_,zr,dw,kvs,lI,aO,zr,J0,jI,λa _ b _=>zL a b,λa _=>⟨⟨_,_,zr⟩,az (Ny a)<|by decide⟩,λa q1 b H2 R Z1 m k=>⟨b,a,zr,m,L.led.led.pg a<|f0.2 a q1,k⟩,λl2 O a0 r1 a2 s1 t1=>?_⟩;have L0:∀q,q∈kvs.map (·.1)↔∃Y,g q=Aa Y:=λq=>K0.mem q;have u1:∀q,q∈JQ aO (kvs.map (·.1))↔∃Y,g q=Aa Y:=λq=>((JW aO _).mem_iff).trans<|L0 q;have q0:∀p∈JQ aO (kvs.map (·.1)),fV p:=λp g0=>L.led.led.pg p<|f0.2 p<|(JW aO _).mem_iff.mp g0;have v1:(JQ aO (kvs.map (·.1))).length<=1000:=by
   rw[sO];exact az (mB f0.1 f0.2) L.led.led.pl
  have same:∀b0:Ab PR,b0.Nodup->(∀q,q∈b0↔∃Y,g q=Aa Y)->JQ aO b0=JQ aO (kvs.map (·.1)):=λb0 nd r0=>WE nd f0.1 λq=>(r0 q).trans (L0 q).symm;have w1:=qc (o:=JR O) s1;have k0:=qb (H:=a0) (a:=l2) (o:=JR O);have s0:=r1.trans w1;have M0:Paired (js<|upd a0 l2<|.lst O) O (JQ aO (kvs.map (·.1))):=JX t1 λ_ _ ⟨b,e,h⟩=>⟨b,e,h.same s0⟩;generalize upd a0 l2 (.lst O)=N0 at*;generalize JQ aO (kvs.map (·.1))=S at*;have x1:=Paired.length M0;have t0:∀p,bo U k ((cj k ff g p).getD<|eN k):=λp=>by
   cases e:cj k ff g p with
   | none=>exact mU L.led.ok.hW
   | some a=>exact L.led.wok e
  refine⟨l2,zr,⟨_,JO k0⟩,λD O0=>?_⟩;refine dg O.length (λi m0 H'=>(∃v,m0=[v,Aa<|.ref A.o,Aa<|.ref dp,Aa<|.ref dw])/\ag N0 H'/\∃C,H' D=Aa (.lst C)/\∀H2,(∀b o,b≠D->H' b=Aa o->H2 b=Aa o)->Paired (pi N0 H2 k ff g) C (S.take i)) ⟨⟨_,zr⟩,qc O0,[],qb,λ_ _=> .nil⟩ (λi m0 H' u0 p=>?_) (λm0 H' p=>⟨?_,?_⟩) λi m0 H' u0 p x H2 y=>?_
  .obtain⟨_,sm,_⟩:=p;exact⟨_,O[i],JO<|sm _ _ k0,aH u0⟩
  .obtain⟨_,sm,_⟩:=p;exact⟨_,JO<|sm _ _ k0,aj _⟩
  .obtain⟨_,sm,C,e,t⟩:=p;rw[x1,bA]at t;have t:=t H' λ_ _ _ h=>h;have y1:=L.same<|s0.trans sm;have z1:ay K H' (.list<|S.map<|nh k ff g) (.ref D):= .lst (JO e)<|uw L.led.ok.hW t0 t q0;clear t;refine⟨2,zr,by decide,by decide,kU (lo:=0) (n:=2) (λi u J=>hI λ(v0:Ag V) (w0:Ag V) (E:Ag V)=>u=[Aa<|.ref A.p,Aa<|.ref A.o,Aa<|.ref dw,Aa<|.ref dp,Aa<|.ref D,v0,w0,E]/\ag H' J) ⟨none,none,none,zr,JZ _⟩ ?_ ?_⟩
   .rintro i u J u0 ⟨v0,w0,E,rfl,sg⟩;have P0:=y1.same sg;refine⟨_,zr,A.p,A.dx,_,zr,P0.led.led.ins,zr,W,U,Ps,F,A,k,ff,g,zr,P0.led,λh0 lt zs b0 Q0 l0 n0 o0 nd r0=>?_⟩;rw[same b0 nd r0]at o0;have dT:ay K h0 (.list<|S.map<|nh k ff g) (.ref lt):= .lst (JO n0)<|uw L.led.ok.hW t0 o0 q0;have A1:=Kk (sg.trans Q0) _ _ z1;refine⟨_,zr,_,_,_,zr,dT,by decide,_,zr,fq rfl ⟨_,zr,_,zr,_,_,dT,A1,Yj k ff g S,_,zr,?_⟩⟩;rw[FJ _<|ay.lay _ _ dT];refine eK ?_;have G1:H' lt=none:=sg.free l0;have b2:zs.length<=1000:=by rw[Paired.length o0];exact v1
    have R0:∀j x,zs[j]? =Aa x->∃(s:Str) (b r l:Ac) (d:Ab V),x=JU b/\h0 b=Aa (.tup [.str s,.ref r,.ref l])/\h0 l=Aa (.lst d)/\d.length<=1024/\H' l=none/\l≠lt:=λj x B=>by
     obtain⟨p,_,b,r,l,rfl,f,_,S0,x0⟩:=fC o0 B;obtain⟨d,i0,T0,_⟩:=S0.lst2 (t0 p) L.led.ok.hk;exact⟨p.1,b,r,l,d,zr,f,i0,T0,sg.free x0,RC S0 n0 (bJ B) f⟩
    refine⟨_,rfl,lt,rfl,⟨_,JO n0⟩,fo (xs:=zs) (λj u I=>∃(E:Ag V),pP (u=[Aa<|.ref A.p,Aa<|.ref A.o,Aa<|.ref dw,Aa<|.ref dp,Aa<|.ref D,Aa<|.int<|0+(i:Int),Aa<|.ref lt,E]) (ag H' I) (I lt=Aa (.lst zs)) (bD h0 I) (∀(n:Nat) (s:Str) (b r l:Ac),zs[n]? =Aa (JU b)->h0 b=Aa (.tup [.str s,.ref r,.ref l])->∃d,I l=Aa (.lst d)/\d.length<=1024+j)) ⟨_,rfl,sg.trans Q0,n0,λ_ _ e=>e,λn s b r l M m=>?_⟩ (λj u I _ z=>?_) ?_ ?_⟩
    .obtain⟨U0,V0,W0,y0,d,e1,e2,e3,e4,_⟩:=R0 n _ M;cases e1
     rw[m]at e2;cases e2
     exact⟨d,e3,by lia⟩
    .obtain⟨_,_,_,z,_⟩:=z;exact JO z
    .rintro j x u I B ⟨E,rfl,sJ,Z,kt,al⟩;obtain⟨s,b,r,l,c2,rfl,f,_,_,x0,z0⟩:=R0 j x B;obtain⟨d,i0,T0⟩:=al j s b r l B f;have d2:j < zs.length:=(bR.mp B).1;refine⟨_,rfl,_,_,_,_,rfl,rfl,JT<|kt _ _ f,cv (j:=2) rfl,.inl ⟨rfl,_,JO i0⟩,_,rfl,l,_,_,rfl,rfl,i0,BO (show d.length<=3000 by lia) (by decide),_,rfl,sJ.set x0,by rw[qe<|Bi z0];exact Z,λb d e=>pF i0 b d<|kt b d e,λn U0 V0 W0 y0 M m=>?_⟩;by_cases X0:y0=l
     .rw[X0];exact⟨_,qb,by rw[aX];show _+1<=_;lia⟩
     .obtain⟨c0,b8,y2'⟩:=al n U0 V0 W0 y0 M m;exact⟨c0,by rw[qe X0];exact b8,by lia⟩
    .rintro u I ⟨E,rfl,sJ,Z,kt,al⟩;exact⟨_,zr,.inl ⟨zr,_,JO Z⟩,_,zr,lt,_,_,zr,zr,Z,cY (by lia),_,_,_,zr,sJ.set G1⟩
   .rintro u J ⟨v0,w0,E,rfl,sg⟩;exact kk J
  .obtain⟨⟨v,rfl⟩,sm,C,e,t⟩:=p;obtain⟨rfl,B⟩:=y;have H1:=B _<|JO<|sm _ _ k0;obtain⟨q,Y0,b,rfl,m⟩:=fC M0 H1;have Z0:=m.same sm;obtain⟨r,a1,b1⟩:=fI.mp Z0;have A0:=s0.trans sm;have c1:=bJ Y0;obtain⟨Y,H0⟩:=(u1 q).mp c1;obtain⟨I1,J1,K1,_⟩:=K0.2 q Y H0;have d1:=L.same A0;obtain⟨L1,N1⟩:=L.led.sm q Y H0;refine⟨_,zr,_,_,_,_,zr,zr,JT a1,cv (j:=0) rfl,_,zr,_,_,_,_,zr,zr,JT a1,cv (j:=1) rfl,_,zr,_,zr,dw,b,_,pN q,_,zr,zr,Kl A0 J0,Z0,hJ<|q0 q c1,(fO kvs q).trans J1,_,zr,_,zr,I1,A.o,dp,Y,k,ff,U,zr,K1.same A0,d1.led.led.by_,d1.lp.wd,L.led.ok,λp g0 n M=>(L1 p g0 n M).2,λ_ z f1 X g1 O1=>?_,λP1=>?_⟩
   .refine⟨by show 3<=sizeLine;decide,λc h1=>?_⟩;have d0:=qc (o:=JY [JP q.1,JU r,JU z]) h1;have Q1:=d0 _ _<|X _ _ e;have R1:C.length=min i S.length:=by
     rw[Paired.length (t _ λ_ _ _ h=>h),bt]
    have i1:∀{b:Ac} {J:Hp},J b=none->J D=Aa (.lst C)->b≠D:=λ{b J} f S1 z=>by
     rw[z,S1]at f;cases f
    have T1:c≠D:=i1 h1<|X _ _ e;have U1:z≠D:=i1 g1 e;refine⟨_,Q1,by rw[R1];exact cY (by lia),⟨_,rfl⟩,((sm.trans X).trans d0).set O0,C++ [.ref c],qb,λa0 z0=>?_⟩;have j0:∀b o,b≠D->upd f1 c (.tup [JP q.1,JU r,JU z]) b=Aa o->a0 b=Aa o:=λb o j1 p0=>z0 b o j1 (by rw[qe j1];exact p0);have k1:∀{b:Ac} {d:Ab V},f1 b=Aa (.tup d)->b≠D:=λ{b d} f z=>by
     rw[z,X _ _ e]at f;cases f
    rw[bx,Y0];refine Paired.snoc (t a0 λb o m V1=>j0 b o m<|d0 _ _<|X _ _ V1) ⟨c,r,z,zr,j0 c _ T1 qb,j0 r _ (k1<|X _ _ b1)<|d0 _ _<|X _ _ b1,?_,sm.free g1⟩;rw[wU<|.inl H0];exact O1.keep (λb d p0=>j0 b _ (k1 p0)<|d0 _ _ p0) λzs W1=>j0 z _ U1<|d0 _ _ W1
   .obtain⟨p,g0,n,M,e⟩:=P1;obtain⟨v,l1⟩:=N1 p g0 n M;rw[e]at l1;cases l1
inductive sp_law (K:xA) (b:Ab V) (H:Hp) (Q:VK) (d:XK):Prop
 | mk:∀(a:Ac) (c:Ab Int),(b=[.ref a])->(aK K H a (c.map JN))->(c.length<=63)->(∀H',Q (.bl true) H')->sp_law K b H Q d
def Nf{O:xD}(b:O.length=9)(J:∀z∈O,bS ee z=true):HOk (O.drop 6):=by
 refine⟨by rw[fB,b];decide,λz=>?_,λw a=>(ej.tx (k:= .inr w)<|J w<|jp a).2,λw a=>J w<|jp a⟩;exact wc (J _<|jp z) rfl
variable{F:Ac->Prop}
def gI{H3:Hp}(a:KF F H1 H2)(b:KF F H2 H3):KF F H1 H3:=⟨λc d e=>b.1 c d<|a.1 c d e,λc o f n e=>b.2 c o f n<|a.2 c o f n e⟩
def lc(s:ag H H'):KF F H H':=⟨ag.keepT s,λa o _ _ e=>s a o e⟩
def Uv{F':Ac->Prop}(h:KF F' H H')(s:∀b,F b->F' b):KF F H H':=⟨h.1,λa o f n e=>h.2 a o (s a f) n e⟩
def pD{a:Ac}(k:KF F H H')(f:F a)(e:H a=Aa (.lst xs)):H' a=Aa (.lst xs):=k.2 a (.lst xs) f Ay e
variable{f:Str->Ag Wo}
def Zc{n:Str}{a b:Wo}:dE (dE f n a) n b=dE f n b:=by
 funext m
 unfold dE;by_cases e:m=n
 .rw[Ah e,Ah e]
 .rw[Ae e,Ae e,Ae e]
structure f_ (P:Ai) (w:Al) (mg:xE) (W U:xD) (Ps:Ab PR) (H:Hp) (F G:Ac->Prop) (A:LA) (k:Kd) (dp dw:Ac) (f f':Str->Ag Wo) (g:PR->Ag ar):Prop where
 led:cx P w mg W U Ps H F A k f g
 lw:er P w Ps H G dw g
 lp:ft W H G dp f'
 dj:∀a,G a->¬ F a/\H a≠none
 gd:G dp/\G dw
variable{W U:xD}{Ps:Ab PR}{G:Ac->Prop}{A:LA}{k:Kd}{dp dw:Ac}{f':Str->Ag Wo}{g:PR->Ag ar}
theorem f_.same(L:f_ P w mg W U Ps H F G A k dp dw f f' g)(s:ag H H'):f_ P w mg W U Ps H' F G A k dp dw f f' g:=
 ⟨L.led.same s,L.lw.go (ag.keepT s) (λa o _ e=>s a o e) L.gd.2 λ_ z=>z,L.lp.go (ag.keepT s) (λa o _ e=>s a o e) L.gd.1 λ_ z=>z,λa b=>⟨(L.dj a b).1,(aG.of (F:=F) s).al a (L.dj a b).2⟩,L.gd⟩
theorem f_.put(M:f_ P w mg W U Ps H F G A k dp dw f f' g){n:Str}{l:Ac}{a:Wo}(u:n∈W)(j:WL H l a)(v:¬ F l):
  ∃c,H dp=Aa (.dK c)/\c.length < sizeLine/\f_ P w mg W U Ps (upd H dp<|.dK<|aq c (Aj n)<|.ref l) F (λb=>G b\/ b=l) A k dp dw f (dE f' n a) g/\ce H (upd H dp<|.dK<|aq c (Aj n)<|.ref l):=by
 obtain⟨m,p,⟨c,e,q,y⟩,h,i⟩:=M;have J:ce H (upd H dp<|.dK<|aq c (Aj n)<|.ref l):= .up e λz=>z;have s:=(aG.put (F:=λ_=>Ez) (o:= .dK<|aq c (Aj n)<|.ref l) (aG.refl _ H) (.inl Ay) ⟨_,e,λz=>z⟩).al;have B:(W.map<|Aj (α:=Int)).length<=1000:=by
  rw[ai];exact m.led.wl
 refine⟨c,e,q.len B,⟨m.else_ J.kT (h dp i.1).1,p.keep J.kf (λ_=> .inl) (qe λz=>?_),⟨_,qb,q.put<|aE.mpr ⟨n,u,zr⟩,?_⟩,λb d=>?_,.inl i.1,.inl i.2⟩,J⟩
 .obtain⟨_,d2,_⟩:=p;obtain⟨D,t⟩:=dh d2;rw[z,e]at t;cases t
 .exact(y.imp λl x C r=>⟨KF.wl (F:=λ_=>Ez) J.kf Ay r,.inl C⟩).put (λ_ _=>Ef) (KF.wl (F:=λ_=>Ez) J.kf Ay j)<|.inr rfl
 .rcases d with d | rfl
  .exact⟨(h b d).1,s b (h b d).2⟩
  .obtain⟨zs,z1,_⟩:=j.lst;exact⟨v,s _ (by rw[z1];exact nofun)⟩
def f_.done(M:f_ P w mg W U Ps H F G A k dp dw f f' g)(L:cx P w mg W U Ps H' (Fn F H H') A k f' g)(c:aG F H H'):eQ P w mg W U Ps H' (Fn F H H') G A k dp dw f' g:=
 ⟨L,M.lw.go c.kt (λa o b e=>c.st a o (M.dj a b).1 e) M.gd.2 λ_ z=>z,M.lp.go c.kt (λa o b e=>c.st a o (M.dj a b).1 e) M.gd.1 λ_ z=>z,λa b=>⟨λz=>z.1.elim (M.dj a b).1 (M.dj a b).2,c.al a (M.dj a b).2⟩,M.gd⟩
theorem qy5{c0:PySem.W.OpenLaw}{q2:Ac}(T:Txt K mg)(l3:mg "law"=Aa (.ref q2)):
  ∃d1:BD,(∀(r2:Af) (v:Ad),Dq r2 d1 ⟨[v],[]⟩ [("_law_script",v)])/\∀base:AH,K.In base->base.Ns Ar mg->bZ c0.prog w K mg base CX0 14 q2 d1 ["_law_script"] (sp_law K):=by
 refine T.t_law.fin l3 eo (λx3 H Q y3 h=>?_) λbase f y5 A z5 r2 H x3 Q y3 r h=>?_
 .obtain⟨a,ns,rfl,_⟩:=h;rfl
 .obtain⟨a,ns,rfl,hS,nl,q⟩:=h;refine uk 4 (λN J=>Mz λ(s:AJ) (m:Int) (o:Ac) (k:Kd)=>mZ (N=[Aa<|.ref a,Aa<|.bl s,Aa<|.int m,Aa<|.ref o,none,none,none,none,none,none,none,none,none,none]) (s=true/\k= .hands\/ s=false/\k= .bests m) (1<=m) (m<=9) (fc mg J o k)<|aK K J a<|ns.map JN) ?_ λu O0 e1=>⟨_,Um
   (ql (i:=1) eo.nd rfl (Ax rfl)<|im kF (qh bN (qr (j_ T) r rfl<|aD (pv 0) qd) qd) qd<|du _)
   (ql (i:=2) eo.nd rfl (Ax rfl)<|bg (cJ K) (qu<|aD qd<|qh cI qd<|qh bN (qr (j_ T) r rfl<|aD (pv 0) qd) qd) (qh bN (qh dD (qr (j_ T) r rfl<|aD (pv 0) qd) qd) qd) λ_ _=>rfl)
   (ql (i:=3) eo.nd rfl (Ax rfl)<|Qb T.Qy T.Ws T.OQ rfl T.TD)
   (bQ (el<|rV (pv 1) λ_=>rfl) (qg<|ql (i:=3) eo.nd rfl (Ax rfl)<|bg (cJ K) (qu<|aD (XX (yP T) T.LN T.yX r rfl T.yj)<|Qa (yP T) T.LN T.yX r rfl T.yj<|ak<|pv 2) (qh bN (qh dD (qr (j_ T) r rfl<|aD (pv 0) qd) qd) qd) λ_ _=>rfl) ci)
   O0,?_⟩
  .refine WG 6 (λN J=>zZ λ(s:AJ) (m:Int) (k:Kd) (A:LA) (i0:Ac) (U:Ac) (dp:Ac) (dw:Ac) (O:xD) (y1:Ag V) (d0:Ab Ac) (Ps:Ab PR) (F:Ac->Prop) (G:Ac->Prop)=>xL (N=[Aa<|.ref a,Aa<|.bl s,Aa<|.int m,Aa<|.ref A.o,Aa<|.ref A.p,Aa<|.ref i0,y1,Aa<|.ref U,Aa<|.ref dp,Aa<|.ref dw,none,none,none,none]) (s=true/\k= .hands\/ s=false/\k= .bests m) (1<=m) (m<=9) (J i0=Aa (.lst<|O.map JP)) (O.length=9) ((∀z∈O,bS ee z=true)) (O.Nodup) (J U=Aa (.lst<|d0.map JU)) (d0.length=3) (Paired (λu p=>ax J (pN p)<|.ref u) d0 Ps) (aK K J a<|ns.map JN) (eQ c0.prog w mg (O.drop 2) (O.drop 6) Ps J F G A k dp dw (λ_=>none) λ_=>none) (G i0)<|G U) ⟨_,eg
   (cw AL rfl (Zb K rfl T.VQ<|ak<|fE (gr K) (pv 0) (eM qd)<|eM qd) (ot rfl<|dQ (qk (i:=10) eo.nd rfl<|Ax rfl)<|dQ (qk (i:=11) eo.nd rfl<|Ax rfl) iS)<|jD
   (ql (i:=12) eo.nd rfl (Ax rfl)<|bg (cJ K) (pv 5) (qh cI qd<|qh bN (qh cI (qh dD (pv 11) qd)<|pv 10) qd) λ_ _=>rfl)
   (ql (i:=13) eo.nd rfl (Ax rfl)<|bg (cJ K) (pv 7) (qh bN (qh cI (qh dD (pv 11) qd)<|qh dD (pv 10) qd) qd) λ_ _=>rfl)
   (bQ (fF kF (qh bN (pv 11) qd) qd<|du _) (em
   (jQ (cL r) (pv 8) (pv 12) (qr (Ol T) r rfl<|aD (qh dD (pv 11) qd)<|pv 2) rfl)
   (bQ (rV (pv 1) λ_=>rfl) (qg<|jQ (cL r) (pv 8) (pv 12) (qr (Sz T) r rfl<|aD (qh cI (qh dD (pv 11) qd)<|pv 10)<|fE (gr K) (pv 5) (eM qd) fQ) rfl) ci)
   (bQ (el<|dX<|qr (UY T) r rfl<|vH (pv 4) (pv 12) (iF (cL r) (pv 8) (pv 12) λ_ _=>rfl)<|pv 9) (qg<|qi cM) ci))<|qg<|bQ (fF kF (qh bN (pv 11) qd) qd<|du _) (qg<|bQ (el<|dX<|qr (NI T) r rfl<|cZ (pv 4) gx<|qy<|aD (pv 12)<|qr (VX T) r rfl<|vH (pv 1) (fE (gr K) (pv 5) (eM qd) fQ) (pv 2)<|qh dD (pv 11) qd) (qg<|qi cM) ci)<|qg<|bQ (el<|dX<|qr (SD T) r rfl<|NM (pv 4) (pv 13) (qr (Ri T) r rfl<|aD (qh cI (qh dD (pv 11) qd)<|pv 10)<|fE (gr K) (pv 5) (eM qd) fQ) (pv 9)<|pv 8) (qg<|qi cM) ci)
   (bQ (el<|dX<|qr (YV T) r rfl<|NM (pv 4) (pv 3) (pv 13) (pv 9)<|pv 8) (qg<|qi cM) ci))
   (qi<|qr (Oz T) r rfl<|vH (pv 4) (pv 3) (pv 9)<|pv 8),?_⟩ λu O0 e1=>⟨_,SS
   (ql (i:=4) eo.nd rfl (Ax rfl)<|UH (UU T) T.QQ T.XI r rfl T.XQ<|ak<|pv 3)
   (ql (i:=5) eo.nd rfl (Ax rfl)<|qr (ND T) r rfl<|aD (qr (j_ T) r rfl<|aD (pv 0) qd) qd)
   (ql (i:=6) eo.nd rfl (Ax rfl)<|qr (YD T) r rfl<|ak<|qr (j_ T) r rfl<|aD (pv 0) qd)
   (ql (i:=7) eo.nd rfl (Ax rfl)<|qu<|cZ (qy<|aD (bg (cJ K) (pv 5) qd λ_ _=>rfl)<|eT (lM K) rfl T.kE ke<|ak<|fE (gr K) (pv 6) fQ<|eM qd) (qy<|aD (bg (cJ K) (pv 5) qd λ_ _=>rfl)<|eT (lM K) rfl T.kE ke<|ak<|pv 6)<|qy<|aD (bg (cJ K) (pv 5) qd λ_ _=>rfl)<|qy ck)
   (ql (i:=8) eo.nd rfl (Ax rfl) iP)
   (ql (i:=9) eo.nd rfl (Ax rfl)<|nB (P:=c0.prog) (w:=w))
   O0,?_⟩
   .rintro N J ⟨s,m,k,A,i0,U,dp,dw,O,y1,d0,Ps,F,G,rfl,B,e0,j0,z1,f0,g0,nd,f1,lu,pu,c5,w0,e6,j9⟩;refine⟨_,zr,_,zr,_,zr,_,_,zr,c5,λD s2=>?_⟩;obtain⟨t2,A1,A5⟩:=Xc ns (Aa 3)<|Aa 33;have P0:upd J D (.lst<|bX (ns.map JN) (Aa 3)<|Aa 33) D=Aa (.lst<|t2.map JN):=by rw[qb,A1]
    have x0:=qc (o:=JR<|bX (ns.map JN) (Aa 3)<|Aa 33) s2;have z3:=(w0.same x0).more (w0.led.led.nf s2) (by rw[P0];exact nofun);have u2:=x0 _ _ z1;have A3:=x0 _ _ f1;have G3:Paired (λu p=>ax (upd J D<|.lst<|bX (ns.map JN) (Aa 3)<|Aa 33) (pN p)<|.ref u) d0 Ps:=JX pu λ_ _ h=>h.same x0;generalize upd J D (.lst<|bX (ns.map JN) (Aa 3)<|Aa 33)=g1 at*;have H3:(O.drop 2).length=7:=by rw[fB,f0]
    have v2:=Nf f0 g0;have w2:(O.drop 6).length=3:=by rw[fB,f0]
    have x2:(O.drop 6).Nodup:=nd.sublist (Gf ..);have y2:=w0.led.led.pg;have G1:∀n:Nat,n<=9->bX (O.map JP) (Aa (n:Int)) none=(O.drop n).map JP:=λn z2=>by
     rw[FS];exact La (O.map JP) n (by rw[ai];lia)
    refine⟨D,zr,⟨_,JO P0⟩,TV (K:=K) (xs:=t2.map JN) (λi N y0=>yz λ(I1:Ag V) (J1:Ag V) (K1:Ag V) (L1:Ag V) (f:Str->Ag Wo) (g:PR->Ag ar) (F':Ac->Prop) (k0:Ac->Prop)=>lG (N=[Aa<|.ref a,Aa<|.bl s,Aa<|.int m,Aa<|.ref A.o,Aa<|.ref A.p,Aa<|.ref i0,y1,Aa<|.ref U,Aa<|.ref dp,Aa<|.ref dw,I1,J1,K1,L1]) (eQ c0.prog w mg (O.drop 2) (O.drop 6) Ps y0 F' k0 A k dp dw f g) ((∀b,(G b\/ b=D)->k0 b))<|KF (λb=>G b\/ b=D) g1 y0) ⟨none,none,none,none,_,_,_,_,zr,z3,(λ_ z=>z),(λ_ _ e=>e),λ_ _ _ _ e=>e⟩ (λi N F5 _ z=>?_) ?_ ?_⟩
    .obtain⟨_,_,_,_,_,_,_,_,_,_,_,W⟩:=z;exact JO<|pD W (.inr rfl) P0
    .rintro i x c N y0 h1 i1 ⟨I1,J1,K1,L1,f,g,F',k0,rfl,i7,a1,W⟩;rw[bF]at h1;obtain⟨a0,l2,rfl⟩:=dq.mp h1;have A2:=qc (o:=JY [JN (i:Nat),JN a0]) i1;have I3:=qb (H:=y0) (a:=c) (o:=JY [JN (i:Nat),JN a0]);have L:=i7.same A2;have W:=gI W<|lc A2;generalize upd y0 c (.tup [JN (i:Nat),JN a0])=D2 at*;refine⟨_,_,zr,JT I3,zr,_,_,zr,_,_,zr,zr,?_⟩;have N1:=cG (a0 / 12+(i:Int)) (show (4:Int)≠0 by decide);have J3:=cS (a0 / 12+(i:Int)) (show (0:Int) < 4 by decide);obtain⟨t,K3,Q0⟩:∃t,bV (O.map JP) (2+(a0 / 12+(i:Int))%4)=Aa (.str t)/\t∈O.drop 2:=by
      obtain⟨j,O1⟩:=jB N1;rw[O1]at J3 ⊢;have R0:2+j < O.length:=by lia
      refine⟨O[2+j],?_,?_⟩
      .rw[show (2:Int)+(j:Int)=((2+j:Nat):Int) by lia];exact cv (by rw[bF,aH R0];rfl)
      .have:(O.drop 2)[j]? =Aa O[2+j]:=by rw[DW,aH R0]
       exact bJ this
     have L3:bS ee t=true:=g0 t<|jp Q0;have F2:t.length<=1000:=az (kO L3).2.1 (by decide);have P1:=pD W (.inl e6) u2;refine⟨_,rfl,_,rfl,_,_,rfl,rfl,⟨by decide,by decide⟩,_,rfl,_,_,rfl,rfl,_,_,rfl,rfl,(by show (0:Int) < 4;decide),_,_,rfl,rfl,_,_,_,_,rfl,rfl,JO P1,K3,?_⟩;have M3:=cG (a0 / 48+(i:Int) / 2) (show (3:Int)≠0 by decide);have N3:=cS (a0 / 48+(i:Int) / 2) (show (0:Int) < 3 by decide);obtain⟨b,m0,l0,G2,I2⟩:∃b m0,bV (d0.map JU) ((a0 / 48+(i:Int) / 2)%3)=Aa (.ref b)/\ax g1 (pN m0) (.ref b)/\m0∈Ps:=by
      obtain⟨j,O1⟩:=jB M3;rw[O1]at N3 ⊢;have R0:j < d0.length:=by lia
      obtain⟨m0,O3,z2⟩:=fC G3<|aH R0;exact⟨d0[j],m0,cv (by rw[bF,aH R0];rfl),z2,bJ O3⟩
     refine⟨_,rfl,_,rfl,_,_,rfl,rfl,⟨by decide,by decide⟩,_,rfl,_,_,rfl,rfl,⟨by decide,by decide⟩,_,_,rfl,rfl,_,_,rfl,rfl,(by show (0:Int) < 3;decide),_,_,_,_,rfl,rfl,JO<|pD W (.inl j9) A3,l0,?_⟩
     apply yD
     .intro key;refine⟨_,rfl,_,_,rfl,rfl,(by show (0:Int) < 3;decide),rfl,_,rfl,dP (λP3=>?_) λP3=>?_⟩
      .refine⟨_,zr,_,_,zr,zr,⟨by decide,by decide⟩,_,zr,_,m,zr,e0,λj1 Q3 H2 n0 Q1 l5 R3 S3=>?_⟩;have M2:f_ c0.prog w mg (O.drop 2) (O.drop 6) Ps H2 F' k0 A k dp dw f f g:=f_.same ⟨L.led,L.lw,L.lp,L.dj,L.gd⟩ n0;have T3:WL H2 j1 (.nums Q3):=l5;obtain⟨U3,V3,W3,R1,X3⟩:=M2.put Q0 T3<|L.led.led.nf Q1;refine⟨_,zr,_,zr,dp,_,zr,e_.k (k:=Aj t) V3 W3,?_⟩;have S1:=gI W<|gI (lc n0) X3.kf;generalize upd H2 dp (.dK<|aq U3 (Aj t)<|.ref j1)=E at*;have Y3:=pD S1 (.inl e6) u2
       apply yD
       .intro b9;refine⟨_,zr,_,zr,dP (λA0=>?_) λA0=>?_⟩
        .refine⟨_,zr,_,_,zr,zr,⟨by decide,by decide⟩,_,zr,_,_,zr,zr,_,zr,_,zr,_,_,zr,JO Y3,λM S0=>?_⟩;have X:=qc (o:=JR<|bX (O.map JP) (Aa 6) none) S0;have T0:upd E M (.lst<|bX (O.map JP) (Aa 6) none) M=Aa (.lst<|(O.drop 6).map JP):=by rw[qb];exact Ba (λz=>Aa<|JR z) (G1 6<|by decide)
         refine⟨_,M,O.drop 6,zr,T0,w2,x2,v2,λZ3 R U0 Y a4 b4 T1=>?_⟩;have J2:=X.trans Y;obtain⟨c4,d4,e4,K2,h4⟩:=(R1.same J2).put Q0 b4<|R1.led.led.nf<|X.free a4;refine⟨_,zr,_,zr,dp,_,zr,e_.k (k:=Aj t) d4 e4,?_⟩;have i4:=gI S1<|gI (lc J2) h4.kf;rw[Zc]at K2;have T1:bo (O.drop 6) k (.acc R):=by
          rcases B with B | B
          .rw[B.2];exact T1
          .rw[B.1]at A0;cases A0
         obtain⟨o0,p0,b0,V0,j4⟩:∃o0 p0 b0,upd U0 dp (.dK<|aq c4 (Aj t)<|.ref Z3)=o0/\(f_ c0.prog w mg (O.drop 2) (O.drop 6) Ps o0 F' b0 A k dp dw f (dE f t p0) g/\(∀b,(G b\/ b=D)->b0 b)/\KF (λb=>G b\/ b=D) g1 o0/\bo (O.drop 6) k p0):=⟨_,_,_,rfl,K2,(λb s=> .inl<|.inl<|a1 b s),i4,T1⟩;rw[V0];clear V0;revert j4;revert b0;revert p0;revert o0;exact b9
        .refine b9 _ _ _ ⟨R1,(λb s=> .inl<|a1 b s),S1,?_⟩;rcases B with B | B
         .exact Au B.1 A0
         .rw[B.2];exact .bests R3 S3
       .intro o0 p0 b0 ⟨M4,b2,H0,j8⟩;obtain⟨G5,k4,_,m4⟩:=M4.lp;obtain⟨l4,T0,n4,_⟩:=m4.2 t p0<|Ah rfl;have L2:=Kn (k:=Aj t) k4;rw[T0]at L2;refine⟨_,zr,_,zr,_,zr,_,zr,dp,_,zr,L2,_,zr,O.drop 2,O.drop 6,Ps,F',b0,A,k,f,g,dw,l4,t,p0,zr,M4.led,M4.lw,M4.gd.2,M4.dj,Q0,F2,n4,j8,λH' U1 V1=>⟨_,zr,eK ?_⟩⟩;have W1:=M4.done U1 V1;have o4:=gI H0 ⟨V1.kt,λb o p4 _ e=>V1.st b o (M4.dj b<|b2 b p4).1 e⟩;obtain⟨W0,X0,X1,Y1,k1,V0,W1⟩:∃W0 X0 X1 Y1 k1,H'=W0/\(eQ c0.prog w mg (O.drop 2) (O.drop 6) Ps W0 Y1 k1 A k dp dw X0 X1/\(∀b,(G b\/ b=D)->k1 b)/\KF (λb=>G b\/ b=D) g1 W0):=⟨_,_,_,_,_,rfl,W1,b2,o4⟩;rw[V0];clear V0;revert W1;revert k1;revert Y1;revert X1;revert X0;revert W0;exact key
      .refine⟨_,rfl,_,_,rfl,rfl,(by show (0:Int) < 12;decide),rfl,_,rfl,dP (λA0=>?_) λA0=>?_⟩
       .refine⟨_,zr,_,zr,_,zr,_,zr,_,zr,_,_,zr,JO P1,λM S0=>?_⟩;have X:=qc (o:=JR<|bX (O.map JP) (Aa 6) none) S0;have T0:upd D2 M (.lst<|bX (O.map JP) (Aa 6) none) M=Aa (.lst<|(O.drop 6).map JP):=by rw[qb];exact Ba (λz=>Aa<|JR z) (G1 6<|by decide)
        refine⟨_,rfl,_,rfl,_,_,rfl,rfl,⟨by decide,by decide⟩,k,s,M,O.drop 6,m,_,rfl,B,e0,j0,T0,w2,x2,v2,λx d H2 n0 q4 r4 d1=>⟨by show 2<=sizeLine;decide,λu O0=>?_⟩⟩;have m1:=qc (o:=JY [JP t,x]) O0;have J0:=X.trans<|n0.trans m1;have N2:=L.same J0;refine⟨O.drop 2,O.drop 6,Ps,F',A,k,f,g,"price",u,zr,N2.led,λE Y=>?_,.inl ⟨zr,t,x,d,JT qb,Q0,F2,Kk m1 _ _ q4,r4,d1⟩⟩;exact⟨_,zr,eK<|key _ _ _ _ _ ⟨N2.same Y,a1,gI W<|lc<|J0.trans Y⟩⟩
       .refine⟨_,zr,_,zr,_,zr,_,_,zr,zr,⟨by decide,by decide⟩,_,zr,_,_,zr,zr,_,zr,_,zr,_,_,zr,JO P1,λM S0=>?_⟩;have n0:=qc (o:=JR<|bX (O.map JP) (Aa 2) none) S0;have s4:upd D2 M (.lst<|bX (O.map JP) (Aa 2) none) M=Aa (.lst<|(O.drop 2).map JP):=by rw[qb];exact Ba (λz=>Aa<|JR z) (G1 2<|by decide)
        refine⟨_,M,O.drop 2,zr,s4,H3,(λz n1=>g0 z<|jp n1),λj1 Z1 E m1 Q1 t4 u4=>?_⟩;have J0:=n0.trans m1;refine⟨_,zr,_,zr,O.drop 2,O.drop 6,Ps,F',k0,A,k,dp,dw,f,g,m0,b,j1,Z1,zr,L.same J0,I2,(G2.keep W.1).same J0,t4,L.led.led.nf<|n0.free Q1,u4,λv4 a2 H5 U1 H0=>?_⟩;exact⟨_,zr,eK<|key _ _ _ _ _ ⟨U1,(λb s=> .inl<|a1 b s),gI W<|gI (lc J0)<|Uv H0 a1⟩⟩
     .intro o0 f4 g4 a2 b0 ⟨R,b2,H0⟩;exact⟨_,zr,_,zr,_,zr,_,zr,_,zr,O.drop 2,O.drop 6,Ps,a2,b0,A,k,dp,dw,f4,g4,m0,b,zr,R,I2,G2.keep H0.1,λY0 O2=>⟨_,zr,eK ⟨_,_,_,_,f4,g4,a2,b0,zr,R.same O2,b2,gI H0<|lc O2⟩⟩⟩
    .rintro N y0 ⟨I1,J1,K1,L1,f,g,F',k0,rfl,L,_,_⟩;exact⟨_,zr,_,zr,_,zr,_,zr,O.drop 2,O.drop 6,Ps,F',k0,A,k,dp,dw,f,g,zr,L,q⟩
   .rintro N J ⟨s,m,o,k,rfl,B,e0,j0,l1,c5⟩;refine⟨_,zr,λp c2 P2 w4 _=>⟨_,p,c2,.ref o,zr,LX P2 w4,P2,qb,λE Q2 y z b S S2 T2 U2 n1 V2 I5 x4 y4 J5=>⟨zr,?_⟩⟩⟩;have W2:=l1.same S;have d2:=S.seq c5;refine⟨_,zr,a,ns,2,zr,d2,by decide,_,9,zr,by decide,by decide,λi0 O v4 X z1 f0 z4 g0 nd=>?_⟩;refine⟨_,zr,a,ns,1,zr,X.seq d2,by decide,_,zr,λK5 l U0 Y X2 L5 Y2=>?_⟩;have Z0:=Y _ _ z1;obtain⟨Z,I,wr,p1⟩:∃Z I wr,O=Z::I::wr:=by
     match O,f0 with
     | Z::I::wr,_=>exact⟨_,_,_,rfl⟩
    have Z2:bV (O.map JP) 0=Aa (.str Z):=by rw[p1];exact cv (j:=0) rfl
    have A4:bV (O.map JP) 1=Aa (.str I):=by rw[p1];exact cv (j:=1) rfl
    have a3:=g0 Z (by rw[p1];exact be ..);have F4:=g0 I (by rw[p1];exact bb _ (be ..));have D:bX (l.map kV) none (Aa 1)=(l.take 1).map kV:=by rw[kD _ (by decide),CF];rfl
    refine⟨_,rfl,_,_,_,_,rfl,rfl,JO Z0,Z2,_,rfl,_,rfl,_,_,rfl,JO X2,λe2 G4=>⟨_,_,rfl,.inl ⟨JO qb,λq0 b3=>⟨by show 2<=sizeLine;decide,λr0 c3=>?_⟩⟩⟩⟩;rw[D]at b3 c3 ⊢;have H4:=qc (o:=JR<|(l.take 1).map kV) G4;have I4:=qc (o:=JY<|(l.take 1).map kV) b3;have d3:=qc (o:=JY [JP Z,.ref q0]) c3;have J4:=d3 _ _<|qb (H:=upd U0 e2<|.lst<|(l.take 1).map kV) (a:=q0) (o:=JY<|(l.take 1).map kV);have K4:=qb (H:=upd (upd U0 e2<|.lst<|(l.take 1).map kV) q0<|.tup<|(l.take 1).map kV) (a:=r0) (o:=JY [JP Z,.ref q0]);have f2:=(H4.trans I4).trans d3;generalize upd (upd (upd U0 e2<|.lst<|(l.take 1).map kV) q0<|.tup<|(l.take 1).map kV) r0 (.tup [JP Z,.ref q0])=q1 at*;have L4:ax q1 (pN (Z,l.take 1)) (.ref r0):=fI.mpr ⟨q0,K4,J4⟩;refine⟨_,rfl,_,_,_,_,rfl,rfl,JO<|f2 _ _ Z0,A4,_,rfl,_,_,rfl,.inl ⟨JO<|f2 _ _ X2,λs0 N4=>⟨by show 2<=sizeLine;decide,λt0 O4=>?_⟩⟩⟩;have P4:=qc (o:=JY<|l.map kV) N4;have e3:=qc (o:=JY [JP I,.ref s0]) O4;have Q4:=e3 _ _<|qb (H:=q1) (a:=s0) (o:=JY<|l.map kV);have R4:=qb (H:=upd q1 s0<|.tup<|l.map kV) (a:=t0) (o:=JY [JP I,.ref s0]);have f3:=P4.trans e3;generalize upd (upd q1 s0<|.tup<|l.map kV) t0 (.tup [JP I,.ref s0])=Y0 at*;have S4:ax Y0 (pN (I,l)) (.ref t0):=fI.mpr ⟨s0,R4,Q4⟩;have g3:=f2.trans f3;refine⟨_,rfl,_,_,_,_,rfl,rfl,JO<|g3 _ _ Z0,Z2,by decide,λu0 T4=>⟨by show 2<=sizeLine;decide,λv0 U4=>?_⟩⟩;have V4:=qc (o:=JY []) T4;have h3:=qc (o:=JY [JP Z,.ref u0]) U4;have X0:=h3 _ _<|qb (H:=Y0) (a:=u0) (o:=JY []);have W4:=qb (H:=upd Y0 u0<|.tup []) (a:=v0) (o:=JY [JP Z,.ref u0]);have g2:=V4.trans h3;generalize upd (upd Y0 u0<|.tup []) v0 (.tup [JP Z,.ref u0])=h2 at*;have X4:ax h2 (pN (Z,[])) (.ref v0):=fI.mpr ⟨u0,W4,X0⟩;have r1:=g3.trans g2;refine⟨by show 3<=sizeLine;decide,λU f1=>?_⟩;have i2:=qc (o:=JR [JU r0,.ref t0,.ref v0]) f1;have Y4:=qb (H:=h2) (a:=U) (o:=JR [JU r0,.ref t0,.ref v0]);have Z4:E U=none:=(X.trans<|Y.trans r1).free f1;generalize upd h2 U (.lst [JU r0,.ref t0,.ref v0])=i3 at*;refine λdp j3=>?_;have s1:=qc (o:=Kt []) j3;have a5:=qb (H:=i3) (a:=dp) (o:=Kt []);have b5:E dp=none:=(X.trans<|Y.trans<|r1.trans i2).free j3;generalize upd i3 dp (.dK [])=d5 at*;refine λdw k3 m3 n3=>?_;have j2:=qc (o:=k3) m3;have e5:E dw=none:=(X.trans<|Y.trans<|r1.trans<|i2.trans s1).free m3;have t1:=i2.trans<|s1.trans j2;have SB:=r1.trans t1;have h0:=X.trans<|Y.trans SB;have p3:=j2 _ _ a5;have q3:=j2 _ _<|s1 _ _ Y4;have f5:=(L4.same f3).same<|g2.trans t1;have g5:=S4.same<|g2.trans t1;have h5:=X4.same t1;generalize upd d5 dw k3=u1 at*;have y2:∀q∈ [(Z,l.take 1),(I,l),(Z,[])],fV q:=λq r3=>by
     simp only[aA,cc,Bf]at r3;rcases r3 with rfl | rfl | rfl
     .exact⟨a3,by show (l.take 1).length<=4;rw[bt];lia,λx h1=>Y2 x<|kW h1⟩
     .exact⟨F4,by show l.length<=4;lia,Y2⟩
     .exact⟨a3,by show 0<=4;decide,λ_ z=>nomatch z⟩
    have i5:k.ok:=by
     rcases B with ⟨_,rfl⟩ | ⟨_,rfl⟩
     .exact Ay
     .exact⟨e0,j0⟩
    have K0:∀{c:Ac} {x:HO},E c=Aa x->E c≠none:=λe z=>by rw[e]at z;cases z
    have v1:∀{c:Ac} {x:HO},u1 c=Aa x->u1 c≠none:=λe z=>by rw[e]at z;cases z
    have k2:=dh U2;have m2:=dh n1;have n2:=W2;obtain⟨_,k2⟩:=k2;obtain⟨_,m2⟩:=m2;obtain⟨_,n2⟩:=n2;have L0:∀{κ:Type} (S:Ab κ),dm S []:=λS=>⟨dH,λ_ z=>nomatch z⟩;have j5:aQ c0.prog w mg (O.drop 2) [(Z,l.take 1),(I,l),(Z,[])] u1 (λc=>E c≠none) (LA.mk p c2 o Q2 y z b) k (λ_=>none) (λ_=>none) (cj k (λ_=>none) λ_=>none) (fy λ_=>none):=by
     refine⟨h0 _ _ S2,W2.same h0,⟨[],h0 _ _ T2,L0 _,(λ_ _=>rfl),λ_ _ e=>nomatch e⟩,⟨[],Kl h0 U2,L0 _,(λ_ _=>rfl),λ_ _ e=>nomatch e⟩,⟨[],Kl h0 n1,L0 _,(λ_ _=>rfl),λ_ _ e=>nomatch e⟩,⟨[],h0 _ _ V2,L0 _,(λn v e=>nomatch e),(λn _ q ⟨Z1,e,_⟩=>nomatch e),(λn m a e=>nomatch e),λn a e=>nomatch e⟩,Bi x4.2.2,Bi y4.1,?_,by show 3<=1000;decide,y2,⟨K0 S2,K0 n2,K0 T2,K0 k2,K0 m2,K0 V2⟩,(aG.of (F:=λ_=>Ez) h0).al⟩;rw[fB,f0];decide
    obtain⟨_,k5⟩:=dh n3;exact e1 _ _ ⟨s,m,k,LA.mk p c2 o Q2 y z b,i0,U,dp,dw,O,_,[r0,t0,v0],[(Z,l.take 1),(I,l),(Z,[])],λc=>E c≠none,λc=>E c=none/\u1 c≠none,rfl,B,e0,j0,SB _ _ Z0,f0,g0,nd,q3,rfl,.cons f5<|.cons g5<|.cons h5 .nil,h0.seq d2,⟨⟨j5,⟨i5,Nf f0 g0,λz v e=>nomatch e⟩,λq Z1 e=>nomatch e⟩,⟨[],n3,L0 _,(λ_ _=>rfl),λ_ _ e=>nomatch e⟩,⟨[],p3,L0 _,(λ_ _=>rfl),λ_ _ e=>nomatch e⟩,(λc i1=>⟨λz=>z i1.1,i1.2⟩),⟨b5,v1 p3⟩,e5,v1 k5⟩,⟨z4,v1<|SB _ _ Z0⟩,Z4,v1 q3⟩
  .have z0:=cG (ns.getD 0 0 / 2) (show (2:Int)≠0 by decide);have s1:=cS (ns.getD 0 0 / 2) (show (0:Int) < 2 by decide);have s3:=cG (ns.getD (DV 1) 0) (show (9:Int)≠0 by decide);have M5:=cS (ns.getD (DV 1) 0) (show (0:Int) < 9 by decide);refine⟨_,rfl,a,ns,0,rfl,hS,by decide,_,_,rfl,rfl,(by show (0:Int) < 2;decide),rfl,?_⟩;refine⟨_,rfl,a,ns,1,rfl,hS,by decide,_,_,rfl,rfl,(by show (0:Int) < 9;decide),_,_,rfl,rfl,by show 2<=sizeLine;decide,λw0 m5=>?_⟩
   dsimp only
   have x0:=qc (o:=JR [JN 3,JN<|1+ns.getD (DV 1) 0%9]) m5;have P0:=qb (H:=H) (a:=w0) (o:=JR [JN 3,JN<|1+ns.getD (DV 1) 0%9]);have t3:=x0.seq hS;obtain⟨m,n5,e0,j0,o5⟩:∃m,bV [JN 3,JN<|1+ns.getD (DV 1) 0%9] (ns.getD 0 0 / 2%2)=Aa (.int m)/\1<=m/\m<=9/\(ns.getD 0 0 / 2%2=0->m=3):=by
    rcases (show ns.getD 0 0 / 2%2=0\/ ns.getD 0 0 / 2%2=1 by lia) with h | h <;> rw[h]
    .exact⟨3,zr,by decide,by decide,λ_=>rfl⟩
    .exact⟨1+ns.getD (DV 1) 0%9,zr,by lia,by lia,λz=>Au z<|by decide⟩
   refine⟨_,rfl,a,ns,0,rfl,t3,by decide,_,_,rfl,rfl,⟨by decide,by decide⟩,_,_,rfl,rfl,(by show (0:Int) < 2;decide),_,_,_,_,rfl,rfl,JO P0,n5,?_⟩;generalize upd H w0 (.lst [JN 3,JN<|1+ns.getD (DV 1) 0%9])=H1 at*;refine λb1 c1 s3 N1 _=>?_;have p5:=LX (C:=cA mg "Hands") (fs:=[]) s3 N1;have q5:=qb (H:=upd H1 c1<|.own b1) (a:=b1) (o:= .ins (cA mg "Hands") c1 []);generalize upd (upd H1 c1<|.own b1) b1 (.ins (cA mg "Hands") c1 [])=H2 at*;have u3:=p5.seq t3;refine⟨_,zr,_,zr,?_⟩;cases s:decide (JN (ns.getD 0 0%2)=JN 1) with
   | true=>exact fq (by show (!decide (JN (ns.getD 0 0%2)=JN 1))=false;rw[s];rfl)<|e1 _ _ ⟨true,m,b1,.hands,by rw[<- s];rfl,.inl ⟨rfl,rfl⟩,e0,j0,⟨c1,q5⟩,u3⟩
   | false=>
    refine fG (by show (!decide (JN (ns.getD 0 0%2)=JN 1))=true;rw[s];rfl) ?_;refine λM0 w1 r5 s5 _=>⟨M0,w1,_,rfl,qb,rfl,_,rfl,λN0 x1 t5 u5 _=>⟨N0,x1,_,rfl,qb,rfl,by show 2<=sizeLine;decide,λN5 l6=>?_⟩⟩;have v5:=MH (o1:= .own M0) (o2:= .ins (cA mg "Bests") w1 []) (o3:= .ins (cA mg "Bests") w1 [("most",.int 3)]) r5 s5;have v3:=MH (o1:= .own N0) (o2:= .ins (cA mg "Bests") x1 []) (o3:= .ins (cA mg "Bests") x1 [("most",.int m)]) t5 u5;have p2:=qc (o:=JR [JU M0,.ref N0]) l6;obtain⟨o,w5,x5⟩:∃o,bV [JU M0,.ref N0] (ns.getD 0 0 / 2%2)=Aa (.ref o)/\(m=3/\o=M0\/ o=N0):=by
     rcases (show ns.getD 0 0 / 2%2=0\/ ns.getD 0 0 / 2%2=1 by lia) with h | h
     .rw[h];exact⟨M0,zr,.inl ⟨o5 h,zr⟩⟩
     .rw[h];exact⟨N0,zr,.inr rfl⟩
    have w3:=(v5.trans<|v3.trans p2).seq u3;refine⟨_,rfl,a,ns,0,rfl,w3,by decide,_,_,rfl,rfl,⟨by decide,by decide⟩,_,_,rfl,rfl,(by show (0:Int) < 2;decide),_,_,_,_,rfl,rfl,JO qb,w5,e1 _ _ ⟨false,m,o,.bests m,by rw[<- s];rfl,.inr ⟨rfl,rfl⟩,e0,j0,?_,w3⟩⟩;rcases x5 with ⟨A1,rfl⟩ | rfl
    .refine⟨w1,(p2 _ _<|v3 _ _ qb).trans ?_⟩;rw[A1];rfl
    .exact⟨x1,p2 _ _ qb⟩
open PySem.W in
def ql9{h:AH}(X:K.In h)(G:h.Ns Ar mg){g i j k l:Tok}{c a d m:Ac}{n o p q e r t:Ad}{u w x:Ag Ac}{y A:Am (Ag Ad)}
  (B:Dz K Ar "ValueError"=Aa none)
  (C:Dz K Ar "all"=Aa none)
  (D:Dz K Ar "any"=Aa none)
  (E:Dz K Ar "bool"=Aa none)
  (F:Dz K Ar "dict"=Aa none)
  (H:Dz K Ar "enumerate"=Aa none)
  (I:Dz K Ar "int"=Aa none)
  (L:Dz K Ar "isinstance"=Aa none)
  (M:Dz K Ar "len"=Aa none)
  (N:Dz K Ar "list"=Aa none)
  (P:Dz K Ar "min"=Aa none)
  (Q:Dz K Ar "range"=Aa none)
  (ad:Dz K Ar "set"=Aa none)
  (R:Dz K Ar "sorted"=Aa none)
  (S:Dz K Ar "str"=Aa none)
  (T:Dz K Ar "tuple"=Aa none)
  (U:Dz K Ar "SMALL_LETTERS"=Aa (Aa<|.str "abcdefghijklmnopqrstuvwxyz" g))
  (W:Dz K Ar "FURTHER_SIGNS"=Aa (Aa<|.str "abcdefghijklmnopqrstuvwxyz0123456789" i))
  (a0:Dz K Ar "MOST_SIGNS"=Aa (Aa<|.int 12 j))
  (b0:Dz K Ar "END"=Aa (Aa<|.str "" k))
  (c0:bn K "_wall" Ln)
  (d0:bn K "is_whole" sD)
  (e0:bn K "is_text_begun_by" rO)
  (f0:bn K "is_word" sI)
  (g0:bn K "value_key" qZ)
  (h0:bn K "row_key" vu)
  (i0:bn K "pair_key" ry)
  (j0:bn K "pairs_in_order" uy)
  (k0:bn K "names_of" uE)
  (l0:bn K "own" ur)
  (m0:bn K "ask_worths" vN)
  (n0:bn K "product_reckoned" ri)
  (o0:bn K "reckoned" rY)
  (p0:bn K "is_tuple_of_words" ui)
  (q0:bn K "is_accord" vG)
  (r0:bn K "put_into" sq)
  (s0:bn K "kids_within" tj)
  (t0:bn K "has_one_within" tU)
  (u0:bn K "once_by_size" ra)
  (v0:bn K "thinned" qW)
  (w0:bn K "agreed" uW)
  (x0:bn K "_law_cell_at" tK)
  (y0:bn K "_law_stream" sE)
  (z0:bn K "_law_words" va)
  (A0:bn K "_law_values" rD)
  (H0:bn K "_law_key" tG)
  (J0:bn K "_law_accord" uo)
  (K0:bn K "_law_bests" uv)
  (L0:bn K "_law_why" rS)
  (M0:bn K "_law_refused" rM)
  (N0:bn K "_law_no_price" su)
  (O0:bn K "_law_priced" vJ)
  (P0:bn K "_law_entered" vt)
  (Q0:bn K "_law_stands" uL)
  (R0:bn K "_law_told" ts)
  (S0:bn K "law" ru)
  (T0:Dz K Ar "Bests"=Aa (Aa<|.ref c))
  (J:fj K "Ledger")
  (U0:fA K "Ledger" "bearers" (Aa none))
  (V0:fA K "Ledger" "by" (Aa none))
  (W0:fA K "Ledger" "prices" (Aa none))
  (X0:fA K "Ledger" "whys" (Aa none))
  (Y0:fA K "Ledger" "worths" (Aa none))
  (Z0:cm K "Ledger" "__init__" "Ledger.__init__" ue)
  (a1:cm K "Ledger" "price" "Ledger.price" sT)
  (b1:cm K "Ledger" "enter" "Ledger.enter" re)
  (c1:cm K "Ledger" "take_out" "Ledger.take_out" so)
  (d1:cm K "Ledger" "take_in" "Ledger.take_in" rH)
  (e1:cm K "Ledger" "worth" "Ledger.worth" ud)
  (f1:cm K "Ledger" "told" "Ledger.told" vo)
  (O:fj K "Reckoning")
  (g1:fA K "Reckoning" "__init__" (Aa<|Aa<|.builtin "object.__init__"))
  (h1:fA K "Reckoning" "either" (Aa none))
  (i1:fA K "Reckoning" "nought" (Aa none))
  (j1:cm K "Reckoning" "repeated" "Reckoning.repeated" ye)
  (Y:fj K "Bests")
  (k1:fA K "Bests" "most" (Aa none))
  (l1:GO K (.ref c) "__init__"=Aa (Aa<|.ref a)) (m1:isFn K (.ref a)=true)
  (n1:K.lookup a=Aa ⟨n,u,.func<|fnOf "__init__" "Bests.__init__" (dr nP) (bU nP) (qf nP) (.ref d) o p q w e r,y⟩)
  (o1:codeIn K e "Bests.__init__"=true)
  (b:K.lookup d=Aa ⟨t,x,.seq #[.int 3 l] m,A⟩)
  (p1:cm K "Bests" "least_ones" "Bests.least_ones" tO)
  (q1:cm K "Bests" "fits" "Bests.fits" uc)
  (r1:cm K "Bests" "nought" "Bests.nought" uX)
  (bl:cm K "Bests" "unit" "Bests.unit" uh)
  (s1:cm K "Bests" "either" "Bests.either" uB)
  (t1:cm K "Bests" "both" "Bests.both" u_)
  (u1:cm K "Bests" "repeated" "Bests.repeated" uZ)
  (Z:fj K "Hands")
  (v1:fA K "Hands" "__init__" (Aa<|Aa<|.builtin "object.__init__"))
  (w1:cm K "Hands" "fits" "Hands.fits" tF)
  (x1:cm K "Hands" "nought" "Hands.nought" tJ)
  (y1:cm K "Hands" "unit" "Hands.unit" tw)
  (z1:cm K "Hands" "either" "Hands.either" rF)
  (A1:cm K "Hands" "both" "Hands.both" rs)
  (G1:cm K "Hands" "repeated" "Reckoning.repeated" tT)
  (f:kR K "NoWorth")
  (H1:pT K "NoWorth" "NoWorth" true):Txt K mg:=
 ⟨ef X G B,
  ef X G C,
  ef X G D,
  ef X G E,
  ef X G F,
  ef X G H,
  ef X G I,
  ef X G L,
  ef X G M,
  ef X G N,
  ef X G P,
  ef X G Q,
  ef X G ad,
  ef X G R,
  ef X G S,
  ef X G T,
  ⟨_,fu X G U⟩,
  ⟨_,fu X G W⟩,
  ⟨_,fu X G a0⟩,
  ⟨_,fu X G b0⟩,
  c0.top X G λ_ _ _ _ _ _=>cK λ_=>rfl,
  d0.top X G λ_ _ _ _ _ _=>cK λ_=>rfl,
  e0.top X G λ_ _ _ _ _ _=>dM λ_ _=>rfl,
  f0.top X G λ_ _ _ _ _ _=>cK λ_=>rfl,
  g0.top X G λ_ _ _ _ _ _=>cK λ_=>rfl,
  h0.top X G λ_ _ _ _ _ _=>cK λ_=>rfl,
  i0.top X G λ_ _ _ _ _ _=>cK λ_=>rfl,
  j0.top X G λ_ _ _ _ _ _=>cK λ_=>rfl,
  k0.top X G λ_ _ _ _ _ _=>cK λ_=>rfl,
  l0.top X G λ_ _ _ _ _ _=>cK λ_=>rfl,
  m0.top X G λ_ _ _ _ _ _=>eV λ_ _ _=>rfl,
  n0.top X G λ_ _ _ _ _ _=>eV λ_ _ _=>rfl,
  o0.top X G λ_ _ _ _ _ _=>eV λ_ _ _=>rfl,
  p0.top X G λ_ _ _ _ _ _=>cK λ_=>rfl,
  q0.top X G λ_ _ _ _ _ _=>cK λ_=>rfl,
  r0.top X G λ_ _ _ _ _ _=>dM λ_ _=>rfl,
  s0.top X G λ_ _ _ _ _ _=>dM λ_ _=>rfl,
  t0.top X G λ_ _ _ _ _ _=>dM λ_ _=>rfl,
  u0.top X G λ_ _ _ _ _ _=>cK λ_=>rfl,
  v0.top X G λ_ _ _ _ _ _=>cK λ_=>rfl,
  w0.top X G λ_ _ _ _ _ _=>dM λ_ _=>rfl,
  x0.top X G λ_ _ _ _ _ _=>dM λ_ _=>rfl,
  y0.top X G λ_ _ _ _ _ _=>dM λ_ _=>rfl,
  z0.top X G λ_ _ _ _ _ _=>dM λ_ _=>rfl,
  A0.top X G λ_ _ _ _ _ _=>cK λ_=>rfl,
  H0.top X G λ_ _ _ _ _ _=>cK λ_=>rfl,
  J0.top X G λ_ _ _ _ _ _=>dM λ_ _=>rfl,
  K0.top X G λ_ _ _ _ _ _=>dM λ_ _=>rfl,
  L0.top X G λ_ _ _ _ _ _=>dM λ_ _=>rfl,
  M0.top X G λ_ _ _ _ _ _=>eV λ_ _ _=>rfl,
  N0.top X G λ_ _ _ _ _ _=>kc λ_ _ _ _=>rfl,
  O0.top X G λ_ _ _ _ _ _=>kc λ_ _ _ _=>rfl,
  P0.top X G λ_ _ _ _ _ _=>NS λ_ _ _ _ _=>rfl,
  Q0.top X G λ_ _ _ _ _ _=>NS λ_ _ _ _ _=>rfl,
  R0.top X G λ_ _ _ _ _ _=>kc λ_ _ _ _=>rfl,
  S0.top X G λ_ _ _ _ _ _=>cK λ_=>rfl,
  J.g X G,
  J.cl X G,
  J.mk' X G,
  J.kp X G,
  U0.at' X G,
  V0.at' X G,
  W0.at' X G,
  X0.at' X G,
  Y0.at' X G,
  Z0.top X G λ_ _ _ _ _ _=>dM λ_ _=>rfl,
  a1.top X G λ_ _ _ _ _ _=>eV λ_ _ _=>rfl,
  b1.top X G λ_ _ _ _ _ _=>kc λ_ _ _ _=>rfl,
  c1.top X G λ_ _ _ _ _ _=>dM λ_ _=>rfl,
  d1.top X G λ_ _ _ _ _ _=>kc λ_ _ _ _=>rfl,
  e1.top X G λ_ _ _ _ _ _=>eV λ_ _ _=>rfl,
  f1.top X G λ_ _ _ _ _ _=>cK λ_=>rfl,
  O.g X G,
  O.cl X G,
  O.mk' X G,
  O.kp X G,
  g1.at' X G,
  h1.at' X G,
  i1.at' X G,
  j1.top X G λ_ _ _ _ _ _=>eV λ_ _ _=>rfl,
  Y.g X G,
  Y.cl X G,
  Y.mk' X G,
  Y.kp X G,
  k1.at' X G,
  (by rw[gn<|fu X G T0];exact Tt l1 m1 n1 o1 ⟨_,rfl⟩ (λs v X=>tN X rfl b rfl rfl rfl) (λs v z X=>(by first | exact .of_eq rfl | exact tN X rfl b rfl rfl rfl)) λs v z X=>(by first | exact .of_eq rfl | exact tN X rfl b rfl rfl rfl)),
  p1.top X G λ_ _ _ _ _ _=>dM λ_ _=>rfl,
  q1.top X G λ_ _ _ _ _ _=>dM λ_ _=>rfl,
  r1.top X G λ_ _ _ _ _ _=>cK λ_=>rfl,
  bl.top X G λ_ _ _ _ _ _=>cK λ_=>rfl,
  s1.top X G λ_ _ _ _ _ _=>eV λ_ _ _=>rfl,
  t1.top X G λ_ _ _ _ _ _=>eV λ_ _ _=>rfl,
  u1.top X G λ_ _ _ _ _ _=>eV λ_ _ _=>rfl,
  Z.g X G,
  Z.cl X G,
  Z.mk' X G,
  Z.kp X G,
  v1.at' X G,
  w1.top X G λ_ _ _ _ _ _=>dM λ_ _=>rfl,
  x1.top X G λ_ _ _ _ _ _=>cK λ_=>rfl,
  y1.top X G λ_ _ _ _ _ _=>cK λ_=>rfl,
  z1.top X G λ_ _ _ _ _ _=>eV λ_ _ _=>rfl,
  A1.top X G λ_ _ _ _ _ _=>eV λ_ _ _=>rfl,
  G1.top X G λ_ _ _ _ _ _=>eV λ_ _ _=>rfl,
  f.g X G,
  f.at' X G,
  H1.at' X G⟩
end Wy
open PySem PySem.W PyProof.Rows
namespace PySem.W.Fast
def tw1606900607516484395:=0
def tw16661187500918600273:=0
def tw17910332503902037382:=0
def tw17755202136301919067:=0
def tw12283358171288837143:=0
def tw15816817443221525999:=0
def tw4426079621187879366:=0
def tw15471966728989372393:=0
def tw109619822133978088:=0
def tw15978644058870825230:=0
def tw862920534557317019:=0
def tw242553754460496288:=0
def tw7257847950180654426:=0
def tw17555257870460864420:=0
def tw6815292297544342517:=0
def tw11376485164078707081:=0
def tw13924865444511611898:=0
def tw9131915495985239783:=0
def tw12490348136686315634:=0
def tw2057426947345246889:=0
def tw9605177156553138827:=0
def tw10550065303568054:=0
def tw4226704370417834804:=0
def tw14902950350949472740:=0
def tw9218786063116468592:=0
def tw15134030656629737282:=0
def tw9771096388827345634:=0
def tw15022599083691459369:=0
def tw13090950180822591537:=0
def tw2166552511925766843:=0
def tw12076799003636494314:=0
def tw10106081403802910200:=0
def tw9782718975935781155:=0
def tw3511689651217356194:=0
def tw17101558395870509092:=0
def tw4272145426090105754:=0
def tw9110782762512210484:=0
def tw11168638848409923255:=0
def tw8935238271377154058:=0
def tw2154090395229877133:=0
def tw5256731336201947453:=0
def tw8667168496247390393:=0
def tw6180094610615879192:=0
def tw10769926407437195072:=0
def tw3924685558427361337:=0
def tw3028147588889638727:=0
def tw6677738557566971296:=0
def tw1149481109041477859:=0
def tw17945284942828939459:=0
def tw16922623715916960267:=0
def tw2863477981155559413:=0
def tw14029892652349915157:=0
def tw153074022443777184:=0
def tw9267042351814769225:=0
def tw517780303025879489:=0
def tw10253700927363728817:=0
def tw7017696520923466332:=0
def tw1368918311229579760:=0
def tw1024694114874716535:=0
def tw11323488474929225389:=0
def tw16660564202294733805:=0
def tw12676046578412725815:=0
def tw12689702123935710007:=0
def tw7744811935131775027:=0
def tw3818093147652229171:=0
def tw16037496481332026405:=0
def tw5592849480427253909:=0
def tw2747899708179938892:=0
def tw12232032983121908063:=0
def tw5899862690441898501:=0
def tw2920972441771073380:=0
def tw6806070717613514344:=0
def tw1576872776856728810:=0
def tw13517380904817308571:=0
def tw1228507889203756193:=0
def tw9424982456783773392:=0
def tw6323404884330809578:=0
def tw3758335023056071326:=0
def tw2987992788183643635:=0
def tw6499681141390341882:=0
def tw2500728600548853467:=0
def tw8907189729667912450:=0
def tw16032323456836735043:=0
def tw11334520863267781458:=0
def tw12426693207196108942:=0
def tw16275931824061660963:=0
def tw9152368041196150819:=0
def tw6014814812211897913:=0
def tw8109982541795482623:=0
def tw7266302373200686115:=0
def tw5373413638837848739:=0
def tw7184239601628546453:=0
def tw12625754497906621370:=0
def tw13218561711295505432:=0
def tw3692033847692161386:=0
def tw131203260750085939:=0
def tw3520868574759959385:=0
def tw391724718954616494:=0
def tw11357408564910439694:=0
def tw5879870663261074146:=0
def tw1170601742209800482:=0
def tw14391268631913139227:=0
def tw9317742843528866480:=0
def tw8682176786644738686:=0
def tw12523809340290765321:=0
def tw16449789779843048315:=0
def tw7967361661919701891:=0
def tw15942157794726554679:=0
def tw4102385932143761093:=0
def tw18439075687035642889:=0
def tw13962838258484455005:=0
def tw8206027980529593982:=0
def tw13043407171145915498:=0
def tw3844128537010687683:=0
def tw2885584344545304869:=0
def tw4339786253829941871:=0
def tw14556801406819670435:=0
def tw266172147066735346:=0
def tw16048053867548661756:=0
def tw7871453658528083576:=0
def tw5076445403290981658:=0
def tw2537528593192846225:=0
def tw2850397103570959960:=0
def tw5484152485135841626:=0
def tw17618604984847631514:=0
def tw835974646470131102:=0
def tw17462504456859446481:=0
def tw1712983695641637980:=0
def tw10535808695984955835:=0
def tw991123134647158886:=0
def tw9970247126061470367:=0
def tw7124782070707454936:=0
def tw18022865921472871661:=0
def tw15051149037020945258:=0
def tw14824712322005634365:=0
def tw2678451507987500108:=0
def tw13798319920851599687:=0
def tw15002894157382795098:=0
def tw6667940493718873674:=0
def tw866232832900448783:=0
def tw1312044089690647334:=0
def tw14575155482573617231:=0
def tw14381867792907625032:=0
def tw12079817155360536162:=0
def tw7965666051244864463:=0
def tw12443506937050446387:=0
def tw13055231094881865369:=0
def tw2324316849957196232:=0
def tw612623770020181898:=0
def tw8218688688493921551:=0
def tw16473983513573740399:=0
def tw31151986278337206:=0
def tw16551503295780596212:=0
def tw5476648903052723569:=0
def tw14478902808163834104:=0
def tw9958274711262845705:=0
def tw10647808958993042671:=0
def tw3228935031046798109:=0
def tw1678724157038698605:=0
def tw3701899341505535828:=0
def tw17699986006975678181:=0
def tw204902185983690907:=0
def tw7597936183120227572:=0
def tw4722768744109588423:=0
def tw8954452394463465444:=0
def tw4108665732394947876:=0
def tw13878104898071825697:=0
def tw183060134204396567:=0
def tw15788836322860680787:=0
def tw14882937749903396532:=0
def tw6271558117345134239:=0
def tw2222267894104377540:=0
def tw18093890649138272747:=0
def tw3015231501467213147:=0
def tw1374504558632879987:=0
def tw14527675334068402059:=0
def tw17459707355281359349:=0
def tw15797415194971169545:=0
def tw16318996478945345017:=0
def tw10155200165499555556:=0
def tw10779245263071192120:=0
def tw13470824445589187006:=0
def tw5741348868597221140:=0
def tw10131517568267390747:=0
def tw13305887074295006550:=0
def tw9107285130271976170:=0
def tw6595964391173993323:=0
def tw15401297523744994873:=0
def tw9067106365308194341:=0
def tw14781031243291358972:=0
def tw15958336041805767853:=0
def tw14943978028099576095:=0
def tw10119539860832433069:=0
def tw5013562893080222514:=0
def tw6712443120745369814:=0
def tw16270762349203187170:=0
def tw1357076257511071804:=0
def tw14202759183541416000:=0
def tw6365976689765962368:=0
def tw3562354715382981341:=0
def tw15742835460206181770:=0
def tw15902861645034063479:=0
def tw18278139553129938027:=0
def tw12431445600895372709:=0
def tw3076629185045747838:=0
def tw15269855449073700957:=0
def tw17258863954608870289:=0
def tw16706494749180493976:=0
def tw8755743605209575511:=0
def tw17791545675387141773:=0
def tw3255905296338911572:=0
def tw3197339884561221465:=0
def tw155443145618967143:=0
def tw15011245705186481577:=0
def tw3061015496698811881:=0
def tw9190596924198129841:=0
def tw7259807719721777456:=0
def tw11965422186261568530:=0
def tw17332655883693530951:=0
def tw6696664197825354051:=0
def tw8529409682928744291:=0
end PySem.W.Fast
set_option maxRecDepth 100000 in
set_option maxHeartbeats 0 in
theorem PySem.Challenge.cw_whyrows_k76_ledger_of_lists_holds : PySem.Challenge.rw_whyrows_k76_ledger_of_lists.Holds := by
 w_on;o_law;k_head;(case hw=>w_witness2)
 k_fill
 refine L2.qse (l:=PySem.Challenge.rw_whyrows_k76_ledger_of_lists) (n:=63) (k:=14) (x:="_law_script") (CX:=L2.CX0) (sp:=Wy.sp_law) rfl (by decide) rfl ⟨zr,by decide,by decide⟩ (λw h Y=>PySem.W.kIn_of Y) ?F ?S ?C
 case F=>
  intro w mg fa h KX G hmg;have T:Wy.Txt (L2.KOf KX) mg:=by
   dsimp only[L2.KOf]
   refine' Wy.ql9 KX G ?_ ?_ ?_ ?_ ?_ ?_ ?_ ?_ ?_ ?_ ?_ ?_ ?_ ?_ ?_ ?_ ?_ ?_ ?_ ?_ ?_ ?_ ?_ ?_ ?_ ?_ ?_ ?_ ?_ ?_ ?_ ?_ ?_ ?_ ?_ ?_ ?_ ?_ ?_ ?_ ?_ ?_ ?_ ?_ ?_ ?_ ?_ ?_ ?_ ?_ ?_ ?_ ?_ ?_ ?_ ?_ ?_ ?_ ?_ ?_ ?_ ?_ ?_ ?_ ?_ ?_ ?_ ?_ ?_ ?_ ?_ ?_ ?_ ?_ ?_ ?_ ?_ ?_ ?_ ?_ ?_ ?_ ?_ ?_ ?_ ?_ ?_ ?_ ?_ ?_ ?_ ?_ ?_ ?_ ?_ ?_ ?_ ?_ ?_
   all_goals first | (refine' L2.fiK ?_ ?_ ?_ ?_;all_goals first | k_is | skip) | (refine' L2.miK ?_ ?_ ?_ ?_ ?_ ?_;all_goals first | k_is | skip) | (refine' L2.ciK ?_ ?_ ?_ ?_ ?_ ?_ ?_;all_goals first | k_is | skip) | (refine' L2.aiK ?_ ?_;all_goals first | k_is | skip) | (refine' L2.xiK ?_ ?_ ?_ ?_ ?_ ?_ ?_ ?_ ?_ ?_;all_goals first | k_is | k_exc | skip) | (refine' L2.piK ?_ ?_ ?_;all_goals first | k_is | skip) | k_is | skip
  exact Wy.qy5 T hmg
 case S=>exact λK H a ns hl hO hS=>⟨a,ns,rfl,hS,hl,λ_=>rfl⟩
 case C=>exact λ_ _ _ _ z=>z
