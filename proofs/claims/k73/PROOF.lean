import PyProof.Rows.All
import Wide.All
import OpenK.AllK
import Wide.FinOn
import Lean
import PyProof.EqAt
import PyProof.EqKinds
import PyProof.TupleCall
import PySem.Challenge.RW_skewbooks_k73_whole_things_put_otherwise
import PyProof.MeetsSeq
import PyProof.Rows.All
import PyProof.SumWalk
set_option Elab.async false
set_option linter.all false
set_option maxRecDepth 100000
open List renaming length_map->aL,getElem?_map->bL,getElem?_eq_getElem->gD,mem_of_getElem?->fG,length_append->dZ,size_toArray->fV,getElem?_eq_some_iff->jC,take_add_one->fZ,all_eq_true->fW,mem_cons_self->gU,mem_cons->dU,mem_cons_of_mem->iM,mem_map->cZ,length_take->gR,length_cons->iz,map_cons->fM,take_of_length_le->lF,mem_append->iC,mem_append_right->lV,nodup_iff_pairwise_ne->pU,mem_singleton->lg,map_append->jq,length_drop->jR,mem_map_of_mem->mW,flatMap_append->nJ,not_mem_nil->lC,take_length->lW,take_append_drop->qX,range->iQ,append_assoc->pQ,getElem_cons_drop->vX,mem_flatMap->sy,map_map->nA,all_cons->pP,mem_of_mem_take->xW,length_nil->rR,lookup_cons->uP,pairwise_map->yC,mem_range->uI,getElem?_zip_eq_some->Ei,eq_nil_of_length_eq_zero->HF,replicate->wC,length->rA,getElem?_append_right->HY,drop_of_length_le->Gg,length_reverse->DQ,flatMap_cons->Bq,getElem?_append_left->JL,nodup_cons->yW,all_map->uD,pairwise_cons->Cq,cons_append->Bu,mem_flatten->Bh,take_sublist->Ea,filterMap_cons->Fo,length_zip->Bj,flatten_append->Ej,getElem?_eq_none->Jr,take_zero->Bf,mem_append_left->Jq,append_nil->Cv,getElem?_take_of_lt->Nf,nodup_append->FQ,map_nil->yR,lookup->xU,map_congr_left->J5,pairwise_singleton->Lg,find?_cons->Gh,mem_iff_getElem?->Nh,reverse_cons->JW,length_range->Ib,flatten_cons->JD,mem_of_mem_drop->K5,drop_zero->Fz,any_cons->GQ,getElem?_cons_zero->Rn,getElem?_drop->NK,getElem?_set_self->VJ,forIn_nil->JV,length_replicate->Uq,length_singleton->Qx,take_eq_take_iff->X3,countP_cons->Ml,flatMap_def->Kq,getElem?_set_ne->Rk,pairwise_append->VR,length_take_le'->Vd,of_mem_zip->K6,forIn_cons->Kr,getElem?_range->Wh,sublist_flatten_of_mem->abj,perm_ext_iff_of_nodup->aeK,mem_filterMap->Qz,drop_take->Mx,getElem?_replicate->acy,getElem?_cons_succ->ad9,getElem_inj->T3,any_eq_true->XM,getElem_mem->WT,range_succ_eq_map->aaO,find?_cons_of_neg->abE,getD->Gq,nil_append->Vy,eq_nil_or_concat->aez,concat_eq_append->aah,mem_iff_getElem->aaG,getElem_toArray->aeH,mem_of_getLast?->acS,replicate_succ->aaU,map_id->M6,filterMap_map->abp,zip_cons_cons->ZP,find?_eq_none->aav,getElem_take->aaN,find?_append->aby,any_map->Qp,all_nil->Us
open PySem renaming wpAny_bind->aG,Value->aB,Shared->aK,wpAny_pure->aR,sizeLine->aO,Addr->au,sizeLine_eq->cQ,wpAny->aJ,FuncData->jU,boot_len->gO,Program->gk,model->aN,wpAny_holding->jO,wpAny_newObj_type->oK,compareOp->gJ,Around->iI,World->fK,foldedSetIterable->qz,starEach->gA,wpAny_mono->jx,wpAny_truthy_bool->qT,mem_of_lookup->tM,wpAny_field->kj,wpAny_call_entry->tH,wpAny_callSpecial?_slot->Bb,Paired->eX,Heap->aY,codeAny_builtin->wW,mainGlobals->qU,wpAny_standAt->vo,wpAny_loadPart'->yw,codeAny->jB,binaryOp->lQ,wpAny_pyIter_list->Av,wpAny_typeNameOfWhole_keyiter->O7,codeAny_mono->wM,wpAny_setField->yD,Stmt->cA,Builtin->lD,wpAny_seqItems->Bm,wpAny_typeNameOf_keyiter->Ke,plainId_quiet->Aq,wpAny_isInstance->Es,wpAny_Call_Name_kw->Jg,builtinLookup_eq_fast->O2,wpAny_attempt->Cj,wpAny_rule->zu,wpAny_typeOf->CP,wpAny_comprehension_free->Qh,wpAny_specialOf->Io,wpAny_execs_nil->Jc,wpAny_pyNext_tuple_item->QJ,wpAny_passesOwn->JR,intBits_le_64->Gb,NameKind->vA,wpAny_updateSeq->Iw,richCompare_meets_room->Vc,wpAny_nextOf_list_item->XD,wpAny_noted->Dr,IsPair->pL,codeAny_call_builtin->Xi,swapsWith->BL,DictEntry->Pn,typeLookup_type->Mt,wpAny_newFunctionEnv_cells->Yz,wpAny_pyIter_striter_ascii->YW,wpAny_pyIter_tuple->Te,tupleKind_room_in1->Ra,ZipApart->yU,wpAny_pyIter_striter_wide->adD,wpAny_assign_Name->VF,wpAny_call->GF,wpAny_sequenceKey->WQ,PyData->rZ,wpAny_dictEntries->Wv,wpAny_Call_method0_late->aaW,wpAny_pyNext_ascii_item->aak,wpAny_newList->Oj,wpAny_execs_cons->Vj,Result->xQ,noFill_tuple_add->Rh,wpAny_pyIter_zip->Ui,entryFor_of_tree->Qj,wpAny_pyNext_list_item->Z8,wpAny_pyNext_tuple_end->aag,wpAny_pyIter_tupleiter->adt,wpAny_pyNext_range_end->acB,wpAny_pyIter_rangeiter->abF,codeAny_compStart_list->abg,wpAny_pyNext_wide_item->abQ,wpAny_isTrue_Compare1->abb,wpAny_pyIter_listiter->acN,codeAny_call_function->ZQ,exec_Assign_Name_used->ZJ,codeAny_of_tree->Vu,wpAny_pyNext_zip_item->abC,wpAny_notOrdered_dict->acM,wpAny_dictEpoch->WW,wpAny_isOneOf_keyiter->Zb,wpAny_nextOf_list_end->ac3,wpAny_pyNext_zip_end->aaw,IsPart->wU,isSubtype_stop->Uz,wpAny_tryCatch->Qq,intBits_add_le->QC,IsRangeIter->OD,evalArgs_none->Zu,wpAny_of_eq->KN,wpAny_pyIter_range->aaz,seq_tuple_add->Yb,evalPart_none->Wt,eval_ListComp->Qv,wpAny_pyIter_ascii->abZ,wpAny_Assign_Name->Zw,BindsTo->Df,typeIs_int->MN,call_meets->Mj,wpAny_pyIter_wide->adh,wpAny_pyIter_enum->aaK,Within->SQ,name_of_addr->V6,concat_meets->TQ,seqIndex_neg->Xe,codeAny_loop->Tw,GenState->Nv,seqIndex_of->Uj,wpAny_throw->SX,wpAny_letGo->RV,Model->Dj,CmpOp->FW,wpAny_Name->Ua,typeIs_str->Wk,Heap->abR
open PySem.W renaming Frag->bV,kitOne->ju,findIn->mC,keepIn->nu,emptyDict->tD,instObj->uY,kia_one->v9,fnOf->uN,plainGet->Jy,hideAll_get->Ot,cellsFrom_some->Rz,hasDictIn->Kc,excIn->JT,plainGet_of->Yc,kdu_collect->Q5,callWith_K->XJ,lookIn->Kw,codeIn->Ly,exmOne->Km,methodObj->Ux,plainOver->Ro,mroIn->M4,subIn->LQ,hideAll->PN,isFn->Pz,takerIn->RT,makesIn->Tn,OpenLaw->ald,of_hideAll->aa6,codeRec_of->ad6,kitx_list->aaY,kitx_dict->acX,looks_findIn->Q0,kas_sort->Hj,WData->Z0,Looks->Cz
open Bool renaming and_eq_true_iff->cB,false_ne_true->iW,true_and->fJ,eq_iff_iff->lY,and_eq_true->pF,false_eq_true->uH,false_and->rY,and_false->yP,and_true->DR,eq_false_iff->Xf,or_false->Ol,beq_eq_decide_eq->aei,not_eq_true'->aeh
open PySem.Heap renaming get?_push_of_some->cR,lt_size->bQ,get?_push_size->gq,get?_update_other->qQ,get?_update_self->xY,size_push->qY,SameBut->vH,ExtBut->Dv,SameBut->Va,FlyingW->JG,get?_push_ne->R7
open PyProof.Rows renaming boot_isinstance->gG,boot_tuple->jA,boot_all->mV,callWith_type1->Bp,slot_tuple_getitem->Fp,boot_sorted->DP,sortedS->CN,boot_max->JC,boot_str->PJ,boot_set->PB,boot_bool->R0,boot_min->WD,StrsAre->wF,subscriptTail_builtinR->Z1,len_upper->Zz,AllBare->zp,entry_list_sort->QS,boot_int->Z6,boot_any->aaF,IsTup->pO,risingS->adG,slot_list_sort->Xj,args_list_sort->RW,sortedHeap_old->Xk,entry_tuple_getitem->aes,IntsAre->Bx,Constant_none->Xx,args_tuple_getitem->abm,sortedHeap_at->Vt,listUpdate_at->Wq,Subscript_->Oh,plain_sorted->Sw,entry_sorted->WR,args_sorted1->R3,kind_sorted->RG,seqEpoch_at->Qd,boot_range->Sg,Call_->Ci
open Nat renaming le_refl->bG,zero_le->dR,ne_of_lt->fB,lt_of_lt_of_le->jL,le_of_ble_eq_true->oN,le_trans->jF,lt_irrefl->qF,ne_of_gt->qp,min_eq_left->vI,le_add_right->yx,le_of_lt->sG,lt_succ_of_lt->yL,add_le_add_right->GZ,lt_succ_self->Dk,le_succ_of_le->Ju,mul_le_mul_right->Ny,le_succ->Dn,lt_or_ge->En,le_of_succ_le->Wb,succ_le_succ->Wj,length_repr_le_iff->adK,le_of_eq->LC,sub_zero->KR,add_comm->LR,lt_of_le_of_lt->Z7,succ_pos->Xl
open PySem.Value renaming ref->cL,none->dM,bool->nC,type->vN,str->vf,builtin->CJ,notImplemented->QD,int->Ef,float->Tp
open Sum renaming inr->bR,inl->pJ
open Ne renaming symm->bW
open Prod renaming fst->dw,snd->yh
open Option.some renaming inj->j6
open PySem.PassesOwn renaming never->lA
open PySem.Builtin.Range renaming rangeSize->uO,rangeFitsLong->adl,small->ac1
open PySem.NameKind renaming free->lU,cell->wD
open Option renaming map_eq_some_iff->wA,getD_some->zf,isSome_iff_exists->Kg,map_some->Kh,isSome_some->ado,isSome_map->Zr
open Array renaming length_toList->tO,getElem?_eq_some_iff->Ks,getElem?_eq_none->Lk,getElem?_eq_getElem->Uc,getElem?_setIfInBounds_ne->aej,getElem?_toList->TF,toArray_toList->ab4,forIn_toList->ZV
open PySem.Builtin.Tuple renaming tupleExact->Bk,tupleItemsOf->Xg
open PySem.Obj renaming mapSeq->lM,data_mapFields->Bg,mapFields->vO,isFreed_of_fields->M9,cls_mapFields->SM
open Int renaming eq_ofNat_of_zero_le->Br,toNat_natCast->Am,fmod_eq_emod_of_nonneg->aev,fdiv_eq_ediv_of_nonneg->aeM,zero_add->Hl,le_refl->Vl
open PySem.Builtin.Slice renaming slicePlaces->DY,sliceApplied->Lx,sliceAdjust->WK,sliceFields->aep
open PySem.Around renaming under_plainId->zy,frames_deeper->abf,under->Yg
open False renaming elim->ou
open List.Pairwise renaming nil->yc,imp_of_mem->adf
open PySem.F renaming plainAttrs_list->CV,slot_dict_keyiterator_next->Ou,slot_list_append->Hu,type_list_append->J7,args_dict_keyiterator_next_1->abI,entry_dict_keyiterator_next->aat,plain_extend_loop->Py,args_tuple_add_2->Xr,entry_tuple_add->SJ,slot_tuple_add->Xc,plain_sum_loop->Ow,slot_zip_next->Nq,slot_NoneType_hash->YG,slot_dict_update->ZD,plainAttrs_dict->aee,slot_dict_items->aaZ,slot_dict_iter->aax,entry_extend_loop->Y5,args_zip_next_1->YB
open PySem.Txt renaming slice->lX,slice->BX,slice_le->Vx,upper->Mz
open PySem.Builtin.SmallTypes renaming ownedTupleIsFree->Pb,nextOf->Lj,stopIteration->ach
open PySem.PyData renaming canLayAll0->yS,depthAll->BW,canLay0->Dd,eqv->yt,eqvAll->Ck,depth->CK
open Sum.inr renaming inj->rD
open PySem.SeqAt renaming shaped->tZ
open PySem.Heap.SameBut renaming update->Di,refl->Tg
open PySem.Builtin.Int renaming intBits->Cu
open PyProof.Rows.F renaming plain_set_update_loop->XS,entry_set_update_loop->abd
open True renaming intro->rN
open PySem.Builtin.List renaming listExtendWith->Od,listTooLong->P0,listSameRef->YM,listItems->aai
open PySem.Str renaming ofString->xO,length_append->Gp,length->Aj
open PySem.Calls renaming call_function_entry->SN,callWith_builtin->Wr,Name_function_global->ZX,evalArgs_plain->aem,spliced_cons->ZC,spliced_nil->Y8
open PySem.AutoSeq1 renaming sub_tuple_tuple->RQ
open PyProof.Rows.LSm renaming kept_iter->Gn
open PySem.Data renaming fields->Ec,cell->Eh,seq->O8
open PySem.W.WData renaming weight->Wu,weightAll->ac5,int->aeJ
open PySem.Builtin.Dict_items renaming ownsTuple->aa2
open PySem.Builtin.Str renaming strSliceIndices->Yq,occurrences->ad8
open Classical renaming em->Hy,byContradiction->ad2
open PySem.Code renaming compLoop->Ni,quiet_builtin->adi,isFrame->QZ
open PySem.Builtin.Dict renaming updateFrom->adz,pairItems->aam,showsAll->aaD
open PyProof renaming noPylong_small->aa9
open PySem.EntryCells renaming newEntry->acQ
open PySem.Paired renaming length->Wy
open PySem.Heap.IsSliceOf renaming new->abY
open PySem.W.Looks renaming of_pure->Xn
open PySem.Walks renaming list->Mf
open Sum.inl renaming inj->Xz
theorem cg{p:Prop}[Decidable p](h:p):decide p=true:=decide_eq_true h
theorem fP{p:Prop}[Decidable p](h:¬ p):decide p=false:=decide_eq_false h
theorem dB{p:Prop}[Decidable p](h:decide p=true):p:=of_decide_eq_true h
variable{c:Prop}{bM:Sort u}
theorem aZ{h:Decidable c}(n:¬ c){t e:bM}:ite c t e=e:=if_neg n
theorem bI{h:Decidable c}(n:c){t e:bM}:ite c t e=t:=if_pos n
theorem jr{jY:Sort v}{a b:bM}(f:bM->jY)(h:a=b):f a=f b:=congrArg f h
noncomputable def bO{a:Prop}{b:Sort v}(h:a)(n:¬ a):b:=absurd h n
theorem Eq.aA{a b c:bM}(h:a=b)(g:b=c):a=c:=Eq.trans h g
theorem Iff.aA{a b:Prop}(h:a↔b)(g:b↔c):a↔c:=Iff.trans h g
variable{bM:Type u}
theorem List.Sublist.aA{a b c:List bM}(h:a.Sublist b)(g:b.Sublist c):a.Sublist c:=List.Sublist.trans h g
theorem List.Perm.aA{a b c:List bM}(h:a.Perm b)(g:b.Perm c):a.Perm c:=List.Perm.trans h g
theorem PySem.Heap.UpToSlots.aA{a b c:abR}(x:a.UpToSlots b)(y:b.UpToSlots c):a.UpToSlots c:=PySem.Heap.UpToSlots.trans x y
theorem PySem.Heap.SameBut.aA{a:PySem.Addr}{h h1 h2:abR}(x:Va a h h1)(y:Va a h1 h2):Va a h h2:=PySem.Heap.SameBut.trans x y
namespace L2
open PySem PySem.Spec PyProof.Rows
inductive rz{a b:Type}(p:a->b->Prop):Prop|mk x y(h:p x y)
inductive sY{a b c:Type}(p:a->b->c->Prop):Prop|mk x y z(h:p x y z)
inductive qN{a b c d:Type}(p:a->b->c->d->Prop):Prop|mk x y z u(h:p x y z u)
inductive vZ{a b c d e:Type}(p:a->b->c->d->e->Prop):Prop|mk x y z u v(h:p x y z u v)
inductive QX6{a b c d e f:Type}(p:a->b->c->d->e->f->Prop):Prop|mk x y z u v w(h:p x y z u v w)
inductive QX7{a b c d e f g:Type}(p:a->b->c->d->e->f->g->Prop):Prop|mk x y z u v w r(h:p x y z u v w r)
inductive QX8{a b c d e f g i:Type}(p:a->b->c->d->e->f->g->i->Prop):Prop|mk x y z u v w r s(h:p x y z u v w r s)
inductive YD{a b c d e f g i j k:Type}(p:a->b->c->d->e->f->g->i->j->k->Prop):Prop|mk x y z u v w r s t x1(h:p x y z u v w r s t x1)
inductive VP{a b c d e f g i j k l:Type}(p:a->b->c->d->e->f->g->i->j->k->l->Prop):Prop|mk x y z u v w r s t x1 x2(h:p x y z u v w r s t x1 x2)
inductive rG(a b c d:Prop):Prop|mk(_:a)(_:b)(_:c)(_:d)
inductive jJ(a b c d e:Prop):Prop|mk(_:a)(_:b)(_:c)(_:d)(_:e)
inductive vK(a b c d e f:Prop):Prop|mk(_:a)(_:b)(_:c)(_:d)(_:e)(_:f)
inductive QA7(a b c d e f g:Prop):Prop|mk(_:a)(_:b)(_:c)(_:d)(_:e)(_:f)(_:g)
inductive QA8(a b c d e f g i:Prop):Prop|mk(_:a)(_:b)(_:c)(_:d)(_:e)(_:f)(_:g)(_:i)
inductive QA9(a b c d e f g i j:Prop):Prop|mk(_:a)(_:b)(_:c)(_:d)(_:e)(_:f)(_:g)(_:i)(_:j)
inductive adu(a b c d e f g i j k l m:Prop):Prop|mk(_:a)(_:b)(_:c)(_:d)(_:e)(_:f)(_:g)(_:i)(_:j)(_:k)(_:l)(_:m)
noncomputable abbrev Key:=Sum (Option Int) Str
noncomputable def xT:Key->aB->Bool
 | .inl none,v=>match v with | .none=>true | _=>false
 | .inl (some k),v=>Value.isInt k v
 | .inr x,v=>Value.isStrOf x v
noncomputable def ahk(w:fK):Key->Int
 | .inl none=>0xFCA86420
 | .inl (some k)=>hashInt k
 | .inr x=>hashStr w x
theorem sI:∀{k:Key}{v:aB},xT k v=true->(∃ i t,k=pJ (some i)/\v=Ef i t)\/(∃ x t,k=bR x/\v=vf x t)\/(k=pJ none/\v=dM)
 | .inl (some i),v,h=>by obtain ⟨t,e⟩:=Value.isInt_shape (k:=i) (v:=v) h;exact .inl ⟨i,t,rfl,e⟩
 | .inl none,v,h=>by cases v with| none=>exact .inr (.inr ⟨rfl,rfl⟩)| _=>cases h
 | .inr x,v,h=>by obtain ⟨t,e⟩:=Value.isStrOf_shape (x:=x) (v:=v) h;exact .inr (.inl ⟨x,t,rfl,e⟩)
theorem ale(i:Int)(t:Tok):xT (.inl (some i)) (.int i t)=true:=by simp [xT,Value.isInt]
theorem aoN(x:Str)(t:Tok):xT (.inr x) (.str x t)=true:=by simp [xT,Value.isStrOf]
theorem akW:xT (.inl none) .none=true:=rfl
theorem apv(a b:Int):decide ((pJ (some a):Key)=pJ (some b))=(a == b):=by by_cases e:a=b;subst e; simp;have h:¬ (pJ (some a):Key)=pJ (some b):=λq=>e (j6 (Xz q));rw [fP h];exact (beq_eq_false_iff_ne.mpr e).symm
theorem agK(a b:Str):decide ((bR a:Key)=bR b)=decide (a=b):=by by_cases e:a=b;subst e; simp;have h:¬ (bR a:Key)=bR b:=λq=>e (rD q);rw [fP h,fP e]
theorem Z4(a:Option Int)(b:Str):decide ((pJ a:Key)=bR b)=false:=fP (λq=>nomatch q)
theorem acW(a:Str)(b:Option Int):decide ((bR a:Key)=pJ b)=false:=fP (λq=>nomatch q)
theorem afU(a:Int):decide ((pJ (some a):Key)=pJ none)=false:=fP (λq=>nomatch (Xz q))
theorem aoy(a:Int):decide ((pJ none:Key)=pJ (some a))=false:=fP (λq=>nomatch (Xz q))
theorem aif:decide ((pJ none:Key)=pJ none)=true:=cg rfl
variable{prog:gk}{w:fK}{A:iI}{E:aB->aK->Prop}{s:aK}
theorem ahy{Q:Int->aK->Prop}(h:Q 0xFCA86420 { s with toks:=s.toks+1 }):aJ (aN prog w) A (pyHash .none) Q E s:=by have hT:s.TypeIs .none "NoneType":=rfl;unfold pyHash;have hv:[dM].any Value.onHeap=false:=rfl;refine aG ?_;rw [cRoomFor,aZ (by rw [hv]; exact iW)]; refine aR ?_;refine aG (Io hT PySem.F.slot_NoneType_hash.lookup ?_);show aJ _ _ (if (some (CJ "NoneType.__hash__") == some dM)=true then _ else _) Q E s;rw [aZ (by decide)];refine aG (Io hT PySem.F.slot_NoneType_hash.lookup ?_);show aJ _ _ (callSpecialIfBoundUnlessNone? .none "__hash__" _ >>= _) Q E s;refine aG (wpAny_callSpecialIfBoundUnlessNone?_slot hT YG (tH YG hT PySem.F.entry_NoneType_hash (show aJ _ _ (do ret (<- mkInt 0xFCA86420)) _ _ s from wpAny_ret_mkInt ?_) (PySem.F.args_NoneType_hash_1 _)));show aJ _ _ (if (decide (-(2:Int) ^ 63<=0xFCA86420) && decide ((0xFCA86420:Int)<2 ^ 63))=true then _ else _) Q E _;rw [bI (by decide)];exact aR h
theorem afJ{Q:Bool->aK->Prop}(h:Q true s):aJ (aN prog w) A (eqBool .none .none) Q E s:=by have hb:(dM == dM)=true:=(by decide);unfold eqBool;rw [bI hb];exact aG (zu (aR h))
noncomputable def gZ(prog:gk)(w:fK):PySem.KeyKind prog w Key where
 is:=xT
 hash:=ahk w
 inj:=λv a b ha hb=>by
   rcases sI ha with ⟨i,t,rfl,rfl⟩ | ⟨x,t,rfl,rfl⟩ | ⟨rfl,rfl⟩
   . rcases sI hb with ⟨j,u,rfl,e⟩ | ⟨y,u,rfl,e⟩ | ⟨rfl,e⟩
     . injection e with e1 _; rw [e1]
     . exact nomatch e
     . exact nomatch e
   . rcases sI hb with ⟨j,u,rfl,e⟩ | ⟨y,u,rfl,e⟩ | ⟨rfl,e⟩
     . exact nomatch e
     . injection e with e1 _; rw [e1]
     . exact nomatch e
   . rcases sI hb with ⟨j,u,rfl,e⟩ | ⟨y,u,rfl,e⟩ | ⟨rfl,e⟩
     . exact nomatch e
     . exact nomatch e
     . rfl
 byValue:=λk v h=>by
   rcases sI h with ⟨i,t,rfl,rfl⟩ | ⟨x,t,rfl,rfl⟩ | ⟨rfl,rfl⟩ <;> rfl
 pyHash:=λhv h=>by
   rcases sI hv with ⟨i,t,rfl,rfl⟩ | ⟨x,t,rfl,rfl⟩ | ⟨rfl,rfl⟩
   . exact wpAny_pyHash_int h
   . exact wpAny_pyHash_str h
   . exact ahy h
 eqBool:=λhu hv h=>by
   rcases sI hu with ⟨i,t,rfl,rfl⟩ | ⟨x,t,rfl,rfl⟩ | ⟨rfl,rfl⟩
   . rcases sI hv with ⟨j,u,rfl,rfl⟩ | ⟨y,u,rfl,rfl⟩ | ⟨rfl,rfl⟩
     . rw [apv] at h; exact wpAny_eqBool_int h
     . rw [Z4] at h; exact SeqAt.EqAt.int_str i t y u _ _ _ _ h
     . rw [afU] at h; exact SeqAt.EqAt.int_none i t _ _ _ _ h
   . rcases sI hv with ⟨j,u,rfl,rfl⟩ | ⟨y,u,rfl,rfl⟩ | ⟨rfl,rfl⟩
     . rw [acW] at h; exact SeqAt.EqAt.str_int x t j u _ _ _ _ h
     . rw [agK] at h; exact wpAny_eqBool_str h
     . rw [acW] at h; exact SeqAt.EqAt.str_none x t _ _ _ _ h
   . rcases sI hv with ⟨j,u,rfl,rfl⟩ | ⟨y,u,rfl,rfl⟩ | ⟨rfl,rfl⟩
     . rw [aoy] at h; exact SeqAt.EqAt.none_int j u _ _ _ _ h
     . rw [Z4] at h; exact SeqAt.EqAt.none_str y u _ _ _ _ h
     . rw [aif] at h; exact afJ h
 «strs»:=λk x t v h=>by
   rcases sI h with ⟨i,u,rfl,e⟩ | ⟨y,u,rfl,e⟩ | ⟨rfl,e⟩
   . exact nomatch e
   . injection e with e1 _
     subst e1;cases v <;> rfl
   . exact nomatch e
theorem agA(prog:gk)(w:fK)(i:Int)(t:Tok):(gZ prog w).is (.inl (some i)) (.int i t)=true:=ale i t
theorem Hw(prog:gk)(w:fK)(x:Str)(t:Tok):(gZ prog w).is (.inr x) (.str x t)=true:=aoN x t
theorem aiD(prog:gk)(w:fK):(gZ prog w).is (.inl none) .none=true:=akW
inductive V where
 | non | bl (b:Bool) | int (i:Int) | str (x:Str) | tE (b:Array UInt8) | flt (b:UInt64) | ref (a:au) | ty (n:String)
 deriving DecidableEq
noncomputable def cO:V->aB->Prop
 | .non,u=>u=dM
 | .bl b,u=>u=nC b
 | .int i,u=>∃ t,u=Ef i t
 | .str x,u=>∃ t,u=vf x t
 | .tE b,u=>∃ t,u=Value.bytes b t
 | .flt b,u=>∃ t,u=Tp b t
 | .ref a,u=>u=cL a
 | .ty n,u=>u=vN n
noncomputable abbrev cD:List V->List aB->Prop:=eX cO
variable{xs:List V}{us:List aB}
theorem cD.length(r:cD xs us):xs.length=us.length:=Wy r
theorem cD.get:∀{xs:List V}{us:List aB}{i:Nat}{x:V},cD xs us->xs[i]?=some x->∃ u,us[i]?=some u/\cO x u
 | _,_,_,_,.nil,e=>by simp at e
 | _,_,0,_,.cons r _,e=>by simp at e; subst e; exact ⟨_,rfl,r⟩
 | _,_,i+1,x,.cons _ t,e=>by obtain ⟨u,h1,h2⟩:=cD.get (i:=i) (x:=x) t (by simpa using e);exact ⟨u,by simpa using h1,h2⟩
theorem cD.set{x:V}{u:aB}(r:cO x u):∀{xs:List V}{us:List aB}(i:Nat),cD xs us->cD (xs.set i x) (us.set i u)
 | _,_,_,.nil=>.nil
 | _,_,0,.cons _ t=>.cons r t
 | _,_,i+1,.cons q t=>.cons q (cD.set r i t)
theorem cD.append:∀{xs ys:List V}{us ws:List aB},cD xs us->cD ys ws->cD (xs++ys) (us++ws)
 | _,_,_,_,.nil,s=>s
 | _,_,_,_,.cons r t,s=>.cons r (cD.append t s)
theorem cD.take:∀{xs:List V}{us:List aB}(n:Nat),cD xs us->cD (xs.take n) (us.take n)
 | _,_,0,_=>.nil
 | _,_,_+1,.nil=>.nil
 | _,_,n+1,.cons r t=>.cons r (cD.take n t)
theorem cD.drop:∀{xs:List V}{us:List aB}(n:Nat),cD xs us->cD (xs.drop n) (us.drop n)
 | _,_,0,r=>r
 | _,_,_+1,.nil=>.nil
 | _,_,n+1,.cons _ t=>cD.drop n t
noncomputable def qw:Option V->Option aB->Prop
 | some v,some u=>cO v u
 | none,none=>True
 | _,_=>False
noncomputable def KV{κ:Type}:List (κ × V)->List (κ × aB)->Prop:=eX λ(p:κ × V)(q:κ × aB)=>p.1=q.1/\cO p.2 q.2
noncomputable def kV:Key->V
 | .inl none=>.non
 | .inl (some i)=>.int i
 | .inr x=>.str x
inductive HO where
 /-- a list -/
 | lst (xs:List V)
 /-- a tuple (never changes) -/
 | tup (xs:List V)
 /-- a dict whose keys are ints and texts; one whose keys are tuples of ints and texts (the empty one is both) -/
 | dK (kvs:List (Key × V)) | dT (kvs:List (List Key × V))
 /-- a set of ints: its members,its size -/
 | set (S:Int->Bool) (n:Nat)
 /-- an instance of the class at C,its dict at dx,its attributes -/
 | ins (C dx:au) (fs:List (Str × V))
 /-- the dict of the instance at x -/
 | own (x:au)
 /-- the dict of an exception -/
 | xd (fs:List (Str × V))
 /-- a bound method,f of x -/
 | met (f x:au)
 /-- a range object lo,lo+1,.. below hi -/
 | rng (lo hi:Int)
 /-- a thing that is known to the object (the script; a dict while a loop walks it): read,never written while it is so -/
 | jh (o:Obj) (u:HO)
 /-- a code object's table -/
 | tbl (ps:Array aB)
 /-- any other thing,by what is true of its one object (a def of one's own: apW a S n:=HO.ext λh=>..) -/
 | ext (Dz:aY->Prop)
noncomputable abbrev Hp:=au->Option HO
noncomputable def upd(H:Hp)(a:au)(o:HO):Hp:=λb=>if b=a then some o else H b
variable{H:Hp}{a:au}{o:HO}
theorem aX:upd H a o a=some o:=by unfold upd; rw [bI rfl]
variable{b:au}
theorem aW(h:b≠a):upd H a o b=H b:=by unfold upd; rw [aZ h]
variable{u:HO}
theorem akN(h:H a=some o)(h':H b=some u)(d:o≠u):a≠b:=by intro e; subst e; rw [h] at h'; exact d (j6 h')
theorem dN(h:H a=some o)(h':H b=none):a≠b:=by intro e; subst e; rw [h] at h'; cases h'
noncomputable def uQ(h:aY)(a:au)(items:Array aB):Prop:=∃ o,h.get? a=some o/\o.cls=.type "tuple"/\(∃ n,o.data=.seq items n)/\o.dict=none
variable{items:Array aB}
theorem uQ.to{h:aY}(x:uQ h a items):pO h a items:=let ⟨o,e,c,d,_⟩:=x; ⟨o,e,c,d⟩
theorem uQ.new(h:aY)(items:Array aB):uQ (h.push { cls:=.type "tuple",data:=.seq items }) h.objs.size items:=⟨_,gq _ rfl,rfl,⟨_,rfl⟩,rfl⟩
section
variable(P:gk)(w:fK)
noncomputable def gF(H:Hp)(h:aY)(a:au):HO->Prop
 | .lst xs=>xs.length<=aO/\∃(its:List aB)(n:Nat),cD xs its/\h.get? a=some { cls:=.type "list",data:=.seq its.toArray n }
 | .tup xs=>xs.length<=aO/\∃ its:List aB,cD xs its/\uQ h a its.toArray
 | .dK kvs=>kvs.length<=aO/\(a == sysModules)=false/\∃ vs,KV kvs vs/\h.DictOf (gZ P w) a vs
 | .dT kvs=>kvs.length<=aO/\(a == sysModules)=false/\∃ xs:List (List Key × au × aB),
     eX (λ(p:List Key × V)(q:List Key × au × aB)=>p.1=q.1/\H q.2.1=some (.tup (p.1.map kV))/\cO p.2 q.2.2) kvs xs /\
     ∃ o es ep,h.get? a=some o/\o.ExactDict/\o.data=.dict es ep/\es.toList=xs.map (entryOfKey (tupleKind (gZ P w)))/\(xs.map (·.1)).Nodup
 | .set S n=>h.SetOf (intKind P w) a S n
 | .ins C dx fs=>H dx=some (.own a)/\fs.length<=1000/\dx≠a/\h.get? a=some (uY C dx) /\
     ∃ mA,h.Ns1 dx mA/\(∀ f,qw (fs.lookup f) (mA f))/\SQ mA (fs.map (·.1))
 | .own _=>∃ o,h.get? a=some o
 | .xd fs=>∃ mA,h.Ns1 a mA/\∀ f,qw (fs.lookup f) (mA f)
 | .rng lo hi=>∃ t u v,h.get? a=some { cls:=.type "range",data:=.fields #[.int lo t,.int hi u,.int 1 v] }
 | .jh o u=>h.get? a=some o/\gF H h a u
 | .tbl ps=>h.get? a=some { cls:=.none,data:=.fields ps }
 | .met f x=>h.get? a=some (Ux (.ref f) (.ref x))
 | .ext Dz=>Dz h/\(∃ o,h.get? a=some o)/\∀ h1 h2:aY,Dz h1->(∀ o,h1.get? a=some o->h2.get? a=some o)->Dz h2
noncomputable def iD(H:Hp)(h:aY):Prop:=∀ a o,H a=some o->gF P w H h a o
end
variable{P:gk}
theorem gF.lt{h:aY}(x:gF P w H h a o):a<h.objs.size:=by cases o with| lst xs=>obtain ⟨_,_,_,_,e⟩:=x; exact bQ e| tup xs=>obtain ⟨_,_,_,_,e,_⟩:=x; exact bQ e| dK kvs=>obtain ⟨_,_,_,_,o,_,_,e,_⟩:=x; exact bQ e| dT kvs=>obtain ⟨_,_,_,_,o,_,_,e,_⟩:=x; exact bQ e| set S n=>obtain ⟨o,_,_,_,e,_⟩:=x; exact bQ e| ins C dx fs=>obtain ⟨_,_,_,e,_⟩:=x; exact bQ e| own y=>obtain ⟨_,e⟩:=x; exact bQ e| xd fs=>obtain ⟨_,⟨_,_,_,e,_⟩,_⟩:=x; exact bQ e| rng lo hi=>obtain ⟨_,_,_,e⟩:=x; exact bQ e| jh ob u=>obtain ⟨e,_⟩:=x; exact bQ e| tbl ps=>exact bQ (show h.get? a=some _ from x)| met f y=>exact bQ (show h.get? a=some _ from x)| ext Dz=>obtain ⟨_,⟨_,e⟩,_⟩:=x; exact bQ e
variable{bM:Type}
theorem Paired.VB{jY:Type}{F G:bM->jY->Prop}:∀{l₁:List bM}{l₂:List jY},eX F l₁ l₂->(∀ a b,F a b->G a b)->eX G l₁ l₂
 | _,_,.nil,_=>.nil
 | _,_,.cons r t,f=>.cons (f _ _ r) (Paired.VB t f)
variable{H':Hp}{h':aY}
theorem gF.stay{h:aY}(x:gF P w H h a o)(k:∀ b u,(b=a\/H b=some (.own a))->h.get? b=some u->h'.get? b=some u)(ho:∀ b,H b=some (.own a)->H' b=some (.own a))(ht:∀ b xs,H b=some (.tup xs)->H' b=some (.tup xs)):gF P w H' h' a o:=by induction o with| lst xs=>obtain ⟨z,its,n,r,e⟩:=x; exact ⟨z,its,n,r,k _ _ (.inl rfl) e⟩| tup xs=>obtain ⟨z,its,r,ob,e,c⟩:=x; exact ⟨z,its,r,ob,k _ _ (.inl rfl) e,c⟩| dK kvs=>obtain ⟨z,y,vs,r,ob,es,ep,e,c⟩:=x; exact ⟨z,y,vs,r,ob,es,ep,k _ _ (.inl rfl) e,c⟩| dT kvs =>obtain ⟨z,y,xs,r,ob,es,ep,e,c⟩:=x;exact ⟨z,y,xs,Paired.VB r λp q z=>⟨z.1,ht _ _ z.2.1,z.2.2⟩,ob,es,ep,k _ _ (.inl rfl) e,c⟩| set S n=>obtain ⟨ob,es,ep,t,e,c⟩:=x; exact ⟨ob,es,ep,t,k _ _ (.inl rfl) e,c⟩| ins C dx fs =>obtain ⟨d,z,ne,e,mA,⟨od,es,ep,e2,c⟩,r⟩:=x;exact ⟨ho _ d,z,ne,k _ _ (.inl rfl) e,mA,⟨od,es,ep,k _ _ (.inr d) e2,c⟩,r⟩| own y=>obtain ⟨ob,e⟩:=x; exact ⟨ob,k _ _ (.inl rfl) e⟩| xd fs=>obtain ⟨mA,⟨od,es,ep,e,c⟩,r⟩:=x; exact ⟨mA,⟨od,es,ep,k _ _ (.inl rfl) e,c⟩,r⟩| rng lo hi=>obtain ⟨t,u,v,e⟩:=x; exact ⟨t,u,v,k _ _ (.inl rfl) e⟩| jh ob u ih=>obtain ⟨e,q⟩:=x; exact ⟨k _ _ (.inl rfl) e,ih q⟩| tbl ps =>have e:h.get? a=some { cls:=.none,data:=.fields ps }:=x;show h'.get? a=some { cls:=.none,data:=.fields ps };exact k a _ (.inl rfl) e| met f y =>have e:h.get? a=some (Ux (.ref f) (.ref y)):=x;show h'.get? a=some (Ux (.ref f) (.ref y));exact k a _ (.inl rfl) e| ext Dz=>obtain ⟨p,⟨o,e⟩,st⟩:=x; exact ⟨st _ _ p λo q=>k _ _ (.inl rfl) q,⟨o,k _ _ (.inl rfl) e⟩,st⟩
theorem iD.lt{h:aY}(x:iD P w H h)(e:H a=some o):a<h.objs.size:=(x a o e).lt
theorem iD.fresh{h:aY}(x:iD P w H h)(e:h.objs.size<=a):H a=none:=by cases q:H a with| none=>rfl| some u=>exact bO (jL (x.lt q) e) (qF _)
theorem iD.kept{h:aY}(x:iD P w H h)(k:∀ b u,h.get? b=some u->h'.get? b=some u):iD P w H h':=λa o e =>
 (x a o e).stay (λb u _ q=>k b u q) (λ_ q=>q) λ_ _ q=>q
theorem iD.laid{h:aY}(x:iD P w H h)(k:∀ b u,h.get? b=some u->h'.get? b=some u)(hp:h.objs.size<=a)(new:gF P w (upd H a o) h' a o):iD P w (upd H a o) h':=λb u e=>by
 have hn:=x.fresh hp;by_cases hb:b=a
 . subst hb; rw [aX] at e; cases e; exact new
 . rw [aW hb] at e;exact (x b u e).stay (λc v _ q=>k c v q) (λc q=>by rw [aW (dN q hn)]; exact q) λc xs q=>by rw [aW (dN q hn)]; exact q
noncomputable def Rd(H:Hp)(a:au)(u:HO):Prop:=H a=some u\/∃ o,H a=some (.jh o u)
theorem Rd.ok{h:aY}(r:Rd H a u)(x:iD P w H h):gF P w H h a u:=by rcases r with r | ⟨o,r⟩;exact x a u r;obtain ⟨_,q⟩:=x a _ r;exact q
noncomputable def Mut:Option HO->Prop
 | some (.lst _)=>True
 | some (.dK _)=>True
 | some (.dT _)=>True
 | some (.set _ _)=>True
 | some (.ins _ _ _)=>True
 | some (.ext _)=>True
 | _=>False
variable{x e:au}
theorem iD.write{h:aY}{o':HO}(ok:iD P w H h)(mu:Mut (H x))(he:e=x\/H e=some (.own x))(k:∀ b u,b≠e->h.get? b=some u->h'.get? b=some u)(heo:∃ u,h'.get? e=some u)(new:gF P w (upd H x o') h' x o'):iD P w (upd H x o') h':=λb u q=>by
 have adM:∀ c y,H c=some (.own y)->c≠x:=λc y r z=>by subst z; rw [r] at mu; exact mu
 have agk:∀ c xs,H c=some (.tup xs)->c≠x:=λc xs r z=>by subst z; rw [r] at mu; exact mu
 by_cases hb:b=x
 . subst hb; rw [aX] at q; cases q; exact new
 . rw [aW hb] at q;by_cases hbe:b=e
   . have q':H b=some (.own x):=by
       rcases he with z | z
       . exact bO (hbe.aA z) hb
       . rw [hbe]; exact z
     rw [q] at q'; cases q';obtain ⟨v,hv⟩:=heo;exact ⟨v,by rw [hbe]; exact hv⟩
   . refine (ok b u q).stay (λc v hc r=>k c v ?_ r) (λc r=>by rw [aW (adM c b r)]; exact r) λc xs r=>by rw [aW (agk c xs r)]; exact r
     rcases hc with rfl | hc
     . exact hbe
     . rintro rfl;rcases he with z | z
       . exact adM c b hc z
       . rw [hc] at z; cases z; exact hb rfl
structure Un(fs ex:List au)(H H':Hp)(h h':aY):Prop where
 keep:∀ b o,h.get? b=some o->H b=none->b ∉ fs->b ∉ ex->h'.get? b=some o
 slot:∀ b o,h.get? b=some o->H b=none->b∈fs->b ∉ ex->∃ sl,h'.get? b=some { o with slots:=sl }
 free:∀ b o,h.get? b=some o->H b=none->b ∉ ex->H' b=none
 there:∀ b o,h.get? b=some o->b ∉ ex->∃ o',h'.get? b=some o'
 dH:∀ b xs,H b=some (.tup xs)->H' b=some (.tup xs)
 sS:∀ b o u,H b=some (.jh o u)->H' b=some (.jh o u)
 tX:∀ b ps,H b=some (.tbl ps)->∃ more,H' b=some (.tbl (ps++more))
variable{ex:List au}{H1:Hp}
theorem Un.any{fs:List au}{h h1:aY}(u:Un fs ex H H1 h h1){ob:Obj}(q:h.get? b=some ob)(n:H b=none)(hx:b ∉ ex):∃ sl,h1.get? b=some { ob with slots:=sl }:=by by_cases hb:b∈fs;exact u.slot b ob q n hb hx;exact ⟨ob.slots,u.keep b ob q n hb hx⟩
theorem Un.kept{fs:List au}{h:aY}(k:∀ b u,h.get? b=some u->h'.get? b=some u):Un fs ex H H h h' :=
 ⟨λb ob q _ _ _=>k b ob q,λb ob q _ _ _=>⟨ob.slots,k b ob q⟩,λ_ _ _ n _=>n,λb ob q _=>⟨ob,k b ob q⟩,λ_ _ q=>q,λ_ _ _ q=>q,λ_ ps q=>⟨#[],by rw [q]; simp⟩⟩
theorem Un.refl{fs:List au}{h:aY}:Un fs ex H H h h:=Un.kept λ_ _ q=>q
theorem Un.laid{fs:List au}{h:aY}(k:∀ b u,h.get? b=some u->h'.get? b=some u)(hp:h.objs.size<=a)(hn:H a=none):Un fs ex H (upd H a o) h h' where
 keep:=λb u q _ _ _=>k b u q
 slot:=λb u q _ _ _=>⟨u.slots,k b u q⟩
 free:=λb u q n _=>by rw [aW (fB (jL (bQ q) hp))]; exact n
 there:=λb u q _=>⟨u,k b u q⟩
 dH:=λb xs q=>by rw [aW (dN q hn)]; exact q
 sS:=λb u xs q=>by rw [aW (dN q hn)]; exact q
 tX:=λb ps q=>⟨#[],by rw [aW (dN q hn),q]; simp⟩
theorem Un.write{fs:List au}{h:aY}(mu:Mut (H x))(he:e=x\/H e=some (.own x))(k:∀ b u,b≠e->h.get? b=some u->h'.get? b=some u)(heo:∃ u,h'.get? e=some u):Un fs ex H (upd H x o) h h':=by have hx:∀ b,H b=none->b≠x:=λb n z=>(by subst z; rw [n] at mu; exact mu);have hb:∀ b,H b=none->b≠e:=λb n z=>(by subst z;rcases he with r | r;exact hx b n r;rw [n] at r; cases r);have hm:∀ b u,H b=some u->¬ Mut (some u)->b≠x:=λb u q nm z=>(by subst z; rw [q] at mu; exact nm mu);refine ⟨λb u q n _ _=>k b u (hb b n) q,λb u q n _ _=>⟨u.slots,k b u (hb b n) q⟩,λb u q n _=>by rw [aW (hx b n)]; exact n,λb u q _=>?_,λb xs q=>by rw [aW (hm b _ q λz=>z)]; exact q,λb u xs q=>by rw [aW (hm b _ q λz=>z)]; exact q,λb ps q=>⟨#[],by rw [aW (hm b _ q λz=>z),q]; simp⟩⟩;by_cases hbe:b=e;subst hbe; exact heo;exact ⟨u,k b u hbe q⟩
noncomputable def trk(h:aY)(H:Hp):List au:=(iQ h.objs.size).filter λa=>(H a).isSome
noncomputable def zc(h:aY)(H:Hp):aY:=PN h (trk h H)
theorem aib(h:aY)(H:Hp):(zc h H).objs.size=h.objs.size:=PySem.W.hideAll_size _ _
variable{o:Obj}
theorem apA{h:aY}(e:h.get? b=some o)(n:H b=none):(zc h H).get? b=some o :=
 Ot _ e λhm=>by
   have q:(H b).isSome=true:=(List.mem_filter.mp hm).2;rw [n] at q; simp at q
theorem aii{h:aY}(e:(zc h H).get? b=some o):h.get? b=some o/\H b=none:=by have e':h.get? b=some o:=aa6 (trk h H) e;refine ⟨e',?_⟩;cases q:H b with| none=>rfl| some x =>have hm:b∈trk h H:=List.mem_filter.mpr ⟨uI.mpr (bQ e'),by simp [q]⟩;have z:(zc h H).get? b=none:=PySem.W.hideAll_none (trk h H) hm;rw [z] at e; cases e
structure Mod(K:bV)(mg:Str->Option aB)(base:aY):Prop where
 kin:K.In base
 glob:base.Ns qU mg
 blt:∃ mb,base.Ns builtinsNs mb/\∀ x:Str,x≠"__name__"->mb x=bootBuiltins x
 nolimit:base.NoLimit
structure Cx where
 prog:gk
 w:fK
 K:bV
 mg:Str->Option aB
 base:aY
 A:iI
 N:List Str
 s₀:aK
 H₀:Hp
 env:Env
 outer:List Env
 stack:List Env
 ex:List au
 fn:Str->Bool
 calm:Bool
 pn:List (au × Obj)
 xe:aB->aK->Prop
noncomputable def frs(l:List Env):List au:=l.filterMap (·.frame)
noncomputable abbrev Cx.fs(X:Cx):List au:=frs X.outer
noncomputable def Vis(sc:Scope)(x:Str):Prop:=sc.names.lookup x=some .local\/sc.names.lookup x=some .cell\/sc.names.lookup x=some .free
noncomputable def Loc(sc:Scope)(x:Str):Prop:=sc.names.lookup x=some .local\/sc.names.lookup x=some .cell
noncomputable def Look(env:Env)(h:aY)(m:Str->Option aB)(x:Str)(u:aB):Prop :=
 (env.kindOf x=some .local/\m x=some u)\/((env.kindOf x=some .cell\/env.kindOf x=some .free)/\∃ c,env.cells.lookup x=some c/\h.IsCell c (some u))
structure Cx.Ok(X:Cx):Prop where
 mod:Mod X.K X.mg X.base
 kind:X.env.scope.kind=.function
 glob:X.env.globals=qU
 blt:X.env.builtins=builtinsNs
 above:X.s₀.heap.objs.size<=X.env.locals
 inj:∀ x y c,X.env.cells.lookup x=some c->X.env.cells.lookup y=some c->x=y
 has:∀ x,(X.env.kindOf x=some .cell\/X.env.kindOf x=some .free)->∃ c,X.env.cells.lookup x=some c
 cab:∀ x c,X.fn x=true->X.env.cells.lookup x=some c->X.s₀.heap.objs.size<=c
 hd:X.calm=true->X.A.handled=none
 frames:X.A.frames=some X.stack
 stk:X.stack=X.outer\/(X.stack=X.env :: X.outer/\X.env.frame=some X.env.locals)
 yN:∀ b∈X.ex,b≠X.env.locals/\∀ x c,X.env.cells.lookup x=some c->c≠b
 bs:∀ b o,X.base.get? b=some o->X.s₀.heap.get? b=some o/\X.H₀ b=none
 wQ:X.base.objs.size<=X.s₀.heap.objs.size
 Gu:∀ b o,X.base.get? b=some o->b ∉ X.ex
 BZ:∀ b∈X.ex,b ∉ X.fs
 sX:X.s₀.heap.FunFrames X.base X.outer
 zF:∀ b∈X.fs,X.H₀ b=none
structure Inv(X:Cx)(ao:List (au × Obj))(aj:List (Option V))(H:Hp)(s:aK):Prop where
 ok:X.Ok
 os:s.os=X.s₀.os
 bare:zp s.gens
 base:Un X.fs X.ex X.H₀ H X.s₀.heap s.heap
 loc:∃ m,s.heap.Ns X.env.locals m/\∀(i:Nat)(x:Str)(v:V),X.N[i]?=some x->aj[i]?=some (some v)->Vis X.env.scope x->∃ u,cO v u/\Look X.env s.heap m x u
 cell:∀ x c,X.env.cells.lookup x=some c->∃ v,s.heap.IsCell c v
 free:H X.env.locals=none
 qJ:∀ x c,X.env.cells.lookup x=some c->H c=none
 pin:∀ p∈X.pn++ao,s.heap.get? p.1=some p.2/\H p.1=none/\p.1≠X.env.locals/\p.1 ∉ X.fs/\∀ v,p.2.data≠.cell v
 hok:iD X.prog X.w H s.heap
 len:aj.length=X.N.length
variable{X:Cx}
theorem Cx.Ok.aeT(ok:X.Ok)(e:X.base.get? b=some o):b ∉ X.fs:=λhb=>by
 have:=(ok.sX.mem hb).1;rw [e] at this; cases this
variable{ao:List (au × Obj)}{aj:List (Option V)}
theorem Inv.bs(I:Inv X ao aj H s):∀ b o,X.base.get? b=some o->s.heap.get? b=some o/\H b=none:=λb o e =>
 ⟨I.base.keep b o (I.ok.bs b o e).1 (I.ok.bs b o e).2 (I.ok.aeT e) (I.ok.Gu b o e),I.base.free b o (I.ok.bs b o e).1 (I.ok.bs b o e).2 (I.ok.Gu b o e)⟩
theorem Inv.bk(I:Inv X ao aj H s):∀ b o,X.base.get? b=some o->s.heap.get? b=some o:=λb o e=>(I.bs b o e).1
theorem Inv.mod(I:Inv X ao aj H s):Mod X.K X.mg X.base:=I.ok.mod
theorem Inv.jM(I:Inv X ao aj H s):X.K.In s.heap:=I.ok.mod.kin.keeps I.bk
theorem Inv.lt(I:Inv X ao aj H s):X.env.locals<s.heap.objs.size:=let ⟨_,hn,_⟩:=I.loc; hn.lt
theorem Inv.sz(I:Inv X ao aj H s):X.s₀.heap.objs.size<=s.heap.objs.size:=jF I.ok.above (sG I.lt)
theorem Inv.agM(I:Inv X ao aj H s)(h:s.heap.objs.size<=a):a ∉ X.fs:=λhb=>by
 obtain ⟨_,o,ho,_⟩:=I.ok.sX.mem hb;exact bO (jL (bQ ho) (jF I.sz h)) (qF _)
theorem Inv.yM(I:Inv X ao aj H s):∀ x c,X.env.cells.lookup x=some c->c≠X.env.locals:=λx c e z=>by
 obtain ⟨v,o,ho,hd⟩:=I.cell x c e;obtain ⟨m,⟨o',es,ep,ho',hd',_⟩,_⟩:=I.loc;rw [z,ho'] at ho; cases ho; rw [hd'] at hd; cases hd
theorem Inv.sX(I:Inv X ao aj H s):s.heap.FunFrames X.base X.outer:=by have all:∀(l:List Env),(∀ b∈frs l,b∈X.fs)->X.s₀.heap.FunFrames X.base l->s.heap.FunFrames X.base l:=(by intro l;induction l with| nil=>intro _ _; trivial| cons env r ih =>intro hs hl;obtain ⟨hk,⟨L,o,hf,hn,ho,hd⟩,hr⟩:=hl;have hL:L∈X.fs:=hs L (by unfold frs; rw [Fo,hf]; exact gU);obtain ⟨sl,e⟩:=I.base.slot L o ho (I.ok.zF L hL) hL λz=>I.ok.BZ L z hL;exact ⟨hk,⟨L,_,hf,hn,e,hd⟩,ih (λb hb=>hs b (by unfold frs; rw [Fo,hf]; exact iM _ hb)) hr⟩);exact all X.outer (λ_ hb=>hb) I.ok.sX
theorem Inv.stack(I:Inv X ao aj H s):s.heap.FunFrames X.base X.stack:=by rcases I.ok.stk with e | ⟨e,hf⟩;rw [e]; exact I.sX;rw [e];obtain ⟨m,hn,_⟩:=I.loc;refine .cons (by rw [I.ok.kind]; decide) hf hn ?_ I.sX;exact Heap.get?_none_of_le (jF I.ok.wQ I.ok.above)
theorem Inv.Pj(I:Inv X ao aj H s):∀ b∈frs X.stack,b∈X.env.locals :: X.fs:=λb hb=>by
 rcases I.ok.stk with e | ⟨e,hf⟩
 . rw [e] at hb; exact iM _ hb
 . rw [e] at hb;unfold frs at hb;rw [Fo,hf] at hb;exact hb
theorem Inv.Nm(I:Inv X ao aj H s):∀ b∈frs X.stack,H b=none:=λb hb=>by
 rcases dU.mp (I.Pj b hb) with e | hb
 . rw [e]; exact I.free
 . obtain ⟨_,o,ho,_⟩:=I.ok.sX.mem hb;exact I.base.free b o ho (I.ok.zF b hb) λz=>I.ok.BZ b z hb
variable{g':Array Nv}{t':Nat}{d':Drawn}{ch:List au}
theorem Inv.step(I:Inv X ao aj H s)(hch:∀ b∈ch,(b∈X.ex\/X.s₀.heap.objs.size<=b)/\b≠X.env.locals/\(∀ x c,X.env.cells.lookup x=some c->c≠b)/\∀ p∈X.pn++ao,p.1≠b)(keep:∀ b o,b≠X.env.locals->b ∉ X.fs->b ∉ ch->s.heap.get? b=some o->H b=none->h'.get? b=some o)(slot:∀ b o,b≠X.env.locals->b∈X.fs->b ∉ ch->s.heap.get? b=some o->H b=none->∃ sl,h'.get? b=some { o with slots:=sl })(free:∀ b o,b ∉ ch->s.heap.get? b=some o->H b=none->H' b=none)(there:∀ b o,b ∉ ch->s.heap.get? b=some o->∃ o',h'.get? b=some o')(dH:∀ b xs,H b=some (.tup xs)->H' b=some (.tup xs))(sS:∀ b o u,H b=some (.jh o u)->H' b=some (.jh o u))(tX:∀ b ps,H b=some (.tbl ps)->∃ more,H' b=some (.tbl (ps++more)))(ns:∀ m,s.heap.Ns X.env.locals m->h'.Ns X.env.locals m)(hok:iD X.prog X.w H' h')(hg:zp g'): Inv X ao aj H' { s with heap:=h',gens:=g',drawn:=d',toks:=t' }:=by have neL:∀ b o,X.s₀.heap.get? b=some o->b≠X.env.locals:=λb o e=>fB (jL (bQ e) I.ok.above);have neC:∀ b o,X.s₀.heap.get? b=some o->b ∉ X.ex->b ∉ ch:=λb o e hx hb=>(by rcases (hch b hb).1 with z | z;exact hx z;exact bO (jL (bQ e) z) (qF _));have cellK:∀ x c,X.env.cells.lookup x=some c->∀ v,s.heap.IsCell c v->h'.IsCell c v:=λx c e v ⟨o,ho,hd⟩=>(by have nch:c ∉ ch:=λz=>(hch c z).2.2.1 x c e rfl;by_cases hc:c∈X.fs;obtain ⟨sl,q⟩:=slot c o (I.yM x c e) hc nch ho (I.qJ x c e);exact ⟨_,q,hd⟩;exact ⟨o,keep c o (I.yM x c e) hc nch ho (I.qJ x c e),hd⟩);refine ⟨I.ok,I.os,hg,⟨λb o e n hb hx=>?_,λb o e n hb hx=>?_,λb o e n hx=>?_,λb o e hx=>?_,λb xs e=>dH b xs (I.base.dH b xs e),λb o xs e=>sS b o xs (I.base.sS b o xs e),λb ps e=>?_⟩,?_,λx c e=>?_,?_,λx c e=>?_,λp hp=>?_,hok,I.len⟩;exact keep b o (neL b o e) hb (neC b o e hx) (I.base.keep b o e n hb hx) (I.base.free b o e n hx);obtain ⟨sl,e1⟩:=I.base.slot b o e n hb hx;obtain ⟨sl',e2⟩:=slot b _ (neL b o e) hb (neC b o e hx) e1 (I.base.free b o e n hx);exact ⟨sl',e2⟩;obtain ⟨o',e1⟩:=I.base.there b o e hx;exact free b o' (neC b o e hx) e1 (I.base.free b o e n hx);obtain ⟨o',e1⟩:=I.base.there b o e hx;exact there b o' (neC b o e hx) e1;obtain ⟨m1,e1⟩:=I.base.tX b ps e;obtain ⟨m2,e2⟩:=tX b _ e1;exact ⟨m1++m2,by rw [e2,Array.append_assoc]⟩;obtain ⟨m,hn,hl⟩:=I.loc;refine ⟨m,ns m hn,λi x v e1 e2 e3=>?_⟩;obtain ⟨u,r,l⟩:=hl i x v e1 e2 e3;refine ⟨u,r,?_⟩;rcases l with l | ⟨k,c,e,z⟩;exact .inl l;exact .inr ⟨k,c,e,cellK x c e _ z⟩;obtain ⟨v,z⟩:=I.cell x c e;exact ⟨v,cellK x c e v z⟩;obtain ⟨m,⟨o,_,_,ho,_⟩,_⟩:=I.loc;exact free _ o (λz=>(hch _ z).2.1 rfl) ho I.free;obtain ⟨v,o,ho,hd⟩:=I.cell x c e;exact free c o (λz=>(hch c z).2.2.1 x c e rfl) ho (I.qJ x c e);obtain ⟨e,n,ne,nf,d⟩:=I.pin p hp;have nch:p.1 ∉ ch:=λz=>(hch p.1 z).2.2.2 p hp rfl;exact ⟨keep p.1 p.2 ne nf nch e n,free p.1 p.2 nch e n,ne,nf,d⟩
theorem Inv.un(I:Inv X ao aj H s)(u:Un X.fs [] H H' s.heap h')(hok:iD X.prog X.w H' h'):Inv X ao aj H' { s with heap:=h',toks:=t' }:=by obtain ⟨m,⟨o,es,ep,ho,r⟩,_⟩:=id I.loc;obtain ⟨sl,hL⟩:=u.any ho I.free (by simp);exact I.step (g':=s.gens) (d':=s.drawn) (ch:=[]) (λ_ z=>nomatch z) (λb o _ hb _ e n=>u.keep b o e n hb (by simp)) (λb o _ hb _ e n=>u.slot b o e n hb (by simp)) (λb o _ e n=>u.free b o e n (by simp)) (λb o _ e=>u.there b o e (by simp)) u.dH u.sS u.tX (λm' hm=>by obtain ⟨o',es',ep',ho',r'⟩:=hm;rw [ho] at ho'; cases ho';exact ⟨_,es',ep',hL,r'⟩) hok I.bare
theorem Inv.call(I:Inv X ao aj H s)(u:Un (frs X.stack) ch H H' s.heap h')(hok:iD X.prog X.w H' h')(hg:zp g')(hch:∀ b∈ch,(b∈X.ex\/X.s₀.heap.objs.size<=b)/\b≠X.env.locals/\(∀ x c,X.env.cells.lookup x=some c->c≠b)/\∀ p∈X.pn++ao,p.1≠b): Inv X ao aj H' { s with heap:=h',gens:=g',drawn:=d',toks:=t' }:=by obtain ⟨m,⟨o,es,ep,ho,r⟩,_⟩:=id I.loc;obtain ⟨sl,hL⟩:=u.any ho I.free λz=>(hch _ z).2.1 rfl;exact I.step (ch:=ch) hch (λb o hL hb hc e n=>u.keep b o e n (λz=>(dU.mp (I.Pj b z)).elim hL hb) hc) (λb o _ _ hc e n=>u.any e n hc) (λb o hc e n=>u.free b o e n hc) (λb o hc e=>u.there b o e hc) u.dH u.sS u.tX (λm' hm=>by obtain ⟨o',es',ep',ho',r'⟩:=hm;rw [ho] at ho'; cases ho';exact ⟨_,es',ep',hL,r'⟩) hok hg
variable{it:au}
theorem Inv.turned(I:Inv X ao aj H s)(k:∀ b o,b≠it->s.heap.get? b=some o->h'.get? b=some o)(hn:H it=none)(hL:it≠X.env.locals)(h1:it∈X.ex\/X.s₀.heap.objs.size<=it)(h2:∀ x c,X.env.cells.lookup x=some c->c≠it)(h3:∀ p∈X.pn++ao,p.1≠it):Inv X ao aj H { s with heap:=h',toks:=t' }:=by have uy:∀ b u,H b=some u->b≠it:=λb u e z=>(by rw [z,hn] at e; cases e);refine I.step (g':=s.gens) (d':=s.drawn) (ch:=[it]) (λb hb=>?_) (λb o _ _ hc e _=>k b o (λz=>hc (by simp [z])) e) (λb o _ _ hc e _=>⟨o.slots,k b o (λz=>hc (by simp [z])) e⟩) (λ_ _ _ _ n=>n) (λb o hc e=>⟨o,k b o (λz=>hc (by simp [z])) e⟩) (λ_ _ e=>e) (λ_ _ _ e=>e) (λb ps e=>⟨#[],by rw [e]; simp⟩) (λm hm=>?_) (λb u e=>?_) I.bare;have e:b=it:=(by simpa using hb);subst e;exact ⟨h1,hL,h2,h3⟩;obtain ⟨o,es,ep,ho,r⟩:=hm;exact ⟨o,es,ep,k _ o (bW hL) ho,r⟩;refine (I.hok b u e).stay (λc v hc q=>k c v ?_ q) (λ_ q=>q) λ_ _ q=>q;rcases hc with z | z;rw [z]; exact uy b u e;exact uy c _ z
theorem Inv.tok(I:Inv X ao aj H s)(t:Nat):Inv X ao aj H { s with toks:=t }:=I.un (h':=s.heap) (t':=t) Un.refl I.hok
theorem Inv.kept(I:Inv X ao aj H s)(k:∀ b u,s.heap.get? b=some u->h'.get? b=some u):Inv X ao aj H { s with heap:=h',toks:=t' }:=I.un (Un.kept k) (I.hok.kept k)
variable{o:HO}
theorem Inv.laid(I:Inv X ao aj H s)(k:∀ b u,s.heap.get? b=some u->h'.get? b=some u)(hp:s.heap.objs.size<=a)(new:gF X.prog X.w (upd H a o) h' a o):
   Inv X ao aj (upd H a o) { s with heap:=h',toks:=t' }:=I.un (Un.laid k hp (I.hok.fresh hp)) (I.hok.laid k hp new)
theorem Inv.write(I:Inv X ao aj H s)(mu:Mut (H x))(he:e=x\/H e=some (.own x))(k:∀ b u,b≠e->s.heap.get? b=some u->h'.get? b=some u)(heo:∃ u,h'.get? e=some u)(new:gF X.prog X.w (upd H x o) h' x o):Inv X ao aj (upd H x o) { s with heap:=h',toks:=t' }:=I.un (Un.write mu he k heo) (I.hok.write mu he k heo new)
theorem Inv.Yo{adU:List (au × Obj)}(I:Inv X ao aj H s)(h:∀ p∈adU,s.heap.get? p.1=some p.2/\H p.1=none/\p.1≠X.env.locals/\p.1 ∉ X.fs/\∀ v,p.2.data≠.cell v):Inv X adU aj H s :=
 ⟨I.ok,I.os,I.bare,I.base,I.loc,I.cell,I.free,I.qJ,λp hp=>(iC.mp hp).elim (λz=>I.pin p (Jq _ z)) (h p),I.hok,I.len⟩
variable{N:List Str}{i:Nat}{x:Str}
theorem Xy(hN:N.Nodup){j:Nat}(a:N[i]?=some x)(b:N[j]?=some x):i=j:=by obtain ⟨h1,e1⟩:=jC.mp a;obtain ⟨h2,e2⟩:=jC.mp b;exact (T3 hN).mp (e1.aA e2.symm)
variable{M:Dj}{v:V}{u:aB}{Q:Unit->aK->Prop}
theorem T8(I:Inv X ao aj H s)(hN:X.N.Nodup)(hi:X.N[i]?=some x)(hx:Loc X.env.scope x)(r:cO v u)(h:∀ s',Inv X ao (aj.set i (some v)) H s'->(∃ a,vH a s.heap s'.heap/\(a=X.env.locals\/X.env.cells.lookup x=some a))->Q () s')(hf:X.fn x=true\/X.env.scope.names.lookup x=some .local:=by first | exact .inl rfl | exact .inr rfl | assumption):aJ M A (storeName X.env x u) Q E s:=by obtain ⟨m,hn,hl⟩:=id I.loc;have hcls:(X.env.scope.kind == .class || (X.env.scope.kind == .module && X.env.locals != X.env.globals))=false:=(by rw [I.ok.kind]; rfl);have Ng:i<aj.length:=(by rw [I.len]; exact (jC.mp hi).1);have yM:=I.yM;have tracked:∀{a:au}{h':aY},(∃ o,s.heap.get? a=some o/\H a=none)->vH a s.heap h'->iD X.prog X.w H h':=λ{a h'} ha hs b ob e=>(by obtain ⟨_,_,hfree⟩:=ha;refine (I.hok b ob e).stay (λc w' hc q=>(hs.2 c ?_).aA q) (λ_ q=>q) λ_ _ q=>q;rintro rfl;rcases hc with rfl | hc;rw [hfree] at e; cases e;rw [hfree] at hc; cases hc);rcases hx with hk | hk;refine wpAny_storeName_local hk hn (λh' hn' hs=>?_) hcls;obtain ⟨oL,_,_,hoL,_⟩:=id hn;refine h _ ⟨I.ok,I.os,I.bare,⟨λb o e n hb hx=>?_,λb o e n hb hx=>?_,I.base.free,λb o e hx=>?_,I.base.dH,I.base.sS,I.base.tX⟩,⟨_,hn',λj y v' e1 e2 e3=>?_⟩,λy c e=>?_,I.free,I.qJ,λp hp=>?_,tracked ⟨oL,hoL,I.free⟩ hs,by simpa using I.len⟩ ⟨_,hs,.inl rfl⟩;exact (hs.2 b (fB (jL (bQ e) I.ok.above))).aA (I.base.keep b o e n hb hx);obtain ⟨sl,e1⟩:=I.base.slot b o e n hb hx;exact ⟨sl,(hs.2 b (fB (jL (bQ e) I.ok.above))).aA e1⟩;obtain ⟨o',e1⟩:=I.base.there b o e hx;exact ⟨o',(hs.2 b (fB (jL (bQ e) I.ok.above))).aA e1⟩;by_cases hj:j=i;subst hj;rw [hi] at e1; cases e1;rw [VJ Ng] at e2;cases e2;exact ⟨u,r,.inl ⟨hk,by simp⟩⟩;rw [Rk (bW hj)] at e2;obtain ⟨u',r',q⟩:=hl j y v' e1 e2 e3;refine ⟨u',r',?_⟩;rcases q with ⟨k,e⟩ | ⟨k,c,e,z⟩;refine .inl ⟨k,?_⟩;have:y≠x:=λe=>hj (Xy hN e1 (e ▸ hi));simp [this,e];exact .inr ⟨k,c,e,z.sameBut hs (yM y c e)⟩;obtain ⟨w',z⟩:=I.cell y c e;exact ⟨w',z.sameBut hs (yM y c e)⟩;obtain ⟨e,n,ne,nf,d⟩:=I.pin p hp;exact ⟨(hs.2 p.1 ne).aA e,n,ne,nf,d⟩;have hfn:X.fn x=true:=(by rcases hf with z | z;exact z;rw [z] at hk; cases hk);obtain ⟨c,hc⟩:=I.ok.has x (.inl hk);obtain ⟨w',z⟩:=I.cell x c hc;refine wpAny_storeName_cell I.ok.kind hk hc z (λh' hc' hs=>?_);obtain ⟨oc,hoc,ak0⟩:=id z;refine h { s with heap:=h' } ⟨I.ok,I.os,I.bare,⟨λb o e n hb hx=>?_,λb o e n hb hx=>?_,I.base.free,λb o e hx=>?_,I.base.dH,I.base.sS,I.base.tX⟩,⟨m,hn.sameBut hs (bW (yM x c hc)),λj y v' e1 e2 e3=>?_⟩,λy c' e=>?_,I.free,I.qJ,λp hp=>?_,tracked ⟨oc,hoc,I.qJ x c hc⟩ hs,by simpa using I.len⟩ ⟨c,hs,.inr hc⟩;exact (hs.2 b (fB (jL (bQ e) (I.ok.cab x c hfn hc)))).aA (I.base.keep b o e n hb hx);obtain ⟨sl,e1⟩:=I.base.slot b o e n hb hx;exact ⟨sl,(hs.2 b (fB (jL (bQ e) (I.ok.cab x c hfn hc)))).aA e1⟩;obtain ⟨o',e1⟩:=I.base.there b o e hx;exact ⟨o',(hs.2 b (fB (jL (bQ e) (I.ok.cab x c hfn hc)))).aA e1⟩;by_cases hj:j=i;subst hj;rw [hi] at e1; cases e1;rw [VJ Ng] at e2;cases e2;exact ⟨u,r,.inr ⟨.inl hk,c,hc,hc'⟩⟩;rw [Rk (bW hj)] at e2;obtain ⟨u',r',q⟩:=hl j y v' e1 e2 e3;refine ⟨u',r',?_⟩;rcases q with q | ⟨k,c',e,z'⟩;exact .inl q;refine .inr ⟨k,c',e,z'.sameBut hs ?_⟩;rintro rfl;exact hj (Xy hN e1 (I.ok.inj _ _ _ e hc ▸ hi));by_cases hcc:c'=c;subst hcc; exact ⟨_,hc'⟩;obtain ⟨w2,z2⟩:=I.cell y c' e;exact ⟨w2,z2.sameBut hs hcc⟩;obtain ⟨e,n,ne,nf,d⟩:=I.pin p hp;refine ⟨(hs.2 p.1 ?_).aA e,n,ne,nf,d⟩;intro q;rw [q,hoc] at e;have q':oc=p.2:=j6 e;exact d w' (by rw [<- q']; exact ak0)
theorem MJ(I:Inv X ao aj H s)(hN:X.N.Nodup)(hi:X.N[i]?=some x)(hx:Loc X.env.scope x)(r:cO v u)(h:∀ s',Inv X ao (aj.set i (some v)) H s'->Q () s')(hf:X.fn x=true\/X.env.scope.names.lookup x=some .local:=by first | exact .inl rfl | exact .inr rfl | assumption):aJ M A (storeName X.env x u) Q E s :=
 T8 I hN hi hx r (λs' I' _=>h s' I') hf
variable{s':aK}
theorem Inv.call'(I:Inv X ao aj H s)(ho:s'.os=s.os)(u:Un (frs X.stack) ch H H' s.heap s'.heap)(hok:iD X.prog X.w H' s'.heap)(hg:zp s'.gens)(hch:∀ b∈ch,(b∈X.ex\/X.s₀.heap.objs.size<=b)/\b≠X.env.locals/\(∀ x c,X.env.cells.lookup x=some c->c≠b)/\∀ p∈X.pn++ao,p.1≠b):Inv X ao aj H' s':=by obtain ⟨h',g',d',t',o'⟩:=s';have e:o'=s.os:=ho;subst e;exact I.call (g':=g') (t':=t') (d':=d') u hok hg hch
noncomputable abbrev XK:=aB->Option au->Hp->Prop
noncomputable abbrev St:=List (Option V)
noncomputable abbrev VK:=V->Hp->Prop
noncomputable abbrev TE:=St->Hp->VK->Prop
noncomputable abbrev TT:=St->Hp->(Bool->Hp->Prop)->Prop
noncomputable abbrev TA:=St->Hp->(List V->Hp->Prop)->Prop
structure Ends where
 nx:St->Hp->Prop
 rt:VK
 bk:St->Hp->Prop:=λ_ _=>False
 ct:St->Hp->Prop:=λ_ _=>False
noncomputable abbrev TS:=Ends->St->Hp->Prop
inductive EP(X:Cx)(ao:List (au × Obj))(aj:St)(Q:VK)(u:aB)(s':aK):Prop|mk v H'(_:Inv X ao aj H' s')(_:cO v u)(_:Q v H')
noncomputable def TP(X:Cx)(ao:List (au × Obj))(aj:St)(Q:Bool->Hp->Prop)(b:Bool)(s':aK):Prop:=∃ H',Inv X ao aj H' s'/\Q b H'
inductive AP(X:Cx)(ao:List (au × Obj))(aj:St)(Q:List V->Hp->Prop)(us:List aB)(s':aK):Prop|mk vs H'(_:Inv X ao aj H' s')(_:cD vs us)(_:Q vs H')
noncomputable def SP(X:Cx)(ao:List (au × Obj))(D:Ends)(f:Flow)(s':aK):Prop :=
 match f with
 | .next=>∃ bA H',Inv X ao bA H' s'/\D.nx bA H'
 | .brk=>∃ bA H',Inv X ao bA H' s'/\D.bk bA H'
 | .cont=>∃ bA H',Inv X ao bA H' s'/\D.ct bA H'
 | .ret u=>∃ v bA H',Inv X ao bA H' s'/\cO v u/\D.rt v H'
noncomputable def PE(X:Cx)(e:Expr)(t:TE):Prop :=
 ∀(ao:List (au × Obj))(s:aK)(aj:St)(H:Hp)(Q:VK),Inv X ao aj H s->t aj H Q->aJ (aN X.prog X.w) X.A (eval e X.env) (EP X ao aj Q) X.xe s
noncomputable def PT(X:Cx)(e:Expr)(t:TT):Prop :=
 ∀(ao:List (au × Obj))(s:aK)(aj:St)(H:Hp)(Q:Bool->Hp->Prop),Inv X ao aj H s->t aj H Q->aJ (aN X.prog X.w) X.A (isTrue e X.env (eval e X.env)) (TP X ao aj Q) X.xe s
noncomputable def PW(X:Cx)(e:Expr)(t:TT):Prop :=
 ∀(whole:Sem aB)(ao:List (au × Obj))(s:aK)(aj:St)(H:Hp)(Q:Bool->Hp->Prop),Inv X ao aj H s->t aj H Q->aJ (aN X.prog X.w) X.A (isTrue e X.env whole) (TP X ao aj Q) X.xe s
variable{e:Expr}
theorem PW.pt{t:TT}(h:PW X e t):PT X e t:=h _
noncomputable def PA(X:Cx)(es:List Expr)(t:TA):Prop :=
 ∀(pos:Pos)(ao:List (au × Obj))(s:aK)(aj:St)(H:Hp)(Q:List V->Hp->Prop),Inv X ao aj H s->t aj H Q->aJ (aN X.prog X.w) X.A (spliced (backTo pos (gA es X.env))) (AP X ao aj Q) X.xe s
noncomputable def PS(X:Cx)(st:cA)(t:TS):Prop :=
 ∀(ao:List (au × Obj))(s:aK)(aj:St)(H:Hp)(D:Ends),Inv X ao aj H s->t D aj H->aJ (aN X.prog X.w) X.A (exec st X.env) (SP X ao D) X.xe s
noncomputable def qH(X:Cx)(st:List cA)(t:TS):Prop :=
 ∀(ao:List (au × Obj))(s:aK)(aj:St)(H:Hp)(D:Ends),Inv X ao aj H s->t D aj H->aJ (aN X.prog X.w) X.A (execs st X.env) (SP X ao D) X.xe s
theorem bH{t:Sem bM}{Q Q':bM->aK->Prop}(h:aJ M A t Q E s)(hQ:∀ a s,Q a s->Q' a s):aJ M A t Q' E s:=jx h hQ λ_ _ x=>x
section
variable{X:Cx}
noncomputable def apy(i:Nat):TE:=fun aj H Q=>∃ v,aj[i]?=some (some v)/\Q v H
noncomputable def tC(v:V):TE:=λ_ H Q=>Q v H
variable{pos:Pos}
theorem akM(hN:X.N[i]?=some x)(hv:Vis X.env.scope x)(hd:(x == ("__debug__" : Str))=false:=by decide)(hcd:(x == ("__classdict__" : Str))=false:=by decide):PE X (.Name x pos) (apy i):=by intro ao s aj H Q I h;obtain ⟨v,e,h⟩:=h;obtain ⟨m,hn,hl⟩:=I.loc;obtain ⟨u,r,l⟩:=hl i x v hN e hv;have fin:EP X ao aj Q u s:=⟨v,H,I,r,h⟩;rcases l with ⟨hk,hm⟩ | ⟨hk,c,hc,hcell⟩;exact Ua (wpAny_loadName_local I.ok.kind hk hn hm fin) hd;rcases hk with hk | hk;exact Ua (wpAny_loadName_cell I.ok.kind hk hc hcell fin) hd;exact Ua (wpAny_loadName_free I.ok.kind hk hc hcell fin hcd) hd
theorem aM{i j pos}:PE X (.Constant (.int i) j pos) (tC (.int i)):=λ_ _ _ H _ I h=>wpAny_Constant_int ⟨.int i,H,I.tok _,⟨_,rfl⟩,h⟩
theorem dG{b j pos}:PE X (.Constant (.bool b) j pos) (tC (.bl b)):=λ_ _ _ H _ I h=>Constant_bool ⟨.bl b,H,I,rfl,h⟩
theorem yI{j pos}:PE X (.Constant .none j pos) (tC .non):=λ_ _ _ H _ I h=>Xx ⟨.non,H,I,rfl,h⟩
theorem qC{x j pos}:PE X (.Constant (.str x) j pos) (tC (.str x)):=λ_ _ _ H _ I h=>Calls.Constant_str ⟨.str x,H,I.tok _,⟨_,rfl⟩,h⟩
noncomputable def Gl(X:Cx)(x:Str):Prop:=X.env.kindOf x=some .globalImplicit
variable{aj:St}{Q:aB->aK->Prop}
theorem Ew(I:Inv X ao aj H s)(hg:Gl X x)(hm:X.mg x=some u)(h:Q u s)(hd:(x == ("__debug__" : Str))=false:=by decide):aJ (aN X.prog X.w) X.A (eval (.Name x pos) X.env) Q E s :=
 ZX I.ok.kind hg (Calls.loadGlobal_global (by rw [I.ok.glob]; exact I.mod.glob.keeps I.bk) hm h) hd
theorem xP(I:Inv X ao aj H s)(hg:Gl X x)(hm:X.mg x=none)(hv:bootBuiltins x=some u)(h:Q u s)(hn:x≠"__name__":=by decide)(hd:(x == ("__debug__" : Str))=false:=by decide):aJ (aN X.prog X.w) X.A (eval (.Name x pos) X.env) Q E s:=by obtain ⟨mb,h1,h2⟩:=I.mod.blt;exact ZX I.ok.kind hg (Calls.loadGlobal_builtin (by rw [I.ok.glob]; exact I.mod.glob.keeps I.bk) hm (by rw [I.ok.blt]; exact h1.keeps I.bk) ((h2 x hn).aA hv) h) hd
theorem nM(hg:Gl X x)(hm:X.mg x=some u)(r:cO v u)(hd:(x == ("__debug__" : Str))=false:=by decide):PE X (.Name x pos) (tC v) :=
 λ_ _ _ H _ I h=>Ew I hg hm ⟨v,H,I,r,h⟩ hd
theorem jV(hg:Gl X x)(hm:X.mg x=none)(hv:bootBuiltins x=some u)(r:cO v u)(hn:x≠"__name__":=by decide)(hd:(x == ("__debug__" : Str))=false:=by decide):PE X (.Name x pos) (tC v) :=
 λ_ _ _ H _ I h=>xP I hg hm hv ⟨v,H,I,r,h⟩ hn hd
variable{a b:Expr}{ta tb:TE}{pos:Pos}
noncomputable def PC(X:Cx)(op:FW)(a b:Expr)(t:TE):Prop :=
 ∀(ao:List (au × Obj))(s:aK)(aj:St)(H:Hp)(Q:VK),Inv X ao aj H s->t aj H Q ->
   aJ (aN X.prog X.w) X.A (eval a X.env) (λv s₁=>aJ (aN X.prog X.w) X.A (eval b X.env) (λu s₂=>aJ (aN X.prog X.w) X.A (gJ op v u) (EP X ao aj Q) X.xe s₂) X.xe s₁) X.xe s
variable{op:FW}
theorem Zm(b:Expr)(h:op≠.In)(h2:op≠.NotIn):behindInMarks op b=false:=by have e1:(op == CmpOp.In)=false:=(by cases op <;> first | rfl | exact bO rfl h);have e2:(op == CmpOp.NotIn)=false:=(by cases op <;> first | rfl | exact bO rfl h2);cases b <;> simp [behindInMarks,e1,e2]
noncomputable def aj2(ta:TE):TE:=fun aj H Q=>ta aj H λx H1=>Q (.bl (decide (x=.non))) H1
noncomputable def aoh(ta:TE):TE:=fun aj H Q=>ta aj H λx H1=>Q (.bl (!decide (x=.non))) H1
theorem cO.abu{x:V}{v:aB}(r:cO x v):(v == dM)=decide (x=.non):=by cases x with| non=>cases r; rfl| bl _=>cases r; rfl| int _=>obtain ⟨t,rfl⟩:=r; rfl| str _=>obtain ⟨t,rfl⟩:=r; rfl| tE _=>obtain ⟨t,rfl⟩:=r; rfl| flt _=>obtain ⟨t,rfl⟩:=r; rfl| ref _=>cases r; rfl| ty _=>cases r; rfl
theorem aoM{j pos'}(ha:PE X a ta):PC X .Is a (.Constant .none j pos') (aj2 ta):=by intro ao s aj H Q I h;refine bH (ha ao s aj H _ I h) λv s1 ⟨x,H1,I1,r1,q1⟩=>?_;exact Xx (is_none_gen ⟨.bl _,H1,I1,by rw [r1.abu]; rfl,q1⟩)
theorem ac9{j pos'}(ha:PE X a ta):PC X .IsNot a (.Constant .none j pos') (aoh ta):=by intro ao s aj H Q I h;refine bH (ha ao s aj H _ I h) λv s1 ⟨x,H1,I1,r1,q1⟩=>?_;exact Xx (isnot_none_gen ⟨.bl _,H1,I1,by rw [r1.abu]; rfl,q1⟩)
noncomputable def tB(t:TE):TT:=fun aj H Q=>t aj H λx H1=>∃ c,x=.bl c/\Q c H1
theorem akA{t:TE}(h:PC X op a b t)(h1:behindInMarks op b=false:=by first | exact Zm _ (by decide) (by decide) | rfl):PE X (.Compare a [op] [b] pos) t:=λao s aj H Q I hw=>wpAny_Compare1 (h ao s aj H Q I hw) h1
theorem Hg{t:TE}(h:PC X op a b t)(h1:behindInMarks op b=false:=by first | exact Zm _ (by decide) (by decide) | rfl):PT X (.Compare a [op] [b] pos) (tB t):=by intro ao s aj H Q I hw;refine abb (bH (h ao s aj H _ I hw) λv s1 h1=>bH h1 λu s2 h2=>bH h2 λc s3 ⟨x,H1,I1,r1,q1⟩=>?_) h1;obtain ⟨d,rfl,q⟩:=q1;cases r1;exact qT ⟨H1,I1,q⟩
variable{tA zU:TT}{rest:List Expr}
noncomputable def ac6(t u:TT):TT:=fun aj H Q=>t aj H λc H1=>if c=true then u aj H1 Q else Q false H1
noncomputable def tOr(t u:TT):TT:=fun aj H Q=>t aj H λc H1=>if c=true then Q true H1 else u aj H1 Q
noncomputable def alv(t:TT):TT:=fun aj H Q=>t aj H λc H1=>Q (!c) H1
theorem pw_and1(ha:PT X a tA):PW X (.BoolOp .And [a] pos) tA:=by intro wh ao s aj H Q I h;refine isTrue_and (bH (ha ao s aj H Q I h) λc s1 e=>?_);cases c with| true=>exact isTrue_and_nil e| false=>exact e
theorem pw_or1(ha:PT X a tA):PW X (.BoolOp .Or [a] pos) tA:=by intro wh ao s aj H Q I h;refine isTrue_or (bH (ha ao s aj H Q I h) λc s1 e=>?_);cases c with| false=>exact isTrue_or_nil e| true=>exact e
theorem pw_and(ha:PT X a tA)(hb:PW X (.BoolOp .And (b :: rest) pos) zU):PW X (.BoolOp .And (a :: b :: rest) pos) (ac6 tA zU):=by intro wh ao s aj H Q I h;refine isTrue_and (bH (ha ao s aj H _ I h) λc s1 ⟨H1,I1,q1⟩=>?_);cases c with| true=>exact hb wh ao s1 aj H1 Q I1 q1| false=>exact ⟨H1,I1,q1⟩
theorem pw_or(ha:PT X a tA)(hb:PW X (.BoolOp .Or (b :: rest) pos) zU):PW X (.BoolOp .Or (a :: b :: rest) pos) (tOr tA zU):=by intro wh ao s aj H Q I h;refine isTrue_or (bH (ha ao s aj H _ I h) λc s1 ⟨H1,I1,q1⟩=>?_);cases c with| true=>exact ⟨H1,I1,q1⟩| false=>exact hb wh ao s1 aj H1 Q I1 q1
theorem dg(ha:PT X a tA):PT X (.UnaryOp .Not a pos) (alv tA):=by intro ao s aj H Q I h;exact isTrue_not (ha ao s aj H (λc H1=>Q (!c) H1) I h)
theorem oF{op}{t:TE}(h:PE X a t):PE X (.BoolOp op [a] pos) t:=λao s aj H Q I hw=>BoolOp_one (h ao s aj H Q I hw)
end
noncomputable def aV(K:bV)(H:Hp)(a:au)(xs:List V):Prop :=
 Rd H a (.lst xs) \/
   ∃(o:Obj)(its:Array aB)(n:Nat),K.lookup a=some o/\o.cls=.type "list"/\o.dict=none/\o.data=.seq its n/\its.size<=aO/\cD xs its.toList
noncomputable def aH(K:bV)(H:Hp)(a:au)(xs:List V):Prop :=
 Rd H a (.tup xs) \/
   ∃(o:Obj)(its:Array aB)(n:Nat),K.lookup a=some o/\o.cls=.type "tuple"/\o.data=.seq its n/\its.size<=aO/\cD xs its.toList
noncomputable def amK:aB->Option V
 | .none=>some .non
 | .bool b=>some (.bl b)
 | .int i _=>some (.int i)
 | .str x _=>some (.str x)
 | .bytes b _=>some (.tE b)
 | .float b _=>some (.flt b)
 | .ref a=>some (.ref a)
 | .type n=>some (.ty n)
 | _=>none
variable{x:V}
theorem cO.abs(r:cO x u):amK u=some x:=by cases x with| non=>cases r; rfl| bl _=>cases r; rfl| int _=>obtain ⟨t,rfl⟩:=r; rfl| str _=>obtain ⟨t,rfl⟩:=r; rfl| tE _=>obtain ⟨t,rfl⟩:=r; rfl| flt _=>obtain ⟨t,rfl⟩:=r; rfl| ref _=>cases r; rfl| ty _=>cases r; rfl
variable{y:V}
theorem cO.inj(r:cO x u)(q:cO y u):x=y:=j6 (r.abs.symm.aA q.abs)
theorem cD.inj:∀{xs ys:List V}{us:List aB},cD xs us->cD ys us->xs=ys
 | _,_,_,.nil,.nil=>rfl
 | _,_,_,.cons r t,.cons r' t'=>by rw [r.inj r',cD.inj t t']
variable{K:bV}
theorem aV.of(h:H a=some (.lst xs)):aV K H a xs:=.inl (.inl h)
theorem aH.of(h:H a=some (.tup xs)):aH K H a xs:=.inl (.inl h)
variable{aj:St}
theorem Inv.list(I:Inv X ao aj H s)(h:aV X.K H a xs):∃ its:List aB,cD xs its/\PlainL s.heap a its.toArray/\xs.length<=aO:=by rcases h with h | ⟨o,its,n,hk,hc,hd,hs,hz,r⟩;obtain ⟨z,its,n,r,e⟩:=h.ok I.hok;exact ⟨its,r,⟨_,n,e,rfl,rfl,rfl⟩,z⟩;refine ⟨its.toList,r,⟨o,n,I.jM a o hk,hc,hd,by simpa using hs⟩,?_⟩;have e:=r.length;simp only [tO] at e;omega
theorem Inv.tuple(I:Inv X ao aj H s)(h:aH X.K H a xs):∃ its:List aB,cD xs its/\pO s.heap a its.toArray/\xs.length<=aO:=by rcases h with h | ⟨o,its,n,hk,hc,hs,hz,r⟩;obtain ⟨z,its,r,p⟩:=h.ok I.hok;exact ⟨its,r,p.to,z⟩;refine ⟨its.toList,r,⟨o,I.jM a o hk,hc,n,by simpa using hs⟩,?_⟩;have e:=r.length;simp only [tO] at e;omega
variable{ys:List V}
theorem Inv.agW(I:Inv X ao aj H s)(h:aV X.K H a xs)(h':aV X.K H a ys):xs=ys:=by obtain ⟨its,r,⟨o,n,e,_,_,d⟩,_⟩:=I.list h;obtain ⟨its',r',⟨o',n',e',_,_,d'⟩,_⟩:=I.list h';rw [e] at e'; cases e';rw [d] at d';injection d' with d1 _;have:its=its':=(by simpa using jr Array.toList d1);subst this;exact r.inj r'
theorem Inv.abU(I:Inv X ao aj H s)(h:aH X.K H a xs)(h':aH X.K H a ys):xs=ys:=by obtain ⟨its,r,⟨o,e,_,n,d⟩,_⟩:=I.tuple h;obtain ⟨its',r',⟨o',e',_,n',d'⟩,_⟩:=I.tuple h';rw [e] at e'; cases e';rw [d] at d';injection d' with d1 _;have:its=its':=(by simpa using jr Array.toList d1);subst this;exact r.inj r'
noncomputable abbrev Cx.wish(X:Cx)(E:aB->aK->Prop):Cx:={ X with xe:=E }
noncomputable abbrev Cx.nox(X:Cx):Cx:=X.wish λ_ _=>False
theorem Cx.Ok.wish(ok:X.Ok)(E:aB->aK->Prop):(X.wish E).Ok :=
 ⟨ok.mod,ok.kind,ok.glob,ok.blt,ok.above,ok.inj,ok.has,ok.cab,ok.hd,ok.frames,ok.stk,ok.yN,ok.bs,ok.wQ,ok.Gu,ok.BZ,ok.sX,ok.zF⟩
theorem Cx.Ok.zJ(ok:(X.wish E).Ok):X.Ok :=
 ⟨ok.mod,ok.kind,ok.glob,ok.blt,ok.above,ok.inj,ok.has,ok.cab,ok.hd,ok.frames,ok.stk,ok.yN,ok.bs,ok.wQ,ok.Gu,ok.BZ,ok.sX,ok.zF⟩
theorem Inv.wish(I:Inv X ao aj H s)(E:aB->aK->Prop):Inv (X.wish E) ao aj H s:=⟨I.ok.wish E,I.os,I.bare,I.base,I.loc,I.cell,I.free,I.qJ,I.pin,I.hok,I.len⟩
theorem Inv.zJ(I:Inv (X.wish E) ao aj H s):Inv X ao aj H s:=⟨I.ok.zJ,I.os,I.bare,I.base,I.loc,I.cell,I.free,I.qJ,I.pin,I.hok,I.len⟩
variable{D:Ends}
theorem SP.zJ{f:Flow}(h:SP (X.wish E) ao D f s'):SP X ao D f s':=by cases f with| next=>obtain ⟨bA,H',I,q⟩:=h; exact ⟨bA,H',I.zJ,q⟩| brk=>obtain ⟨bA,H',I,q⟩:=h; exact ⟨bA,H',I.zJ,q⟩| cont=>obtain ⟨bA,H',I,q⟩:=h; exact ⟨bA,H',I.zJ,q⟩| ret u=>obtain ⟨v,bA,H',I,r,q⟩:=h; exact ⟨v,bA,H',I.zJ,r,q⟩
theorem qH.nox{st:List cA}{t:TS}(h:qH X.nox st t):qH X st t:=λao s aj H D I hw =>
 jx (h ao s aj H D (I.wish _) hw) (λ_ _ q=>q.zJ) λ_ _ z=>ou z
section
variable{X:Cx}{st:cA}{rest:List cA}{t u:TS}{e:Expr}{te:TE}{pos:Pos}
noncomputable def adq:TS:=λD aj H=>D.nx aj H
noncomputable def KZ(t u:TS):TS:=λD aj H=>t { D with nx:=u D } aj H
theorem cN:qH X [] adq:=λ_ _ aj H _ I h=>Jc ⟨aj,H,I,h⟩
theorem aP(h1:PS X st t)(h2:qH X rest u):qH X (st :: rest) (KZ t u):=by intro ao s aj H D I h;refine Vj (bH (h1 ao s aj H { D with nx:=u D } I h) λf s1 q=>?_);cases f with| next =>obtain ⟨bA,H',I',q⟩:=q;exact h2 ao s1 bA H' D I' q| ret v=>exact q| brk=>exact q| cont=>exact q
theorem aU(h1:PS X st t):qH X [st] t:=by intro ao s aj H D I h;refine Vj (bH (h1 ao s aj H D I h) λf s1 q=>?_);cases f with| next=>exact Jc q| ret v=>exact q| brk=>exact q| cont=>exact q
theorem Inv.quiet(I:Inv X ao aj H s):interactive X.env=false:=by simp [interactive,I.ok.kind]
noncomputable def ah1(te:TE):TS:=λD aj H=>te aj H λ_ H1=>D.nx aj H1
theorem Cw(he:PE X e te)(hs:BL e none pos.line X.env=pure false:=by rfl):PS X (.Expr e pos) (ah1 te):=by intro ao s aj H D I h;exact wpAny_Expr_any (bH (he ao s aj H _ I h) λv s1 ⟨x,H1,I1,r1,q1⟩=>⟨aj,H1,I1,q1⟩) I.quiet hs
noncomputable def als(te:TE):TS:=λD aj H=>te aj H D.rt
theorem bx(he:PE X e te):PS X (.Return (some e) pos) (als te):=by intro ao s aj H D I h;exact wpAny_Return_some (bH (he ao s aj H _ I h) λv s1 ⟨x,H1,I1,r1,q1⟩=>⟨x,aj,H1,I1,r1,q1⟩)
noncomputable def Vi(c:TT)(t u:TS):TS:=λD aj H=>c aj H λb H1=>if b=true then t D aj H1 else u D aj H1
theorem cP{c:Expr}{a b:List cA}{tc:TT}(hc:PT X c tc)(ha:qH X a t)(hb:qH X b u):PS X (.If c a b pos) (Vi tc t u):=by intro ao s aj H D I h;refine wpAny_If (bH (hc ao s aj H _ I h) λd s1 ⟨H1,I1,q1⟩=>?_);cases d with| true=>exact ha ao s1 aj H1 D I1 q1| false=>exact hb ao s1 aj H1 D I1 q1
noncomputable def aod:TS:=λ_ _ _=>False
theorem an6:PS X st aod:=λ_ _ _ _ _ _ h=>h.elim
end
noncomputable abbrev TG:=V->St->Hp->(St->Hp->Prop)->Prop
noncomputable abbrev TGs:=List V->St->Hp->(St->Hp->Prop)->Prop
noncomputable def PG(X:Cx)(target:Expr)(t:TG):Prop :=
 ∀(ao:List (au × Obj))(s:aK)(aj:St)(H:Hp)(v:V)(u:aB)(Q:St->Hp->Prop),Inv X ao aj H s->cO v u->t v aj H Q ->
   aJ (aN X.prog X.w) X.A (assign target X.env u) (λ_ s'=>∃ bA H',Inv X ao bA H' s'/\Q bA H') X.xe s
noncomputable def PGs(X:Cx)(ts:List Expr)(t:TGs):Prop :=
 ∀(ao:List (au × Obj))(s:aK)(aj:St)(H:Hp)(vs:List V)(us:List aB)(Q:St->Hp->Prop),Inv X ao aj H s->cD vs us->t vs aj H Q ->
   aJ (aN X.prog X.w) X.A (assignInOrder ((assignEach ts X.env).map (·.2)) us) (λ_ s'=>∃ bA H',Inv X ao bA H' s'/\Q bA H') X.xe s
noncomputable abbrev XC:=V->V->V->Hp->(Hp->Prop)->Prop
noncomputable def UG(X:Cx)(t:XC):Prop :=
 ∀(ao:List (au × Obj))(s:aK)(aj:St)(H:Hp)(o i v:V)(ov iv u:aB)(Q:Hp->Prop),Inv X ao aj H s->cO o ov->cO i iv->cO v u->t o i v H Q ->
   aJ (aN X.prog X.w) X.A (setItem ov iv u) (λ_ s'=>∃ H',Inv X ao aj H' s'/\Q H') X.xe s
noncomputable def xG(i:Nat):TG:=λv aj H Q=>Q (aj.set i (some v)) H
variable{x:Str}{pos:Pos}
theorem Zf(hN:X.N.Nodup)(hi:X.N[i]?=some x)(hx:Loc X.env.scope x)(hf:X.fn x=true\/X.env.scope.names.lookup x=some .local:=by first | exact .inl rfl | exact .inr rfl | assumption):PG X (.Name x pos) (xG i):=by intro ao s aj H v u Q I r h;exact VF (MJ I hN hi hx r (λs' I'=>⟨_,H,I',h⟩) hf)
noncomputable def al1:TGs:=λvs aj H Q=>vs=[]/\Q aj H
inductive aoz(t:TG)(u:TGs)(vs:List V)(aj:St)(H:Hp)(Q:St->Hp->Prop):Prop|mk v r(_:vs=v :: r)(_:t v aj H fun bA H'=>u r bA H' Q)
theorem jE:PGs X [] al1:=by intro ao s aj H vs us Q I r h;obtain ⟨e,h⟩:=h;subst e;cases r;exact assignInOrder_nil ⟨aj,H,I,h⟩
variable{es:List Expr}
theorem cI{t:TG}{u:TGs}(h1:PG X e t)(h2:PGs X es u)(hs:(assignEach (e :: es) X.env).map (·.2)=assign e X.env :: (assignEach es X.env).map (·.2):=by rfl):PGs X (e :: es) (aoz t u):=by intro ao s aj H vs us Q I r h;obtain ⟨v,vr,e1,h⟩:=h;subst e1;cases r with| cons r rr =>rw [hs];refine assignInOrder_cons (bH (h1 ao s aj H _ _ _ I r h) λ_ s1 ⟨am0,H1,I1,q1⟩=>?_);exact h2 ao s1 am0 H1 _ _ Q I1 rr q1
inductive akt(K:bV)(n:Nat)(t:TGs)(v:V)(aj:St)(H:Hp)(Q:St->Hp->Prop):Prop|mk a xs(_:v=.ref a)(_:aH K H a xs)(_:xs.length=n)(_:t xs aj H Q)
theorem jG{k:Nat}{t:TGs}{n:Nat}(hc:X.calm=true)(h:PGs X es t)(hn:(assignEach es X.env).length=n:=by rfl)(hst:(assignEach es X.env).findIdx? (·.1)=none:=by rfl):PG X (.Tuple es k pos) (akt X.K n t):=by intro ao s aj H v u Q I r hw;obtain ⟨a,xs,e1,hq,hl,hw⟩:=hw;subst e1;cases r;obtain ⟨its,rv,ht,hz⟩:=I.tuple hq;refine assign_Tuple_tuple (I.ok.hd hc) ht (by simp [hn,<- hl,rv.length]) hst λh' hx=>?_;have I1:Inv X ao aj H { s with heap:=h' }:=I.kept (t':=s.toks) λb o e=>hx b o (fB (bQ e)) e;exact h ao _ aj H xs _ Q I1 (by simpa using rv) hw
noncomputable def alZ(to ti:TE)(t:XC):TG:=λv aj H Q=>to aj H λo H1=>ti aj H1 λi H2=>t o i v H2 λH3=>Q aj H3
theorem apG{o i:Expr}{to ti:TE}{t:XC}(ho:PE X o to)(hi:PE X i ti)(hs:UG X t)(ha:∀ v,assign (.Subscript o i pos) X.env v=(do
     let ov <- holding [v] (eval o X.env)
     let iv <- holding [v,ov] (eval i X.env)
     standAt pos
     holding [v,ov,iv] (setItem ov iv v)
     release [v,ov,iv] []):=by intro _; rfl):PG X (.Subscript o i pos) (alZ to ti t):=by
 intro ao s aj H v u Q I r h;rw [ha];refine aG (jO (bH (ho ao s aj H _ I h) λov s1 ⟨x,H1,I1,r1,q1⟩=>?_));refine aG (jO (bH (hi ao s1 aj H1 _ I1 q1) λiv s2 ⟨y,H2,I2,r2,q2⟩=>?_));refine aG (vo (aG (jO (bH (hs ao s2 aj H2 x y v ov iv u _ I2 r1 r2 r q2) λ_ s3 ⟨H3,I3,q3⟩=>?_))));exact wpAny_release ⟨aj,H3,I3,q3⟩
noncomputable def Bl(te:TE)(g:TG):TS:=λD aj H=>te aj H λx H1=>g x aj H1 D.nx
variable{tg:Expr}{te:TE}{g:TG}
theorem vY(he:PE X e te)(hg:PG X tg g)(hs:swapsWithSole [tg] e pos.line X.env=pure false:=by rfl)(hw:swappedStores [tg] e X.env=pure none:=by rfl)(h1:(assignEach [tg] X.env).map (·.2)=[assign tg X.env]:=by rfl):PS X (.Assign [tg] e pos) (Bl te g):=by
 intro ao s aj H D I h;refine wpAny_Assign_stores (bH (he ao s aj H _ I h) λv s1 ⟨x,H1,I1,r1,q1⟩=>?_) hs hw;rw [h1];exact bH (hg ao s1 aj H1 x v _ I1 r1 q1) λ_ s2 q=>q
variable{pos':Pos}
theorem al3(hN:X.N.Nodup)(hi:X.N[i]?=some x)(hx:Loc X.env.scope x)(he:PE X e te)(hs:BL e (some (.Name x pos')) pos.line X.env=pure false:=by rfl)(hf:X.fn x=true\/X.env.scope.names.lookup x=some .local:=by first | exact .inl rfl | exact .inr rfl | assumption):
   PS X (.Assign [.Name x pos'] e pos) (Bl te (xG i)):=by
 intro ao s aj H D I h;refine Zw (bH (he ao s aj H _ I h) λv s1 ⟨y,H1,I1,r1,q1⟩=>?_) hs;exact MJ I1 hN hi hx r1 (λs2 I2=>⟨_,H1,I2,q1⟩) hf
structure It where
 go:Nat->Hp->Prop
 sO:Nat->Hp->V->Hp->Prop
 stop:Nat->Hp->Prop
noncomputable def jd(X:Cx)(ao:List (au × Obj))(H:Hp)(b:au):Prop :=
 H b=none/\b≠X.env.locals/\b ∉ X.fs/\(b∈X.ex\/X.s₀.heap.objs.size<=b)/\(∀ x c,X.env.cells.lookup x=some c->c≠b)/\∀ p∈X.pn++ao,p.1≠b
theorem Inv.ug(I:Inv X ao aj H s)(hb:s.heap.objs.size<=b)(hn:H' b=none):jd X ao H' b:=by refine ⟨hn,qp (jL I.lt hb),I.agM hb,.inr (jF I.sz hb),λx c e z=>?_,λp hp z=>?_⟩;obtain ⟨v,q⟩:=I.cell x c e;exact bO (jL q.lt (by rw [z]; exact hb)) (qF _);exact bO (jL (bQ (I.pin p hp).1) (by rw [z]; exact hb)) (qF _)
structure Turn(P:gk)(w:fK)(K:bV)(tg:Expr)(J:It)(fp:List au)(it:au)(tn:Nat->aY->Prop):Prop where
 mem:it∈fp
 obj:∀ i h,tn i h->∀ b∈fp,∃ o,h.get? b=some o/\∀ v,o.data≠.cell v
 keep:∀ i h h',tn i h->(∀ b∈fp,∀ o,h.get? b=some o->h'.get? b=some o)->tn i h'
 item:∀(X:Cx),X.prog=P->X.w=w->X.K=K->X.calm=true->∀(i:Nat)(ao:List (au × Obj))(s:aK)(aj:St)(H:Hp)(E:aB->aK->Prop),Inv X ao aj H s->(∀ b∈fp,jd X ao H b)->tn i s.heap->J.go i H ->
   aJ (aN P w) X.A (pyNext (.ref it)) (λr s1=>∃ u,r=some u /\
     aJ (aN P w) X.A (letOwnedTupleGo tg (.ref it) u) (λ_ s2=>rz λx H'=>jJ (Inv X ao aj H' s2) (cO x u) (J.sO i H x H') (tn (i+1) s2.heap) (∀ b∈fp,H' b=none)) E s1) E s
 done:∀(X:Cx),X.prog=P->X.w=w->X.K=K->X.calm=true->∀(i:Nat)(ao:List (au × Obj))(s:aK)(aj:St)(H:Hp)(E:aB->aK->Prop),Inv X ao aj H s->(∀ b∈fp,jd X ao H b)->tn i s.heap->J.stop i H ->
   aJ (aN P w) X.A (pyNext (.ref it)) (λr s1=>r=none/\Inv X ao aj H s1) E s
 self:∀(A:iI)(i:Nat)(s:aK)(Q:aB->aK->Prop)(E:aB->aK->Prop),tn i s.heap->Q (.ref it) s->aJ (aN P w) A (pyIter (.ref it)) Q E s
noncomputable abbrev TI:=St->Hp->(It->Hp->Prop)->Prop
inductive PIE(X:Cx)(ao:List (au × Obj))(aj:St)(tg:Expr)(R:It->Hp->Prop)(itv:aB)(s2:aK):Prop|mk (it:au) (fp:List au) (tn:Nat->aY->Prop) (J:It) (H':Hp)(_:itv=.ref it)(_:Inv X ao aj H' s2)(_:Turn X.prog X.w X.K tg J fp it tn)(_:tn 0 s2.heap)(_:(∀ b∈fp,jd X ao H' b))(_:R J H')
noncomputable def PI(X:Cx)(tg iter:Expr)(wi:TI):Prop :=
 ∀(ao:List (au × Obj))(s:aK)(aj:St)(H:Hp)(R:It->Hp->Prop),Inv X ao aj H s->wi aj H R ->
   aJ (aN X.prog X.w) X.A (eval iter X.env) (λv s1=>aJ (aN X.prog X.w) X.A (pyIter v) (PIE X ao aj tg R) X.xe s1) X.xe s
variable{o:Obj}
theorem Ad{n:String}{vs:Array aB}(ho:s.heap.get? it=some o)(hc:o.cls=.type n)(hd:o.data=.fields vs)(hn:["enumerate","zip","dict_itemiterator","dict_reverseitemiterator","odict_iterator","itertools.zip_longest","itertools.pairwise"].contains n=false)(hQ:Q () s):aJ M A (letOwnedTupleGo tg (.ref it) u) Q E s:=by
 unfold letOwnedTupleGo
 cases tg <;> first
   | exact aR hQ
   | (cases u <;> first
       | exact aR hQ
       | (refine aG (wpAny_load ho ?_)
          rw [hc,hd];show aJ M A (if (["enumerate","zip","dict_itemiterator","dict_reverseitemiterator","odict_iterator","itertools.zip_longest","itertools.pairwise"].contains n && vs[0]? == some (rawInt _))=true then _ else _) Q E s;rw [aZ (by intro h; rw [hn,rY] at h; cases h)]
          exact aR hQ))
noncomputable def Ac(K:bV)(a:au):It :=
 ⟨λi H=>∃ xs x,aV K H a xs/\xs[i]?=some x,λi H x H'=>H'=H/\∀ xs,aV K H a xs->xs[i]?=some x,λi H=>∃ xs,aV K H a xs/\xs.length<=i⟩
noncomputable def wO(K:bV)(a:au):It :=
 ⟨λi H=>∃ xs x,aH K H a xs/\xs[i]?=some x,λi H x H'=>H'=H/\∀ xs,aH K H a xs->xs[i]?=some x,λi H=>∃ xs,aH K H a xs/\xs.length<=i⟩
noncomputable def Itr(lo:Int)(n:Nat):It:=⟨λi _=>i<n,λi H x H'=>H'=H/\x=.int (lo+i),λi _=>n<=i⟩
theorem am3(a it:au):Turn P w K tg (Ac K a) [it] it (λi h=>h.IsListIter it a i) where
 mem:=by simp
 obj:=λi h st b hb=>by
   have e:b=it:=by simpa using hb
   subst e;obtain ⟨o,e,c,d⟩:=st;exact ⟨o,e,λv z=>by rw [d] at z; cases z⟩
 keep:=λi h h' st k=>st.at λo e=>k it (by simp) o e
 item:=by
   intro X hP hw hK hc i ao s aj H E I hf st hg;subst hP hw hK;obtain ⟨xs,x,hq,hx⟩:=hg;obtain ⟨its,rv,p,hz⟩:=I.list hq;obtain ⟨u,hu,ru⟩:=rv.get hx;obtain ⟨f0,f1,f2,f3,f4,f5⟩:=hf it (by simp);refine Z8 st p.isList (x:=u) (by simpa using hu) λh' st' sb=>?_
   have I1:Inv X ao aj H { s with heap:=h' }:=I.turned (t':=s.toks) (λb o hb e=>(sb.2 b hb).aA e) f0 f1 f3 f4 f5;obtain ⟨o,e,c,d⟩:=id st';exact ⟨u,rfl,Ad (s:={ s with heap:=h' }) e c d (by decide) ⟨x,H,I1,ru,⟨rfl,λys hy=>by rw [I.agW hy hq]; exact hx⟩,st',λb hb=>(hf b hb).1⟩⟩
 done:=by
   intro X hP hw hK hc i ao s aj H E I hf st hg;subst hP hw hK;obtain ⟨xs,hq,hx⟩:=hg;obtain ⟨its,rv,p,hz⟩:=I.list hq;obtain ⟨f0,f1,f2,f3,f4,f5⟩:=hf it (by simp);have hl:=rv.length;exact wpAny_pyNext_list_end (I.ok.hd hc) st p.isList (by simp; omega) λh' eb=>⟨rfl,I.turned (t':=s.toks) (λb o hb e=>eb b o hb e) f0 f1 f3 f4 f5⟩
 self:=λ_ _ _ _ _ st h=>acN st h
theorem aoD(a it:au):Turn P w K tg (wO K a) [it] it (λi h=>h.IsTupleIter it a i) where
 mem:=by simp
 obj:=λi h st b hb=>by
   have e:b=it:=by simpa using hb
   subst e;obtain ⟨o,e,c,d⟩:=st;exact ⟨o,e,λv z=>by rw [d] at z; cases z⟩
 keep:=λi h h' st k=>st.at λo e=>k it (by simp) o e
 item:=by
   intro X hP hw hK hc i ao s aj H E I hf st hg;subst hP hw hK;obtain ⟨xs,x,hq,hx⟩:=hg;obtain ⟨its,rv,p,hz⟩:=I.tuple hq;obtain ⟨u,hu,ru⟩:=rv.get hx;obtain ⟨f0,f1,f2,f3,f4,f5⟩:=hf it (by simp);refine QJ st (show s.heap.IsTuple a its.toArray from p) (x:=u) (by simpa using hu) λh' st' sb=>?_
   have I1:Inv X ao aj H { s with heap:=h' }:=I.turned (t':=s.toks) (λb o hb e=>(sb.2 b hb).aA e) f0 f1 f3 f4 f5;obtain ⟨o,e,c,d⟩:=id st';exact ⟨u,rfl,Ad (s:={ s with heap:=h' }) e c d (by decide) ⟨x,H,I1,ru,⟨rfl,λys hy=>by rw [I.abU hy hq]; exact hx⟩,st',λb hb=>(hf b hb).1⟩⟩
 done:=by
   intro X hP hw hK hc i ao s aj H E I hf st hg;subst hP hw hK;obtain ⟨xs,hq,hx⟩:=hg;obtain ⟨its,rv,p,hz⟩:=I.tuple hq;obtain ⟨f0,f1,f2,f3,f4,f5⟩:=hf it (by simp);have hl:=rv.length;exact aag (I.ok.hd hc) st (show s.heap.IsTuple a its.toArray from p) (by simp; omega) λh' eb=>⟨rfl,I.turned (t':=s.toks) (λb o hb e=>eb b o hb e) f0 f1 f3 f4 f5⟩
 self:=λ_ _ _ _ _ st h=>adt st h
theorem ak8(it:au)(lo:Int)(n:Nat):Turn P w K tg (Itr lo n) [it] it (λi h=>OD h it (lo+(i:Nat) * 1) ((n:Int)-(i:Nat)) 1) where
 mem:=by simp
 obj:=λi h st b hb=>by
   have e:b=it:=by simpa using hb
   subst e
   exact ⟨_,st,λv z=>by
     have z':Ec _=Eh v:=z
     cases z'⟩
 keep:=λi h h' st k=>k it (by simp) _ st
 item:=by
   intro X hP hw hK hc i ao s aj H E I hf st hg;subst hP hw hK;obtain ⟨f0,f1,f2,f3,f4,f5⟩:=hf it (by simp);have W:=Walks.range (prog:=X.prog) (w:=X.w) (I.ok.hd hc) it lo 1 n;refine W.item i s _ _ hg st λv h' tk hv st' kk=>?_
   obtain ⟨t,rfl⟩:=hv;have I1:Inv X ao aj H { s with heap:=h',toks:=tk }:=I.turned (λb o hb e=>kk b o (by simpa using hb) e) f0 f1 f3 f4 f5;refine ⟨_,rfl,Ad (s:={ s with heap:=h',toks:=tk }) (n:="range_iterator") st' rfl rfl (by decide) ⟨.int (lo+i),H,I1,⟨t,?_⟩,⟨rfl,rfl⟩,st',λb hb=>(hf b hb).1⟩⟩;rw [Int.mul_one]
 done:=by
   intro X hP hw hK hc i ao s aj H E I hf st hg;subst hP hw hK;obtain ⟨f0,f1,f2,f3,f4,f5⟩:=hf it (by simp);exact acB (I.ok.hd hc) st (by have:n<=i:=hg; omega) λh' eb=>⟨rfl,I.turned (t':=s.toks) (λb o hb e=>eb b o hb e) f0 f1 f3 f4 f5⟩
 self:=λ_ _ _ _ _ st h=>abF st h
inductive aoS(K:bV)(x:V)(H:Hp)(R:It->Hp->Prop):Prop|mk a(_:x=.ref a)(_:∃ xs,aV K H a xs)(_:R (Ac K a) H)
noncomputable def ajB(K:bV)(tl:TE):TI:=fun aj H R=>tl aj H λx H1=>aoS K x H1 R
inductive afw(K:bV)(x:V)(H:Hp)(R:It->Hp->Prop):Prop|mk a(_:x=.ref a)(_:∃ xs,aH K H a xs)(_:R (wO K a) H)
noncomputable def ajA(K:bV)(tl:TE):TI:=fun aj H R=>tl aj H λx H1=>afw K x H1 R
variable{l:Expr}{tl:TE}
theorem vR(hl:PE X l tl):PI X tg l (ajB X.K tl):=by intro ao s aj H R I h;refine bH (hl ao s aj H _ I h) λv s1 ⟨x,H1,I1,r1,q1⟩=>?_;obtain ⟨a,e,⟨xs,hq⟩,q⟩:=q1;subst e;cases r1;obtain ⟨its,rv,p,hz⟩:=I1.list hq;refine Av p.isList ?_;refine ⟨s1.heap.objs.size,[s1.heap.objs.size],_,_,H1,rfl,I1.kept (t':=s1.toks) λb o e=>cR _ e,am3 a _,⟨_,gq _ rfl,rfl,rfl⟩,λb hb=>?_,q⟩;have e:b=s1.heap.objs.size:=(by simpa using hb);subst e;exact I1.ug (bG _) (I1.hok.fresh (bG _))
theorem fY(hl:PE X l tl):PI X tg l (ajA X.K tl):=by intro ao s aj H R I h;refine bH (hl ao s aj H _ I h) λv s1 ⟨x,H1,I1,r1,q1⟩=>?_;obtain ⟨a,e,⟨xs,hq⟩,q⟩:=q1;subst e;cases r1;obtain ⟨its,rv,p,hz⟩:=I1.tuple hq;refine Te (show s1.heap.IsTuple a its.toArray from p) ?_;refine ⟨s1.heap.objs.size,[s1.heap.objs.size],_,_,H1,rfl,I1.kept (t':=s1.toks) λb o e=>cR _ e,aoD a _,⟨_,gq _ rfl,rfl,rfl⟩,λb hb=>?_,q⟩;have e:b=s1.heap.objs.size:=(by simpa using hb);subst e;exact I1.ug (bG _) (I1.hok.fresh (bG _))
variable{lo:Int}
theorem ZK{R:It->Hp->Prop}{hi:Int}{t u v:Tok}{tk:Nat}(I:Inv X ao aj H s)(h1:-(2 ^ 62)<=lo)(h2:lo<2 ^ 62)(h3:-(2 ^ 62)<=hi)(h4:hi<2 ^ 62)(q:R (Itr lo (hi-lo).toNat) H):aJ (aN X.prog X.w) X.A (pyIter (.ref s.heap.objs.size)) (PIE X ao aj tg R) E { s with heap:=s.heap.push { cls:=.type "range",data:=.fields #[.int lo t,.int hi u,.int 1 v] },toks:=tk }:=by refine aaz (IsRange.new ..) (small_one h1 h2 h3 h4) ?_;have I1:Inv X ao aj H { s with heap:=s.heap.push { cls:=.type "range",data:=.fields #[.int lo t,.int hi u,.int 1 v] },toks:=tk }:=I.kept λb o e=>cR _ e;refine ⟨(s.heap.push { cls:=.type "range",data:=.fields #[.int lo t,.int hi u,.int 1 v] }).objs.size,[(s.heap.push { cls:=.type "range",data:=.fields #[.int lo t,.int hi u,.int 1 v] }).objs.size],_,_,H,rfl,I1.kept (t':=tk) λb o e=>cR _ e,ak8 _ lo (hi-lo).toNat,?_,λb hb=>?_,q⟩;have e1:lo+((0:Nat):Int) * 1=lo:=(by simp);have e2:(((hi-lo).toNat:Nat):Int)-((0:Nat):Int)=uO lo hi 1:=(by rw [rangeSize_one]; split <;> omega);show OD _ _ (lo+((0:Nat):Int) * 1) ((((hi-lo).toNat:Nat):Int)-((0:Nat):Int)) 1;rw [e1,e2];exact gq _ rfl;have e:b=(s.heap.push { cls:=.type "range",data:=.fields #[.int lo t,.int hi u,.int 1 v] }).objs.size:=(by simpa using hb);subst e;exact I1.ug (bG _) (I1.hok.fresh (bG _))
inductive ajP(vs:List V)(H:Hp)(R:It->Hp->Prop):Prop|mk (j:Int)(_:vs=[.int j])(_:-(2 ^ 62)<=j)(_:j<2 ^ 62)(_:R (Itr 0 j.toNat) H)
noncomputable def aj4(ta:TA):TI:=fun aj H R=>ta aj H λvs H1=>ajP vs H1 R
noncomputable def amj(ta:TA):TI:=fun aj H R=>ta aj H λvs H1=>∃ i j:Int,vs=[.int i,.int j]/\(-(2 ^ 62)<=i/\i<2 ^ 62/\-(2 ^ 62)<=j/\j<2 ^ 62)/\R (Itr i (j-i).toNat) H1
variable{a:Expr}{ta:TA}{p:Pos}
theorem yq(hg:Gl X "range")(hm:X.mg "range" = none)(ha:PA X [a] ta)(hs:gA [a] X.env=[(false,eval a X.env)]:=by rfl):PI X tg (.Call (.Name "range" p) [a] [] pos) (aj4 ta):=by intro ao s aj H R I h;refine Ci (xP I hg hm Sg (Bp (bH (ha pos ao s aj H _ I h) λus s1 ⟨vs,H1,I1,r1,q1⟩=>?_) hs rfl));obtain ⟨j,e,q1,q2,q⟩:=q1;subst e;cases r1 with| cons r rr =>cases rr;obtain ⟨t,rfl⟩:=r;exact call_range_1 (ZK I1 (by omega) (by omega) q1 q2 (by simpa using q))
theorem am8{b:Expr}(hg:Gl X "range")(hm:X.mg "range" = none)(ha:PA X [a,b] ta)(hs:gA [a,b] X.env=[(false,eval a X.env),(false,eval b X.env)]:=by rfl)(hs2:gA [b] X.env=[(false,eval b X.env)]:=by rfl):
   PI X tg (.Call (.Name "range" p) [a,b] [] pos) (amj ta):=by
 intro ao s aj H R I h;refine Ci (xP I hg hm Sg (Bp (bH (ha pos ao s aj H _ I h) λus s1 ⟨vs,H1,I1,r1,q1⟩=>?_) (by rw [hs,hs2]) (by rw [hs2]; rfl)));obtain ⟨i,j,e,⟨q1,q2,q3,q4⟩,q⟩:=q1;subst e;cases r1 with
 | cons r rr =>
   cases rr with
   | cons r' rr =>
     cases rr;obtain ⟨t,rfl⟩:=r;obtain ⟨t',rfl⟩:=r';exact call_range_2 (ZK I1 q1 q2 q3 q4 q)
noncomputable def aoT(wi:TI)(g:TG)(tb:TS):TS:=λD aj H=>wi aj H λJ H1=>∃ W:Nat->Nat->St->Hp->Prop,(∃ m,W 0 m aj H1)/\∀ i m aj H,W i m aj H ->
 (J.stop i H/\D.nx aj H)\/(J.go i H/\∃ N:St->Hp->Prop,(∀ bA H',N bA H'->∃ m',m'<m/\W (i+1) m' bA H')/\∀ x H',J.sO i H x H'->g x aj H' fun dJ H2=>tb { D with nx:=N,ct:=N,bk:=D.nx } dJ H2)
noncomputable def Cd(fp:List au)(h:aY):List (au × Obj):=fp.filterMap λb=>(h.get? b).map λo=>(b,o)
variable{fp:List au}
theorem Bt{h:aY}(hb:b∈fp)(e:h.get? b=some o):(b,o)∈Cd fp h:=Qz.mpr ⟨b,hb,by rw [e]; rfl⟩
theorem aml{h:aY}{p:au × Obj}(hp:p∈Cd fp h):p.1∈fp/\h.get? p.1=some p.2:=by obtain ⟨b,hb,e⟩:=Qz.mp hp;cases q:h.get? b with| none=>rw [q] at e; cases e| some o =>rw [q] at e;have e':(b,o)=p:=j6 e;subst e';exact ⟨hb,q⟩
theorem Inv.pinned(I:Inv X ao aj H s)(hf:∀ b∈fp,jd X ao H b)(ho:∀ b∈fp,∃ o,s.heap.get? b=some o/\∀ v,o.data≠.cell v):Inv X (ao++Cd fp s.heap) aj H s :=
 I.Yo λp hp=>(iC.mp hp).elim (λz=>I.pin p (lV _ z)) λz=>by
   obtain ⟨hb,e⟩:=aml z;obtain ⟨f0,f1,f2,_⟩:=hf p.1 hb;obtain ⟨o,e',d⟩:=ho p.1 hb;rw [e] at e'; cases e';exact ⟨e,f0,f1,f2,d⟩
theorem Inv.Gk{pl:List (au × Obj)}(I:Inv X (ao++pl) aj H s):Inv X ao aj H s:=I.Yo λp hp=>I.pin p (lV _ (Jq _ hp))
variable{body:List cA}{tb:TS}
theorem lG{iter:Expr}{wi:TI}(hp:PassesOwn (aN X.prog X.w) X.A X.env X.xe)(hc:X.calm=true)(hi:PI X tg iter wi)(hg:PG X tg g)(hb:qH X body tb)(hs:∀ x,qz iter X.env x=pure x:=by intro _; rfl):PS X (.For tg iter body [] pos) (aoT wi g tb):=by intro ao s aj H D I h;refine wpAny_For (bH (hi ao s aj H _ I h) λv s1 h1=>bH h1 λitv s2 h2=>?_) hs;obtain ⟨it,fp,tn,J,H2,e,I2,T,st2,f2,W,⟨m0,w0⟩,turn⟩:=h2;subst e;have stat:∀{H':Hp},(∀ b∈fp,H' b=none)->∀ b∈fp,jd X ao H' b:=λhn b hb=>⟨hn b hb,(f2 b hb).2⟩;refine codeAny_forLoop_any (λn s'=>∃ i bA H',Inv X ao bA H' s'/\tn i s'.heap/\(∀ b∈fp,H' b=none)/\W i n bA H') ?_ m0 ⟨0,aj,H2,I2,st2,λb hb=>(f2 b hb).1,w0⟩;rintro n s3 ⟨i,zq,H3,I3,st3,zB,w3⟩;rcases turn i n zq H3 w3 with ⟨stop,qn⟩ | ⟨go,N,hN,step⟩;refine JR hp (bH (T.done X rfl rfl rfl hc i ao s3 zq H3 X.xe I3 (stat zB) st3 stop) λr s4 ⟨hr,I4⟩=>?_);subst hr;exact Jc ⟨zq,H3,I4,qn⟩;refine JR hp (bH (T.item X rfl rfl rfl hc i ao s3 zq H3 X.xe I3 (stat zB) st3 go) λr s4 ⟨u,hr,h4⟩=>?_);subst hr;refine JR hp (bH h4 λ_ s5 ⟨x,H5,I5,r5,y5,st5,fr5⟩=>?_);have I5':=I5.pinned (stat fr5) (T.obj _ _ st5);refine JR hp (bH (hg _ s5 zq H5 x u _ I5' r5 (step x H5 y5)) λ_ s6 ⟨agm,H6,I6,q6⟩=>?_);refine JR hp (bH (hb _ s6 agm H6 _ I6 q6) λf s7 q7=>?_);have again:∀{mq:St}{H7:Hp},Inv X (ao++Cd fp s5.heap) mq H7 s7->N mq H7->∃ m,m<n/\∃ i bA H',Inv X ao bA H' s7/\tn i s7.heap/\(∀ b∈fp,H' b=none)/\W i m bA H':=λ{mq H7} I7 n7=>(by obtain ⟨m',hm,w7⟩:=hN mq H7 n7;refine ⟨m',hm,i+1,mq,H7,I7.Gk,T.keep _ _ _ st5 λb hb o e=>(I7.pin (b,o) (lV _ (lV _ (Bt hb e)))).1,λb hb=>?_,w7⟩;obtain ⟨o,e,d⟩:=T.obj _ _ st5 b hb;exact (I7.pin (b,o) (lV _ (lV _ (Bt hb e)))).2.1);cases f with| next=>obtain ⟨mq,H7,I7,n7⟩:=q7; exact again I7 n7| cont=>obtain ⟨mq,H7,I7,n7⟩:=q7; exact again I7 n7| brk=>obtain ⟨mq,H7,I7,q7⟩:=q7; exact ⟨mq,H7,I7.Gk,q7⟩| ret v=>obtain ⟨x7,mq,H7,I7,r7,q7⟩:=q7; exact ⟨x7,mq,H7,I7.Gk,r7,q7⟩
variable{a:au}
theorem akU(Pv:Nat->St->Hp->Prop)(h0:Pv 0 aj H)(hl:∀ i aj H,i<=xs.length->Pv i aj H->aV K H a xs)(hs:∀ i x aj H,xs[i]?=some x->Pv i aj H->g x aj H fun dJ H2=>tb { D with nx:=Pv (i+1),ct:=Pv (i+1),bk:=D.nx } dJ H2)(hd:∀ aj H,Pv xs.length aj H->D.nx aj H): ∃ W:Nat->Nat->St->Hp->Prop,(∃ m,W 0 m aj H)/\∀ i m aj H,W i m aj H -> ((Ac K a).stop i H/\D.nx aj H)\/((Ac K a).go i H/\∃ N:St->Hp->Prop,(∀ bA H',N bA H'->∃ m',m'<m/\W (i+1) m' bA H')/\∀ x H',(Ac K a).sO i H x H'->g x aj H' fun dJ H2=>tb { D with nx:=N,ct:=N,bk:=D.nx } dJ H2):=by refine ⟨λi m aj H=>m=xs.length-i/\i<=xs.length/\Pv i aj H,⟨xs.length,by simp,dR _,h0⟩,?_⟩;rintro i m aj H ⟨rfl,hi,p⟩;have q:=hl i aj H hi p;by_cases hlt:i<xs.length;refine .inr ⟨⟨xs,xs[i],q,by simp [hlt]⟩,Pv (i+1),fun bA H' p'=>⟨xs.length-(i+1),by omega,rfl,hlt,p'⟩,λx H' y=>?_⟩;obtain ⟨e,y⟩:=y;subst e;exact hs i x aj _ (y xs q) p;have e:i=xs.length:=(by omega);subst e;exact .inl ⟨⟨xs,q,bG _⟩,hd aj H p⟩
theorem rU(Pv:Nat->St->Hp->Prop)(h0:Pv 0 aj H)(hl:∀ i aj H,i<=xs.length->Pv i aj H->aH K H a xs)(hs:∀ i x aj H,xs[i]?=some x->Pv i aj H->g x aj H fun dJ H2=>tb { D with nx:=Pv (i+1),ct:=Pv (i+1),bk:=D.nx } dJ H2)(hd:∀ aj H,Pv xs.length aj H->D.nx aj H): ∃ W:Nat->Nat->St->Hp->Prop,(∃ m,W 0 m aj H)/\∀ i m aj H,W i m aj H -> ((wO K a).stop i H/\D.nx aj H)\/((wO K a).go i H/\∃ N:St->Hp->Prop,(∀ bA H',N bA H'->∃ m',m'<m/\W (i+1) m' bA H')/\∀ x H',(wO K a).sO i H x H'->g x aj H' fun dJ H2=>tb { D with nx:=N,ct:=N,bk:=D.nx } dJ H2):=by refine ⟨λi m aj H=>m=xs.length-i/\i<=xs.length/\Pv i aj H,⟨xs.length,by simp,dR _,h0⟩,?_⟩;rintro i m aj H ⟨rfl,hi,p⟩;have q:=hl i aj H hi p;by_cases hlt:i<xs.length;refine .inr ⟨⟨xs,xs[i],q,by simp [hlt]⟩,Pv (i+1),fun bA H' p'=>⟨xs.length-(i+1),by omega,rfl,hlt,p'⟩,λx H' y=>?_⟩;obtain ⟨e,y⟩:=y;subst e;exact hs i x aj _ (y xs q) p;have e:i=xs.length:=(by omega);subst e;exact .inl ⟨⟨xs,q,bG _⟩,hd aj H p⟩
variable{n:Nat}
theorem GK(Pv:Nat->St->Hp->Prop)(h0:Pv 0 aj H)(hs:∀ i aj H,i<n->Pv i aj H->g (.int (lo+i)) aj H fun dJ H2=>tb { D with nx:=Pv (i+1),ct:=Pv (i+1),bk:=D.nx } dJ H2)(hd:∀ aj H,Pv n aj H->D.nx aj H): ∃ W:Nat->Nat->St->Hp->Prop,(∃ m,W 0 m aj H)/\∀ i m aj H,W i m aj H -> ((Itr lo n).stop i H/\D.nx aj H)\/((Itr lo n).go i H/\∃ N:St->Hp->Prop,(∀ bA H',N bA H'->∃ m',m'<m/\W (i+1) m' bA H')/\∀ x H',(Itr lo n).sO i H x H'->g x aj H' fun dJ H2=>tb { D with nx:=N,ct:=N,bk:=D.nx } dJ H2):=by refine ⟨λi m aj H=>m=n-i/\i<=n/\Pv i aj H,⟨n,by simp,dR _,h0⟩,?_⟩;rintro i m aj H ⟨rfl,hi,p⟩;by_cases hlt:i<n;refine .inr ⟨hlt,Pv (i+1),fun bA H' p'=>⟨n-(i+1),by omega,rfl,hlt,p'⟩,λx H' y=>?_⟩;obtain ⟨e,y⟩:=y;subst e y;exact hs i aj _ hlt p;have e:i=n:=(by omega);subst e;exact .inl ⟨bG _,hd aj H p⟩
noncomputable abbrev R2:=V->V->Hp->VK->Prop
noncomputable def cU(X:Cx)(f:aB->aB->Sem aB)(r:R2):Prop :=
 ∀(ao:List (au × Obj))(s:aK)(aj:St)(H:Hp)(x y:V)(v u:aB)(Q:VK),Inv X ao aj H s->cO x v->cO y u->r x y H Q ->
   aJ (aN X.prog X.w) X.A (f v u) (EP X ao aj Q) X.xe s
noncomputable def UnR(X:Cx)(f:aB->Sem aB)(r:V->Hp->VK->Prop):Prop :=
 ∀(ao:List (au × Obj))(s:aK)(aj:St)(H:Hp)(x:V)(v:aB)(Q:VK),Inv X ao aj H s->cO x v->r x H Q ->
   aJ (aN X.prog X.w) X.A (f v) (EP X ao aj Q) X.xe s
noncomputable def jH(X:Cx)(f:aB)(r:List V->Hp->VK->Prop):Prop :=
 ∀(ao:List (au × Obj))(s:aK)(aj:St)(H:Hp)(xs:List V)(us:List aB)(Q:VK),Inv X ao aj H s->cD xs us->r xs H Q ->
   aJ (aN X.prog X.w) X.A (call f us) (EP X ao aj Q) X.xe s
noncomputable def rQ(r:R2)(ta tb:TE):TE:=fun aj H Q=>ta aj H λx H1=>tb aj H1 λy H2=>r x y H2 Q
noncomputable def tUn(r:V->Hp->VK->Prop)(ta:TE):TE:=fun aj H Q=>ta aj H λx H1=>r x H1 Q
noncomputable def rI(C:Int->Int->Prop)(g:Int->Int->V):R2:=λx y H Q=>∃ i j,x=.int i/\y=.int j/\C i j/\Q (g i j) H
noncomputable def vD(g:Int->Int->V):R2:=λx y H Q=>∃ i j,x=.int i/\y=.int j/\Q (g i j) H
variable{f:aB->aB->Sem aB}{a b:Expr}{ta tb:TE}
theorem R6(ha:PE X a ta)(hb:PE X b tb){R:V->V->Hp->Prop}(I:Inv X ao aj H s)(h:ta aj H λx H1=>tb aj H1 λy H2=>R x y H2){Q:aB->aK->Prop}(hf:∀ v u s2 x y H2,Inv X ao aj H2 s2->cO x v->cO y u->R x y H2->aJ (aN X.prog X.w) X.A (f v u) Q X.xe s2): aJ (aN X.prog X.w) X.A (eval a X.env) (λv s₁=>aJ (aN X.prog X.w) X.A (eval b X.env) (λu s₂=>aJ (aN X.prog X.w) X.A (f v u) Q X.xe s₂) X.xe s₁) X.xe s:=by refine bH (ha ao s aj H _ I h) λv s1 ⟨x,H1,I1,r1,q1⟩=>?_;refine bH (hb ao s1 aj H1 _ I1 q1) λu s2 ⟨y,H2,I2,r2,q2⟩=>?_;exact hf v u s2 x y H2 I2 r1 r2 q2
theorem bJ{op:Operator}{r:R2}(ho:cU X (lQ op) r)(ha:PE X a ta)(hb:PE X b tb):PE X (.BinOp a op b pos) (rQ r ta tb):=by intro ao s aj H Q I h;exact wpAny_BinOp (R6 ha hb I h λv u s2 x y H2 I2 rx ry q=>ho ao s2 aj H2 x y v u Q I2 rx ry q)
theorem NZ{op:UnaryOp}{r:V->Hp->VK->Prop}(ho:UnR X (unaryOp op) r)(ha:PE X a ta):PE X (.UnaryOp op a pos) (tUn r ta):=by intro ao s aj H Q I h;exact UnaryOp_ (bH (ha ao s aj H _ I h) λv s1 ⟨x,H1,I1,r1,q1⟩=>ho ao s1 aj H1 x v Q I1 r1 q1)
variable{g:Int->Int->Int}
theorem opI{C:Int->Int->Prop}(rule:∀(i j:Int)(t u:Tok)(s:aK)(Q:aB->aK->Prop)(E:aB->aK->Prop),C i j->Q (.int (g i j) s.toks) { s with toks:=s.toks+1 }->aJ (aN X.prog X.w) X.A (f (.int i t) (.int j u)) Q E s): cU X f (rI C λi j=>.int (g i j)):=by intro ao s aj H x y v u Q I rx ry h;obtain ⟨i,j,rfl,rfl,hc,q⟩:=h;obtain ⟨t,rfl⟩:=rx;obtain ⟨t',rfl⟩:=ry;exact rule i j t t' s _ _ hc ⟨.int (g i j),H,I.tok _,⟨_,rfl⟩,q⟩
theorem aaf(rule:∀(i j:Int)(t u:Tok)(s:aK)(Q:aB->aK->Prop)(E:aB->aK->Prop),Q (.int (g i j) s.toks) { s with toks:=s.toks+1 }->aJ (aN X.prog X.w) X.A (f (.int i t) (.int j u)) Q E s): cU X f (vD λi j=>.int (g i j)):=by intro ao s aj H x y v u Q I rx ry h;obtain ⟨i,j,rfl,rfl,q⟩:=h;obtain ⟨t,rfl⟩:=rx;obtain ⟨t',rfl⟩:=ry;exact rule i j t t' s _ _ ⟨.int (g i j),H,I.tok _,⟨_,rfl⟩,q⟩
theorem Fj{g:Int->Int->Bool}(rule:∀(i j:Int)(t u:Tok)(s:aK)(Q:aB->aK->Prop)(E:aB->aK->Prop),Q (.bool (g i j)) s->aJ (aN X.prog X.w) X.A (f (.int i t) (.int j u)) Q E s): cU X f (vD λi j=>.bl (g i j)):=by intro ao s aj H x y v u Q I rx ry h;obtain ⟨i,j,rfl,rfl,q⟩:=h;obtain ⟨t,rfl⟩:=rx;obtain ⟨t',rfl⟩:=ry;exact rule i j t t' s _ _ ⟨.bl (g i j),H,I,rfl,q⟩
noncomputable def amv(i j:Int):Prop:=0<j/\j<1073741824
noncomputable def FZ(i j:Int):Prop:=0<=j/\j<=1000000/\i.natAbs<2 ^ 64
noncomputable def Lr(i j:Int):Prop:=(-(2 ^ 64)<i/\i<2 ^ 64)\/(-(2 ^ 64)<j/\j<2 ^ 64)
variable{i j:Int}
theorem Lr.ok(h:Lr i j):IntMulOk i j:=by rcases h with ⟨h1,h2⟩ | ⟨h1,h2⟩;exact .of_left (Gb h1 h2);exact .of_right (Gb h1 h2)
theorem aiY:cU X (lQ .Add) (vD λi j=>.int (i+j)):=aaf λ_ _ _ _ _ _ _ q=>add_int q
theorem ajR:cU X (lQ .Sub) (vD λi j=>.int (i-j)):=aaf λ_ _ _ _ _ _ _ q=>sub_int q
theorem ahi:cU X (lQ .Mult) (rI Lr λi j=>.int (i * j)):=opI λ_ _ _ _ _ _ _ hc q=>mul_int q hc.ok
theorem ahU:cU X (lQ .Mod) (rI (λ_ j=>0<j) λi j=>.int (i % j)):=opI λi j _ _ _ _ _ hc q=>by
 have h1:(0:Int)<j:=hc;exact mod_int' (by omega) (by rw [aev i (by omega)]; exact q)
theorem anW:cU X (lQ .Pow) (rI FZ λi j=>.int (i ^ j.toNat)):=opI λ_ _ _ _ _ _ _ hc q=>pow_int_small hc.1 hc.2.1 hc.2.2 q
noncomputable def Zo:V->V->Bool
 | .non,.non=>true | .non,.int _=>true | .int _,.non=>true | .non,.bl _=>true | .bl _,.non=>true | .non,.str _=>true | .str _,.non=>true
 | .int _,.int _=>true | .bl _,.bl _=>true | .str _,.str _=>true | .tE _,.tE _=>true
 | .int _,.str _=>true | .str _,.int _=>true | .bl _,.str _=>true | .str _,.bl _=>true
 | _,_=>false
noncomputable def rEq:R2:=λx y H Q=>Zo x y=true/\Q (.bl (decide (x=y))) H
noncomputable def rNe:R2:=λx y H Q=>Zo x y=true/\Q (.bl (!decide (x=y))) H
theorem adI:decide (V.int i=V.int j)=(i == j):=by rw [lY];simp
theorem acD{i j:Bool}:decide (V.bl i=V.bl j)=(i == j):=by rw [lY];simp
theorem adA{i j:Str}:decide (V.str i=V.str j)=(i == j):=by rw [lY];simp
theorem adE{i j:Array UInt8}:decide (V.tE i=V.tE j)=(i.toList == j.toList):=by rw [lY];cases i;cases j;simp
section
variable{X:Cx}{a b c:Expr}{ta tb tc:TE}{pos:Pos}
theorem jf{Q:VK}{k k':Bool}(I:Inv X ao aj H s)(q:Q (.bl k) H)(e:k=k'):EP X ao aj Q (.bool k') s:=by subst e;exact ⟨.bl k,H,I,rfl,q⟩
theorem abS:cU X (gJ .Eq) rEq:=by intro ao s aj H x y v u Q I rx ry h;obtain ⟨hs,q⟩:=h;cases x with| non =>cases rx;(cases y with| non=>cases ry; exact PySem.EqNone.eq_none_none (jf I q (by simp))| bl j=>cases ry; exact PySem.EqNone.eq_none_bool (jf I q (by simp))| int j=>obtain ⟨t',rfl⟩:=ry; exact PySem.EqNone.eq_none_int (jf I q (by simp))| str j=>obtain ⟨t',rfl⟩:=ry; exact PySem.EqNone.eq_none_str (jf I q (by simp))| _=>exact bO (show false=true from hs) iW)| bl i =>cases rx;(cases y with| non=>cases ry; exact PySem.EqNone.eq_bool_none (jf I q (by simp))| bl j=>cases ry; exact eq_bool (jf I q acD)| str j=>obtain ⟨t',rfl⟩:=ry; exact PySem.EqMixed.eq_bool_str (jf I q (by simp))| _=>exact bO (show false=true from hs) iW)| int i =>obtain ⟨t,rfl⟩:=rx;(cases y with| non=>cases ry; exact PySem.EqNone.eq_int_none (jf I q (by simp))| int j=>obtain ⟨t',rfl⟩:=ry; exact eq_int (jf I q adI)| str j=>obtain ⟨t',rfl⟩:=ry; exact PySem.EqMixed.eq_int_str (jf I q (by simp))| _=>exact bO (show false=true from hs) iW)| str i =>obtain ⟨t,rfl⟩:=rx;(cases y with| non=>cases ry; exact PySem.EqNone.eq_str_none (jf I q (by simp))| bl j=>cases ry; exact PySem.EqMixed.eq_str_bool (jf I q (by simp))| int j=>obtain ⟨t',rfl⟩:=ry; exact PySem.EqMixed.eq_str_int (jf I q (by simp))| str j=>obtain ⟨t',rfl⟩:=ry; exact eq_str (jf I q adA)| _=>exact bO (show false=true from hs) iW)| tE i =>obtain ⟨t,rfl⟩:=rx;(cases y with| tE j=>obtain ⟨t',rfl⟩:=ry; exact PySem.W.eq_bytes (jf I q adE)| _=>exact bO (show false=true from hs) iW)| _=>cases y <;> exact bO (show false=true from hs) iW
theorem ams:cU X (gJ .NotEq) rNe:=by intro ao s aj H x y v u Q I rx ry h;obtain ⟨hs,q⟩:=h;cases x with| non =>cases rx;(cases y with| non=>cases ry; exact PySem.EqNone.ne_none_none (jf I q (by simp))| bl j=>cases ry; exact PySem.EqNone.ne_none_bool (jf I q (by simp))| int j=>obtain ⟨t',rfl⟩:=ry; exact PySem.EqNone.ne_none_int (jf I q (by simp))| str j=>obtain ⟨t',rfl⟩:=ry; exact PySem.EqNone.ne_none_str (jf I q (by simp))| _=>exact bO (show false=true from hs) iW)| bl i =>cases rx;(cases y with| non=>cases ry; exact PySem.EqNone.ne_bool_none (jf I q (by simp))| bl j=>cases ry; exact ne_bool (jf I q (jr not acD))| str j=>obtain ⟨t',rfl⟩:=ry; exact PySem.EqMixed.ne_bool_str (jf I q (by simp))| _=>exact bO (show false=true from hs) iW)| int i =>obtain ⟨t,rfl⟩:=rx;(cases y with| non=>cases ry; exact PySem.EqNone.ne_int_none (jf I q (by simp))| int j=>obtain ⟨t',rfl⟩:=ry; exact ne_int (jf I q (jr not adI))| str j=>obtain ⟨t',rfl⟩:=ry; exact PySem.EqMixed.ne_int_str (jf I q (by simp))| _=>exact bO (show false=true from hs) iW)| str i =>obtain ⟨t,rfl⟩:=rx;(cases y with| non=>cases ry; exact PySem.EqNone.ne_str_none (jf I q (by simp))| bl j=>cases ry; exact PySem.EqMixed.ne_str_bool (jf I q (by simp))| int j=>obtain ⟨t',rfl⟩:=ry; exact PySem.EqMixed.ne_str_int (jf I q (by simp))| str j=>obtain ⟨t',rfl⟩:=ry; exact ne_str (jf I q (jr not adA))| _=>exact bO (show false=true from hs) iW)| tE i =>obtain ⟨t,rfl⟩:=rx;(cases y with| tE j=>obtain ⟨t',rfl⟩:=ry; exact PySem.W.ne_bytes (jf I q (jr not adE))| _=>exact bO (show false=true from hs) iW)| _=>cases y <;> exact bO (show false=true from hs) iW
theorem aeL:cU X (gJ .Lt) (vD λi j=>.bl (decide (i<j))):=Fj λ_ _ _ _ _ _ _ q=>lt_int q
theorem amC:cU X (gJ .LtE) (vD λi j=>.bl (decide (i<=j))):=Fj λ_ _ _ _ _ _ _ q=>le_int q
theorem aoR:cU X (gJ .Gt) (vD λi j=>.bl (decide (j<i))):=Fj λ_ _ _ _ _ _ _ q=>gt_int q
theorem ajW:cU X (gJ .GtE) (vD λi j=>.bl (decide (j<=i))):=Fj λ_ _ _ _ _ _ _ q=>ge_int q
theorem ah7:cU X (gJ .In) (λx y H Q=>∃ i j,x=.str i/\y=.str j/\Q (.bl (!(ad8 j i 0 j.length 1).isEmpty)) H):=by intro ao s aj H x y v u Q I rx ry h;obtain ⟨i,j,rfl,rfl,q⟩:=h;obtain ⟨t,rfl⟩:=rx;obtain ⟨t',rfl⟩:=ry;exact in_str (jf I q rfl)
theorem Yk:cU X (gJ .Is) (λx y H Q=>y=.non/\Q (.bl (decide (x=.non))) H):=by
 intro ao s aj H x y v u Q I rx ry h;obtain ⟨rfl,q⟩:=h;cases ry;refine is_none_gen (jf I q ?_)
 cases x <;> first
   | (cases rx; rfl)
   | (obtain ⟨t,rfl⟩:=rx; rfl)
variable{op:FW}
theorem cX(b:Expr)(h:op≠.In:=by decide)(h2:op≠.NotIn:=by decide):behindInMarks op b=false:=by have e1:(op == CmpOp.In)=false:=(by cases op <;> first | rfl | exact bO rfl h);have e2:(op == CmpOp.NotIn)=false:=(by cases op <;> first | rfl | exact bO rfl h2);cases b <;> simp [behindInMarks,e1,e2]
variable{r:R2}
theorem jW(ho:cU X (gJ op) r)(ha:PE X a ta)(hb:PE X b tb)(hm:behindInMarks op b=false):PE X (.Compare a [op] [b] pos) (rQ r ta tb):=by intro ao s aj H Q I h;exact wpAny_Compare1 (R6 ha hb I h λv u s2 x y H2 I2 rx ry q=>ho ao s2 aj H2 x y v u Q I2 rx ry q) hm
noncomputable def agE(t:TE):TT:=fun aj H Q=>t aj H λx H'=>∃ k,x=.bl k/\Q k H'
noncomputable def ad3(r r':R2)(ta tb tc:TE):TE:=fun aj H Q=>ta aj H λx H1=>tb aj H1 λy H2=>r x y H2 λz H3=>∃ k,z=.bl k /\
 (if k=true then tc aj H3 λw' H4=>r' y w' H4 Q else Q (.bl false) H3)
variable{op':FW}{r':R2}
theorem afm(ho:cU X (gJ op) r)(ho':cU X (gJ op') r')(ha:PE X a ta)(hb:PE X b tb)(hc:PE X c tc)(hm:lastMarks [op,op'] [b,c]=false:=by with_unfolding_all rfl):PE X (.Compare a [op,op'] [b,c] pos) (ad3 r r' ta tb tc):=by intro ao s aj H Q I h;refine Compare_chain (bH (ha ao s aj H _ I h) λv s1 ⟨x,H1,I1,r1,q1⟩=>chain_link (bH (hb ao s1 aj H1 _ I1 q1) λu s2 ⟨y,H2,I2,r2,q2⟩ => bH (ho ao s2 aj H2 x y v u _ I2 r1 r2 q2) λd s3 ⟨z,H3,I3,r3,k,e,q3⟩=>?_)) hm;subst e;cases r3;refine qT ?_;cases k with| false=>exact ite_ff ⟨.bl false,H3,I3,rfl,q3⟩| true=>exact ite_tt (chain_last (bH (hc ao s3 aj H3 _ I3 q3) λw' s4 ⟨z',H4,I4,r4,q4⟩=>ho' ao s4 aj H4 y z' u w' Q I4 r2 r4 q4))
theorem amL(ho:cU X (gJ op) r)(ho':cU X (gJ op') r')(ha:PE X a ta)(hb:PE X b tb)(hc:PE X c tc)(hm:lastMarks [op,op'] [b,c]=false:=by with_unfolding_all rfl):PT X (.Compare a [op,op'] [b,c] pos) (agE (ad3 r r' ta tb tc)):=by intro ao s aj H Q I h;refine isTrue_chain (bH (ha ao s aj H _ I h) λv s1 ⟨x,H1,I1,r1,q1⟩=>test_link (bH (hb ao s1 aj H1 _ I1 q1) λu s2 ⟨y,H2,I2,r2,q2⟩ => bH (ho ao s2 aj H2 x y v u _ I2 r1 r2 q2) λd s3 ⟨z,H3,I3,r3,k,e,q3⟩=>?_)) hm;subst e;cases r3;refine qT ?_;cases k with| false =>obtain ⟨k',e',q'⟩:=q3;cases e';exact ite_ff ⟨H3,I3,q'⟩| true =>refine ite_tt (test_last (bH (hc ao s3 aj H3 _ I3 q3) λw' s4 ⟨z',H4,I4,r4,q4⟩=>bH (ho' ao s4 aj H4 y z' u w' _ I4 r2 r4 q4) λd' s5 ⟨z2,H5,I5,r5,k2,e2,q5⟩=>?_));subst e2;cases r5;exact qT ⟨H5,I5,q5⟩
theorem Et:(aO:Nat)<2 ^ 63:=by rw [cQ]; decide
theorem alY:cU X (lQ .Add) (λx y H Q=>∃ i j,x=.str i/\y=.str j/\i.length+j.length<=aO/\Q (.str (i++j)) H):=by intro ao s aj H x y v u Q I rx ry h;obtain ⟨i,j,rfl,rfl,hz,q⟩:=h;obtain ⟨t,rfl⟩:=rx;obtain ⟨t',rfl⟩:=ry;exact add_str (λt' tk=>⟨.str (i++j),H,I.tok _,⟨_,rfl⟩,q⟩) hz
variable{x:V}
theorem lZ(r:cD [x] us):∃ u,us=[u]/\cO x u:=by cases r with| cons r1 r2=>cases r2; exact ⟨_,rfl,r1⟩
theorem vU(r:cD [x,y] us):∃ u w',us=[u,w']/\cO x u/\cO y w':=by cases r with| cons r1 r2 =>cases r2 with| cons r3 r4=>cases r4; exact ⟨_,_,rfl,r1,r3⟩
theorem Mi(hc:X.calm=true):jH X (.builtin "max") (λxs H Q=>∃ i j,xs=[.int i,.int j]/\Q (.int (if j > i then j else i)) H):=by intro ao s aj H xs us Q I r h;obtain ⟨i,j,rfl,q⟩:=h;obtain ⟨u,w',rfl,⟨t,rfl⟩,⟨t',rfl⟩⟩:=vU r;refine max_two_ints (I.ok.hd hc) λh' tk k=>⟨_,H,I.kept k,?_,q⟩;by_cases hj:j > i;rw [bI hj,bI hj]; exact ⟨_,rfl⟩;rw [aZ hj,aZ hj]; exact ⟨_,rfl⟩
theorem aal(hc:X.calm=true):jH X (.builtin "min") (λxs H Q=>∃ i j,xs=[.int i,.int j]/\Q (.int (if j<i then j else i)) H):=by intro ao s aj H xs us Q I r h;obtain ⟨i,j,rfl,q⟩:=h;obtain ⟨u,w',rfl,⟨t,rfl⟩,⟨t',rfl⟩⟩:=vU r;refine min_two_ints (I.ok.hd hc) λh' tk k=>⟨_,H,I.kept k,?_,q⟩;by_cases hj:j<i;rw [bI hj,bI hj]; exact ⟨_,rfl⟩;rw [aZ hj,aZ hj]; exact ⟨_,rfl⟩
theorem ahW:jH X (.type "str") (λxs H Q=>∃ i,xs=[.int i]/\i.natAbs.log2<1920/\Q (.str (toString i)) H):=by intro ao s aj H xs us Q I r h;obtain ⟨i,rfl,hz,q⟩:=h;obtain ⟨u,rfl,t,rfl⟩:=lZ r;exact PySem.P.str_of_int hz ⟨.str _,H,I.tok _,⟨_,rfl⟩,q⟩
theorem ahu:jH X (.builtin "divmod") (λxs H Q=>∃ i j,xs=[.int i,.int j]/\amv i j/\∀ p,H p=none->Q (.ref p) (upd H p (.tup [.int (i / j),.int (i % j)]))):=by intro ao s aj H xs us Q I r h;obtain ⟨i,j,rfl,⟨h1,h2⟩,q⟩:=h;obtain ⟨u,w',rfl,⟨t,rfl⟩,⟨t',rfl⟩⟩:=vU r;refine divmod_int (by omega) ?_ (.inl (aa9 (by omega)));rw [aeM i (by omega),aev i (by omega)];have hn:H s.heap.objs.size=none:=I.hok.fresh (bG _);refine ⟨.ref s.heap.objs.size,_,?_,rfl,q _ hn⟩;refine I.laid (λb o e=>cR _ e) (bG _) ⟨by simp only [iz,rR]; rw [cQ]; decide,[.int (i / j) s.toks,.int (i % j) (s.toks+1)],.cons ⟨_,rfl⟩ (.cons ⟨_,rfl⟩ .nil),?_⟩;exact ⟨_,gq s.heap rfl,rfl,⟨0,rfl⟩,rfl⟩
end
structure Du(h:aY)(x dx C:au)(mA:Str->Option aB):Prop where
 obj:h.get? x=some (uY C dx)
 ns:h.Ns1 dx mA
 ne:dx≠x
variable{dx:au}{mA:Str->Option aB}
theorem alz{h:aY}(n:h.Ns1 dx mA):∃ od,h.get? dx=some od/\∀ name,Kw name od=some (mA name):=by obtain ⟨o,es,ep,ho,hd,hk,_,hm⟩:=n;refine ⟨o,ho,λname=>?_⟩;have e:=hm name;unfold nsFind findBy at e;rw [<- Array.find?_toList] at e;unfold Kw;rw [hd];dsimp only;split;rename_i y q;rw [q] at e;exact jr some e;rename_i q;rw [q] at e;have a:es.toList.any (·.refKey)=false:=(by rw [List.any_eq_false];intro y hy;obtain ⟨z,t,hkey⟩:=hk y (Array.mem_toList_iff.mp hy);simp [DictEntry.refKey,hkey]);have a':¬ es.toList.any (·.refKey)=true:=(by rw [a]; exact iW);rw [aZ a'];exact jr some e
variable{x C:au}
theorem Du.look{h:aY}(I:Du h x dx C mA):∃ od,PySem.W.InstAt h x (uY C dx) C (some od)/\∀ name,Kw name od=some (mA name) :=
 let ⟨od,ho,hl⟩:=alz I.ns
 ⟨od,⟨I.obj,rfl,rfl,ho⟩,hl⟩
variable{name:Str}{v:aB}
theorem get_map{expr:Bool}{Q:aB->aK->Prop}(X:K.In s.heap)(I:Du s.heap x dx C mA)(hg:Jy K C name=true)(hh:Kc K C=true)(ha:mC K (.ref C) name=some none)(hv:mA name=some v)(hv':PySem.W.handedIn v=true)(h:Q v { s with toks:=s.toks+1 }): aJ (aN prog w) A (getAttr (.ref x) name expr) Q E s:=by obtain ⟨od,J,hl⟩:=I.look;exact PySem.W.get_value X J (Yc hg).1 (PySem.W.findObj_own hh ha rfl (by rw [hl,hv])) hv' h
variable{pl:Sem Bool}{f:au}
theorem agu{Q:aB × List aB->aK->Prop}(X:K.In s.heap)(I:Du s.heap x dx C mA)(hg:Jy K C name=true)(hf:mC K (.ref C) name=some (some (.ref f)))(ht:Pz K (.ref f)=true)(hv:mA name=none)(h:Q (.ref f,[.ref x]) s): aJ (aN prog w) A (getMethod (.ref x) name pl) Q E s:=by obtain ⟨od,J,hl⟩:=I.look;exact PySem.W.method_fn X J (Yc hg).1 (Yc hg).2 hf (beq_iff_eq.mp ht) (by show (Kw name od).map (·.isSome)=some false; rw [hl,hv]; rfl) h
theorem anS{ns:List Str}(X:K.In s.heap)(I:Du s.heap x dx C mA)(hs:mC K (.ref C) "__setattr__" = some (some (.builtin "object.__setattr__")))(hp:Ro K C=true)(ht:RT K C name=some none)(hh:Kc K C=true)(hw:SQ mA ns)(hsz:ns.length<=aO)(h:∀ h',Du h' x dx C (λy=>if y=name then some v else mA y)->vH dx s.heap h'->Q () { s with heap:=h',toks:=s.toks+2 }): aJ (aN prog w) A (setAttr (.ref x) name v) Q E s:=by obtain ⟨od,J,hl⟩:=I.look;refine PySem.W.set_plain X J hs (PySem.W.osa_open (s:={ s with toks:=s.toks+1 }) (r:=none) X J hp ht λb=>?_);obtain ⟨cd,hc,hd'⟩:=PySem.W.any_some hh;have hx:s.heap.get? x=some ⟨.ref C,some dx,.plain,#[]⟩:=I.obj;refine aG (aR (aG (aG (wpAny_loadPart hx (aG (PySem.W.Looks.here (s:={ s with toks:=s.toks+1 }) (PySem.W.looks_clsIn X hc) ?_))))));rw [hd'];refine aR (a:=some dx) (aG (aR (aG ?_)));refine wpAny_nsSet1 (s:={ s with toks:=s.toks+1 }) I.ns λh' hn2 hs2=>?_;obtain ⟨oD,esD,epD,hoD,hdD,hcD⟩:=hn2.count (PySem.Within.cons name v hw);refine aG (wpAny_lookBehind hoD (by rw [hdD]; exact pastItsLine_dict (jF hcD (by rw [iz]; omega))) ?_);exact aR (h _ ⟨(hs2.2 _ (bW I.ne)).aA I.obj,hn2,I.ne⟩ hs2)
variable{kw:List (Str × aB)}
theorem ah6{R:xQ->aK->Prop}{vs:List aB}(X:K.In s.heap)(hm:Tn K C=true)(hi:mC K (.ref C) "__init__" = some (some (.ref f)))(hf:PySem.W.typeIn K (.ref f)=some (.type "function"))(h:jB (aN prog w) (A.under (.builtin "type.__call__" ⟨.ref C :: vs,kw⟩)) (.call (.ref f) ⟨.ref (s.heap.objs.size+1) :: vs,kw⟩) (PySem.W.InitBack (s.heap.objs.size+1) R) { s with heap:=(s.heap.push tD).push (uY C s.heap.objs.size) }): jB (aN prog w) A (.call (.ref C) ⟨vs,kw⟩) R s:=by obtain ⟨hh,g,d,t,os⟩:=s;exact PySem.W.make_core (PySem.W.makes_of X hm) (PySem.W.looks_findIn X hi) (λself=>PySem.W.bind_fn X self hf) (.inl rfl) h
noncomputable def qG(f:Str)(v:V):List (Str × V)->List (Str × V)
 | []=>[(f,v)]
 | (g,x) :: r=>if g=f then (g,v) :: r else (g,x) :: qG f v r
theorem Yn(f g:Str)(v:V):∀ fs:List (Str × V),(qG f v fs).lookup g=if g=f then some v else fs.lookup g
 | []=>by show xU g [(f,v)]=_;by_cases h:g=f;have hb:(g == f)=true:=beq_iff_eq.mpr h;simp only [xU,hb,bI h];have hb:(g == f)=false:=beq_eq_false_iff_ne.mpr h;simp only [xU,hb,aZ h]
 | (k,x) :: r=>by have ih:=Yn f g v r;rw [show qG f v ((k,x) :: r)=(if k=f then (k,v) :: r else (k,x) :: qG f v r) from rfl];by_cases hk:k=f;rw [bI hk];by_cases h:g=k;have hb:(g == k)=true:=beq_iff_eq.mpr h;simp only [xU,hb,bI (h.aA hk)];have hb:(g == k)=false:=beq_eq_false_iff_ne.mpr h;simp only [xU,hb,aZ (λe:g=f=>h (e.aA hk.symm))];rw [aZ hk];by_cases h:g=k;have hb:(g == k)=true:=beq_iff_eq.mpr h;simp only [xU,hb,aZ (λe:g=f=>hk (h.symm.aA e))];have hb:(g == k)=false:=beq_eq_false_iff_ne.mpr h;simp only [xU,hb];exact ih
theorem V5(f:Str)(v:V):∀ fs:List (Str × V),f∈(qG f v fs).map (·.1)/\∀ g,g∈fs.map (·.1)->g∈(qG f v fs).map (·.1)
 | []=>⟨by simp [qG],λg h=>by simp at h⟩
 | (k,x) :: r=>by obtain ⟨i1,i2⟩:=V5 f v r;rw [show qG f v ((k,x) :: r)=(if k=f then (k,v) :: r else (k,x) :: qG f v r) from rfl];by_cases hk:k=f;rw [bI hk];subst hk;exact ⟨by simp,λg h=>by simpa using h⟩;rw [aZ hk];refine ⟨?_,λg h=>?_⟩;rw [fM];exact iM _ i1;rw [fM] at h |-;rcases dU.mp h with e | e;exact dU.mpr (.inl e);exact iM _ (i2 g e)
theorem Zx(f:Str)(v:V):∀ fs:List (Str × V),(qG f v fs).length<=fs.length+1
 | []=>by simp [qG]
 | (k,x) :: r=>by have ih:=Zx f v r;rw [show qG f v ((k,x) :: r)=(if k=f then (k,v) :: r else (k,x) :: qG f v r) from rfl];by_cases hk:k=f;rw [bI hk,iz,iz]; omega;rw [aZ hk,iz,iz]; omega
variable{v:V}{o:Option aB}
theorem qw.some_of(r:qw (some v) o):∃ u,o=some u/\cO v u:=by cases o with| none=>exact (show False from r).elim| some u=>exact ⟨u,rfl,r⟩
theorem qw.none_of(r:qw none o):o=none:=by cases o with| none=>rfl| some u=>exact (show False from r).elim
theorem ajU(r:cO v u):PySem.W.handedIn u=true:=by cases v with| non=>cases (show u=dM from r); rfl| bl b=>cases (show u=nC b from r); rfl| int i=>obtain ⟨t,e⟩:=(show ∃ t,u=Ef i t from r); cases e; rfl| str x=>obtain ⟨t,e⟩:=(show ∃ t,u=vf x t from r); cases e; rfl| tE b=>obtain ⟨t,e⟩:=(show ∃ t,u=Value.bytes b t from r); cases e; rfl| flt b=>obtain ⟨t,e⟩:=(show ∃ t,u=Tp b t from r); cases e; rfl| ref a=>cases (show u=cL a from r); rfl| ty n=>cases (show u=vN n from r); rfl
variable{a:au}
theorem Ku{h:aY}{fs:List (Str × V)}(hok:iD P w H h)(e:H a=some (.ins C dx fs)):∃ mA,Du h a dx C mA/\(∀ f,qw (fs.lookup f) (mA f))/\SQ mA (fs.map (·.1))/\fs.length<=1000/\H dx=some (.own a):=by obtain ⟨d,z,ne,ob,mA,n,r,q⟩:=(show gF P w H h a (.ins C dx fs) from hok a _ e);exact ⟨mA,⟨ob,n,ne⟩,r,q,z,d⟩
structure Cls(K:bV)(C:au):Prop where
 pg:Jy K C Str.empty=true
 hd:Kc K C=true
 po:Ro K C=true
 sa:mC K (.ref C) "__setattr__" = some (some (.builtin "object.__setattr__"))
theorem Cls.get(c:Cls K C)(f:Str):Jy K C f=true:=c.pg
noncomputable def xq(K:bV)(C:au)(f:Str):Prop:=mC K (.ref C) f=some none
variable{f:Str}
theorem xq.taker(n:xq K C f):RT K C f=some none:=by unfold RT;rw [show mC K (.ref C) f=some none from n];rfl
structure Meth(K:bV)(C:au)(m:Str)(f:au):Prop where
 at_:mC K (.ref C) m=some (some (.ref f))
 fn:Pz K (.ref f)=true
 kp:nu K (.ref f)=true
theorem amQ{fs:List (Str × V)}{b:Bool}{Q:aB->aK->Prop}(I:Inv X ao aj H s)(e:H a=some (.ins C dx fs))(c:Cls X.K C)(n:xq X.K C f)(l:fs.lookup f=some v)(h:∀ u s',Inv X ao aj H s'->cO v u->Q u s'):aJ (aN X.prog X.w) A (getAttr (.ref a) f b) Q E s:=by obtain ⟨mA,O,r,_,_,_⟩:=Ku I.hok e;obtain ⟨u,hu,ru⟩:=qw.some_of (v:=v) (o:=mA f) (by rw [<- l]; exact r f);exact get_map I.jM O (c.get f) c.hd n hu (ajU ru) (h u _ (I.tok _) ru)
theorem ahI{fs:List (Str × V)}{m:Str}{g:au}{Q:aB × List aB->aK->Prop}(I:Inv X ao aj H s)(e:H a=some (.ins C dx fs))(c:Cls X.K C)(k:Meth X.K C m g)(l:fs.lookup m=none)(h:Q (.ref g,[.ref a]) s):aJ (aN X.prog X.w) A (getMethod (.ref a) m pl) Q E s:=by obtain ⟨mA,O,r,_,_,_⟩:=Ku I.hok e;have hn:mA m=none:=qw.none_of (by rw [<- l]; exact r m);exact agu I.jM O (c.get m) k.at_ k.fn hn h
theorem aoC{fs:List (Str × V)}(I:Inv X ao aj H s)(e:H a=some (.ins C dx fs))(c:Cls X.K C)(n:xq X.K C f)(hl:fs.length<1000)(ry:cO y u)(h:∀ s',Inv X ao aj (upd H a (.ins C dx (qG f y fs))) s'->Q () s'):aJ (aN X.prog X.w) A (setAttr (.ref a) f u) Q E s:=by obtain ⟨mA,O,r,wi,_,ho⟩:=Ku I.hok e;have hz:(fs.map (·.1)).length<=aO:=(by rw [aL,cQ]; omega);refine anS I.jM O c.sa c.po n.taker c.hd wi hz λh' O' sb=>h _ ?_;have hd:∃ o,h'.get? dx=some o:=let ⟨o,_,_,e',_⟩:=O'.ns; ⟨o,e'⟩;refine I.write (x:=a) (e:=dx) (by rw [e]; exact rN) (.inr ho) (λb q hb z=>(sb.2 b hb).aA z) hd ?_;refine ⟨by rw [aW O.ne]; exact ho,?_,O.ne,O'.obj,_,O'.ns,λg=>?_,λg hg=>?_⟩;have:=Zx f y fs; omega;show qw ((qG f y fs).lookup g) (if g=f then some u else mA g);rw [Yn];by_cases q:g=f;rw [bI q,bI q]; exact ry;rw [aZ q,aZ q]; exact r g;by_cases q:g=f;rw [q]; exact (V5 f y fs).1;refine (V5 f y fs).2 g (wi g λz=>hg ?_);show (if g=f then some u else mA g)=none;rw [aZ q]; exact z
theorem Inv.made(I:Inv X ao aj H s):Inv X ao aj (upd (upd H s.heap.objs.size (.own (s.heap.objs.size+1))) (s.heap.objs.size+1) (.ins C s.heap.objs.size [])) { s with heap:=(s.heap.push tD).push (uY C s.heap.objs.size) }:=by have e1:(s.heap.push tD).get? s.heap.objs.size=some tD:=gq s.heap rfl;have e2:((s.heap.push tD).push (uY C s.heap.objs.size)).get? (s.heap.objs.size+1)=some (uY C s.heap.objs.size):=(by have:=gq (s.heap.push tD) (o:=uY C s.heap.objs.size) rfl;rwa [qY] at this);have e3:(s.heap.push tD).Ns s.heap.objs.size (λ_=>none):=⟨tD,#[],_,e1,rfl,(λe he=>bO he (by simp)),λ_=>rfl⟩;have I1:=I.laid (a:=s.heap.objs.size) (o:=.own (s.heap.objs.size+1)) (h':=s.heap.push tD) (t':=s.toks) (λb u q=>cR _ q) (bG _) ⟨_,e1⟩;refine I1.laid (a:=s.heap.objs.size+1) (o:=.ins C s.heap.objs.size []) (t':=s.toks) (λb u q=>cR _ q) (LC (qY _ _)) ?_;have ne:s.heap.objs.size≠s.heap.objs.size+1:=fB (Dk _);refine ⟨by rw [aW ne,aX],dR _,ne,e2,λ_=>none,(Heap.Ns1.of_empty e3).at λo q=>cR _ q,λ_=>rN,λy hy=>bO rfl hy⟩
variable{env:Env}
theorem afP{Q:aB->aK->Prop}(hb:attributeBase e f env (eval e env)=eval e env)(h:aJ (aN prog w) A (eval e env) (λo s₁=>aJ (aN prog w) A (getAttr o f true) Q E s₁) E s):aJ (aN prog w) A (eval (.Attribute e f pos) env) Q E s :=
 Attribute_any_ h (by rw [arm_eval_Attribute,hb])
noncomputable def alT(K:bV)(ta:TE)(f:Str):TE:=fun aj H Q=>ta aj H λx H1=>vZ λa C dx fs v=>vK (x=.ref a) (H1 a=some (.ins C dx fs)) (Cls K C) (xq K C f) (fs.lookup f=some v) (Q v H1)
noncomputable def anp(K:bV)(ta tv:TE)(f:Str):TS:=λD aj H=>tv aj H λy H1=>ta aj H1 λx H2=>qN λa C dx fs=>vK (x=.ref a) (H2 a=some (.ins C dx fs)) (Cls K C) (xq K C f) (fs.length<1000) (D.nx aj (upd H2 a (.ins C dx (qG f y fs))))
theorem Vf(he:PE X e ta)(hb:attributeBase e f X.env (eval e X.env)=eval e X.env):PE X (.Attribute e f pos) (alT X.K ta f):=by intro ao s aj H Q I h;refine afP hb (bH (he ao s aj H _ I h) λu s1 ⟨x,H1,I1,rx,a,C,dx,fs,v,ex,ea,c,n,l,q⟩=>?_);subst ex;obtain rfl:u=cL a:=rx;exact amQ I1 ea c n l λu' s2 I2 ru=>⟨v,H1,I2,ru,q⟩
variable{value:Expr}{tv:TE}
theorem La{o:Expr}(ha:PE X o ta)(hv:PE X value tv)(hs:BL value (some (.Attribute o f pos')) pos.line X.env=pure false):PS X (.Assign [.Attribute o f pos'] value pos) (anp X.K ta tv f):=by intro ao s aj H D I h;refine plainObj_wpAny_Assign_Attribute (bH (hv ao s aj H _ I h) λu s1 ⟨y,H1,I1,ry,q⟩=>bH (ha ao s1 aj H1 _ I1 q) λov s2 ⟨x,H2,I2,rx,a,C,dx,fs,ex,ea,c,n,l,q2⟩=>?_) hs;subst ex;obtain rfl:ov=cL a:=rx;exact aoC I2 ea c n l ry λs3 I3=>⟨aj,_,I3,q2⟩
section
variable{X:Cx}{ao:List (au × Obj)}{aj:St}{H:Hp}{s:aK}{A:iI}{E:aB->aK->Prop}{Q:aB->aK->Prop}{c:aB}{b:Bool}
inductive jX(K:bV)(H:Hp):V->aB->Prop where
 | non:jX K H .non (.type "NoneType")
 | bl (x:Bool):jX K H (.bl x) (.type "bool")
 | int (i:Int):jX K H (.int i) (.type "int")
 | str (x:Str):jX K H (.str x) (.type "str")
 | flt (x:UInt64):jX K H (.flt x) (.type "float")
 | lst {a:au} {xs:List V} (e:H a=some (.lst xs)):jX K H (.ref a) (.type "list")
 | jh {a:au} {o:Obj} {xs:List V} (e:H a=some (.jh o (.lst xs))):jX K H (.ref a) (.type "list")
 | tup {a:au} {xs:List V} (e:H a=some (.tup xs)):jX K H (.ref a) (.type "tuple")
 | dK {a:au} {kvs:List (Key × V)} (e:H a=some (.dK kvs)):jX K H (.ref a) (.type "dict")
 | dT {a:au} {kvs:List (List Key × V)} (e:H a=some (.dT kvs)):jX K H (.ref a) (.type "dict")
 | ins {a C dx:au} {fs:List (Str × V)} (e:H a=some (.ins C dx fs)) (cl:Cls K C) (ha:mC K (.ref C) "__class__" = some (some (.builtin "object.__class__")))
     (hn:PySem.W.specialIn K (.builtin "object.__class__") "__get__" = some (some (.builtin "getset_descriptor.__get__"))) (htk:PySem.W.takesIn K (.builtin "object.__class__")=some true)
     (hm:M4 K C (.type "object")=some true):jX K H (.ref a) (.ref C)
theorem apC{x:V}{t:aB}(I:Inv X ao aj H s)(rx:cO x u)(ty:jX X.K H x t)(e:ju X.K t c=some b)(h:∀ tk,Q (.bool b) { s with toks:=tk }): aJ (aN X.prog X.w) A (call (.builtin "isinstance") [u,c]) Q E s:=by cases ty with| non=>cases (show u=dM from rx); exact v9 PySem.W.kitx_none I.jM rN e (λz=>nomatch z) h| bl y=>cases (show u=nC y from rx); exact v9 PySem.W.kitx_bool I.jM rN e (λz=>nomatch z) h| int i=>obtain ⟨t,q⟩:=(show ∃ t,u=Ef i t from rx); cases q; exact v9 PySem.W.kitx_int I.jM rN e (λz=>nomatch z) h| str y=>obtain ⟨t,q⟩:=(show ∃ t,u=vf y t from rx); cases q; exact v9 PySem.W.kitx_str I.jM rN e (λz=>nomatch z) h| flt y=>obtain ⟨t,q⟩:=(show ∃ t,u=Tp y t from rx); cases q; exact v9 PySem.W.kitx_float I.jM rN e (λz=>nomatch z) h| @lst a xs ea =>cases (show u=cL a from rx);obtain ⟨_,_,n,_,h1⟩:=(show gF X.prog X.w H s.heap a (.lst xs) from I.hok a _ ea);exact v9 aaY I.jM ⟨_,h1,rfl⟩ e (λz=>nomatch z) h| @jh a ob xs ea =>cases (show u=cL a from rx);obtain ⟨_,_,_,n,_,h1⟩:=(show gF X.prog X.w H s.heap a (.jh ob (.lst xs)) from I.hok a _ ea);exact v9 aaY I.jM ⟨_,h1,rfl⟩ e (λz=>nomatch z) h| @tup a xs ea =>cases (show u=cL a from rx);obtain ⟨_,_,_,p⟩:=(show gF X.prog X.w H s.heap a (.tup xs) from I.hok a _ ea);obtain ⟨o,h1,h2,_⟩:=p;exact v9 PySem.W.kitx_tuple I.jM ⟨o,h1,h2⟩ e (λz=>nomatch z) h| @dK a kvs ea =>cases (show u=cL a from rx);obtain ⟨_,_,vs,_,p⟩:=(show gF X.prog X.w H s.heap a (.dK kvs) from I.hok a _ ea);obtain ⟨o,es,ep,h1,h2,_⟩:=p;exact v9 acX I.jM ⟨o,h1,h2.1⟩ e (λz=>nomatch z) h| @dT a kvs ea =>cases (show u=cL a from rx);obtain ⟨_,_,xs,_,o,es,ep,h1,h2,_⟩:=(show gF X.prog X.w H s.heap a (.dT kvs) from I.hok a _ ea);exact v9 acX I.jM ⟨o,h1,h2.1⟩ e (λz=>nomatch z) h| @ins a C dx fs ea cl ha hn htk hm =>cases (show u=cL a from rx);obtain ⟨mA,O,_⟩:=Ku I.hok ea;obtain ⟨od,J,_⟩:=O.look;exact v9 (PySem.W.kitx_own (cl.get _) cl.hd ha hn htk hm) I.jM J e (λz=>nomatch z) h
end
structure jD(k:Nat)(A:iI):Prop where
 hd:A.handled=none
 dp:A.depth+3 * k+5<recursionLimit
 un:A.units+16 * k+200<cLine
variable{j:Nat}
theorem jD.mono{k:Nat}(r:jD k A)(h:j<=k):jD j A:=⟨r.hd,by have:=r.dp; omega,by have:=r.un; omega⟩
theorem jD.deeper{k:Nat}(r:jD (k+1) A)(env:Env):jD k (A.deeper env) :=
 ⟨r.hd,by have:=r.dp; show A.depth+1+3 * k+5<_; omega,by have:=r.un; show A.units+3+16 * k+200<_; omega⟩
theorem anN:(A.under (.builtin "type.__call__" ⟨.ref C :: us,kw⟩)).depth=A.depth+1:=by first | rfl | simp [Yg,Code.weight,Code.isCreation,Code.isGuard,Code.isCaller,Code.frames,QZ,guardIds]
theorem alN:(A.under (.builtin "type.__call__" ⟨.ref C :: us,kw⟩)).units=A.units+1:=by first | rfl | simp [Yg,Code.cUnits,Code.frames,QZ]
theorem jD.make{k:Nat}(r:jD (k+1) A)(C:au)(us:List aB)(kw:List (Str × aB)):jD k (A.under (.builtin "type.__call__" ⟨.ref C :: us,kw⟩)) :=
 ⟨r.hd,by have:=r.dp; rw [anN]; omega,by have:=r.un; rw [alN]; omega⟩
theorem jD.depth{k:Nat}(r:jD k A):A.depth<recursionLimit:=by have:=r.dp; omega
theorem jD.units{k:Nat}(r:jD k A):A.units+64<cLine:=by have:=r.un; omega
theorem jD.Kz{k:Nat}(r:jD k A):A.units<cLine:=by have:=r.un; omega
noncomputable def GR:TA:=λ_ H Q=>Q [] H
noncomputable def JM(ta:TE)(tr:TA):TA:=fun aj H Q=>ta aj H λx H1=>tr aj H1 λxs H2=>Q (x :: xs) H2
section
variable{X:Cx}{e:Expr}{es:List Expr}{te:TE}{t:TA}{pos:Pos}
theorem aD:PA X [] GR:=λ_ _ _ _ H Q I h=>Y8 ⟨[],H,I,.nil,h⟩
theorem aq(ha:PE X e te)(hr:PA X es t)(hs:gA (e :: es) X.env=(false,eval e X.env) :: gA es X.env:=by rfl):PA X (e :: es) (JM te t):=by intro pos ao s aj H Q I h;rw [hs];show aJ _ _ (spliced ((false,eval e X.env) :: backTo pos (gA es X.env))) _ _ s;refine ZC (bH (ha ao s aj H _ I h) λu s1 ⟨x,H1,I1,r1,q1⟩=>?_);exact bH (hr pos ao s1 aj H1 _ I1 q1) λus s2 ⟨xs,H2,I2,r2,q2⟩=>⟨x :: xs,H2,I2,.cons r1 r2,q2⟩
noncomputable def ady(t:TA):TE:=fun aj H Q=>t aj H λxs H1=>xs.length<=aO/\∀ p,H1 p=none->Q (.ref p) (upd H1 p (.tup xs))
noncomputable def DX(t:TA):TE:=fun aj H Q=>t aj H λxs H1=>xs.length<=aO/\∀ p,H1 p=none->Q (.ref p) (upd H1 p (.lst xs))
theorem kY{x1}(h:PA X es t):PE X (.Tuple es x1 pos) (ady t):=by intro ao s aj H Q I hq;refine wpAny_Tuple_spliced (bH (h pos ao s aj H _ I hq) λus s1 ⟨xs,H1,I1,r,z,q⟩=>⟨by rw [<- r.length]; exact z,?_⟩);have hf:H1 s1.heap.objs.size=none:=I1.hok.fresh (bG _);refine ⟨.ref s1.heap.objs.size,upd H1 s1.heap.objs.size (.tup xs),I1.laid (t':=s1.toks) (λb u e=>cR _ e) (bG _) ?_,rfl,q _ hf⟩;exact ⟨z,us,r,⟨_,gq _ rfl,rfl,⟨_,rfl⟩,rfl⟩⟩
theorem iU(h:PA X es t):PE X (.List es pos) (DX t):=by intro ao s aj H Q I hq;refine wpAny_List_spliced (bH (h pos ao s aj H _ I hq) λus s1 ⟨xs,H1,I1,r,z,q⟩=>⟨by rw [<- r.length]; exact z,?_⟩);have hf:H1 s1.heap.objs.size=none:=I1.hok.fresh (bG _);refine ⟨.ref s1.heap.objs.size,upd H1 s1.heap.objs.size (.lst xs),I1.laid (t':=s1.toks) (λb u e=>cR _ e) (bG _) ?_,rfl,q _ hf⟩;exact ⟨z,us,0,r,gq _ rfl⟩
end
noncomputable abbrev Sp:=List V->Hp->VK->XK->Prop
noncomputable abbrev wz:=List Env->Hp->aK->XK->aB->aK->Prop
structure zE(P:gk)(w:fK)(K:bV)(mg:Str->Option aB)(base:aY)(A:iI)(outer:List Env)(s:aK)(H:Hp):Prop where
 frames:A.frames=some outer
 mod:Mod K mg base
 bs:∀ b o,base.get? b=some o->s.heap.get? b=some o/\H b=none
 wQ:base.objs.size<=s.heap.objs.size
 sX:s.heap.FunFrames base outer
 zF:∀ b∈frs outer,H b=none
 hok:iD P w H s.heap
 bare:zp s.gens
noncomputable def CE(outer:List Env)(P:gk)(w:fK)(H:Hp)(s:aK)(Q:VK)(u:aB)(s':aK):Prop:=rz λv H'=>vK (s'.os=s.os) (zp s'.gens) (Un (frs outer) [] H H' s.heap s'.heap) (iD P w H' s'.heap) (cO v u) (Q v H')
noncomputable def CR(CX:wz)(outer:List Env)(P:gk)(w:fK)(H:Hp)(s:aK)(Q:VK)(E:XK)(r:xQ)(s':aK):Prop :=
 match r with
 | .ok (.ret u)=>CE outer P w H s Q u s'
 | .ok _=>False
 | .error e=>CX outer H s E e s'
structure bf(P:gk)(w:fK)(K:bV)(mg:Str->Option aB)(base:aY)(CX:wz)(k:Nat)(f:au)(fd:jU)(ps:List Str)(sp:Sp):Prop where
 len:∀ vs H Q E,sp vs H Q E->vs.length=ps.length
 run:∀(A:iI)(outer:List Env)(s:aK)(H:Hp)(args:Args)(us:List aB)(vs:List V)(Q:VK)(E:XK),jD k A->zE P w K mg base A outer s H->Df s fd args (ps.zip us)->cD vs us->sp vs H Q E ->
   jB (aN P w) A (.call (.ref f) args) (CR CX outer P w H s Q E) s
variable{mg:Str->Option aB}{base:aY}{CX:wz}{f:au}{fd:jU}{ps:List Str}{sp:Sp}
theorem bf.mono{k:Nat}(F:bf P w K mg base CX j f fd ps sp)(h:j<=k):
   bf P w K mg base CX k f fd ps sp:=⟨F.len,λA outer s H args us vs Q E hr=>F.run A outer s H args us vs Q E (hr.mono h)⟩
variable{outer:List Env}
theorem zE.make(e:zE P w K mg base A outer s H)(C:au)(us:List aB)(kw:List (Str × aB)):
   zE P w K mg base (A.under (.builtin "type.__call__" ⟨.ref C :: us,kw⟩)) outer s H:=⟨by first | exact e.frames | (simpa [Yg,Code.envs,QZ,pushEnvs] using e.frames),e.mod,e.bs,e.wQ,e.sX,e.zF,e.hok,e.bare⟩
theorem Inv.env0(I:Inv X ao aj H s):zE X.prog X.w X.K X.mg X.base X.A X.stack s H :=
 ⟨I.ok.frames,I.ok.mod,I.bs,jF I.ok.wQ I.sz,I.stack,I.Nm,I.hok,I.bare⟩
variable{Q:VK}
theorem Inv.after(I:Inv X ao aj H s)(h:CE X.stack X.prog X.w H s Q u s'):EP X ao aj Q u s':=by obtain ⟨v,H',os,bare,un,hok,r,q⟩:=h;obtain ⟨hh,g,d,t,os'⟩:=s';obtain rfl:os'=s.os:=os;exact ⟨v,H',I.call (h':=hh) (g':=g) (d':=d) (t':=t) (ch:=[]) un hok bare (λb z=>bO z (by simp)),r,q⟩
noncomputable def YT(sp:Sp)(kI:List V)(E:XK)(t:TA):TE:=fun aj H Q=>t aj H λvs H1=>sp (vs++kI) H1 Q E
noncomputable def alj(C:au)(m:Str)(sp:Sp)(kI:List V)(E:XK)(ta:TE)(t:TA):TE:=fun aj H Q=>ta aj H λx H1=>sY λa dx fs=>rG (x=.ref a) (H1 a=some (.ins C dx fs)) (fs.lookup m=none) (t aj H1 λvs H2=>sp (x :: (vs++kI)) H2 Q E)
noncomputable def cj(K:bV)(fd:jU)(ps:List Str)(ds:List aB):Prop :=
 ∀(s:aK)(us:List aB),K.In s.heap->(us++ds).length=ps.length->Df s fd ⟨us,[]⟩ (ps.zip (us++ds))
theorem cj.all(h:∀ us:List aB,us.length=ps.length->bindArgs fd ⟨us,[]⟩=pure (ps.zip us)):cj K fd ps []:=λs us _ hl=>by
 rw [Cv] at hl |-;exact .of_eq (h us hl)
noncomputable def Passes(CX:wz)(X:Cx)(E:XK):Prop:=∀(ao:List (au × Obj))(aj:St)(H:Hp)(s:aK)(e:aB)(s':aK),Inv X ao aj H s->CX X.stack H s E e s'->X.xe e s'
section
variable{X:Cx}{CX:wz}{k:Nat}{f C:au}{fd:jU}{ps:List Str}{sp:Sp}{kI:List V}{ds:List aB}{E:XK}{x m:Str}{p pos apos:Pos}{e o:Expr}{es:List Expr}{ta:TE}{t:TA}
theorem aeo{vs:List V}(F:bf X.prog X.w X.K X.mg X.base CX k f fd ps sp)(hr:jD k X.A)(hb:cj X.K fd ps ds)(hd:cD kI ds)(hx:Passes CX X E)(I:Inv X ao aj H s)(r:cD vs us)(h:sp (vs++kI) H Q E):aJ (aN X.prog X.w) X.A (call (.ref f) us) (EP X ao aj Q) X.xe s:=by have r2:cD (vs++kI) (us++ds):=r.append hd;have hl:(us++ds).length=ps.length:=(by rw [<- r2.length]; exact F.len _ _ _ _ h);refine GF (wM (F.run X.A X.stack s H ⟨us,[]⟩ (us++ds) (vs++kI) Q E hr I.env0 (hb s us I.jM hl) r2 h) λr s' hq=>?_);cases r with| error e=>exact hx ao aj H s e s' I hq| ok fl =>cases fl with| ret u=>exact I.after hq| next=>exact ou hq| brk=>exact ou hq| cont=>exact ou hq
theorem zK(F:bf X.prog X.w X.K X.mg X.base CX k f fd ps sp)(hr:jD k X.A)(hg:Gl X x)(hm:X.mg x=some (.ref f))(hk:nu X.K (.ref f)=true)(hb:cj X.K fd ps ds)(hd:cD kI ds)(hx:Passes CX X E)(ha:PA X (e :: es) t)(hdb:(x == ("__debug__" : Str))=false:=by decide)(he:gA (e :: es) X.env=(false,eval e X.env) :: gA es X.env:=by rfl)(hpl:(backTo pos (gA es X.env)).any (·.1)=false:=by rfl):
   PE X (.Call (.Name x p) (e :: es) [] pos) (YT sp kI E t):=by
 intro ao s aj H Q I h;refine Jg (Ew I hg hm ?_ hdb);refine XJ (h₀:=X.base) I.ok.mod.kin hk (bH (ha pos ao s aj H _ I h) λus s1 ⟨vs,H1,I1,r,q⟩=>⟨I1.jM,?_⟩) he hpl;exact aeo F hr hb hd hx I1 r q
theorem aj0(he:PE X o ta)(c:Cls X.K C)(hm:Meth X.K C m f)(F:bf X.prog X.w X.K X.mg X.base CX k f fd ps sp)(hr:jD k X.A)(hb:cj X.K fd ps ds)(hd:cD kI ds)(hx:Passes CX X E)(ht:eval (.Call (.Attribute o m apos) [] [] pos) X.env=(do
     let ov <- eval o X.env
     standAt apos.atName
     let (f,first) <- holding [ov] (getMethod ov m pl)
     callWith pos f first (backTo pos (gA [] X.env)) (backToKw pos (keywordEach [] X.env))):=by rfl):
   PE X (.Call (.Attribute o m apos) [] [] pos) (alj C m sp kI E ta GR):=by
 intro ao s aj H Q I h;refine PySem.W.methodCall_KW (pl:=pl) (bH (he ao s aj H _ I h) λu s1 ⟨x,H1,I1,rx,a,dx,fs,ex,ea,l,q⟩=>?_) ht;subst ex;obtain rfl:u=cL a:=rx;refine ahI I1 ea c hm l ?_;exact PySem.W.callWith_K0 (first:=[.ref a]) I1.jM hm.kp (aeo (us:=[.ref a]) (vs:=[.ref a]) F hr hb hd hx I1 (.cons rfl .nil) q)
structure Mk(K:bV)(C f:au):Prop where
 makes:Tn K C=true
 init:mC K (.ref C) "__init__" = some (some (.ref f))
 fn:Pz K (.ref f)=true
 kp:nu K (.ref C)=true
end
structure cW(N P:List Str)(sc:Scope):Prop where
 kind:sc.kind=.function
 co:sc.isCoroutine=false
 gen:sc.isGenerator=false
 nd:N.Nodup
 pre:N.take P.length=P
 par:∀ x∈P,sc.names.lookup x=some .local\/sc.names.lookup x=some .cell
 abV:∀ y∈sc.names,y.2≠.free
variable{sc:Scope}
theorem dX{P:List Str}(a:sc.kind=.function:=by rfl)(b:sc.isCoroutine=false:=by rfl)(c:sc.isGenerator=false:=by rfl)(d:N.Nodup:=by decide +kernel)(e:N.take P.length=P:=by rfl)(f:∀ x∈P,sc.names.lookup x=some .local\/sc.names.lookup x=some .cell:=by decide +kernel)(g:∀ y∈sc.names,y.2≠.free:=by decide +kernel):cW N P sc:=⟨a,b,c,d,e,f,g⟩
theorem ace{kindOf:Str->Option vA}{x:Str}:∀{binds:List (Str × aB)}{m:Str->Option aB},(∀ v,(x,v) ∉ binds)->bindL kindOf binds m x=m x
 | [],_,_=>rfl
 | (n,v) :: r,m,h=>by unfold bindL;rw [ace λw hw=>h w (iM _ hw)];split;have:x≠n:=(by rintro rfl; exact h v gU);simp [this];rfl
theorem ade{kindOf:Str->Option vA}{x:Str}:∀{binds:List (Str × aB)}{m:Str->Option aB},(∀ v,(x,v) ∉ binds)->bindC kindOf binds m x=m x
 | [],_,_=>rfl
 | (n,v) :: r,m,h=>by unfold bindC;rw [ade λw hw=>h w (iM _ hw)];split;rfl;have:x≠n:=(by rintro rfl; exact h v gU);simp [this]
theorem QG{kindOf:Str->Option vA}{x:Str}{v:aB}:∀{P:List Str}{vs:List aB}{i:Nat}{m:Str->Option aB},P.Nodup->P[i]?=some x->vs[i]?=some v->kindOf x=some .local ->
   bindL kindOf (P.zip vs) m x=some v
 | [],_,_,_,_,h,_,_=>by simp at h
 | _ :: _,[],_,_,_,_,h,_=>by simp at h
 | p :: P,w :: vs,0,m,nd,h1,h2,hk=>by simp at h1 h2; subst h1; subst h2;show bindL kindOf ((p,w) :: P.zip vs) m p=_;unfold bindL;rw [ace λv hv=>(yW.mp nd).1 (K6 hv).1,bI hk];simp
 | p :: P,w :: vs,i+1,m,nd,h1,h2,hk=>by show bindL kindOf ((p,w) :: P.zip vs) m x=_;unfold bindL;exact QG (i:=i) (yW.mp nd).2 (by simpa using h1) (by simpa using h2) hk
theorem Rb{kindOf:Str->Option vA}{x:Str}{v:aB}:∀{P:List Str}{vs:List aB}{i:Nat}{m:Str->Option aB},P.Nodup->P[i]?=some x->vs[i]?=some v->kindOf x≠some .local ->
   bindC kindOf (P.zip vs) m x=some v
 | [],_,_,_,_,h,_,_=>by simp at h
 | _ :: _,[],_,_,_,_,h,_=>by simp at h
 | p :: P,w :: vs,0,m,nd,h1,h2,hk=>by simp at h1 h2; subst h1; subst h2;show bindC kindOf ((p,w) :: P.zip vs) m p=_;unfold bindC;rw [ade λv hv=>(yW.mp nd).1 (K6 hv).1,aZ hk];simp
 | p :: P,w :: vs,i+1,m,nd,h1,h2,hk=>by show bindC kindOf ((p,w) :: P.zip vs) m x=_;unfold bindC;exact Rb (i:=i) (yW.mp nd).2 (by simpa using h1) (by simpa using h2) hk
noncomputable def start(N:List Str)(vs:List V):St:=vs.map some++wC (N.length-vs.length) none
noncomputable def rJ(CX:wz)(P:gk)(w:fK)(K:bV)(mg:Str->Option aB)(base:aY)(N:List Str)(qual:Str)(scope:Scope)(f:au)(cd:aB)(A:iI)(outer:List Env)(s:aK)(H:Hp)(E:XK):Cx where
 prog:=P
 w:=w
 K:=K
 mg:=mg
 base:=base
 A:=A.deeper (envOfC qual scope s.heap.objs.size f cd)
 N:=N
 s₀:=s
 H₀:=H
 env:=envOfC qual scope s.heap.objs.size f cd
 outer:=outer
 stack:=envOfC qual scope s.heap.objs.size f cd :: outer
 ex:=[]
 calm:=true
 fn:=λ_=>true
 pn:=[]
 xe:=λe s'=>aJ (aN P w) (A.deeper (envOfC qual scope s.heap.objs.size f cd)) (leaving (envOfC qual scope s.heap.objs.size f cd) e) (λ_ s''=>CX outer H s E e s'') (λe' s''=>CX outer H s E e' s'') s'
theorem Jb{x:Str}(h:sc.names.lookup x=some .cell):∃ c,(cellsFrom n sc.names []).lookup x=some c:=by have q:=Rz sc.names n [] (.inl h);exact Kg.mp q
variable{qual:Str}{scope:Scope}
theorem aiz{cd:aB}{s1:aK}{E:XK}{vs:List V}(S:cW N ps scope)(hd:A.handled=none)(e0:zE P w K mg base A outer s H)(hl:vs.length=ps.length)(r:cD vs us)(x:InCallC s s.heap.objs.size (bindL (envOfC qual scope s.heap.objs.size f cd).kindOf (ps.zip us) λ_=>none) (cellsFrom (s.heap.objs.size+1) scope.names []) (bindC (envOfC qual scope s.heap.objs.size f cd).kindOf (ps.zip us) λ_=>none) s1): Inv (rJ CX P w K mg base N qual scope f cd A outer s H E) [] (start N vs) H s1:=by have hpl:ps.length<=N.length:=(by have:=jr rA S.pre; rw [gR] at this; omega);obtain ⟨h1,tk,rfl,hk⟩:=x.done;have zj:∀ b:au,b ∉ (rJ CX P w K mg base N qual scope f cd A outer s H E).ex:=λb z=>bO (show b∈([]:List au) from z) (by simp);refine ⟨⟨e0.mod,S.kind,rfl,rfl,bG _,λy z c h1 h2=>?_,λy hy=>?_,λy c _ h=>?_,λ_=>hd,abf e0.frames,.inr ⟨rfl,rfl⟩,λb z=>bO z (zj b),e0.bs,e0.wQ,λb _ _=>zj b,λb z=>bO z (zj b),e0.sX,e0.zF⟩,rfl,e0.bare,Un.kept hk,⟨_,x.toInCall.ns,λi y v h1 h2 h3=>?_⟩,λy c h=>⟨_,x.cell y c h⟩,e0.hok.fresh (bG _),λy c h=>?_,λp hp=>bO (show p∈([]:List (au × Obj)) from hp) (by simp),e0.hok.kept hk,?_⟩;exact V6 x.apart (tM h1) (tM h2);have hy:scope.names.lookup y=some .cell\/scope.names.lookup y=some .free:=hy;rcases hy with hy | hy;exact Jb hy;exact bO rfl (S.abV _ (tM hy));exact sG (x.above y c (tM h));have hi:i<vs.length:=(by unfold start at h2;by_cases hi:i<vs.length;exact hi;rw [HY (by simpa using hi)] at h2;rw [acy] at h2;split at h2 <;> cases h2);have ha:vs[i]?=some v:=(by unfold start at h2;rw [JL (by simpa using hi),bL] at h2;cases e:vs[i]? with| none=>rw [e] at h2; cases h2| some a=>rw [e] at h2; cases h2; rfl);obtain ⟨u,hu,rv⟩:=r.get ha;have hp:ps[i]?=some y:=(by rw [<- S.pre,Nf (by omega)]; exact h1);have wR:ps.Nodup:=(by rw [<- S.pre]; exact S.nd.sublist (Ea _ _));refine ⟨u,rv,?_⟩;rcases S.par y (fG hp) with k | k;exact .inl ⟨k,QG wR hp hu k⟩;obtain ⟨c,e⟩:=Jb (n:=s.heap.objs.size+1) k;refine .inr ⟨.inl k,c,e,?_⟩;have q:=x.cell y c e;rw [Rb wR hp hu (by show scope.names.lookup y≠_; rw [k]; decide)] at q;exact q;exact e0.hok.fresh (sG (x.above y c (tM h)));unfold start;show _=N.length;rw [dZ,aL,Uq];omega
variable{doc pm cdv ct oc:aB}{an od:Option au}{osl:Array (Option aB)}
theorem abK{k:Nat}{params:Arguments}{dV kV:aB}(lk:K.lookup f=some ⟨oc,od,.func (uN name qual params body scope dV kV doc pm an cdv ct),osl⟩)(hcd:Ly K cdv qual=true)(S:cW N ps scope)(len:∀ vs H Q E,sp vs H Q E->vs.length=ps.length)(hbody:∀(A:iI)(outer:List Env)(s:aK)(H:Hp)(vs:List V)(Q:VK)(E:XK),jD k (A.deeper (envOfC qual scope s.heap.objs.size f cdv))->sp vs H Q E -> ∃ t,qH (rJ CX P w K mg base N qual scope f cdv A outer s H E) body t/\t { nx:=λ_ H'=>Q .non H',rt:=Q } (start N vs) H): bf P w K mg base CX (k+1) f (uN name qual params body scope dV kV doc pm an cdv ct) ps sp:=by refine ⟨len,λA outer s H args us vs Q E hr e0 hb r hsp=>?_⟩;have hl:=len _ _ _ _ hsp;have KX:K.In s.heap:=e0.mod.kin.keeps λb o e=>(e0.bs b o e).1;have lim:s.heap.NoLimit:=e0.mod.nolimit.keeps λb o e=>(e0.bs b o e).1;have hkind:∀ y∈ps.zip us,scope.names.lookup y.1=some .local\/(scope.names.lookup y.1=some .cell/\((cellsFrom (s.heap.objs.size+1) scope.names []).lookup y.1).isSome=true):=λ⟨n,v⟩ hy=>(by rcases S.par n (K6 hy).1 with q | q;exact .inl q;exact .inr ⟨q,Rz _ _ _ (.inl q)⟩);refine ZQ hr.depth (KX _ _ lk) rfl S.co S.gen rfl (ad6 KX hcd) (hb _ _ _ _ ?_);refine Yz S.kind hkind λenv he s1 x=>?_;subst he;refine ⟨lim.keeps x.toInCall.keep,codeAny_func ?_⟩;obtain ⟨t,ht,hq⟩:=hbody A outer s H vs Q E (hr.deeper _) hsp;have I:Inv (rJ CX P w K mg base N qual scope f cdv A outer s H E) [] (start N vs) H s1:=aiz S hr.hd e0 hl r x;refine jx (ht [] s1 (start N vs) H _ I hq) (λfl s' hs=>?_) λe s' hs=>hs;have fin:∀{bA:St}{H':Hp}{v:V}{u:aB},Inv (rJ CX P w K mg base N qual scope f cdv A outer s H E) [] bA H' s'->cO v u->Q v H'->CE outer P w H s Q u s' := λ{bA H' v u} J rv q=>⟨v,H',J.os,J.bare,J.base,J.hok,rv,q⟩;cases fl with| ret u =>obtain ⟨v,bA,H',J,rv,q⟩:=hs;exact fin J rv q| next =>obtain ⟨bA,H',J,q⟩:=hs;exact fin (v:=V.non) (u:=dM) J rfl q| brk =>obtain ⟨_,_,_,q⟩:=hs;exact ou q| cont =>obtain ⟨_,_,_,q⟩:=hs;exact ou q
section
variable{X:Cx}{x:Str}{p pos:Pos}{e:Expr}{es:List Expr}{t:TA}{id T:String}{r:List V->Hp->VK->Prop}
noncomputable def tCB(r:List V->Hp->VK->Prop)(t:TA):TE:=fun aj H Q=>t aj H λvs H1=>r vs H1 Q
theorem bh(hc:jH X (.builtin id) r)(hg:Gl X x)(hm:X.mg x=none)(hv:bootBuiltins x=some (.builtin id))(ha:PA X (e :: es) t)(hn:x≠"__name__":=by decide)(hdb:(x == ("__debug__" : Str))=false:=by decide)(he:gA (e :: es) X.env=(false,eval e X.env) :: gA es X.env:=by rfl)(hpl:(backTo pos (gA es X.env)).any (·.1)=false:=by rfl):PE X (.Call (.Name x p) (e :: es) [] pos) (tCB r t):=by
 intro ao s aj H Q I h;refine Jg (xP I hg hm hv ?_ hn hdb);exact PyProof.Rows.callWith_builtin1 (bH (ha pos ao s aj H _ I h) λus s1 ⟨vs,H1,I1,r1,q1⟩=>hc ao s1 aj H1 vs us Q I1 r1 q1) he hpl
theorem oO(hc:jH X (.type T) r)(hg:Gl X x)(hm:X.mg x=none)(hv:bootBuiltins x=some (.type T))(ha:PA X (e :: es) t)(hn:x≠"__name__":=by decide)(hdb:(x == ("__debug__" : Str))=false:=by decide)(he:gA (e :: es) X.env=(false,eval e X.env) :: gA es X.env:=by rfl)(hpl:(backTo pos (gA es X.env)).any (·.1)=false:=by rfl):PE X (.Call (.Name x p) (e :: es) [] pos) (tCB r t):=by
 intro ao s aj H Q I h;refine Jg (xP I hg hm hv ?_ hn hdb);exact Bp (bH (ha pos ao s aj H _ I h) λus s1 ⟨vs,H1,I1,r1,q1⟩=>hc ao s1 aj H1 vs us Q I1 r1 q1) he hpl
end
namespace HT
open PySem PyProof.Rows
section
open PySem.SeqAt
open PySem.AutoSeq1 (wpAny_loadPart')
open PySem.MeetsSeq PySem.MeetsSeq2 PySem.MeetsSeq3
end
theorem agr{t b:au}{vs ws:List aB}{Q:aB->aK->Prop}(ht:pO s.heap t vs.toArray)(hb:pO s.heap b ws.toArray)(hv:vs≠[])(h1:ws=[]->Q (.ref t) s)(h2:ws≠[]->Q (.ref s.heap.objs.size) { s with heap:=s.heap.push { cls:=.type "tuple",data:=.seq (vs++ws).toArray } })(hsz:vs.length+ws.length<=aO):aJ (aN prog w) A (lQ .Add (.ref t) (.ref b)) Q E s:=by obtain ⟨⟨cls,dd,data,sl⟩,ho,hc,n,hd⟩:=id ht;obtain ⟨⟨cls2,dd2,data2,sl2⟩,ho2,hc2,n2,hd2⟩:=id hb;simp only at hc hd hc2 hd2;subst hc hd hc2 hd2;have e:vs.toArray++ws.toArray=(vs++ws).toArray:=(by simp);by_cases hw:ws=[];exact TQ ⟨_,ho,rfl⟩ ⟨_,ho2,rfl⟩ Rh Yb Xc SJ (Xr _ _) (tuple_addW1 t b vs.toArray ws.toArray n n2 dd dd2 sl sl2 (by simpa using hv) (by simp [hw])) ⟨ho,ho2,h1 hw⟩;refine TQ ⟨_,ho,rfl⟩ ⟨_,ho2,rfl⟩ Rh Yb Xc SJ (Xr _ _) (tuple_addW2 t b vs.toArray ws.toArray n n2 dd dd2 sl sl2 (by simpa using hv) (by simpa using hw) (by rw [fV,fV]; exact hsz)) ⟨ho,ho2,?_⟩;rw [e];exact h2 hw
noncomputable def cC(n d:Nat):Option Int->Nat
 | none=>d
 | some v=>if v<0 then (v+(n:Int)).toNat else min v.toNat n
theorem Dh(n d:Nat):cC n d none=d:=rfl
theorem uf(n d k:Nat):cC n d (some (k:Int))=min k n:=by show (if (k:Int)<0 then ((k:Int)+(n:Int)).toNat else min (k:Int).toNat n)=min k n;rw [aZ (by omega),Am]
theorem an1(n d:Nat)(hd:d<=n)(o:Option Int):cC n d o<=n:=by cases o with| none=>exact hd| some v =>show (if v<0 then (v+(n:Int)).toNat else min v.toNat n)<=n;by_cases hv:v<0;rw [bI hv]; omega;rw [aZ hv]; exact Nat.min_le_right _ _
theorem aa0(v:Int)(n d:Nat):(if v<0 then max (v+(n:Int)) 0 else min v (n:Int))=((cC n d (some v):Nat):Int):=by show (if v<0 then max (v+(n:Int)) 0 else min v (n:Int))=(((if v<0 then (v+(n:Int)).toNat else min v.toNat n):Nat):Int);by_cases hv:v<0;simp only [bI hv]; omega;simp only [aZ hv]; omega
theorem af5(lo hi:Option Int)(n:Nat):WK lo hi 1 (n:Int)=(((cC n 0 lo:Nat):Int),((cC n n hi:Nat):Int)):=by have h1:¬ ((1:Int)<0):=(by omega);unfold WK;simp only [h1,if_false];refine Prod.ext ?_ ?_;(cases lo with| none=>rfl| some v=>exact aa0 v n 0);cases hi with| none=>rfl| some v=>exact aa0 v n n
theorem afK(i j:Nat):DY (i:Int) (j:Int) 1=j-i:=by unfold DY;have h1:(1:Int) > 0:=(by omega);simp only [h1,if_true,Int.ediv_one];split <;> omega
theorem Ir{v:aB}{o:Option Int}{Q:Option Int->aK->Prop}(p:wU v o)(h:Q o s):aJ (aN prog w) A (Builtin.Slice.slicePartIndex v) Q E s:=by cases p with| none=>exact slicePart_none h| int i t=>exact slicePart_int h
variable{sl:au}{vl vu:aB}{lo hi:Option Int}
theorem YX{Q:Int × Int × Nat->aK->Prop}(hs:s.heap.IsSliceOf sl vl vu .none)(pl:wU vl lo)(pu:wU vu hi)(h:Q (((cC n 0 lo:Nat):Int),1,cC n n hi-cC n 0 lo) s):aJ (aN prog w) A (Lx (.ref sl) (pure (n:Int))) Q E s:=by obtain ⟨os,hos,hcs,hds⟩:=id hs;unfold Lx aep;refine aG (aG (kj hos hds (x:=vl) rfl (aG (kj hos hds (x:=vu) rfl (aG (kj hos hds (x:=.none) rfl (aR ?_)))))));refine aG (slicePart_none ?_);show aJ _ _ (if ((1:Int) == 0)=true then _ else _) _ _ s;rw [aZ (by decide)];refine aG (Ir pl (aG (Ir pu (aG (aR ?_)))));show aJ _ _ (match WK lo hi 1 (n:Int) with | (lo,hi)=>pure (lo,(1:Int),DY lo hi 1)) _ _ s;rw [af5 lo hi n];show aJ _ _ (pure (((cC n 0 lo:Nat):Int),(1:Int),DY ((cC n 0 lo:Nat):Int) ((cC n n hi:Nat):Int) 1)) _ _ s;rw [afK];exact aR h
theorem an3(xs:Array aB)(i k:Nat):((iQ k).filterMap λ(m:Nat)=>xs[((i:Int)+(m:Int) * 1).toNat]?).toArray=((xs.toList.drop i).take k).toArray:=by have e:(λ(m:Nat)=>xs[((i:Int)+(m:Int) * 1).toNat]?)=λm=>xs[i+m]?:=(by funext m;have:((i:Int)+(m:Int) * 1).toNat=i+m:=(by omega);rw [this]);rw [e];have:=pick_run xs i k;rw [abp] at this;have e2:((λx=>xs[x]?)∘λx=>i+x)=λm=>xs[i+m]?:=rfl;rw [e2] at this;rw [this]
theorem ao9{t:au}{Q:aB->aK->Prop}(ht:pO s.heap t items)(hs:s.heap.IsSliceOf sl vl vu .none)(pl:wU vl lo)(pu:wU vu hi)(hw:¬ (cC items.size 0 lo=0/\cC items.size items.size hi=items.size))(h:Q (.ref s.heap.objs.size) { s with heap:=s.heap.push { cls:=.type "tuple",data:=.seq ((items.toList.drop (cC items.size 0 lo)).take (cC items.size items.size hi-cC items.size 0 lo)).toArray } })(hsz:items.size<=aO):aJ (aN prog w) A (getItem (.ref t) (.ref sl)) Q E s:=by
 have Lp:sizeOk (.seq ((items.toList.drop (cC items.size 0 lo)).take (cC items.size items.size hi-cC items.size 0 lo)).toArray):=by
   show ((items.toList.drop (cC items.size 0 lo)).take (cC items.size items.size hi-cC items.size 0 lo)).toArray.size<=aO;rw [fV,gR,jR,tO];omega
 have hj:cC items.size items.size hi<=items.size:=an1 _ _ (bG _) hi;obtain ⟨os,hos,hcs,hds⟩:=id hs;have hTs:s.TypeIs (.ref sl) "slice":=⟨os,hos,hcs⟩;unfold getItem
 try with_reducible refine jO ?_
 first | refine aG (aR ?_) | skip
 refine aG (WQ ht.typeIs (by decide) ?_)
 refine aG (Bb (name:=xO "__getitem__") ht.typeIs Fp
   (tH Fp ht.typeIs aes ?_ (abm _ _)))
 show aJ _ _ (Xg (.ref t) >>= _) _ _ s;refine aG (tupleItemsOf_ ht ?_);refine aG (CP hTs ?_);rw [bI (by decide)];refine aG (YX hs pl pu ?_)
 have hno:¬ ((((cC items.size 0 lo:Nat):Int) == 0 && (1:Int) == 1 && (cC items.size items.size hi-cC items.size 0 lo) == items.size)=true):=by
   intro q;rw [pF,pF] at q;have q1:((cC items.size 0 lo:Nat):Int)=0:=eq_of_beq q.1.1;have q2:cC items.size items.size hi-cC items.size 0 lo=items.size:=eq_of_beq q.2;exact hw ⟨by omega,by omega⟩
 show aJ _ _ (if (((cC items.size 0 lo:Nat):Int) == 0 && (1:Int) == 1 && (cC items.size items.size hi-cC items.size 0 lo) == items.size)=true then _ else _) _ _ s;rw [aZ hno,an3]
 first
   | exact aG (m:=Bk _) (oK (aR ⟨_,rfl,aR h⟩) Lp)
   | exact aG (m:=Bk _) (oK (aG (aR (aR ⟨_,rfl,aR h⟩))) Lp)
   | exact aG (aG (m:=Bk _) (oK (aR (aR ⟨_,rfl,aR h⟩)) Lp))
   | exact aG (aG (m:=Bk _) (oK (aR ⟨_,rfl,aR h⟩) Lp))
end HT
noncomputable abbrev TO:=St->Hp->(Option Int->Hp->Prop)->Prop
noncomputable def PO(X:Cx)(e:Option Expr)(t:TO):Prop :=
 ∀(ao:List (au × Obj))(s:aK)(aj:St)(H:Hp)(Q:Option Int->Hp->Prop),Inv X ao aj H s->t aj H Q ->
   aJ (aN X.prog X.w) X.A (evalPart e X.env) (λu s'=>∃ o H',Inv X ao aj H' s'/\wU u o/\Q o H') X.xe s
noncomputable def Oe:TO:=λ_ H Q=>Q none H
section
variable{X:Cx}{e:Expr}{te:TE}{lo hi:Option Expr}{tl th:TO}{pos p2:Pos}
theorem kZ:PO X none Oe:=by intro ao s aj H Q I h;rw [Wt];exact aR ⟨none,H,I,.none,h⟩
noncomputable def SlR(X:Cx)(r:V->Option Int->Option Int->Hp->VK->Prop):Prop :=
 ∀(ao:List (au × Obj))(s:aK)(aj:St)(H:Hp)(x:V)(v vl vu:aB)(lo hi:Option Int)(sl:au)(Q:VK),Inv X ao aj H s->cO x v->s.heap.IsSliceOf sl vl vu .none->wU vl lo->wU vu hi->r x lo hi H Q ->
   ∃ T id,typeLookup (.type T) "__getitem__" = pure (some (.builtin id))/\s.TypeIs v T/\aJ (aN X.prog X.w) X.A (getItem v (.ref sl)) (EP X ao aj Q) X.xe s
noncomputable def tSl(r:V->Option Int->Option Int->Hp->VK->Prop)(te:TE)(tl th:TO):TE:=fun aj H Q=>te aj H λx H1=>tl aj H1 λl H2=>th aj H2 λu H3=>r x l u H3 Q
theorem jo{r:V->Option Int->Option Int->Hp->VK->Prop}(hr:SlR X r)(he:PE X e te)(hl:PO X lo tl)(hu:PO X hi th):PE X (.Subscript e (.Slice lo hi none p2) pos) (tSl r te tl th):=by intro ao s aj H Q I h;refine Oh (bH (he ao s aj H _ I h) λv s1 ⟨x,H1,I1,r1,q1⟩=>?_);refine wpAny_Slice (bH (hl ao s1 aj H1 _ I1 q1) λvl s2 ⟨l,H2,I2,pl,q2⟩=>bH (hu ao s2 aj H2 _ I2 q2) λvu s3 ⟨u,H3,I3,pu,q3⟩=>?_);rw [Wt];refine aR ?_;have I4:Inv X ao aj H3 { s3 with heap:=s3.heap.push { cls:=.type "slice",data:=.fields #[vl,vu,.none] } }:=I3.kept (t':=s3.toks) λb ob q=>cR _ q;obtain ⟨T,id,hT,ht,hg⟩:=hr ao { s3 with heap:=s3.heap.push { cls:=.type "slice",data:=.fields #[vl,vu,.none] } } aj H3 x v vl vu l u s3.heap.objs.size Q I4 r1 (abY ..) pl pu q3;show aJ (aN X.prog X.w) X.A (subscriptTail e (.Slice lo hi none p2) v (.ref s3.heap.objs.size)) (EP X ao aj Q) X.xe { s3 with heap:=s3.heap.push { cls:=.type "slice",data:=.fields #[vl,vu,.none] } };exact tail_any (ops:=[.ref s3.heap.objs.size,v]) ht hT hg (by with_unfolding_all rfl)
noncomputable def jt(xs:List V)(lo hi:Option Int):List V:=(xs.drop (HT.cC xs.length 0 lo)).take (HT.cC xs.length xs.length hi-HT.cC xs.length 0 lo)
theorem Nt(xs:List V)(lo hi:Option Int):(jt xs lo hi).length<=xs.length:=by unfold jt;rw [gR,jR];omega
noncomputable def aiq(K:bV):V->Option Int->Option Int->Hp->VK->Prop:=λx lo hi H Q=>∃ a xs,x=.ref a/\aH K H a xs /\
 ¬ (HT.cC xs.length 0 lo=0/\HT.cC xs.length xs.length hi=xs.length)/\∀ p,H p=none->Q (.ref p) (upd H p (.tup (jt xs lo hi)))
theorem Zt:SlR X (aiq X.K):=by intro ao s aj H x v vl vu lo hi sl Q I rx hs pl pu h;obtain ⟨a,xs,rfl,hx,hw,q⟩:=h;cases rx;obtain ⟨its,r,ht,hz⟩:=I.tuple hx;have hlen:its.toArray.size=xs.length:=(by rw [fV]; exact r.length.symm);refine ⟨"tuple",_,PyProof.Rows.slot_tuple_getitem.lookup,ht.typeIs,?_⟩;refine HT.ao9 ht hs pl pu (by rw [hlen]; exact hw) ?_ (by rw [hlen]; exact hz);rw [hlen];refine ⟨.ref s.heap.objs.size,_,I.laid (t':=s.toks) (o:=.tup (jt xs lo hi)) (λb ob q=>cR _ q) (bG _) ?_,rfl,q _ (I.hok.fresh (bG _))⟩;exact ⟨jF (Nt xs lo hi) hz,_,(r.drop (HT.cC xs.length 0 lo)).take (HT.cC xs.length xs.length hi-HT.cC xs.length 0 lo),uQ.new _ _⟩
noncomputable def ae2(K:bV):R2:=λx y H Q=>∃ a b xs ys,x=.ref a/\y=.ref b/\aH K H a xs/\aH K H b ys/\xs≠[]/\xs.length+ys.length<=aO /\
 (ys=[]->Q (.ref a) H)/\(ys≠[]->∀ p,H p=none->Q (.ref p) (upd H p (.tup (xs++ys))))
theorem cD.Bw(r:cD xs us):us=[]↔xs=[]:=by cases r with| nil=>simp| cons _ _=>simp
theorem afi:cU X (lQ .Add) (ae2 X.K):=by intro ao s aj H x y v u Q I rx ry h;obtain ⟨a,b,xs,ys,rfl,rfl,ha,hb,hx,hz,q1,q2⟩:=h;cases rx;cases ry;obtain ⟨its,r1,p1,_⟩:=I.tuple ha;obtain ⟨its2,r2,p2,_⟩:=I.tuple hb;refine HT.agr p1 p2 (λz=>hx (r1.Bw.mp z)) (λz=>⟨.ref a,H,I,rfl,q1 (r2.Bw.mp z)⟩) (λz=>?_) (by rw [<- r1.length,<- r2.length]; exact hz);refine ⟨.ref s.heap.objs.size,_,I.laid (t':=s.toks) (o:=.tup (xs++ys)) (λb ob q=>cR _ q) (bG _) ?_,rfl,q2 (λw=>z (r2.Bw.mpr w)) _ (I.hok.fresh (bG _))⟩;exact ⟨by rw [dZ]; exact hz,_,r1.append r2,uQ.new _ _⟩
end
noncomputable def zG(n:Nat)(i:Int):Option Nat:=if 0<=i then (if i<n then some i.toNat else none) else if -(n:Int)<=i then some (i+n).toNat else none
noncomputable def oV{bM:Type}(xs:List bM)(i:Int):Option bM:=(zG xs.length i).bind λj=>xs[j]?
theorem ac4(h:zG n i=some j):seqIndex? i n=some j/\j<n/\-(n:Int)<=i/\i<n:=by unfold zG at h;by_cases h0:0<=i;rw [bI h0] at h;by_cases h1:i<n;rw [bI h1] at h;have e:i.toNat=j:=j6 h;exact ⟨by rw [Uj h0 h1,e],by omega,by omega,h1⟩;rw [aZ h1] at h; cases h;rw [aZ h0] at h;by_cases h1:-(n:Int)<=i;rw [bI h1] at h;have e:(i+n).toNat=j:=j6 h;exact ⟨by rw [Xe (by omega) h1,e],by omega,h1,by omega⟩;rw [aZ h1] at h; cases h
theorem T7{xs:List bM}{v:bM}(h:oV xs i=some v):∃ j,seqIndex? i xs.length=some j/\xs[j]?=some v/\j<xs.length/\-(xs.length:Int)<=i/\i<xs.length:=by unfold oV at h;cases e:zG xs.length i with| none=>rw [e] at h; cases h| some j =>rw [e] at h;obtain ⟨h1,h2,h3,h4⟩:=ac4 e;exact ⟨j,h1,h,h2,h3,h4⟩
theorem oW{xs:List bM}{v:bM}(h:xs[j]?=some v):oV xs (j:Int)=some v:=by have hj:j<xs.length:=(jC.mp h).1;have e:zG xs.length (j:Int)=some j:=(by unfold zG;rw [bI (by omega),bI (by omega)]; simp);unfold oV; rw [e]; exact h
noncomputable def aeI(b:Expr):Prop:=∀ o i,subscripted b false o i=operate [o,i] (getItem o i)
noncomputable def IxR(X:Cx)(r:R2):Prop :=
 ∀(value slice:Expr)(ao:List (au × Obj))(s:aK)(aj:St)(H:Hp)(x y:V)(v u:aB)(Q:VK),Inv X ao aj H s->cO x v->cO y u->r x y H Q ->
   subscripted slice false v u=operate [v,u] (getItem v u)->aJ (aN X.prog X.w) X.A (subscriptTail value slice v u) (EP X ao aj Q) X.xe s
noncomputable def MtR(X:Cx)(id:String)(r:V->List V->Hp->VK->Prop):Prop :=
 ∀(ao:List (au × Obj))(s:aK)(aj:St)(H:Hp)(x:V)(xs:List V)(v:aB)(us:List aB)(Q:VK),Inv X ao aj H s->cO x v->cD xs us->r x xs H Q ->
   aJ (aN X.prog X.w) X.A (call (.builtin id) (v :: us)) (EP X ao aj Q) X.xe s
section
variable{X:Cx}{a b:Expr}{ta tb:TE}{pos:Pos}
theorem vq{r:R2}(hr:IxR X r)(ha:PE X a ta)(hb:PE X b tb)(hs:aeI b):PE X (.Subscript a b pos) (rQ r ta tb):=by intro ao s aj H Q I h;exact Oh (R6 ha hb I h λv u s2 x y H2 I2 rx ry q=>hr a b ao s2 aj H2 x y v u Q I2 rx ry q (hs _ _))
noncomputable def aa5(K:bV):R2:=λx y H Q=>qN λp xs i v=>jJ (x=.ref p) (y=.int i) (aV K H p xs) (oV xs i=some v) (Q v H)
noncomputable def abP(K:bV):R2:=λx y H Q=>qN λp xs i v=>jJ (x=.ref p) (y=.int i) (aH K H p xs) (oV xs i=some v) (Q v H)
noncomputable def Yx:R2:=λx y H Q=>sY λz i c=>jJ (x=.str z) (y=.int i) (z.length<=aO) (oV z.cps.toList i=some c) (Q (.str ⟨#[c]⟩) H)
theorem akC:IxR X (aa5 X.K):=by intro value slice ao s aj H x y v u Q I rx ry h hs;obtain ⟨p,xs,i,z,rfl,rfl,hq,he,q⟩:=h;cases rx;obtain ⟨t,rfl⟩:=ry;obtain ⟨its,r,pl,hz⟩:=I.list hq;obtain ⟨j,h1,h2,h3,h4,h5⟩:=T7 he;obtain ⟨w,ew,qb⟩:=r.get h2;have hl:=r.length;have hn:=Et;have fin:EP X ao aj Q w s:=⟨z,H,I,qb,q⟩;by_cases h0:0<=i;have hj:i.toNat=j:=(by rw [Uj h0 h5] at h1;exact j6 h1);exact item_listR pl.isList h0 (by omega) (by rw [hj]; simpa using ew) fin hs;have hj:(i+(its.toArray.size:Int)).toNat=j:=(by rw [Xe (by omega) h4] at h1;rw [fV,<- hl];exact j6 h1);exact Z1 (x:=w) pl.isList.typeIs slot_list_getitem.lookup (wpAny_getItem_list_neg (Q:=λr s'=>r=w/\EP X ao aj Q r s') pl.isList (by omega) (by rw [fV] <;> omega) (by omega) (by rw [hj]; simpa using ew) ⟨rfl,fin⟩) hs
theorem amh:IxR X (abP X.K):=by intro value slice ao s aj H x y v u Q I rx ry h hs;obtain ⟨p,xs,i,z,rfl,rfl,hq,he,q⟩:=h;cases rx;obtain ⟨t,rfl⟩:=ry;obtain ⟨its,r,pl,hz⟩:=I.tuple hq;obtain ⟨j,h1,h2,h3,h4,h5⟩:=T7 he;obtain ⟨w,ew,qb⟩:=r.get h2;have hl:=r.length;have hn:=Et;have fin:EP X ao aj Q w s:=⟨z,H,I,qb,q⟩;exact Z1 (x:=w) pl.typeIs slot_tuple_getitem.lookup (getItem_tuple (j:=j) (Q:=λr s'=>r=w/\EP X ao aj Q r s') pl (by omega) (by omega) (by rw [fV,<- hl]; exact h1) (by simpa using ew) ⟨rfl,fin⟩) hs
theorem aki:IxR X Yx:=by intro value slice ao s aj H x y v u Q I rx ry h hs;obtain ⟨z,i,c,rfl,rfl,hz,he,q⟩:=h;obtain ⟨t,rfl⟩:=rx;obtain ⟨t',rfl⟩:=ry;obtain ⟨j,h1,h2,h3,h4,h5⟩:=T7 he;have hl:z.cps.toList.length=z.length:=(by simp [Aj]);rw [hl] at h1 h4 h5;have hn:=Et;exact tail_any (Wk s z t) slot_str_getitem.lookup (getItem_str (c:=c) (by have e1:decide (i < -(2 ^ 63:Int))=false:=fP (by omega);have e2:decide (i ≥ 2 ^ 63)=false:=fP (by omega);rw [e1,e2,Ol]) (by rw [h1]; simpa using h2) ⟨.str ⟨#[c]⟩,H,I.tok _,⟨_,rfl⟩,q⟩) hs
theorem aoJ(its:List aB)(n j:Nat)(u:aB):lM (·.setIfInBounds j u) { cls:=.type "list",data:=.seq its.toArray n }={ cls:=.type "list",data:=.seq (its.set j u).toArray n }:=by simp [lM]
variable{p:au}
theorem Inv.lst(I:Inv X ao aj H s)(h:H p=some (.lst xs)): ∃(its:List aB)(n:Nat),cD xs its/\s.heap.get? p=some { cls:=.type "list",data:=.seq its.toArray n }/\xs.length<=aO:=by obtain ⟨z,its,n,r,e⟩:=I.hok p _ h;exact ⟨its,n,r,e,z⟩
theorem Inv.akH{its its':List aB}{n':Nat}{f:Obj->Obj}(I:Inv X ao aj H s)(h:H p=some (.lst xs))(ho:s.heap.get? p=some { cls:=.type "list",data:=.seq its.toArray n })(hf:f { cls:=.type "list",data:=.seq its.toArray n }={ cls:=.type "list",data:=.seq its'.toArray n' })(r:cD ys its')(hz:ys.length<=aO)(t:Nat): Inv X ao aj (upd H p (.lst ys)) { s with heap:=s.heap.update p f,toks:=t }:=by have e:(s.heap.update p f).get? p=some { cls:=.type "list",data:=.seq its'.toArray n' }:=(by rw [xY f ho (by rw [hf] <;> rfl),hf]);refine I.write (x:=p) (e:=p) (by rw [h]; trivial) (.inl rfl) (λb u hb q=>(qQ _ _ (bW hb)).aA q) ⟨_,e⟩ ?_;exact ⟨hz,its',n',r,e⟩
noncomputable def aeR:V->V->V->Hp->(Hp->Prop)->Prop:=λo i v H Q=>qN λp xs k j=>jJ (o=.ref p) (i=.int k) (H p=some (.lst xs)) (zG xs.length k=some j) (Q (upd H p (.lst (xs.set j v))))
theorem set_list:UG X aeR:=by intro ao s aj H o i v ov iv u Q I ro ri rv h;obtain ⟨p,xs,k,j,rfl,rfl,hp,hj,q⟩:=h;cases ro;obtain ⟨t,rfl⟩:=ri;obtain ⟨its,n,r,ho,hz⟩:=I.lst hp;obtain ⟨h1,h2,h3,h4⟩:=ac4 hj;have hl:=r.length;have hn:=Et;have I':Inv X ao aj (upd H p (.lst (xs.set j v))) { s with heap:=s.heap.update p (lM (·.setIfInBounds j u)) } := I.akH hp ho (aoJ its n j u) (r.set rv j) (by rw [List.length_set]; exact hz) s.toks;by_cases h0:0<=k;have hk:k.toNat=j:=(by rw [Uj h0 h4] at h1;exact j6 h1);exact PySem.W.ki_setAt ho h0 (by omega) (by rw [fV,<- hl]; exact h4) (by rw [hk]; exact ⟨_,I',q⟩);have hk:(k+(its.toArray.size:Int)).toNat=j:=(by rw [Xe (by omega) h3] at h1;rw [fV,<- hl];exact j6 h1);exact PySem.W.ki_setBack ho (by omega) (by rw [fV,<- hl]; exact h3) (by omega) (by rw [hk]; exact ⟨_,I',q⟩)
theorem anZ(lo hi:Option Int)(n:Nat):(sliceBounds lo hi none n).1=((HT.cC n 0 lo:Nat):Int)/\(sliceBounds lo hi none n).2.1=((HT.cC n n hi:Nat):Int)/\(sliceBounds lo hi none n).2.2=1:=by refine ⟨?_,?_,rfl⟩;(cases lo with| none=>simp [sliceBounds,HT.cC]| some i =>simp only [sliceBounds,HT.cC,Option.getD_none,show (1:Int) > 0 by decide,if_true];by_cases h:i<0;simp only [h,if_true] <;> omega;simp only [h,if_false] <;> omega);cases hi with| none=>simp [sliceBounds,HT.cC]| some i =>simp only [sliceBounds,HT.cC,Option.getD_none,show (1:Int) > 0 by decide,if_true];by_cases h:i<0;simp only [h,if_true] <;> omega;simp only [h,if_false] <;> omega
theorem anU(its:List aB)(lo hi:Option Int):slicePick its.toArray lo hi none=((its.drop (HT.cC its.length 0 lo)).take (HT.cC its.length its.length hi-HT.cC its.length 0 lo)).toArray:=by obtain ⟨h1,h2,h3⟩:=anZ lo hi its.toArray.size;unfold slicePick;rw [h1,h2,h3];simp only [sliceRange_one,pick_run,fV] <;> rfl
noncomputable def agP(K:bV):V->Option Int->Option Int->Hp->VK->Prop:=λx lo hi H Q=>∃ a xs,x=.ref a/\aV K H a xs/\∀ p,H p=none->Q (.ref p) (upd H p (.lst (jt xs lo hi)))
theorem Mq:SlR X (agP X.K):=by intro ao s aj H x v vl vu lo hi sl Q I rx hs pl pu h;obtain ⟨a,xs,rfl,hx,q⟩:=h;cases rx;obtain ⟨its,r,ht,hz⟩:=I.list hx;have hlen:=r.length;refine ⟨"list",_,slot_list_getitem.lookup,ht.isList.typeIs,?_⟩;refine wpAny_getItem_list_slice ht.isList hs pl pu .none (by simp) ?_ (by rw [fV] <;> omega);rw [anU,<- hlen];refine ⟨.ref s.heap.objs.size,_,I.laid (t':=s.toks) (o:=.lst (jt xs lo hi)) (λb ob q=>cR _ q) (bG _) ?_,rfl,q _ (I.hok.fresh (bG _))⟩;exact ⟨jF (Nt xs lo hi) hz,_,0,(r.drop (HT.cC xs.length 0 lo)).take (HT.cC xs.length xs.length hi-HT.cC xs.length 0 lo),gq _ rfl⟩
inductive SqQ(K:bV)(xs:List V)(H:Hp)(k:au->List V->Prop):Prop|mk p ys(_:xs=[.ref p])(_:aV K H p ys\/aH K H p ys)(_:k p ys)
inductive amq(K:bV)(xs:List V)(H:Hp)(Q:VK):Prop|mk p ys(_:xs=[.ref p])(_:(aV K H p ys/\∀ l,H l=none->Q (.ref l) (upd H l (.tup ys)))\/(aH K H p ys/\Q (.ref p) H))
theorem jy:jH X (.builtin "len") (λxs H Q=>SqQ X.K xs H λ_ ys=>Q (.int ys.length) H):=by intro ao s aj H xs us Q I r h;obtain ⟨p,ys,rfl,hq,q⟩:=h;obtain ⟨u,rfl,rx⟩:=lZ r;cases rx;have hn:=Et;rcases hq with hq | hq;obtain ⟨its,r',pl,hz⟩:=I.list hq;have hlen:=r'.length;exact Calls.call_len_list pl.isList (by simp only [fV] <;> omega) ⟨.int ys.length,H,I.tok _,⟨s.toks+1,by rw [fV,hlen]⟩,q⟩;obtain ⟨its,r',pl,hz⟩:=I.tuple hq;have hlen:=r'.length;exact len_tuple pl (by simp only [fV] <;> omega) ⟨.int ys.length,H,I.tok _,⟨s.toks+1,by rw [fV,hlen]⟩,q⟩
theorem KD:jH X (.builtin "len") (λxs H Q=>∃ z,xs=[.str z]/\z.length<=aO/\Q (.int z.length) H):=by intro ao s aj H xs us Q I r h;obtain ⟨z,rfl,hz,q⟩:=h;obtain ⟨u,rfl,t,rfl⟩:=lZ r;have hn:=Et;exact len_str (by omega) ⟨.int z.length,H,I.tok _,⟨_,rfl⟩,q⟩
theorem afS:jH X (.type "list") (λxs H Q=>SqQ X.K xs H λ_ ys=>∀ l,H l=none->Q (.ref l) (upd H l (.lst ys))):=by intro ao s aj H xs us Q I r h;obtain ⟨p,ys,rfl,hq,q⟩:=h;obtain ⟨u,rfl,rx⟩:=lZ r;cases rx;have fin:∀(its:List aB),cD ys its->ys.length<=aO->∀(h':aY)(c':Nat),(∀ b o',s.heap.get? b=some o'->h'.get? b=some o') -> h'.get? s.heap.objs.size=some { cls:=.type "list",dict:=none,data:=.seq its.toArray c',slots:=#[] }->EP X ao aj Q (.ref s.heap.objs.size) { s with heap:=h' }:=λits r' hz h' c' kp e => ⟨.ref s.heap.objs.size,_,I.laid (t':=s.toks) kp (bG _) (show gF X.prog X.w _ h' _ (.lst ys) from ⟨hz,its,c',r',e⟩),rfl,q _ (I.hok.fresh (bG _))⟩;rcases hq with hq | hq;obtain ⟨its,r',pl,hz⟩:=I.list hq;have hlen:=r'.length;obtain ⟨o,ho,hc,n,hd⟩:=pl.isList;exact call_list_seq p (.inl rfl) ho hc hd (λh' c' kp e=>fin its r' hz h' c' kp e) (by simp only [fV] <;> omega);obtain ⟨its,r',pl,hz⟩:=I.tuple hq;have hlen:=r'.length;obtain ⟨o,ho,hc,n,hd⟩:=pl;exact call_list_seq p (.inr rfl) ho hc hd (λh' c' kp e=>fin its r' hz h' c' kp e) (by simp only [fV] <;> omega)
theorem vC:jH X (.type "tuple") (amq X.K):=by intro ao s aj H xs us Q I r h;obtain ⟨p,ys,rfl,h⟩:=h;obtain ⟨u,rfl,rx⟩:=lZ r;cases rx;rcases h with ⟨hq,q⟩ | ⟨hq,q⟩;obtain ⟨its,r',pl,hz⟩:=I.list hq;have hlen:=r'.length;refine call_tuple_list pl.isList (λh' kp=>?_) (by simp only [fV] <;> omega);have I1:Inv X ao aj H { s with heap:=h' }:=I.kept (t':=s.toks) kp;have I2:Inv X ao aj (upd H h'.objs.size (.tup ys)) { s with heap:=h'.push { cls:=.type "tuple",data:=.seq its.toArray } } := I1.laid (t':=s.toks) (λb o e=>cR _ e) (bG _) (show gF X.prog X.w _ _ _ (.tup ys) from ⟨hz,its,r',uQ.new _ _⟩);exact ⟨.ref h'.objs.size,_,I2,rfl,q _ (I1.hok.fresh (bG _))⟩;obtain ⟨its,r',pl,hz⟩:=I.tuple hq;exact call_tuple_same pl ⟨.ref p,H,I,rfl,q⟩
noncomputable def tyV(K:bV)(T:String)(x:V)(H:Hp):Prop:=match x with
 | .str _=>T = "str"
 | .int _=>T = "int"
 | .ref p=>(T = "list"/\∃ xs,aV K H p xs)\/(T = "tuple"/\∃ o,K.lookup p=some o/\o.cls=.type "tuple"/\o.dict=none) \/
     (T = "dict"/\((∃ kvs,H p=some (.dK kvs))\/∃ kvs,H p=some (.dT kvs)))\/(T = "set"/\∃ S n,H p=some (.set S n))
 | _=>False
theorem aaL{T:String}{x:V}{v:aB}(I:Inv X ao aj H s)(r:cO x v)(ty:tyV X.K T x H): s.TypeIs v T/\∀ a,v=.ref a->∃ ob,s.heap.get? a=some ob/\ob.dict=none:=by cases x with| str z =>obtain ⟨t,rfl⟩:=r;cases (show T = "str" from ty);exact ⟨Wk s z t,λ_ e=>nomatch e⟩| int i =>obtain ⟨t,rfl⟩:=r;cases (show T = "int" from ty);exact ⟨MN s i t,λ_ e=>nomatch e⟩| ref p =>cases r;rcases ty with ⟨rfl,xs,hq⟩ | ⟨rfl,o,hk,hc,hd⟩ | ⟨rfl,hk⟩ | ⟨rfl,S,n,hk⟩;obtain ⟨its,_,pl,_⟩:=I.list hq;refine ⟨pl.isList.typeIs,λa e=>?_⟩;cases e;obtain ⟨o,n,e,c,hd,_⟩:=pl;exact ⟨o,e,hd⟩;refine ⟨⟨o,I.jM p o hk,hc⟩,λa e=>?_⟩;cases e;exact ⟨o,I.jM _ o hk,hd⟩;have z:∃ o,s.heap.get? p=some o/\o.ExactDict:=(by rcases hk with ⟨kvs,hk⟩ | ⟨kvs,hk⟩;obtain ⟨_,_,_,_,o,_,_,e,ex,_⟩:=I.hok p _ hk;exact ⟨o,e,ex⟩;obtain ⟨_,_,_,_,o,_,_,e,ex,_⟩:=I.hok p _ hk;exact ⟨o,e,ex⟩);obtain ⟨o,e,ex⟩:=z;refine ⟨⟨o,e,ex.1⟩,λa e2=>?_⟩;cases e2;exact ⟨o,e,ex.2.1⟩;obtain ⟨o,_,_,_,e,ex,_⟩:=I.hok p _ hk;refine ⟨⟨o,e,ex.1⟩,λa e2=>?_⟩;cases e2;exact ⟨o,e,ex.2.1⟩| _=>exact ou ty
noncomputable def YC(K:bV)(T:String)(r:V->List V->Hp->VK->Prop)(to:TE):TE:=fun aj H Q=>to aj H λx H1=>tyV K T x H1/\r x [] H1 Q
noncomputable def tBM(K:bV)(T:String)(r:V->List V->Hp->VK->Prop)(to:TE)(t:TA):TE:=fun aj H Q=>to aj H λx H1=>tyV K T x H1/\t aj H1 λxs H2=>r x xs H2 Q
variable{o e:Expr}{es:List Expr}{to:TE}{t:TA}{name:Str}{apos cpos:Pos}{T id:String}{r:V->List V->Hp->VK->Prop}
theorem ahQ(pa:PlainAttrs T)(slot:Slot T name id)(hty:typeOf (.builtin id)=pure (.type "method_descriptor"))(hm:MtR X id r)(ho:PE X o to)(hbase:attributeBase o name X.env (eval o X.env)=eval o X.env:=by rfl)(hline:(apos.endLine == cpos.line)=true:=by rfl):PE X (.Call (.Attribute o name apos) [] [] cpos) (YC X.K T r to):=by intro ao s aj H Q I h;refine aaW hbase hline (bH (ho ao s aj H _ I h) λv s1 ⟨x,H1,I1,r1,ty,q1⟩=>?_);obtain ⟨h1,h2⟩:=aaL I1 r1 ty;exact ⟨T,id,pa,slot,hty,h1,h2,Wr rfl (Zu (hm ao s1 aj H1 x [] v [] Q I1 r1 .nil q1))⟩
theorem Az(pa:PlainAttrs T)(slot:Slot T name id)(hty:typeOf (.builtin id)=pure (.type "method_descriptor"))(hm:MtR X id r)(ho:PE X o to)(ha:PA X (e :: es) t)(hbase:attributeBase o name X.env (eval o X.env)=eval o X.env:=by rfl)(hfew:((backTo cpos (gA (e :: es) X.env)).all (λx=>!x.1) && (backToKw cpos (keywordEach [] X.env)).all (λx=>x.1.isSome)
     && decide ((e :: es).length+([]:List Keyword).length+(if ([]:List Keyword).isEmpty then 0 else 1)<30))=true:=by rfl)(hline:(apos.endLine == cpos.line)=true:=by rfl)(hs:gA (e :: es) X.env=(false,eval e X.env) :: gA es X.env:=by rfl)(hplain:(backTo cpos (gA es X.env)).any (·.1)=false:=by rfl):
   PE X (.Call (.Attribute o name apos) (e :: es) [] cpos) (tBM X.K T r to t):=by
 intro ao s aj H Q I h;refine wpAny_Call_method_late hbase hfew hline rfl (bH (ho ao s aj H _ I h) λv s1 ⟨x,H1,I1,r1,ty,q1⟩=>?_);obtain ⟨h1,h2⟩:=aaL I1 r1 ty;refine ⟨T,id,pa,slot,hty,h1,h2,?_⟩;have hA:=ha cpos ao s1 aj H1 _ I1 q1;rw [hs] at hA |-;refine Wr (by show (false || (backTo cpos (gA es X.env)).any (·.1))=false; rw [hplain] <;> rfl) (aem ?_);exact bH hA λus s2 ⟨vs,H2,I2,r2,q2⟩=>hm ao s2 aj H2 x vs v us Q I2 r1 r2 q2
end
noncomputable def MtM(X:Cx)(id:String)(r:V->List V->Hp->VK->Prop):Prop :=
 ∀(ao:List (au × Obj))(s:aK)(aj:St)(H:Hp)(x:V)(xs:List V)(v:aB)(us:List aB)(Q:VK),Inv X ao aj H s->cO x v->cD xs us->r x xs H Q ->
   aJ (aN X.prog X.w) X.A (call (.builtin id) (v :: us)) (EP X ao aj Q) X.xe s
theorem cD.one:∀{x:V}{us:List aB},cD [x] us->∃ u,us=[u]/\cO x u
 | _,_,.cons r .nil=>⟨_,rfl,r⟩
variable{its:List aB}{l:au}
theorem Inv.acC{its':List aB}{f:Array aB->Array aB}(I:Inv X ao aj H s)(hH:H l=some (.lst xs))(e:s.heap.get? l=some { cls:=.type "list",data:=.seq its.toArray n })(hf:f its.toArray=its'.toArray)(hv:cD ys its')(hz:ys.length<=aO): Inv X ao aj (upd H l (.lst ys)) { s with heap:=s.heap.update l (lM f),toks:=t' }:=by have q:=PySem.IsL.update e f;rw [hf] at q;refine I.write (x:=l) (e:=l) (by rw [hH]; exact trivial) (.inl rfl) (λb' u hb hu=>(qQ s.heap (lM f) (bW hb)).aA hu) ⟨_,q⟩ ?_;exact ⟨hz,its',_,hv,q⟩
theorem Inv.Og(I:Inv X ao aj H s)(hv:cD ys its)(hz:ys.length<=aO):
   Inv X ao aj (upd H s.heap.objs.size (.lst ys)) { s with heap:=s.heap.push { cls:=.type "list",data:=.seq its.toArray },toks:=t' } :=
 I.laid (λ_ _ q=>cR _ q) (bG _) ⟨hz,its,0,hv,gq _ rfl⟩
theorem Inv.fresh(I:Inv X ao aj H s):H s.heap.objs.size=none:=I.hok.fresh (bG _)
theorem Inv.Ft(I:Inv X ao aj H s)(hH:H l=some (.lst xs)):xs.length<=aO/\∃(its:List aB)(n:Nat),cD xs its/\xs.length=its.length/\s.heap.get? l=some { cls:=.type "list",data:=.seq its.toArray n }:=by obtain ⟨z,its,n,r,e⟩:=I.hok l _ hH;exact ⟨z,its,n,r,r.length,e⟩
theorem akP(h:n<=aO):P0 n=false:=by unfold P0;exact fP (by omega)
inductive al4(x:V)(vs:List V)(H:Hp)(Q:VK):Prop|mk l xs y(_:x=.ref l)(_:vs=[y])(_:H l=some (.lst xs))(_:xs.length<aO)(_:Q .non (upd H l (.lst (xs++[y]))))
theorem Ba:MtM X "list.append" al4:=by intro ao s aj H x vs v us Q I rx rv h;obtain ⟨l,xs,y,rfl,rfl,hH,hz,q⟩:=h;cases rx;obtain ⟨u,rfl,ru⟩:=rv.one;obtain ⟨z,its,n,r,hl,e⟩:=I.Ft hH;refine Mj F.slot_list_append ⟨_,e,rfl⟩ F.entry_list_append (F.args_list_append_2 _ _) (PySem.list_append l its.toArray n u (by rw [fV]; omega)) ⟨e,?_⟩;refine ⟨.non,_,I.acC (its':=its++[u]) hH e (by simp) (r.append (.cons ru .nil)) ?_,rfl,q⟩;rw [dZ,Qx];omega
inductive ahp(x:V)(vs:List V)(H:Hp)(Q:VK):Prop|mk l b xs zs(_:x=.ref l)(_:vs=[.ref b])(_:H l=some (.lst xs))(_:H b=some (.lst zs))(_:xs.length+zs.length<=aO)(_:Q .non (upd H l (.lst (xs++zs))))
theorem amF:MtM X "list.extend" ahp:=by intro ao s aj H x vs v us Q I rx rv h;obtain ⟨l,b,xs,zs,rfl,rfl,hH,hB,hz,q⟩:=h;cases rx;obtain ⟨u,rfl,ru⟩:=rv.one;cases ru;obtain ⟨z,its,n,r,hl,e⟩:=I.Ft hH;obtain ⟨z2,its2,n2,r2,hl2,e2⟩:=I.Ft hB;have hsz:its.toArray.size+its2.toArray.size<=aO:=(by rw [fV,fV]; omega);have amy:¬ (!its.toArray.isEmpty && P0 (its.toArray.size+its2.toArray.size))=true:=(by rw [akP hsz,yP];exact iW);refine Mj F.slot_list_extend ⟨_,e,rfl⟩ F.entry_list_extend (F.args_list_extend_2 _ _) (AutoSeq1.list_extend_list_list_0 l its.toArray n b its2.toArray n2 amy (by rw [fV]; omega) (by omega)) ⟨e,e2,?_⟩;refine ⟨.non,_,I.acC (its':=its++its2) hH e (by simp) (r.append r2) ?_,rfl,q⟩;rw [dZ];omega
inductive Ze(x y:V)(H:Hp)(Q:VK):Prop|mk l b xs zs(_:x=.ref l)(_:y=.ref b)(_:H l=some (.lst xs))(_:H b=some (.lst zs))(_:xs.length+zs.length<=aO)(_:∀ p,H p=none->Q (.ref p) (upd H p (.lst (xs++zs))))
theorem yJ:cU X (lQ .Add) Ze:=by intro ao s aj H x y v u Q I rx ry h;obtain ⟨l,b,xs,zs,rfl,rfl,hH,hB,hz,q⟩:=h;cases rx;cases ry;obtain ⟨z,its,n,r,hl,e⟩:=I.Ft hH;obtain ⟨z2,its2,n2,r2,hl2,e2⟩:=I.Ft hB;refine PySem.P.add_list e e2 ?_ (by rw [fV,fV]; omega);have ea:its.toArray++its2.toArray=(its++its2).toArray:=(by simp);rw [ea];exact ⟨.ref _,_,I.Og (t':=s.toks) (r.append r2) (by rw [dZ]; omega),rfl,q _ I.fresh⟩
section
variable{κ:Type}[DecidableEq κ]
noncomputable def fO(kvs:List (κ × V))(k:κ):Option V:=(kvs.find? λkv=>decide (kv.1=k)).map (·.2)
noncomputable def eV(kvs:List (κ × V))(k:κ)(v:V):List (κ × V) :=
 if (kvs.any λkv=>decide (kv.1=k))=true then kvs.map (λkv=>if kv.1=k then (kv.1,v) else kv) else kvs++[(k,v)]
theorem tW{p:κ × V}{r:List (κ × V)}{k:κ}(e:p.1=k):fO (p :: r) k=some p.2:=by simp [fO,Gh,e]
theorem ud{p:κ × V}{r:List (κ × V)}{k:κ}(e:¬ p.1=k):fO (p :: r) k=fO r k:=by simp [fO,Gh,e]
theorem Jf(k:κ):∀ kvs:List (κ × V),(kvs.any λkv=>decide (kv.1=k))=(fO kvs k).isSome
 | []=>rfl
 | p :: r=>by rw [GQ];by_cases e:p.1=k;simp only [tW e,cg e,Bool.true_or,ado];rw [ud e,fP e,Bool.false_or]; exact Jf k r
theorem abB(k j:κ)(y:V):∀ kvs:List (κ × V),fO (kvs.map λkv=>if kv.1=k then (kv.1,y) else kv) j=(fO kvs j).map λx=>if j=k then y else x
 | []=>rfl
 | p :: r=>by have ih:=abB k j y r;rw [fM];by_cases h:p.1=k;rw [bI h];by_cases e:p.1=j;rw [tW (p:=(p.1,y)) e,tW e,Kh,bI (e.symm.aA h)];rw [ud (p:=(p.1,y)) e,ud e,ih];rw [aZ h];by_cases e:p.1=j;rw [tW (p:=p) e,tW e,Kh,aZ (λz=>h (e.aA z))];rw [ud (p:=p) e,ud e,ih]
theorem abq(k j:κ)(y:V):∀ kvs:List (κ × V),fO kvs k=none->fO (kvs++[(k,y)]) j=if j=k then some y else fO kvs j
 | [],_=>by by_cases e:k=j;rw [bI e.symm]; exact tW (p:=(k,y)) e;rw [aZ (λz=>e z.symm)]; exact ud (p:=(k,y)) e
 | p :: r,hn=>by rw [Bu];have hk:¬ p.1=k:=λz=>(by rw [tW z] at hn; cases hn);rw [ud hk] at hn;have ih:=abq k j y r hn;by_cases e:p.1=j;rw [tW e,tW e,aZ (λz=>hk (e.aA z))];rw [ud e,ud e,ih]
theorem Oo(kvs:List (κ × V))(k j:κ)(y:V):fO (eV kvs k y) j=if j=k then some y else fO kvs j:=by unfold eV;by_cases a:(kvs.any λkv=>decide (kv.1=k))=true;rw [bI a,abB];rw [Jf] at a;by_cases e:j=k;obtain ⟨x,hx⟩:=Kg.mp a;rw [bI e,e,hx,Kh,bI rfl];rw [aZ e];(cases fO kvs j with| none=>rfl| some x=>rw [Kh,aZ e]);rw [aZ a];refine abq k j y kvs ?_;rw [Jf] at a;cases q:fO kvs k with| none=>rfl| some x=>rw [q] at a; exact (a rfl).elim
theorem yF(kvs:List (κ × V))(k:κ)(v:V):(eV kvs k v).length<=kvs.length+1:=by unfold eV;split;rw [aL]; omega;rw [dZ,iz,rR]; omega
theorem qw.Ru{o:Option V}{u:Option aB}(r:qw o u):o.isSome=u.isSome:=by
 cases o with
 | none=>cases u with
   | none=>rfl
   | some _=>exact (show False from r).elim
 | some _=>cases u with
   | none=>exact (show False from r).elim
   | some _=>rfl
theorem KV.val{kvs:List (κ × V)}{vs:List (κ × aB)}(r:KV kvs vs)(k:κ):qw (fO kvs k) (valueAt vs k):=by unfold KV at r;induction r with| nil=>exact rN| @cons p q ps qs h t ih =>obtain ⟨h1,h2⟩:=h;by_cases e:p.1=k;have e':q.1=k:=h1.symm.aA e;have b:valueAt (q :: qs) k=some q.2:=(by simp [valueAt,Gh,e']);rw [tW e,b]; exact h2;have e':¬ q.1=k:=λz=>e (h1.aA z);have b:valueAt (q :: qs) k=valueAt qs k:=(by simp [valueAt,Gh,e']);rw [ud e,b]; exact ih
theorem KV.any{kvs:List (κ × V)}{vs:List (κ × aB)}(r:KV kvs vs)(k:κ):(kvs.any λkv=>decide (kv.1=k))=vs.any λkv=>decide (kv.1=k):=by unfold KV at r;induction r with| nil=>rfl| cons h t ih=>rw [GQ,GQ,ih,h.1]
theorem KV.repl{kvs:List (κ × V)}{vs:List (κ × aB)}(r:KV kvs vs)(k:κ)(ry:cO y u): KV (kvs.map λkv=>if kv.1=k then (kv.1,y) else kv) (vs.map λkv=>if kv.1=k then (kv.1,u) else kv):=by unfold KV at r |-;induction r with| nil=>exact .nil| @cons p q ps qs h t ih =>rw [fM,fM];refine .cons ?_ ih;obtain ⟨h1,h2⟩:=h;by_cases e:p.1=k;rw [bI e,bI (h1.symm.aA e)]; exact ⟨h1,ry⟩;rw [aZ e,aZ (λz=>e (h1.aA z))]; exact ⟨h1,h2⟩
theorem KV.put{kvs:List (κ × V)}{vs:List (κ × aB)}(r:KV kvs vs)(k:κ)(ry:cO y u):KV (eV kvs k y) (stored vs k u):=by unfold eV stored;rw [r.any k];by_cases e:(vs.any λkv=>decide (kv.1=k))=true;rw [bI e,bI e]; exact r.repl k ry;rw [aZ e,aZ e]; exact Paired.snoc r ⟨rfl,ry⟩
theorem KV.keys{kvs:List (κ × V)}{vs:List (κ × aB)}(r:KV kvs vs):kvs.map (·.1)=vs.map (·.1):=by unfold KV at r;induction r with| nil=>rfl| cons h t ih=>rw [fM,fM,ih,h.1]
theorem KV.length{kvs:List (κ × V)}{vs:List (κ × aB)}(r:KV kvs vs):kvs.length=vs.length:=Wy r
end
theorem Ds{k:Key}(r:cO (kV k) u):(gZ P w).is k u=true:=by
 cases k with
 | inl i=>cases i with
   | none=>cases (show u=dM from r); exact aiD P w
   | some i=>obtain ⟨t,e⟩:=(show ∃ t,u=Ef i t from r); subst e; exact agA P w i t
 | inr x=>obtain ⟨t,e⟩:=(show ∃ t,u=vf x t from r); subst e; exact Hw P w x t
theorem abl{P:gk}{w:fK}:∀{ks:List Key}{us:List aB},cD (ks.map kV) us->ItemsAre (gZ P w) ks us
 | [],_,r=>by rw [yR] at r; cases r; exact .nil
 | k :: ks,_,r=>by rw [fM] at r;cases r with| cons h t=>exact .cons (Ds h) (abl t)
noncomputable abbrev KT(H:Hp):List (List Key × V)->List (List Key × au × aB)->Prop:=eX λp q=>p.1=q.1/\H q.2.1=some (.tup (p.1.map kV))/\cO p.2 q.2.2
variable{kvs:List (List Key × V)}{xs:List (List Key × au × aB)}
theorem KT.val(r:KT H kvs xs)(k:List Key):qw (fO kvs k) ((atKey xs k).map (·.2)):=by induction r with| nil=>exact rN| @cons p q ps qs h t ih =>obtain ⟨h1,_,h2⟩:=h;by_cases e:p.1=k;have e':q.1=k:=h1.symm.aA e;have b:atKey (q :: qs) k=some q.2:=(by simp [atKey,Gh,e']);rw [tW e,b]; exact h2;have e':¬ q.1=k:=λz=>e (h1.aA z);have b:atKey (q :: qs) k=atKey qs k:=(by simp [atKey,Gh,e']);rw [ud e,b]; exact ih
theorem KT.repl(r:KT H kvs xs)(k:List Key)(ry:cO y u): KT H (kvs.map λkv=>if kv.1=k then (kv.1,y) else kv) (xs.map (putAt k u)):=by induction r with| nil=>exact .nil| @cons p q ps qs h t ih =>rw [fM,fM];refine .cons ?_ ih;obtain ⟨h1,h2,h3⟩:=h;unfold putAt;by_cases e:p.1=k;rw [bI e,bI (h1.symm.aA e)]; exact ⟨h1,h2,ry⟩;rw [aZ e,aZ (λz=>e (h1.aA z))]; exact ⟨h1,h2,h3⟩
variable{b:au}
theorem KT.put(r:KT H kvs xs)(k:List Key)(hb:H b=some (.tup (k.map kV)))(ry:cO y u): KT H (eV kvs k y) (storedH xs k b u):=by have e:(kvs.any λkv=>decide (kv.1=k))=(atKey xs k).isSome:=(by rw [Jf,(r.val k).Ru,Zr]);unfold eV storedH;rw [e];by_cases q:(atKey xs k).isSome=true;rw [bI q,bI q]; exact r.repl k ry;rw [aZ q,aZ q]; exact Paired.snoc r ⟨rfl,hb,ry⟩
theorem KT.keeps(r:KT H kvs xs)(ht:∀ b ys,H b=some (.tup ys)->H' b=some (.tup ys)):KT H' kvs xs :=
 Paired.VB r λ_ _ z=>⟨z.1,ht _ _ z.2.1,z.2.2⟩
theorem aaB{h:aY}{u:HO}(ok:iD P w H h)(e:Rd H a u):gF P w H h a u:=e.ok ok
variable{kvs:List (Key × V)}
theorem FT{h:aY}(ok:iD P w H h)(e:Rd H a (.dK kvs)):kvs.length<=aO/\(a == sysModules)=false/\∃ vs,KV kvs vs/\h.DictOf (gZ P w) a vs :=
 show gF P w H h a (.dK kvs) from aaB ok e
theorem DN{h:aY}(ok:iD P w H h)(e:H a=some (.dK kvs)):kvs.length<=aO/\(a == sysModules)=false/\∃ vs,KV kvs vs/\h.DictOf (gZ P w) a vs:=FT ok (.inl e)
theorem Kl{h:aY}{ks:List Key}(ok:iD P w H h)(e:H a=some (.tup (ks.map kV))):(tupleKind (gZ P w)).is h ks a:=by obtain ⟨_,its,r,o,h1,h2,⟨n,h3⟩,_⟩:=(show gF P w H h a (.tup (ks.map kV)) from ok a _ e);exact ⟨o,its.toArray,n,h1,h2,h3,by simpa using abl r⟩
variable{kvs:List (List Key × V)}
theorem Iu{h:aY}(ok:iD P w H h)(e:Rd H a (.dT kvs)):kvs.length<=aO/\(a == sysModules)=false /\ ∃ xs,KT H kvs xs/\h.DictOfH (tupleKind (gZ P w)) a xs:=by obtain ⟨z,y,xs,r,o,es,ep,h1,h2,h3,h4,h5⟩:=(show gF P w H h a (.dT kvs) from aaB ok e);refine ⟨z,y,xs,r,o,es,ep,h1,h2,h3,h4,λx hx=>?_,h5⟩;have all:∀{l:List (List Key × V)}{m:List (List Key × au × aB)},KT H l m->∀ x∈m,(tupleKind (gZ P w)).is h x.1 x.2.1:=(by intro l m q;induction q with| nil=>intro x hx; exact nomatch hx| @cons p q ps qs hq t ih =>intro x hx;rcases dU.mp hx with e | hx;subst e;exact Kl ok (by rw [<- hq.1]; exact hq.2.1);exact ih x hx);exact all r x hx
theorem ajM{h:aY}(ok:iD P w H h)(e:H a=some (.dT kvs)):kvs.length<=aO/\(a == sysModules)=false /\
   ∃ xs,KT H kvs xs/\h.DictOfH (tupleKind (gZ P w)) a xs:=Iu ok (.inl e)
noncomputable def lO(H:Hp)(a:au)(y:V)(r:Option V):Prop :=
 (∃ kvs k,Rd H a (.dK kvs)/\y=kV k/\r=fO kvs k)\/∃ kvs k b,Rd H a (.dT kvs)/\y=.ref b/\H b=some (.tup (k.map kV))/\r=fO kvs k
noncomputable def xK(H:Hp)(a:au)(y v:V)(H':Hp):Prop :=
 (∃ kvs k,H a=some (.dK kvs)/\y=kV k/\kvs.length<aO/\H'=upd H a (.dK (eV kvs k v))) \/
 ∃ kvs k b,H a=some (.dT kvs)/\y=.ref b/\H b=some (.tup (k.map kV))/\kvs.length<aO/\H'=upd H a (.dT (eV kvs k v))
theorem lO.k{H:Hp}{a:au}{kvs:List (Key × V)}{k:Key}(e:H a=some (.dK kvs)):lO H a (kV k) (fO kvs k):=.inl ⟨kvs,k,.inl e,rfl,rfl⟩
theorem lO.t{k:List Key}(e:H a=some (.dT kvs))(eb:H b=some (.tup (k.map kV))):lO H a (.ref b) (fO kvs k):=.inr ⟨kvs,k,b,.inl e,rfl,eb,rfl⟩
theorem xK.k{H:Hp}{a:au}{kvs:List (Key × V)}{k:Key}{v:V}(e:H a=some (.dK kvs))(hl:kvs.length<aO):xK H a (kV k) v (upd H a (.dK (eV kvs k v))):=.inl ⟨kvs,k,e,rfl,hl,rfl⟩
theorem xK.t{k:List Key}(e:H a=some (.dT kvs))(eb:H b=some (.tup (k.map kV)))(hl:kvs.length<aO):
   xK H a (.ref b) v (upd H a (.dT (eV kvs k v))):=.inr ⟨kvs,k,b,e,rfl,eb,hl,rfl⟩
theorem Inv.big(I:Inv X ao aj H s):sysModules<s.heap.objs.size:=by have h:qU<s.heap.objs.size:=(I.mod.glob.keeps I.bk).lt;exact Nat.lt_trans (by decide) h
variable{Q:aB->aK->Prop}
theorem ak1(hu:A.units+1<cLine)(I:Inv X ao aj H s)(g:lO H a y (some v))(ry:cO y u)(h:∀ w' s',Inv X ao aj H s'->cO v w'->Q w' s'): aJ (aN X.prog X.w) A (getItem (.ref a) u) Q E s:=by rcases g with ⟨kvs,k,e,ey,l⟩ | ⟨kvs,k,b,e,ey,eb,l⟩;subst ey;obtain ⟨z,hd,vs,rel,dd⟩:=FT I.hok e;obtain ⟨w',hw,qb⟩:=qw.some_of (v:=v) (o:=valueAt vs k) (by rw [l]; exact rel.val k);exact wpAny_getItem_of (Ds ry) dd.mapOf hw (h w' _ (I.tok _) qb);subst ey;cases (show u=cL b from ry);obtain ⟨z,hd,xs,rel,dd⟩:=Iu I.hok e;obtain ⟨w',hw,qb⟩:=qw.some_of (v:=v) (o:=(atKey xs k).map (·.2)) (by rw [l]; exact rel.val k);obtain ⟨p,hp,hp2⟩:=wA.mp hw;refine wpAny_getItem_heap (Ra hu) (Kl I.hok eb) dd hp ?_;rw [hp2];exact h w' _ (I.tok _) qb
variable{o:Option V}
theorem apw(hu:A.units+1<cLine)(I:Inv X ao aj H s)(g:lO H a y o)(ry:cO y u)(h:∀ s',Inv X ao aj H s'->Q (.bool (!o.isSome)) s'): aJ (aN X.prog X.w) A (gJ .NotIn u (.ref a)) Q E s:=by rcases g with ⟨kvs,k,e,ey,l⟩ | ⟨kvs,k,b,e,ey,eb,l⟩;subst ey;obtain ⟨z,hd,vs,rel,dd⟩:=FT I.hok e;refine wpAny_notIn_of (Ds ry) hd dd.mapOf ?_;rw [<- (rel.val k).Ru,<- l];exact h _ (I.tok _);subst ey;cases (show u=cL b from ry);obtain ⟨z,hd,xs,rel,dd⟩:=Iu I.hok e;refine wpAny_notIn_heap (Ra hu) (Kl I.hok eb) hd dd ?_;have q:=(rel.val k).Ru;rw [Zr] at q;rw [<- q,<- l];exact h _ (I.tok _)
theorem Kv{ob:HO}(I:Inv X ao aj H s)(mu:Mut (H a))(hs:vH a s.heap h')(he:∃ q,h'.get? a=some q)(new:gF X.prog X.w (upd H a ob) h' a ob):
   Inv X ao aj (upd H a ob) { s with heap:=h',toks:=t' } :=
 I.write (x:=a) (e:=a) mu (.inl rfl) (λb q hb z=>(hs.2 b hb).aA z) he new
variable{kvs:List (Key × V)}
theorem Mw{vs:List (Key × aB)}(z:kvs.length<=aO)(hd:(a == sysModules)=false)(rel:KV kvs vs)(dd:h'.DictOf (gZ P w) a vs):
   gF P w H' h' a (.dK kvs):=⟨z,hd,vs,rel,dd⟩
theorem af2{r:aB}{Q:Unit->aK->Prop}(hu:A.units+1<cLine)(I:Inv X ao aj H s)(g:xK H a y v H')(ry:cO y u)(rv:cO v r)(h:∀ s',Inv X ao aj H' s'->Q () s'): aJ (aN X.prog X.w) A (setItem (.ref a) u r) Q E s:=by rcases g with ⟨kvs,k,e,ey,l,eH⟩ | ⟨kvs,k,b,e,ey,eb,l,eH⟩;subst ey eH;obtain ⟨z,hd,vs,rel,dd⟩:=DN I.hok e;have hz:vs.length<=aO:=(by rw [<- rel.length]; exact z);have hl:(eV kvs k v).length<=aO:=(by have:=yF kvs k v; omega);refine wpAny_setItem_pairs (hsz:=hz) (Ds ry) dd λh' dd' hs=>h _ ?_;have he:∃ q,h'.get? a=some q:=let ⟨q,_,_,hq,_⟩:=dd'; ⟨q,hq⟩;exact Kv I (by rw [e]; exact rN) hs he (Mw hl hd (rel.put k rv) dd');subst ey eH;cases (show u=cL b from ry);obtain ⟨z,hd,xs,rel,dd⟩:=ajM I.hok e;have hz:xs.length<=aO:=(by rw [<- Wy rel]; exact z);have hl:(eV kvs k v).length<=aO:=(by have:=yF kvs k v; omega);refine wpAny_setItem_heap (hsz:=hz) (Ra hu) (Kl I.hok eb) dd λh' dd' hs=>h _ ?_;obtain ⟨q,es,ep,hq,h2,h3,h4,_,h5⟩:=dd';refine Kv I (by rw [e]; exact rN) hs ⟨q,hq⟩ ⟨hl,hd,_,(rel.put k eb rv).keeps λc ys ec=>?_,q,es,ep,hq,h2,h3,h4,h5⟩;rw [aW (akN ec e (λz=>nomatch z))];exact ec
theorem aiG(I:Inv X ao aj H s)(e:Rd H a (.dK kvs))(h:∀ t s',Inv X ao aj H s'->Q (.int kvs.length t) s'):aJ (aN X.prog X.w) A (call (.builtin "len") [.ref a]) Q E s:=by obtain ⟨z,hd,vs,rel,dd⟩:=FT I.hok e;refine call_len_dict hd dd (by rw [<- rel.length]; rw [cQ] at z; omega) ?_;rw [<- rel.length];exact h _ _ (I.tok _)
noncomputable def aaj(i:Expr):Prop:=∀ ov iv,subscripted i false ov iv=operate [ov,iv] (getItem ov iv)
theorem alc{slice:Expr}{T id:String}(hl:typeLookup (.type T) "__getitem__" = pure (some (.builtin id)))(hs:aaj slice)(h:aJ (aN prog w) A (eval value env) (λo s₁=>aJ (aN prog w) A (eval slice env) (λi s₂=>s₂.TypeIs o T/\aJ (aN prog w) A (getItem o i) Q E s₂) E s₁) E s):
   aJ (aN prog w) A (eval (.Subscript value slice pos) env) Q E s:=by
 refine Oh (jx h (λo s₁ h₁=>jx h₁ (λi s₂ h₂=>?_) λ_ _ x=>x) λ_ _ x=>x);obtain ⟨hT,h₂⟩:=h₂;unfold subscriptTail;refine aG ?_;rw [getitemInPython_of_ne hT.not_modules];refine aG (Io hT hl ?_)
 have fin:aJ (aN prog w) A (subscripted slice false o i) (λr s₃=>aJ (aN prog w) A (letTemporaryGo value o r >>= λ_=>pure r) Q E s₃) E s₂:=by
   rw [hs o i];exact wpAny_operating (jx h₂ (λr s₃ h₃=>aG (wpAny_letTemporaryGo (aR h₃))) λ_ _ x=>x)
 first
   | exact aR (aG fin)
   | exact aG (aR (aG fin))
   | exact aG fin
theorem afx(I:Inv X ao aj H s)(g:lO H a y o):s.TypeIs (.ref a) "dict":=by rcases g with ⟨kvs,k,e,_,_⟩ | ⟨kvs,k,b,e,_,_,_⟩;obtain ⟨_,_,vs,_,dd⟩:=FT I.hok e;exact dd.typeIs;obtain ⟨_,_,xs,_,dd⟩:=Iu I.hok e;exact dd.typeIs
inductive aoZ(x y:V)(H:Hp)(Q:VK):Prop|mk a v(_:x=.ref a)(_:lO H a y (some v))(_:Q v H)
noncomputable def aop(td ty:TE):TE:=fun aj H Q=>td aj H λx H1=>ty aj H1 λy H2=>aoZ x y H2 Q
noncomputable def agZ(ty td:TE):TE:=fun aj H Q=>ty aj H λy H1=>td aj H1 λx H2=>∃ a o,x=.ref a/\lO H2 a y o/\Q (.bl (!o.isSome)) H2
noncomputable def ajX(td ty tv:TE):TS:=λD aj H=>tv aj H λv H1=>td aj H1 λx H2=>ty aj H2 λy H3=>∃ a H4,x=.ref a/\xK H3 a y v H4/\D.nx aj H4
variable{o i:Expr}{td ty:TE}
theorem lN(hu:X.A.units+1<cLine)(ho:PE X o td)(hi:PE X i ty)(hs:aaj i):PE X (.Subscript o i pos) (aop td ty):=by intro ao s aj H Q I h;refine alc PySem.F.slot_dict_getitem.lookup hs (bH (ho ao s aj H _ I h) λu s1 ⟨x,H1,I1,rx,q1⟩=>bH (hi ao s1 aj H1 _ I1 q1) λiv s2 ⟨y,H2,I2,ry,a,v,ex,g,q2⟩=>?_);subst ex;obtain rfl:u=cL a:=rx;exact ⟨afx I2 g,ak1 hu I2 g ry λw' s3 I3 qb=>⟨v,H2,I3,qb,q2⟩⟩
theorem Li(hu:X.A.units+1<cLine)(hi:PE X i ty)(ho:PE X o td):PC X .NotIn i o (agZ ty td):=by intro ao s aj H Q I h;refine bH (hi ao s aj H _ I h) λiv s1 ⟨y,H1,I1,ry,q1⟩=>bH (ho ao s1 aj H1 _ I1 q1) λu s2 ⟨x,H2,I2,rx,a,ov,ex,g,q2⟩=>?_;subst ex;obtain rfl:u=cL a:=rx;exact apw hu I2 g ry λs3 I3=>⟨.bl (!ov.isSome),H2,I3,rfl,q2⟩
theorem Ph(hu:X.A.units+1<cLine)(ho:PE X o td)(hi:PE X i ty)(hv:PE X value tv)(hs:BL value (some (.Subscript o i pos')) pos.line X.env=pure false): PS X (.Assign [.Subscript o i pos'] value pos) (ajX td ty tv):=by intro ao s aj H D I h;refine wpAny_Assign_Subscript (bH (hv ao s aj H _ I h) λr s1 ⟨v,H1,I1,rv,q1⟩=>bH (ho ao s1 aj H1 _ I1 q1) λu s2 ⟨x,H2,I2,rx,q2⟩=>bH (hi ao s2 aj H2 _ I2 q2) λiv s3 ⟨y,H3,I3,ry,a,H4,ex,g,q3⟩=>?_) hs;subst ex;obtain rfl:u=cL a:=rx;exact af2 hu I3 g ry rv λs4 I4=>⟨aj,H4,I4,q3⟩
theorem aeN(h:aY)(hb:sysModules<h.objs.size):gF P w H (h.push { cls:=.type "dict",data:=.dict #[] }) h.objs.size (.dK []) :=
 ⟨dR _,beq_eq_false_iff_ne.mpr (bW (fB hb)),[],.nil,Heap.DictOf.new h⟩
theorem agF(h:aY)(hb:sysModules<h.objs.size):gF P w H (h.push { cls:=.type "dict",data:=.dict #[] }) h.objs.size (.dT []) :=
 ⟨dR _,beq_eq_false_iff_ne.mpr (bW (fB hb)),[],.nil,_,#[],0,gq _ rfl,⟨rfl,rfl,rfl⟩,rfl,rfl,List.nodup_nil⟩
noncomputable def Z2:TE:=λ_ H Q=>∀ p,H p=none->Q (.ref p) (upd H p (.dK []))
noncomputable def an0:TE:=λ_ H Q=>∀ p,H p=none->Q (.ref p) (upd H p (.dT []))
theorem yK:PE X (.Dict [] [] pos) Z2:=λao s aj H Q I h =>
 wpAny_Dict_empty ⟨.ref s.heap.objs.size,_,I.laid (a:=s.heap.objs.size) (o:=.dK []) (t':=s.toks) (λ_ _ q=>cR _ q) (bG _) (aeN s.heap I.big),rfl,h _ (I.hok.fresh (bG _))⟩
theorem aiK:PE X (.Dict [] [] pos) an0:=λao s aj H Q I h =>
 wpAny_Dict_empty ⟨.ref s.heap.objs.size,_,I.laid (a:=s.heap.objs.size) (o:=.dT []) (t':=s.toks) (λ_ _ q=>cR _ q) (bG _) (agF s.heap I.big),rfl,h _ (I.hok.fresh (bG _))⟩
noncomputable def um(kvs more:List (Key × V)):List (Key × V):=more.foldl (λacc kv=>eV acc kv.1 kv.2) kvs
theorem KV.merge:∀{more:List (Key × V)}{rs:List (Key × aB)}{kvs:List (Key × V)}{vs:List (Key × aB)},KV more rs->KV kvs vs->KV (um kvs more) (merged vs rs):=by intro more rs kvs vs r;unfold KV at r;induction r generalizing kvs vs with| nil=>intro q; exact q| @cons p q ps qs h t ih =>intro r0;have e:KV (eV kvs p.1 p.2) (stored vs q.1 q.2):=(by have:=r0.put p.1 h.2;rw [<- h.1]; exact this);exact ih e
theorem acf:∀(more kvs:List (Key × V)),(um kvs more).length<=kvs.length+more.length
 | [],kvs=>by show kvs.length<=kvs.length+0; omega
 | p :: r,kvs=>by have h1:=acf r (eV kvs p.1 p.2);have h2:=yF kvs p.1 p.2;show (um (eV kvs p.1 p.2) r).length<=_;rw [iz]; omega
noncomputable def IsD(H:Hp)(a:au):Prop:=(∃ kvs,Rd H a (.dK kvs))\/∃ kvs,Rd H a (.dT kvs)
theorem amg(I:Inv X ao aj H s)(d:IsD H a): s.TypeIs (.ref a) "dict"/\(∀ b,cL a=.ref b->∃ ob,s.heap.get? b=some ob/\ob.dict=none)/\(a == sysModules)=false:=by rcases d with ⟨kvs,e⟩ | ⟨kvs,e⟩;obtain ⟨_,hd,vs,_,dd⟩:=FT I.hok e;refine ⟨dd.typeIs,λb q=>?_,hd⟩;cases q;obtain ⟨ob,_,_,h1,h2,_⟩:=dd;exact ⟨ob,h1,h2.2.1⟩;obtain ⟨_,hd,xs,_,dd⟩:=Iu I.hok e;refine ⟨dd.typeIs,λb q=>?_,hd⟩;cases q;obtain ⟨ob,_,_,h1,h2,_⟩:=dd;exact ⟨ob,h1,h2.2.1⟩
namespace Att
open PySem PySem.W PySem.Calls PyProof.Rows
variable{P:Params}
theorem al5{h:aY}:∀(ns:List Int)(vs:List aB),WellAll P h vs (ns.map WData.int)->Bx vs ns:=by intro ns;induction ns with| nil =>intro vs w;rw [yR] at w;cases w;exact .nil| cons n ns ih =>intro vs w;rw [fM] at w;cases w with| cons a b =>cases a;exact .cons _ _ (ih _ b)
theorem ako{l:OpenLaw}(hn:l.most=some n){h:aY}{args:List WData}{vals:List aB}(hpre:l.row.toRowW.claim.pre args=true)(hwl:WellAll P h vals args):
   ∃ a vs ns,vals=[cL a]/\args=[WData.list (ns.map WData.int)]/\h.get? a=some { cls:=.type "list",data:=.seq vs.toArray }/\Bx vs ns/\ns.length<=n:=by
 have hsh:WShape.hasAll [] args [.list .int]=true:=(pre_splitW hpre).1;have hc:l.pre.holds [] { args:=args }=true:=(pre_splitW hpre).2;obtain ⟨d,r,rfl,h1,h2⟩:=hasAllW_cons hsh;obtain rfl:=hasAllW_nil h2;obtain ⟨xs,rfl,h3⟩:=hasW_list h1;obtain ⟨ns,rfl⟩:=items_int h3
 have hlen:ns.length<=n:=by
   unfold OpenLaw.pre at hc
   have h4:(WTm.not (.lt (.lit (.int (n:Int))) (.len (.arg 0)))).holds [] { args:=[.list (ns.map .int)] }=true:=by
     have h4:=(holds_andW hc).1;rw [hn] at h4;exact h4
   have h5:=condW_of h4 (w_not (w_lt w_lit (w_len_list (w_arg rfl))));rw [aL] at h5;refine Nat.le_of_not_lt λq=>?_
   have q':(n:Int)<((ns.length:Nat):Int):=by omega
   first
     | (rw [cg q'] at h5; exact bO h5 (by decide))
     | (simp at h5; omega)
 cases hwl with
 | cons w1 w2 =>
   cases w2;cases w1 with
   | list ho hall=>exact ⟨_,_,ns,rfl,rfl,ho,al5 ns _ hall,hlen⟩
theorem alK(l:OpenLaw)(args:List WData):l.row.toRowW.claim.post args (.bool true) args=true :=
 postW_of (r:=l.row.toRowW) (X:=(true == true))
   (show WShape.has [] (.bool true) .bool=true by first | rfl | decide | simp [WShape.has,WShape.arms,WShape.armsAll])
   (show (WTm.eq .res (.lit (.bool true))).value [] { args:=args,res:=some (.bool true),after:=args }=some (.bool (true == true)) from w_eq_bool (w_res rfl) w_lit) rfl
end Att
theorem acg:∀{vs:List aB}{ns:List Int},Bx vs ns->cD (ns.map V.int) vs
 | _,_,.nil=>.nil
 | _,_,.cons n t h=>.cons ⟨t,rfl⟩ (acg h)
noncomputable def Only(H:Hp):Prop:=∀ b,H b=none\/∃ o xs,H b=some (.jh o (.lst xs))
variable{x:Str}
theorem apj{mb:Str->Option aB}{k:Nat}{fa:au}{s₁:aK}{vs:List aB}{ns:List Int}(KX:K.In s₁.heap)(hns:s₁.heap.Ns qU mg)(hb:s₁.heap.Ns builtinsNs mb)(hbb:∀ x:Str,x≠"__name__"->mb x=bootBuiltins x)(hlim:s₁.heap.NoLimit)(hg:s₁.gens=#[])(ha:s₁.heap.get? a=some { cls:=.type "list",data:=.seq vs.toArray })(hi:Bx vs ns)(hl:ns.length<=aO)(hr:jD k callerA)(F:∀ base:aY,K.In base->base.Ns qU mg->bf P w K mg base CX k fa fd [x] sp)(hbind:∀(s:aK)(u:aB),Df s fd ⟨[u],[]⟩ [(x,u)])(hsp:∀ H:Hp,Only H->aV K H a (ns.map V.int)->sp [.ref a] H (λv _=>v=.bl true) λ_ _ _=>False)(hCX:∀ H e s',CX [] H s₁ (λ_ _ _=>False) e s'->False): jB (aN P w) callerA (.call (.ref fa) ⟨[.ref a],[]⟩) (λr s'=>r=.ok (.ret (.bool true))/\OldK s₁.heap s'.heap/\s'.os=s₁.os/\zp s'.gens) s₁:=by have rv:=acg hi;have lenV:=hi.length;have core:∀ H:Hp,Only H->aV K H a (ns.map V.int)->iD P w H s₁.heap->(∀ b,H b≠none->b=a)->(H a≠none->K.lookup a=none) -> jB (aN P w) callerA (.call (.ref fa) ⟨[.ref a],[]⟩) (λr s'=>r=.ok (.ret (.bool true))/\OldK s₁.heap s'.heap/\s'.os=s₁.os/\zp s'.gens) s₁:=(by intro H hO hS hok hA hK;have acU:∀{b:au}{o:Obj},s₁.heap.get? b=some o->H b=none->(zc s₁.heap H).get? b=some o:=λe n=>apA e n;have zj:∀{b:au}{o:Obj}{es:Array Pn}{ep:Nat},s₁.heap.get? b=some o->o.data=.dict es ep->H b=none:=λ{b o es ep} e d=>(by cases q:H b with| none=>rfl| some u =>have e':b=a:=hA b (by rw [q]; simp);subst e';rw [ha] at e; cases e;have d':O8 vs.toArray _=Data.dict es ep:=d;cases d');have nsK:∀{b:au}{m:Str->Option aB},s₁.heap.Ns b m->(zc s₁.heap H).Ns b m:=λ{b m} ⟨o,es,ep,e,d,r⟩=>⟨o,es,ep,acU e (zj e d),d,r⟩;have hKb:K.In (zc s₁.heap H):=λb o e=>acU (KX b o e) (by cases q:H b with| none=>rfl| some u =>have e':b=a:=hA b (by rw [q]; simp);subst e';rw [hK (by rw [q]; simp)] at e; cases e);have hM:Mod K mg (zc s₁.heap H):=⟨hKb,nsK hns,⟨mb,nsK hb,hbb⟩,let ⟨mc,h1,h2⟩:=hlim; ⟨mc,nsK h1,h2⟩⟩;have e0:zE P w K mg (zc s₁.heap H) callerA [] s₁ H:=⟨rfl,hM,λb o e=>aii e,LC (aib _ _),trivial,λb hb=>bO (show b∈([]:List au) from hb) (by simp),hok,.of_eq hg⟩;refine wM ((F _ hKb (nsK hns)).run callerA [] s₁ H ⟨[.ref a],[]⟩ [.ref a] [.ref a] _ _ hr e0 (hbind s₁ (.ref a)) (.cons rfl .nil) (hsp H hO hS)) λr s' h=>?_;cases r with| error e=>exact (hCX H e s' h).elim| ok fl =>cases fl with| next=>exact ou h| brk=>exact ou h| cont=>exact ou h| ret u =>obtain ⟨v,H',os,bare,un,hok',r',q⟩:=h;have q':v=.bl true:=q;subst q';obtain rfl:u=nC true:=r';refine ⟨rfl,OldK.of_keep λb o e=>?_,os,bare⟩;cases q:H b with| none=>exact un.keep b o e q (by intro z; exact bO (show b∈([]:List au) from z) (by simp)) (by simp)| some u =>rcases hO b with z | ⟨ob,xs,z⟩;rw [q] at z; cases z;have z2:=un.sS b ob _ z;obtain ⟨e1,_⟩:=hok b _ z;obtain ⟨e2,_⟩:=hok' b _ z2;rw [e] at e1; cases e1;exact e2);cases hk:K.lookup a with| some o =>have e:=KX a o hk;rw [ha] at e;cases e;refine core (λ_=>none) (λ_=>.inl rfl) (.inr ⟨_,vs.toArray,_,hk,rfl,rfl,rfl,by rw [fV,lenV]; exact hl,by simpa using rv⟩) (λb u z=>by have z':(none:Option HO)=some u:=z; cases z') (λb z=>bO rfl z) λz=>bO rfl z| none =>refine core (λb=>if b=a then some (.jh { cls:=.type "list",data:=.seq vs.toArray } (.lst (ns.map V.int))) else none) (λb=>?_) (.inl (.inr ⟨{ cls:=.type "list",data:=.seq vs.toArray },bI rfl⟩)) (λb u z=>?_) (λb z=>?_) λ_=>hk;by_cases hb:b=a;exact .inr ⟨_,_,bI hb⟩;exact .inl (aZ hb);by_cases hb:b=a;have z':=(bI hb).symm.aA z;cases z';subst hb;exact ⟨ha,by rw [aL]; exact hl,vs,_,rv,ha⟩;have z':=(aZ hb).symm.aA z;cases z';by_cases hb:b=a;exact hb;exact bO (aZ hb) z
noncomputable def inClass(s:cA)(j:Nat):cA:=match s with
 | .ClassDef _ _ _ body _ _ _ _ _ _ _=>body.getD j (.Pass ⟨0,0,0,0⟩)
 | _=>.Pass ⟨0,0,0,0⟩
noncomputable def BJ(s:cA):Arguments:=match s with
 | .FunctionDef _ a _ _ _ _ _ _ _ _=>a
 | _=>{ posonlyargs:=[],args:=[],vararg:=none,kwonlyargs:=[],kw_defaults:=[],kwarg:=none,defaults:=[] }
noncomputable def wG(s:cA):List cA:=match s with
 | .FunctionDef _ _ b _ _ _ _ _ _ _=>b
 | _=>[]
noncomputable def bw(s:cA):Scope:=match s with
 | .FunctionDef _ _ _ _ _ _ sc _ _ _=>sc
 | _=>{ kind:=.function,names:=[],isGenerator:=false,isCoroutine:=false }
noncomputable abbrev bB:wz:=λ_ _ _ _ _ _=>False
noncomputable abbrev E0:XK:=λ_ _ _=>False
theorem yj:Passes bB X E0:=λ_ _ _ _ _ _ _ h=>h.elim
structure pG(K:bV)(x qual:Str)(st:cA)(f:au)(fd:jU):Prop where
 ex:∃(oc:aB)(od:Option au)(kV doc pm:aB)(an:Option au)(cdv ct:aB)(osl:Array (Option aB)),
   fd=uN x qual (BJ st) (wG st) (bw st) .none kV doc pm an cdv ct/\K.lookup f=some ⟨oc,od,.func fd,osl⟩/\Ly K cdv qual=true
 kp:nu K (.ref f)=true
variable{st:cA}
theorem pG.ok{k:Nat}(F:pG K x qual st f fd)(S:cW N ps (bw st))(len:∀ vs H Q E,sp vs H Q E->vs.length=ps.length)(hbody:∀(cdv:aB)(A:iI)(outer:List Env)(s:aK)(H:Hp)(vs:List V)(Q:VK)(E:XK),jD k (A.deeper (envOfC qual (bw st) s.heap.objs.size f cdv))->sp vs H Q E -> ∃ t,qH (rJ bB P w K mg base N qual (bw st) f cdv A outer s H E).nox (wG st) t/\t { nx:=λ_ H'=>Q .non H',rt:=Q } (start N vs) H):bf P w K mg base bB (k+1) f fd ps sp:=by obtain ⟨oc,od,kV,doc,pm,an,cdv,ct,osl,rfl,lk,hcd⟩:=F.ex;refine abK lk hcd S len λA outer s H vs Q E hr hsp=>?_;obtain ⟨t,h,q⟩:=hbody cdv A outer s H vs Q E hr hsp;exact ⟨t,h.nox,q⟩
theorem pG.binds(F:pG K x qual st f fd)(h:∀(kV doc pm:aB)(an:Option au)(cdv ct:aB)(us:List aB),us.length=ps.length->bindArgs (uN x qual (BJ st) (wG st) (bw st) .none kV doc pm an cdv ct) ⟨us,[]⟩=pure (ps.zip us)):cj K fd ps []:=by obtain ⟨oc,od,kV,doc,pm,an,cdv,ct,osl,rfl,lk,hcd⟩:=F.ex;exact .all (h kV doc pm an cdv ct)
theorem JQ{kV:aB}(l:K.lookup f=some ⟨oc,od,.func (uN x qual (BJ st) (wG st) (bw st) .none kV doc pm an cdv ct),osl⟩)(c:Ly K cdv qual=true)(k:nu K (.ref f)=true):pG K x qual st f (uN x qual (BJ st) (wG st) (bw st) .none kV doc pm an cdv ct):=⟨⟨oc,od,kV,doc,pm,an,cdv,ct,osl,rfl,l,c⟩,k⟩
theorem jk{k:Nat}(hr:jD k A):A.units+1<cLine:=Z7 (Nat.add_le_add_left (by decide:1<=64) _) hr.units
theorem fQ{c A B:Prop}[Decidable c](h1:c->A)(h2:¬ c->B):if c then A else B:=by by_cases h:c;rw [bI h];exact h1 h;rw [aZ h];exact h2 h
noncomputable def aF(H H':Hp):Prop:=∀ b o,H b=some o->H' b=some o
theorem aF.refl(H:Hp):aF H H:=λ_ _ h=>h
theorem aF.aA{H2:Hp}(a:aF H H1)(b:aF H1 H2):aF H H2:=λc o h=>b c o (a c o h)
theorem aF.free(e:aF H H')(h:H' l=Option.none):H l=Option.none:=by cases q:H l with| none=>rfl| some o =>rw [e l o q] at h;cases h
theorem Y7:jH X (.builtin "len") (λxs H Q=>∃ a kvs,xs=[V.ref a]/\H a=some (.dK kvs)/\Q (.int kvs.length) H):=by intro ao s aj H xs us Q I r h;obtain ⟨a,kvs,rfl,ha,q⟩:=h;obtain ⟨u,rfl,ru⟩:=lZ r;cases ru;exact aiG I (.inl ha) λt s' I'=>⟨.int kvs.length,H,I',⟨t,rfl⟩,q⟩
section
variable{κ:Type}[DecidableEq κ]
theorem agp{kvs:List (κ × V)}{k:κ}(h:fO kvs k=some v):k∈kvs.map (·.1):=by have q:(kvs.any λkv=>decide (kv.1=k))=true:=(by rw [Jf,h];all_goals rfl);obtain ⟨p,hp,e⟩:=XM.mp q;exact cZ.mpr ⟨p,hp,dB e⟩
end
end L2
set_option maxHeartbeats 4000000
namespace L2
open PySem PySem.Spec PyProof.Rows
noncomputable def Jz(scope sc:Scope):Scope :=
 { scope with names:=scope.names.map λ(n,k)=>if (k == .free && sc.kind == .function && sc.names.lookup n == some .cell) then (n,.cell) else (n,k) }
structure BI where
 cells:List (Str × au)
 C:au
 s:aK
 H:Hp
 fp:List au
 ao:List (au × Obj)
noncomputable def uU(scope:Scope)(cells:List (Str × au))(C:au)(env:Env):Env :=
 { scope:=Jz scope env.scope,locals:=C,globals:=env.globals,cells:=cells,qual:=env.qual,func:=none,code:=env.code,frame:=env.frame,builtins:=env.builtins }
noncomputable def blk(X:Cx)(scope:Scope)(N:List Str)(b:BI):Cx where
 prog:=X.prog
 w:=X.w
 K:=X.K
 mg:=X.mg
 base:=X.base
 A:=X.A
 N:=N
 s₀:=b.s
 H₀:=b.H
 env:=uU scope b.cells b.C X.env
 outer:=X.stack
 stack:=X.stack
 ex:=b.fp
 fn:=λx=>scope.names.lookup x == some .cell
 calm:=X.calm
 pn:=X.pn++b.ao
 xe:=λ_ _=>False
noncomputable def pK(env:Env):List (Str × vA)->List (Str × au)->List (Str × au)
 | [],acc=>acc
 | (n,k) :: r,acc=>if k == .free then pK env r ((n,(env.cells.lookup n).getD 0) :: acc) else pK env r acc
theorem R8(env:Env)(f:Str × vA->List (Str × au)->Sem (ForInStep (List (Str × au))))(hf:∀ n k cs,f (n,k) cs=if k == .free then (cellOf env n >>= λa=>pure (.yield ((n,a) :: cs))) else pure (.yield cs)):
   ∀(names:List (Str × vA))(acc:List (Str × au)),(∀ y∈names,y.2=.free->∃ c,env.cells.lookup y.1=some c)->forIn names acc f=(pure (pK env names acc):Sem _)
 | [],acc,_=>by rw [JV]; rfl
 | (n,k) :: r,acc,h=>by rw [Kr,hf];have hr:∀ y∈r,y.2=.free->∃ c,env.cells.lookup y.1=some c:=λy hy=>h y (iM _ hy);cases hk:k == lU with| true =>obtain ⟨c,hc⟩:=h (n,k) gU (beq_iff_eq.mp hk);have e1:cellOf env n=pure c:=(by unfold cellOf; rw [show env.cells.lookup n=some c from hc]);have e2:pK env ((n,k) :: r) acc=pK env r ((n,c) :: acc):=(by show (if (k == lU)=true then _ else _)=_;rw [bI hk,show env.cells.lookup n=some c from hc]; rfl);rw [e2,bI rfl,e1];exact R8 env f hf r ((n,c) :: acc) hr| false =>have e2:pK env ((n,k) :: r) acc=pK env r acc:=(by show (if (k == lU)=true then _ else _)=_;rw [aZ (by rw [hk]; exact iW)]);rw [e2,aZ iW];exact R8 env f hf r acc hr
variable{scope:Scope}{env:Env}
theorem VH(h:∀ y∈scope.names,y.2=.free->∃ c,env.cells.lookup y.1=some c):closureFor scope env=pure (pK env scope.names []):=by simp only [closureFor];rw [R8 env _ (λn k cs=>by cases hk:k == lU <;> simp [hk]) scope.names [] h];rfl
theorem Oa{env:Env}{x:Str}{c:au}:∀(names:List (Str × vA))(acc:List (Str × au)),(pK env names acc).lookup x=some c->acc.lookup x=some c\/((x,lU)∈names/\c=(env.cells.lookup x).getD 0)
 | [],_,h=>.inl h
 | (n,k) :: r,acc,h=>by unfold pK at h;by_cases hk:(k == lU)=true;rw [bI hk] at h;rcases Oa r _ h with z | ⟨z,e⟩;rw [uP] at z;(cases hx:x == n with| true =>rw [hx] at z;have e1:x=n:=beq_iff_eq.mp hx;have e2:k=lU:=beq_iff_eq.mp hk;exact .inr ⟨by rw [e1,e2]; exact gU,by rw [e1]; exact (j6 z).symm⟩| false=>rw [hx] at z; exact .inl z);exact .inr ⟨iM _ z,e⟩;rw [aZ hk] at h;rcases Oa r _ h with z | ⟨z,e⟩;exact .inl z;exact .inr ⟨iM _ z,e⟩
theorem Q9{env:Env}{x:Str}:∀(names:List (Str × vA))(acc:List (Str × au)),((x,lU)∈names\/∃ c,acc.lookup x=some c)->∃ c,(pK env names acc).lookup x=some c
 | [],_,h=>h.elim (λz=>nomatch z) λz=>z
 | (n,k) :: r,acc,h=>by unfold pK;by_cases hk:(k == lU)=true;rw [bI hk];refine Q9 r _ ?_;by_cases hx:x=n;exact .inr ⟨_,by rw [uP,beq_iff_eq.mpr hx]⟩;rcases h with z | ⟨c,z⟩;rcases dU.mp z with e | z;exact bO (jr dw e) hx;exact .inl z;exact .inr ⟨c,by rw [uP,beq_eq_false_iff_ne.mpr hx]; exact z⟩;rw [aZ hk];refine Q9 r _ ?_;rcases h with z | z;rcases dU.mp z with e | z;have e2:lU=k:=jr yh e;exact bO (beq_iff_eq.mpr e2.symm) hk;exact .inl z;exact .inr z
theorem Ey:∀(names:List (Str × vA))(n:Nat)(acc:List (Str × au)),cellsFrom n names acc=cellsFrom n names []++acc
 | [],_,_=>rfl
 | (x,k) :: r,n,acc=>by unfold cellsFrom;split;rw [Ey r (n+1) ((x,n) :: acc),Ey r (n+1) [(x,n)],pQ]; rfl;exact Ey r n acc
theorem Pk{x:Str}{c:au}:∀(names:List (Str × vA))(n:Nat)(acc:List (Str × au)),(x,c)∈cellsFrom n names acc->(x,c)∈acc\/(x,wD)∈names
 | [],_,_,h=>.inl h
 | (y,k) :: r,n,acc,h=>by unfold cellsFrom at h;split at h;rename_i hk;rcases Pk r _ _ h with z | z;rcases dU.mp z with e | z;have e1:x=y:=jr dw e;rw [e1,<- beq_iff_eq.mp hk]; exact .inr gU;exact .inl z;exact .inr (iM _ z);rcases Pk r _ _ h with z | z;exact .inl z;exact .inr (iM _ z)
theorem lookup_append{bM:Type}{x:Str}:∀(l m:List (Str × bM)),(l++m).lookup x=match l.lookup x with | some c=>some c | none=>m.lookup x
 | [],m=>rfl
 | (y,c) :: l,m=>by rw [Bu,uP,uP];cases x == y with| true=>rfl| false=>exact lookup_append l m
theorem aeu{bM:Type}{x:Str}:∀{l:List (Str × bM)},(∀ c,(x,c) ∉ l)->l.lookup x=none
 | [],_=>rfl
 | (y,c) :: l,h=>by rw [uP];have hx:x≠y:=λe=>h c (by rw [e]; exact gU);rw [beq_eq_false_iff_ne.mpr hx];exact aeu λc hc=>h c (iM _ hc)
theorem adw{sc:Scope}{x:Str}:∀(names:List (Str × vA)),(names.map λ(n,k)=>if (k == lU && sc.kind == .function && sc.names.lookup n == some .cell) then (n,wD) else (n,k)).lookup x =
   (names.lookup x).map λk=>if (k == lU && sc.kind == .function && sc.names.lookup x == some .cell) then wD else k
 | []=>rfl
 | (n,k) :: r=>by have ih:=adw (sc:=sc) (x:=x) r;rw [fM];by_cases hc:(k == lU && sc.kind == .function && sc.names.lookup n == some .cell)=true;show xU x ((if (k == lU && sc.kind == .function && sc.names.lookup n == some .cell)=true then (n,wD) else (n,k)) :: _)=_;rw [bI hc,uP,uP];(cases hx:x == n with| true =>have e:x=n:=beq_iff_eq.mp hx;subst e;show some wD=some (if (k == lU && sc.kind == .function && sc.names.lookup x == some .cell)=true then wD else k);rw [bI hc]| false=>exact ih);show xU x ((if (k == lU && sc.kind == .function && sc.names.lookup n == some .cell)=true then (n,wD) else (n,k)) :: _)=_;rw [aZ hc,uP,uP];cases hx:x == n with| true =>have e:x=n:=beq_iff_eq.mp hx;subst e;show some k=some (if (k == lU && sc.kind == .function && sc.names.lookup x == some .cell)=true then wD else k);rw [aZ hc]| false=>exact ih
variable{s:aK}
theorem Uh{M:Dj}{A:iI}{E:aB->aK->Prop}{globals:au}{cl:List (Str × au)}{qual:Str}{Q:Env->aK->Prop}(hQ:Q (newEnv scope s.heap.objs.size globals (cellsFrom (s.heap.objs.size+1) scope.names cl) qual none .none (some env) builtinsNs) { s with heap:=pushCells (s.heap.push { cls:=.type "dict",data:=.dict #[] }) scope.names }): aJ M A (newFunctionEnv scope globals cl [] qual none .none (some env)) Q E s:=by simp only [newFunctionEnv,ado,if_true];refine aG (wpAny_alloc ?_);refine aG (wpAny_layCells _ (λname kind cells=>by cases hkc:kind == wD <;> simp [hkc]) _ _ _ _ ?_);rw [show ({ s with heap:=s.heap.push { cls:=.type "dict",data:=.dict #[] } }:aK).heap.objs.size=s.heap.objs.size+1 from qY ..];simp only [JV];exact aG (aR (aR hQ))
structure oX(bN scope:Scope)(N' own cp:List Str)(ixs:List Nat):Prop where
 kind:scope.kind=.function
 nm:∀ y∈scope.names,scope.names.lookup y.1=some y.2
 free:∀ y∈scope.names,y.2=.free->bN.names.lookup y.1=some .cell\/bN.names.lookup y.1=some .free
 cap:∀ x∈cp,scope.names.lookup x=some .free
 ix:ixs.map (λi=>N'[i]?)=cp.map some
 nd:(own++cp).Nodup
variable{bN:Scope}{N' own:List Str}
theorem fH{cp:List Str}{ixs:List Nat}(a:scope.kind=.function:=by rfl)(b:∀ y∈scope.names,scope.names.lookup y.1=some y.2:=by decide +kernel)(c:∀ y∈scope.names,y.2=.free->bN.names.lookup y.1=some .cell\/bN.names.lookup y.1=some .free:=by decide +kernel)(d:∀ x∈cp,scope.names.lookup x=some .free:=by decide +kernel)(e:ixs.map (λi=>N'[i]?)=cp.map some:=by rfl)(f:(own++cp).Nodup:=by decide +kernel):oX bN scope N' own cp ixs:=⟨a,b,c,d,e,f⟩
noncomputable def oJ(own:List Str)(ix:List Nat)(aj:St):St:=own.map (λ_=>none)++ix.map λi=>(aj[i]?).getD none
section
variable{X:Cx}{ao:List (au × Obj)}{aj:St}{H:Hp}{s:aK}
noncomputable abbrev yH(s:aK)(scope:Scope):aY:=pushCells (s.heap.push { cls:=.type "dict",data:=.dict #[] }) scope.names
noncomputable abbrev sV(X:Cx)(s:aK)(scope:Scope):List (Str × au):=cellsFrom (s.heap.objs.size+1) scope.names (pK X.env scope.names [])
noncomputable abbrev gC(X:Cx)(ao:List (au × Obj))(s:aK)(H:Hp)(scope:Scope)(fp:List au):BI:=⟨sV X s scope,s.heap.objs.size,s,H,fp,ao⟩
theorem Pr(s:aK)(scope:Scope)(b:au)(o:Obj)(e:s.heap.get? b=some o):(yH s scope).get? b=some o:=pushCells_keeps _ _ b o (cR _ e)
theorem abM(s:aK)(scope:Scope):CellsOk (yH s scope) (s.heap.objs.size+1) (cellsFrom (s.heap.objs.size+1) scope.names []):=by have ok:=cellsFrom_ok scope.names (s.heap.push { cls:=.type "dict",data:=.dict #[] }) (s.heap.objs.size+1) [] ⟨λ_ _ hm=>(nomatch hm),yc⟩ (by rw [qY]; exact bG _);rw [qY] at ok;exact ok
variable{cap:List Str}{ix:List Nat}{x:Str}
theorem Ep(S:oX bN scope N' own cap ix)(hX:X.env.scope=bN)(I:Inv X ao aj H s){c:au}(h:(sV X s scope).lookup x=some c): ((x,c)∈cellsFrom (s.heap.objs.size+1) scope.names []/\s.heap.objs.size+1<=c/\scope.names.lookup x=some .cell)\/(X.env.cells.lookup x=some c/\scope.names.lookup x=some .free):=by have h':(cellsFrom (s.heap.objs.size+1) scope.names (pK X.env scope.names [])).lookup x=some c:=h;rw [Ey,lookup_append] at h';cases e:(cellsFrom (s.heap.objs.size+1) scope.names []).lookup x with| some c' =>rw [e] at h';cases h';have m:=tM e;refine .inl ⟨m,((abM s scope).empty _ _ m).2,?_⟩;rcases Pk _ _ _ m with z | z;exact nomatch z;exact S.nm _ z| none =>rw [e] at h';rcases Oa _ _ h' with z | ⟨z,ec⟩;exact nomatch z;have hf:=S.free _ z rfl;rw [<- hX] at hf;obtain ⟨c',e'⟩:=I.ok.has x hf;rw [e'] at ec;exact .inr ⟨by rw [e',ec]; rfl,S.nm _ z⟩
theorem YJ(S:oX bN scope N' own cap ix)(hX:X.env.scope=bN)(I:Inv X ao aj H s)(hx:scope.names.lookup x=some .free): ∃ c,X.env.cells.lookup x=some c/\(sV X s scope).lookup x=some c:=by have m:=tM hx;have hf:=S.free _ m rfl;rw [<- hX] at hf;obtain ⟨c,e⟩:=I.ok.has x hf;refine ⟨c,e,?_⟩;have n1:(cellsFrom (s.heap.objs.size+1) scope.names []).lookup x=none:=aeu λc' hc'=>(by rcases Pk _ _ _ hc' with z | z;exact nomatch z;have:=S.nm _ z;rw [hx] at this;cases this);obtain ⟨c',e'⟩:=Q9 (env:=X.env) (x:=x) scope.names [] (.inl m);show (cellsFrom (s.heap.objs.size+1) scope.names (pK X.env scope.names [])).lookup x=some c;rw [Ey,lookup_append,n1];show (pK X.env scope.names []).lookup x=some c;rcases Oa _ _ e' with z | ⟨_,z⟩;exact nomatch z;rw [e',z,e]; rfl
theorem kindB{sc:Scope}:(Jz scope sc).names.lookup x=(scope.names.lookup x).map λk=>if (k == lU && sc.kind == .function && sc.names.lookup x == some .cell) then wD else k:=adw scope.names
variable{h':aY}
theorem acR(S:oX bN scope X.N own cap ix)(hX:X.env.scope=bN)(I:Inv X ao aj H s){m:Str->Option aB}(keep:∀ x c v,X.env.cells.lookup x=some c->s.heap.IsCell c v->h'.IsCell c v)(i:Nat)(x:Str)(v:V)(e1:(own++cap)[i]?=some x)(e2:(oJ own ix aj)[i]?=some (some v)):∃ u,cO v u/\Look (uU scope (sV X s scope) s.heap.objs.size X.env) h' m x u:=by have hi:¬ i<own.length:=λhi=>(by unfold oJ at e2;rw [JL (by simpa using hi),bL] at e2;cases q:own[i]? with| none=>rw [q] at e2; cases e2| some y=>rw [q] at e2; cases e2);have e1':cap[i-own.length]?=some x:=(by rw [HY (by omega)] at e1;exact e1);have e2':∃ k,ix[i-own.length]?=some k/\aj[k]?=some (some v):=(by unfold oJ at e2;rw [HY (by simpa using Nat.le_of_not_lt hi),bL,aL] at e2;cases q:ix[i-own.length]? with| none=>rw [q] at e2; cases e2| some k =>rw [q] at e2;have e3:(aj[k]?).getD none=some v:=j6 e2;cases q2:aj[k]? with| none=>rw [q2] at e3; cases e3| some z =>rw [q2] at e3;exact ⟨k,rfl,by rw [q2,show z=some v from e3]⟩);obtain ⟨k,hk,hv⟩:=e2';have hN:X.N[k]?=some x:=(by have z:=jr (λl=>l[i-own.length]?) S.ix;simp only [bL] at z;rw [hk,e1'] at z;exact j6 z);have hx:=S.cap x (fG e1');have m':=tM hx;have hf:=S.free _ m' rfl;rw [<- hX] at hf;obtain ⟨m0,_,hl⟩:=I.loc;obtain ⟨u,r,l⟩:=hl k x v hN hv (hf.elim (λz=>.inr (.inl z)) λz=>.inr (.inr z));refine ⟨u,r,?_⟩;have l':∃ c,X.env.cells.lookup x=some c/\s.heap.IsCell c (some u):=(by rcases l with ⟨z,_⟩ | ⟨_,c,z,q⟩;rcases hf with y | y;rw [show X.env.kindOf x=some .cell from y] at z; cases z;rw [show X.env.kindOf x=some .free from y] at z; cases z;exact ⟨c,z,q⟩);obtain ⟨c,ec,hc⟩:=l';obtain ⟨c',ec',eb⟩:=YJ S hX I hx;rw [ec] at ec';cases ec';refine .inr ⟨?_,c,eb,keep x c _ ec hc⟩;have kb:(uU scope (sV X s scope) s.heap.objs.size X.env).kindOf x=some (if (lU == lU && X.env.scope.kind == .function && X.env.scope.names.lookup x == some .cell) then wD else lU):=(by show (Jz scope X.env.scope).names.lookup x=_;rw [kindB,hx]; rfl);rw [kb];by_cases q:(lU == lU && X.env.scope.kind == .function && X.env.scope.names.lookup x == some .cell)=true;rw [bI q]; exact .inl rfl;rw [aZ q]; exact .inr rfl
variable{fp:List au}
theorem W8(S:oX bN scope X.N own cap ix)(hX:X.env.scope=bN)(I:Inv X ao aj H s)(hf:∀ b∈fp,jd X ao H b)(ho:∀ b∈fp,∃ o,s.heap.get? b=some o): Inv (blk X scope (own++cap) (gC X ao s H scope fp)) [] (oJ own ix aj) H { s with heap:=yH s scope }:=by have kp:=Pr s scope;have own1:=abM s scope;have ltC:∀ x c,X.env.cells.lookup x=some c->c<s.heap.objs.size:=λx c e=>(by obtain ⟨v,o,e',_⟩:=I.cell x c e;exact bQ e');have vp:∀ b∈fp,b<s.heap.objs.size:=λb hb=>let ⟨_,e⟩:=ho b hb; bQ e;have adF:∀ b,b≠X.env.locals->b ∉ X.fs->b ∉ frs X.stack:=λb h1 h2 hb=>(by rcases dU.mp (I.Pj b hb) with e | e;exact h1 e;exact h2 e);refine ⟨⟨I.ok.mod,S.kind,I.ok.glob,I.ok.blt,bG _,λx y c h1 h2=>?_,λx hx=>?_,λx c hx h=>?_,I.ok.hd,I.ok.frames,.inl rfl,λb hb=>⟨?_,λx c h=>?_⟩,I.bs,jF I.ok.wQ I.sz,λb o e hb=>?_,λb hb=>?_,I.stack,I.Nm⟩,rfl,I.bare,Un.kept kp,⟨λ_=>none,?_,λi x v e1 e2 _=>acR S hX I (λx c v _ hc=>hc.keeps kp) i x v e1 e2⟩,λx c h=>?_,I.hok.fresh (bG _),λx c h=>?_,λp hp=>?_,I.hok.kept kp,?_⟩;rcases Ep S hX I h1 with ⟨m1,l1,_⟩ | ⟨m1,_⟩ <;> rcases Ep S hX I h2 with ⟨m2,l2,_⟩ | ⟨m2,_⟩;exact V6 own1.apart m1 m2;exact bO (jL (ltC _ _ m2) (Wb l1)) (qF _);exact bO (jL (ltC _ _ m1) (Wb l2)) (qF _);exact I.ok.inj x y c m1 m2;have hx':(Jz scope X.env.scope).names.lookup x=some .cell\/(Jz scope X.env.scope).names.lookup x=some .free:=hx;rw [kindB] at hx';(cases q:scope.names.lookup x with| none=>rw [q] at hx'; rcases hx' with z | z <;> cases z| some k =>rw [q] at hx';cases k with| free=>obtain ⟨c,_,e⟩:=YJ S hX I q; exact ⟨c,e⟩| cell =>obtain ⟨c,e⟩:=Jb (sc:=scope) (n:=s.heap.objs.size+1) q;refine ⟨c,?_⟩;show (cellsFrom (s.heap.objs.size+1) scope.names (pK X.env scope.names [])).lookup x=some c;rw [Ey,lookup_append,e]| _=>rcases hx' with z | z <;> cases z);have hx':(scope.names.lookup x == some .cell)=true:=hx;rcases Ep S hX I h with ⟨_,l1,_⟩ | ⟨_,z⟩;show s.heap.objs.size<=c; omega;rw [z] at hx'; exact bO hx' (by decide);exact fB (vp b hb);rcases Ep S hX I h with ⟨_,l1,_⟩ | ⟨z,_⟩;intro z; rw [z] at l1; exact bO (jL (vp b hb) (Wb l1)) (qF _);exact (hf b hb).2.2.2.2.1 x c z;rcases (hf b hb).2.2.2.1 with z | z;exact I.ok.Gu b o e z;exact bO (jL (jL (bQ e) I.ok.wQ) z) (qF _);exact adF b (hf b hb).2.1 (hf b hb).2.2.1;exact (Heap.Ns.new s.heap (.type "dict")).keeps (pushCells_keeps _ _);rcases Ep S hX I h with ⟨m1,_,_⟩ | ⟨z,_⟩;exact ⟨none,(own1.empty _ _ m1).1⟩;obtain ⟨v,q⟩:=I.cell x c z;exact ⟨v,q.keeps kp⟩;rcases Ep S hX I h with ⟨_,l1,_⟩ | ⟨z,_⟩;exact I.hok.fresh (by omega);exact I.qJ x c z;have hp':p∈X.pn++ao:=(by rcases iC.mp hp with z | z;exact z;exact nomatch z);obtain ⟨e,n,ne,nf,d⟩:=I.pin p hp';exact ⟨kp _ _ e,n,fB (bQ e),adF _ ne nf,d⟩;unfold oJ;show (own.map (λ_=>(none:Option V))++ix.map λi=>(aj[i]?).getD none).length=(own++cap).length;have z:=jr rA S.ix;rw [aL,aL] at z;rw [dZ,dZ,aL,aL,z]
variable{bA:St}{H':Hp}{s':aK}
theorem aar{pl:List (au × Obj)}(S:oX bN scope X.N own cap ix)(hX:X.env.scope=bN)(I:Inv X ao aj H s)(hf:∀ b∈fp,jd X ao H b)(J:Inv (blk X scope (own++cap) (gC X ao s H scope fp)) pl bA H' s'):Inv (blk X scope (own++cap) (gC X ao s H scope fp)) pl (oJ own ix aj) H' s':=by obtain ⟨m,hn,_⟩:=id J.loc;refine ⟨J.ok,J.os,J.bare,J.base,⟨m,hn,λi x v e1 e2 _=>acR S hX I (λx c v ec hc=>?_) i x v e1 e2⟩,J.cell,J.free,J.qJ,J.pin,J.hok,?_⟩;obtain ⟨o,e,d⟩:=hc;obtain ⟨sl,e'⟩:=J.base.any e (I.qJ x c ec) λhb=>(hf c hb).2.2.2.2.1 x c ec rfl;exact ⟨_,e',d⟩;have z:=jr rA S.ix;rw [aL,aL] at z;show (oJ own ix aj).length=(own++cap).length;unfold oJ;rw [dZ,dZ,aL,aL,z]
theorem X8(I:Inv X ao aj H s)(hf:∀ b∈fp,jd X ao H b)(J:Inv (blk X scope (own++cap) (gC X ao s H scope fp)) [] bA H' s')(hs:vH s.heap.objs.size s'.heap h'):Inv X ao aj H' { s' with heap:=h' }:=by have I1:Inv X ao aj H' s':=I.call' (ch:=fp) J.os J.base J.hok J.bare λb hb=>⟨(hf b hb).2.2.2.1,(hf b hb).2.1,(hf b hb).2.2.2.2.1,(hf b hb).2.2.2.2.2⟩;have n1:s.heap.objs.size≠X.env.locals:=qp I.lt;refine I1.turned (it:=s.heap.objs.size) (t':=s'.toks) (λb o hb e=>(hs.2 b hb).aA e) J.free n1 (.inr I.sz) (λx c e z=>?_) λp hp z=>?_;obtain ⟨v,o,e',_⟩:=I.cell x c e;exact bO z (fB (bQ e'));exact bO z (fB (bQ (I.pin p hp).1))
end
noncomputable def oU(X:Cx)(ifs:List Expr)(t:TT):Prop :=
 ∀(ao:List (au × Obj))(s:aK)(aj:St)(H:Hp)(Q:Bool->Hp->Prop),Inv X ao aj H s->t aj H Q ->
   aJ (aN X.prog X.w) X.A (forIn ifs true λc r=>if r=true then do let ok <- isTrue c X.env (eval c X.env); pure (ForInStep.yield ok) else pure (ForInStep.yield r)) (TP X ao aj Q) X.xe s
noncomputable def Dw:TT:=λ_ H Q=>Q true H
variable{X:Cx}
theorem fu:oU X [] Dw:=λ_ _ _ H _ I h=>wpAny_tests_nil ⟨H,I,h⟩
noncomputable def rW(J:It)(g:TG)(tt:TT)(act:St->Hp->(Hp->Prop)->Prop)(jZ:St)(End:Hp->Prop)(W:Nat->Nat->Hp->Prop):Prop :=
 ∀ i m H,W i m H->(J.stop i H/\End H)\/(J.go i H/\∀ x H',J.sO i H x H'->g x jZ H' fun dJ H2=>tt dJ H2 λb H3 =>
   if b=true then act dJ H3 λH4=>∃ m',m'<m/\W (i+1) m' H4 else ∃ m',m'<m/\W (i+1) m' H3)
noncomputable def qd(D:au)(te:TE):St->Hp->(Hp->Prop)->Prop:=fun aj H R=>te aj H λy H4=>∃ zs,H4 D=some (.lst zs)/\zs.length<aO/\R (upd H4 D (.lst (zs++[y])))
noncomputable def J4(own:List Str)(ix:List Nat)(wi:TI)(g:BI->TG)(tt:BI->TT)(te:BI->TE):TE:=fun aj H Q=>wi aj H λJ H1=>∀ D,H1 D=none ->
 ∃ W:Nat->Nat->Hp->Prop,(∃ m,W 0 m (upd H1 D (.lst [])))/\∀ b,rW J (g b) (tt b) (qd D (te b)) (oJ own ix aj) (λH'=>Q (.ref D) H') W
variable{ao:List (au × Obj)}{aj:St}{H:Hp}{tg iter elt:Expr}{ifs:List Expr}{pos:Pos}{cap:List Str}{ix:List Nat}{g:BI->TG}{tt:BI->TT}{te:BI->TE}
theorem ag3{J:It}{fp:List au}{it D:au}{tn:Nat->aY->Prop}{End:Hp->Prop}{W:Nat->Nat->Hp->Prop}{m0:Nat}{s4:aK}(S:oX bN scope X.N own cap ix)(hX:X.env.scope=bN)(I:Inv X ao aj H s)(hf:∀ b∈fp,jd X ao H b)(hc:X.calm=true)(T:Turn X.prog X.w X.K tg J fp it tn)(hg:PG (blk X scope (own++cap) (gC X ao s H scope fp)) tg (g (gC X ao s H scope fp)))(ht:oU (blk X scope (own++cap) (gC X ao s H scope fp)) ifs (tt (gC X ao s H scope fp)))(he:PE (blk X scope (own++cap) (gC X ao s H scope fp)) elt (te (gC X ao s H scope fp)))(hW:rW J (g (gC X ao s H scope fp)) (tt (gC X ao s H scope fp)) (qd D (te (gC X ao s H scope fp))) (oJ own ix aj) End W)(I4:Inv (blk X scope (own++cap) (gC X ao s H scope fp)) [] (oJ own ix aj) H s4)(uK:tn 0 s4.heap)(w0:W 0 m0 H): jB (aN X.prog X.w) X.A (.compLoop (.ListComp elt [⟨tg,iter,ifs,0⟩] scope pos) 0 (.ref it) (.ref D) (uU scope (sV X s scope) s.heap.objs.size X.env)) (λr s'=>∃ H' bA,r=.ok .next/\Inv (blk X scope (own++cap) (gC X ao s H scope fp)) [] bA H' s'/\End H') s4:=by have stat:∀{H':Hp}{pl:List (au × Obj)},(∀ b∈fp,H' b=none)->(∀ p∈pl,p.1 ∉ fp)->∀ b∈fp,jd (blk X scope (own++cap) (gC X ao s H scope fp)) [] H' b:=λhn _ b hb=>(by refine ⟨hn b hb,(I4.ok.yN b hb).1,I4.ok.BZ b hb,.inl hb,(I4.ok.yN b hb).2,λp hp=>?_⟩;have hp':p∈X.pn++ao:=(by rcases iC.mp hp with z | z;exact z;exact nomatch z);exact (hf b hb).2.2.2.2.2 p hp');refine Tw rfl (λn s'=>∃ i H',Inv (blk X scope (own++cap) (gC X ao s H scope fp)) [] (oJ own ix aj) H' s'/\tn i s'.heap/\(∀ b∈fp,H' b=none)/\W i n H') ?_ m0 ⟨0,H,I4,uK,λb hb=>(hf b hb).1,w0⟩;rintro n s3 ⟨i,H3,I3,st3,zB,w3⟩;show aJ _ X.A ((compTurn (.ListComp elt [⟨tg,iter,ifs,0⟩] scope pos) 0 (.ref it) (.ref D) (uU scope (sV X s scope) s.heap.objs.size X.env)).onRaise (λx=>do noteFrame x (uU scope (sV X s scope) s.heap.objs.size X.env); theTreesLotGoes x)) _ _ s3;refine Dr ?_;rw [compTurn_list];have st0:=stat (pl:=[]) zB (λ_ z=>nomatch z);rcases hW i n H3 w3 with ⟨stop,qe⟩ | ⟨go,step⟩;refine aG (vo (aG (bH (T.done (blk X scope (own++cap) (gC X ao s H scope fp)) rfl rfl rfl hc i [] s3 _ H3 _ I3 st0 st3 stop) λr s5 ⟨hr,I5⟩=>?_)));subst hr;exact aR ⟨H3,_,rfl,I5,qe⟩;refine aG (vo (aG (bH (T.item (blk X scope (own++cap) (gC X ao s H scope fp)) rfl rfl rfl hc i [] s3 _ H3 _ I3 st0 st3 go) λr s5 ⟨u,hr,h5⟩=>?_)));subst hr;refine aG (bH h5 λ_ s6 ⟨x,H6,I6,r6,y6,vV,fr6⟩=>?_);have I6':=I6.pinned (stat (pl:=[]) fr6 (λ_ z=>nomatch z)) (T.obj _ _ vV);refine aG (jx (hg _ s6 _ H6 x u _ I6' r6 (step x H6 y6)) (λ_ s7 ⟨mq,H7,I7,q7⟩=>?_) λ_ _ f=>f.elim);refine aG (jx (ht _ s7 mq H7 _ I7 q7) (λok s8 ⟨H8,I8,q8⟩=>?_) λ_ _ f=>f.elim);have again:∀{wK:St}{H9:Hp}{s9:aK}{m':Nat},Inv (blk X scope (own++cap) (gC X ao s H scope fp)) ([]++Cd fp s6.heap) wK H9 s9->m'<n->W (i+1) m' H9 -> ∃ m,m<n/\∃ i H',Inv (blk X scope (own++cap) (gC X ao s H scope fp)) [] (oJ own ix aj) H' s9/\tn i s9.heap/\(∀ b∈fp,H' b=none)/\W i m H':=λ{wK H9 s9 m'} I9 hm w9=>(by refine ⟨m',hm,i+1,H9,aar S hX I hf I9.Gk,T.keep _ _ _ vV λb hb o e=>(I9.pin (b,o) (lV _ (lV _ (Bt hb e)))).1,λb hb=>?_,w9⟩;obtain ⟨o,e,d⟩:=T.obj _ _ vV b hb;exact (I9.pin (b,o) (lV _ (lV _ (Bt hb e)))).2.1);cases ok with| false =>obtain ⟨m',hm,w9⟩:=q8;exact aR ⟨rfl,again I8 hm w9⟩| true =>refine aG (aG (jx (he _ s8 mq H8 _ I8 q8) (λy s9 ⟨v,H9,I9,r9,zs,hD,hz,m',hm,w9⟩=>?_) λ_ _ f=>f.elim));refine aG (jx (Ba (X:=blk X scope (own++cap) (gC X ao s H scope fp)) _ s9 mq H9 (.ref D) [v] (.ref D) [y] (λ_ H'=>∃ m',m'<n/\W (i+1) m' H') I9 rfl (.cons r9 .nil) ⟨D,zs,v,rfl,rfl,hD,hz,m',hm,w9⟩) (λ_ zQ ⟨_,tQ,I10,_,m'',hm',w10⟩=>?_) λ_ _ f=>f.elim);exact aR (aR ⟨rfl,again I10 hm' w10⟩)
variable{wi:TI}
theorem acv{Q:VK}{use:Option (aB->Sem Unit)}{Q':aB->aK->Prop}(hc:X.calm=true)(hX:X.env.scope=bN)(S:oX bN scope X.N own cap ix)(hi:PI X tg iter wi)(hg:∀ b,PG (blk X scope (own++cap) b) tg (g b))(ht:∀ b,oU (blk X scope (own++cap) b) ifs (tt b))(he:∀ b,PE (blk X scope (own++cap) b) elt (te b))(hs:∀ x,qz iter X.env x=pure x)(I:Inv X ao aj H s)(h:J4 own ix wi g tt te aj H Q)(out:∀(D C:au)(H':Hp)(s':aK),Q (.ref D) H'->(∃ m,s'.heap.Ns C m)->jd X ao H' C->(∀ h',vH C s'.heap h'->Inv X ao aj H' { s' with heap:=h' }) -> compPost (aN X.prog X.w) X.A X.xe use Q' (.ref D) C (.ok .next) s'): aJ (aN X.prog X.w) X.A (comprehension (.ListComp elt [⟨tg,iter,ifs,0⟩] scope pos) scope X.env (firstIterPos [⟨tg,iter,ifs,0⟩] pos) (newList []) false (eval iter X.env) use) Q' X.xe s:=by have hclos:=VH (scope:=scope) (env:=X.env) λy hy hk=>(by have hf:=S.free y hy hk;rw [<- hX] at hf;exact I.ok.has y.1 hf);refine Qh (use:=use) rfl hs hclos S.kind (λy hy hk=>by rw [S.nm y hy,hk]) (bH (hi ao s aj H _ I h) λv s1 h1=>bH h1 λitv s2 h2=>?_);obtain ⟨it,fp,tn,J,H2,e,I2,T,st2,f2,hR⟩:=h2;subst e;refine oK ?_;obtain ⟨W,⟨m0,w0⟩,hW⟩:=hR s2.heap.objs.size I2.fresh;have I3:Inv X ao aj (upd H2 s2.heap.objs.size (.lst [])) { s2 with heap:=s2.heap.push { cls:=.type "list",data:=.seq ([]:List aB).toArray } }:=I2.Og (t':=s2.toks) (its:=[]) .nil (dR _);have vp:∀ b∈fp,b<s2.heap.objs.size:=λb hb=>let ⟨_,e,_⟩:=T.obj _ _ st2 b hb; bQ e;have f3:∀ b∈fp,jd X ao (upd H2 s2.heap.objs.size (.lst [])) b:=λb hb=>⟨by rw [aW (fB (vp b hb))]; exact (f2 b hb).1,(f2 b hb).2⟩;have st3:tn 0 (s2.heap.push { cls:=.type "list",data:=.seq ([]:List aB).toArray }):=T.keep _ _ _ st2 λb hb o e=>cR _ e;generalize hs3:({ s2 with heap:=s2.heap.push { cls:=.type "list",data:=.seq ([]:List aB).toArray } }:aK)=s3 at I3;have Ai:tn 0 s3.heap:=(by rw [<- hs3]; exact st3);have ob3:∀ b∈fp,∃ o,s3.heap.get? b=some o:=λb hb=>let ⟨o,e,_⟩:=T.obj _ _ Ai b hb; ⟨o,e⟩;have I4:=W8 S hX I3 f3 ob3;have uK:tn 0 (yH s3 scope):=T.keep _ _ _ Ai λb _ o e=>Pr s3 scope b o e;refine Uh ?_;have loop:=ag3 (iter:=iter) (pos:=pos) S hX I3 f3 hc T (hg _) (ht _) (he _) (hW _) I4 uK w0;have fin:jB (aN X.prog X.w) X.A (.compLoop (.ListComp elt [⟨tg,iter,ifs,0⟩] scope pos) 0 (.ref it) (.ref s2.heap.objs.size) (uU scope (sV X s3 scope) s3.heap.objs.size X.env)) (compPost (aN X.prog X.w) X.A X.xe use Q' (.ref s2.heap.objs.size) s3.heap.objs.size) { s3 with heap:=yH s3 scope }:=wM loop λr s' ⟨H',bA,hr,J',q⟩=>(by subst hr;exact out _ _ H' s' q (let ⟨m,hn,_⟩:=J'.loc; ⟨m,hn⟩) (I3.ug (bG _) J'.free) λh' hh=>X8 I3 f3 J' hh);exact abg fin (T.self _ 0 _ _ _ uK fin)
theorem iG(hc:X.calm=true)(hX:X.env.scope=bN)(S:oX bN scope X.N own cap ix)(hi:PI X tg iter wi)(hg:∀ b,PG (blk X scope (own++cap) b) tg (g b))(ht:∀ b,oU (blk X scope (own++cap) b) ifs (tt b))(he:∀ b,PE (blk X scope (own++cap) b) elt (te b))(hs:∀ x,qz iter X.env x=pure x:=by intro _; rfl):
   PE X (.ListComp elt [⟨tg,iter,ifs,0⟩] scope pos) (J4 own ix wi g tt te):=by
 intro ao s aj H Q I h;rw [Qv];refine acv (use:=none) hc hX S hi hg ht he hs I h λD C H' s' q hn _ hI=>?_
 obtain ⟨m,hn⟩:=hn;exact ⟨m,hn,λh' hh=>⟨.ref D,H',hI h' hh,rfl,q⟩⟩
theorem HX{i:Nat}{x:Str}{pos' spos:Pos}(hN:X.N.Nodup)(hx1:X.N[i]?=some x)(hx:X.env.scope.names.lookup x=some .local)(hc:X.calm=true)(hX:X.env.scope=bN)(S:oX bN scope X.N own cap ix)(hi:PI X tg iter wi)(hg:∀ b,PG (blk X scope (own++cap) b) tg (g b))(ht:∀ b,oU (blk X scope (own++cap) b) ifs (tt b))(he:∀ b,PE (blk X scope (own++cap) b) elt (te b))(hs:∀ x,qz iter X.env x=pure x:=by intro _; rfl)(hsw:BL (.ListComp elt [⟨tg,iter,ifs,0⟩] scope pos) (some (.Name x pos')) spos.line X.env=pure true:=by rfl):
   PS X (.Assign [.Name x pos'] (.ListComp elt [⟨tg,iter,ifs,0⟩] scope pos) spos) (Bl (J4 own ix wi g tt te) (xG i)):=by
 intro ao s aj H D I h;rw [ZJ _ _ _ _ hsw];refine aG (vo (aG ?_));show aJ _ X.A (do let _ <- comprehension (.ListComp elt [⟨tg,iter,ifs,0⟩] scope pos) scope X.env _ (newList []) false (eval iter X.env) (some (assign (.Name x pos') X.env))) _ _ s;refine aG (jx (acv (use:=some (assign (.Name x pos') X.env)) (Q':=λ_ s'=>SP X ao D .next s') hc hX S hi hg ht he hs I h λD1 C H' s' q hn fC hI=>?_) (λ_ s' hq=>aR (aR hq)) λ_ _ e=>e);obtain ⟨m,hn⟩:=hn
 have I0:Inv X ao aj H' s':=by
   have z:=hI s'.heap (Tg ..);exact z
 show aJ _ X.A (assign (.Name x pos') X.env (.ref D1)) _ _ _;refine VF (T8 I0 hN hx1 (.inl hx) (show cO (.ref D1) (.ref D1) from rfl) (λs2 I2 ⟨a,sb,ha⟩=>?_) (.inr hx))
 have na:C≠a:=by
   rcases ha with e | e
   . rw [e]; exact fC.2.1
   . intro z; exact fC.2.2.2.2.1 x a e z.symm
 refine ⟨m,hn.sameBut sb na,λh' hh=>?_⟩;refine ⟨_,H',?_,q⟩;exact I2.turned (it:=C) (t':=s2.toks) (λb o hb e=>(hh.2 b hb).aA e) fC.1 fC.2.1 fC.2.2.2.1 fC.2.2.2.2.1 fC.2.2.2.2.2
noncomputable def Its(x:Str):It:=⟨λi _=>i<x.cps.size,λi H v H'=>H'=H/\∃ c,x.cps[i]?=some c/\v=.str ⟨#[c]⟩,λi _=>x.cps.size<=i⟩
variable{P:gk}{w:fK}{K:bV}
theorem al7(it:au)(x:Str)(t:Tok):Turn P w K tg (Its x) [it] it (λi h=>h.IsStrIter it "str_ascii_iterator" x t i) where
 mem:=by simp
 obj:=λi h st b hb=>by
   have e:b=it:=by simpa using hb
   subst e;obtain ⟨o,e,c,d⟩:=st;exact ⟨o,e,λv z=>by rw [d] at z; cases z⟩
 keep:=λi h h' st k=>let ⟨o,e,r⟩:=st; ⟨o,k it (by simp) o e,r⟩
 item:=by
   intro X hP hw hK hc i ao s aj H E I hf st hg;subst hP hw hK;have hg':i<x.cps.size:=hg;obtain ⟨f0,f1,f2,f3,f4,f5⟩:=hf it (by simp);refine aak st (c:=x.cps[i]) (by simp [hg']) λh' st' sb=>?_
   have I1:Inv X ao aj H { s with heap:=h',toks:=s.toks+1 }:=I.turned (λb o hb e=>(sb.2 b hb).aA e) f0 f1 f3 f4 f5;obtain ⟨o,e,c,d⟩:=id st';exact ⟨_,rfl,Ad (s:={ s with heap:=h',toks:=s.toks+1 }) e c d (by decide) ⟨.str ⟨#[x.cps[i]]⟩,H,I1,⟨_,rfl⟩,⟨rfl,_,by simp [hg'],rfl⟩,st',λb hb=>(hf b hb).1⟩⟩
 done:=by
   intro X hP hw hK hc i ao s aj H E I hf st hg;subst hP hw hK;have hg':x.cps.size<=i:=hg;obtain ⟨f0,f1,f2,f3,f4,f5⟩:=hf it (by simp);exact wpAny_pyNext_ascii_end (I.ok.hd hc) st (by simp [hg']) λh' eb=>⟨rfl,I.turned (t':=s.toks) (λb o hb e=>eb b o hb e) f0 f1 f3 f4 f5⟩
 self:=λ_ _ _ _ _ st h=>YW st h
theorem ajg(it:au)(x:Str)(t:Tok):Turn P w K tg (Its x) [it] it (λi h=>h.IsStrIter it "str_iterator" x t i) where
 mem:=by simp
 obj:=λi h st b hb=>by
   have e:b=it:=by simpa using hb
   subst e;obtain ⟨o,e,c,d⟩:=st;exact ⟨o,e,λv z=>by rw [d] at z; cases z⟩
 keep:=λi h h' st k=>let ⟨o,e,r⟩:=st; ⟨o,k it (by simp) o e,r⟩
 item:=by
   intro X hP hw hK hc i ao s aj H E I hf st hg;subst hP hw hK;have hg':i<x.cps.size:=hg;obtain ⟨f0,f1,f2,f3,f4,f5⟩:=hf it (by simp);refine abQ st (c:=x.cps[i]) (by simp [hg']) λh' st' sb=>?_
   have I1:Inv X ao aj H { s with heap:=h',toks:=s.toks+1 }:=I.turned (λb o hb e=>(sb.2 b hb).aA e) f0 f1 f3 f4 f5;obtain ⟨o,e,c,d⟩:=id st';exact ⟨_,rfl,Ad (s:={ s with heap:=h',toks:=s.toks+1 }) e c d (by decide) ⟨.str ⟨#[x.cps[i]]⟩,H,I1,⟨_,rfl⟩,⟨rfl,_,by simp [hg'],rfl⟩,st',λb hb=>(hf b hb).1⟩⟩
 done:=by
   intro X hP hw hK hc i ao s aj H E I hf st hg;subst hP hw hK;have hg':x.cps.size<=i:=hg;obtain ⟨f0,f1,f2,f3,f4,f5⟩:=hf it (by simp);exact wpAny_pyNext_wide_end (I.ok.hd hc) st (by simp [hg']) λh' eb=>⟨rfl,I.turned (t':=s.toks) (λb o hb e=>eb b o hb e) f0 f1 f3 f4 f5⟩
 self:=λ_ _ _ _ _ st h=>adD st h
noncomputable def ahJ(tl:TE):TI:=fun aj H R=>tl aj H λx H1=>∃ z,x=.str z/\R (Its z) H1
theorem aga{l:Expr}{tl:TE}(hl:PE X l tl):PI X tg l (ahJ tl):=by intro ao s aj H R I h;refine bH (hl ao s aj H _ I h) λv s1 ⟨x,H1,I1,r1,q1⟩=>?_;obtain ⟨z,e,q⟩:=q1;subst e;obtain ⟨t,rfl⟩:=r1;have fp:∀ b∈[s1.heap.objs.size],jd X ao H1 b:=λb hb=>(by have e:b=s1.heap.objs.size:=(by simpa using hb);subst e;exact I1.ug (bG _) (I1.hok.fresh (bG _)));cases ha:z.cps.all (·<128);exact adh ha ⟨s1.heap.objs.size,[s1.heap.objs.size],_,_,H1,rfl,I1.kept (t':=s1.toks) λb o e=>cR _ e,ajg _ z t,⟨_,gq _ rfl,rfl,rfl⟩,fp,q⟩;exact abZ ha ⟨s1.heap.objs.size,[s1.heap.objs.size],_,_,H1,rfl,I1.kept (t':=s1.toks) λb o e=>cR _ e,al7 _ z t,⟨_,gq _ rfl,rfl,rfl⟩,fp,q⟩
theorem ahP:cU X (gJ .LtE) (λx y H Q=>∃ i j,x=.str i/\y=.str j/\Q (.bl (!decide (j.cps.toList<i.cps.toList))) H):=by intro ao s aj H x y v u Q I rx ry h;obtain ⟨i,j,rfl,rfl,q⟩:=h;obtain ⟨t,rfl⟩:=rx;obtain ⟨t',rfl⟩:=ry;exact PySem.P.le_str ⟨.bl _,H,I,rfl,q⟩
theorem acH{v:aB}{o:Option Int}(p:wU v o):∃ l:Option (Int × Tok),v=partValue l/\l.map (·.1)=o:=by cases p with| none=>exact ⟨none,rfl,rfl⟩| int i t=>exact ⟨some (i,t),rfl,rfl⟩
theorem amG:SlR X (λx lo hi H Q=>∃ z,x=.str z/\z.length<=aO/\Q (.str (lX z lo hi)) H):=by intro ao s aj H x v vl vu lo hi sl Q I rx hs pl pu h;obtain ⟨z,rfl,hz,q⟩:=h;obtain ⟨t,rfl⟩:=rx;obtain ⟨l,e1,f1⟩:=acH pl;obtain ⟨u,e2,f2⟩:=acH pu;subst e1 e2 f1 f2;refine ⟨"str",_,F.slot_str_getitem.lookup,Wk _ _ _,wpAny_getItem_str_slice (l:=l) (u:=u) (st:=none) hs rfl ?_⟩;exact post_val_or_str ⟨jF (Txt.slice_le z _ _) hz,λt' k=>⟨.str (lX z _ _),H,I.tok k,⟨t',rfl⟩,q⟩⟩
theorem Ri:∀{ys:List Str}{us:List aB},cD (ys.map V.str) us->wF us ys:=by intro ys;induction ys with| nil=>intro us r; rw [yR] at r; cases r; exact .nil| cons y ys ih =>intro us r;rw [fM] at r;cases r with| cons r1 r2 =>obtain ⟨t,e⟩:=r1;subst e;exact .cons y t (ih r2)
theorem ai1:MtR X "str.upper" (λx xs H Q=>∃ z,x=.str z/\xs=[]/\z.length<=5592405/\Q (.str (Mz z)) H):=by intro ao s aj H x xs v us Q I rx rs h;obtain ⟨z,rfl,rfl,hz,q⟩:=h;obtain ⟨t,rfl⟩:=rx;cases rs;exact SCL.upper hz λ_=>⟨.str _,H,I.tok _,⟨_,rfl⟩,q⟩
theorem Iv:∀{bs:List Bool}{us:List aB},cD (bs.map V.bl) us->LSm.BoolsAre us bs:=by intro bs;induction bs with| nil=>intro us r; rw [yR] at r; cases r; exact .nil| cons b bs ih =>intro us r;rw [fM] at r;cases r with| cons r1 r2 =>have e:_=nC b:=r1;subst e;exact .cons b (ih r2)
theorem pA(hc:X.calm=true):jH X (.builtin "all") (λxs H Q=>∃(p:au)(bs:List Bool),xs=[.ref p]/\aV X.K H p (bs.map V.bl)/\Q (.bl (bs.all id)) H):=by intro ao s aj H xs us Q I r h;obtain ⟨p,bs,rfl,hq,q⟩:=h;obtain ⟨u,rfl,ru⟩:=lZ r;cases ru;obtain ⟨its,rv,pl,_⟩:=I.list hq;have hb:=Iv rv;have hl:=pl.isList;have hlt:p<s.heap.objs.size:=(by obtain ⟨_,e,_⟩:=hl; exact bQ e);refine call_all_walk (Av hl ?_);refine ⟨s.heap.objs.size,[s.heap.objs.size,p],[s.heap.objs.size],its.toArray.size,_,_,λi=>(bs[i]?).getD true,rfl,Mf (A:=X.A.in1) (I.ok.hd hc) _ p (fB hlt) its.toArray,⟨⟨_,gq _ rfl,rfl,rfl⟩,hl.push _⟩,λi v s' Q' E' hP hQ=>?_,λh' tk hk=>?_⟩;obtain ⟨b,e,rfl⟩:=hb.get i v (by simpa using hP);simp only [e,zf] at hQ;exact qT hQ;have e:((iQ its.toArray.size).all λi=>(bs[i]?).getD true)=bs.all id:=(by rw [fV,hb.length]; exact LSm.range_all bs);rw [e];exact ⟨.bl _,H,I.kept (Gn hk),rfl,q⟩
theorem kO:jH X (.builtin "isinstance") (λxs H Q=>qN λx n t b=>rG (xs=[x,.ty n]) (jX X.K H x t) (ju X.K t (.type n)=some b) (Q (.bl b) H)):=by intro ao s aj H xs us Q I r h;obtain ⟨x,n,t,b,rfl,ty,e,q⟩:=h;obtain ⟨u,w',rfl,rx,ry⟩:=vU r;have ry':w'=vN n:=ry;subst ry';exact apC I rx ty e λtk=>⟨.bl b,H,I.tok tk,rfl,q⟩
mutual
inductive Dp(K:bV)(H:Hp):V->rZ->Prop
 | non:Dp K H .non .none
 | bl (b:Bool):Dp K H (.bl b) (.bool b)
 | int (i:Int):Dp K H (.int i) (.int i)
 | str (x:Str):Dp K H (.str x) (.str x)
 | lst {a:au} {xs:List V} {ds:List rZ}:aV K H a xs->wJ K H xs ds->Dp K H (.ref a) (.list ds)
 | tup {a:au} {xs:List V} {ds:List rZ}:aH K H a xs->wJ K H xs ds->Dp K H (.ref a) (.tuple ds)
inductive wJ(K:bV)(H:Hp):List V->List rZ->Prop
 | nil:wJ K H [] []
 | cons {x:V} {xs:List V} {d:rZ} {ds:List rZ}:Dp K H x d->wJ K H xs ds->wJ K H (x :: xs) (d :: ds)
end
mutual
theorem Dp.reads{ao:List (au × Obj)}{aj:St}{H:Hp}{s:aK}(I:Inv X ao aj H s):∀{x:V}{d:rZ}{u:aB},Dp X.K H x d->cO x u->∃ as,Reads s.heap u d as
 | _,_,_,.non,r=>by cases (show _=dM from r); exact ⟨_,.none⟩
 | _,_,_,.bl b,r=>by cases (show _=nC b from r); exact ⟨_,.bool b⟩
 | _,_,_,.int i,r=>by obtain ⟨t,rfl⟩:=(show ∃ t,_=Ef i t from r); exact ⟨_,.int i t⟩
 | _,_,_,.str x,r=>by obtain ⟨t,rfl⟩:=(show ∃ t,_=vf x t from r); exact ⟨_,.str x t⟩
 | _,_,_,.lst (a:=a) hq h,r=>by cases (show _=cL a from r);obtain ⟨its,rv,pl,_⟩:=I.list hq;obtain ⟨as,q⟩:=wJ.reads I h rv;obtain ⟨o,ho,hc,n,hd⟩:=pl.isList;exact ⟨_,.list ho hc hd (by simpa using q)⟩
 | _,_,_,.tup (a:=a) hq h,r=>by cases (show _=cL a from r);obtain ⟨its,rv,pl,_⟩:=I.tuple hq;obtain ⟨as,q⟩:=wJ.reads I h rv;obtain ⟨o,ho,hc,n,hd⟩:=pl;exact ⟨_,.tuple ho hc hd (by simpa using q)⟩
theorem wJ.reads{ao:List (au × Obj)}{aj:St}{H:Hp}{s:aK}(I:Inv X ao aj H s):∀{xs:List V}{ds:List rZ}{us:List aB},wJ X.K H xs ds->cD xs us->∃ as,ReadsAll s.heap us ds as
 | _,_,_,.nil,r=>by cases r; exact ⟨_,.nil⟩
 | _,_,_,.cons h1 h2,r=>by cases r with| cons r1 r2 =>obtain ⟨as,q1⟩:=Dp.reads I h1 r1;obtain ⟨bs,q2⟩:=wJ.reads I h2 r2;exact ⟨_,.cons q1 q2⟩
end
noncomputable def apk(K:bV):R2:=λx y H Q=>rz λd e=>jJ (Dp K H x d) (Dp K H y e) (tZ d=true) (tZ e=true) (Q (.bl (yt d e)) H)
noncomputable def aaC(K:bV):R2:=λx y H Q=>rz λd e=>jJ (Dp K H x d) (Dp K H y e) (tZ d=true) (tZ e=true) (Q (.bl (!PyData.eqv d e)) H)
theorem acw(hu:X.A.units+64<cLine):cU X (gJ .Eq) (apk X.K):=by intro ao s aj H x y v u Q I rx ry h;obtain ⟨d,e,hd,he,sd,se,q⟩:=h;obtain ⟨as,ra⟩:=hd.reads I rx;obtain ⟨bs,rb⟩:=he.reads I ry;exact eq_dataH ra rb sd se hu ⟨.bl _,H,I,rfl,q⟩
theorem Ym(hu:X.A.units+64<cLine):cU X (gJ .NotEq) (aaC X.K):=by intro ao s aj H x y v u Q I rx ry h;obtain ⟨d,e,hd,he,sd,se,q⟩:=h;obtain ⟨as,ra⟩:=hd.reads I rx;obtain ⟨bs,rb⟩:=he.reads I ry;exact ne_dataH ra rb sd se hu ⟨.bl _,H,I,rfl,q⟩
end L2
namespace L2
open PySem PySem.Spec PyProof.Rows
section
variable{X:Cx}{a b c:Expr}{ta tb tc:TE}{pos:Pos}
noncomputable def tV(i:Nat):TE:=fun aj H Q=>match aj[i]? with
 | some (some v)=>Q v H
 | _=>False
theorem pV(i:Nat){x:Str}(hN:X.N[i]?=some x:=by rfl)(hv:Vis X.env.scope x:=by first | exact Or.inl rfl | exact Or.inr (Or.inl rfl) | exact Or.inr (Or.inr rfl))(hd:(x == ("__debug__" : Str))=false:=by decide)(hcd:(x == ("__classdict__" : Str))=false:=by decide):PE X (.Name x pos) (tV i):=by
 intro ao s aj H Q I h;refine akM hN hv hd hcd ao s aj H Q I ?_;unfold tV at h;cases e:aj[i]? with
 | none=>rw [e] at h; exact h.elim
 | some o =>
   rw [e] at h;cases o with
   | none=>exact h.elim
   | some v=>exact ⟨v,e,h⟩
noncomputable def fI(g:Int->Int->V):R2:=λx y H Q=>match x,y with
 | .int i,.int j=>Q (g i j) H
 | _,_=>False
noncomputable def tU(C:Int->Int->Prop)(g:Int->Int->V):R2:=λx y H Q=>match x,y with
 | .int i,.int j=>C i j/\Q (g i j) H
 | _,_=>False
variable{f:aB->aB->Sem aB}{g:Int->Int->V}
theorem cU.fI(h:cU X f (vD g)):cU X f (fI g):=by intro ao s aj H x y v u Q I rx ry q;refine h ao s aj H x y v u Q I rx ry ?_;cases x <;> cases y <;> first | exact ⟨_,_,rfl,rfl,q⟩ | exact (show False from q).elim
theorem cU.tU{C:Int->Int->Prop}(h:cU X f (rI C g)):cU X f (tU C g):=by intro ao s aj H x y v u Q I rx ry q;refine h ao s aj H x y v u Q I rx ry ?_;cases x <;> cases y <;> first | exact ⟨_,_,rfl,rfl,q.1,q.2⟩ | exact (show False from q).elim
theorem gj:cU X (lQ .Add) (fI λi j=>.int (i+j)):=aiY.fI
theorem oG:cU X (lQ .Sub) (fI λi j=>.int (i-j)):=ajR.fI
theorem Jd:cU X (lQ .Mult) (tU Lr λi j=>.int (i * j)):=ahi.tU
theorem oMod:cU X (lQ .Mod) (tU (λ_ j=>0<j) λi j=>.int (i % j)):=ahU.tU
noncomputable def abh(_ j:Int):Prop:=0<j/\j<4611686018427387904
theorem ain:cU X (lQ .FloorDiv) (rI abh λi j=>.int (i / j)):=opI λi j _ _ _ _ _ hc q=>by
 have h1:(0:Int)<j:=hc.1;have h2:j<4611686018427387904:=hc.2;refine floordiv_int (by omega) (by rw [aeM i (by omega)]; exact q) (.inl (PyProof.noPylong_of_log2 ?_));have h3:j.natAbs≠0:=by omega
 have h4:j.natAbs<2 ^ 62:=by omega
 have:=(Nat.log2_lt h3).mpr h4;omega
theorem oDiv:cU X (lQ .FloorDiv) (tU abh λi j=>.int (i / j)):=ain.tU
theorem Ve:cU X (lQ .Pow) (tU FZ λi j=>.int (i ^ j.toNat)):=anW.tU
theorem oLt:cU X (gJ .Lt) (fI λi j=>.bl (decide (i<j))):=aeL.fI
theorem oLe:cU X (gJ .LtE) (fI λi j=>.bl (decide (i<=j))):=amC.fI
theorem wu:cU X (gJ .Gt) (fI λi j=>.bl (decide (j<i))):=aoR.fI
theorem oGe:cU X (gJ .GtE) (fI λi j=>.bl (decide (j<=i))):=ajW.fI
theorem aob:cU X (gJ .Eq) (vD λi j=>.bl (decide (i=j))):=Fj λ_ _ _ _ _ _ _ q=>eq_int (by rw [aei]; exact q)
theorem aoj:cU X (gJ .NotEq) (vD λi j=>.bl (!decide (i=j))):=Fj λ_ _ _ _ _ _ _ q=>ne_int (by rw [bne,aei]; exact q)
theorem oEq:cU X (gJ .Eq) (fI λi j=>.bl (decide (i=j))):=aob.fI
theorem oNe:cU X (gJ .NotEq) (fI λi j=>.bl (!decide (i=j))):=aoj.fI
theorem K4:UnR X (unaryOp .USub) (λx H Q=>match x with | .int i=>Q (.int (-i)) H | _=>False):=by intro ao s aj H x v Q I rx h;cases x with| int i=>obtain ⟨t,rfl⟩:=rx; exact neg_int ⟨.int (-i),H,I.tok _,⟨_,rfl⟩,h⟩| _=>exact (show False from h).elim
noncomputable def fS(g:Str->Str->V):R2:=λx y H Q=>match x,y with
 | .str i,.str j=>Q (g i j) H
 | _,_=>False
theorem Zd:cU X (gJ .LtE) (fS λi j=>.bl (!decide (j.cps.toList<i.cps.toList))):=by intro ao s aj H x y v u Q I rx ry q;refine ahP ao s aj H x y v u Q I rx ry ?_;cases x <;> cases y <;> first | exact ⟨_,_,rfl,rfl,q⟩ | exact (show False from q).elim
noncomputable def abv:R2:=λx y H Q=>match x,y with
 | .str i,.str j=>i.length+j.length<=aO/\Q (.str (i++j)) H
 | _,_=>False
theorem Ab:cU X (lQ .Add) abv:=by intro ao s aj H x y v u Q I rx ry q;refine alY ao s aj H x y v u Q I rx ry ?_;cases x <;> cases y <;> first | exact ⟨_,_,rfl,rfl,q.1,q.2⟩ | exact (show False from q).elim
noncomputable def bF(Q:Bool->Hp->Prop):VK:=λx H=>match x with
 | .bl k=>Q k H
 | _=>False
noncomputable def tF(t:TE):TT:=fun aj H Q=>t aj H (bF Q)
theorem tFq{Q:Bool->Hp->Prop}{x:V}{H:Hp}(h:bF Q x H):∃ k,x=.bl k/\Q k H:=by cases x with| bl k=>exact ⟨k,rfl,h⟩| _=>exact (show False from h).elim
variable{op:FW}{r:R2}
theorem gM(ho:cU X (gJ op) r)(ha:PE X a ta)(hb:PE X b tb)(hm:behindInMarks op b=false):PT X (.Compare a [op] [b] pos) (tF (rQ r ta tb)):=by intro ao s aj H Q I h;refine abb (bH (ha ao s aj H _ I h) λv s1 ⟨x,H1,I1,r1,q1⟩=>bH (hb ao s1 aj H1 _ I1 q1) λu s2 ⟨y,H2,I2,r2,q2⟩ => bH (ho ao s2 aj H2 x y v u _ I2 r1 r2 q2) λc s3 ⟨z,H3,I3,r3,q3⟩=>?_) hm;obtain ⟨k,e,q⟩:=tFq q3;subst e;cases r3;exact qT ⟨H3,I3,q⟩
theorem dD{e:Expr}{t:TE}(h:PE X e t)(he:∀ whole,isTrue e X.env whole=(do let v <- whole; standAt e.pos; holding [v] (truthy v)):=by intro _; rfl):PT X e (tF t):=by
 intro ao s aj H Q I hw;refine isTrue_plain (bH (h ao s aj H _ I hw) λv s1 ⟨x,H1,I1,r1,q1⟩=>?_) (he _);obtain ⟨d,rfl,q⟩:=tFq q1;cases r1;exact qT ⟨H1,I1,q⟩
noncomputable def abO(r r':R2)(ta tb tc:TE):TE:=fun aj H Q=>ta aj H λx H1=>tb aj H1 λy H2=>r x y H2 (bF λk H3=>if k=true then tc aj H3 λw' H4=>r' y w' H4 Q else Q (.bl false) H3)
variable{op':FW}{r':R2}
theorem akq(ho:cU X (gJ op) r)(ho':cU X (gJ op') r')(ha:PE X a ta)(hb:PE X b tb)(hc:PE X c tc)(hm:lastMarks [op,op'] [b,c]=false:=by with_unfolding_all rfl):PE X (.Compare a [op,op'] [b,c] pos) (abO r r' ta tb tc):=by intro ao s aj H Q I h;refine Compare_chain (bH (ha ao s aj H _ I h) λv s1 ⟨x,H1,I1,r1,q1⟩=>chain_link (bH (hb ao s1 aj H1 _ I1 q1) λu s2 ⟨y,H2,I2,r2,q2⟩ => bH (ho ao s2 aj H2 x y v u _ I2 r1 r2 q2) λd s3 ⟨z,H3,I3,r3,q3⟩=>?_)) hm;obtain ⟨k,e,q3⟩:=tFq q3;subst e;cases r3;refine qT ?_;cases k with| false=>exact ite_ff ⟨.bl false,H3,I3,rfl,q3⟩| true=>exact ite_tt (chain_last (bH (hc ao s3 aj H3 _ I3 q3) λw' s4 ⟨z',H4,I4,r4,q4⟩=>ho' ao s4 aj H4 y z' u w' Q I4 r2 r4 q4))
theorem J3(ho:cU X (gJ op) r)(ho':cU X (gJ op') r')(ha:PE X a ta)(hb:PE X b tb)(hc:PE X c tc)(hm:lastMarks [op,op'] [b,c]=false:=by with_unfolding_all rfl):PT X (.Compare a [op,op'] [b,c] pos) (tF (abO r r' ta tb tc)):=by intro ao s aj H Q I h;refine isTrue_chain (bH (ha ao s aj H _ I h) λv s1 ⟨x,H1,I1,r1,q1⟩=>test_link (bH (hb ao s1 aj H1 _ I1 q1) λu s2 ⟨y,H2,I2,r2,q2⟩ => bH (ho ao s2 aj H2 x y v u _ I2 r1 r2 q2) λd s3 ⟨z,H3,I3,r3,q3⟩=>?_)) hm;obtain ⟨k,e,q3⟩:=tFq q3;subst e;cases r3;refine qT ?_;cases k with| false=>exact ite_ff ⟨H3,I3,q3⟩| true =>refine ite_tt (test_last (bH (hc ao s3 aj H3 _ I3 q3) λw' s4 ⟨z',H4,I4,r4,q4⟩=>bH (ho' ao s4 aj H4 y z' u w' _ I4 r2 r4 q4) λd' s5 ⟨z2,H5,I5,r5,q5⟩=>?_));obtain ⟨k2,e2,q5⟩:=tFq q5;subst e2;cases r5;exact qT ⟨H5,I5,q5⟩
variable{rest:List Expr}
noncomputable def ae0(ta tb:TE):TE:=fun aj H Q=>ta aj H (bF λc H1=>if c=true then tb aj H1 Q else Q (.bl false) H1)
noncomputable def afY(ta tb:TE):TE:=fun aj H Q=>ta aj H (bF λc H1=>if c=true then Q (.bl true) H1 else tb aj H1 Q)
noncomputable def alX(ta:TE):TE:=fun aj H Q=>ta aj H (bF λc H1=>Q (.bl (!c)) H1)
theorem mZ(ha:PE X a ta)(hb:PE X (.BoolOp .And (b :: rest) pos) tb):PE X (.BoolOp .And (a :: b :: rest) pos) (ae0 ta tb):=by intro ao s aj H Q I h;refine BoolOp_and (bH (ha ao s aj H _ I h) λv s1 ⟨x,H1,I1,r1,q1⟩=>?_);obtain ⟨c,rfl,q1⟩:=tFq q1;cases r1;refine qT ?_;cases c with| true=>exact hb ao s1 aj H1 Q I1 q1| false=>exact ⟨.bl false,H1,I1,rfl,q1⟩
theorem Vv(ha:PE X a ta)(hb:PE X (.BoolOp .Or (b :: rest) pos) tb):PE X (.BoolOp .Or (a :: b :: rest) pos) (afY ta tb):=by intro ao s aj H Q I h;refine BoolOp_or (bH (ha ao s aj H _ I h) λv s1 ⟨x,H1,I1,r1,q1⟩=>?_);obtain ⟨c,rfl,q1⟩:=tFq q1;cases r1;refine qT ?_;cases c with| false=>exact hb ao s1 aj H1 Q I1 q1| true=>exact ⟨.bl true,H1,I1,rfl,q1⟩
theorem VG(ha:PE X a ta):PE X (.UnaryOp .Not a pos) (alX ta):=by intro ao s aj H Q I h;refine UnaryOp_ (bH (ha ao s aj H _ I h) λv s1 ⟨x,H1,I1,r1,q1⟩=>?_);obtain ⟨c,rfl,q1⟩:=tFq q1;cases r1;exact not_of (qT ⟨.bl (!c),H1,I1,rfl,q1⟩)
end
noncomputable def Nx(n i:Nat)(Pv:Nat->Hp->Prop)(H:Hp):Prop:=∃ m',m'<n-i/\(m'=n-(i+1)/\i+1<=n/\Pv (i+1) H)
variable{n i:Nat}{H:Hp}
theorem nx{Pv:Nat->Hp->Prop}(hi:i<n)(h:Pv (i+1) H):Nx n i Pv H:=⟨n-(i+1),by omega,rfl,hi,h⟩
variable{J:It}{g:BI->TG}{tt:BI->TT}{te:BI->TE}{jZ:St}{D:au}{End:Hp->Prop}{H1:Hp}
theorem Jp(n:Nat)(Pv:Nat->Hp->Prop)(h0:Pv 0 (upd H1 D (.lst [])))(stop:∀ H,Pv n H->J.stop n H/\End H)(turn:∀ i H,i<n->Pv i H->J.go i H/\∀ x H',J.sO i H x H'->∀ b,g b x jZ H' fun dJ H2=>tt b dJ H2 λc H3=>if c=true then qd D (te b) dJ H3 (Nx n i Pv) else Nx n i Pv H3): ∃ W:Nat->Nat->Hp->Prop,(∃ m,W 0 m (upd H1 D (.lst [])))/\∀ b,rW J (g b) (tt b) (qd D (te b)) jZ End W:=by refine ⟨λi m H=>m=n-i/\i<=n/\Pv i H,⟨n,rfl,dR _,h0⟩,λb i m H ⟨hm,hi,p⟩=>?_⟩;subst hm;by_cases hlt:i<n;exact .inr ⟨(turn i H hlt p).1,λx H' y=>(turn i H hlt p).2 x H' y b⟩;have e:i=n:=(by omega);subst e;exact .inl (stop H p)
variable{z:Str}
theorem Yy(Pv:Nat->Hp->Prop)(h0:Pv 0 (upd H1 D (.lst [])))(stop:∀ H,Pv z.cps.size H->End H)(turn:∀ i c H,z.cps[i]?=some c->i<z.cps.size->Pv i H->∀ b,g b (.str ⟨#[c]⟩) jZ H fun dJ H2=>tt b dJ H2 λc H3=>if c=true then qd D (te b) dJ H3 (Nx z.cps.size i Pv) else Nx z.cps.size i Pv H3):
   ∃ W:Nat->Nat->Hp->Prop,(∃ m,W 0 m (upd H1 D (.lst [])))/\∀ b,rW (Its z) (g b) (tt b) (qd D (te b)) jZ End W :=
 Jp z.cps.size Pv h0 (λH p=>⟨bG _,stop H p⟩) λi H hi p=>⟨hi,λx H' ⟨e,c,hc,hx⟩ b=>by subst e hx; exact turn i c _ hc hi p b⟩
variable{K:bV}{a:au}{xs:List V}
theorem O6(Pv:Nat->Hp->Prop)(h0:Pv 0 (upd H1 D (.lst [])))(hl:∀ i H,i<=xs.length->Pv i H->aV K H a xs)(stop:∀ H,Pv xs.length H->End H)(turn:∀ i x H,xs[i]?=some x->i<xs.length->Pv i H->∀ b,g b x jZ H fun dJ H2=>tt b dJ H2 λc H3=>if c=true then qd D (te b) dJ H3 (Nx xs.length i Pv) else Nx xs.length i Pv H3):
   ∃ W:Nat->Nat->Hp->Prop,(∃ m,W 0 m (upd H1 D (.lst [])))/\∀ b,rW (Ac K a) (g b) (tt b) (qd D (te b)) jZ End W :=
 Jp xs.length Pv h0 (λH p=>⟨⟨xs,hl _ H (bG _) p,bG _⟩,stop H p⟩) λi H hi p =>
   ⟨⟨xs,xs[i],hl i H (sG hi) p,by simp [hi]⟩,λx H' ⟨e,y⟩ b=>by subst e; exact turn i x _ (y xs (hl i _ (sG hi) p)) hi p b⟩
theorem WL(Pv:Nat->Hp->Prop)(h0:Pv 0 (upd H1 D (.lst [])))(hl:∀ i H,i<=xs.length->Pv i H->aH K H a xs)(stop:∀ H,Pv xs.length H->End H)(turn:∀ i x H,xs[i]?=some x->i<xs.length->Pv i H->∀ b,g b x jZ H fun dJ H2=>tt b dJ H2 λc H3=>if c=true then qd D (te b) dJ H3 (Nx xs.length i Pv) else Nx xs.length i Pv H3):
   ∃ W:Nat->Nat->Hp->Prop,(∃ m,W 0 m (upd H1 D (.lst [])))/\∀ b,rW (wO K a) (g b) (tt b) (qd D (te b)) jZ End W :=
 Jp xs.length Pv h0 (λH p=>⟨⟨xs,hl _ H (bG _) p,bG _⟩,stop H p⟩) λi H hi p =>
   ⟨⟨xs,xs[i],hl i H (sG hi) p,by simp [hi]⟩,λx H' ⟨e,y⟩ b=>by subst e; exact turn i x _ (y xs (hl i _ (sG hi) p)) hi p b⟩
theorem JB{lo:Int}(Pv:Nat->Hp->Prop)(h0:Pv 0 (upd H1 D (.lst [])))(stop:∀ H,Pv n H->End H)(turn:∀ i H,i<n->Pv i H->∀ b,g b (.int (lo+i)) jZ H fun dJ H2=>tt b dJ H2 λc H3=>if c=true then qd D (te b) dJ H3 (Nx n i Pv) else Nx n i Pv H3):
   ∃ W:Nat->Nat->Hp->Prop,(∃ m,W 0 m (upd H1 D (.lst [])))/\∀ b,rW (Itr lo n) (g b) (tt b) (qd D (te b)) jZ End W :=
 Jp n Pv h0 (λH p=>⟨bG _,stop H p⟩) λi H hi p=>⟨hi,λx H' ⟨e,hx⟩ b=>by subst e hx; exact turn i _ hi p b⟩
structure eG(H1 H:Hp)(D:au)(ys:List V):Prop where
 at':H D=some (.lst ys)
 same:aF H1 H
theorem eG.start(h:H1 D=none):eG H1 (upd H1 D (.lst [])) D []:=⟨aX,λb o e=>by rw [aW (dN e h)]; exact e⟩
theorem eG.put{ys:List V}(h:H1 D=none)(G:eG H1 H D ys)(y:V):eG H1 (upd H D (.lst (ys++[y]))) D (ys++[y]):=⟨aX,λb o e=>by rw [aW (dN e h)]; exact G.same b o e⟩
variable{p:au}{o:HO}
theorem aF.upd(s:aF H H1)(h:H1 p=none):aF H (upd H1 p o):=λb u e=>by rw [aW (dN (s b u e) h)]; exact s b u e
variable{H':Hp}
theorem aF.tup(e:aF H H')(h:aH K H a xs):aH K H' a xs:=by rcases h with (h | ⟨o,h⟩) | h;exact .inl (.inl (e _ _ h));exact .inl (.inr ⟨o,e _ _ h⟩);exact .inr h
noncomputable def uW(T n:String):Bool:=T == n || (T == "bool" && n == "int")
theorem vm{x:V}{T:String}(h:jX K H x (.type T)):ju K (.type T) (.type "int")=some (uW T "int")/\ju K (.type T) (.type "bool")=some (uW T "bool")/\ju K (.type T) (.type "str")=some (uW T "str")/\ju K (.type T) (.type "tuple")=some (uW T "tuple"):=by cases h <;> exact ⟨rfl,rfl,rfl,rfl⟩
variable{X:Cx}{a b:Expr}{tA zU:TT}{rest:List Expr}{pos:Pos}
theorem jP(ha:PT X a tA)(hb:PW X (.BoolOp .Or (b :: rest) pos) zU):PT X (.BoolOp .Or (a :: b :: rest) pos) (tOr tA zU):=(pw_or ha hb).pt
theorem Dm(ha:PT X a tA)(hb:PW X (.BoolOp .And (b :: rest) pos) zU):PT X (.BoolOp .And (a :: b :: rest) pos) (ac6 tA zU):=(pw_and ha hb).pt
theorem lt1{a b:Nat}:([a]<[b])↔a<b:=by simp [List.cons_lt_cons_iff]
variable{bM jY:Type}
theorem ZL{f:bM->jY}{l:List bM}{c:bM}(h:l[i]?=some c):(l.take (i+1)).map f=(l.take i).map f++[f c]:=by rw [fZ,h,jq]; rfl
theorem aew{f:bM->jY}{l:List bM}(h:l.length<=n):(l.take n).map f=l.map f:=by rw [lF h]
theorem RJ{f:bM->jY}{l:List bM}{m:Nat}(h:i<m)(hm:m<=aO):((l.take i).map f).length<aO:=by rw [aL,gR]; omega
variable{c:Nat}
theorem abr(h:z.cps[i]?=some c):z.cps.toList[i]?=some c:=by simpa using h
noncomputable def dF(p:au)(H H':Hp):Prop:=∀ b o,b≠p->H b=some o->H' b=some o
theorem dF.of(s:aF H H'):dF p H H':=λb o _ e=>s b o e
theorem dF.aA{H2:Hp}(a:dF p H H1)(b:dF p H1 H2):dF p H H2:=λc o n e=>b c o n (a c o n e)
theorem dF.upd(a:dF p H H1):dF p H (upd H1 p o):=λc u n e=>by rw [aW n]; exact a c u n e
theorem dF.new{q:au}(a:dF p H H1)(h:H1 q=none):dF p H (L2.upd H1 q o):=λc u n e=>by rw [aW (dN (a c u n e) h)]; exact a c u n e
structure IxA(K:bV)(x y:V)(H:Hp)(Q:VK):Prop where
 h:aa5 K x y H Q
theorem mY:IxR X (IxA X.K):=λa b ao s aj H x y v u Q I rx ry h hs=>akC a b ao s aj H x y v u Q I rx ry h.h hs
variable{i:Int}{v:V}{Q:VK}
theorem qt(h:H p=some (.lst xs))(e:oV xs i=some v)(q:Q v H):IxA K (.ref p) (.int i) H Q:=⟨p,xs,i,v,rfl,rfl,aV.of h,e,q⟩
theorem amo(h:aV K H p xs)(e:oV xs i=some v)(q:Q v H):IxA K (.ref p) (.int i) H Q:=⟨p,xs,i,v,rfl,rfl,h,e,q⟩
structure IxT(K:bV)(x y:V)(H:Hp)(Q:VK):Prop where
 h:abP K x y H Q
theorem dY:IxR X (IxT X.K):=λa b ao s aj H x y v u Q I rx ry h hs=>amh a b ao s aj H x y v u Q I rx ry h.h hs
theorem dI(h:aH K H p xs)(e:oV xs i=some v)(q:Q v H):IxT K (.ref p) (.int i) H Q:=⟨p,xs,i,v,rfl,rfl,h,e,q⟩
structure IxS(x y:V)(H:Hp)(Q:VK):Prop where
 h:Yx x y H Q
theorem Px:IxR X IxS:=λa b ao s aj H x y v u Q I rx ry h hs=>aki a b ao s aj H x y v u Q I rx ry h.h hs
theorem Lq(hz:z.length<=aO)(e:oV z.cps.toList i=some c)(q:Q (.str ⟨#[c]⟩) H):IxS (.str z) (.int i) H Q:=⟨z,i,c,rfl,rfl,hz,e,q⟩
structure aaV(o i v:V)(H:Hp)(Q:Hp->Prop):Prop where
 h:aeR o i v H Q
theorem alF:UG X aaV:=λao s aj H o i v ov iv u Q I ro ri rv h=>set_list ao s aj H o i v ov iv u Q I ro ri rv h.h
theorem setAt{j:Nat}{Q:Hp->Prop}(h:H p=some (.lst xs))(e:zG xs.length i=some j)(q:Q (upd H p (.lst (xs.set j v)))):aaV (.ref p) (.int i) v H Q:=⟨p,xs,i,j,rfl,rfl,h,e,q⟩
noncomputable def JZ(z:Str)(lo hi:Option Int):Str:=⟨((z.cps.toList.drop (HT.cC z.length 0 lo)).take (HT.cC z.length z.length hi-HT.cC z.length 0 lo)).toArray⟩
theorem amR(lo hi:Option Int)(n:Nat):Yq lo hi 1 n=(iQ (HT.cC n n hi-HT.cC n 0 lo)).map (HT.cC n 0 lo+·):=by have a:∀(v:Option Int)(d:Nat),d<=n->(match v with | none=>(d:Int) | some i=>(let i:=if i<0 then i+(n:Int) else i; max 0 (min i (n:Int))))=((HT.cC n d v:Nat):Int):=λv d hd=>(by cases v with| none=>rfl| some i =>show max 0 (min (if i<0 then i+(n:Int) else i) (n:Int))=((if i<0 then (i+(n:Int)).toNat else min i.toNat n:Nat):Int);by_cases h:i<0;rw [bI h,bI h]; omega;rw [aZ h,aZ h]; omega);rw [<- sliceRange_one];unfold Yq;have h1:=a lo 0 (dR _);have h2:=a hi n (bG _);simp only [show (1:Int) > 0 by decide,if_true] at h1 h2 |-;rw [<- h1,<- h2];rfl
theorem V4(z:Str)(lo hi:Option Int):lX z lo hi=JZ z lo hi:=by unfold lX JZ;rw [amR,pick_run];split;rename_i h;have e:HT.cC z.length z.length hi-HT.cC z.length 0 lo=z.length:=(by simpa using h);have b:HT.cC z.length z.length hi<=z.length:=(by unfold HT.cC;cases hi with| none=>exact bG _| some v=>simp only; split <;> omega);by_cases h0:z.length=0;have e0:z.cps.toList=[]:=(by apply HF;simpa [Aj] using h0);(cases z with| mk cps =>have e1:cps=#[]:=(by simpa using e0);subst e1;simp);have e1:HT.cC z.length 0 lo=0:=(by omega);rw [e1,KR,show HT.cC z.length z.length hi=z.length by omega,Fz,lF (by simp [Aj])];rfl
theorem agT(z:Str)(k:Nat):lX z none (some (k:Int))=⟨(z.cps.toList.take k).toArray⟩:=by rw [V4];unfold JZ;rw [HT.Dh,HT.uf,Fz,KR];congr 2;rw [X3];simp [Aj];try omega
theorem aiX(z:Str)(i k:Nat):lX z (some (i:Int)) (some (k:Int))=⟨((z.cps.toList.take k).drop i).toArray⟩:=by rw [V4];unfold JZ;rw [HT.uf,HT.uf,Mx];have el:z.cps.toList.length=z.length:=(by simp [Aj]);congr 1;by_cases h:i<=z.length;rw [vI h];congr 1;rw [X3,jR,el];omega;rw [Gg (show z.cps.toList.length<=min i z.length by omega),Gg (show z.cps.toList.length<=i by omega)];simp
noncomputable def aad(t:TE):TO:=fun aj H Q=>t aj H λx H1=>match x with
 | .int i=>Q (some i) H1
 | _=>False
variable{e:Expr}{te:TE}
theorem iu(h:PE X e te):PO X (some e) (aad te):=by intro ao s aj H Q I hw;rw [evalPart_some];refine bH (h ao s aj H _ I hw) λu s1 ⟨x,H1,I1,r1,q1⟩=>?_;cases x with| int i=>obtain ⟨t,rfl⟩:=r1; exact ⟨some i,H1,I1,.int i t,q1⟩| _=>exact (show False from q1).elim
structure SlS(x:V)(lo hi:Option Int)(H:Hp)(Q:VK):Prop where
 h:∃ z,x=.str z/\z.length<=aO/\Q (.str (lX z lo hi)) H
theorem wY:SlR X SlS:=λao s aj H x v vl vu lo hi sl Q I rx hs pl pu h=>amG ao s aj H x v vl vu lo hi sl Q I rx hs pl pu h.h
theorem JF{lo hi:Option Int}(hz:z.length<=aO)(q:Q (.str (lX z lo hi)) H):SlS (.str z) lo hi H Q:=⟨z,rfl,hz,q⟩
theorem app_list(a b:Str):(a++b).cps.toList=a.cps.toList++b.cps.toList:=by show (a.cps++b.cps).toList=_;simp
theorem len_list(a:Str):a.cps.toList.length=a.length:=by simp [Aj]
noncomputable abbrev vB:=St->Hp->(St->Hp->Prop)->Prop
noncomputable def CT(J:It)(g:TG)(tt:TT)(act:vB)(End:St->Hp->Prop)(W:Nat->Nat->St->Hp->Prop):Prop :=
 ∀ i m aj H,W i m aj H->(J.stop i H/\End aj H)\/(J.go i H/\∀ x H',J.sO i H x H'->g x aj H' fun dJ H2=>tt dJ H2 λb H3 =>
   if b=true then act dJ H3 fun apF H4=>∃ m',m'<m/\W (i+1) m' apF H4 else ∃ m',m'<m/\W (i+1) m' dJ H3)
noncomputable def Dy(X:Cx)(tail:Sem Unit)(act:vB):Prop :=
 ∀(ao:List (au × Obj))(s:aK)(aj:St)(H:Hp)(R:St->Hp->Prop),Inv X ao aj H s->act aj H R ->
   aJ (aN X.prog X.w) X.A tail (λ_ s'=>∃ bA H',Inv X ao bA H' s'/\R bA H') (λ_ _=>False) s
noncomputable def Ay(p:Pos)(tg:Expr)(ifs:List Expr)(env:Env)(it:aB)(tail:Sem Unit)(c:Code):Sem Fin:=do
 standAt p
 match <- pyNext it with
 | none=>pure (.done .next)
 | some v =>
   letOwnedTupleGo tg it v
   assign tg env v
   let mut ok:=true
   for c in ifs do
     if ok then ok <- isTrue c env (eval c env)
   if ok then tail
   again c
variable{acc:aB}{p:Pos}{tg:Expr}{ifs:List Expr}{tail:Sem Unit}{fp:List au}{g:TG}{tt:TT}{act:vB}{ao:List (au × Obj)}{aj:St}{s:aK}
theorem aeb{depth:Nat}{it:au}{tn:Nat->aY->Prop}{End:St->Hp->Prop}{W:Nat->Nat->St->Hp->Prop}{m0:Nat}(hq:(Ni e depth (.ref it) acc X.env).quiet=true)(hden:∀(Q:Fin->aK->Prop)(E:aB->aK->Prop)(s:aK),aJ (aN X.prog X.w) X.A (Ay p tg ifs X.env (.ref it) tail (.compLoop e depth (.ref it) acc X.env)) Q (notedBy (aN X.prog X.w) X.A X.env E) s -> aJ (aN X.prog X.w) (X.A.under (.compLoop e depth (.ref it) acc X.env)) ((aN X.prog X.w).den (.compLoop e depth (.ref it) acc X.env)) Q E s)(rP:∀ v s,X.xe v s->False)(hc:X.calm=true)(T:Turn X.prog X.w X.K tg J fp it tn)(hf:∀ b∈fp,jd X ao H b)(I:Inv X ao aj H s)(st:tn 0 s.heap)(hg:PG X tg g)(ht:oU X ifs tt)(ha:Dy X tail act)(hW:CT J g tt act End W)(w0:W 0 m0 aj H): jB (aN X.prog X.w) X.A (.compLoop e depth (.ref it) acc X.env) (λr s'=>∃ bA H',r=.ok .next/\Inv X ao bA H' s'/\End bA H') s:=by have stat:∀{H':Hp},(∀ b∈fp,H' b=none)->∀ b∈fp,jd X ao H' b:=λhn b hb=>⟨hn b hb,(hf b hb).2⟩;refine Tw hq (λn s'=>∃ i bA H',Inv X ao bA H' s'/\tn i s'.heap/\(∀ b∈fp,H' b=none)/\W i n bA H') ?_ m0 ⟨0,aj,H,I,st,λb hb=>(hf b hb).1,w0⟩;rintro n s3 ⟨i,zq,H3,I3,st3,zB,w3⟩;refine hden _ _ _ ?_;unfold Ay;rcases hW i n zq H3 w3 with ⟨stop,qe⟩ | ⟨go,step⟩;refine aG (vo (aG (bH (T.done X rfl rfl rfl hc i ao s3 _ H3 _ I3 (stat zB) st3 stop) λr s5 ⟨hr,I5⟩=>?_)));subst hr;exact aR ⟨zq,H3,rfl,I5,qe⟩;refine aG (vo (aG (bH (T.item X rfl rfl rfl hc i ao s3 _ H3 _ I3 (stat zB) st3 go) λr s5 ⟨u,hr,h5⟩=>?_)));subst hr;refine aG (bH h5 λ_ s6 ⟨x,H6,I6,r6,y6,vV,fr6⟩=>?_);have I6':=I6.pinned (stat fr6) (T.obj _ _ vV);refine aG (jx (hg _ s6 _ H6 x u _ I6' r6 (step x H6 y6)) (λ_ s7 ⟨mq,H7,I7,q7⟩=>?_) λv s' f=>(rP v s' f).elim);refine aG (jx (ht _ s7 mq H7 _ I7 q7) (λok s8 ⟨H8,I8,q8⟩=>?_) λv s' f=>(rP v s' f).elim);have again:∀{wK:St}{H9:Hp}{s9:aK}{m':Nat},Inv X (ao++Cd fp s6.heap) wK H9 s9->m'<n->W (i+1) m' wK H9 -> ∃ m,m<n/\∃ i bA H',Inv X ao bA H' s9/\tn i s9.heap/\(∀ b∈fp,H' b=none)/\W i m bA H':=λ{wK H9 s9 m'} I9 hm w9=>(by refine ⟨m',hm,i+1,wK,H9,I9.Gk,T.keep _ _ _ vV λb hb o e=>(I9.pin (b,o) (lV _ (lV _ (Bt hb e)))).1,λb hb=>?_,w9⟩;obtain ⟨o,e,d⟩:=T.obj _ _ vV b hb;exact (I9.pin (b,o) (lV _ (lV _ (Bt hb e)))).2.1);cases ok with| false =>obtain ⟨m',hm,w9⟩:=q8;exact aR ⟨rfl,again I8 hm w9⟩| true =>refine aG (jx (ha _ s8 mq H8 _ I8 q8) (λ_ s9 ⟨wK,H9,I9,m',hm,w9⟩=>?_) λ_ _ f=>f.elim);exact aR ⟨rfl,again I9 hm w9⟩
noncomputable def ac7(D:au)(te:TE):vB:=fun aj H R=>te aj H λy H4=>∃ zs,H4 D=some (.lst zs)/\zs.length<aO/\R aj (upd H4 D (.lst (zs++[y])))
noncomputable def aIn(wi:TI)(g:TG)(tt:TT)(act:vB):vB:=fun aj H R=>wi aj H λJ H1=>∃ W:Nat->Nat->St->Hp->Prop,(∃ m,W 0 m aj H1)/\CT J g tt act R W
section
variable{X:Cx}{elt kx vx iter tg:Expr}{te tk tv:TE}{D:au}{wi:TI}{g:TG}{tt:TT}{act:vB}{ifs:List Expr}{scope:Scope}{pos:Pos}
theorem ajY(rP:∀ v s,X.xe v s->False)(he:PE X elt te):Dy X (do let _ <- call (.builtin "list.append") [.ref D,<- eval elt X.env]) (ac7 D te):=by
 intro ao s aj H R I h;refine aG (jx (he _ s aj H _ I h) (λy s9 ⟨v,H9,I9,r9,zs,hD,hz,w9⟩=>?_) λv s' f=>(rP v s' f).elim);refine aG (jx (Ba (X:=X) _ s9 aj H9 (.ref D) [v] (.ref D) [y] (λ_ H'=>R aj H') I9 rfl (.cons r9 .nil) ⟨D,zs,v,rfl,rfl,hD,hz,w9⟩) (λ_ zQ ⟨_,tQ,I10,_,q⟩=>?_) λv s' f=>(rP v s' f).elim);exact aR ⟨aj,tQ,I10,q⟩
theorem ag7{a:au}{y:V}{u r:aB}{A:iI}{E:aB->aK->Prop}{Q:Unit->aK->Prop}(I:Inv X ao aj H s){kvs:List (Key × V)}{k:Key}(e:H a=some (.dK kvs))(ey:y=kV k)(l:kvs.length<aO)(eH:H'=upd H a (.dK (eV kvs k v)))(ry:cO y u)(rv:cO v r)(h:∀ s',Inv X ao aj H' s'->Q () s'):aJ (aN X.prog X.w) A (dictSet a u r) Q E s:=by subst ey eH;obtain ⟨z,hd,vs,rel,dd⟩:=DN I.hok e;have hz:vs.length<=aO:=(by rw [<- rel.length]; exact z);have hl:(eV kvs k v).length<=aO:=(by have:=yF kvs k v; omega);refine wpAny_dictSet_pairs (hsz:=hz) (Ds ry) dd λh' dd' hs=>h _ ?_;have he:∃ q,h'.get? a=some q:=let ⟨q,_,_,hq,_⟩:=dd'; ⟨q,hq⟩;exact Kv I (by rw [e]; exact rN) hs he (Mw hl hd (rel.put k rv) dd')
noncomputable def RB(D:au)(tk tv:TE):vB:=fun aj H R=>tk aj H λk H1=>tv aj H1 λv H2=>∃ kvs kk,H2 D=some (.dK kvs)/\k=kV kk/\kvs.length<aO/\R aj (upd H2 D (.dK (eV kvs kk v)))
theorem Zi(rP:∀ v s,X.xe v s->False)(hk:PE X kx tk)(hv:PE X vx tv):Dy X (do
   let kv <- eval kx X.env
   let vv <- holding [kv] (eval vx X.env)
   standAt { kx.pos with endLine:=vx.pos.endLine,endCol:=vx.pos.endCol }
   holding [kv,vv] (dictSet D kv vv)) (RB D tk tv):=by
 intro ao s aj H R I h;refine aG (jx (hk _ s aj H _ I h) (λy s1 ⟨k,H1,I1,r1,q1⟩=>?_) λv s' f=>(rP v s' f).elim);refine aG (jO (jx (hv _ s1 aj H1 _ I1 q1) (λz s2 ⟨v,H2,I2,r2,kvs,kk,hD,ek,hl,q⟩=>?_) λv s' f=>(rP v s' f).elim));refine aG (vo (jO ?_));exact ag7 I2 hD ek hl rfl r1 r2 λs' I'=>⟨aj,_,I',q⟩
end
theorem abD{iter:Expr}{wi:TI}(hq:∀ it,(Ni e 1 (.ref it) acc X.env).quiet=true)(hden:∀(it:au)(Q:Fin->aK->Prop)(E:aB->aK->Prop)(s:aK),aJ (aN X.prog X.w) X.A (Ay p tg ifs X.env (.ref it) tail (.compLoop e 1 (.ref it) acc X.env)) Q (notedBy (aN X.prog X.w) X.A X.env E) s ->
     aJ (aN X.prog X.w) (X.A.under (.compLoop e 1 (.ref it) acc X.env)) ((aN X.prog X.w).den (.compLoop e 1 (.ref it) acc X.env)) Q E s)(hst:∀(it:au)(R:xQ->aK->Prop)(s:aK),jB (aN X.prog X.w) X.A (.compLoop e 1 (.ref it) acc X.env) R s ->
     (∀ Q E,Q (.ref it) s->aJ (aN X.prog X.w) X.A (pyIter (.ref it)) Q E s)->jB (aN X.prog X.w) X.A (.compStart e 1 (.ref it) acc X.env) R s)(rP:∀ v s,X.xe v s->False)(hc:X.calm=true)(hi:PI X tg iter wi)(hg:PG X tg g)(ht:oU X ifs tt)(ha:Dy X tail act)(hs:∀ x,qz iter X.env x=pure x:=by intro _; rfl):
   Dy X (do
     let x <- eval iter X.env
     standAt iter.pos
     let x <- qz iter X.env x
     let _ <- runOwn (.compStart e 1 (<- holding [x] (pyIter x)) acc X.env) X.env) (aIn wi g tt act):=by
 intro ao s aj H R I h;refine aG (jx (hi ao s aj H _ I h) (λv s1 h1=>?_) λv s' f=>(rP v s' f).elim);refine aG (vo (aG ?_));rw [hs];refine aR (aG (jO (jx h1 (λitv s2 h2=>?_) λv s' f=>(rP v s' f).elim)));obtain ⟨it,fp,tn,J,H2,rfl,I2,T,st2,f2,W,⟨m0,w0⟩,hW⟩:=h2;have loop:=aeb (p:=p) (hq it) (hden it) rP hc T f2 I2 st2 hg ht ha hW w0;refine aG (wpAny_runOwn (wM (hst it _ _ loop λQ E q=>T.self _ 0 _ _ _ st2 q) λr s' ⟨bA,H',hr,I',q⟩=>?_));subst hr;exact aR ⟨bA,H',I',q⟩
noncomputable def Mh(own:List Str)(ix:List Nat)(o0:HO)(wi:TI)(g:BI->TG)(tt:BI->TT)(act:BI->au->vB):TE:=fun aj H Q=>wi aj H λJ H1=>∀ D,H1 D=none ->
 ∃ W:Nat->Nat->St->Hp->Prop,(∃ m,W 0 m (oJ own ix aj) (upd H1 D o0))/\∀ b,CT J (g b) (tt b) (act b D) (λ_ H'=>Q (.ref D) H') W
noncomputable def akB(own:List Str)(ix:List Nat)(o0:au->HO)(wi:TI)(g:BI->TG)(tt:BI->TT)(act:BI->au->vB):TE:=fun aj H Q=>wi aj H λJ H1=>∀ D,H1 D=none ->
 ∃ W:Nat->Nat->St->Hp->Prop,(∃ m,W 0 m (oJ own ix aj) (upd H1 D (o0 D)))/\∀ b,CT J (g b) (tt b) (act b D) (λ_ H'=>Q (.ref D) H') W
section
variable{X:Cx}{e tg iter:Expr}{ifs:List Expr}{gs:List Comprehension}{scope bN:Scope}{pos:Pos}{own cap:List Str}{ix:List Nat}{wi:TI}{g:BI->TG}{tt:BI->TT}{act:BI->au->vB}{tail:au->Env->Sem Unit}{newAcc:Sem aB}{ob:Obj}{o0:HO}{p:Pos}
structure DG(X:Cx)(e:Expr)(depth:Nat)(p:Pos)(tg:Expr)(ifs:List Expr)(tail:au->Env->Sem Unit):Prop where
 hq:∀ it D env,(Ni e depth (.ref it) (.ref D) env).quiet=true
 hden:∀(it D:au)(env:Env)(Q:Fin->aK->Prop)(E:aB->aK->Prop)(s:aK),aJ (aN X.prog X.w) X.A (Ay p tg ifs env (.ref it) (tail D env) (.compLoop e depth (.ref it) (.ref D) env)) Q (notedBy (aN X.prog X.w) X.A env E) s ->
     aJ (aN X.prog X.w) (X.A.under (.compLoop e depth (.ref it) (.ref D) env)) ((aN X.prog X.w).den (.compLoop e depth (.ref it) (.ref D) env)) Q E s
 hst:∀(it D:au)(env:Env)(R:xQ->aK->Prop)(s:aK),jB (aN X.prog X.w) X.A (.compLoop e depth (.ref it) (.ref D) env) R s ->
     (∀ Q E,Q (.ref it) s->aJ (aN X.prog X.w) X.A (pyIter (.ref it)) Q E s)->jB (aN X.prog X.w) X.A (.compStart e depth (.ref it) (.ref D) env) R s
variable{Q':aB->aK->Prop}
theorem alq{o0:au->HO}{use:Option (aB->Sem Unit)}(hcl:clausesOf e=⟨tg,iter,ifs,0⟩ :: gs)(C0:DG X e 0 p tg ifs tail)(hnew:∀(ao:List (au × Obj))(aj:St)(H:Hp)(s:aK)(Q:aB->aK->Prop)(E:aB->aK->Prop),Inv X ao aj H s->(Inv X ao aj (upd H s.heap.objs.size (o0 s.heap.objs.size)) { s with heap:=s.heap.push ob }->Q (.ref s.heap.objs.size) { s with heap:=s.heap.push ob })->aJ (aN X.prog X.w) X.A newAcc Q E s)(hc:X.calm=true)(hX:X.env.scope=bN)(S:oX bN scope X.N own cap ix)(hi:PI X tg iter wi)(hg:∀ b,PG (blk X scope (own++cap) b) tg (g b))(ht:∀ b,oU (blk X scope (own++cap) b) ifs (tt b))(ha:∀ b D,Dy (blk X scope (own++cap) b) (tail D (blk X scope (own++cap) b).env) (act b D))(hs:∀ x,qz iter X.env x=pure x)(I:Inv X ao aj H s)(h:akB own ix o0 wi g tt act aj H Q)(out:∀(D C:au)(H':Hp)(s':aK),Q (.ref D) H'->(∃ m,s'.heap.Ns C m)->jd X ao H' C->(∀ h',vH C s'.heap h'->Inv X ao aj H' { s' with heap:=h' }) -> compPost (aN X.prog X.w) X.A X.xe use Q' (.ref D) C (.ok .next) s'): aJ (aN X.prog X.w) X.A (comprehension e scope X.env pos newAcc false (eval iter X.env) use) Q' X.xe s:=by have hclos:=VH (scope:=scope) (env:=X.env) λy hy hk=>(by have hf:=S.free y hy hk;rw [<- hX] at hf;exact I.ok.has y.1 hf);refine Qh (use:=use) hcl hs hclos S.kind (λy hy hk=>by rw [S.nm y hy,hk]) (bH (hi ao s aj H _ I h) λv s1 h1=>bH h1 λitv s2 h2=>?_);obtain ⟨it,fp,tn,J,H2,e1,I2,T,st2,f2,hR⟩:=h2;subst e1;refine hnew _ _ _ _ _ _ I2 λI3=>?_;obtain ⟨W,⟨m0,w0⟩,hW⟩:=hR s2.heap.objs.size I2.fresh;have vp:∀ b∈fp,b<s2.heap.objs.size:=λb hb=>let ⟨_,e,_⟩:=T.obj _ _ st2 b hb; bQ e;have f3:∀ b∈fp,jd X ao (upd H2 s2.heap.objs.size (o0 s2.heap.objs.size)) b:=λb hb=>⟨by rw [aW (fB (vp b hb))]; exact (f2 b hb).1,(f2 b hb).2⟩;have st3:tn 0 (s2.heap.push ob):=T.keep _ _ _ st2 λb hb o e=>cR _ e;generalize hs3:({ s2 with heap:=s2.heap.push ob }:aK)=s3 at I3;have Ai:tn 0 s3.heap:=(by rw [<- hs3]; exact st3);have ob3:∀ b∈fp,∃ o,s3.heap.get? b=some o:=λb hb=>let ⟨o,e,_⟩:=T.obj _ _ Ai b hb; ⟨o,e⟩;have I4:=W8 S hX I3 f3 ob3;have uK:tn 0 (yH s3 scope):=T.keep _ _ _ Ai λb _ o e=>Pr s3 scope b o e;refine Uh ?_;have f4:∀ b∈fp,jd (blk X scope (own++cap) (gC X ao s3 (upd H2 s2.heap.objs.size (o0 s2.heap.objs.size)) scope fp)) [] (upd H2 s2.heap.objs.size (o0 s2.heap.objs.size)) b:=λb hb=>(by refine ⟨(f3 b hb).1,(I4.ok.yN b hb).1,I4.ok.BZ b hb,.inl hb,(I4.ok.yN b hb).2,λp hp=>?_⟩;have hp':p∈X.pn++ao:=(by rcases iC.mp hp with z | z;exact z;exact nomatch z);exact (f3 b hb).2.2.2.2.2 p hp');have loop:=aeb (X:=blk X scope (own++cap) (gC X ao s3 (upd H2 s2.heap.objs.size (o0 s2.heap.objs.size)) scope fp)) (e:=e) (depth:=0) (acc:=.ref s2.heap.objs.size) (C0.hq _ _ _) (C0.hden _ _ _) (λ_ _ f=>f) hc T f4 I4 uK (hg _) (ht _) (ha _ _) (hW _) w0;have fin:jB (aN X.prog X.w) X.A (.compLoop e 0 (.ref it) (.ref s2.heap.objs.size) (uU scope (sV X s3 scope) s3.heap.objs.size X.env)) (compPost (aN X.prog X.w) X.A X.xe use Q' (.ref s2.heap.objs.size) s3.heap.objs.size) { s3 with heap:=yH s3 scope }:=wM loop λr s' ⟨bA,H',hr,J',q⟩=>(by subst hr;exact out _ _ H' s' q (let ⟨m,hn,_⟩:=J'.loc; ⟨m,hn⟩) (I3.ug (bG _) J'.free) λh' hh=>X8 I3 f3 J' hh);exact C0.hst _ _ _ _ _ fin λQ E q=>T.self _ 0 _ _ _ uK q
theorem Q8{use:Option (aB->Sem Unit)}(hcl:clausesOf e=⟨tg,iter,ifs,0⟩ :: gs)(C0:DG X e 0 p tg ifs tail)(hnew:∀(ao:List (au × Obj))(aj:St)(H:Hp)(s:aK)(Q:aB->aK->Prop)(E:aB->aK->Prop),Inv X ao aj H s->(Inv X ao aj (upd H s.heap.objs.size o0) { s with heap:=s.heap.push ob }->Q (.ref s.heap.objs.size) { s with heap:=s.heap.push ob })->aJ (aN X.prog X.w) X.A newAcc Q E s)(hc:X.calm=true)(hX:X.env.scope=bN)(S:oX bN scope X.N own cap ix)(hi:PI X tg iter wi)(hg:∀ b,PG (blk X scope (own++cap) b) tg (g b))(ht:∀ b,oU (blk X scope (own++cap) b) ifs (tt b))(ha:∀ b D,Dy (blk X scope (own++cap) b) (tail D (blk X scope (own++cap) b).env) (act b D))(hs:∀ x,qz iter X.env x=pure x)(I:Inv X ao aj H s)(h:Mh own ix o0 wi g tt act aj H Q)(out:∀(D C:au)(H':Hp)(s':aK),Q (.ref D) H'->(∃ m,s'.heap.Ns C m)->jd X ao H' C->(∀ h',vH C s'.heap h'->Inv X ao aj H' { s' with heap:=h' }) ->
     compPost (aN X.prog X.w) X.A X.xe use Q' (.ref D) C (.ok .next) s'):
   aJ (aN X.prog X.w) X.A (comprehension e scope X.env pos newAcc false (eval iter X.env) use) Q' X.xe s :=
 alq (o0:=λ_=>o0) hcl C0 hnew hc hX S hi hg ht ha hs I h out
end
section
variable{X:Cx}{elt kx vx tg iter jQ iter1:Expr}{ifs kW:List Expr}{scope:Scope}{pos:Pos}
noncomputable def aj3(elt:Expr)(D:au)(env:Env):Sem Unit:=do let _ <- call (.builtin "list.append") [.ref D,<- eval elt env]
noncomputable def tailD(kx vx:Expr)(D:au)(env:Env):Sem Unit:=do
   let kv <- eval kx env
   let vv <- holding [kv] (eval vx env)
   standAt { kx.pos with endLine:=vx.pos.endLine,endCol:=vx.pos.endCol }
   holding [kv,vv] (dictSet D kv vv)
noncomputable def Fg(e iter:Expr)(D:au)(env:Env):Sem Unit:=do
     let x <- eval iter env
     standAt iter.pos
     let x <- qz iter env x
     let _ <- runOwn (.compStart e 1 (<- holding [x] (pyIter x)) (.ref D) env) env
theorem agz(it:aB)(D:au)(env:Env):compTurn (.ListComp elt [⟨tg,iter,ifs,0⟩,⟨jQ,iter1,kW,0⟩] scope pos) 0 it (.ref D) env=Ay iter.pos tg ifs env it (Fg (.ListComp elt [⟨tg,iter,ifs,0⟩,⟨jQ,iter1,kW,0⟩] scope pos) iter1 D env) (.compLoop (.ListComp elt [⟨tg,iter,ifs,0⟩,⟨jQ,iter1,kW,0⟩] scope pos) 0 it (.ref D) env):=by unfold compTurn Ay Fg;simp only [Rn,ad9,bne_self_eq_false,uH,if_false,bind_assoc,pure_bind];rfl
theorem akE(it:aB)(D:au)(env:Env):compTurn (.DictComp kx vx [⟨tg,iter,ifs,0⟩,⟨jQ,iter1,kW,0⟩] scope pos) 0 it (.ref D) env=Ay iter.pos tg ifs env it (Fg (.DictComp kx vx [⟨tg,iter,ifs,0⟩,⟨jQ,iter1,kW,0⟩] scope pos) iter1 D env) (.compLoop (.DictComp kx vx [⟨tg,iter,ifs,0⟩,⟨jQ,iter1,kW,0⟩] scope pos) 0 it (.ref D) env):=by unfold compTurn Ay Fg;simp only [Rn,ad9,bne_self_eq_false,uH,if_false,bind_assoc,pure_bind];rfl
theorem J0{d:Nat}{gl:Comprehension}{it:aB}{env:Env}{R:xQ->aK->Prop}(hf:(Code.compStart e d it acc env).isFrame=false)(hg:(clausesOf e)[d]?=some gl)(ha:gl.is_async=0)(hu:∀ A:iI,A.under (.compStart e d it acc env)=A)(hq:(Ni e d it acc env).quiet=true)(hd:(aN X.prog X.w).den (.compStart e d it acc env)=(compStart e d it acc env).onRaise (λx=>do noteFrame x env; standAt theWindowsPlace))(h0:jB (aN X.prog X.w) X.A (.compLoop e d it acc env) R s)(h:∀ Q E,Q it s->aJ (aN X.prog X.w) X.A (pyIter it) Q E s):jB (aN X.prog X.w) X.A (.compStart e d it acc env) R s:=by refine Vu ?_;rw [hu,hd];refine wpAny_notedAt ?_;unfold compStart;rw [hg];simp only [Option.elim_some,ha];refine aG (wpAny_askSetting (wpAny_ite ?_));split;exact aR (And.intro hq h0);refine aG (zu (aG (vo (aG (h _ _ ?_)))));exact aR (And.intro hq h0)
theorem aor:DG X (.ListComp elt [⟨tg,iter,ifs,0⟩,⟨jQ,iter1,kW,0⟩] scope pos) 0 iter.pos tg ifs (Fg (.ListComp elt [⟨tg,iter,ifs,0⟩,⟨jQ,iter1,kW,0⟩] scope pos) iter1) where
 hq:=λ_ _ _=>rfl
 hden:=λit D env Q E s h=>by
   show aJ _ X.A ((compTurn (.ListComp elt [⟨tg,iter,ifs,0⟩,⟨jQ,iter1,kW,0⟩] scope pos) 0 (.ref it) (.ref D) env).onRaise (λx=>do noteFrame x env; theTreesLotGoes x)) _ _ s;exact Dr (by rw [agz]; exact h)
 hst:=λit D env R s h0 h=>J0 rfl rfl rfl (λ_=>rfl) rfl rfl h0 h
theorem QW:DG X (.ListComp elt [⟨tg,iter,ifs,0⟩,⟨jQ,iter1,kW,0⟩] scope pos) 1 iter1.pos jQ kW (aj3 elt) where
 hq:=λ_ _ _=>rfl
 hden:=λit D env Q E s h=>by
   show aJ _ X.A ((compTurn (.ListComp elt [⟨tg,iter,ifs,0⟩,⟨jQ,iter1,kW,0⟩] scope pos) 1 (.ref it) (.ref D) env).onRaise (λx=>do noteFrame x env; theTreesLotGoes x)) _ _ s;exact Dr h
 hst:=λit D env R s h0 h=>J0 rfl rfl rfl (λ_=>rfl) rfl rfl h0 h
theorem am9:DG X (.DictComp kx vx [⟨tg,iter,ifs,0⟩,⟨jQ,iter1,kW,0⟩] scope pos) 0 iter.pos tg ifs (Fg (.DictComp kx vx [⟨tg,iter,ifs,0⟩,⟨jQ,iter1,kW,0⟩] scope pos) iter1) where
 hq:=λ_ _ _=>rfl
 hden:=λit D env Q E s h=>by
   show aJ _ X.A ((compTurn (.DictComp kx vx [⟨tg,iter,ifs,0⟩,⟨jQ,iter1,kW,0⟩] scope pos) 0 (.ref it) (.ref D) env).onRaise (λx=>do noteFrame x env; theTreesLotGoes x)) _ _ s;exact Dr (by rw [akE]; exact h)
 hst:=λit D env R s h0 h=>J0 rfl rfl rfl (λ_=>rfl) rfl rfl h0 h
theorem RX:DG X (.DictComp kx vx [⟨tg,iter,ifs,0⟩,⟨jQ,iter1,kW,0⟩] scope pos) 1 iter1.pos jQ kW (tailD kx vx) where
 hq:=λ_ _ _=>rfl
 hden:=λit D env Q E s h=>by
   show aJ _ X.A ((compTurn (.DictComp kx vx [⟨tg,iter,ifs,0⟩,⟨jQ,iter1,kW,0⟩] scope pos) 1 (.ref it) (.ref D) env).onRaise (λx=>do noteFrame x env; theTreesLotGoes x)) _ _ s;exact Dr h
 hst:=λit D env R s h0 h=>J0 rfl rfl rfl (λ_=>rfl) rfl rfl h0 h
variable{Q E:aB->aK->Prop}
theorem aiZ(I:Inv X ao aj H s)(h:Inv X ao aj (upd H s.heap.objs.size (.lst [])) { s with heap:=s.heap.push { cls:=.type "list",data:=.seq ([]:List aB).toArray } }->Q (.ref s.heap.objs.size) { s with heap:=s.heap.push { cls:=.type "list",data:=.seq ([]:List aB).toArray } }):aJ (aN X.prog X.w) X.A (newList []) Q E s :=
 oK (h (I.Og (t':=s.toks) (its:=[]) .nil (dR _)))
theorem aex(I:Inv X ao aj H s)(h:Inv X ao aj (upd H s.heap.objs.size (.dK [])) { s with heap:=s.heap.push { cls:=.type "dict",data:=.dict #[] } }->Q (.ref s.heap.objs.size) { s with heap:=s.heap.push { cls:=.type "dict",data:=.dict #[] } }):aJ (aN X.prog X.w) X.A newDict Q E s :=
 oK (h (I.laid (a:=s.heap.objs.size) (o:=.dK []) (t':=s.toks) (λ_ _ q=>cR _ q) (bG _) (aeN s.heap I.big)))
end
section
variable{X:Cx}{elt kx vx tg iter jQ iter1:Expr}{ifs kW:List Expr}{scope bN:Scope}{pos:Pos}{own cap:List Str}{ix:List Nat}{wi:TI}{g g1:BI->TG}{tt tt1:BI->TT}{te tk tv:BI->TE}{wi1:BI->TI}
noncomputable abbrev aj7(own:List Str)(ix:List Nat)(wi:TI)(g:BI->TG)(tt:BI->TT)(wi1:BI->TI)(g1:BI->TG)(tt1:BI->TT)(te:BI->TE):TE:=Mh own ix (.lst []) wi g tt λb D=>aIn (wi1 b) (g1 b) (tt1 b) (ac7 D (te b))
noncomputable abbrev ajd(own:List Str)(ix:List Nat)(wi:TI)(g:BI->TG)(tt:BI->TT)(wi1:BI->TI)(g1:BI->TG)(tt1:BI->TT)(tk tv:BI->TE):TE:=Mh own ix (.dK []) wi g tt λb D=>aIn (wi1 b) (g1 b) (tt1 b) (RB D (tk b) (tv b))
theorem acY(hc:X.calm=true)(hX:X.env.scope=bN)(S:oX bN scope X.N own cap ix)(hi:PI X tg iter wi)(hg:∀ b,PG (blk X scope (own++cap) b) tg (g b))(ht:∀ b,oU (blk X scope (own++cap) b) ifs (tt b))(hi1:∀ b,PI (blk X scope (own++cap) b) jQ iter1 (wi1 b))(hg1:∀ b,PG (blk X scope (own++cap) b) jQ (g1 b))(ht1:∀ b,oU (blk X scope (own++cap) b) kW (tt1 b))(he:∀ b,PE (blk X scope (own++cap) b) elt (te b))(hs:∀ x,qz iter X.env x=pure x:=by intro _; rfl)(hs1:∀ env x,qz iter1 env x=pure x:=by intro _ _; rfl):
   PE X (.ListComp elt [⟨tg,iter,ifs,0⟩,⟨jQ,iter1,kW,0⟩] scope pos) (aj7 own ix wi g tt wi1 g1 tt1 te):=by
 intro ao s aj H Q I h;rw [Qv];refine Q8 (use:=none) rfl aor (λ_ _ _ _ _ _=>aiZ) hc hX S hi hg ht (λb D=>abD (acc:=.ref D) (λit=>(QW (X:=blk X scope (own++cap) b)).hq it D _) (λit=>(QW (X:=blk X scope (own++cap) b)).hden it D _) (λit=>(QW (X:=blk X scope (own++cap) b)).hst it D _) (λ_ _ f=>f) hc (hi1 b) (hg1 b) (ht1 b) (ajY (λ_ _ f=>f) (he b)) (hs1 _)) hs I h λD C H' s' q hn _ hI=>?_
 obtain ⟨m,hn⟩:=hn;exact ⟨m,hn,λh' hh=>⟨.ref D,H',hI h' hh,rfl,q⟩⟩
theorem ag9{i:Nat}{x:Str}{pos' spos:Pos}(hN:X.N.Nodup)(hx1:X.N[i]?=some x)(hx:X.env.scope.names.lookup x=some .local)(hc:X.calm=true)(hX:X.env.scope=bN)(S:oX bN scope X.N own cap ix)(hi:PI X tg iter wi)(hg:∀ b,PG (blk X scope (own++cap) b) tg (g b))(ht:∀ b,oU (blk X scope (own++cap) b) ifs (tt b))(hi1:∀ b,PI (blk X scope (own++cap) b) jQ iter1 (wi1 b))(hg1:∀ b,PG (blk X scope (own++cap) b) jQ (g1 b))(ht1:∀ b,oU (blk X scope (own++cap) b) kW (tt1 b))(hk:∀ b,PE (blk X scope (own++cap) b) kx (tk b))(hv:∀ b,PE (blk X scope (own++cap) b) vx (tv b))(hs:∀ x,qz iter X.env x=pure x:=by intro _; rfl)(hs1:∀ env x,qz iter1 env x=pure x:=by intro _ _; rfl)(hsw:BL (.DictComp kx vx [⟨tg,iter,ifs,0⟩,⟨jQ,iter1,kW,0⟩] scope pos) (some (.Name x pos')) spos.line X.env=pure true:=by rfl):
   PS X (.Assign [.Name x pos'] (.DictComp kx vx [⟨tg,iter,ifs,0⟩,⟨jQ,iter1,kW,0⟩] scope pos) spos) (Bl (ajd own ix wi g tt wi1 g1 tt1 tk tv) (xG i)):=by
 intro ao s aj H D I h;rw [ZJ _ _ _ _ hsw];refine aG (vo (aG ?_));show aJ _ X.A (do let _ <- comprehension (.DictComp kx vx [⟨tg,iter,ifs,0⟩,⟨jQ,iter1,kW,0⟩] scope pos) scope X.env _ newDict false (eval iter X.env) (some (assign (.Name x pos') X.env))) _ _ s
 refine aG (jx (Q8 (use:=some (assign (.Name x pos') X.env)) (Q:=λv H1=>xG i v aj H1 D.nx) (Q':=λ_ s'=>SP X ao D .next s') rfl am9 (λ_ _ _ _ _ _=>aex) hc hX S hi hg ht
   (λb D=>abD (acc:=.ref D) (λit=>(RX (X:=blk X scope (own++cap) b)).hq it D _) (λit=>(RX (X:=blk X scope (own++cap) b)).hden it D _) (λit=>(RX (X:=blk X scope (own++cap) b)).hst it D _) (λ_ _ f=>f) hc (hi1 b) (hg1 b) (ht1 b) (Zi (λ_ _ f=>f) (hk b) (hv b)) (hs1 _)) hs I h λD1 C H' s' q hn fC hI=>?_) (λ_ s' hq=>aR (aR hq)) λ_ _ e=>e)
 obtain ⟨m,hn⟩:=hn
 have I0:Inv X ao aj H' s':=by
   have z:=hI s'.heap (Tg ..);exact z
 show aJ _ X.A (assign (.Name x pos') X.env (.ref D1)) _ _ _;refine VF (T8 I0 hN hx1 (.inl hx) (show cO (.ref D1) (.ref D1) from rfl) (λs2 I2 ⟨a,sb,ha⟩=>?_) (.inr hx))
 have na:C≠a:=by
   rcases ha with e | e
   . rw [e]; exact fC.2.1
   . intro z; exact fC.2.2.2.2.1 x a e z.symm
 refine ⟨m,hn.sameBut sb na,λh' hh=>?_⟩;refine ⟨_,H',?_,q⟩;exact I2.turned (it:=C) (t':=s2.toks) (λb o hb e=>(hh.2 b hb).aA e) fC.1 fC.2.1 fC.2.2.2.1 fC.2.2.2.2.1 fC.2.2.2.2.2
end
theorem Inv.Js{h':aY}{t':Nat}{its:List au}(I:Inv X ao aj H s)(k:∀ b o,b ∉ its->s.heap.get? b=some o->h'.get? b=some o)(hf:∀ b∈its,jd X ao H b):Inv X ao aj H { s with heap:=h',toks:=t' }:=by have uy:∀ b u,H b=some u->b ∉ its:=λb u e z=>(by rw [(hf b z).1] at e; cases e);refine I.step (g':=s.gens) (d':=s.drawn) (ch:=its) (λb hb=>⟨(hf b hb).2.2.2.1,(hf b hb).2.1,(hf b hb).2.2.2.2.1,(hf b hb).2.2.2.2.2⟩) (λb o _ _ hc e _=>k b o hc e) (λb o _ _ hc e _=>⟨o.slots,k b o hc e⟩) (λ_ _ _ _ n=>n) (λb o hc e=>⟨o,k b o hc e⟩) (λ_ _ e=>e) (λ_ _ _ e=>e) (λb ps e=>⟨#[],by rw [e]; simp⟩) (λm hm=>?_) (λb u e=>?_) I.bare;obtain ⟨o,es,ep,ho,r⟩:=hm;exact ⟨o,es,ep,k _ o (λz=>(hf _ z).2.1 rfl) ho,r⟩;refine (I.hok b u e).stay (λc v hc q=>k c v ?_ q) (λ_ q=>q) λ_ _ q=>q;rcases hc with z | z;rw [z]; exact uy b u e;exact uy c _ z
noncomputable def Itz(K:bV)(a b:au)(xs ys:List V):It :=
 ⟨λi H=>aV K H a xs/\aV K H b ys/\i<xs.length/\i<ys.length,λi H v H'=>∃ T x y,H T=none/\v=.ref T/\xs[i]?=some x/\ys[i]?=some y/\H'=upd H T (.tup [x,y]),λi H=>aV K H a xs/\aV K H b ys/\(xs.length<=i\/ys.length<=i)⟩
noncomputable def agL(z TI TO i1 i2 a b:au)(i:Nat)(h:aY):Prop:=IsZip h z TI TO .none/\pL h TI (.ref i1) (.ref i2)/\(∃ p q,pL h TO p q)/\h.IsListIter i1 a i/\h.IsListIter i2 b i
variable{P:gk}{w:fK}{elts:List Expr}
theorem alH{k:Nat}(z TI TO i1 i2 a b:au)(D:yU z TI TO i1 i2 a b)(xs ys:List V):
   Turn P w K (.Tuple elts k pos) (Itz K a b xs ys) [z,TI,TO,i1,i2] z (agL z TI TO i1 i2 a b) where
 mem:=by simp
 obj:=λi h st c hc=>by
   obtain ⟨hz,hTI,⟨p,q,hTO⟩,⟨o1,e1,c1,d1⟩,⟨o2,e2,c2,d2⟩⟩:=st;simp only [dU,lC,or_false] at hc;rcases hc with rfl | rfl | rfl | rfl | rfl
   . exact ⟨_,hz,λv z=>by cases (show Ec _=Eh v from z)⟩
   . exact ⟨_,hTI,λv z=>by cases (show O8 _ _=Eh v from z)⟩
   . exact ⟨_,hTO,λv z=>by cases (show O8 _ _=Eh v from z)⟩
   . exact ⟨o1,e1,λv z=>by rw [d1] at z; cases z⟩
   . exact ⟨o2,e2,λv z=>by rw [d2] at z; cases z⟩
 keep:=λi h h' st k=>by
   obtain ⟨hz,hTI,⟨p,q,hTO⟩,h1,h2⟩:=st;exact ⟨k z (by simp) _ hz,k TI (by simp) _ hTI,⟨p,q,k TO (by simp) _ hTO⟩,h1.at λo e=>k i1 (by simp) o e,h2.at λo e=>k i2 (by simp) o e⟩
 item:=by
   intro X hP hw hK hc i ao s aj H E I hf st hg;subst hP hw hK;obtain ⟨hq1,hq2,l1,l2⟩:=hg;obtain ⟨hz,hTI,⟨p,q,hTO⟩,h1,h2⟩:=st;obtain ⟨Dl,uV,qK,_⟩:=I.list hq1;obtain ⟨its2,rv2,xJ,_⟩:=I.list hq2;have x1:xs[i]?=some xs[i]:=gD l1;have y1:ys[i]?=some ys[i]:=gD l2;obtain ⟨u,hu,ru⟩:=uV.get x1;obtain ⟨u2,hu2,ru2⟩:=rv2.get y1;refine abC D hz hTI hTO h1 h2 qK.isList xJ.isList (x:=u) (y:=u2) (by simpa using hu) (by simpa using hu2) λh' a1 a2 a3 a4 a5 a6 a7=>?_
   refine ⟨_,rfl,wpAny_letOwnedTupleGo_zip a1 λh2' b1 b2=>?_⟩
   have kk:∀ c o,c ∉ [z,TI,TO,i1,i2]->s.heap.get? c=some o->h2'.get? c=some o:=λc o hc e=>by
     simp only [dU,lC,or_false,not_or] at hc;exact (b2.2 c hc.1).aA (a7 c o hc.1 hc.2.2.1 hc.2.2.2.1 hc.2.2.2.2 e)
   have ltz:z<s.heap.objs.size:=bQ hz;have nz:s.heap.objs.size≠z:=qp ltz;have eT:h2'.get? s.heap.objs.size=some { cls:=.type "tuple",data:=.seq #[u,u2] }:=(b2.2 _ nz).aA a5;have fresh:H s.heap.objs.size=none:=I.hok.fresh (bG _)
   have vp:∀ c∈[z,TI,TO,i1,i2],c<s.heap.objs.size:=λc hc=>by
     simp only [dU,lC,or_false] at hc;obtain ⟨o1,e1,_⟩:=h1;obtain ⟨o2,e2,_⟩:=h2;rcases hc with rfl | rfl | rfl | rfl | rfl
     . exact ltz
     . exact bQ hTI
     . exact bQ hTO
     . exact bQ e1
     . exact bQ e2
   have I1:Inv X ao aj (upd H s.heap.objs.size (.tup [xs[i],ys[i]])) { s with heap:=s.heap.push { cls:=.type "tuple",data:=.seq #[u,u2] } } :=
     I.laid (t':=s.toks) (λ_ _ e=>cR _ e) (bG _) ⟨by show 2<=aO; rw [cQ]; decide,[u,u2],.cons ru (.cons ru2 .nil),uQ.new _ _⟩
   have hf1:∀ c∈[z,TI,TO,i1,i2],jd X ao (upd H s.heap.objs.size (.tup [xs[i],ys[i]])) c:=λc hc=>⟨by rw [aW (fB (vp c hc))]; exact (hf c hc).1,(hf c hc).2⟩
   have I2:Inv X ao aj (upd H s.heap.objs.size (.tup [xs[i],ys[i]])) { s with heap:=h2' }:=I1.Js (t':=s.toks) (λc o hc e=>by
     by_cases ec:c=s.heap.objs.size
     . subst ec;have e':(s.heap.push { cls:=.type "tuple",data:=.seq #[u,u2] }).get? s.heap.objs.size=some o:=e;rw [gq _ rfl] at e';cases e';exact eT
     . have e':(s.heap.push { cls:=.type "tuple",data:=.seq #[u,u2] }).get? c=some o:=e;rw [R7 _ _ _ ec] at e'
       exact kk c o hc e') hf1
   refine ⟨.ref s.heap.objs.size,_,I2,rfl,⟨_,_,_,fresh,rfl,x1,y1,rfl⟩,⟨b1,?_,⟨u,u2,?_⟩,?_,?_⟩,λc hc=>(hf1 c hc).1⟩
   . exact (b2.2 _ D.TIz).aA (a7 TI _ D.TIz D.TITO D.TIi1 D.TIi2 hTI)
   . exact (b2.2 _ D.TOz).aA a2
   . exact a3.at λo e=>(b2.2 _ D.i1z).aA e
   . exact a4.at λo e=>(b2.2 _ D.i2z).aA e
 done:=by
   intro X hP hw hK hc i ao s aj H E I hf st hg;subst hP hw hK;obtain ⟨hq1,hq2,hl⟩:=hg;obtain ⟨hz,hTI,⟨p,q,hTO⟩,h1,h2⟩:=st;obtain ⟨Dl,uV,qK,_⟩:=I.list hq1;obtain ⟨its2,rv2,xJ,_⟩:=I.list hq2;have e1:=uV.length;have e2:=rv2.length;refine aaw (I.ok.hd hc) D hz hTI hTO h1 h2 qK.isList xJ.isList (by rcases hl with hl | hl <;> first | (left; simp; omega) | (right; simp; omega)) λh' kk=>⟨rfl,I.Js (t':=s.toks) (λc o hc e=>?_) hf⟩
   simp only [dU,lC,or_false,not_or] at hc;exact kk c o hc.1 hc.2.2.1 hc.2.2.2.1 hc.2.2.2.2 e
 self:=λ_ _ _ _ _ st h=>Ui st.1 h
noncomputable def akR(K:bV)(ta:TA):TI:=fun aj H R=>ta aj H λvs H1=>qN λa b xs ys=>rG (vs=[.ref a,.ref b]) (aV K H1 a xs) (aV K H1 b ys) (R (Itz K a b xs ys) H1)
variable{ta:TA}
theorem anK{k:Nat}{tp:Pos}(hg:Gl X "zip")(hm:X.mg "zip" = none)(ha:PA X [a,b] ta)(hs:gA [a,b] X.env=[(false,eval a X.env),(false,eval b X.env)]:=by rfl)(hs2:gA [b] X.env=[(false,eval b X.env)]:=by rfl):
   PI X (.Tuple elts k tp) (.Call (.Name "zip" p) [a,b] [] pos) (akR X.K ta):=by
 intro ao s aj H R I h;refine Ci (xP I hg hm (show bootBuiltins "zip" = some (.type "zip") by decide +kernel) (Bp (bH (ha pos ao s aj H _ I h) λus s1 ⟨vs,H1,I1,r1,q1⟩=>?_) (by rw [hs,hs2]) (by rw [hs2]; rfl)));obtain ⟨l1,l2,xs,ys,e,hq1,hq2,q⟩:=q1;subst e;obtain ⟨u,u',rfl,r,r'⟩:=vU r1;cases (show u=cL l1 from r);cases (show u'=cL l2 from r');obtain ⟨Dl,uV,qK,_⟩:=I1.list hq1;obtain ⟨its2,rv2,xJ,_⟩:=I1.list hq2;have a1:l1<s1.heap.objs.size:=by obtain ⟨_,e,_⟩:=qK.isList; exact bQ e
 have a2:l2<s1.heap.objs.size:=by obtain ⟨_,e,_⟩:=xJ.isList; exact bQ e
 refine call_zip_2 qK.isList xJ.isList λh' hz hTI hTO hi1 hi2 _ hk=>Ui hz ?_
 refine ⟨_,_,_,_,H1,rfl,I1.kept (t':=s1.toks) hk,alH _ _ _ _ _ l1 l2 (zipApart_new a1 a2) xs ys,⟨hz,hTI,⟨_,_,hTO⟩,hi1,hi2⟩,λc hc=>?_,q⟩
 have le:s1.heap.objs.size<=c:=by
   simp only [dU,lC,or_false] at hc;rcases hc with rfl | rfl | rfl | rfl | rfl
   . exact yx _ 4
   . exact yx _ 2
   . exact yx _ 3
   . exact bG _
   . exact yx _ 1
 exact I1.ug le (I1.hok.fresh le)
noncomputable def J8(lo c:Int)(n:Nat):It:=⟨λi _=>i<n,λi H x H'=>H'=H/\x=.int (lo+i * c),λi _=>n<=i⟩
theorem aiJ(it:au)(lo c:Int)(n:Nat):Turn P w K tg (J8 lo c n) [it] it (λi h=>OD h it (lo+(i:Nat) * c) ((n:Int)-(i:Nat)) c) where
 mem:=by simp
 obj:=λi h st b hb=>by
   have e:b=it:=by simpa using hb
   subst e;exact ⟨_,st,λv z=>by cases (show Ec _=Eh v from z)⟩
 keep:=λi h h' st k=>k it (by simp) _ st
 item:=by
   intro X hP hw hK hc i ao s aj H E I hf st hg;subst hP hw hK;obtain ⟨f0,f1,f2,f3,f4,f5⟩:=hf it (by simp);have W:=Walks.range (prog:=X.prog) (w:=X.w) (I.ok.hd hc) it lo c n;refine W.item i s _ _ hg st λv h' tk hv st' kk=>?_
   obtain ⟨t,rfl⟩:=hv;have I1:Inv X ao aj H { s with heap:=h',toks:=tk }:=I.turned (λb o hb e=>kk b o (by simpa using hb) e) f0 f1 f3 f4 f5;exact ⟨_,rfl,Ad (s:={ s with heap:=h',toks:=tk }) (n:="range_iterator") st' rfl rfl (by decide) ⟨.int (lo+i * c),H,I1,⟨t,rfl⟩,⟨rfl,rfl⟩,st',λb hb=>(hf b hb).1⟩⟩
 done:=by
   intro X hP hw hK hc i ao s aj H E I hf st hg;subst hP hw hK;obtain ⟨f0,f1,f2,f3,f4,f5⟩:=hf it (by simp);exact acB (I.ok.hd hc) st (by have:n<=i:=hg; omega) λh' eb=>⟨rfl,I.turned (t':=s.toks) (λb o hb e=>eb b o hb e) f0 f1 f3 f4 f5⟩
 self:=λ_ _ _ _ _ st h=>abF st h
noncomputable def ag2(ta:TA):TI:=fun aj H R=>ta aj H λvs H1=>∃ i j c:Int,vs=[.int i,.int j,.int c]/\(0<=i/\i<1000000/\0<=j/\j<1000000/\0<c/\c<1000000)/\R (J8 i c (uO i j c).toNat) H1
theorem ajC{c:Expr}(hg:Gl X "range")(hm:X.mg "range" = none)(ha:PA X [a,b,c] ta)(hs:gA [a,b,c] X.env=[(false,eval a X.env),(false,eval b X.env),(false,eval c X.env)]:=by rfl)(hs2:gA [b,c] X.env=[(false,eval b X.env),(false,eval c X.env)]:=by rfl):
   PI X tg (.Call (.Name "range" p) [a,b,c] [] pos) (ag2 ta):=by
 intro ao s aj H R I h;refine Ci (xP I hg hm Sg (Bp (bH (ha pos ao s aj H _ I h) λus s1 ⟨vs,H1,I1,r1,q1⟩=>?_) (by rw [hs,hs2]) (by rw [hs2]; rfl)));obtain ⟨i,j,d,e,⟨q1,q2,q3,q4,q5,q6⟩,q⟩:=q1;subst e;cases r1 with
 | cons r rr =>
   cases rr with
   | cons r' rr =>
     cases rr with
     | cons r'' rr =>
       cases rr;obtain ⟨t,rfl⟩:=r;obtain ⟨t',rfl⟩:=r';obtain ⟨t'',rfl⟩:=r''
       have sz0:0<=uO i j d:=by
         unfold uO;rw [bI q5];split
         . have:=Int.ediv_nonneg (a:=j-i-1) (b:=d) (by omega) (by omega);omega
         . exact Vl 0
       have sz1:uO i j d<=1000000:=by
         unfold uO;rw [bI q5];split
         . have:=Int.ediv_le_self (a:=j-i-1) d (by omega);omega
         . omega
       have fits:∀ z:Int,-1<=z->z<=3000000->adl z=true:=λz h1 h2=>by
         unfold adl;simp;omega
       have small:ac1 i j d=true:=by
         unfold ac1;rw [fits i (by omega) (by omega),fits j (by omega) (by omega),fits d (by omega) (by omega),fits _ (by omega) (by omega),bI q5,fits (j+(d-1)) (by omega) (by omega)];simp
       refine call_range_3 (by omega) (aaz (IsRange.new ..) small ?_) (.inl (aa9 (by omega)));have I2:Inv X ao aj H1 { s1 with heap:=s1.heap.push { cls:=.type "range",data:=.fields #[.int i t,.int j t',.int d t''] } }:=I1.kept (t':=s1.toks) λb o e=>cR _ e
       refine ⟨(s1.heap.push { cls:=.type "range",data:=.fields #[.int i t,.int j t',.int d t''] }).objs.size,[(s1.heap.push { cls:=.type "range",data:=.fields #[.int i t,.int j t',.int d t''] }).objs.size],_,_,H1,rfl,
         I2.kept (t':=s1.toks) λb o e=>cR _ e,aiJ _ i d (uO i j d).toNat,?_,λb hb=>?_,q⟩
       . have e1:i+((0:Nat):Int) * d=i:=by simp
         have e2:((uO i j d).toNat:Int)-((0:Nat):Int)=uO i j d:=by omega
         show OD _ _ (i+((0:Nat):Int) * d) (((uO i j d).toNat:Int)-((0:Nat):Int)) d;rw [e1,e2];exact gq _ rfl
       . have e:b=(s1.heap.push { cls:=.type "range",data:=.fields #[.int i t,.int j t',.int d t''] }).objs.size:=by simpa using hb
         subst e;exact I2.ug (bG _) (I2.hok.fresh (bG _))
noncomputable def lK(ks:List Key)(k:Key):Bool:=ks.any λx=>decide (x=k)
variable{ks:List Key}
theorem YH{k:Key}:lK ks k=true↔k∈ks:=by unfold lK;rw [XM];constructor;rintro ⟨x,h,e⟩;rw [<- dB e]; exact h;exact λh=>⟨k,h,cg rfl⟩
theorem ahd(ks:List Key)(k k':Key):lK (ks++[k]) k'=(lK ks k' || decide (k'=k)):=by unfold lK;rw [List.any_append,GQ,List.any_nil,Ol];congr 1;rw [lY,decide_eq_true_iff,decide_eq_true_iff];exact ⟨Eq.symm,Eq.symm⟩
noncomputable def eZ(ks:List Key):Nat->List Key
 | 0=>[]
 | i+1=>match ks[i]? with
   | some k=>if lK (eZ ks i) k=true then eZ ks i else eZ ks i++[k]
   | none=>eZ ks i
variable{i:Nat}
theorem Ms{k:Key}(h:ks[i]?=some k):eZ ks (i+1)=if lK (eZ ks i) k=true then eZ ks i else eZ ks i++[k]:=by show (match ks[i]? with | some k=>_ | none=>_)=_;rw [h]
theorem Fv(ks:List Key):∀ i,(eZ ks i).length<=i
 | 0=>bG _
 | i+1=>by have:=Fv ks i;unfold eZ;split;split;omega;rw [dZ]; simp; omega;omega
theorem Xa{ks:List Key}(h:ks.Nodup):∀ i,i<=ks.length->eZ ks i=ks.take i
 | 0,_=>rfl
 | i+1,hi=>by have hi':i<ks.length:=hi;have ek:ks[i]?=some ks[i]:=gD hi';have e:=Xa h i (sG hi');rw [Ms ek,e,aZ,fZ,ek];rfl;intro z;have z':=YH.mp z;obtain ⟨j,hj,ej⟩:=aaG.mp z';rw [gR] at hj;rw [aaN] at ej;have:=(T3 (i:=j) (j:=i) (h₀:=by omega) (h₁:=hi') h).mp ej;omega
noncomputable abbrev uq(led:Bool):Obj:={ cls:=.type "set",dict:=none,data:=.set #[] 0 (.fresh 0 0 led) }
variable{prog:gk}{A:iI}
theorem setLoop{R:xQ->aK->Prop}{I:au}{wr:List au}{G:Array Nv->Array Nv->Prop}{P:Nat->aB->Prop}{St:Nat->aK->Prop}(W:WalksS prog w A.in1 I fp wr G ks.length P St)(Z:au)(nZ:Z ∉ fp)(isK:∀ i v,P i v->∃ k,ks[i]?=some k/\(gZ prog w).is k v=true/\v.scannable=true)(few:ks.length+1<scanBound): ∀(j i:Nat)(s:aK),ks.length-i=j->i<=ks.length->St i s->s.heap.SetOf (gZ prog w) Z (lK (eZ ks i)) (eZ ks i).length -> (∀ s',Moved (Z :: wr) G s s'->s'.heap.SetOf (gZ prog w) Z (lK (eZ ks ks.length)) (eZ ks ks.length).length->R (.ok (.ret .none)) s') -> jB (aN prog w) A (.builtin "set.update.loop" ⟨[.ref Z,.ref I],[]⟩) R s:=by have nW:Z ∉ wr:=λz=>nZ (W.sub _ z);have sub:∀ b∈wr,b∈Z :: wr:=λb z=>iM _ z;intro j;induction j with| zero =>intro i s ej ei st zS out;have ei':i=ks.length:=(by omega);subst ei';refine wW abd ?_;rw [zy XS _];show aJ _ A.in1 (pyNext (.ref I) >>= _) _ _ s;refine aG (W.done s _ _ st λs' mv=>?_);show aJ _ A.in1 (ret dM) _ _ s';obtain ⟨o,es,ep,t,ho,rest⟩:=zS;exact aR (out s' (mv.mono sub) ⟨o,es,ep,t,mv.heap Z _ nW ho,rest⟩)| succ j ih =>intro i s ej ei st zS out;have lt:i<ks.length:=(by omega);refine wW abd ?_;rw [zy XS _];show aJ _ A.in1 (pyNext (.ref I) >>= _) _ _ s;refine aG (W.item i s _ _ lt st λv s' pv st' mv=>?_);obtain ⟨k,ek,hk,sc⟩:=isK i v pv;have zS':s'.heap.SetOf (gZ prog w) Z (lK (eZ ks i)) (eZ ks i).length:=let ⟨o,es,ep,t,ho,rest⟩:=zS; ⟨o,es,ep,t,mv.heap Z _ nW ho,rest⟩;show aJ _ A.in1 (holding [v] (setAdd Z v) >>= _) _ _ s';refine aG (jO ?_);unfold setAdd;refine jO ?_;refine aG ((gZ prog w).pyHash hk ?_);have le:=Fv ks i;refine wpAny_setAddHashed_of (knd:=gZ prog w) (s:={ s' with toks:=s'.toks+1 }) hk sc zS' (by omega) λh2 sb zS2=>?_;have zS3:h2.SetOf (gZ prog w) Z (lK (eZ ks (i+1))) (eZ ks (i+1)).length:=(by have Ek:h2.SetOf (gZ prog w) Z (λk'=>lK (eZ ks i) k' || decide (k'=k)) (if lK (eZ ks i) k=true then (eZ ks i).length else (eZ ks i).length+1):=zS2;rw [Ms ek];cases q:lK (eZ ks i) k with| true =>rw [q,bI rfl] at Ek;rw [bI rfl];have ef:(λk'=>lK (eZ ks i) k' || decide (k'=k))=lK (eZ ks i):=funext λk'=>(by by_cases z:k'=k;subst z; rw [q]; rfl;rw [fP z,Ol]);rw [ef] at Ek;exact Ek| false =>rw [q,aZ iW] at Ek;rw [aZ iW,dZ];have ef:(λk'=>lK (eZ ks i) k' || decide (k'=k))=lK (eZ ks i++[k]):=funext λk'=>(ahd _ _ _).symm;rw [ef] at Ek;exact Ek);refine aR ⟨Aq XS _,ih (i+1) _ (by omega) lt (W.frame _ s' _ _ st' (Dn _) λb hb o e=>?_) zS3 λs'' mv2 z2=>?_⟩;rw [sb.2 b (λz:b=Z=>nZ (by rw [<- z]; exact hb))]; exact e;refine out s'' (Moved.trans W.gtrans ((mv.mono sub).then_heap (Dn _) λb o hb e=>?_) mv2) z2;rw [sb.2 b (λz:b=Z=>hb (by rw [z]; exact gU))]; exact e
theorem abT:jH X (.builtin "sorted") (λxs H Q=>∃ p ss,xs=[.ref p]/\aV X.K H p (ss.map V.str)/\ss.length<64/\∀ l ss',H l=none->ss'.Perm ss->sortedS ss'=true->Q (.ref l) (upd H l (.lst (ss'.map V.str)))):=by intro ao s aj H xs us Q I r h;obtain ⟨p,ss,rfl,hq,h64,q⟩:=h;obtain ⟨u,rfl,ru⟩:=lZ r;cases ru;obtain ⟨its,rv,pl,_⟩:=I.list hq;have hS:=Ri rv;have hlen:its.length=ss.length:=(by rw [<- rv.length,aL]);refine sorted_strs pl.isList hS (by omega) λout ss' h1 h2 h3=>?_;obtain ⟨e,he⟩:=sortedAll_at s.heap its out;have hl:ss'.length=ss.length:=h2.length_eq;have dO:=cQ;refine ⟨.ref (s.heap.objs.size+1),_,I.laid (t':=s.toks) (o:=.lst (ss'.map V.str)) (λ_ _=>sortedAll_old) (Dn _) ⟨by rw [aL]; omega,out.toList,e,?_,he⟩,rfl,q _ _ (I.hok.fresh (Dn _)) h2 h3⟩;clear he h2 h3 hl;generalize out.toList=l at h1;induction h1 with| nil=>exact .nil| cons x t _ ih=>exact .cons ⟨t,rfl⟩ ih
theorem Zv(c:Nat):∀(n:Nat)(a:Array Nat),(wC n (#[c]:Array Nat)).foldl (·++·) a=a++(wC n c).toArray
 | 0,a=>by simp
 | n+1,a=>by rw [aaU,List.foldl_cons,Zv c n,aaU];apply Array.ext';simp
theorem ahB:cU X (lQ .Mult) (λx y H Q=>rz λ(c:Nat)(n:Int)=>jJ (x=.str ⟨#[c]⟩) (y=.int n) (1<=n) (n<=1000) (Q (.str ⟨(wC n.toNat c).toArray⟩) H)):=by intro ao s aj H x y v u Q I rx ry h;obtain ⟨c,n,rfl,rfl,h1,h2,q⟩:=h;obtain ⟨t,rfl⟩:=rx;obtain ⟨t',rfl⟩:=ry;have n1:¬ n<1:=(by omega);have l1:(⟨#[c]⟩:Str).length=1:=rfl;refine PySem.P.mul_str (by rw [fP (by omega),fP (by omega)]; rfl) (λ_ _ z=>?_) (λ_ _=>?_) ?_;rw [l1] at z;have:(1:Int)<=(2 ^ 63-1) / n:=(by rw [Int.le_ediv_iff_mul_le (by omega)];omega);have z':((1:Nat):Int) > (2 ^ 63-1) / n:=z;omega;rw [l1,Nat.one_mul];show decide (n.toNat > aO)=false;rw [decide_eq_false_iff_not,cQ];omega;rw [aZ n1];by_cases e1:n=1;subst e1;rw [bI (by simp)];exact ⟨.str ⟨#[c]⟩,H,I,⟨t,rfl⟩,q⟩;rw [aZ (by intro z;rw [Bool.or_eq_true] at z;rcases z with z | z;exact e1 (beq_iff_eq.mp z);rw [l1] at z; exact bO z (by decide)),Zv];have e2:(#[]:Array Nat)++(wC n.toNat c).toArray=(wC n.toNat c).toArray:=(by simp);rw [e2];refine ⟨?_,?_⟩;show (wC n.toNat c).toArray.size<=aO;rw [fV,Uq,cQ]; omega;exact ⟨.str _,H,I.tok _,⟨_,rfl⟩,q⟩
theorem afs(n:Nat):DY ((n:Int)-1) (-1) (-1)=n:=by unfold DY;rw [aZ (by decide)];show (if (n:Int)-1 > -1 then ((n:Int)-1 - -1-1) / (- -1)+1 else 0).toNat=n;rw [show (- -1:Int)=1 by decide,Int.ediv_one];split <;> omega
variable{sl:au}{E:aB->aK->Prop}
theorem apd{t:Tok}{Q:Int × Int × Nat->aK->Prop}(hs:s.heap.IsSliceOf sl .none .none (.int (-1) t))(h:Q ((n:Int)-1,-1,n) s):aJ (aN prog w) A (Lx (.ref sl) (pure (n:Int))) Q E s:=by obtain ⟨o,g,c,d⟩:=hs;unfold Lx aep;refine aG (aG (kj g d (x:=.none) rfl (aG (kj g d (x:=.none) rfl (aG (kj g d (x:=.int (-1) t) rfl (aR ?_)))))));refine aG (HT.Ir (.int (-1) t) ?_);show aJ _ _ (if ((-1:Int) == 0)=true then _ else _) _ _ s;rw [aZ (by decide)];refine aG (HT.Ir .none (aG (HT.Ir .none (aG (aR ?_)))));show aJ _ _ (pure ((n:Int)-1,(-1:Int),DY ((n:Int)-1) (-1) (-1))) _ _ s;rw [afs];exact aR h
theorem ajJ(xs:Array aB):((iQ xs.size).filterMap λ(m:Nat)=>xs[((xs.size:Int)-1+(m:Int) * (-1)).toNat]?)=xs.toList.reverse:=by have e:∀ m,m<xs.size->xs[((xs.size:Int)-1+(m:Int) * (-1)).toNat]?=xs.toList.reverse[m]?:=λm hm=>(by rw [List.getElem?_reverse (by simpa using hm),TF,tO];congr 1;omega);have e2:((iQ xs.size).filterMap λ(m:Nat)=>xs[((xs.size:Int)-1+(m:Int) * (-1)).toNat]?)=(iQ xs.toList.reverse.length).filterMap λm=>xs.toList.reverse[m]?:=(by rw [DQ,tO];have e3:∀ l:List Nat,(∀ m∈l,m<xs.size)->(l.filterMap λ(m:Nat)=>xs[((xs.size:Int)-1+(m:Int) * (-1)).toNat]?)=l.filterMap λm=>xs.toList.reverse[m]?:=(by intro l;induction l with| nil=>intro _; rfl| cons x l ih =>intro h;rw [Fo,Fo,e x (h x gU),ih λm hm=>h m (iM _ hm)]);exact e3 _ λm hm=>uI.mp hm);rw [e2];generalize xs.toList.reverse=l;induction l with| nil=>rfl| cons x l ih =>rw [iz,aaO,Fo];simp only [Rn];rw [abp];congr 1
variable{Q:aB->aK->Prop}
theorem ah4{t:au}{items:Array aB}{tk:Tok}(ht:pO s.heap t items)(hs:s.heap.IsSliceOf sl .none .none (.int (-1) tk))(h:Q (.ref s.heap.objs.size) { s with heap:=s.heap.push { cls:=.type "tuple",data:=.seq items.toList.reverse.toArray } })(hz:items.size<=aO):aJ (aN prog w) A (getItem (.ref t) (.ref sl)) Q E s:=by
 have fits:sizeOk (.seq items.toList.reverse.toArray):=by
   show items.toList.reverse.toArray.size<=aO;rw [fV,DQ,tO]; exact hz
 obtain ⟨os,g,c,d⟩:=id hs;have hT:s.TypeIs (.ref sl) "slice":=⟨os,g,c⟩;unfold getItem
 try with_reducible refine jO ?_
 first | refine aG (aR ?_) | skip
 refine aG (WQ ht.typeIs (by decide) (aG (Bb (name:=xO "__getitem__") ht.typeIs Fp (tH Fp ht.typeIs PyProof.Rows.entry_tuple_getitem ?_ (PyProof.Rows.args_tuple_getitem _ _)))));show aJ _ _ (Xg (.ref t) >>= _) _ _ s;refine aG (PyProof.Rows.tupleItemsOf_ ht (aG (CP hT ?_)));rw [bI (by decide)];refine aG (apd hs ?_)
 have no:¬ (((items.size:Int)-1 == 0 && (-1:Int) == 1 && items.size == items.size)=true):=by
   intro q;rw [pF,pF] at q;exact bO q.1.2 (by decide)
 show aJ _ _ (if ((items.size:Int)-1 == 0 && (-1:Int) == 1 && items.size == items.size)=true then _ else _) _ _ s;rw [aZ no,ajJ]
 first
   | exact aG (m:=Bk _) (oK (aR ⟨_,rfl,aR h⟩) fits)
   | exact aG (m:=Bk _) (oK (aG (aR (aR ⟨_,rfl,aR h⟩))) fits)
   | exact aG (aG (m:=Bk _) (oK (aR (aR ⟨_,rfl,aR h⟩)) fits))
   | exact aG (aG (m:=Bk _) (oK (aR ⟨_,rfl,aR h⟩) fits))
theorem amA:∀{xs:List V}{us:List aB},cD xs us->cD xs.reverse us.reverse:=by intro xs us r;induction r with| nil=>exact .nil| cons r _ ih =>rw [JW,JW];exact ih.append (.cons r .nil)
noncomputable def Zq(K:bV)(te:TE):TE:=fun aj H Q=>te aj H λx H1=>∃ a xs,x=.ref a/\aH K H1 a xs/\∀ p,H1 p=none->Q (.ref p) (upd H1 p (.tup xs.reverse))
theorem aci{k:Nat}{p1 p2 p3:Pos}(he:PE X e te):PE X (.Subscript e (.Slice none none (some (.UnaryOp .USub (.Constant (.int 1) k p1) p2)) p3) pos) (Zq X.K te):=by intro ao s aj H Q I h;refine Oh (bH (he ao s aj H _ I h) λv s1 ⟨x,H1,I1,r1,q1⟩=>?_);obtain ⟨a,xs,rfl,hq,q⟩:=q1;cases (show v=cL a from r1);refine wpAny_Slice ?_;rw [Wt];refine aR ?_;refine aR ?_;rw [evalPart_some];have pm:PE X (.UnaryOp .USub (.Constant (.int 1) k p1) p2) (tUn _ (tC (.int 1))):=NZ K4 aM;refine bH (pm ao s1 aj H1 (λz H2=>z=.int (-1)/\H2=H1) I1 ⟨rfl,rfl⟩) λu s2 ⟨z,H2,I2,r2,ez,eH⟩=>?_;subst ez;obtain rfl:H1=H2:=eH.symm;obtain ⟨t,rfl⟩:=r2;obtain ⟨its,rv,ht,hz⟩:=I2.tuple hq;have hlen:its.toArray.size=xs.length:=(by rw [fV]; exact rv.length.symm);have I3:Inv X ao aj H1 { s2 with heap:=s2.heap.push { cls:=.type "slice",data:=.fields #[.none,.none,.int (-1) t] } }:=I2.kept (t':=s2.toks) λb ob q=>cR _ q;obtain ⟨its,rv,ht,hz⟩:=I3.tuple hq;show aJ (aN X.prog X.w) X.A (subscriptTail e (.Slice none none (some (.UnaryOp .USub (.Constant (.int 1) k p1) p2)) p3) (.ref a) (.ref s2.heap.objs.size)) (EP X ao aj Q) X.xe { s2 with heap:=s2.heap.push { cls:=.type "slice",data:=.fields #[.none,.none,.int (-1) t] } };refine tail_any (ops:=[.ref a,.ref s2.heap.objs.size]) ht.typeIs PyProof.Rows.slot_tuple_getitem.lookup (ah4 ht (abY ..) ?_ (by rw [fV,<- rv.length]; exact hz)) (by with_unfolding_all rfl);refine ⟨.ref (s2.heap.push { cls:=.type "slice",data:=.fields #[.none,.none,.int (-1) t] }).objs.size,_,I3.laid (t':=s2.toks) (o:=.tup xs.reverse) (λb ob q=>cR _ q) (bG _) ?_,rfl,q _ (I3.hok.fresh (bG _))⟩;exact ⟨by rw [DQ]; exact hz,_,amA rv,uQ.new _ _⟩
noncomputable def FJ(P:gk)(w:fK)(p:au)(ks:List Key):aY->Prop:=λh=>h.SetOf (gZ P w) p (lK (eZ ks ks.length)) (eZ ks ks.length).length
theorem akp:∀{ks:List Key}{us:List aB},cD (ks.map kV) us->∀(i:Nat)(v:aB),us[i]?=some v->∃ k,ks[i]?=some k/\(gZ X.prog X.w).is k v=true/\v.scannable=true:=by
 intro ks us r i v e
 obtain ⟨k,ek⟩:∃ k,ks[i]?=some k:=by
   have hl:=r.length;rw [aL] at hl
   have:i<us.length:=by
     rcases En i us.length with z | z
     . exact z
     . rw [Jr z] at e; cases e
   exact ⟨ks[i],gD (by omega)⟩
 obtain ⟨u,eu,ru⟩:=r.get (i:=i) (x:=kV k) (by rw [bL,ek]; rfl);rw [e] at eu;cases eu;refine ⟨k,ek,Ds ru,?_⟩;cases k with
 | inl j=>cases j with
   | none=>cases (show v=dM from ru); rfl
   | some j=>obtain ⟨t,rfl⟩:=(show ∃ t,v=Ef j t from ru); rfl
 | inr x=>obtain ⟨t,rfl⟩:=(show ∃ t,v=vf x t from ru); rfl
theorem Oz:jH X (.builtin "len") (λxs H Q=>∃ p ks,xs=[.ref p]/\H p=some (.ext (FJ X.prog X.w p ks))/\Q (.int (eZ ks ks.length).length) H):=by intro ao s aj H xs us Q I r h;obtain ⟨p,ks,rfl,hp,q⟩:=h;obtain ⟨u,rfl,ru⟩:=lZ r;cases ru;obtain ⟨⟨o,es,ep,t,ho,hex,hd,hel,hmem,hb,hf,hn⟩,_⟩:=(show gF X.prog X.w H s.heap p (.ext (FJ X.prog X.w p ks)) from I.hok p _ hp);refine call_len_set ho hex hd hf (by unfold scanBound at hb; omega) ?_;exact ⟨.int (eZ ks ks.length).length,H,I.tok _,⟨_,by rw [hn]⟩,q⟩
theorem ame:MtM X "dict.update" (λx xs H Q=>qN λa b kvs more=>QA7 (x=.ref a) (xs=[.ref b]) (a≠b) (H a=some (.dK kvs)) (H b=some (.dK more)) (kvs.length+more.length<=aO) (Q .non (upd H a (.dK (um kvs more))))):=by intro ao s aj H x xs v us Q I rx rs h;obtain ⟨a,b,kvs,more,rfl,rfl,ne,ha,hb,hz,q⟩:=h;cases (show v=cL a from rx);obtain ⟨u,rfl,ru⟩:=lZ rs;cases ru;obtain ⟨z1,d1,vs1,Wc,dd1⟩:=DN I.hok ha;obtain ⟨z2,d2,vs2,Xq,dd2⟩:=DN I.hok hb;refine call_meetsIn ZD dd1.typeIs PySem.F.entry_dict_update (PySem.F.args_dict_update_2 _ _) (meets_dict_update (gZ X.prog X.w) a b ne d2) ⟨vs1,vs2,dd1,dd2,by rw [<- Wc.length,<- Xq.length]; exact hz,λh' m1 m2 sb=>?_⟩;have he:∃ q,h'.get? a=some q:=let ⟨q,_,_,hq,_⟩:=m1; ⟨q,hq⟩;have hl:(um kvs more).length<=aO:=(by refine jF ?_ hz;clear hz q Xq dd2 m1 m2 hb z2 ha Wc dd1 z1;induction more generalizing kvs with| nil=>exact bG _| cons p r ih =>have h1:=ih (kvs:=eV kvs p.1 p.2);have h2:=yF kvs p.1 p.2;show (um (eV kvs p.1 p.2) r).length<=_;rw [iz];omega);exact ⟨.non,_,Kv I (by rw [ha]; exact rN) sb he (Mw hl d1 (Xq.merge Wc) m1),rfl,q⟩
theorem an5{x:aB}{ss:List Str}(h64:ss.length<64)(col:∀(R:List aB->aK->Prop),(∀(h':aY)(tk:Nat)(vs:List aB),(∀ b o,s.heap.get? b=some o->h'.get? b=some o)->wF vs ss->R vs { s with heap:=h',toks:=tk })->aJ (aN prog w) A.in1 (collect x) R E s)(h:∀(h1 h':aY)(tk:Nat)(out:List aB)(ss':List Str)(n:Nat),(∀ b o,s.heap.get? b=some o->h1.get? b=some o)->(∀ b o,h1.get? b=some o->h'.get? b=some o)->h'.get? h1.objs.size=some (seqObj "list" out.toArray n)->wF out ss'->ss'.Perm ss->sortedS ss'=true->Q (.ref h1.objs.size) { s with heap:=h',toks:=tk }): aJ (aN prog w) A (call (.builtin "sorted") [x]) Q E s:=by refine SN RG Sw WR (R3 _) ?_;unfold lD.«sorted»;refine aG (m:=checkCount "sorted" 1 1 _) (aR ?_);refine aG (col _ λh' tk vs kk hS=>?_);have hl:vs.length=ss.length:=(by rw [<- hS.strs,aL]);have dO:=cQ;refine aG (Oj ?_ (by omega));have g0:(h'.push (seqObj "list" vs.toArray 0)).get? h'.objs.size=some (seqObj "list" vs.toArray 0):=gq _ rfl;refine aG (jO (tH Xj (s:={ s with heap:=h'.push (seqObj "list" vs.toArray 0),toks:=tk }) ⟨_,g0,rfl⟩ QS (list_sort_treeK (s:={ s with heap:=h'.push (seqObj "list" vs.toArray 0),toks:=tk }) strKind_oneLt g0 hS.keysOf (λv₁ v₂ rest e=>keyKind_strs (by rw [<- e]; exact hS)) (by omega) λst' p1 p2=>⟨_,rfl,?_⟩) (RW _)));obtain ⟨ss',q1,q2,q3⟩:=sorted_out_str hS p1 p2;obtain ⟨n,hn⟩:=Vt (vs:=vs) (out:=(arrOf st').map (·.2)) g0;refine aR ⟨_,rfl,h h' _ tk ((arrOf st').map (·.2)).toList ss' n kk (λb o e1=>?_) (by rw [ab4]; exact hn) q1 q2 q3⟩;have lt:b<h'.objs.size:=bQ e1;show (sortedHeap (h'.push (seqObj "list" vs.toArray 0)) h'.objs.size vs _).get? b=some o;rw [Xk (fB lt) (by rw [qY]; exact yL lt)];exact cR _ e1
theorem apx:∀{ss:List Str}{us:List aB},wF us ss->cD (ss.map V.str) us:=by intro ss us h;induction h with| nil=>exact .nil| cons x t _ ih=>exact .cons ⟨t,rfl⟩ ih
theorem aaJ:∀{ss:List Str}{us:List aB},us.length=ss.length->(∀(i:Nat)(v:aB),us[i]?=some v->∃ x t,ss[i]?=some x/\v=.str x t)->wF us ss
 | [],[],_,_=>.nil
 | x :: ss,u :: us,hl,h=>by obtain ⟨y,t,e,rfl⟩:=h 0 u rfl;cases (show some x=some y from e);exact .cons x t (aaJ (by simpa using hl) λi v e=>h (i+1) v (by simpa using e))
 | [],_ :: _,hl,_=>by simp at hl
 | _ :: _,[],hl,_=>by simp at hl
theorem ac2(hc:X.calm=true):jH X (.builtin "sorted") (λxs H Q=>sY λp kvs ss=>jJ (xs=[.ref p]) (H p=some (.dK kvs)) (kvs.map (·.1)=ss.map bR) (ss.length<64) (∀ l ss',H l=none->ss'.Perm ss->sortedS ss'=true->Q (.ref l) (upd H l (.lst (ss'.map V.str))))):=by intro ao s aj H xs us Q I r h;obtain ⟨p,kvs,ss,rfl,hp,hk,h64,q⟩:=h;obtain ⟨u,rfl,ru⟩:=lZ r;cases ru;obtain ⟨z,d,vs,rel,dd⟩:=DN I.hok hp;have hl:kvs.length=ss.length:=(by have:=jr rA hk; simpa using this);have hvl:vs.length=ss.length:=(by rw [<- rel.length]; exact hl);have dO:=cQ;obtain ⟨ep,hat⟩:=dd.dictAt;refine an5 h64 (λR hR=>Q5 (A:=X.A.in1) (PySem.W.kdl_dict (knd:=gZ X.prog X.w) (kvs:=vs) (ep:=ep) d) (by simpa using I.ok.hd hc) hat (by omega) λh' tk acc kk hacc=>hR h' tk acc.toList kk ?_) λh1 h' tk out ss' n k1 k2 ho hS hp2 hs=>?_;refine aaJ (by rw [tO]; exact hacc.1.aA hvl) λi v e=>?_;obtain ⟨k,x,ek,hk'⟩:=hacc.2 i v (by simpa using e);have ek2:(kvs.map (·.1))[i]?=some k:=(by rw [rel.keys,bL,ek]; rfl);rw [hk,bL] at ek2;(cases es:ss[i]? with| none=>rw [es] at ek2; cases ek2| some y =>rw [es] at ek2;cases (show some (bR y:Key)=some k from ek2);rcases sI (show xT (bR y) v=true from hk') with ⟨j,t,e1,e2⟩ | ⟨x',t,e1,e2⟩ | ⟨e1,e2⟩;cases e1;cases e1;exact ⟨y,t,rfl,e2⟩;cases e1);have I1:Inv X ao aj H { s with heap:=h1,toks:=tk }:=I.kept k1;have hl':ss'.length=ss.length:=hp2.length_eq;exact ⟨.ref h1.objs.size,_,I1.laid (t':=tk) (o:=.lst (ss'.map V.str)) k2 (bG _) ⟨by rw [aL]; omega,out,n,apx hS,ho⟩,rfl,q _ _ (I1.hok.fresh (bG _)) hp2 hs⟩
noncomputable def Dt(h:aY)(d:au)(es:Array Pn)(ep:Nat):Prop:=∃ o,h.get? d=some o/\o.ExactDict/\o.data=.dict es ep
variable{d:au}{es:Array Pn}{ep:Nat}
theorem Dt.typ(R:Dt s.heap d es ep):s.TypeIs (.ref d) "dict":=let ⟨o,e,x,_⟩:=R; ⟨o,e,x.1⟩
theorem anv(nS:(d == sysModules)=false)(R:Dt s.heap d es ep)(q:Q (.ref s.heap.objs.size) { s with heap:=s.heap.push { cls:=.type "dict_keyiterator",data:=.fields #[.ref d,.int 0 0,.int es.size 0,.int ep 0] } }):aJ (aN prog w) A (pyIter (.ref d)) Q E s:=by have T:=R.typ;obtain ⟨o,e,_,dat⟩:=R;refine wpAny_pyIter_slot T aax (tH aax T PySem.F.entry_dict_iter ?_ (PySem.F.args_dict_iter_1 _));unfold lD.«dict.__iter__»;refine aG ?_;unfold Builtin.Dict.dictSlotNone;refine aG (acM T ?_);show aJ _ _ (pure (cL d)) _ _ s;refine aR ?_;show aJ _ _ (aaD d >>= _) _ _ s;unfold aaD;rw [aZ (by rw [nS]; exact iW)];refine aG (aR (aG (Wv e dat (aG (WW e dat ?_)))));refine aG (oK (aR ⟨_,rfl,"dict_keyiterator",_,⟨_,gq _ rfl,rfl⟩,PySem.F.slot_dict_keyiterator_next.lookup,?_⟩));simpa [rawInt] using q
variable{it:au}{Q:Option aB->aK->Prop}
theorem ajf(K:s.heap.IsKeyIter it d i es.size ep)(R:Dt s.heap d es ep)(lt:i<es.size)(q:∀ h',h'.IsKeyIter it d (i+1) es.size ep->vH it s.heap h'->Q (some es[i].key) { s with heap:=h' }):aJ (aN prog w) A (pyNext (.ref it)) Q E s:=by obtain ⟨o,e,c,dt⟩:=id K;obtain ⟨od,e2,_,dd⟩:=R;unfold pyNext;refine aG (Cj (Bb (name:=xO "__next__") K.typeIs Ou (tH Ou K.typeIs aat ?_ (abI _))));refine aG (aR (aG (aG ?_)));(first | refine aG (O7 K.typeIs (aR ?_)) | refine aG (Ke K.typeIs (aR ?_)));refine aG (wpAny_fieldsOf e dt ?_);have own:aa2 "dict_keyiterator" = false:=(by decide);simp only [own,uH,if_false];show aJ _ _ (if (cL d == dM)=true then _ else _) _ _ s;rw [aZ (show ¬ ((cL d == dM)=true) from iW)];refine aG (aR (aG (Wv e2 dd ?_)));rw [aZ (by simp)];refine aG (aR (aG (WW e2 dd ?_)));rw [aZ (by simp)];refine aR ?_;simp only [show ¬ ((i:Int)<0) from by omega,if_false,Am,Uc lt];refine aG ?_;(first | refine aG (O7 K.typeIs (aR ?_)) | refine aG (Ke K.typeIs (aR ?_)));refine aG (Zb K.typeIs ?_);show aJ _ _ (setField (.ref it) 1 (rawInt ((i:Int)+1)) >>= _) _ _ s;refine aG (yD e dt (by simp) ?_);have K':(s.heap.update it (vO (·.setIfInBounds 1 (rawInt ((i:Int)+1))))).IsKeyIter it d (i+1) es.size ep:=⟨_,xY _ e (M9 (Bg dt _)),(SM ..).aA c,by rw [Bg dt]; simp [rawInt]⟩;refine aG (jO (aG (Zb (s:={ s with heap:=s.heap.update it (vO (·.setIfInBounds 1 (rawInt ((i:Int)+1)))) }) K'.typeIs ?_)));show aJ _ _ (pure es[i].key) _ _ _;exact aR (aR ⟨_,rfl,aR (q _ K' (Di ..))⟩)
theorem akF(hh:A.handled=none)(K:s.heap.IsKeyIter it d es.size es.size ep)(R:Dt s.heap d es ep)(q:∀ h',Dv it s.heap h'->Q none { s with heap:=h' }): aJ (aN prog w) A (pyNext (.ref it)) Q E s:=by obtain ⟨o,e,c,dt⟩:=id K;obtain ⟨od,e2,_,dd⟩:=R;unfold pyNext;refine aG (Cj (Bb (name:=xO "__next__") K.typeIs Ou (tH Ou K.typeIs aat ?_ (abI _))));refine aG (aR (aG (aG ?_)));(first | refine aG (O7 K.typeIs (aR ?_)) | refine aG (Ke K.typeIs (aR ?_)));refine aG (wpAny_fieldsOf e dt ?_);have own:aa2 "dict_keyiterator" = false:=(by decide);simp only [own,uH,if_false];show aJ _ _ (if (cL d == dM)=true then _ else _) _ _ s;rw [aZ (show ¬ ((cL d == dM)=true) from iW)];refine aG (aR (aG (Wv e2 dd ?_)));rw [aZ (by simp)];refine aG (aR (aG (WW e2 dd ?_)));rw [aZ (by simp)];refine aR ?_;simp only [show ¬ ((es.size:Int)<0) from by omega,if_false,Am,Lk (bG es.size)];refine aG ?_;(first | refine aG (O7 K.typeIs (aR ?_)) | refine aG (Ke K.typeIs (aR ?_)));show aJ _ _ (setField (.ref it) 0 .none >>= _) _ _ s;refine aG (yD e dt (by simp) ?_);show aJ _ _ (newExc (.type "StopIteration") [] >>= _) _ _ _;refine aG ?_;simp only [newExc,newTuple];refine aG (oK ?_ (by size_fits));refine aG (m:=firstArgMember _ _) (KN (a:=dM) (by first | rfl | (simp only [firstArgMember]; rfl)) (oK ?_ (by size_fits)));simp only [raiseNew];refine aG (wpAny_handled ?_);rw [show A.in1.handled=none from hh];refine (aG (aR (SX ?_)));refine (aG (Es (T:="StopIteration") (b:=true) ⟨_,gq _ rfl,rfl⟩ Uz ?_));exact aR (q _ (((Di ..).extBut.push _).push _))
theorem ai2(nS:(d == sysModules)=false):PySem.W.KdlSrc prog w "dict" d d es.size (λi v=>∃ e,es[i]?=some e/\v=e.key) (λh=>Dt h d es ep) where
 type:=λ_ R=>R.typ
 there:=λ_ R=>let ⟨_,e,_⟩:=R; ⟨bQ e,bQ e⟩
 keep:=λ_ _ R hk=>let ⟨o,e,r⟩:=R; ⟨o,hk d (.inl rfl) o e,r⟩
 notList:=by decide
 notTuple:=by decide
 hint:=λ_ _ _ _ R q=>PySem.W.kdl_hint_dict R.typ q
 iter:=λA s hh R=>by
   have lt:d<s.heap.objs.size:=let ⟨_,e,_⟩:=R; bQ e
   have ne:d≠s.heap.objs.size:=fB lt;refine ⟨_,λi h=>h.IsKeyIter s.heap.objs.size d i es.size ep/\Dt h d es ep,(λ_ _ q=>anv nS R q),⟨λb hb=>by simp at hb; simp [hb],λi h h' st hk=>?_,λi s' Q E hi st q=>?_,λs' Q E st q=>?_,λi s' Q E st q=>wpAny_pyIter_keyiter st.1 q⟩,⟨⟨_,gq _ rfl,rfl,rfl⟩,let ⟨o,e,r⟩:=R; ⟨o,cR _ e,r⟩⟩⟩
   . obtain ⟨⟨o,e,r⟩,⟨o2,e2,r2⟩⟩:=st;exact ⟨⟨o,hk _ (by simp) o e,r⟩,⟨o2,hk d (by simp) o2 e2,r2⟩⟩
   . refine ajf st.1 st.2 hi λh' K' sb=>?_
     exact q _ h' s'.toks ⟨es[i],by simp [hi],rfl⟩ ⟨K',let ⟨o,e,r⟩:=st.2; ⟨o,sb.extBut d o ne e,r⟩⟩ λb o hb e=>sb.extBut b o (λz=>hb (by simp [z])) e
   . exact akF hh st.1 st.2 λh' he=>q h' s'.toks λb o hb e=>he b o (λz=>hb (by simp [z])) e
end L2
namespace L2
open PySem PySem.Spec PyProof.Rows PySem.W
noncomputable def uX{bM:Type}(n:Nat)(lt:Nat->Nat->Bool):KasT bM->Option bM
 | .ret a=>some a
 | .ask i j k=>if i<n/\j<n then uX n lt (k (lt i j)) else none
theorem aeS{bM:Type}{n:Nat}{lt:Nat->Nat->Bool}{ask:Nat->Nat->(Bool->aK->Prop)->aK->Prop}{s:aK}(ha:∀ i j C,i<n->j<n->C (lt i j) s->ask i j C s):∀(t:KasT bM)(a:bM)(Q:bM->aK->Prop),uX n lt t=some a->Q a s->t.kasWp ask Q s
 | .ret b,a,Q,h,q=>by cases (show some b=some a from h);exact q
 | .ask i j k,a,Q,h,q=>by have h':(if i<n/\j<n then uX n lt (k (lt i j)) else none)=some a:=h;by_cases c:i<n/\j<n;rw [bI c] at h';exact ha i j _ c.1 c.2 (aeS ha (k (lt i j)) a Q h' q);rw [aZ c] at h'; cases h'
theorem aeC{bM:Type}{n:Nat}{lt lt':Nat->Nat->Bool}(h:∀ i j,i<n->j<n->lt i j=lt' i j):∀ t:KasT bM,uX n lt t=uX n lt' t
 | .ret _=>rfl
 | .ask i j k=>by show (if i<n/\j<n then uX n lt (k (lt i j)) else none)=if i<n/\j<n then uX n lt' (k (lt' i j)) else none;by_cases c:i<n/\j<n;rw [bI c,bI c,h i j c.1 c.2]; exact aeC h _;rw [aZ c,aZ c]
noncomputable def rk(r:List Nat)(i j:Nat):Bool:=decide (r.getD i 0<r.getD j 0)
noncomputable def Rp(n:Nat)(r:List Nat):Bool:=match uX n (rk r) (Hj n) with
 | some p=>(p.toList.map λi=>r.getD i 0) == iQ n && p.toList.all λi=>decide (i<n)
 | none=>false
noncomputable def QM(x:Nat):List Nat->List (List Nat)
 | []=>[[x]]
 | y :: l=>(x :: y :: l) :: (QM x l).map (y :: ·)
noncomputable def perms:List Nat->List (List Nat)
 | []=>[[]]
 | x :: l=>(perms l).flatMap (QM x)
theorem adX(x:Nat):∀(a b:List Nat),a++x :: b∈QM x (a++b)
 | [],[]=>gU
 | [],_ :: _=>gU
 | y :: a,b=>iM _ (cZ.mpr ⟨_,adX x a b,rfl⟩)
theorem acA:∀(l l':List Nat),l'.Perm l->l'∈perms l
 | [],l',h=>by rw [List.Perm.eq_nil h]; exact gU
 | x :: l,l',h=>by obtain ⟨a,b,rfl⟩:=List.append_of_mem (h.mem_iff.mpr gU);have h2:(a++b).Perm l:=(List.perm_middle.symm.aA h).cons_inv;exact sy.mpr ⟨a++b,acA l _ h2,adX x a b⟩
theorem aoH:((iQ 7).all λn=>n<2 || (perms (iQ n)).all (Rp n))=true:=by decide +kernel
variable{n:Nat}
theorem ajZ{r:List Nat}(h2:2<=n)(h6:n<=6)(hr:r.Perm (iQ n)):Rp n r=true:=by have h:=fW.mp aoH n (uI.mpr (by omega));rw [Bool.or_eq_true] at h;rcases h with h | h;have:=dB h; omega;exact fW.mp h r (acA _ _ hr)
structure Strict{κ:Type}(lt:κ->κ->Bool):Prop where
 irr:∀ a,lt a a=false
 aA:∀ a b c,lt a b=true->lt b c=true->lt a c=true
 tot:∀ a b,a≠b->lt a b=true\/lt b a=true
section
variable{κ:Type}{lt:κ->κ->Bool}(S:Strict lt)
include S
noncomputable def rankOf(lt:κ->κ->Bool)(ks:List κ)(k:κ):Nat:=ks.countP λk'=>lt k' k
omit S in
theorem aaQ{p q:κ->Bool}{ks:List κ}(h:∀ x∈ks,p x=true->q x=true){z:κ}(hz:z∈ks)(h1:p z=false)(h2:q z=true):ks.countP p<ks.countP q:=by induction ks with| nil=>cases hz| cons x l ih =>have hl:l.countP p<=l.countP q:=List.countP_mono_left λy hy=>h y (iM _ hy);rcases dU.mp hz with e | e;subst e;rw [Ml,Ml,h1,h2];simp; omega;have hlt:=ih (λy hy=>h y (iM _ hy)) e;rw [Ml,Ml];cases hp:p x with| false=>simp; omega| true=>rw [h x gU hp]; simp; omega
theorem Nr{ks:List κ}{a b:κ}(ha:a∈ks)(h:lt a b=true):rankOf lt ks a<rankOf lt ks b :=
 aaQ (λx _ hx=>S.aA _ _ _ hx h) ha (S.irr a) h
theorem aas{ks:List κ}{a b:κ}(ha:a∈ks)(hb:b∈ks):decide (rankOf lt ks a<rankOf lt ks b)=lt a b:=by cases h:lt a b with| true=>exact cg (Nr S ha h)| false =>refine fP λz=>?_;rcases Hy (a=b) with e | e;subst e; omega;rcases S.tot a b e with q | q;rw [h] at q; cases q;have:=Nr S hb q; omega
theorem anm{ks:List κ}{a:κ}(ha:a∈ks):rankOf lt ks a<ks.length:=by have h:=aaQ (p:=λk'=>lt k' a) (q:=λ_=>true) (ks:=ks) (λ_ _ _=>rfl) ha (S.irr a) rfl;rw [List.countP_true] at h;exact h
theorem akY{ks:List κ}(hn:ks.Nodup):(ks.map (rankOf lt ks)).Perm (iQ ks.length):=by have nd:(ks.map (rankOf lt ks)).Nodup:=(by rw [pU,yC];refine adf (λ{a b} ha hb h=>?_) (pU.mp hn);intro z;rcases S.tot a b h with q | q;have:=Nr S ha q; omega;have:=Nr S hb q; omega);have sub:(ks.map (rankOf lt ks)) ⊆ iQ ks.length:=λx hx=>(by obtain ⟨k,hk,rfl⟩:=cZ.mp hx;exact uI.mpr (anm S hk));rw [aeK nd List.nodup_range];intro x;constructor;exact λh=>sub h;intro h;apply ad2;intro hx;have h1:(x :: ks.map (rankOf lt ks)).Nodup:=yW.mpr ⟨hx,nd⟩;have h2:(x :: ks.map (rankOf lt ks)) ⊆ iQ ks.length:=λy hy=>(by rcases dU.mp hy with e | e;rw [e]; exact h;exact sub e);have:=h1.length_le_of_subset h2;rw [iz,aL,Ib] at this;omega
theorem ao6{ks:List κ}(hn:ks.Nodup)(h2:2<=ks.length)(h6:ks.length<=6)(d:κ): ∃ p:Array Nat,uX ks.length (λi j=>lt (ks.getD i d) (ks.getD j d)) (Hj ks.length)=some p/\(p.toList.map λi=>ks.getD i d).Perm ks/\(p.toList.map λi=>ks.getD i d).Pairwise (λa b=>lt a b=true)/\∀ i∈p.toList,i<ks.length:=by have hp:=akY S hn;have hc:=ajZ h2 h6 hp;have at':∀ i,i<ks.length->(ks.map (rankOf lt ks)).getD i 0=rankOf lt ks (ks.getD i d):=λi hi=>(by simp [Gq,bL,gD hi]);have mem:∀ i,i<ks.length->ks.getD i d∈ks:=λi hi=>(by simp only [Gq,gD hi,zf];exact WT hi);have e:uX ks.length (λi j=>lt (ks.getD i d) (ks.getD j d)) (Hj ks.length)=uX ks.length (rk (ks.map (rankOf lt ks))) (Hj ks.length):=aeC (λi j hi hj=>by unfold rk;rw [at' i hi,at' j hj,aas S (mem i hi) (mem j hj)]) _;unfold Rp at hc;rw [<- e] at hc;cases hr:uX ks.length (λi j=>lt (ks.getD i d) (ks.getD j d)) (Hj ks.length) with| none=>rw [hr] at hc; cases hc| some p =>rw [hr] at hc;have hc':=cB.mp hc;have h1:(p.toList.map λi=>(ks.map (rankOf lt ks)).getD i 0)=iQ ks.length:=(by simpa using hc'.1);have hb:∀ i∈p.toList,i<ks.length:=λi hi=>dB (fW.mp hc'.2 i hi);have h1':(p.toList.map λi=>rankOf lt ks (ks.getD i d))=iQ ks.length:=(by rw [<- h1];exact J5 λi hi=>(at' i (hb i hi)).symm);have pw:(p.toList.map λi=>ks.getD i d).Pairwise (λa b=>lt a b=true):=(by have h3:(p.toList.map λi=>rankOf lt ks (ks.getD i d)).Pairwise (·<·):=(by rw [h1']; exact List.pairwise_lt_range);rw [yC] at h3 |-;refine adf (λ{a b} ha hb' h=>?_) h3;rw [<- aas S (mem a (hb a ha)) (mem b (hb b hb'))];exact cg h);refine ⟨p,rfl,?_,pw,hb⟩;have nd:(p.toList.map λi=>ks.getD i d).Nodup:=(by rw [pU];refine pw.imp λ{a b} h z=>?_;subst z;rw [S.irr] at h; cases h);rw [aeK nd hn];have sub:(p.toList.map λi=>ks.getD i d) ⊆ ks:=λx hx=>(by obtain ⟨i,hi,rfl⟩:=cZ.mp hx;exact mem i (hb i hi));have len:(p.toList.map λi=>ks.getD i d).length=ks.length:=(by have:=jr rA h1';rw [aL,Ib] at this;rw [aL]; exact this);intro x;constructor;exact λh=>sub h;intro h;apply ad2;intro hx;have q1:(x :: p.toList.map λi=>ks.getD i d).Nodup:=yW.mpr ⟨hx,nd⟩;have q2:(x :: p.toList.map λi=>ks.getD i d) ⊆ ks:=λy hy=>(by rcases dU.mp hy with e | e;rw [e]; exact h;exact sub e);have:=q1.length_le_of_subset q2;rw [iz,len] at this;omega
end
noncomputable def slt(a b:Str):Bool:=decide (a.cps.toList<b.cps.toList)
theorem amb{a b:Str}(h:a.cps.toList=b.cps.toList):a=b:=by cases a; cases b;congr 1;exact Array.toList_inj.mp h
theorem Cr:Strict slt where
 irr:=λa=>fP (List.lt_irrefl _)
 aA:=λa b c h1 h2=>cg (List.lt_trans (dB h1) (dB h2))
 tot:=λa b h=>by
   rcases Hy (a.cps.toList<b.cps.toList) with q | q
   . exact .inl (cg q)
   . rcases Hy (b.cps.toList<a.cps.toList) with q2 | q2
     . exact .inr (cg q2)
     . exact bO (amb (List.le_antisymm q2 q)) h
noncomputable def mF(a b:Str × Str):Bool:=if a.1=b.1 then (if a.2=b.2 then false else slt a.2 b.2) else slt a.1 b.1
theorem agw:Strict mF where
 irr:=λa=>by unfold mF; simp
 aA:=λa b c h1 h2=>by
   unfold mF at h1 h2 |-;have T:=Cr.aA;have R:=Cr.irr;by_cases e1:a.1=b.1
   . rw [bI e1] at h1;by_cases e2:b.1=c.1
     . rw [bI e2] at h2;rw [bI (e1.aA e2)];by_cases f1:a.2=b.2
       . rw [bI f1] at h1; cases h1
       . rw [aZ f1] at h1;by_cases f2:b.2=c.2
         . rw [bI f2] at h2; cases h2
         . rw [aZ f2] at h2;have h3:=T _ _ _ h1 h2;rw [aZ (λz=>by rw [z,R] at h3; cases h3)];exact h3
     . rw [aZ e2] at h2;rw [aZ (λz=>e2 (e1.symm.aA z)),e1];exact h2
   . rw [aZ e1] at h1;by_cases e2:b.1=c.1
     . rw [aZ (λz=>e1 (z.aA e2.symm)),<- e2];exact h1
     . rw [aZ e2] at h2;have h3:=T _ _ _ h1 h2;rw [aZ (λz=>by rw [z,R] at h3; cases h3)];exact h3
 tot:=λa b h=>by
   unfold mF;by_cases e:a.1=b.1
   . have f:a.2≠b.2:=λz=>h (Prod.ext e z)
     rw [bI e,aZ f,bI e.symm,aZ (bW f)];exact Cr.tot _ _ f
   . rw [aZ e,aZ (bW e)];exact Cr.tot _ _ e
noncomputable def Je(h:aY)(a:au)(v:aB)(k:Str × Str):Prop:=∃ b o m t u,v=.ref b/\b≠a/\h.get? b=some o/\o.cls=.type "tuple"/\o.data=.seq #[.str k.1 t,.str k.2 u] m
inductive rH(h:aY)(a:au):List aB->List (Str × Str)->Prop
 | nil:rH h a [] []
 | cons {v:aB} {vs:List aB} {k:Str × Str} {ks:List (Str × Str)}:Je h a v k->rH h a vs ks->rH h a (v :: vs) (k :: ks)
variable{a:au}{vs:List aB}{ks:List (Str × Str)}
theorem rH.len{h:aY}(p:rH h a vs ks):vs.length=ks.length:=by induction p with| nil=>rfl| cons _ _ ih=>rw [iz,iz,ih]
theorem rH.get{h:aY}(p:rH h a vs ks):∀ i,i<ks.length->Je h a (vs.getD i dM) (ks.getD i (default,default)):=by induction p with| nil=>intro i hi; cases hi| cons q _ ih =>intro i hi;cases i with| zero=>exact q| succ i=>exact ih i (Nat.lt_of_succ_lt_succ hi)
theorem rH.keep{h h':aY}(p:rH h a vs ks)(k:∀ b o,b≠a->h.get? b=some o->h'.get? b=some o):rH h' a vs ks:=by induction p with| nil=>exact .nil| cons q _ ih =>obtain ⟨b,o,m,t,u,e,n,g,r⟩:=q;exact .cons ⟨b,o,m,t,u,e,n,k b o n g,r⟩ ih
variable{prog:gk}{w:fK}{A:iI}{E:aB->aK->Prop}{s:aK}
theorem ajV{v v':aB}{k k':Str × Str}{Q:Bool->aK->Prop}(p:Je s.heap a v k)(p':Je s.heap a v' k')(q:Q (mF k k') s):aJ (aN prog w) A (keyLt' (tuples' true) v v') Q E s:=by obtain ⟨b,o,m,t,u,rfl,_,g,c,d⟩:=p;obtain ⟨b',o',m',t',u',rfl,_,g',c',d'⟩:=p';refine kat_lt g d g' d' ?_;show KatLex prog w A true (decide (2<2)) Q [(.str k.1 t,.str k'.1 t'),(.str k.2 u,.str k'.2 u')] 0 s;unfold mF at q;refine kat_cons ((gZ prog w).eqBool (Hw _ _ _ _) (Hw _ _ _ _) ?_);by_cases e:k.1=k'.1;rw [bI e] at q;rw [show decide ((bR k.1:Key)=bR k'.1)=true from cg (by rw [e])];refine kat_yes (kat_cons ((gZ prog w).eqBool (Hw _ _ _ _) (Hw _ _ _ _) ?_));by_cases f:k.2=k'.2;rw [bI f] at q;rw [show decide ((bR k.2:Key)=bR k'.2)=true from cg (by rw [f])];exact kat_yes (kat_nil q);rw [aZ f] at q;rw [show decide ((bR k.2:Key)=bR k'.2)=false from fP (λz=>f (rD z))];refine kat_no ?_;show aJ _ A (oneLt' false _ _) Q _ s;exact kat_one _ _ (PySem.P.lt_str q);rw [aZ e] at q;rw [show decide ((bR k.1:Key)=bR k'.1)=false from fP (λz=>e (rD z))];refine kat_no ?_;show aJ _ A (oneLt' true _ _) Q _ s;exact oneLt_str q
theorem ao1{h:aY}(p:rH h a vs ks):∃ fs,KatTups h vs fs/\fs.length=ks.length/\∀ v∈fs,∃ x t,v=vf x t:=by induction p with| nil=>exact ⟨[],.nil,rfl,λv h=>by cases h⟩| cons q _ ih =>obtain ⟨fs,h1,h2,h3⟩:=ih;obtain ⟨b,o,m,t,u,rfl,_,g,c,d⟩:=q;refine ⟨.str _ t :: fs,.cons g c d (by rfl) h1,by rw [iz,iz,h2],λv hv=>?_⟩;rcases dU.mp hv with e | e;exact ⟨_,_,e⟩;exact h3 v e
theorem amY{P:Fin->aK->Prop}(ho:s.heap.get? a=some (seqObj "list" vs.toArray n))(hp:rH s.heap a vs ks)(hn:ks.Nodup)(h6:ks.length<=6)(h:∀(l:List Nat),(∀ i∈l,i<ks.length)->(l.map λi=>ks.getD i (default,default)).Perm ks->(l.map λi=>ks.getD i (default,default)).Pairwise (λx y=>mF x y=true)->P (.done (.ret .none)) { s with heap:=sortedHeap s.heap a vs (l.map λi=>vs.getD i dM).toArray }):
   aJ (aN prog w) A (lD.«list.sort» ⟨[.ref a],[]⟩) P E s:=by
 have dO:=cQ;have len:=hp.len;rw [list_sort_plain];have la:a<s.heap.objs.size:=bQ ho;refine aG (listItems_at ho rfl (aG (Wq ho rfl ?_ (by rw [fV]; omega) (dR _))));obtain ⟨e1,g1⟩:∃ e1,(s.heap.update a (lM λ_=>#[])).get? a=some (seqObj "list" #[] e1):=⟨_,get?_update_seq ho (λ_=>#[])⟩;refine aG (Qd g1 rfl (aG (wpAny_newTuple ?_ (by simp; omega))));refine aG (Oj ?_ (dR _));refine jO ?_;have g6:(((s.heap.update a (lM λ_=>#[])).push (seqObj "tuple" vs.toArray 0)).push (seqObj "list" #[] 0)).get? a=some (seqObj "list" #[] e1):=cR _ (cR _ g1)
 have kk:∀ b o,b≠a->s.heap.get? b=some o->(((s.heap.update a (lM λ_=>#[])).push (seqObj "tuple" vs.toArray 0)).push (seqObj "list" #[] 0)).get? b=some o:=λb o nb e =>
   cR _ (cR _ (((Di s.heap a _).2 b nb).aA e))
 show aJ (aN prog w) A _ P E { s with heap:=((s.heap.update a (lM λ_=>#[])).push (seqObj "tuple" vs.toArray 0)).push (seqObj "list" #[] 0) };dsimp only;have sz:vs.toArray.size=vs.length:=by simp
 by_cases c2:vs.toArray.size<2
 . rw [bI c2,bI c2];refine aG (aR ?_);rw [StateT.run_pure];refine aG (aR ?_);dsimp only;refine aG (Qd g6 rfl ?_)
   have em:((vs.toArray.zip vs.toArray).map (·.2))=vs.toArray:=by
     apply Array.toList_inj.mp;rw [Array.toList_map,Array.toList_zip];exact List.map_snd_zip (bG _)
   refine aG (Wq g6 rfl ?_ (dR _) (by show ((vs.toArray.zip vs.toArray).map (·.2)).size<=_; rw [em,sz]; omega));simp only [bne_self_eq_false,uH,if_false];refine aR ?_;show P _ { s with heap:=sortedHeap s.heap a vs ((vs.toArray.zip vs.toArray).map (·.2)) };rw [em]
   have all:∀{bM:Type}(xs:List bM)(d:bM),((iQ xs.length).map λi=>xs.getD i d)=xs:=λxs d=>by
     apply List.ext_getElem
     . simp
     . intro i h1 h2;simp [Gq,h2]
   have fin:=h (iQ ks.length) (λi hi=>uI.mp hi) (by rw [all]) (by
     rw [all]
     match ks,len with
     | [],_=>exact yc
     | [_],_=>exact Lg _ _
     | _ :: _ :: _,len=>rw [sz,len,iz,iz] at c2; omega)
   rw [<- len,all] at fin;exact fin
 . rw [aZ c2,aZ c2];have p6:=hp.keep kk;obtain ⟨fs,t1,t2,t3⟩:=ao1 p6;obtain ⟨p,r1,r2,r3,r4⟩:=ao6 agw hn (by omega) h6 (default,default);refine aG (kat_kind (T:=.type "str") t1 (by omega) (λv hv=>?_) rfl ?_)
   . obtain ⟨x,t,rfl⟩:=t3 v hv;exact .now
   . refine aG (jx (kat_run (ks:=vs) (vs:=vs) (κ:=tuples' true) (Q:=λst' s'=>s'={ s with heap:=((s.heap.update a (lM λ_=>#[])).push (seqObj "tuple" vs.toArray 0)).push (seqObj "list" #[] 0) }/\arrOf st'=p.map (kas_item (vs.toArray.zip vs.toArray))/\failedOf st'=none/\p.size=vs.length)
       (G:=λp' s'=>p'=p/\s'={ s with heap:=((s.heap.update a (lM λ_=>#[])).push (seqObj "tuple" vs.toArray 0)).push (seqObj "list" #[] 0) }) rfl (by omega) (by omega) (λp' st' s' q1 q2 q3 ⟨q4,q5⟩=>by subst q4; exact ⟨q5,q2,q3,q1⟩)
       (aeS (n:=ks.length) (lt:=λi j=>mF (ks.getD i (default,default)) (ks.getD j (default,default))) (λi j C hi hj hC=>ajV (p6.get i hi) (p6.get j hj) hC) _ p _ (by rw [len]; exact r1) ⟨rfl,rfl⟩)) ?_ λ_ _ e=>e)
     rintro ⟨⟨⟩,st'⟩ s' ⟨rfl,har,hf,hsz⟩;dsimp only;have em:=kat_snds (vs:=vs) rfl har;refine aG (Qd g6 rfl ?_);have psz:p.toList.length=vs.length:=by rw [tO]; exact hsz
     refine aG (Wq g6 rfl ?_ (dR _) (by rw [em,fV,aL,psz]; omega));rw [hf];simp only [bne_self_eq_false,uH,if_false];refine aR ?_;show P _ { s with heap:=sortedHeap s.heap a vs ((arrOf st').map (·.2)) };rw [em];exact h p.toList r4 r2 r3
theorem af4{x:aB}{T:List aB->Prop}{Q:aB->aK->Prop}(hn:ks.Nodup)(h6:ks.length<=6)(col:∀(R:List aB->aK->Prop),(∀(h':aY)(tk:Nat)(vs:List aB),(∀ b o,s.heap.get? b=some o->h'.get? b=some o)->rH h' h'.objs.size vs ks->T vs->R vs { s with heap:=h',toks:=tk })->aJ (aN prog w) A.in1 (collect x) R E s)(h:∀(h1 h':aY)(tk:Nat)(vs:List aB)(l:List Nat)(n:Nat),(∀ b o,s.heap.get? b=some o->h1.get? b=some o)->(∀ b o,h1.get? b=some o->h'.get? b=some o)->T vs->vs.length=ks.length->h'.get? h1.objs.size=some (seqObj "list" (l.map λi=>vs.getD i dM).toArray n) -> (∀ i∈l,i<ks.length)->(l.map λi=>ks.getD i (default,default)).Perm ks->(l.map λi=>ks.getD i (default,default)).Pairwise (λx y=>mF x y=true)->Q (.ref h1.objs.size) { s with heap:=h',toks:=tk }): aJ (aN prog w) A (call (.builtin "sorted") [x]) Q E s:=by refine (SN RG Sw WR (R3 _) ?_);unfold lD.«sorted»;refine (aG (m:=checkCount "sorted" 1 1 _) (aR ?_));refine aG (col _ λh' tk vs kk hS hT=>?_);have hl:=hS.len;have dO:=cQ;refine aG (Oj ?_ (by omega));have g0:(h'.push (seqObj "list" vs.toArray 0)).get? h'.objs.size=some (seqObj "list" vs.toArray 0):=gq _ rfl;refine aG (jO (tH Xj (s:={ s with heap:=h'.push (seqObj "list" vs.toArray 0),toks:=tk }) ⟨_,g0,rfl⟩ QS (amY (s:={ s with heap:=h'.push (seqObj "list" vs.toArray 0),toks:=tk }) g0 (hS.keep λb o _ e=>cR _ e) hn h6 λl l1 l2 l3=>⟨_,rfl,?_⟩) (RW _)));obtain ⟨n,gn⟩:=Vt (vs:=vs) (out:=(l.map λi=>vs.getD i dM).toArray) g0;refine aR ⟨_,rfl,h h' _ tk vs l n kk (λb o e1=>?_) hT hl gn l1 l2 l3⟩;have lt:b<h'.objs.size:=bQ e1;show (sortedHeap (h'.push (seqObj "list" vs.toArray 0)) h'.objs.size vs _).get? b=some o;rw [Xk (fB lt) (by rw [qY]; exact yL lt)];exact cR _ e1
noncomputable def kP(k:Str × Str):List Key:=[bR k.1,bR k.2]
theorem akg{a b:Str × Str}(h:kP a=kP b):a=b:=by unfold kP at h;injection h with h1 h2;injection h2 with h2 _;exact Prod.ext (rD h1) (rD h2)
theorem Wf{bM jY:Type}{F:bM->jY->Prop}:∀{l₁:List bM}{l₂:List jY},eX F l₁ l₂->∀{i:Nat}{b:jY},l₂[i]?=some b->∃ a,l₁[i]?=some a/\F a b
 | _,_,.nil,i,b,e=>by simp at e
 | _,_,.cons h r,i,b,e=>by cases i with| zero=>cases (show some _=some b from e); exact ⟨_,rfl,h⟩| succ i=>exact Wf r (by simpa using e)
theorem aeE{H:Hp}:∀{kvs:List (List Key × V)}{xs:List (List Key × au × aB)},eX (λ(p:List Key × V)(q:List Key × au × aB)=>p.1=q.1/\H q.2.1=some (.tup (p.1.map kV))/\cO p.2 q.2.2) kvs xs->kvs.map (·.1)=xs.map (·.1)
 | _,_,.nil=>rfl
 | _,_,.cons h r=>by rw [fM,fM,h.1,aeE r]
theorem aeP{h:aY}{a:au}:∀{vs:List aB}{ks:List (Str × Str)},vs.length=ks.length->(∀ i,i<ks.length->Je h a (vs.getD i dM) (ks.getD i (default,default)))->rH h a vs ks
 | [],[],_,_=>.nil
 | v :: vs,k :: ks,hl,f=>.cons (f 0 (Xl _)) (aeP (by simpa using hl) λi hi=>f (i+1) (Nat.succ_lt_succ hi))
 | [],_ :: _,hl,_=>by simp at hl
 | _ :: _,[],hl,_=>by simp at hl
theorem alw{X:Cx}(hc:X.calm=true):jH X (.builtin "sorted") (λxs H Q=>∃(p:au)(kvs:List (List Key × V))(ks:List (Str × Str)),xs=[.ref p]/\H p=some (.dT kvs)/\kvs.map (·.1)=ks.map kP/\ks.length<=6 /\ ∀(l:au)(as:List au)(ks':List (Str × Str)),H l=none->ks'.Perm ks->ks'.Pairwise (λx y=>mF x y=true)->as.length=ks'.length->(∀(i:Nat)(a:au)(k:Str × Str),as[i]?=some a->ks'[i]?=some k->H a=some (.tup ((kP k).map kV)))->Q (.ref l) (upd H l (.lst (as.map V.ref)))):=by intro ao s aj H xs us Q I r h;obtain ⟨p,kvs,ks,rfl,hp,hk,h6,q⟩:=h;obtain ⟨u,rfl,ru⟩:=lZ r;cases ru;obtain ⟨z,d,xs,rel,o,es,ep,g1,g2,g3,g4,g5⟩:=(show gF X.prog X.w H s.heap p (.dT kvs) from I.hok p _ hp);have hkx:xs.map (·.1)=ks.map kP:=(by rw [<- hk];exact (aeE rel).symm);have hn:ks.Nodup:=(by rw [hkx] at g5;rw [pU] at g5 |-;rw [yC] at g5;exact g5.imp λ{a b} h e=>h (by rw [e]));have hxl:xs.length=ks.length:=(by have:=jr rA hkx; simpa using this);have apL:es.size=ks.length:=(by rw [<- tO,g4,aL,hxl]);have dO:=cQ;have fact:∀ i,i<ks.length->(es[i]?).map (·.key)=some (cL (xs.map (·.2.1))[i]!)/\H (xs.map (·.2.1))[i]! = some (.tup ((kP (ks.getD i (default,default))).map kV)):=λi hi=>(by have ex:xs[i]?=some xs[i]:=gD (by omega);obtain ⟨kv,ekv,e1,e2,_⟩:=Wf rel ex;have ea:(xs.map (·.2.1))[i]! = xs[i].2.1:=(by rw [List.getElem!_eq_getElem?_getD,bL,ex]; rfl);rw [ea];refine ⟨?_,?_⟩;rw [<- TF,g4,bL,ex]; rfl;rw [e1] at e2;have e3:(xs.map (·.1))[i]?=some xs[i].1:=(by rw [bL,ex]; rfl);rw [hkx,bL,gD hi] at e3;have e4:kP ks[i]=xs[i].1:=j6 e3;have e5:ks.getD i (default,default)=ks[i]:=(by simp [Gq,hi]);rw [e5,e4]; exact e2);refine af4 (T:=λvs=>∀ i,i<ks.length->vs.getD i dM=.ref (xs.map (·.2.1))[i]!) hn h6 (λR hR=>Q5 (A:=X.A.in1) (ai2 (es:=es) (ep:=ep) d) (by simpa using I.ok.hd hc) ⟨o,g1,g2,g3⟩ (by omega) λh' tk acc kk hacc=>?_) λh1 h' tk vs l n k1 k2 hT hvl ho l1 l2 l3=>?_;have al:acc.toList.length=ks.length:=(by rw [tO]; exact hacc.1.aA apL);have at':∀ i,i<ks.length->acc.toList.getD i dM=.ref (xs.map (·.2.1))[i]!:=λi hi=>(by have e1:acc.toList[i]?=some acc.toList[i]:=gD (by omega);obtain ⟨e,ee,ev⟩:=hacc.2 i acc.toList[i] (by rw [<- TF]; exact e1);have f:=(fact i hi).1;rw [ee] at f;have f':e.key=cL (xs.map (·.2.1))[i]!:=j6 f;simp only [Gq,e1,zf];rw [ev,f']);refine hR h' tk acc.toList kk (aeP al λi hi=>?_) at';rw [at' i hi];obtain ⟨_,its,rv,ob,e1,e2,⟨m,e3⟩,_⟩:=(show gF X.prog X.w H s.heap _ (.tup ((kP (ks.getD i (default,default))).map kV)) from I.hok _ _ (fact i hi).2);have g:=kk _ _ e1;obtain ⟨v1,v2,rfl,r1,r2⟩:=vU (show cD [V.str _,V.str _] its from rv);obtain ⟨t1,rfl⟩:=r1;obtain ⟨t2,rfl⟩:=r2;exact ⟨_,ob,m,t1,t2,rfl,fB (bQ g),g,e2,e3⟩;have I1:Inv X ao aj H { s with heap:=h1,toks:=tk }:=I.kept k1;have ll:l.length=ks.length:=(by have:=l2.length_eq; simpa using this);have eo:(l.map λi=>vs.getD i dM)=(l.map λi=>(xs.map (·.2.1))[i]!).map cL:=(by rw [nA];exact J5 λi hi=>hT i (l1 i hi));refine ⟨.ref h1.objs.size,_,I1.laid (t':=tk) (o:=.lst ((l.map λi=>(xs.map (·.2.1))[i]!).map V.ref)) k2 (bG _) ⟨by rw [aL,aL]; omega,(l.map λi=>(xs.map (·.2.1))[i]!).map cL,n,?_,by rw [<- eo]; exact ho⟩,rfl,q _ _ _ (I1.hok.fresh (bG _)) l2 l3 (by simp) λj a k ea ek=>?_⟩;generalize (l.map λi=>(xs.map (·.2.1))[i]!)=ys;(induction ys with| nil=>exact .nil| cons y ys ih=>exact .cons rfl ih);rw [bL] at ea ek;cases ej:l[j]? with| none=>rw [ej] at ea; cases ea| some i =>rw [ej] at ea ek;cases (show some _=some a from ea);cases (show some _=some k from ek);exact (fact i (l1 i (fG ej))).2
end L2
namespace L2
open PySem PySem.Spec PyProof.Rows
noncomputable def HD:List Str->List Str->Bool
 | [],[]=>false
 | [],_ :: _=>true
 | _ :: _,[]=>false
 | x :: xs,y :: ys=>if x=y then HD xs ys else slt x y
section
open PySem.SeqAt
open PySem.AutoSeq1 (wpAny_loadPart')
open PySem.MeetsSeq PySem.MeetsSeq2 PySem.MeetsSeq3
theorem aie(l b:au)(xs ys:Array aB)(n n2:Nat)(dd dd2:Option au)(sl sl2:Array (Option aB))(ss tt:List Str)(hi:wF xs.toList ss)(hj:wF ys.toList tt):
   Meets (lD.«tuple.__lt__» ⟨[.ref l,.ref b],[]⟩)
     (λ_ R s=>s.heap.get? l=some { cls:=.type "tuple",dict:=dd,data:=.seq xs n,slots:=sl }/\s.heap.get? b=some { cls:=.type "tuple",dict:=dd2,data:=.seq ys n2,slots:=sl2 }/\R (.ok (.ret (.bool (HD ss tt)))) s) :=
 .of_wp λprog w A R s h=>by
   obtain ⟨hp,g,d,tk,os⟩:=s;obtain ⟨hl,hb,h⟩:=h;have f2:=RQ;have z1:xs.size=ss.length:=by rw [<- tO,<- hi.strs,aL]
   have z2:ys.size=tt.length:=by rw [<- tO,<- hj.strs,aL]
   wp_walk using yw hl,yw hb,wpAny_forIn_list _ (λrest b s'=>b.1=none/\s'=⟨hp,g,d,tk,os⟩/\∃(vs ws:List aB)(ss' tt':List Str),rest=vs.zip ws/\wF vs ss'/\wF ws tt'/\ss'.length+ys.size=tt'.length+xs.size/\R (.ok (.ret (.bool (HD ss' tt')))) ⟨hp,g,d,tk,os⟩) _
   case turn =>
     rintro ⟨y,x⟩ rest b s' ⟨hb',rfl,vs,ws,ss',tt',hz,hv,hw,len,hR⟩;cases hv with
     | nil=>rw [List.zip_nil_left] at hz; cases hz
     | cons a t hv' =>
       cases hw with
       | nil=>rw [List.zip_nil_right] at hz; cases hz
       | cons c u hw' =>
         rw [ZP] at hz;injection hz with q1 q2
         injection q1 with q3 q4
         subst q3 q4;have hR':R (.ok (.ret (.bool (if a=c then HD _ _ else slt a c)))) ⟨hp,g,d,tk,os⟩:=hR;simp only [iz] at len;obtain ⟨e,he,hiff⟩:∃ e,SeqAt.EqAt A.in1 ⟨hp,g,d,tk,os⟩ (.str a t) (.str c u) e/\(e=true↔a=c):=⟨(a == c),SeqAt.EqAt.str_str a t c u,by simp⟩;refine aG (he prog w _ _ ?_);cases e with
         | true =>
           rw [bI (hiff.mp rfl)] at hR'
           wp_walk
           exact ⟨rfl,rfl,_,_,_,_,q2,hv',hw',by omega,hR'⟩
         | false =>
           rw [aZ (λq=>bO (hiff.mpr q) iW)] at hR';have hri:∀(E:aB->aK->Prop)(Q:aB->aK->Prop),Q (.bool (slt a c)) ⟨hp,g,d,tk,os⟩->aJ (aN prog w) A.in1 (richCompare .Lt (.str a t) (.str c u)) Q E ⟨hp,g,d,tk,os⟩:=λE Q h=>PySem.P.lt_str h
           wp_walk using hri
           exact ⟨_,rfl,by simpa using hR'⟩
   case fin =>
     rintro ⟨b1,b2⟩ s' ⟨hb',rfl,vs,ws,ss',tt',hz,hv,hw,len,hR⟩;simp only at hb';subst hb'
     have e:HD ss' tt'=decide (xs.size<ys.size):=by
       cases hv with
       | nil =>
         cases hw with
         | nil=>simp only [rR] at len; exact (fP (by omega)).symm
         | cons c u _=>simp only [rR,iz] at len; exact (cg (by omega)).symm
       | cons a t _ =>
         cases hw with
         | nil=>simp only [rR,iz] at len; exact (fP (by omega)).symm
         | cons c u _=>rw [ZP] at hz; cases hz
     rw [e] at hR
     wp_walk
     exact ⟨_,rfl,by simpa [Builtin.Tuple.tupleCompareSizes] using hR⟩
   case h=>exact ⟨rfl,rfl,xs.toList,ys.toList,ss,tt,rfl,hi,hj,by omega,h⟩
end
noncomputable def aaH(K:bV):R2:=λx y H Q=>(∃ i j,x=.int i/\y=.int j/\Q (.bl (decide (i<j))) H)\/∃ a b k k',x=.ref a/\y=.ref b/\aH K H a ((kP k).map kV)/\aH K H b ((kP k').map kV)/\Q (.bl (mF k k')) H
variable{X:Cx}
theorem agR(hu:X.A.units<cLine):cU X (gJ .Lt) (aaH X.K):=by intro ao s aj H x y v u Q I rx ry h;rcases h with ⟨i,j,rfl,rfl,q⟩ | ⟨a,b,k,k',rfl,rfl,ha,hb,q⟩;exact aeL ao s aj H _ _ v u Q I rx ry ⟨i,j,rfl,rfl,q⟩;cases (show v=cL a from rx);cases (show u=cL b from ry);obtain ⟨its,r1,p1,_⟩:=I.tuple ha;obtain ⟨its2,r2,p2,_⟩:=I.tuple hb;have i1:wF its.toArray.toList [k.1,k.2]:=Ri (ys:=[k.1,k.2]) (by have r':cD [V.str k.1,V.str k.2] its:=r1; simpa using r');have i2:wF its2.toArray.toList [k'.1,k'.2]:=Ri (ys:=[k'.1,k'.2]) (by have r':cD [V.str k'.1,V.str k'.2] its2:=r2; simpa using r');obtain ⟨⟨cls,dd,data,sl⟩,g1,c1,n1,d1⟩:=id p1;obtain ⟨⟨cls2,dd2,data2,sl2⟩,g2,c2,n2,d2⟩:=id p2;simp only at c1 d1 c2 d2;subst c1 d1 c2 d2;refine Vc (op:=.Lt) ⟨_,g1,rfl⟩ ⟨_,g2,rfl⟩ PySem.F.slot_tuple_lt PySem.F.entry_tuple_lt (PySem.F.args_tuple_lt_2 _ _) (aie a b its.toArray its2.toArray n1 n2 dd dd2 sl sl2 _ _ i1 i2) ⟨g1,g2,show nC (mF k k')≠QD/\EP X ao aj Q (.bool (mF k k')) s from ⟨(λx=>nomatch x),⟨.bl (mF k k'),H,I,rfl,q⟩⟩⟩ hu
noncomputable def jc(H H':Hp):Prop:=∀ b xs,H b=some (.tup xs)->H' b=some (.tup xs)
theorem jc.refl(H:Hp):jc H H:=λ_ _ h=>h
variable{H H1 H2:Hp}
theorem jc.aA(a:jc H H1)(b:jc H1 H2):jc H H2:=λc o h=>b c o (a c o h)
variable{H':Hp}
theorem aF.dH(s:aF H H'):jc H H':=λb _ e=>s b _ e
variable{p:au}{o:HO}
theorem jc.new(s:jc H H1)(h:H1 p=none):jc H (upd H1 p o):=λb u e=>by rw [aW (dN (s b u e) h)]; exact s b u e
theorem jc.put{u:HO}(s:jc H H1)(h:H1 p=some u)(nt:∀ xs,u≠.tup xs):jc H (upd H1 p o):=λb xs e=>by
 have e1:=s b xs e;have ne:b≠p:=λz=>by subst z; rw [h] at e1; exact nt xs (j6 e1)
 rw [aW ne]; exact e1
variable{D:au}{ys:List V}
theorem eG.more(G:eG H1 H D ys)(s:aF H H'):eG H1 H' D ys:=⟨s _ _ G.at',G.same.aA s⟩
theorem iK{bM jY:Type}{F:bM->jY->Prop}:∀{l₁:List bM}{l₂:List jY},eX F l₁ l₂->∀{i:Nat}{a:bM},l₁[i]?=some a->∃ b,l₂[i]?=some b/\F a b
 | _,_,.nil,i,b,e=>by simp at e
 | _,_,.cons h r,i,b,e=>by cases i with| zero=>cases (show some _=some b from e); exact ⟨_,rfl,h⟩| succ i=>exact iK r (by simpa using e)
theorem j4{bM jY:Type}{F G:bM->jY->Prop}(f:∀ a b,F a b->G a b):∀{l₁:List bM}{l₂:List jY},eX F l₁ l₂->eX G l₁ l₂
 | _,_,.nil=>.nil
 | _,_,.cons h r=>.cons (f _ _ h) (j4 f r)
theorem Aw{bM jY:Type}{F:bM->jY->Prop}:∀{l₁ m₁:List bM}{l₂ m₂:List jY},eX F l₁ l₂->eX F m₁ m₂->eX F (l₁++m₁) (l₂++m₂)
 | _,_,_,_,.nil,q=>q
 | _,_,_,_,.cons h r,q=>.cons h (Aw r q)
variable{K:bV}{a:au}{xs:List V}{te:BI->TE}
theorem j9{g:BI->TG}{jZ:St}{End:Hp->Prop}(hD:H1 D=none)(hT:aH K H1 a xs)(hz:xs.length<=aO)(hl:ys.length=xs.length)(turn:∀(i:Nat)(x:V)(H':Hp),xs[i]?=some x->aF H1 H'->∀ b (R:VK),(∀ cM y,ys[i]?=some y->aF H' cM->R y cM)->g b x jZ H' fun dJ H2=>te b dJ H2 R)(fin:∀ H',aF H1 H'->H' D=some (.lst ys)->End H'):
   ∃ W:Nat->Nat->Hp->Prop,(∃ m,W 0 m (upd H1 D (.lst [])))/\∀ b,rW (wO K a) (g b) (Dw) (qd D (te b)) jZ End W :=
 WL (xs:=xs) (λi H'=>eG H1 H' D (ys.take i)) (eG.start hD) (λi H' _ G=>G.same.tup hT) (λH' G=>fin H' G.same (by have e:=G.at'; rw [<- hl,lW] at e; exact e)) (λi x H' hx hi G b =>
   turn i x H' hx G.same b _ λcM y hy s=>⟨_,(G.more s).at',by rw [gR]; omega,nx hi (by
     show eG H1 _ D (ys.take (i+1));rw [fZ,hy]
     exact (G.more s).put hD _)⟩)
noncomputable def NxS(n i:Nat)(Pv:Nat->St->Hp->Prop)(aj:St)(H:Hp):Prop:=∃ m',m'<n-i/\(m'=n-(i+1)/\i+1<=n/\Pv (i+1) aj H)
variable{n i:Nat}{Pv:Nat->St->Hp->Prop}{aj:St}
theorem nxs(hi:i<n)(h:Pv (i+1) aj H):NxS n i Pv aj H:=⟨n-(i+1),by omega,rfl,hi,h⟩
noncomputable def WS(n:Nat)(Pv:Nat->St->Hp->Prop):Nat->Nat->St->Hp->Prop:=λi m aj H=>m=n-i/\i<=n/\Pv i aj H
variable{J:It}{g:TG}{act:vB}{End:St->Hp->Prop}
theorem ad1(n:Nat)(Pv:Nat->St->Hp->Prop)(stop:∀ aj H,Pv n aj H->J.stop n H/\End aj H)(turn:∀ i aj H,i<n->Pv i aj H->J.go i H/\∀ x H',J.sO i H x H'->g x aj H' fun dJ H2=>act dJ H2 (NxS n i Pv)):CT J g Dw act End (WS n Pv):=by intro i m aj H ⟨hm,hi,p⟩;subst hm;by_cases hlt:i<n;exact .inr ⟨(turn i aj H hlt p).1,λx H' y=>(turn i aj H hlt p).2 x H' y⟩;have e:i=n:=(by omega);subst e;exact .inl (stop aj H p)
theorem Jj(Pv:Nat->St->Hp->Prop)(hl:∀ i aj H,i<=xs.length->Pv i aj H->aH K H a xs)(stop:∀ aj H,Pv xs.length aj H->End aj H)(turn:∀ i x aj H,xs[i]?=some x->i<xs.length->Pv i aj H->g x aj H fun dJ H2=>act dJ H2 (NxS xs.length i Pv)):CT (wO K a) g Dw act End (WS xs.length Pv) :=
 ad1 xs.length Pv (fun aj H p=>⟨⟨xs,hl _ aj H (bG _) p,bG _⟩,stop aj H p⟩) λi aj H hi p =>
   ⟨⟨xs,xs[i],hl i aj H (sG hi) p,by simp [hi]⟩,λx H' ⟨e,y⟩=>by subst e; exact turn i x aj _ (y xs (hl i aj _ (sG hi) p)) hi p⟩
theorem abA(Pv:Nat->St->Hp->Prop)(hl:∀ i aj H,i<=xs.length->Pv i aj H->aV K H a xs)(stop:∀ aj H,Pv xs.length aj H->End aj H)(turn:∀ i x aj H,xs[i]?=some x->i<xs.length->Pv i aj H->g x aj H fun dJ H2=>act dJ H2 (NxS xs.length i Pv)):CT (Ac K a) g Dw act End (WS xs.length Pv) :=
 ad1 xs.length Pv (fun aj H p=>⟨⟨xs,hl _ aj H (bG _) p,bG _⟩,stop aj H p⟩) λi aj H hi p =>
   ⟨⟨xs,xs[i],hl i aj H (sG hi) p,by simp [hi]⟩,λx H' ⟨e,y⟩=>by subst e; exact turn i x aj _ (y xs (hl i aj _ (sG hi) p)) hi p⟩
theorem ws0(h:Pv 0 aj H):∃ m,WS n Pv 0 m aj H:=⟨n,rfl,dR _,h⟩
namespace HT
open PySem PySem.Spec PyProof.Rows
variable{Q:aB->aK->Prop}{prog:gk}{w:fK}{A:iI}{E:aB->aK->Prop}{s:aK}
theorem ahS{t b:au}{ws:List aB}(ht:pO s.heap t (#[]:Array aB))(hb:pO s.heap b ws.toArray)(h1:Q (.ref b) s):aJ (aN prog w) A (lQ .Add (.ref t) (.ref b)) Q E s:=by obtain ⟨⟨cls,dd,data,sl⟩,ho,hc,n,hd⟩:=id ht;obtain ⟨⟨cls2,dd2,data2,sl2⟩,ho2,hc2,n2,hd2⟩:=id hb;simp only at hc hd hc2 hd2;subst hc hd hc2 hd2;exact TQ ⟨_,ho,rfl⟩ ⟨_,ho2,rfl⟩ Rh Yb Xc SJ (Xr _ _) (tuple_addW0 t b #[] ws.toArray n n2 dd dd2 sl sl2 (by simp)) ⟨ho,ho2,h1⟩
theorem agB{t sl:au}{items:Array aB}{vl vu:aB}{lo hi:Option Int}(ht:pO s.heap t items)(hs:s.heap.IsSliceOf sl vl vu .none)(pl:wU vl lo)(pu:wU vu hi)(hw:cC items.size 0 lo=0/\cC items.size items.size hi=items.size)(h:Q (.ref t) s):aJ (aN prog w) A (getItem (.ref t) (.ref sl)) Q E s:=by obtain ⟨os,hos,hcs,hds⟩:=id hs;have hTs:s.TypeIs (.ref sl) "slice":=⟨os,hos,hcs⟩;unfold getItem;(try with_reducible refine jO ?_);(first | refine aG (aR ?_) | skip);refine aG (WQ ht.typeIs (by decide) ?_);refine aG (Bb (name:=xO "__getitem__") ht.typeIs Fp (tH Fp ht.typeIs aes ?_ (abm _ _)));show aJ _ _ (Xg (.ref t) >>= _) _ _ s;refine aG (tupleItemsOf_ ht ?_);refine aG (CP hTs ?_);rw [bI (by decide)];refine aG (YX hs pl pu ?_);have hyes:((((cC items.size 0 lo:Nat):Int) == 0 && (1:Int) == 1 && (cC items.size items.size hi-cC items.size 0 lo) == items.size)=true):=(by rw [hw.1,hw.2]; simp);show aJ _ _ (if (((cC items.size 0 lo:Nat):Int) == 0 && (1:Int) == 1 && (cC items.size items.size hi-cC items.size 0 lo) == items.size)=true then _ else _) _ _ s;rw [bI hyes];unfold Builtin.Tuple.tupleIsExact;refine aG ?_;refine aG (CP ht.typeIs ?_);refine aR ?_;rw [bI (by decide)];refine aG (zu ?_);exact aR ⟨_,rfl,aR h⟩
end HT
inductive Rw(x y:V)(H:Hp)(Q:VK):Prop|mk a b xs ys(_:x=.ref a)(_:y=.ref b)(_:H a=some (.tup xs))(_:H b=some (.tup ys))(_:xs.length+ys.length<=aO)(_:∀ p H',H' p=some (.tup (xs++ys))->aF H H'->Q (.ref p) H')
theorem xu:cU X (lQ .Add) Rw:=by intro ao s aj H x y v u Q I rx ry h;obtain ⟨a,b,xs,ys,rfl,rfl,ha,hb,hz,q⟩:=h;by_cases hx:xs=[];subst hx;cases rx;cases ry;obtain ⟨its,r1,p1,_⟩:=I.tuple (aH.of ha);obtain ⟨its2,r2,p2,_⟩:=I.tuple (aH.of hb);have e:its=[]:=r1.Bw.mpr rfl;subst e;exact HT.ahS p1 p2 ⟨.ref b,H,I,rfl,q b H hb (aF.refl H)⟩;refine afi ao s aj H _ _ v u Q I rx ry ⟨a,b,xs,ys,rfl,rfl,aH.of ha,aH.of hb,hx,hz,λe=>?_,λ_ p hp=>q p _ aX ((aF.refl H).upd hp)⟩;subst e;exact q a H (by rw [Cv]; exact ha) (aF.refl H)
inductive SlA(x:V)(lo hi:Option Int)(H:Hp)(Q:VK):Prop|mk a xs(_:x=.ref a)(_:H a=some (.tup xs))(_:∀ p H',H' p=some (.tup (jt xs lo hi))->aF H H'->Q (.ref p) H')
theorem qP:SlR X SlA:=by intro ao s aj H x v vl vu lo hi sl Q I rx hs pl pu h;obtain ⟨a,xs,rfl,ha,q⟩:=h;by_cases hw:HT.cC xs.length 0 lo=0/\HT.cC xs.length xs.length hi=xs.length;cases rx;obtain ⟨its,r,ht,hz⟩:=I.tuple (aH.of ha);have hlen:its.toArray.size=xs.length:=(by rw [fV]; exact r.length.symm);refine ⟨"tuple",_,PyProof.Rows.slot_tuple_getitem.lookup,ht.typeIs,?_⟩;refine HT.agB ht hs pl pu (by rw [hlen]; exact hw) ⟨.ref a,H,I,rfl,q a H ?_ (aF.refl H)⟩;rw [ha];unfold jt;rw [hw.1,hw.2,Fz,KR,lW];exact Zt ao s aj H _ v vl vu lo hi sl Q I rx hs pl pu ⟨a,xs,rfl,aH.of ha,hw,λp hp=>q p _ aX ((aF.refl H).upd hp)⟩
namespace HT
open PySem PySem.Spec PyProof.Rows
end HT
namespace HT
open PySem PySem.Spec PyProof.Rows
theorem aiL(l b:au)(items:Array aB)(n n2:Nat)(dd dd2:Option au)(sl sl2:Array (Option aB)):
   Meets (lD.«tuple.__ne__» ⟨[.ref l,.ref b],[]⟩) (λ_ R s=>s.heap.get? l=some { cls:=.type "tuple",dict:=dd,data:=.seq items n,slots:=sl }/\s.heap.get? b=some { cls:=.type "tuple",dict:=dd2,data:=.seq #[] n2,slots:=sl2 }/\R (.ok (.ret (nC (!items.isEmpty)))) s) :=
 .of_wp λprog w A R s h=>by
   obtain ⟨hp,g,d,tk,os⟩:=s; obtain ⟨hl,hb,h⟩:=h; have f2:=RQ;obtain ⟨items⟩:=items;cases items with
   | nil =>
     wp_walk using yw hl,yw hb
     exact ⟨_,rfl,h⟩
   | cons x xs =>
     wp_walk using yw hl,yw hb
     exact ⟨_,rfl,h⟩
theorem ano{prog:gk}{w:fK}{A:iI}{E:aB->aK->Prop}{s:aK}{t b:au}{items:Array aB}{Q:aB->aK->Prop}(ht:pO s.heap t items)(hb:pO s.heap b (#[]:Array aB))(hu:A.units<cLine)(h:Q (.bool (!items.isEmpty)) s):aJ (aN prog w) A (gJ .NotEq (.ref t) (.ref b)) Q E s:=by obtain ⟨⟨cls,dd,data,sl⟩,ho,hc,n,hd⟩:=id ht;obtain ⟨⟨cls2,dd2,data2,sl2⟩,ho2,hc2,n2,hd2⟩:=id hb;simp only at hc hd hc2 hd2;subst hc hd hc2 hd2;exact Vc (op:=.NotEq) ⟨_,ho,rfl⟩ ⟨_,ho2,rfl⟩ PySem.F.slot_tuple_ne PySem.F.entry_tuple_ne (PySem.F.args_tuple_ne_2 _ _) (aiL t b items n n2 dd dd2 sl sl2) ⟨ho,ho2,show nC (!items.isEmpty)≠QD/\Q (.bool (!items.isEmpty)) s from ⟨(λx=>nomatch x),h⟩⟩ hu
end HT
structure NeT(x y:V)(H:Hp)(Q:VK):Prop where
 h:∃ a b xs,x=.ref a/\y=.ref b/\H a=some (.tup xs)/\H b=some (.tup [])/\Q (.bl (!xs.isEmpty)) H
theorem afV(hu:X.A.units<cLine):cU X (gJ .NotEq) NeT:=by intro ao s aj H x y v u Q I rx ry ⟨h⟩;obtain ⟨a,b,xs,rfl,rfl,ha,hb,q⟩:=h;cases rx;cases ry;obtain ⟨its,r1,p1,_⟩:=I.tuple (aH.of ha);obtain ⟨its2,r2,p2,_⟩:=I.tuple (aH.of hb);have e:its2=[]:=r2.Bw.mpr rfl;subst e;refine HT.ano p1 p2 hu ⟨.bl (!xs.isEmpty),H,I,?_,q⟩;have e2:its.toArray.isEmpty=xs.isEmpty:=(by have:=r1.Bw;cases xs <;> cases its <;> simp_all);rw [e2];rfl
theorem range_any(bs:List Bool):((iQ bs.length).any λi=>(bs[i]?).getD false)=bs.any id:=by have key:∀(l:List Bool)(k:Nat),((iQ l.length).any λi=>(l[i]?).getD false)=l.any id:=λl _=>(by induction l with| nil=>rfl| cons b l ih =>rw [iz,aaO,GQ,Qp,GQ];congr 1);exact key bs 0
theorem aa1(hc:X.calm=true):jH X (.builtin "any") (λxs H Q=>∃(p:au)(bs:List Bool),xs=[.ref p]/\aV X.K H p (bs.map V.bl)/\Q (.bl (bs.any id)) H):=by intro ao s aj H xs us Q I r h;obtain ⟨p,bs,rfl,hq,q⟩:=h;obtain ⟨u,rfl,ru⟩:=lZ r;cases ru;obtain ⟨its,rv,pl,_⟩:=I.list hq;have hb:=Iv rv;have hl:=pl.isList;have hlt:p<s.heap.objs.size:=(by obtain ⟨_,e,_⟩:=hl; exact bQ e);refine call_any_walk (Av hl ?_);refine ⟨s.heap.objs.size,[s.heap.objs.size,p],[s.heap.objs.size],its.toArray.size,_,_,λi=>(bs[i]?).getD false,rfl,Mf (A:=X.A.in1) (I.ok.hd hc) _ p (fB hlt) its.toArray,⟨⟨_,gq _ rfl,rfl,rfl⟩,hl.push _⟩,λi v s' Q' E' hP hQ=>?_,λh' tk hk=>?_⟩;obtain ⟨b,e,rfl⟩:=hb.get i v (by simpa using hP);simp only [e,zf] at hQ;exact qT hQ;have e:((iQ its.toArray.size).any λi=>(bs[i]?).getD false)=bs.any id:=(by rw [fV,hb.length]; exact range_any bs);rw [e];exact ⟨.bl _,H,I.kept (Gn hk),rfl,q⟩
theorem ints_get:∀{is:List Int}{us:List aB},cD (is.map V.int) us->∀(i:Nat)(v:aB),us[i]?=some v->∃ n t,is[i]?=some n/\v=.int n t:=by intro is us r i v e;obtain ⟨x,hx,rx⟩:∃ x,(is.map V.int)[i]?=some x/\cO x v:=(by have l:=r.length;have hi:i<(is.map V.int).length:=(by rw [l]; exact (jC.mp e).1);obtain ⟨u,hu,ru⟩:=r.get (gD hi);rw [e] at hu; cases hu;exact ⟨_,gD hi,ru⟩);rw [bL] at hx;obtain ⟨n,hn,rfl⟩:=wA.mp hx;obtain ⟨t,rfl⟩:=rx;exact ⟨n,t,hn,rfl⟩
theorem amI(hc:X.calm=true):jH X (.builtin "max") (λxs H Q=>∃(p:au)(is:List Int),xs=[.ref p]/\aV X.K H p (is.map V.int)/\is≠[]/\∀ m∈is,(∀ i∈is,i<=m)->Q (.int m) H):=by intro ao s aj H xs us Q I r h;obtain ⟨p,is,rfl,hq,ne,q⟩:=h;obtain ⟨u,rfl,ru⟩:=lZ r;cases ru;obtain ⟨its,rv,pl,_⟩:=I.list hq;have hl:=pl.isList;have hlt:p<s.heap.objs.size:=(by obtain ⟨_,e,_⟩:=hl; exact bQ e);have len:its.length=is.length:=(by rw [<- rv.length,aL]);have pos:0<is.length:=(by cases is with | nil=>exact bO rfl ne | cons _ _=>exact Xl _);refine call_max_walk (Av hl ?_);refine ⟨s.heap.objs.size,[s.heap.objs.size,p],[s.heap.objs.size],its.toArray.size,_,_,λi j=>decide ((is[i]?).getD 0 > (is[j]?).getD 0),rfl,Mf (A:=X.A.in1) (I.ok.hd hc) _ p (fB hlt) its.toArray,⟨⟨_,gq _ rfl,rfl,rfl⟩,hl.push _⟩,λb hb=>?_,by rw [fV,len]; exact pos,λi j vi vj s' Q' E' hi hj hQ=>?_,λv h' tk hv hk=>?_⟩;rw [qY];simp only [dU,lC,or_false] at hb;rcases hb with rfl | rfl;exact Dk _;exact yL hlt;obtain ⟨n1,t1,e1,rfl⟩:=ints_get rv i vi (by simpa using hi);obtain ⟨n2,t2,e2,rfl⟩:=ints_get rv j vj (by simpa using hj);simp only [e1,e2,zf] at hQ;exact gt_int hQ;obtain ⟨b1,b2⟩:=PySem.argBest_gt (λi=>(is[i]?).getD 0) (its.toArray.size-1);obtain ⟨m,t,em,rfl⟩:=ints_get rv _ v (by simpa using hv);rw [fV,len] at b2;rw [len] at em;refine ⟨.int m,H,I.kept (Gn hk),⟨t,rfl⟩,q m (fG em) λi hi=>?_⟩;obtain ⟨j,ej⟩:=Nh.mp hi;have lj:=(jC.mp ej).1;have z:=b2 j (by omega);simp only [em,ej,zf] at z;exact z
theorem agy(hc:X.calm=true):jH X (.builtin "min") (λxs H Q=>∃(p:au)(is:List Int),xs=[.ref p]/\aV X.K H p (is.map V.int)/\is≠[]/\∀ m∈is,(∀ i∈is,m<=i)->Q (.int m) H):=by intro ao s aj H xs us Q I r h;obtain ⟨p,is,rfl,hq,ne,q⟩:=h;obtain ⟨u,rfl,ru⟩:=lZ r;cases ru;obtain ⟨its,rv,pl,_⟩:=I.list hq;have hl:=pl.isList;have hlt:p<s.heap.objs.size:=(by obtain ⟨_,e,_⟩:=hl; exact bQ e);have len:its.length=is.length:=(by rw [<- rv.length,aL]);have pos:0<is.length:=(by cases is with | nil=>exact bO rfl ne | cons _ _=>exact Xl _);refine call_min_walk (Av hl ?_);refine ⟨s.heap.objs.size,[s.heap.objs.size,p],[s.heap.objs.size],its.toArray.size,_,_,λi j=>decide ((is[i]?).getD 0<(is[j]?).getD 0),rfl,Mf (A:=X.A.in1) (I.ok.hd hc) _ p (fB hlt) its.toArray,⟨⟨_,gq _ rfl,rfl,rfl⟩,hl.push _⟩,λb hb=>?_,by rw [fV,len]; exact pos,λi j vi vj s' Q' E' hi hj hQ=>?_,λv h' tk hv hk=>?_⟩;rw [qY];simp only [dU,lC,or_false] at hb;rcases hb with rfl | rfl;exact Dk _;exact yL hlt;obtain ⟨n1,t1,e1,rfl⟩:=ints_get rv i vi (by simpa using hi);obtain ⟨n2,t2,e2,rfl⟩:=ints_get rv j vj (by simpa using hj);simp only [e1,e2,zf] at hQ;exact lt_int hQ;obtain ⟨b1,b2⟩:=PySem.argBest_lt (λi=>(is[i]?).getD 0) (its.toArray.size-1);obtain ⟨m,t,em,rfl⟩:=ints_get rv _ v (by simpa using hv);rw [fV,len] at b2;rw [len] at em;refine ⟨.int m,H,I.kept (Gn hk),⟨t,rfl⟩,q m (fG em) λi hi=>?_⟩;obtain ⟨j,ej⟩:=Nh.mp hi;have lj:=(jC.mp ej).1;have z:=b2 j (by omega);simp only [em,ej,zf] at z;exact z
noncomputable def sZ(h:aY)(z TI TO T:au):Prop:=∃ b:Bool,h.get? z=some { cls:=.type "zip",dict:=none,data:=.fields #[rawInt T,.bool b,.bool false,.ref TI,.ref TO],slots:=#[] }
section
variable{prog:gk}{w:fK}{A:iI}{E:aB->aK->Prop}{s:aK}{z TI TO T i1 i2 l1 l2:au}{k1 k2:Nat}{xs ys:Array aB}
theorem aiw{bM:Type}{M:Dj}{o:Obj}{Q:Option Obj->aK->Prop}(h:s.heap.get? a=some o)(q:Q (some o) s):aJ M A (loadIfAlive a) Q E s:=fun Γ p hΓ=>by
 show Sem.wp M Γ (.loadIfAlive a .pure) _ _ _ _;rw [Sem.wp_loadIfAlive,h];exact q
theorem abw{Q:Bool->aK->Prop}(hz:sZ s.heap z TI TO T)(hT:∃ o,s.heap.get? T=some o)(hQ:∀ h',sZ h' z TI TO T->vH z s.heap h'->Q false { s with heap:=h' }): aJ (aN prog w) A (Pb (.ref z)) Q E s:=by obtain ⟨b,hz⟩:=hz;obtain ⟨oT,hT⟩:=hT;unfold Pb;refine aG (kj hz rfl (x:=rawInt T) rfl ?_);show aJ _ _ (loadIfAlive (Int.toNat (T:Int)) >>= _) _ _ _;refine aG (aiw (bM:=Unit) (by rw [Am]; exact hT) ?_);refine aG (kj hz rfl (x:=.bool b) rfl ?_);cases b with| false =>show aJ _ _ (if (nC false != nC true)=true then _ else _) _ _ _;rw [bI (by decide)];exact aG (wpAny_setField_rec hz (by simp) λh1 hz1 hs1=>aR (hQ h1 ⟨true,hz1⟩ hs1))| true =>show aJ _ _ (if (nC true != nC true)=true then _ else _) _ _ _;rw [aZ (by decide)];exact aR (hQ s.heap ⟨true,hz⟩ (Tg _ _))
theorem sZ.ext{h h':aY}(hz:sZ h z TI TO T)(k:∀ o,h.get? z=some o->h'.get? z=some o):sZ h' z TI TO T:=let ⟨b,e⟩:=hz; ⟨b,k _ e⟩
variable{x y:aB}
theorem agJ{Q:aB->aK->Prop}(D:yU z TI TO i1 i2 l1 l2)(hz:sZ s.heap z TI TO T)(hT:∃ o,s.heap.get? T=some o)(hTI:pL s.heap TI (.ref i1) (.ref i2))(h1:s.heap.IsListIter i1 l1 k1)(h2:s.heap.IsListIter i2 l2 k2)(hl1:s.heap.IsList l1 xs)(hl2:s.heap.IsList l2 ys)(hx:xs[k1]?=some x)(hy:ys[k2]?=some y)(hQ:∀ h',sZ h' z TI TO T->h'.IsListIter i1 l1 (k1+1)->h'.IsListIter i2 l2 (k2+1)->pL h' s.heap.objs.size x y->h'.objs.size=s.heap.objs.size+1 -> (∀ c o,c≠z->c≠i1->c≠i2->s.heap.get? c=some o->h'.get? c=some o)->Q (.ref s.heap.objs.size) { s with heap:=h' }): aJ (aN prog w) A (lD.«zip.__next__» ⟨[.ref z],[]⟩) (λfin s'=>∃ v,fin=.done (.ret v)/\Q v s') E s:=by obtain ⟨b,hz0⟩:=id hz;show aJ _ _ (field (.ref z) 2 >>= _) _ _ _;refine aG (kj hz0 rfl (x:=.bool false) rfl ?_);show aJ _ _ (field (.ref z) 3 >>= _) _ _ _;refine aG (kj hz0 rfl (x:=.ref TI) rfl ?_);refine aG (Bm hTI rfl ?_);show aJ _ _ (Pb (.ref z) >>= _) _ _ _;refine aG (abw hz hT λh₁ hz₁ hs₁=>?_);simp only [uH,if_false];refine aG ?_;rw [<- ZV];simp only [Kr,JV];refine aG (aG (jO ?_));show aJ _ _ (Lj (.ref i1) >>= _) _ _ _;refine aG (XD (h1.extBut hs₁.extBut D.i1z) (hl1.extBut hs₁.extBut D.l1z) hx λh₂ g₂ hs₂=>aR (aR ?_));refine aG (aG (jO ?_));show aJ _ _ (Lj (.ref i2) >>= _) _ _ _;have b2:=(h2.extBut hs₁.extBut D.i2z).extBut hs₂.extBut D.i12.symm;have b3:=(hl2.extBut hs₁.extBut D.l2z).extBut hs₂.extBut D.l2i1;refine aG (XD b2 b3 hy λh₃ g₃ hs₃=>aR (aR (aR ?_)));refine aG (wpAny_newTuple (hsz:=by show 2<=aO; rw [cQ]; decide) ?_);have hsz:h₃.objs.size=s.heap.objs.size:=(by rw [hs₃.1,hs₂.1,hs₁.1]);have kk:∀ c o,c≠z->c≠i1->c≠i2->s.heap.get? c=some o->h₃.get? c=some o:=λc o c1 c2 c3 e=>hs₃.extBut _ _ c3 (hs₂.extBut _ _ c2 (hs₁.extBut _ _ c1 e));have z₃:sZ h₃ z TI TO T:=hz₁.ext λo e=>hs₃.extBut _ _ D.i2z.symm (hs₂.extBut _ _ D.i1z.symm e);refine aR ⟨_,rfl,?_⟩;show Q (.ref h₃.objs.size) _;rw [hsz];have q₁:(h₃.push { cls:=.type "tuple",data:=.seq #[x,y] }).IsListIter i1 l1 (k1+1):=(g₂.extBut hs₃.extBut D.i12).at λo e=>cR _ e;refine hQ _ (z₃.ext λo e=>cR _ e) q₁ (g₃.at λo e=>cR _ e) (by rw [<- hsz]; exact gq _ rfl) (by rw [qY,hsz]) λc o c1 c2 c3 e=>cR _ (kk c o c1 c2 c3 e)
theorem amM{Q:Fin->aK->Prop}(hh:A.handled=none)(D:yU z TI TO i1 i2 l1 l2)(hz:sZ s.heap z TI TO T)(hT:∃ o,s.heap.get? T=some o)(hTI:pL s.heap TI (.ref i1) (.ref i2))(h1:s.heap.IsListIter i1 l1 k1)(h2:s.heap.IsListIter i2 l2 k2)(hl1:s.heap.IsList l1 xs)(hl2:s.heap.IsList l2 ys)(hend:xs[k1]?=none\/ys[k2]?=none)(hE:∀ h' e,(∀ c o,c≠z->c≠i1->c≠i2->s.heap.get? c=some o->h'.get? c=some o)->(∃ o,h'.get? e=some o/\o.cls=.type "StopIteration")->E (.ref e) { s with heap:=h' }): aJ (aN prog w) A (lD.«zip.__next__» ⟨[.ref z],[]⟩) Q E s:=by obtain ⟨b,hz0⟩:=id hz;show aJ _ _ (field (.ref z) 2 >>= _) _ _ _;refine aG (kj hz0 rfl (x:=.bool false) rfl ?_);show aJ _ _ (field (.ref z) 3 >>= _) _ _ _;refine aG (kj hz0 rfl (x:=.ref TI) rfl ?_);refine aG (Bm hTI rfl ?_);show aJ _ _ (Pb (.ref z) >>= _) _ _ _;refine aG (abw hz hT λh₁ hz₁ hs₁=>?_);simp only [uH,if_false];refine aG ?_;rw [<- ZV];simp only [Kr,JV];refine aG (aG (jO ?_));show aJ _ _ (Lj (.ref i1) >>= _) _ _ _;have a1:=h1.extBut hs₁.extBut D.i1z;have a2:=hl1.extBut hs₁.extBut D.l1z;cases hx:xs[k1]? with| none=>exact aG (ac3 hh a1 a2 hx λh₂ e hs₂ he=>hE h₂ e (λc o c1 c2 c3 q=>hs₂ _ _ c2 (hs₁.extBut _ _ c1 q)) he)| some x =>have hy:ys[k2]?=none:=hend.resolve_left λq=>(by rw [hx] at q; cases q);refine aG (XD a1 a2 hx λh₂ g₂ hs₂=>aR (aR ?_));refine aG (aG (jO ?_));show aJ _ _ (Lj (.ref i2) >>= _) _ _ _;have b2:=(h2.extBut hs₁.extBut D.i2z).extBut hs₂.extBut D.i12.symm;have b3:=(hl2.extBut hs₁.extBut D.l2z).extBut hs₂.extBut D.l2i1;exact aG (ac3 hh b2 b3 hy λh₃ e hs₃ he=>hE h₃ e (λc o c1 c2 c3 q=>hs₃ _ _ c3 (hs₂.extBut _ _ c2 (hs₁.extBut _ _ c1 q))) he)
variable{Q:Option aB->aK->Prop}
theorem afc(D:yU z TI TO i1 i2 l1 l2)(hz:sZ s.heap z TI TO T)(hT:∃ o,s.heap.get? T=some o)(hTI:pL s.heap TI (.ref i1) (.ref i2))(h1:s.heap.IsListIter i1 l1 k1)(h2:s.heap.IsListIter i2 l2 k2)(hl1:s.heap.IsList l1 xs)(hl2:s.heap.IsList l2 ys)(hx:xs[k1]?=some x)(hy:ys[k2]?=some y)(hQ:∀ h',sZ h' z TI TO T->h'.IsListIter i1 l1 (k1+1)->h'.IsListIter i2 l2 (k2+1)->pL h' s.heap.objs.size x y->h'.objs.size=s.heap.objs.size+1 -> (∀ c o,c≠z->c≠i1->c≠i2->s.heap.get? c=some o->h'.get? c=some o)->Q (some (.ref s.heap.objs.size)) { s with heap:=h' }):aJ (aN prog w) A (pyNext (.ref z)) Q E s:=by have ty:s.TypeIs (.ref z) "zip":=(by obtain ⟨b,e⟩:=hz; exact ⟨_,e,rfl⟩);unfold pyNext;exact aG (Cj (Bb (name:=xO "__next__") ty Nq (tH Nq ty F.entry_zip_next (agJ D hz hT hTI h1 h2 hl1 hl2 hx hy λh' b1 b2 b3 b4 b5 b6=>aR (hQ h' b1 b2 b3 b4 b5 b6)) (YB _))))
theorem akK(hh:A.handled=none)(D:yU z TI TO i1 i2 l1 l2)(hz:sZ s.heap z TI TO T)(hT:∃ o,s.heap.get? T=some o)(hTI:pL s.heap TI (.ref i1) (.ref i2))(h1:s.heap.IsListIter i1 l1 k1)(h2:s.heap.IsListIter i2 l2 k2)(hl1:s.heap.IsList l1 xs)(hl2:s.heap.IsList l2 ys)(hend:xs[k1]?=none\/ys[k2]?=none)(hQ:∀ h',(∀ c o,c≠z->c≠i1->c≠i2->s.heap.get? c=some o->h'.get? c=some o)->Q none { s with heap:=h' }):aJ (aN prog w) A (pyNext (.ref z)) Q E s:=by have ty:s.TypeIs (.ref z) "zip":=(by obtain ⟨b,e⟩:=hz; exact ⟨_,e,rfl⟩);unfold pyNext;refine aG (Cj (Bb (name:=xO "__next__") ty Nq (tH Nq ty F.entry_zip_next (amM hh D hz hT hTI h1 h2 hl1 hl2 hend λh' e hk he=>?_) (YB _))));obtain ⟨o,ho,hc⟩:=he;exact aG (Es (T:="StopIteration") (b:=true) ⟨o,ho,hc⟩ Uz (aR (hQ _ hk)))
structure ZSt(z TI TO i1 i2 l1 l2 S lo:au)(xs ys:Array aB)(i:Nat)(Ts:List au)(h:aY):Prop where
 hTI:pL h TI (.ref i1) (.ref i2)
 h1:h.IsListIter i1 l1 i
 h2:h.IsListIter i2 l2 i
 hl1:h.IsList l1 xs
 hl2:h.IsList l2 ys
 zip:(i=0/\IsZip h z TI TO .none)\/∃ T:au,Ts[0]?=some T/\sZ h z TI TO T
 hTO:∃ a b,pL h TO a b
 size:Ts.length=i
 up:Ts.Pairwise (·<·)
 sz:lo<=h.objs.size
 items:∀(j:Nat)(T:au),Ts[j]?=some T->∃(x y:aB),xs[j]?=some x/\ys[j]?=some y/\pL h T x y/\lo<=T/\T≠z/\T≠TO/\T≠i1/\T≠i2/\T≠S
noncomputable def Ud(S lo:au)(xs ys:Array aB)(n:Nat)(Ts:List au)(h:aY):Prop:=Ts.length=n/\Ts.Pairwise (·<·)/\∀(j:Nat)(T:au),Ts[j]?=some T->∃(x y:aB),xs[j]?=some x/\ys[j]?=some y/\pL h T x y/\lo<=T/\T≠S
variable{R:xQ->aK->Prop}{S lo:au}
theorem aoo(hh:A.in1.handled=none)(D:yU z TI TO i1 i2 l1 l2)(s1:S≠z)(s2:S≠TI)(s3:S≠TO)(s4:S≠i1)(s5:S≠i2)(s6:S≠l1)(s7:S≠l2)(hn:n=min xs.size ys.size)(hb:n<=aO)(res:aB):
   ∀(k i:Nat)(s:aK)(Ts:List au)(c:Nat),n-i=k->i<=n->ZSt z TI TO i1 i2 l1 l2 S lo xs ys i Ts s.heap->s.heap.get? S=some { cls:=.type "list",dict:=none,data:=.seq (Ts.map cL).toArray c,slots:=#[] } ->
   (∀(h':aY)(qu:List au)(c':Nat),Ud S lo xs ys n qu h'->(∀ b o,b≠S->b≠z->b≠TO->b≠i1->b≠i2->s.heap.get? b=some o->h'.get? b=some o) ->
     h'.get? S=some { cls:=.type "list",dict:=none,data:=.seq (qu.map cL).toArray c',slots:=#[] }->R (.ok (.ret res)) { s with heap:=h' }) ->
   jB (aN prog w) A (.builtin "list.extend.loop" ⟨[.ref S,.ref z,res],[]⟩) R s:=by
 intro k
 induction k with
 | zero =>
   intro i s Ts c hk hi st hS hR;have hin:i=n:=by omega
   refine wW Y5 ?_;rw [zy Py _];show aJ _ A.in1 (pyNext (.ref z) >>= _) _ _ s
   have hend:xs[i]?=none\/ys[i]?=none:=by
     rcases Nat.le_total xs.size ys.size with q | q
     . exact .inl (Lk (by omega))
     . exact .inr (Lk (by omega))
   have fin:∀ h',(∀ c o,c≠z->c≠TO->c≠i1->c≠i2->s.heap.get? c=some o->h'.get? c=some o)->R (.ok (.ret res)) { s with heap:=h' }:=λh' kk =>
     hR h' Ts c ⟨by rw [<- hin]; exact st.size,st.up,λj T e=>by
       obtain ⟨x,y,a1,a2,a3,a4,a5,a6,a7,a8,a9⟩:=st.items j T e
       exact ⟨x,y,a1,a2,kk _ _ a5 a6 a7 a8 a3,a4,a9⟩⟩ (λb o _ c2 c3 c4 c5 e=>kk b o c2 c3 c4 c5 e) (kk _ _ s1 s3 s4 s5 hS)
   rcases st.zip with ⟨_,hz⟩ | ⟨T,eT,hz⟩
   . obtain ⟨a,b,hTO⟩:=st.hTO;exact aG (aaw hh D hz st.hTI hTO st.h1 st.h2 st.hl1 st.hl2 hend λh' kk=>aR (fin h' kk))
   . obtain ⟨x,y,_,_,pT,_⟩:=st.items 0 T eT;exact aG (akK hh D hz ⟨_,pT⟩ st.hTI st.h1 st.h2 st.hl1 st.hl2 hend λh' kk=>aR (fin h' λc o c1 _ c3 c4 e=>kk c o c1 c3 c4 e))
 | succ k ih =>
   intro i s Ts c hk hi st hS hR;have hlt:i<n:=by omega
   refine wW Y5 ?_;rw [zy Py _];show aJ _ A.in1 (pyNext (.ref z) >>= _) _ _ s;have hx:xs[i]?=some xs[i]:=Uc (by omega);have hy:ys[i]?=some ys[i]:=Uc (by omega);obtain ⟨T,hT⟩:∃ T,T=s.heap.objs.size:=⟨_,rfl⟩
   have lz:z<s.heap.objs.size:=by
     rcases st.zip with ⟨_,e⟩ | ⟨_,_,b,e⟩
     . exact bQ e
     . exact bQ e
   have lTO:TO<s.heap.objs.size:=by obtain ⟨_,_,e⟩:=st.hTO; exact bQ e
   have li1:i1<s.heap.objs.size:=by obtain ⟨_,e,_⟩:=st.h1; exact bQ e
   have li2:i2<s.heap.objs.size:=by obtain ⟨_,e,_⟩:=st.h2; exact bQ e
   have lS:S<s.heap.objs.size:=bQ hS
   have next:∀ h',((i+1=0/\IsZip h' z TI TO .none)\/∃ T':au,(Ts++[T])[0]?=some T'/\sZ h' z TI TO T')->(∃ a b,pL h' TO a b)->h'.IsListIter i1 l1 (i+1)->h'.IsListIter i2 l2 (i+1)->pL h' T xs[i] ys[i]->h'.objs.size=s.heap.objs.size+1 ->
       (∀ c o,c≠z->c≠TO->c≠i1->c≠i2->s.heap.get? c=some o->h'.get? c=some o)->aJ (aN prog w) A.in1 (updateSeq S (·.push (.ref T)) >>= λ_=>again (.builtin "list.extend.loop" ⟨[.ref S,.ref z,res],[]⟩))
         (λfin s'=>match fin with | .done f=>R (.ok f) s' | .again c'=>c'.quiet=true/\jB (aN prog w) A c' R s') (λe s'=>R (.error e) s') { s with heap:=h' }:=by
     intro h' zz hTO h1 h2 pT size kk;have hS':=kk _ _ s1 s3 s4 s5 hS;have ln:(Ts.map cL).toArray.size=i:=by simp [st.size]
     refine aG ?_;refine Iw hS' rfl (aR ⟨Aq Py _,?_⟩) (by rw [ln]; omega) (by show ((Ts.map cL).toArray.push _).size<=aO+1; rw [Array.size_push,ln]; omega);have o:∀ b o,b≠S->h'.get? b=some o->(h'.update S (lM (·.push (cL T)))).get? b=some o:=λb o nb e=>(qQ _ _ (bW nb)).aA e
     have TS:T≠S:=by rw [hT]; exact qp lS
     have e2:(h'.update S (lM (·.push (cL T)))).get? S=some { cls:=.type "list",dict:=none,data:=.seq ((Ts++[T]).map cL).toArray (c+1),slots:=#[] }:=by
       have z:=xY (lM (·.push (cL T))) hS' rfl;rw [z];simp [lM]
     refine ih (i+1) _ (Ts++[T]) (c+1) (by omega) hlt ⟨o _ _ (bW s2) (kk _ _ D.TIz D.TITO D.TIi1 D.TIi2 st.hTI),h1.at λo' e=>o _ o' (bW s4) e,h2.at λo' e=>o _ o' (bW s5) e,
       st.hl1.at λo' e=>o _ o' (bW s6) (kk _ o' D.l1z D.l1TO D.l1i1 D.l1i2 e),st.hl2.at λo' e=>o _ o' (bW s7) (kk _ o' D.l2z D.l2TO D.l2i1 D.l2i2 e),?_,?_,by simp [st.size],?_,?_,λj T2 e=>?_⟩ e2 ?_
     . rcases zz with ⟨q,_⟩ | ⟨T',e,hz⟩
       . omega
       . exact .inr ⟨T',e,hz.ext λo' e=>o _ o' (bW s1) e⟩
     . obtain ⟨a,b,e⟩:=hTO;exact ⟨a,b,o _ _ (bW s3) e⟩
     . refine VR.mpr ⟨st.up,Lg _ _,λa ha b hb=>?_⟩;rw [lg.mp hb,hT];obtain ⟨j,ej⟩:=Nh.mp ha;obtain ⟨x,y,_,_,p,_⟩:=st.items j a ej;exact bQ p
     . rw [(Di h' S (lM (·.push (cL T)))).1,size];exact Ju st.sz
     . rcases En j Ts.length with q | q
       . rw [JL q] at e;obtain ⟨x,y,a1,a2,a3,a4,a5,a6,a7,a8,a9⟩:=st.items j T2 e;exact ⟨x,y,a1,a2,o _ _ a9 (kk _ _ a5 a6 a7 a8 a3),a4,a5,a6,a7,a8,a9⟩
       . rw [HY q] at e
         have ej:j-Ts.length=0:=by
           rcases Nat.eq_zero_or_pos (j-Ts.length) with w | w
           . exact w
           . rw [Jr (by simp; omega)] at e; cases e
         rw [ej] at e;have e':T=T2:=j6 e;have ji:j=i:=by have:=st.size; omega
         subst e' ji;refine ⟨xs[j],ys[j],hx,hy,o _ _ TS pT,by rw [hT]; exact st.sz,?_,?_,?_,?_,TS⟩ <;> (rw [hT]; first | exact qp lz | exact qp lTO | exact qp li1 | exact qp li2)
     . exact λh'' qu c' fin k2 hS2=>hR h'' qu c' fin (λb ob c1 c2 c3 c4 c5 e=>k2 b ob c1 c2 c3 c4 c5 (o b ob c1 (kk b ob c2 c3 c4 c5 e))) hS2
   subst hT;rcases st.zip with ⟨i0,hz⟩ | ⟨T0,eT0,hz⟩
   . obtain ⟨a,b,hTO⟩:=st.hTO;refine aG (abC D hz st.hTI hTO st.h1 st.h2 st.hl1 st.hl2 hx hy λh' a1 a2 a3 a4 a5 a6 a7=>?_);refine next h' (.inr ⟨_,?_,false,a1⟩) ⟨_,_,a2⟩ a3 a4 a5 a6 a7;have:Ts=[]:=List.length_eq_zero_iff.mp (by rw [st.size]; exact i0);rw [this]; rfl
   . obtain ⟨x,y,_,_,pT,_⟩:=st.items 0 T0 eT0;refine aG (afc D hz ⟨_,pT⟩ st.hTI st.h1 st.h2 st.hl1 st.hl2 hx hy λh' b1 b2 b3 b4 b5 b6=>?_);refine next h' (.inr ⟨T0,?_,b1⟩) ?_ b2 b3 b4 b5 (λc o c1 _ c3 c4 e=>b6 c o c1 c3 c4 e)
     . rw [JL (jC.mp eT0).1]; exact eT0
     . obtain ⟨a,b,e⟩:=st.hTO;exact ⟨a,b,b6 _ _ D.TOz D.TOi1 D.TOi2 e⟩
theorem ahv:typeLookup (.type "zip") "__len__" = pure none:=by rw [Mt]; rw [O2]; kernel_rfl
theorem agS:typeLookup (.type "zip") "__length_hint__" = pure none:=by rw [Mt]; rw [O2]; kernel_rfl
noncomputable def Y6(S lo:au)(z TO i1 i2:au)(xs ys:Array aB)(s:aK)(Q:aK->Prop):Prop:=∀(h':aY)(qu:List au)(c':Nat),Ud S lo xs ys (min xs.size ys.size) qu h' ->
 (∀ b o,b≠S->b≠z->b≠TO->b≠i1->b≠i2->s.heap.get? b=some o->h'.get? b=some o)->h'.get? S=some { cls:=.type "list",dict:=none,data:=.seq (qu.map cL).toArray c',slots:=#[] }->Q { s with heap:=h' }
theorem apu{c₀:Nat}(hh:A.in1.handled=none)(D:yU z TI TO i1 i2 l1 l2)(s1:S≠z)(s2:S≠TI)(s3:S≠TO)(s4:S≠i1)(s5:S≠i2)(s6:S≠l1)(s7:S≠l2)(hb:min xs.size ys.size<=aO)(res:aB)(hz:IsZip s.heap z TI TO .none)(st:ZSt z TI TO i1 i2 l1 l2 S lo xs ys 0 [] s.heap)(hS:s.heap.get? S=some { cls:=.type "list",data:=.seq #[] c₀ })(hR:Y6 S lo z TO i1 i2 xs ys s (R (.ok (.ret res)))):
   aJ (aN prog w) A.in1 (Od (.ref S) (.ref z) res) (λfin s'=>match fin with | .done f=>R (.ok f) s' | .again c'=>c'.quiet=true/\jB (aN prog w) A c' R s') (λe s'=>R (.error e) s') s:=by
 have ty:s.TypeIs (.ref z) "zip":=⟨_,hz,rfl⟩;unfold Od;refine aG (CP ty ?_);have e1:YM (.ref S) (.ref z)=false:=by simp [YM,s1]
 have e2:(vN "zip" == vN "list")=false:=(by decide);have e3:(vN "zip" == vN "tuple")=false:=(by decide);simp only [e1,e2,e3,Ol,uH,if_false];refine aG (Ui hz ?_);refine aG (jO ?_); unfold Builtin.List.listLengthHint;refine aG (Io ty ahv ?_);show aJ _ A.in1 (specialOf (cL z) (xO "__length_hint__") >>= _) _ _ _;refine aG (Io ty agS (aR ?_));show aJ _ A.in1 (rule "list.extend.makes-room" >>= λ_=>Builtin.List.listTouch (.ref S) >>= λ_=>again (.builtin "list.extend.loop" ⟨[.ref S,.ref z,res],[]⟩)) _ _ _;refine aG (zu (aG ?_));show aJ _ A.in1 (updateSeq S (·.push .none) >>= λ_=>updateSeq S (·.pop)) _ _ _;refine aG (Iw hS rfl ?_);have g2:=xY (lM (·.push dM)) hS rfl;refine Iw (hz:=by seq_fits) g2 rfl ?_;have g3:=xY (lM (·.pop)) g2 rfl
 have oth:∀ b o,b≠S->s.heap.get? b=some o->((s.heap.update S (lM (·.push dM))).update S (lM (·.pop))).get? b=some o:=λb o nb e =>
   (qQ _ _ (bW nb)).aA ((qQ _ _ (bW nb)).aA e)
 have lz:((s.heap.update S (lM (·.push dM))).update S (lM (·.pop))).objs.size=s.heap.objs.size:=by rw [(Di _ _ _).1,(Di _ _ _).1]
 refine aR ⟨Aq Py _,aoo (lo:=lo) hh D s1 s2 s3 s4 s5 s6 s7 rfl hb res _ 0 _ [] _ rfl (dR _) ⟨oth _ _ (bW s2) st.hTI,st.h1.at λo e=>oth _ o (bW s4) e,st.h2.at λo e=>oth _ o (bW s5) e,st.hl1.at λo e=>oth _ o (bW s6) e,st.hl2.at λo e=>oth _ o (bW s7) e,
   .inl ⟨rfl,oth _ _ (bW s1) hz⟩,?_,rfl,yc,by rw [lz]; exact st.sz,λj T e=>by simp at e⟩ g3 λh' qu c' fin kk hS'=>?_⟩
 . obtain ⟨a,b,e⟩:=st.hTO;exact ⟨a,b,oth _ _ (bW s3) e⟩
 . exact hR h' qu c' fin (λb o c1 c2 c3 c4 c5 e=>kk b o c1 c2 c3 c4 c5 (oth b o c1 e)) hS'
theorem anO(hh:A.in1.handled=none)(D:yU z TI TO i1 i2 l1 l2)(s1:S≠z)(s2:S≠TI)(s3:S≠TO)(s4:S≠i1)(s5:S≠i2)(s6:S≠l1)(s7:S≠l2)(hb:min xs.size ys.size<=aO)(hz:IsZip s.heap z TI TO .none)(st:ZSt z TI TO i1 i2 l1 l2 S lo xs ys 0 [] s.heap)(hS:s.heap.get? S=some { cls:=.type "list",data:=.seq #[] })(hR:Y6 S lo z TO i1 i2 xs ys s (R (.ok (.ret .none)))):
   aJ (aN prog w) A.in1 (lD.«list.__init__» ⟨[.ref S,.ref z],[]⟩) (λfin s'=>match fin with | .done f=>R (.ok f) s' | .again c'=>c'.quiet=true/\jB (aN prog w) A c' R s') (λe s'=>R (.error e) s') s:=by
 show aJ _ A.in1 (do let old <- aai (.ref S); Builtin.List.listUpdate (.ref S) (λ_=>#[]); letGo old.toList.reverse; Od (.ref S) (.ref z) .none) _ _ s;refine aG ?_; unfold aai;refine aG (Bm hS rfl (aR ?_));show aJ _ A.in1 (updateSeq S (λ_=>#[]) >>= λ_=>letGo (#[]:Array aB).toList.reverse >>= λ_=>Od (.ref S) (.ref z) .none) _ _ s;refine aG (Iw hS rfl ?_);have g2:=xY (lM (λ_=>(#[]:Array aB))) hS rfl;have oth:∀ b o,b≠S->s.heap.get? b=some o->(s.heap.update S (lM (λ_=>(#[]:Array aB)))).get? b=some o:=λb o nb e=>(qQ _ _ (bW nb)).aA e
 refine aG (RV ?_)
 refine apu (lo:=lo) hh D s1 s2 s3 s4 s5 s6 s7 hb .none (oth _ _ (bW s1) hz) ⟨oth _ _ (bW s2) st.hTI,st.h1.at λo e=>oth _ o (bW s4) e,st.h2.at λo e=>oth _ o (bW s5) e,st.hl1.at λo e=>oth _ o (bW s6) e,st.hl2.at λo e=>oth _ o (bW s7) e,
   .inl ⟨rfl,oth _ _ (bW s1) hz⟩,?_,rfl,yc,by rw [(Di _ _ _).1]; exact st.sz,λj T e=>by simp at e⟩ g2 λh' qu c' fin kk hS'=>?_
 . obtain ⟨a,b,e⟩:=st.hTO;exact ⟨a,b,oth _ _ (bW s3) e⟩
 . exact hR h' qu c' fin (λb o c1 c2 c3 c4 c5 e=>kk b o c1 c2 c3 c4 c5 (oth b o c1 e)) hS'
theorem ags{Q:aB->aK->Prop}(hh:A.in1.in1.handled=none)(D:yU z TI TO i1 i2 l1 l2)(hb:min xs.size ys.size<=aO)(hz:IsZip s.heap z TI TO .none)(hTI:pL s.heap TI (.ref i1) (.ref i2))(hTO:∃ a b,pL s.heap TO a b)(h1:s.heap.IsListIter i1 l1 0)(h2:s.heap.IsListIter i2 l2 0)(hl1:s.heap.IsList l1 xs)(hl2:s.heap.IsList l2 ys)(hQ:∀(h':aY)(qu:List au)(c':Nat),Ud s.heap.objs.size s.heap.objs.size xs ys (min xs.size ys.size) qu h'->(∀ b o,b≠s.heap.objs.size->b≠z->b≠TO->b≠i1->b≠i2->s.heap.get? b=some o->h'.get? b=some o) -> h'.get? s.heap.objs.size=some { cls:=.type "list",dict:=none,data:=.seq (qu.map cL).toArray c',slots:=#[] }->Q (.ref s.heap.objs.size) { s with heap:=h' }):aJ (aN prog w) A (call (.type "list") [.ref z]) Q E s:=by have ne:∀{b:au}{o:Obj},s.heap.get? b=some o->s.heap.objs.size≠b:=λe=>qp (bQ e);have up:∀ b o,s.heap.get? b=some o->(s.heap.push { cls:=.type "list",data:=.seq #[] }).get? b=some o:=λb o e=>cR _ e;have n4:s.heap.objs.size≠i1:=(by obtain ⟨_,e,_⟩:=h1; exact ne e);have n5:s.heap.objs.size≠i2:=(by obtain ⟨_,e,_⟩:=h2; exact ne e);have n6:s.heap.objs.size≠l1:=(by obtain ⟨_,e,_⟩:=hl1; exact ne e);have n7:s.heap.objs.size≠l2:=(by obtain ⟨_,e,_⟩:=hl2; exact ne e);have n3:s.heap.objs.size≠TO:=(by obtain ⟨_,_,e⟩:=hTO; exact ne e);refine callType_codes (Q₁:=λobj s₁=>obj=.ref s.heap.objs.size/\s₁={ s with heap:=s.heap.push { cls:=.type "list",data:=.seq #[] } }) F.called_list (F.typeCall_list_1 _) F.entry_list_init (code_list_new _ ⟨rfl,rfl⟩) λobj s₁ h₁=>?_;obtain ⟨rfl,rfl⟩:=h₁;have gS:(s.heap.push { cls:=.type "list",data:=.seq #[] }).get? s.heap.objs.size=some { cls:=.type "list",data:=.seq #[] }:=(gq _ rfl);refine ⟨⟨_,gS,rfl⟩,F.args_list_init_2 _ _,anO (lo:=s.heap.objs.size) hh D (ne hz) (ne hTI) n3 n4 n5 n6 n7 hb (up _ _ hz) ⟨up _ _ hTI,h1.at λo e=>up _ o e,h2.at λo e=>up _ o e,hl1.at λo e=>up _ o e,hl2.at λo e=>up _ o e,.inl ⟨rfl,up _ _ hz⟩,?_,rfl,yc,by rw [qY]; exact Dn _,λj T e=>by simp at e⟩ gS λh' qu c' fin kk hS'=>?_⟩;obtain ⟨a,b,e⟩:=hTO;exact ⟨a,b,up _ _ e⟩;exact ⟨rfl,hQ h' qu c' fin (λb o c1 c2 c3 c4 c5 e=>kk b o c1 c2 c3 c4 c5 (up b o e)) hS'⟩
end
noncomputable def vW(H N:Hp):Hp:=λa=>(N a).or (H a)
variable{ao:List (au × Obj)}{s:aK}{h':aY}
theorem Inv.many{N:Hp}{t':Nat}(I:Inv X ao aj H s)(k:∀ b u,s.heap.get? b=some u->h'.get? b=some u)(hp:∀ a o,N a=some o->s.heap.objs.size<=a)(new:∀ a o,N a=some o->gF X.prog X.w (vW H N) h' a o): Inv X ao aj (vW H N) { s with heap:=h',toks:=t' }:=by have old:∀ a o,H a=some o->vW H N a=some o:=λa o e=>(by unfold vW;cases q:N a with| none=>simpa using e| some u=>exact bO (jL (I.hok.lt e) (hp a u q)) (qF _));have frees:∀ b u,s.heap.get? b=some u->H b=none->vW H N b=none:=λb u q n=>(by unfold vW;cases z:N b with| none=>simpa using n| some v=>exact bO (jL (bQ q) (hp b v z)) (qF _));refine I.un ⟨λb u q _ _ _=>k b u q,λb u q _ _ _=>⟨u.slots,k b u q⟩,λb u q n _=>frees b u q n,λb u q _=>⟨u,k b u q⟩,λb xs q=>old b _ q,λb o u q=>old b _ q,λb ps q=>⟨#[],by rw [old b _ q]; simp⟩⟩ λa o e=>?_;cases q:N a with| some u =>have:vW H N a=some u:=(by unfold vW; rw [q]; rfl);rw [this] at e; cases e;exact new a _ q| none =>have:vW H N a=H a:=(by unfold vW; rw [q]; rfl);rw [this] at e;exact (I.hok a o e).stay (λc v _ z=>k c v z) (λc z=>old c _ z) λc xs z=>old c _ z
theorem ael{jY:Type}:∀(P:List (au × jY)),(P.map (·.1)).Pairwise (·<·)->∀ a b,(a,b)∈P->P.lookup a=some b
 | [],_,_,_,h=>by cases h
 | (c,d) :: P,hp,a,b,h=>by rw [fM,Cq] at hp;rcases dU.mp h with e | e;cases e; simp [xU];have lt:c<a:=hp.1 a (mW (f:=dw) e);have:(a == c)=false:=(by simpa using qp lt);rw [uP,this];exact ael P hp.2 a b e
theorem M7{jY:Type}:∀(P:List (au × jY))(a:au)(b:jY),P.lookup a=some b->(a,b)∈P
 | [],_,_,h=>by cases h
 | (c,d) :: P,a,b,h=>by rw [uP] at h;cases q:(a == c) with| true =>rw [q] at h;have e:a=c:=(by simpa using q);have e2:d=b:=(by simpa using h);subst e e2;exact gU ..| false =>rw [q] at h;exact iM _ (M7 P a b (by simpa using h))
theorem abz:∀ Ts:List au,cD (Ts.map V.ref) (Ts.map cL)
 | []=>.nil
 | _ :: t=>.cons rfl (abz t)
noncomputable def zN(S:au)(P:List (au × V × V)):Hp:=λa=>if a=S then some (.lst (P.map λq=>.ref q.1)) else (P.lookup a).map λq=>.tup [q.1,q.2]
noncomputable def aio(K:bV)(ta:TA):TE:=fun aj H Q=>ta aj H λvs H1=>qN λl1 l2 xs ys=>rG (vs=[.ref l1,.ref l2]) (aV K H1 l1 xs) (aV K H1 l2 ys) (∀(S:au)(P:List (au × V × V))(H2:Hp),H1 S=none->aF H1 H2->P.map (·.2)=xs.zip ys->H2 S=some (.lst (P.map λq=>.ref q.1))->(∀ q∈P,H2 q.1=some (.tup [q.2.1,q.2.2]))->Q (.ref S) H2)
variable{ta:TA}{p pos:Pos}
theorem ant{a b:Expr}{p2 pos2:Pos}(hc:X.calm=true)(hgl:Gl X "list")(hml:X.mg "list" = none)(hg:Gl X "zip")(hm:X.mg "zip" = none)(ha:PA X [a,b] ta)(hs:gA [a,b] X.env=[(false,eval a X.env),(false,eval b X.env)]:=by rfl)(hs2:gA [b] X.env=[(false,eval b X.env)]:=by rfl)(hs3:gA [.Call (.Name "zip" p2) [a,b] [] pos2] X.env=[(false,eval (.Call (.Name "zip" p2) [a,b] [] pos2) X.env)]:=by rfl):
   PE X (.Call (.Name "list" p) [.Call (.Name "zip" p2) [a,b] [] pos2] [] pos) (aio X.K ta):=by
 intro ao s aj H Q I h;refine Ci (xP I hgl hml (show bootBuiltins "list" = some (.type "list") by decide +kernel) (Bp ?_ (by rw [hs3]; rfl) rfl));rw [hs3];show aJ _ _ (spliced ((false,eval (.Call (.Name "zip" p2) [a,b] [] pos2) X.env) :: [])) _ _ s;refine ZC ?_;refine Ci (xP I hg hm (show bootBuiltins "zip" = some (.type "zip") by decide +kernel) (Bp (bH (ha pos2 ao s aj H _ I h) λus s1 ⟨vs,H1,I1,r1,q1⟩=>?_) (by rw [hs,hs2]) (by rw [hs2]; rfl)));obtain ⟨l1,l2,xs,ys,e,hq1,hq2,q⟩:=q1;subst e;obtain ⟨u,u',rfl,r,r'⟩:=vU r1;cases (show u=cL l1 from r);cases (show u'=cL l2 from r');obtain ⟨Dl,uV,qK,z1⟩:=I1.list hq1;obtain ⟨its2,rv2,xJ,z2⟩:=I1.list hq2;have a1:l1<s1.heap.objs.size:=by obtain ⟨_,e,_⟩:=qK.isList; exact bQ e
 have a2:l2<s1.heap.objs.size:=by obtain ⟨_,e,_⟩:=xJ.isList; exact bQ e
 have e1:=uV.length;have e2:=rv2.length;refine call_zip_2 qK.isList xJ.isList λh1 hz hTI hTO hi1 hi2 hsz hk=>Y8 ?_
 have D:=zipApart_new a1 a2;refine ags (I1.ok.hd hc) D (by simp only [fV]; omega) hz hTI ⟨_,_,hTO⟩ hi1 hi2 (qK.isList.at λo e=>hk _ o e) (xJ.isList.at λo e=>hk _ o e) λh2 Ts c fin kk hS=>?_
 obtain ⟨hn,up,items⟩:=fin;have hsz':s1.heap.objs.size<=h1.objs.size:=by rw [hsz]; exact yx _ _
 have hk2:∀ b o,s1.heap.get? b=some o->h2.get? b=some o:=λb o e=>by
   have lt:b<s1.heap.objs.size:=bQ e;refine kk b o (fB (jL lt hsz')) ?_ ?_ ?_ ?_ (hk b o e)
   . exact fB (jL lt (yx _ 4))
   . exact fB (jL lt (yx _ 3))
   . exact fB lt
   . exact fB (jL lt (yx _ 1))
 have hn':Ts.length=min xs.length ys.length:=by rw [hn]; simp only [fV]; omega
 obtain ⟨P,eP⟩:∃ P,P=Ts.zip (xs.zip ys):=⟨_,rfl⟩;have P1:P.map (·.1)=Ts:=by rw [eP]; exact List.map_fst_zip (by rw [Bj,hn']; exact bG _)
 have P2:P.map (·.2)=xs.zip ys:=by rw [eP]; exact List.map_snd_zip (by rw [Bj,hn']; exact bG _)
 have anC:P.map (λq=>V.ref q.1)=Ts.map V.ref:=by rw [<- P1,nA]; rfl
 have inP:∀ q∈P,∃ x y,pL h2 q.1 x y/\cO q.2.1 x/\cO q.2.2 y/\h1.objs.size<=q.1/\q.1≠h1.objs.size:=λq hq=>by
   obtain ⟨j,ej⟩:=Nh.mp hq;rw [eP,Ei] at ej;obtain ⟨ej1,ej2⟩:=ej;rw [Ei] at ej2;obtain ⟨x,y,b1,b2,b3,b4,b5⟩:=items j _ ej1;obtain ⟨v1,c1,c2⟩:=uV.get ej2.1;obtain ⟨v2,c3,c4⟩:=rv2.get ej2.2;have d1:Dl[j]?=some x:=by simpa using b1
   have d2:its2[j]?=some y:=by simpa using b2
   rw [d1] at c1; cases c1;rw [d2] at c3; cases c3;exact ⟨x,y,b3,c2,c4,b4,b5⟩
 have I2:Inv X ao aj (vW H1 (zN h1.objs.size P)) { s1 with heap:=h2 }:=by
   refine I1.many (t':=s1.toks) hk2 (λa o e=>?_) λa o e=>?_
   . unfold zN at e;split at e
     . next z=>rw [z]; exact hsz'
     . obtain ⟨q,lq,_⟩:=wA.mp e;obtain ⟨_,_,_,_,_,le,_⟩:=inP _ (M7 _ _ _ lq);exact jF hsz' le
   . unfold zN at e;split at e
     . next z =>
       cases e;subst z;refine ⟨by rw [aL,<- aL (f:=(·.1)),P1,hn']; omega,Ts.map cL,c,?_,hS⟩;rw [anC];exact abz Ts
     . obtain ⟨q,lq,rfl⟩:=wA.mp e;obtain ⟨x,y,b1,b2,b3,_,_⟩:=inP _ (M7 _ _ _ lq);exact ⟨by show 2<=aO; rw [cQ]; decide,[x,y],.cons b2 (.cons b3 .nil),⟨_,b1,rfl,⟨_,rfl⟩,rfl⟩⟩
 have fr:∀ a,s1.heap.objs.size<=a->H1 a=none:=λa ha=>I1.hok.fresh ha
 refine ⟨.ref h1.objs.size,_,I2,rfl,q h1.objs.size P _ (fr _ hsz') (λb o e=>?_) P2 ?_ λq2 hq2=>?_⟩
 . show (zN h1.objs.size P b).or (H1 b)=some o;cases z:zN h1.objs.size P b with
   | none=>simpa using e
   | some u =>
     exfalso
     have:s1.heap.objs.size<=b:=by
       unfold zN at z;split at z
       . next z'=>rw [z']; exact hsz'
       . obtain ⟨q,lq,_⟩:=wA.mp z;obtain ⟨_,_,_,_,_,le,_⟩:=inP _ (M7 _ _ _ lq);exact jF hsz' le
     rw [fr b this] at e; cases e
 . show (zN h1.objs.size P h1.objs.size).or _=_;unfold zN;rw [bI rfl]; rfl
 . show (zN h1.objs.size P q2.1).or _=_;obtain ⟨_,_,_,_,_,_,ne⟩:=inP _ hq2;unfold zN;rw [aZ ne,ael P (by rw [P1]; exact up) q2.1 q2.2 hq2]; rfl
section
variable{X:Cx}{elt kx vx tg iter:Expr}{ifs:List Expr}{scope bN:Scope}{pos:Pos}{own cap:List Str}{ix:List Nat}{wi:TI}{g:BI->TG}{tt:BI->TT}{tk tv:BI->TE}
theorem agn:DG X (.DictComp kx vx [⟨tg,iter,ifs,0⟩] scope pos) 0 iter.pos tg ifs (tailD kx vx) where
 hq:=λ_ _ _=>rfl
 hden:=λit D env Q E s h=>by
   show aJ _ X.A ((compTurn (.DictComp kx vx [⟨tg,iter,ifs,0⟩] scope pos) 0 (.ref it) (.ref D) env).onRaise (λx=>do noteFrame x env; theTreesLotGoes x)) _ _ s;exact Dr h
 hst:=λit D env R s h0 h=>J0 rfl rfl rfl (λ_=>rfl) rfl rfl h0 h
noncomputable abbrev apB(own:List Str)(ix:List Nat)(wi:TI)(g:BI->TG)(tt:BI->TT)(tk tv:BI->TE):TE:=Mh own ix (.dK []) wi g tt λb D=>RB D (tk b) (tv b)
theorem ajp(hc:X.calm=true)(hX:X.env.scope=bN)(S:oX bN scope X.N own cap ix)(hi:PI X tg iter wi)(hg:∀ b,PG (blk X scope (own++cap) b) tg (g b))(ht:∀ b,oU (blk X scope (own++cap) b) ifs (tt b))(hk:∀ b,PE (blk X scope (own++cap) b) kx (tk b))(hv:∀ b,PE (blk X scope (own++cap) b) vx (tv b))(hs:∀ x,qz iter X.env x=pure x:=by intro _; rfl):
   PE X (.DictComp kx vx [⟨tg,iter,ifs,0⟩] scope pos) (apB own ix wi g tt tk tv):=by
 intro ao s aj H Q I h;show aJ _ X.A (comprehension (.DictComp kx vx [⟨tg,iter,ifs,0⟩] scope pos) scope X.env _ newDict false (eval iter X.env)) _ _ s;refine Q8 (use:=none) rfl agn (λ_ _ _ _ _ _=>aex) hc hX S hi hg ht (λb D=>Zi (λ_ _ f=>f) (hk b) (hv b)) hs I h λD C H' s' q hn _ hI=>?_
 obtain ⟨m,hn⟩:=hn;exact ⟨m,hn,λh' hh=>⟨.ref D,H',hI h' hh,rfl,q⟩⟩
end
theorem W7:mroOf (.type "dict")=pure [.type "dict",.type "object"]:=by rw [mroOf_type]; kernel_rfl
theorem aoQ:typeLookup (.type "dict") "__new__" = pure (some (.builtin "dict.__new__")):=by rw [Mt,O2]; kernel_rfl
theorem ag0:TypeCalled "dict" "dict.__new__" "dict.__init__" :=
 ⟨by decide +kernel,by decide +kernel,⟨_,_,W7⟩,madeBy_type W7 aoQ (by decide +kernel),by decide +kernel,by rw [isSubtype_type]; kernel_rfl,PySem.F.slot_dict_init⟩
theorem ahq(a:aB):checkTypeCall "dict" ⟨[a],[]⟩=pure ():=by kernel_rfl
theorem akD(a:aB):checkBuiltinCall "dict.__new__" ⟨[.type "dict",a],[]⟩=pure ():=by kernel_rfl
theorem aho:entryFor table "dict.__new__" = some lD.«dict.__new__»:=Qj (by kernel_rfl)
theorem abn:plainId "dict.__new__" = true:=by decide +kernel
theorem ad0:entryFor table "dict.update.loop" = some lD.«dict.update.loop»:=Qj (by kernel_rfl)
theorem Kd:plainId "dict.update.loop" = true:=by decide +kernel
theorem apO:isSubtype (.type "dict") (.type "dict")=pure true:=by rw [isSubtype_type]; kernel_rfl
section
variable{prog:gk}{w:fK}{A:iI}{E:aB->aK->Prop}{s:aK}
theorem agY(a:aB){Q₁:aB->aK->Prop}(h:Q₁ (.ref s.heap.objs.size) { s with heap:=s.heap.push { cls:=.type "dict",data:=.dict #[] } }): jB (aN prog w) A (.call (.builtin "dict.__new__") ⟨[.type "dict",a],[]⟩) (wants Q₁ E) s:=by refine Vu ?_;show aJ _ A.in1 (do checkBuiltinCall "dict.__new__" ⟨[.type "dict",a],[]⟩; again (.builtin "dict.__new__" ⟨[.type "dict",a],[]⟩)) _ _ s;refine aG (KN (akD a) (aR ⟨Aq abn _,wW aho ?_⟩));rw [zy abn _];have hsub:=apO;have hmro:=W7;have hty:∀ s:aK,s.TypeIs (.type "dict") "type":=λ_=>rfl;obtain ⟨hp,g,d,tk,os⟩:=s;unfold lD.«dict.__new__»;repeat (any_goals (first | assumption | wp_step))
theorem IsTup.pairItems{T:au}{x y:aB}{Q:List aB->aK->Prop}(h:pO s.heap T #[x,y])(q:Q [x,y] s):aJ (aN prog w) A (aam (.ref T)) Q E s:=by obtain ⟨o,e,c,n,d⟩:=h;unfold aam;refine aG (CP (T:="tuple") ⟨o,e,c⟩ ?_);rw [bI (by decide)];exact aG (Bm e d (aR q))
variable{K:Type}[DecidableEq K](knd:KeyKind prog w K)
end
theorem aaR{P:gk}{w:fK}{H:Hp}{h:aY}(ok:iD P w H h):∀(ps:List (au × Key × V))(its:List aB),cD (ps.map λp=>V.ref p.1) its->(∀ p∈ps,H p.1=some (.tup [kV p.2.1,p.2.2])) ->
   ∃ vs:List (Key × aB),KV (ps.map (·.2)) vs/\∀(j:Nat)(kv:Key × aB),vs[j]?=some kv->∃ T key,its[j]?=some (.ref T)/\pO h T #[key,kv.2]/\(gZ P w).is kv.1 key=true
 | [],_,.nil,_=>⟨[],.nil,λj kv e=>by simp at e⟩
 | p :: ps,u :: us,.cons ru rv,hp=>by obtain ⟨vs,r,hv⟩:=aaR ok ps us rv λq hq=>hp q (iM _ hq);cases (show u=cL p.1 from ru);obtain ⟨_,its,r2,ob⟩:=(show gF P w H h p.1 (.tup [kV p.2.1,p.2.2]) from ok _ _ (hp p gU));obtain ⟨k,v,rfl,rk,rw⟩:=vU r2;refine ⟨(p.2.1,v) :: vs,.cons ⟨rfl,rw⟩ r,λj kv e=>?_⟩;cases j with| zero =>cases (show some (p.2.1,v)=some kv from e);exact ⟨p.1,k,rfl,ob.to,Ds rk⟩| succ j=>exact hv j kv (by simpa using e)
noncomputable def mX(H H':Hp):Prop:=∀ b o,H b=some o->H' b=some o\/∃ kvs ob,o=.dK kvs/\H' b=some (.jh ob o)
theorem mX.of(s:aF H H'):mX H H':=λb o e=>.inl (s b o e)
theorem mX.refl(H:Hp):mX H H:=λ_ _ e=>.inl e
variable{kvs:List (Key × V)}
theorem mX.rd(s:mX H H')(h:Rd H a (.dK kvs)):Rd H' a (.dK kvs):=by rcases h with h | ⟨o,h⟩;rcases s a _ h with q | ⟨_,ob,_,q⟩;exact .inl q;exact .inr ⟨ob,q⟩;rcases s a _ h with q | ⟨_,_,z,_⟩;exact .inr ⟨o,q⟩;cases z
variable{P:gk}{w:fK}
theorem aje{k:Key}{u:aB}(h:(gZ P w).is k u=true):cO (kV k) u:=by rcases sI (show xT k u=true from h) with ⟨j,t,e1,e2⟩ | ⟨x',t,e1,e2⟩ | ⟨e1,e2⟩;subst e1 e2; exact ⟨t,rfl⟩;subst e1 e2; exact ⟨t,rfl⟩;subst e1 e2; rfl
theorem Inv.freeze(I:Inv X ao aj H s)(h:H a=some (.dK kvs)):∃ o,Inv X ao aj (upd H a (.jh o (.dK kvs))) s:=by obtain ⟨z,d,vs,rel,o,es,ep,e,r⟩:=DN I.hok h;exact ⟨o,I.write (t':=s.toks) (h':=s.heap) (e:=a) (by rw [h]; exact rN) (.inl rfl) (λb u _ q=>q) ⟨o,e⟩ ⟨e,z,d,vs,rel,o,es,ep,e,r⟩⟩
variable{o:Obj}
theorem Inv.jh(I:Inv X ao aj H s)(h:H a=some (.jh o (.dK kvs))):∃ vs es ep,KV kvs vs/\(a == sysModules)=false/\o.data=.dict es ep/\s.heap.DictAt (gZ X.prog X.w) a vs ep:=by obtain ⟨e,z,d,vs,rel,o',es,ep,e',r⟩:=(show gF X.prog X.w H s.heap a (.jh o (.dK kvs)) from I.hok a _ h);rw [e] at e';cases e';exact ⟨vs,es,ep,rel,d,r.2.1,o,es,e,r⟩
namespace HT
open PySem PySem.Spec PyProof.Rows
end HT
section
variable{prog:gk}{w:fK}{A:iI}{E:aB->aK->Prop}{s:aK}
theorem akX:typeLookup (.type "tuple") "keys" = pure none:=by rw [Mt,O2]; kernel_rfl
set_option maxRecDepth 8000 in
theorem apn{xs:Array aB}{k:Nat}{Q:Option aB->aK->Prop}(hx:s.heap.get? a=some o)(hc:o.cls=.type "tuple")(hdat:o.data=.seq xs k)(hd:o.dict=none)(hA:A.handled=none)(h:∀ h' tk e,Heap.NewExcOf s.heap h' e "AttributeError"->Q none { s with heap:=h',toks:=tk }): aJ (aN prog w) A (getAttr? (.ref a) "keys") Q E s:=by obtain ⟨c,dct,dat,sl⟩:=o;simp only at hc hdat hd;subst hc hdat hd;obtain ⟨hp,g,d,tk,os⟩:=s;have hT:∀ tk',(⟨hp,g,d,tk',os⟩:aK).TypeIs (.ref a) "tuple":=λ_=>⟨_,hx,rfl⟩;have f1:=sub_AttributeError;have f3:=F.slot_tuple_getattribute.lookup;have f4:=F.slot_tuple_getattribute.bind (.ref a);have f5:=am_tuple_getattr_none;unfold getAttr? getAttrBy? getAttrBy;(repeat (any_goals (first | assumption | exact hT _ | ((with_reducible show aJ _ _ (call (CJ "tuple.__getattribute__") _ _) _ _ _); refine Mj F.slot_tuple_getattribute (hT _) am_entry_tuple_getattribute (F.args_tuple_getattribute_2 _ _) (meets_getattribute_miss_tuple a xs k sl "keys" _ akX (by decide +kernel) (by size_fits)) ⟨hx,hA,λh' tk' e hx'=>?_⟩) | wp_step)));obtain ⟨t',u',he⟩:=hx'.there;show aJ _ _ (getattributeRaised _ _ _ _ _ _ _) _ _ _;unfold getattributeRaised;(repeat (any_goals (first | assumption | wp_step)));exact h _ _ _ hx'.of
variable{K:Type}[DecidableEq K](knd:KeyKind prog w K)
theorem akQ{R:xQ->aK->Prop}{d it l:au}{items:Array aB}{kvs:List (K × aB)}(hh:A.in1.handled=none)(n1:d≠it)(n2:d≠l)(n3:it≠l)(hb:kvs.length<=aO)(hn:items.size=kvs.length): ∀(k i:Nat)(s:aK),kvs.length-i=k->i<=kvs.length->s.heap.DictOf knd d (merged [] (kvs.take i))->s.heap.IsTupleIter it l i->s.heap.IsTuple l items -> (∀(j:Nat)(kv:K × aB),kvs[j]?=some kv->∃ T key,items[j]?=some (.ref T)/\pO s.heap T #[key,kv.2]/\knd.is kv.1 key=true/\T≠d/\T≠it) -> (∀(h':aY)(tk:Nat),h'.DictOf knd d (merged [] kvs)->(∀ b o,b≠d->b≠it->s.heap.get? b=some o->h'.get? b=some o)->R (.ok (.ret .none)) { s with heap:=h',toks:=tk }) -> jB (aN prog w) A (.builtin "dict.update.loop" ⟨[.ref d,.ref it,rawInt i,.none],[]⟩) R s:=by intro k;induction k with| zero =>intro i s hk hi hd hit hl ht hR;have hin:i=kvs.length:=(by omega);refine wW ad0 ?_;rw [zy Kd _];show aJ _ A.in1 (pyNext (.ref it) >>= _) _ _ s;refine aG (aag hh hit hl (Lk (by omega)) λh' eb=>?_);show aJ _ A.in1 (Builtin.Dict.addKeywords d [] >>= λ_=>ret dM) _ _ _;refine aG (aR (aR (hR h' s.toks ?_ λb o _ b2 e=>eb b o b2 e)));rw [hin,lW] at hd;obtain ⟨o,es,ep,ho,r⟩:=hd;exact ⟨o,es,ep,eb _ _ n1 ho,r⟩| succ k ih =>intro i s hk hi hd hit hl ht hR;have hlt:i<kvs.length:=(by omega);obtain ⟨kv,hkv⟩:∃ kv,kvs[i]?=some kv:=⟨kvs[i],gD hlt⟩;obtain ⟨T,key,hx,hT,hkey,t1,t2⟩:=ht i kv hkv;refine wW ad0 ?_;rw [zy Kd _];show aJ _ A.in1 (pyNext (.ref it) >>= _) _ _ s;refine aG (QJ hit hl hx λh' g1 sb=>?_);have hT':pO h' T #[key,kv.2]:=(by obtain ⟨o,e,r⟩:=hT; exact ⟨o,(sb.2 T t2).aA e,r⟩);have hd':h'.DictOf knd d (merged [] (kvs.take i)):=(by obtain ⟨o,es,ep,ho,r⟩:=hd; exact ⟨o,es,ep,(sb.2 d n1).aA ho,r⟩);refine aG (jO (aG (Qq (IsTup.pairItems hT' ?_))));show aJ _ A.in1 (holding [key,kv.2] (dictSet d key kv.2)) _ _ _;refine jO ?_;unfold dictSet;refine jO (aG (knd.pyHash hkey ?_));have hlm:(merged [] (kvs.take i)).length<=aO:=(by have z:=merged_length_le ([]:List (K × aB)) (kvs.take i);rw [rR,gR] at z;omega);refine wpAny_dictSetHashed_pairs (s:={ s with heap:=h',toks:=s.toks+1 }) (hsz:=hlm) hkey hd' λh2 hd2 oM=>?_;show aJ _ A.in1 (again (.builtin "dict.update.loop" ⟨[.ref d,.ref it,rawInt ((i:Int)+1),.none],[]⟩)) _ _ _;have kk:∀ b o,b≠d->b≠it->s.heap.get? b=some o->h2.get? b=some o:=λb o b1 b2 e=>(oM.2 b b1).aA ((sb.2 b b2).aA e);refine aR ⟨Aq Kd _,ih (i+1) _ (by omega) hlt (by rw [merged_take_succ [] kvs i kv hkv]; exact hd2) (let ⟨o,e,r⟩:=g1; ⟨o,(oM.2 it (bW n1)).aA e,r⟩) (let ⟨o,e,r⟩:=hl; ⟨o,kk _ o (bW n2) (bW n3) e,r⟩) (λj kv2 hj=>?_) λh3 tk hd3 k3=>?_⟩;obtain ⟨T2,key2,a1,⟨o,a2,a2'⟩,a3,a4,a5⟩:=ht j kv2 hj;exact ⟨T2,key2,a1,⟨o,kk _ _ a4 a5 a2,a2'⟩,a3,a4,a5⟩;exact hR h3 tk hd3 λb o b1 b2 e=>k3 b o b1 b2 (kk b o b1 b2 e)
end
theorem ajG(hc:X.calm=true):jH X (.type "dict") (λxs H Q=>∃(l:au)(ps:List (au × Key × V)),xs=[.ref l]/\H l=some (.tup (ps.map λp=>.ref p.1))/\(∀ p∈ps,H p.1=some (.tup [kV p.2.1,p.2.2]))/\∀ d,H d=none->Q (.ref d) (upd H d (.dK (um [] (ps.map (·.2)))))):=by intro ao s aj H xs us Q I r h;obtain ⟨l,ps,rfl,hl,hp,q⟩:=h;obtain ⟨u,rfl,ru⟩:=lZ r;cases ru;obtain ⟨zl,its,rv,ol,el,cl,⟨n,dl⟩,nl⟩:=(show gF X.prog X.w H s.heap l (.tup _) from I.hok _ _ hl);have ln:(ps.map λp=>V.ref p.1).length=its.length:=rv.length;obtain ⟨vs,rel,hv⟩:=aaR I.hok ps its rv hp;have lvs:vs.length=its.length:=(by have z:=rel.length; rw [aL] at z; rw [aL] at ln; omega);rw [ln] at zl;have ll:l<s.heap.objs.size:=bQ el;refine callType_codes (Q₁:=λobj s₁=>obj=.ref s.heap.objs.size/\s₁={ s with heap:=s.heap.push { cls:=.type "dict",data:=.dict #[] } }) ag0 (ahq _) PySem.F.entry_dict_init (agY _ ⟨rfl,rfl⟩) λobj s₁ h₁=>?_;obtain ⟨rfl,rfl⟩:=h₁;have up:∀ c o,s.heap.get? c=some o->(s.heap.push { cls:=.type "dict",data:=.dict #[] }).get? c=some o:=λc o e=>cR _ e;have dS:(s.heap.push { cls:=.type "dict",data:=.dict #[] }).DictOf (gZ X.prog X.w) s.heap.objs.size []:=Heap.DictOf.new _;refine ⟨⟨_,gq _ rfl,rfl⟩,PySem.F.args_dict_init_2 _ _,?_⟩;unfold lD.«dict.__init__»;refine aG ?_;unfold Builtin.Dict.selfAndRest;refine aG (acM (Heap.DictOf.typeIs (s:={ s with heap:=s.heap.push { cls:=.type "dict",data:=.dict #[] } }) dS) ?_);refine aR ?_;show aJ _ _ (adz "dict.__init__" s.heap.objs.size (.ref l) [] .none) _ _ _;unfold adz;refine aG (CP (T:="tuple") ⟨_,up _ _ el,cl⟩ ?_);rw [bI (by decide)];refine aG (apn (A:=X.A.in1.in1) (up _ _ el) cl dl nl (I.ok.hd hc) λh1 tk e ne=>?_);rw [bI (show (none:Option aB).isNone=true from rfl)];refine aG (zu ?_);have k1:∀ c o,s.heap.get? c=some o->h1.get? c=some o:=λc o q=>ne.keeps c o (up c o q);have sz1:s.heap.objs.size<h1.objs.size:=(by obtain ⟨o,_,_,e,_⟩:=dS; exact bQ (ne.keeps _ _ e));have hl1:h1.IsTuple l its.toArray:=⟨_,k1 _ _ el,cl,n,dl⟩;refine aG (Te (s:={ s with heap:=h1,toks:=tk }) hl1 ?_);have k2:∀ c o,h1.get? c=some o->(h1.push { cls:=.type "tuple_iterator",data:=.fields #[.ref l,.int 0 0] }).get? c=some o:=λc o q=>cR _ q;refine aR ⟨Aq Kd _,?_⟩;have dz:∀ c,c<s.heap.objs.size->c≠s.heap.objs.size/\c≠h1.objs.size:=λc hc=>⟨fB hc,fB (Nat.lt_trans hc sz1)⟩;refine akQ (A:=X.A.in1) (gZ X.prog X.w) (d:=s.heap.objs.size) (it:=h1.objs.size) (l:=l) (items:=its.toArray) (kvs:=vs) (I.ok.hd hc) (fB sz1) (bW (dz l ll).1) (bW (dz l ll).2) (by omega) (by simp only [fV]; omega) _ 0 _ rfl (dR _) (by rw [Bf]; exact (dS.keep ne.keeps).keep k2) ⟨_,gq _ rfl,rfl,rfl⟩ (let ⟨o,e,r⟩:=hl1; ⟨o,k2 _ o e,r⟩) (λj kv hj=>?_) λh3 tk3 hd3 k3=>⟨rfl,?_⟩;obtain ⟨T,key,a1,⟨o,a2,a2'⟩,a3⟩:=hv j kv hj;have lt:=bQ a2;exact ⟨T,key,by simpa using a1,⟨o,k2 _ _ (k1 _ _ a2),a2'⟩,a3,(dz T lt).1,(dz T lt).2⟩;have kk:∀ c o,s.heap.get? c=some o->h3.get? c=some o:=λc o e=>k3 c o (dz c (bQ e)).1 (dz c (bQ e)).2 (k2 _ _ (k1 _ _ e));have rm:KV (um [] (ps.map (·.2))) (merged [] vs):=rel.merge .nil;have zm:(um [] (ps.map (·.2))).length<=aO:=(by have z:=acf (ps.map (·.2)) [];rw [rR,aL] at z;rw [aL] at ln;omega);exact ⟨.ref s.heap.objs.size,_,I.laid (t':=tk3) kk (bG _) (Mw zm (beq_eq_false_iff_ne.mpr (bW (fB I.big))) rm hd3),rfl,q _ (I.hok.fresh (bG _))⟩
namespace HT
open PySem PySem.Spec PyProof.Rows
theorem aik(l b:au)(items:Array aB)(n n2:Nat)(dd dd2:Option au)(sl sl2:Array (Option aB)):
   Meets (lD.«tuple.__eq__» ⟨[.ref l,.ref b],[]⟩) (λ_ R s=>s.heap.get? l=some { cls:=.type "tuple",dict:=dd,data:=.seq items n,slots:=sl }/\s.heap.get? b=some { cls:=.type "tuple",dict:=dd2,data:=.seq #[] n2,slots:=sl2 }/\R (.ok (.ret (nC items.isEmpty))) s) :=
 .of_wp λprog w A R s h=>by
   obtain ⟨hp,g,d,tk,os⟩:=s; obtain ⟨hl,hb,h⟩:=h; have f2:=RQ;obtain ⟨items⟩:=items;cases items with
   | nil =>
     wp_walk using yw hl,yw hb
     exact ⟨_,rfl,h⟩
   | cons x xs =>
     wp_walk using yw hl,yw hb
     exact ⟨_,rfl,h⟩
theorem aoA{prog:gk}{A:iI}{E:aB->aK->Prop}{t b:au}{items:Array aB}{Q:aB->aK->Prop}(ht:pO s.heap t items)(hb:pO s.heap b (#[]:Array aB))(hu:A.units<cLine)(h:Q (.bool items.isEmpty) s):aJ (aN prog w) A (gJ .Eq (.ref t) (.ref b)) Q E s:=by obtain ⟨⟨cls,dd,data,sl⟩,ho,hc,n,hd⟩:=id ht;obtain ⟨⟨cls2,dd2,data2,sl2⟩,ho2,hc2,n2,hd2⟩:=id hb;simp only at hc hd hc2 hd2;subst hc hd hc2 hd2;exact Vc (op:=.Eq) ⟨_,ho,rfl⟩ ⟨_,ho2,rfl⟩ PySem.F.slot_tuple_eq PySem.F.entry_tuple_eq (PySem.F.args_tuple_eq_2 _ _) (aik t b items n n2 dd dd2 sl sl2) ⟨ho,ho2,show nC items.isEmpty≠QD/\Q (.bool items.isEmpty) s from ⟨(λx=>nomatch x),h⟩⟩ hu
end HT
structure EqT(x y:V)(H:Hp)(Q:VK):Prop where
 h:∃ a b xs,x=.ref a/\y=.ref b/\H a=some (.tup xs)/\H b=some (.tup [])/\Q (.bl xs.isEmpty) H
theorem air(hu:X.A.units<cLine):cU X (gJ .Eq) EqT:=by intro ao s aj H x y v u Q I rx ry ⟨h⟩;obtain ⟨a,b,xs,rfl,rfl,ha,hb,q⟩:=h;cases rx;cases ry;obtain ⟨its,r1,p1,_⟩:=I.tuple (aH.of ha);obtain ⟨its2,r2,p2,_⟩:=I.tuple (aH.of hb);have e:its2=[]:=r2.Bw.mpr rfl;subst e;refine HT.aoA p1 p2 hu ⟨.bl xs.isEmpty,H,I,?_,q⟩;have e2:its.toArray.isEmpty=xs.isEmpty:=(by have:=r1.Bw;cases xs <;> cases its <;> simp_all);rw [e2];rfl
section
variable{X:Cx}{e e1 e2:Expr}{es:List Expr}{te:TE}{pos:Pos}
variable{tj:TJ}
theorem alB:jH X (.type "str") (λxs H Q=>(∃ i,xs=[.int i]/\i.natAbs.log2<1920/\Q (.str (toString i)) H)\/∃ z,xs=[.str z]/\Q (.str z) H):=by intro ao s aj H xs us Q I r h;rcases h with h | ⟨z,rfl,q⟩;exact ahW ao s aj H xs us Q I r h;obtain ⟨u,rfl,t,rfl⟩:=lZ r;exact PySem.P.str_of_str ⟨.str z,H,I,⟨t,rfl⟩,q⟩
noncomputable def Ite(K:bV)(a:au)(xs:List V):It :=
 ⟨λi H=>aV K H a xs/\i<xs.length,λi H v H'=>∃ T x,H T=none/\v=.ref T/\xs[i]?=some x/\H'=upd H T (.tup [.int (i:Int),x]),λi H=>aV K H a xs/\xs.length<=i⟩
noncomputable def apH(e it a:au)(i:Nat)(h:aY):Prop:=(∃ old,IsEnum h e it (i:Int) old)/\h.IsListIter it a i
variable{elts:List Expr}
theorem ang{k:Nat}(e it a:au)(ne:e≠it)(xs:List V):
   Turn P w K (.Tuple elts k pos) (Ite K a xs) [e,it] e (apH e it a) where
 mem:=by simp
 obj:=λi h st c hc=>by
   obtain ⟨⟨old,he⟩,⟨o1,e1,c1,d1⟩⟩:=st;simp only [dU,lC,or_false] at hc;rcases hc with rfl | rfl
   . exact ⟨_,he,λv z=>by cases (show Ec _=Eh v from z)⟩
   . exact ⟨o1,e1,λv z=>by rw [d1] at z; cases z⟩
 keep:=λi h h' st k=>by
   obtain ⟨⟨old,he⟩,h1⟩:=st;exact ⟨⟨old,k e (by simp) _ he⟩,h1.at λo q=>k it (by simp) o q⟩
 item:=by
   intro X hP hw hK hc i ao s aj H E I hf st hg;subst hP hw hK;obtain ⟨hq1,l1⟩:=hg;obtain ⟨⟨old,he⟩,h1⟩:=st;obtain ⟨Dl,uV,qK,_⟩:=I.list hq1;have x1:xs[i]?=some xs[i]:=gD l1;obtain ⟨u,hu,ru⟩:=uV.get x1;refine wpAny_pyNext_enum_item he h1 qK.isList (x:=u) (by simpa using hu) ne λh' a1 a2 a3 a4 a5=>?_
   refine ⟨_,rfl,wpAny_letOwnedTupleGo_enum (s:={ s with heap:=h',toks:=s.toks+1 }) a1 λh2' b1 b2=>?_⟩;have lte:e<s.heap.objs.size:=bQ he;have nz:s.heap.objs.size≠e:=qp lte
   have kk:∀ c o,c ∉ [e,it]->s.heap.get? c=some o->h2'.get? c=some o:=λc o hc q=>by
     simp only [dU,lC,or_false,not_or] at hc;exact (b2.2 c hc.1).aA (a5 c o hc.1 hc.2 q)
   have eT:h2'.get? s.heap.objs.size=some { cls:=.type "tuple",data:=.seq #[.int (i:Int) s.toks,u] }:=(b2.2 _ nz).aA a3;have fresh:H s.heap.objs.size=none:=I.hok.fresh (bG _)
   have vp:∀ c∈[e,it],c<s.heap.objs.size:=λc hc=>by
     simp only [dU,lC,or_false] at hc;obtain ⟨o1,e1,_⟩:=h1;rcases hc with rfl | rfl
     . exact lte
     . exact bQ e1
   have I1:Inv X ao aj (upd H s.heap.objs.size (.tup [.int (i:Int),xs[i]])) { s with heap:=s.heap.push { cls:=.type "tuple",data:=.seq #[.int (i:Int) s.toks,u] } } :=
     I.laid (t':=s.toks) (λ_ _ e=>cR _ e) (bG _) ⟨by show 2<=aO; rw [cQ]; decide,[.int (i:Int) s.toks,u],.cons ⟨_,rfl⟩ (.cons ru .nil),uQ.new _ _⟩
   have hf1:∀ c∈[e,it],jd X ao (upd H s.heap.objs.size (.tup [.int (i:Int),xs[i]])) c:=λc hc=>⟨by rw [aW (fB (vp c hc))]; exact (hf c hc).1,(hf c hc).2⟩
   have I2:Inv X ao aj (upd H s.heap.objs.size (.tup [.int (i:Int),xs[i]])) { s with heap:=h2',toks:=s.toks+1 }:=I1.Js (t':=s.toks+1) (λc o hc q=>by
     by_cases ec:c=s.heap.objs.size
     . subst ec;have e':(s.heap.push { cls:=.type "tuple",data:=.seq #[.int (i:Int) s.toks,u] }).get? s.heap.objs.size=some o:=q;rw [gq _ rfl] at e';cases e';exact eT
     . have e':(s.heap.push { cls:=.type "tuple",data:=.seq #[.int (i:Int) s.toks,u] }).get? c=some o:=q;rw [R7 _ _ _ ec] at e'
       exact kk c o hc e') hf1
   exact ⟨.ref s.heap.objs.size,_,I2,rfl,⟨_,_,fresh,rfl,x1,rfl⟩,⟨⟨u,b1⟩,a2.at λo q=>(b2.2 _ (bW ne)).aA q⟩,λc hc=>(hf1 c hc).1⟩
 done:=by
   intro X hP hw hK hc i ao s aj H E I hf st hg;subst hP hw hK;obtain ⟨hq1,hl⟩:=hg;obtain ⟨⟨old,he⟩,h1⟩:=st;obtain ⟨Dl,uV,qK,_⟩:=I.list hq1;have e1:=uV.length;refine wpAny_pyNext_enum_end (I.ok.hd hc) he h1 qK.isList (by simp; omega) λh' kk=>⟨rfl,I.Js (t':=s.toks) (λc o hc q=>?_) hf⟩
   simp only [dU,lC,or_false,not_or] at hc;exact kk c o hc.2 q
 self:=λ_ _ _ _ _ st h=>let ⟨⟨_,he⟩,_⟩:=st; aaK he h
noncomputable def ajl(K:bV)(ta:TA):TI:=fun aj H R=>ta aj H λvs H1=>∃ a xs,vs=[.ref a]/\aV K H1 a xs/\R (Ite K a xs) H1
theorem anY{a:Expr}{k:Nat}{tp:Pos}(hg:Gl X "enumerate")(hm:X.mg "enumerate" = none)(ha:PA X [a] ta)(hs:gA [a] X.env=[(false,eval a X.env)]:=by rfl):
   PI X (.Tuple elts k tp) (.Call (.Name "enumerate" p) [a] [] pos) (ajl X.K ta):=by
 intro ao s aj H R I h;refine Ci (xP I hg hm (show bootBuiltins "enumerate" = some (.type "enumerate") by decide +kernel) (Bp (bH (ha pos ao s aj H _ I h) λus s1 ⟨vs,H1,I1,r1,q1⟩=>?_) (by rw [hs]; rfl) (by rfl)));obtain ⟨l1,xs,e,hq1,q⟩:=q1;subst e;obtain ⟨u,rfl,r⟩:=lZ r1;cases (show u=cL l1 from r);obtain ⟨Dl,uV,qK,_⟩:=I1.list hq1;refine call_enumerate_list qK.isList λh' he hi _ hk=>aaK he ?_
 refine ⟨_,_,_,_,H1,rfl,I1.kept (t':=s1.toks) hk,ang (s1.heap.objs.size+1) s1.heap.objs.size l1 (qp (Dk _)) xs,⟨⟨_,he⟩,hi⟩,λc hc=>?_,q⟩
 have le:s1.heap.objs.size<=c:=by
   simp only [dU,lC,or_false] at hc;rcases hc with rfl | rfl
   . exact yx _ 1
   . exact bG _
 exact I1.ug le (I1.hok.fresh le)
theorem akc{tb:TS}{D:Ends}(Pv:Nat->St->Hp->Prop)(h0:Pv 0 aj H)(hl:∀ i aj H,i<=xs.length->Pv i aj H->aV K H a xs)(hs:∀ i x T aj H,xs[i]?=some x->Pv i aj H->H T=none->g (.ref T) aj (upd H T (.tup [.int (i:Int),x])) fun dJ H2=>tb { D with nx:=Pv (i+1),ct:=Pv (i+1),bk:=D.nx } dJ H2)(hd:∀ aj H,Pv xs.length aj H->D.nx aj H): ∃ W:Nat->Nat->St->Hp->Prop,(∃ m,W 0 m aj H)/\∀ i m aj H,W i m aj H -> ((Ite K a xs).stop i H/\D.nx aj H)\/((Ite K a xs).go i H/\∃ N:St->Hp->Prop,(∀ bA H',N bA H'->∃ m',m'<m/\W (i+1) m' bA H')/\∀ x H',(Ite K a xs).sO i H x H'->g x aj H' fun dJ H2=>tb { D with nx:=N,ct:=N,bk:=D.nx } dJ H2):=by refine ⟨λi m aj H=>m=xs.length-i/\i<=xs.length/\Pv i aj H,⟨xs.length,by simp,dR _,h0⟩,?_⟩;rintro i m aj H ⟨rfl,hi,p⟩;have q:=hl i aj H hi p;by_cases hlt:i<xs.length;refine .inr ⟨⟨q,hlt⟩,Pv (i+1),fun bA H' p'=>⟨xs.length-(i+1),by omega,rfl,hlt,p'⟩,λx H' y=>?_⟩;obtain ⟨T,x',fT,rfl,hx,rfl⟩:=y;exact hs i x' T aj H hx p fT;have e:i=xs.length:=(by omega);subst e;exact .inl ⟨⟨q,bG _⟩,hd aj H p⟩
end
namespace TP
open PySem PySem.Builtin PySem.Builtin.Str
end TP
noncomputable def tu(e:au)(h:aY):Prop:=∃ o vs,h.get? e=some o/\o.data=.fields vs/\vs[2]?=some .none
noncomputable def rM(A:iI)(h:aY):Prop:=A.handled=none\/∃ e,A.handled=some (.ref e)/\tu e h
variable{e:au}
theorem tu.at'{h:aY}(n:tu e h)(k:∀ o,h.get? e=some o->h'.get? e=some o):tu e h':=let ⟨o,vs,a,b,c⟩:=n; ⟨o,vs,k o a,b,c⟩
variable{A:iI}
theorem rM.at'{h:aY}(q:rM A h)(k:∀ b o,h.get? b=some o->h'.get? b=some o):rM A h':=by rcases q with q | ⟨e,q,n⟩;exact .inl q;exact .inr ⟨e,q,n.at' (k e)⟩
theorem amP:entryFor table "proto.unchain" = some lD.«proto.unchain»:=Qj (by kernel_rfl)
variable{x:au}{prog:gk}{E:aB->aK->Prop}
theorem ahf{Q:aB->aK->Prop}(n:tu e s.heap)(q:Q .none s):aJ (aN prog w) A (runValue (Code.builtin "proto.unchain" { pos:=[.ref x,.ref e,.ref e,.bool false] })) Q E s:=by
 obtain ⟨o,vs,he,hd,h2⟩:=n;refine runValue_entry amP ?_
 show aJ _ _ (do
   let context <- field (.ref e) 2
   _) _ _ s
 refine aG (kj he hd h2 ?_);rw [bI (by rfl)];exact aR ⟨_,rfl,q⟩
variable{bM:Type}
theorem agx{ox:Obj}{vx:Array aB}{Q:bM->aK->Prop}(qh:rM A s.heap)(hx:s.heap.get? x=some ox)(dx:ox.data=.fields vx)(lx:2<vx.size)(nx:∀ e,A.handled=some (.ref e)->e≠x)(q:∀ h',(∀ b,b≠x->h'.get? b=s.heap.get? b)->(∃ o',h'.get? x=some o'/\o'.cls=ox.cls)->E (.ref x) { s with heap:=h' }):aJ (aN prog w) A (raiseNew (.ref x):Sem bM) Q E s:=by unfold raiseNew;refine aG (wpAny_handled ?_);rcases qh with qh | ⟨e,qh,n⟩;rw [qh];exact SX (q s.heap (λ_ _=>rfl) ⟨ox,hx,rfl⟩);rw [qh];show aJ _ _ (if (cL e != cL x)=true then _ else _) _ _ s;rw [bI (by have:=nx e qh; simpa using this)];refine aG (jO (ahf n ?_));refine aG ?_;unfold updateField;refine aG (wpAny_load hx ?_);rw [dx];show aJ _ _ (if 2<vx.size then _ else _) _ _ s;rw [bI lx];refine wpAny_update hx (SX (q _ (λb n=>qQ _ _ (bW n)) ⟨_,xY _ hx (M9 (Bg dx _)),SM ..⟩))
theorem N5{Q:bM->aK->Prop}(qh:rM A s.heap)(q:∀ h' x,(∀ b o,s.heap.get? b=some o->h'.get? b=some o)->(∃ o',h'.get? x=some o'/\o'.cls=.type "StopIteration")->E (.ref x) { s with heap:=h' }): aJ (aN prog w) A (ach:Sem bM) Q E s:=by unfold ach;show aJ _ _ (newExc (.type "StopIteration") [] >>= _) _ _ _;refine aG ?_;simp only [newExc,newTuple];refine aG (oK ?_ (by size_fits));refine aG (m:=firstArgMember _ _) (KN (a:=dM) (by first | rfl | (simp only [firstArgMember]; rfl)) (oK ?_ (by size_fits)));generalize hs1:s.heap.push { cls:=vN "tuple",data:=O8 ([]:List aB).toArray }=h1;have k1:∀ b o,s.heap.get? b=some o->h1.get? b=some o:=λb o e=>(by rw [<- hs1]; exact cR _ e);have z1:s.heap.objs.size<=h1.objs.size:=(by rw [<- hs1,qY]; exact Dn _);refine agx (x:=h1.objs.size) ?_ (gq _ rfl) rfl ?_ (λe he z=>?_) (λh' oth ex=>q _ _ (λb o e=>?_) ex);exact qh.at' λb o e=>cR _ (k1 b o e);show 2<(#[_,dM,dM,dM,nC false,dM]++_).size;rw [Array.size_append];exact jL (by decide:2<6) (yx 6 _);rcases qh with qh | ⟨e',qh,n⟩;rw [qh] at he; cases he;rw [qh] at he;cases he;obtain ⟨o,_,e0,_⟩:=n;have lt:=bQ (k1 _ _ e0);rw [z] at lt;exact bO lt (qF _);have lt:=bQ (k1 _ _ e);rw [oth b (fB lt)];exact cR _ (k1 b o e)
variable{it:au}{Q:Option aB->aK->Prop}
theorem next_end{T id:String}{b:lD}(ty:s.TypeIs (.ref it) T)(sl:Slot T (xO "__next__") id)(en:entryFor table id=some b)(ar:argsOk id { pos:=[.ref it] })(h:∀(E':aB->aK->Prop),(∀ h' x,Dv it s.heap h'->(∃ o',h'.get? x=some o'/\o'.cls=.type "StopIteration")->E' (.ref x) { s with heap:=h' })->aJ (aN prog w) A.in1 (b { pos:=[.ref it] }) (λ_ _=>False) E' s)(q:∀ h',Dv it s.heap h'->Q none { s with heap:=h' }):aJ (aN prog w) A (pyNext (.ref it)) Q E s:=by unfold pyNext;refine aG (Cj (Bb (name:=xO "__next__") ty sl (tH sl ty en ?_ ar)));refine jx (h _ λh' x eb ⟨o',e1,e2⟩=>?_) (λ_ _ f=>f.elim) (λ_ _ f=>f);refine aG (Es (T:="StopIteration") (b:=true) ⟨o',e1,e2⟩ Uz ?_);exact aR (q h' eb)
variable{l:au}{items:Array aB}
theorem ajz(qh:rM A s.heap)(uy:∀ e,A.handled=some (.ref e)->e≠it)(st:s.heap.IsListIter it l i)(hl:s.heap.IsList l items)(hi:items[i]?=none)(q:∀ h',Dv it s.heap h'->Q none { s with heap:=h' }):aJ (aN prog w) A (pyNext (.ref it)) Q E s:=by obtain ⟨o,e,c,dt⟩:=st;refine next_end (T:="list_iterator") ⟨o,e,c⟩ slot_listiter_next entry_listiter_next (args_listiter_next _) (λE' q'=>?_) q;refine aG (aR ?_);refine aG (kj (x:=.ref l) e dt rfl ?_);show aJ _ _ (if (cL l == dM)=true then _ else _) _ _ s;rw [aZ (show ¬ ((cL l == dM)=true) from iW)];refine aG (kj (x:=.int i 0) e dt rfl ?_);obtain ⟨ol,el,cl,nl,dl⟩:=hl;refine aG (Bm el dl ?_);show aJ _ _ (match items[(i:Int).toNat]? with | some x=>_ | none=>_) _ _ s;rw [Am,hi];refine aG (zu (aG (yD e dt (by show 0<2; decide) ?_)));have oth:∀ b,b≠it->(s.heap.update it (vO (·.setIfInBounds 0 dM))).get? b=s.heap.get? b:=λb n=>qQ _ _ (bW n);refine N5 (bM:=Fin) ?_ λh' x k ex=>q' h' x (λb o n e=>k b o ((oth b n).aA e)) ex;rcases qh with qh | ⟨z,qh,n⟩;exact .inl qh;exact .inr ⟨z,qh,n.at' λo e=>(oth z (uy z qh)).aA e⟩
theorem alr(qh:rM A s.heap)(uy:∀ e,A.handled=some (.ref e)->e≠it)(st:s.heap.IsTupleIter it l i)(hl:s.heap.IsTuple l items)(hi:items[i]?=none)(q:∀ h',Dv it s.heap h'->Q none { s with heap:=h' }):aJ (aN prog w) A (pyNext (.ref it)) Q E s:=by obtain ⟨o,e,c,dt⟩:=st;refine next_end (T:="tuple_iterator") ⟨o,e,c⟩ PySem.F.slot_tuple_iterator_next PySem.F.entry_tuple_iterator_next (PySem.F.args_tuple_iterator_next_1 _) (λE' q'=>?_) q;refine aG (aR ?_);refine aG (kj (x:=.ref l) e dt rfl ?_);show aJ _ _ (if (cL l == dM)=true then _ else _) _ _ s;rw [aZ (show ¬ ((cL l == dM)=true) from iW)];refine aG (kj (x:=.int i 0) e dt rfl ?_);obtain ⟨ol,el,cl,nl,dl⟩:=hl;refine aG (Bm el dl ?_);show aJ _ _ (match items[(i:Int).toNat]? with | some x=>_ | none=>_) _ _ s;rw [Am,hi];refine aG (zu (aG (yD e dt (by show 0<2; decide) ?_)));have oth:∀ b,b≠it->(s.heap.update it (vO (·.setIfInBounds 0 dM))).get? b=s.heap.get? b:=λb n=>qQ _ _ (bW n);refine N5 (bM:=Fin) ?_ λh' x k ex=>q' h' x (λb o n e=>k b o ((oth b n).aA e)) ex;rcases qh with qh | ⟨z,qh,n⟩;exact .inl qh;exact .inr ⟨z,qh,n.at' λo e=>(oth z (uy z qh)).aA e⟩
variable{x:Str}
theorem anR{t:Tok}(qh:rM A s.heap)(uy:∀ e,A.handled=some (.ref e)->e≠it)(st:s.heap.IsStrIter it "str_ascii_iterator" x t i)(hi:x.cps[i]?=none)(q:∀ h',Dv it s.heap h'->Q none { s with heap:=h' }):aJ (aN prog w) A (pyNext (.ref it)) Q E s:=by obtain ⟨o,e,c,dt⟩:=st;refine next_end (T:="str_ascii_iterator") ⟨o,e,c⟩ PySem.F.slot_str_ascii_iterator_next PySem.F.entry_str_ascii_iterator_next (PySem.F.args_str_ascii_iterator_next_1 _) (λE' q'=>?_) q;refine aG (aR ?_);refine aG (kj (x:=.str x t) e dt rfl ?_);show aJ _ _ (if (vf x t == dM)=true then _ else _) _ _ s;rw [aZ (show ¬ ((vf x t == dM)=true) from iW)];refine aG (aR ?_);refine aG (kj (x:=.int i 0) e dt rfl ?_);show aJ _ _ (match x.cps[(i:Int).toNat]? with | some x=>_ | none=>_) _ _ s;rw [Am,hi];refine aG (zu (aG (yD e dt (by show 0<2; decide) (aG (RV ?_)))));have oth:∀ b,b≠it->(s.heap.update it (vO (·.setIfInBounds 0 dM))).get? b=s.heap.get? b:=λb n=>qQ _ _ (bW n);refine N5 (bM:=Fin) ?_ λh' x k ex=>q' h' x (λb o n e=>k b o ((oth b n).aA e)) ex;rcases qh with qh | ⟨z,qh,n⟩;exact .inl qh;exact .inr ⟨z,qh,n.at' λo e=>(oth z (uy z qh)).aA e⟩
theorem alk{t:Tok}(qh:rM A s.heap)(uy:∀ e,A.handled=some (.ref e)->e≠it)(st:s.heap.IsStrIter it "str_iterator" x t i)(hi:x.cps[i]?=none)(q:∀ h',Dv it s.heap h'->Q none { s with heap:=h' }):aJ (aN prog w) A (pyNext (.ref it)) Q E s:=by obtain ⟨o,e,c,dt⟩:=st;refine next_end (T:="str_iterator") ⟨o,e,c⟩ PySem.F.slot_str_iterator_next PySem.F.entry_str_iterator_next (PySem.F.args_str_iterator_next_1 _) (λE' q'=>?_) q;refine aG (aR ?_);refine aG (kj (x:=.str x t) e dt rfl ?_);show aJ _ _ (if (vf x t == dM)=true then _ else _) _ _ s;rw [aZ (show ¬ ((vf x t == dM)=true) from iW)];refine aG (aR ?_);refine aG (kj (x:=.int i 0) e dt rfl ?_);show aJ _ _ (match x.cps[(i:Int).toNat]? with | some x=>_ | none=>_) _ _ s;rw [Am,hi];refine aG (zu (aG (yD e dt (by show 0<2; decide) (aG (RV ?_)))));have oth:∀ b,b≠it->(s.heap.update it (vO (·.setIfInBounds 0 dM))).get? b=s.heap.get? b:=λb n=>qQ _ _ (bW n);refine N5 (bM:=Fin) ?_ λh' x k ex=>q' h' x (λb o n e=>k b o ((oth b n).aA e)) ex;rcases qh with qh | ⟨z,qh,n⟩;exact .inl qh;exact .inr ⟨z,qh,n.at' λo e=>(oth z (uy z qh)).aA e⟩
noncomputable def CX1(P:gk)(w:fK):wz:=λouter H s E e s'=>vZ λ(a C t:au)(B:aY)(H':Hp)=>QA9 (e=.ref a) (s'.os=s.os) (zp s'.gens) (Un (frs outer) [] H H' s.heap s'.heap) (iD P w H' s'.heap) (JG B outer a (.ref C) (.ref t) s'.heap) ((∀ b o,s'.heap.get? b=some o->b ∉ frs outer->((∃ u,H' b=some u)\/∃ u,s.heap.get? b=some u)->B.get? b=some o)) (H' a=none) (E (.ref C) none H')
variable{b:au}
theorem Inv.track(I:Inv X ao aj H s){u:HO}(e:H b=some u):b ∉ frs X.stack:=λz=>by
 rw [I.Nm b z] at e; cases e
theorem Inv.old(I:Inv X ao aj H s){u:Obj}(e:X.s₀.heap.get? b=some u)(hb:b ∉ X.fs):b ∉ frs X.stack:=λz=>by
 rcases dU.mp (I.Pj b z) with q | q
 . rw [q] at e; exact bO (jL (bQ e) I.ok.above) (qF _)
 . exact hb q
variable{h2:aY}
theorem Inv.out(I:Inv X ao aj H s)(hex:X.ex=[])(hk:∀ b o,s.heap.get? b=some o->b ∉ frs X.stack->h2.get? b=some o)(hs:∀ b o,s.heap.get? b=some o->b∈frs X.stack->∃ sl,h2.get? b=some { o with slots:=sl }):Un X.fs [] X.H₀ H X.s₀.heap h2/\iD X.prog X.w H h2:=by have nx:∀ b:au,b ∉ X.ex:=λb=>(by rw [hex]; simp);refine ⟨⟨λb o q n hb _=>hk b o (I.base.keep b o q n hb (nx b)) (I.old q hb),λb o q n hb _=>?_,λb o q n _=>I.base.free b o q n (nx b),λb o q _=>?_,I.base.dH,I.base.sS,I.base.tX⟩,λa o e=>?_⟩;obtain ⟨sl,e⟩:=I.base.slot b o q n hb (nx b);by_cases z:b∈frs X.stack;obtain ⟨sl2,e2⟩:=hs b _ e z;exact ⟨sl2,e2⟩;exact ⟨sl,hk b _ e z⟩;obtain ⟨o2,e⟩:=I.base.there b o q (nx b);by_cases z:b∈frs X.stack;obtain ⟨sl2,e2⟩:=hs b _ e z;exact ⟨_,e2⟩;exact ⟨_,hk b _ e z⟩;refine (I.hok a o e).stay (λb u hb q=>hk b u q ?_) (λ_ q=>q) λ_ _ q=>q;rcases hb with rfl | hb;exact I.track e;exact I.track hb
theorem Inv.there(I:Inv X ao aj H s){u:HO}(e:H b=some u):∃ o,s.heap.get? b=some o:=by have z:=I.hok b u e;have l:=z.lt;cases q:s.heap.get? b with| some o=>exact ⟨o,rfl⟩| none =>exfalso;revert z;cases u with| lst xs=>intro z; obtain ⟨_,_,_,_,r⟩:=z; rw [q] at r; cases r| tup xs=>intro z; obtain ⟨_,_,_,o,r,_⟩:=z; rw [q] at r; cases r| dK kvs=>intro z; obtain ⟨_,_,_,_,o,_,_,r,_⟩:=z; rw [q] at r; cases r| dT kvs=>intro z; obtain ⟨_,_,_,_,o,_,_,r,_⟩:=z; rw [q] at r; cases r| set S n=>intro z; obtain ⟨o,_,_,_,r,_⟩:=z; rw [q] at r; cases r| ins C dx fs=>intro z; obtain ⟨_,_,_,r,_⟩:=z; rw [q] at r; cases r| own y=>intro z; obtain ⟨_,r⟩:=z; rw [q] at r; cases r| xd fs=>intro z; obtain ⟨_,⟨_,_,_,r,_⟩,_⟩:=z; rw [q] at r; cases r| rng lo hi=>intro z; obtain ⟨_,_,_,r⟩:=z; rw [q] at r; cases r| jh ob u=>intro z; obtain ⟨r,_⟩:=z; rw [q] at r; cases r| tbl ps=>intro z; have r:s.heap.get? b=some _:=z; rw [q] at r; cases r| met f y=>intro z; have r:s.heap.get? b=some _:=z; rw [q] at r; cases r| ext Dz=>intro z; obtain ⟨_,⟨_,r⟩,_⟩:=z; rw [q] at r; cases r
variable{C:au}
theorem aiB{h:aY}{bmB:List aB}{newId:String}(X:K.In h)(q:JT K C bmB newId=true):
   ∃(nm qn:Str)(N:au)(bs bm:List aB)(hd:Bool)(sn:List Str)(sub:List aB)(ab:Bool)(col:Option Bool)(dd:Option au)(k0 k1 k2 k3 k5:Option aB)(mN:Str->Option aB),
     h.get? C=some (excClassObj nm qn C N bs bm hd sn sub ab col dd k0 k1 k2 k3 k5 newId)/\h.Ns N mN/\mN "__init__" = none/\OwnTail h bmB bm:=by
 unfold JT at q;split at q
 case h_1 dd cd sl ho =>
   split at q
   case h_1 C' bm k0 k1 k2 k3 n k5 hm hs =>
     obtain ⟨q,hni⟩:=cB.mp q;obtain ⟨q,hok⟩:=cB.mp q;obtain ⟨q,ht⟩:=cB.mp q;obtain ⟨q,hdel⟩:=cB.mp q;obtain ⟨q1,q2⟩:=cB.mp q;have q1:=beq_iff_eq.mp q1;have q2:=beq_iff_eq.mp q2;have hni:=beq_iff_eq.mp hni;subst q1 q2;obtain ⟨nm,bs,mro,ns,qn,hd,sn,sub,ab,col,del⟩:=cd;have hm2:mro=cL C' :: bm:=hm;have ape:del=false:=by simpa using hdel
     subst hm2 ape
     have hsl:sl=#[k0,k1,k2,k3,some (.builtin n),k5]:=by
       cases sl with
       | mk l=>exact jr Array.mk hs
     subst hsl;exact ⟨nm,qn,ns,bs,bm,hd,sn,sub,ab,col,dd,k0,k1,k2,k3,k5,_,X _ _ ho,.of_isNs (PySem.W.isNs_of_in X hok),PySem.W.nsMap_none_of_in X hok hni,PySem.W.tail_of_in X ht⟩
   case h_2=>cases q
 case h_2=>cases q
section
variable{X:Cx}{E:XK}{x:Str}{C:au}{np cpos pos:Pos}{e:Expr}{es:List Expr}{t:TA}
noncomputable def aiU(C:au)(E:XK)(t:TA):TS:=λ_ aj H=>t aj H λvs H1=>vs.length<=aO/\E (.ref C) none H1
end
section
variable{X:Cx}{ao:List (au × Obj)}{aj:St}{H:Hp}{s:aK}
theorem Ln{M:Dj}{Q:Unit->aK->Prop}(I:Inv X ao aj H s)(hN:X.N.Nodup)(hi:X.N[i]?=some x)(hk:X.env.scope.names.lookup x=some .local)(h:∀ s',Inv X ao (aj.set i none) H s'->Q () s'):aJ M A (do bindName X.env x .none; unbindBehindTheSuite X.env x pos) Q E s:=by obtain ⟨m,hn,hl⟩:=id I.loc;have Ng:i<aj.length:=(by rw [I.len]; exact (jC.mp hi).1);refine wpAny_nameGoes_keeps hk hn (by rw [I.ok.kind]; rfl) λh' v hn' hs=>h _ ?_;have far:∀{b:au}{o:Obj},X.s₀.heap.get? b=some o->h'.get? b=s.heap.get? b:=λe=>hs.2 _ (fB (jL (bQ e) I.ok.above));refine ⟨I.ok,I.os,I.bare,⟨λb o e n hb hx=>(far e).aA (I.base.keep b o e n hb hx),λb o e n hb hx=>?_,I.base.free,λb o e hx=>?_,I.base.dH,I.base.sS,I.base.tX⟩,⟨_,hn',λj y v' e1 e2 e3=>?_⟩,λy c e=>?_,I.free,I.qJ,λp hp=>?_,λb ob e=>?_,by rw [List.length_set]; exact I.len⟩;obtain ⟨sl,e1⟩:=I.base.slot b o e n hb hx;exact ⟨sl,(far e).aA e1⟩;obtain ⟨o',e1⟩:=I.base.there b o e hx;exact ⟨o',(far e).aA e1⟩;by_cases hj:j=i;subst hj;rw [VJ Ng] at e2;cases e2;rw [Rk (bW hj)] at e2;obtain ⟨u',r',q⟩:=hl j y v' e1 e2 e3;refine ⟨u',r',?_⟩;rcases q with ⟨k,e⟩ | ⟨k,c,e,z⟩;refine .inl ⟨k,?_⟩;have ny:y≠x:=λe=>hj (Xy hN e1 (e ▸ hi));show (if y=x then v else m y)=some u';rw [aZ ny]; exact e;exact .inr ⟨k,c,e,z.sameBut hs (I.yM y c e)⟩;obtain ⟨w',z⟩:=I.cell y c e;exact ⟨w',z.sameBut hs (I.yM y c e)⟩;obtain ⟨e,n,ne,nf,d⟩:=I.pin p hp;exact ⟨(hs.2 p.1 ne).aA e,n,ne,nf,d⟩;refine (I.hok b ob e).stay (λc w' hc q=>(hs.2 c ?_).aA q) (λ_ q=>q) λ_ _ q=>q;intro z;subst z;rcases hc with hc | hc;rw [<- hc,I.free] at e; cases e;rw [I.free] at hc; cases hc
noncomputable abbrev Cx.marked(X:Cx)(a:au)(E:aB->aK->Prop):Cx:={ X with A:=X.A.mark (some (.ref a)),calm:=false,xe:=E }
theorem Cx.Ok.marked(ok:X.Ok)(a:au)(E:aB->aK->Prop):(X.marked a E).Ok :=
 ⟨ok.mod,ok.kind,ok.glob,ok.blt,ok.above,ok.inj,ok.has,ok.cab,(λz=>nomatch z),ok.frames,ok.stk,ok.yN,ok.bs,ok.wQ,ok.Gu,ok.BZ,ok.sX,ok.zF⟩
theorem Inv.marked(I:Inv X ao aj H s)(a:au)(E:aB->aK->Prop):Inv (X.marked a E) ao aj H s:=⟨I.ok.marked a E,I.os,I.bare,I.base,I.loc,I.cell,I.free,I.qJ,I.pin,I.hok,I.len⟩
theorem Inv.unmarked(ok:X.Ok)(I:Inv (X.marked a E) ao aj H s):Inv X ao aj H s:=⟨ok,I.os,I.bare,I.base,I.loc,I.cell,I.free,I.qJ,I.pin,I.hok,I.len⟩
noncomputable def CG(a C:au)(h:aY):Prop:=∃ o vs,h.get? a=some o/\o.cls=.ref C/\o.data=.fields vs
theorem amn{l:List Env}{h1 h5 B G:aY}(un:Un (frs l) [] H1 H2 h1 h2)(hok:iD P w H2 h2)(fr:∀ b∈frs l,H2 b=none)(ff:h2.FunFrames G l)(cov:∀ b o,h2.get? b=some o->b ∉ frs l->((∃ u,H2 b=some u)\/∃ u,h1.get? b=some u)->B.get? b=some o)(st:B.StaysIn h5)(up:h2.UpToSlots h5):Un (frs l) [] H1 H2 h1 h5/\iD P w H2 h5:=by refine ⟨⟨λb o q n hb hx=>st b o (cov b o (un.keep b o q n hb hx) hb (.inr ⟨o,q⟩)),λb o q n hb hx=>?_,un.free,λb o q hx=>?_,un.dH,un.sS,un.tX⟩,λa o e=>?_⟩;obtain ⟨sl,e⟩:=un.slot b o q n hb hx;obtain ⟨_,o',ho',nf⟩:=ff.mem hb;rw [e] at ho'; cases ho';obtain ⟨sl2,e2⟩:=up b _ e nf;exact ⟨sl2,e2⟩;obtain ⟨o2,e⟩:=un.there b o q hx;by_cases hb:b∈frs l;obtain ⟨_,o',ho',nf⟩:=ff.mem hb;rw [e] at ho'; cases ho';obtain ⟨sl2,e2⟩:=up b _ e nf;exact ⟨_,e2⟩;exact ⟨_,st b _ (cov b _ e hb (.inr ⟨o,q⟩))⟩;have nf:∀{b u},H2 b=some u->b ∉ frs l:=λ{b u} z y=>(by rw [fr b y] at z; cases z);refine (hok a o e).stay (λb u hb q=>?_) (λ_ q=>q) λ_ _ q=>q;rcases hb with hb | hb;subst hb; exact st b u (cov b u q (nf e) (.inl ⟨_,e⟩));exact st b u (cov b u q (nf hb) (.inl ⟨_,hb⟩))
end
noncomputable def JK(e C:au)(h:aY):Prop:=∃ o vs,h.get? e=some o/\o.cls=.ref C/\o.data=.fields vs/\vs[2]?=some .none
noncomputable def sU(e C:au):HO:=.ext (JK e C)
theorem afa{h:aY}(e:JK a C h):gF P w H h a (sU a C):=by refine ⟨e,?_,λh1 h2 p k=>?_⟩;obtain ⟨o,_,e,_⟩:=e; exact ⟨o,e⟩;obtain ⟨o,vs,e,r⟩:=p;exact ⟨o,vs,k o e,r⟩
noncomputable def qj(hv:Option aB)(H:Hp):Prop:=hv=none\/∃ e C,hv=some (.ref e)/\H e=some (sU e C)
variable{hv:Option aB}
theorem qj.same(h:qj hv H)(s:aF H H'):qj hv H':=by rcases h with h | ⟨e,C,h,g⟩;exact .inl h;exact .inr ⟨e,C,h,s _ _ g⟩
theorem qj.ne(h:qj hv H)(n:H b=none):∀ e,hv=some (.ref e)->e≠b:=λe he z=>by
 rcases h with h | ⟨e',C,h,g⟩
 . rw [h] at he; cases he
 . rw [h] at he;cases he;rw [z,n] at g;cases g
theorem Inv.Gy(I:Inv X ao aj H s)(h:qj X.A.handled H):rM X.A s.heap:=by rcases h with h | ⟨e,C,h,g⟩;exact .inl h;obtain ⟨⟨o,vs,a,_,b,c⟩,_⟩:=(show gF X.prog X.w H s.heap e (sU e C) from I.hok e _ g);exact .inr ⟨e,h,o,vs,a,b,c⟩
structure qR(k:Nat)(A:iI):Prop where
 dp:A.depth+3 * k+5<recursionLimit
 un:A.units+16 * k+200<cLine
theorem jD.h{k:Nat}(r:jD k A):qR k A:=⟨r.dp,r.un⟩
variable{j:Nat}
theorem qR.mono{k:Nat}(r:qR k A)(h:j<=k):qR j A:=⟨by have:=r.dp; omega,by have:=r.un; omega⟩
theorem qR.deeper{k:Nat}(r:qR (k+1) A)(env:Env):qR k (A.deeper env) :=
 ⟨by have:=r.dp; show A.depth+1+3 * k+5<_; omega,by have:=r.un; show A.units+3+16 * k+200<_; omega⟩
theorem qR.depth{k:Nat}(r:qR k A):A.depth<recursionLimit:=by have:=r.dp; omega
noncomputable abbrev Cx.rough(X:Cx):Cx:={ X with calm:=false }
structure jT(P:gk)(w:fK)(K:bV)(mg:Str->Option aB)(base:aY)(hv:Option aB)(k:Nat)(f:au)(fd:jU)(ps:List Str)(sp:Sp):Prop where
 len:∀ vs H Q E,sp vs H Q E->vs.length=ps.length
 run:∀(A:iI)(outer:List Env)(s:aK)(H:Hp)(args:Args)(us:List aB)(vs:List V)(Q:VK)(E:XK),A.handled=hv->qR k A->zE P w K mg base A outer s H->Df s fd args (ps.zip us)->cD vs us->qj hv H->sp vs H Q E ->
   jB (aN P w) A (.call (.ref f) args) (CR bB outer P w H s Q E) s
variable{mg:Str->Option aB}{base:aY}{f:au}{fd:jU}{ps:List Str}{sp:Sp}
theorem jT.ok{k:Nat}(F:jT P w K mg base none k f fd ps sp):bf P w K mg base bB k f fd ps sp :=
 ⟨F.len,λA outer s H args us vs Q E hr e0 hb r h=>F.run A outer s H args us vs Q E hr.hd hr.h e0 hb r (.inl rfl) h⟩
theorem jT.mono{k:Nat}(F:jT P w K mg base hv j f fd ps sp)(h:j<=k):
   jT P w K mg base hv k f fd ps sp:=⟨F.len,λA outer s H args us vs Q E hh hr=>F.run A outer s H args us vs Q E hh (hr.mono h)⟩
variable{N:List Str}{qual:Str}{scope:Scope}
theorem afe{CX:wz}{cd:aB}{outer:List Env}{s1:aK}{E:XK}{us:List aB}{vs:List V}(S:cW N ps scope)(e0:zE P w K mg base A outer s H)(hl:vs.length=ps.length)(r:cD vs us)(x:InCallC s s.heap.objs.size (bindL (envOfC qual scope s.heap.objs.size f cd).kindOf (ps.zip us) λ_=>none) (cellsFrom (s.heap.objs.size+1) scope.names []) (bindC (envOfC qual scope s.heap.objs.size f cd).kindOf (ps.zip us) λ_=>none) s1): Inv (rJ CX P w K mg base N qual scope f cd A outer s H E).rough [] (start N vs) H s1:=by have hpl:ps.length<=N.length:=(by have:=jr rA S.pre; rw [gR] at this; omega);obtain ⟨h1,tk,rfl,hk⟩:=x.done;have zj:∀ b:au,b ∉ (rJ CX P w K mg base N qual scope f cd A outer s H E).rough.ex:=λb z=>bO (show b∈([]:List au) from z) (by simp);refine ⟨⟨e0.mod,S.kind,rfl,rfl,bG _,λy z c h1 h2=>?_,λy hy=>?_,λy c _ h=>?_,(λz=>nomatch z),abf e0.frames,.inr ⟨rfl,rfl⟩,λb z=>bO z (zj b),e0.bs,e0.wQ,λb _ _=>zj b,λb z=>bO z (zj b),e0.sX,e0.zF⟩,rfl,e0.bare,Un.kept hk,⟨_,x.toInCall.ns,λi y v h1 h2 h3=>?_⟩,λy c h=>⟨_,x.cell y c h⟩,e0.hok.fresh (bG _),λy c h=>?_,λp hp=>bO (show p∈([]:List (au × Obj)) from hp) (by simp),e0.hok.kept hk,?_⟩;exact V6 x.apart (tM h1) (tM h2);have hy:scope.names.lookup y=some .cell\/scope.names.lookup y=some .free:=hy;rcases hy with hy | hy;exact Jb hy;exact bO rfl (S.abV _ (tM hy));exact sG (x.above y c (tM h));have hi:i<vs.length:=(by unfold start at h2;by_cases hi:i<vs.length;exact hi;rw [HY (by simpa using hi)] at h2;rw [acy] at h2;split at h2 <;> cases h2);have ha:vs[i]?=some v:=(by unfold start at h2;rw [JL (by simpa using hi),bL] at h2;cases e:vs[i]? with| none=>rw [e] at h2; cases h2| some a=>rw [e] at h2; cases h2; rfl);obtain ⟨u,hu,rv⟩:=r.get ha;have hp:ps[i]?=some y:=(by rw [<- S.pre,Nf (by omega)]; exact h1);have wR:ps.Nodup:=(by rw [<- S.pre]; exact S.nd.sublist (Ea _ _));refine ⟨u,rv,?_⟩;rcases S.par y (fG hp) with k | k;exact .inl ⟨k,QG wR hp hu k⟩;obtain ⟨c,e⟩:=Jb (n:=s.heap.objs.size+1) k;refine .inr ⟨.inl k,c,e,?_⟩;have q:=x.cell y c e;rw [Rb wR hp hu (by show scope.names.lookup y≠_; rw [k]; decide)] at q;exact q;exact e0.hok.fresh (sG (x.above y c (tM h)));unfold start;show _=N.length;rw [dZ,aL,Uq];omega
theorem amW{k:Nat}{name:Str}{params:Arguments}{body:List cA}{dV kV doc pm cdv ct oc:aB}{an od:Option au}{osl:Array (Option aB)}(lk:K.lookup f=some ⟨oc,od,.func (uN name qual params body scope dV kV doc pm an cdv ct),osl⟩)(hcd:Ly K cdv qual=true)(S:cW N ps scope)(len:∀ vs H Q E,sp vs H Q E->vs.length=ps.length)(hbody:∀(A:iI)(outer:List Env)(s:aK)(H:Hp)(vs:List V)(Q:VK)(E:XK),A.handled=hv->qR k (A.deeper (envOfC qual scope s.heap.objs.size f cdv))->qj hv H->sp vs H Q E -> ∃ t,qH (rJ bB P w K mg base N qual scope f cdv A outer s H E).rough body t/\t { nx:=λ_ H'=>Q .non H',rt:=Q } (start N vs) H): jT P w K mg base hv (k+1) f (uN name qual params body scope dV kV doc pm an cdv ct) ps sp:=by refine ⟨len,λA outer s H args us vs Q E hh hr e0 hb r hsh hsp=>?_⟩;have hl:=len _ _ _ _ hsp;have KX:K.In s.heap:=e0.mod.kin.keeps λb o e=>(e0.bs b o e).1;have lim:s.heap.NoLimit:=e0.mod.nolimit.keeps λb o e=>(e0.bs b o e).1;have hkind:∀ y∈ps.zip us,scope.names.lookup y.1=some .local\/(scope.names.lookup y.1=some .cell/\((cellsFrom (s.heap.objs.size+1) scope.names []).lookup y.1).isSome=true):=λ⟨n,v⟩ hy=>(by rcases S.par n (K6 hy).1 with q | q;exact .inl q;exact .inr ⟨q,Rz _ _ _ (.inl q)⟩);refine ZQ hr.depth (KX _ _ lk) rfl S.co S.gen rfl (ad6 KX hcd) (hb _ _ _ _ ?_);refine Yz S.kind hkind λenv he s1 x=>?_;subst he;refine ⟨lim.keeps x.toInCall.keep,codeAny_func ?_⟩;obtain ⟨t,ht,hq⟩:=hbody A outer s H vs Q E hh (hr.deeper _) hsh hsp;have I:Inv (rJ bB P w K mg base N qual scope f cdv A outer s H E).rough [] (start N vs) H s1:=afe S e0 hl r x;refine jx (ht [] s1 (start N vs) H _ I hq) (λfl s' hs=>?_) λe s' hs=>hs;have fin:∀{bA:St}{H':Hp}{v:V}{u:aB},Inv (rJ bB P w K mg base N qual scope f cdv A outer s H E).rough [] bA H' s'->cO v u->Q v H'->CE outer P w H s Q u s' := λ{bA H' v u} J rv q=>⟨v,H',J.os,J.bare,J.base,J.hok,rv,q⟩;cases fl with| ret u =>obtain ⟨v,bA,H',J,rv,q⟩:=hs;exact fin J rv q| next =>obtain ⟨bA,H',J,q⟩:=hs;exact fin (v:=V.non) (u:=dM) J rfl q| brk =>obtain ⟨_,_,_,q⟩:=hs;exact ou q| cont =>obtain ⟨_,_,_,q⟩:=hs;exact ou q
theorem pG.okH{st:cA}{k:Nat}(F:pG K x qual st f fd)(S:cW N ps (bw st))(len:∀ vs H Q E,sp vs H Q E->vs.length=ps.length)(hbody:∀(cdv:aB)(A:iI)(outer:List Env)(s:aK)(H:Hp)(vs:List V)(Q:VK)(E:XK),A.handled=hv->qR k (A.deeper (envOfC qual (bw st) s.heap.objs.size f cdv))->qj hv H->sp vs H Q E -> ∃ t,qH (rJ bB P w K mg base N qual (bw st) f cdv A outer s H E).rough.nox (wG st) t/\t { nx:=λ_ H'=>Q .non H',rt:=Q } (start N vs) H):jT P w K mg base hv (k+1) f fd ps sp:=by obtain ⟨oc,od,kV,doc,pm,an,cdv,ct,osl,rfl,lk,hcd⟩:=F.ex;refine amW lk hcd S len λA outer s H vs Q E hh hr hsh hsp=>?_;obtain ⟨t,h,q⟩:=hbody cdv A outer s H vs Q E hh hr hsh hsp;exact ⟨t,h.nox,q⟩
section
variable{X:Cx}{k:Nat}{hv:Option aB}{f:au}{fd:jU}{ps:List Str}{sp:Sp}{kI:List V}{ds:List aB}{x:Str}{p pos:Pos}{e:Expr}{es:List Expr}{t:TA}
noncomputable def aoG(hv:Option aB)(sp:Sp)(kI:List V)(t:TA):TE:=fun aj H Q=>t aj H λvs H1=>qj hv H1/\sp (vs++kI) H1 Q E0
theorem Em(F:jT X.prog X.w X.K X.mg X.base hv k f fd ps sp)(hA:X.A.handled=hv)(hr:qR k X.A)(hg:Gl X x)(hm:X.mg x=some (.ref f))(hk:nu X.K (.ref f)=true)(hb:cj X.K fd ps ds)(hd:cD kI ds)(ha:PA X (e :: es) t)(hdb:(x == ("__debug__" : Str))=false:=by decide)(he:gA (e :: es) X.env=(false,eval e X.env) :: gA es X.env:=by rfl)(hpl:(backTo pos (gA es X.env)).any (·.1)=false:=by rfl):
   PE X (.Call (.Name x p) (e :: es) [] pos) (aoG hv sp kI t):=by
 intro ao s aj H Q I h;refine Jg (Ew I hg hm ?_ hdb);refine XJ (h₀:=X.base) I.ok.mod.kin hk (bH (ha pos ao s aj H _ I h) λus s1 ⟨vs,H1,I1,r,hsh,q⟩=>⟨I1.jM,?_⟩) he hpl;have r2:cD (vs++kI) (us++ds):=r.append hd;have hl:(us++ds).length=ps.length:=by rw [<- r2.length]; exact F.len _ _ _ _ q
 refine GF (wM (F.run X.A X.stack s1 H1 ⟨us,[]⟩ (us++ds) (vs++kI) Q E0 hA hr I1.env0 (hb s1 us I1.jM hl) r2 hsh q) λr s' hq=>?_);cases r with
 | error e=>exact ou hq
 | ok fl =>
   cases fl with
   | ret u=>exact I1.after hq
   | next=>exact ou hq
   | brk=>exact ou hq
   | cont=>exact ou hq
end
structure Jo(P:gk)(w:fK)(K:bV)(hv:Option aB)(tg:Expr)(J:It)(fp:List au)(it:au)(tn:Nat->aY->Prop):Prop where
 mem:it∈fp
 obj:∀ i h,tn i h->∀ b∈fp,∃ o,h.get? b=some o/\∀ v,o.data≠.cell v
 keep:∀ i h h',tn i h->(∀ b∈fp,∀ o,h.get? b=some o->h'.get? b=some o)->tn i h'
 item:∀(X:Cx),X.prog=P->X.w=w->X.K=K->X.A.handled=hv->∀(i:Nat)(ao:List (au × Obj))(s:aK)(aj:St)(H:Hp)(E:aB->aK->Prop),Inv X ao aj H s->(∀ b∈fp,jd X ao H b)->tn i s.heap->J.go i H ->
   aJ (aN P w) X.A (pyNext (.ref it)) (λr s1=>∃ u,r=some u /\
     aJ (aN P w) X.A (letOwnedTupleGo tg (.ref it) u) (λ_ s2=>rz λx H'=>jJ (Inv X ao aj H' s2) (cO x u) (J.sO i H x H') (tn (i+1) s2.heap) (∀ b∈fp,H' b=none)) E s1) E s
 done:∀(X:Cx),X.prog=P->X.w=w->X.K=K->X.A.handled=hv->∀(i:Nat)(ao:List (au × Obj))(s:aK)(aj:St)(H:Hp)(E:aB->aK->Prop),Inv X ao aj H s->(∀ b∈fp,jd X ao H b)->tn i s.heap->J.stop i H ->
   aJ (aN P w) X.A (pyNext (.ref it)) (λr s1=>r=none/\Inv X ao aj H s1) E s
 self:∀(A:iI)(i:Nat)(s:aK)(Q:aB->aK->Prop)(E:aB->aK->Prop),tn i s.heap->Q (.ref it) s->aJ (aN P w) A (pyIter (.ref it)) Q E s
inductive aft(hv:Option aB)(X:Cx)(ao:List (au × Obj))(aj:St)(tg:Expr)(R:It->Hp->Prop)(itv:aB)(s2:aK):Prop|mk (it:au) (fp:List au) (tn:Nat->aY->Prop) (J:It) (H':Hp)(_:itv=.ref it)(_:Inv X ao aj H' s2)(_:Jo X.prog X.w X.K hv tg J fp it tn)(_:tn 0 s2.heap)(_:(∀ b∈fp,jd X ao H' b))(_:R J H')
noncomputable def PIH(hv:Option aB)(X:Cx)(tg iter:Expr)(wi:TI):Prop :=
 ∀(ao:List (au × Obj))(s:aK)(aj:St)(H:Hp)(R:It->Hp->Prop),Inv X ao aj H s->wi aj H R ->
   aJ (aN X.prog X.w) X.A (eval iter X.env) (λv s1=>aJ (aN X.prog X.w) X.A (pyIter v) (aft hv X ao aj tg R) X.xe s1) X.xe s
noncomputable def Gi(hv:Option aB)(J:It):It:=⟨J.go,J.sO,λi H=>J.stop i H/\qj hv H⟩
variable{tg:Expr}
theorem ajO(a it:au):Jo P w K hv tg (Gi hv (wO K a)) [it] it (λi h=>h.IsTupleIter it a i) where
 mem:=by simp
 obj:=λi h st b hb=>by
   have e:b=it:=by simpa using hb
   subst e;obtain ⟨o,e,c,d⟩:=st;exact ⟨o,e,λv z=>by rw [d] at z; cases z⟩
 keep:=λi h h' st k=>st.at λo e=>k it (by simp) o e
 item:=by
   intro X hP hw hK hc i ao s aj H E I hf st hg;subst hP hw hK;obtain ⟨xs,x,hq,hx⟩:=hg;obtain ⟨its,rv,p,hz⟩:=I.tuple hq;obtain ⟨u,hu,ru⟩:=rv.get hx;obtain ⟨f0,f1,f2,f3,f4,f5⟩:=hf it (by simp);refine QJ st (show s.heap.IsTuple a its.toArray from p) (x:=u) (by simpa using hu) λh' st' sb=>?_
   have I1:Inv X ao aj H { s with heap:=h' }:=I.turned (t':=s.toks) (λb o hb e=>(sb.2 b hb).aA e) f0 f1 f3 f4 f5;obtain ⟨o,e,c,d⟩:=id st';exact ⟨u,rfl,Ad (s:={ s with heap:=h' }) e c d (by decide) ⟨x,H,I1,ru,⟨rfl,λys hy=>by rw [I.abU hy hq]; exact hx⟩,st',λb hb=>(hf b hb).1⟩⟩
 done:=by
   intro X hP hw hK hc i ao s aj H E I hf st hg;obtain ⟨hg,hsh⟩:=hg;rw [<- hc] at hsh;subst hP hw hK;obtain ⟨xs,hq,hx⟩:=hg;obtain ⟨its,rv,p,hz⟩:=I.tuple hq;obtain ⟨f0,f1,f2,f3,f4,f5⟩:=hf it (by simp);have hl:=rv.length;exact alr (I.Gy hsh) (hsh.ne f0) st (show s.heap.IsTuple a its.toArray from p) (by simp; omega) λh' eb=>⟨rfl,I.turned (t':=s.toks) (λb o hb e=>eb b o hb e) f0 f1 f3 f4 f5⟩
 self:=λ_ _ _ _ _ st h=>adt st h
theorem ajr(it:au)(x:Str)(t:Tok):Jo P w K hv tg (Gi hv (Its x)) [it] it (λi h=>h.IsStrIter it "str_ascii_iterator" x t i) where
 mem:=by simp
 obj:=λi h st b hb=>by
   have e:b=it:=by simpa using hb
   subst e;obtain ⟨o,e,c,d⟩:=st;exact ⟨o,e,λv z=>by rw [d] at z; cases z⟩
 keep:=λi h h' st k=>let ⟨o,e,r⟩:=st; ⟨o,k it (by simp) o e,r⟩
 item:=by
   intro X hP hw hK hc i ao s aj H E I hf st hg;subst hP hw hK;have hg':i<x.cps.size:=hg;obtain ⟨f0,f1,f2,f3,f4,f5⟩:=hf it (by simp);refine aak st (c:=x.cps[i]) (by simp [hg']) λh' st' sb=>?_
   have I1:Inv X ao aj H { s with heap:=h',toks:=s.toks+1 }:=I.turned (λb o hb e=>(sb.2 b hb).aA e) f0 f1 f3 f4 f5;obtain ⟨o,e,c,d⟩:=id st';exact ⟨_,rfl,Ad (s:={ s with heap:=h',toks:=s.toks+1 }) e c d (by decide) ⟨.str ⟨#[x.cps[i]]⟩,H,I1,⟨_,rfl⟩,⟨rfl,_,by simp [hg'],rfl⟩,st',λb hb=>(hf b hb).1⟩⟩
 done:=by
   intro X hP hw hK hc i ao s aj H E I hf st hg;obtain ⟨hg,hsh⟩:=hg;rw [<- hc] at hsh;subst hP hw hK;have hg':x.cps.size<=i:=hg;obtain ⟨f0,f1,f2,f3,f4,f5⟩:=hf it (by simp);exact anR (I.Gy hsh) (hsh.ne f0) st (by simp [hg']) λh' eb=>⟨rfl,I.turned (t':=s.toks) (λb o hb e=>eb b o hb e) f0 f1 f3 f4 f5⟩
 self:=λ_ _ _ _ _ st h=>YW st h
theorem afz(it:au)(x:Str)(t:Tok):Jo P w K hv tg (Gi hv (Its x)) [it] it (λi h=>h.IsStrIter it "str_iterator" x t i) where
 mem:=by simp
 obj:=λi h st b hb=>by
   have e:b=it:=by simpa using hb
   subst e;obtain ⟨o,e,c,d⟩:=st;exact ⟨o,e,λv z=>by rw [d] at z; cases z⟩
 keep:=λi h h' st k=>let ⟨o,e,r⟩:=st; ⟨o,k it (by simp) o e,r⟩
 item:=by
   intro X hP hw hK hc i ao s aj H E I hf st hg;subst hP hw hK;have hg':i<x.cps.size:=hg;obtain ⟨f0,f1,f2,f3,f4,f5⟩:=hf it (by simp);refine abQ st (c:=x.cps[i]) (by simp [hg']) λh' st' sb=>?_
   have I1:Inv X ao aj H { s with heap:=h',toks:=s.toks+1 }:=I.turned (λb o hb e=>(sb.2 b hb).aA e) f0 f1 f3 f4 f5;obtain ⟨o,e,c,d⟩:=id st';exact ⟨_,rfl,Ad (s:={ s with heap:=h',toks:=s.toks+1 }) e c d (by decide) ⟨.str ⟨#[x.cps[i]]⟩,H,I1,⟨_,rfl⟩,⟨rfl,_,by simp [hg'],rfl⟩,st',λb hb=>(hf b hb).1⟩⟩
 done:=by
   intro X hP hw hK hc i ao s aj H E I hf st hg;obtain ⟨hg,hsh⟩:=hg;rw [<- hc] at hsh;subst hP hw hK;have hg':x.cps.size<=i:=hg;obtain ⟨f0,f1,f2,f3,f4,f5⟩:=hf it (by simp);exact alk (I.Gy hsh) (hsh.ne f0) st (by simp [hg']) λh' eb=>⟨rfl,I.turned (t':=s.toks) (λb o hb e=>eb b o hb e) f0 f1 f3 f4 f5⟩
 self:=λ_ _ _ _ _ st h=>adD st h
noncomputable def alo(hv:Option aB)(K:bV)(tl:TE):TI:=fun aj H R=>tl aj H λx H1=>∃ a,x=.ref a/\(∃ xs,aH K H1 a xs)/\R (Gi hv (wO K a)) H1
noncomputable def ago(hv:Option aB)(tl:TE):TI:=fun aj H R=>tl aj H λx H1=>∃ z,x=.str z/\R (Gi hv (Its z)) H1
variable{l:Expr}{tl:TE}
theorem Wo(hl:PE X l tl):PIH hv X tg l (alo hv X.K tl):=by intro ao s aj H R I h;refine bH (hl ao s aj H _ I h) λv s1 ⟨x,H1,I1,r1,q1⟩=>?_;obtain ⟨a,e,⟨xs,hq⟩,q⟩:=q1;subst e;cases r1;obtain ⟨its,rv,p,hz⟩:=I1.tuple hq;refine Te (show s1.heap.IsTuple a its.toArray from p) ?_;refine ⟨s1.heap.objs.size,[s1.heap.objs.size],_,_,H1,rfl,I1.kept (t':=s1.toks) λb o e=>cR _ e,ajO a _,⟨_,gq _ rfl,rfl,rfl⟩,λb hb=>?_,q⟩;have e:b=s1.heap.objs.size:=(by simpa using hb);subst e;exact I1.ug (bG _) (I1.hok.fresh (bG _))
theorem an2(hl:PE X l tl):PIH hv X tg l (ago hv tl):=by intro ao s aj H R I h;refine bH (hl ao s aj H _ I h) λv s1 ⟨x,H1,I1,r1,q1⟩=>?_;obtain ⟨z,e,q⟩:=q1;subst e;obtain ⟨t,rfl⟩:=r1;have fp:∀ b∈[s1.heap.objs.size],jd X ao H1 b:=λb hb=>(by have e:b=s1.heap.objs.size:=(by simpa using hb);subst e;exact I1.ug (bG _) (I1.hok.fresh (bG _)));cases ha:z.cps.all (·<128);exact adh ha ⟨s1.heap.objs.size,[s1.heap.objs.size],_,_,H1,rfl,I1.kept (t':=s1.toks) λb o e=>cR _ e,afz _ z t,⟨_,gq _ rfl,rfl,rfl⟩,fp,q⟩;exact abZ ha ⟨s1.heap.objs.size,[s1.heap.objs.size],_,_,H1,rfl,I1.kept (t':=s1.toks) λb o e=>cR _ e,ajr _ z t,⟨_,gq _ rfl,rfl,rfl⟩,fp,q⟩
variable{iter elt:Expr}{ifs:List Expr}{bN:Scope}{own cap:List Str}{ix:List Nat}{g:BI->TG}{tt:BI->TT}
theorem amc{fp:List au}{tn:Nat->aY->Prop}{End:Hp->Prop}{W:Nat->Nat->Hp->Prop}{m0:Nat}{s4:aK}(S:oX bN scope X.N own cap ix)(hX:X.env.scope=bN)(I:Inv X ao aj H s)(hf:∀ b∈fp,jd X ao H b)(hc:X.A.handled=hv)(T:Jo X.prog X.w X.K hv tg J fp it tn)(hg:PG (blk X scope (own++cap) (gC X ao s H scope fp)) tg (g (gC X ao s H scope fp)))(ht:oU (blk X scope (own++cap) (gC X ao s H scope fp)) ifs (tt (gC X ao s H scope fp)))(he:PE (blk X scope (own++cap) (gC X ao s H scope fp)) elt (te (gC X ao s H scope fp)))(hW:rW J (g (gC X ao s H scope fp)) (tt (gC X ao s H scope fp)) (qd D (te (gC X ao s H scope fp))) (oJ own ix aj) End W)(I4:Inv (blk X scope (own++cap) (gC X ao s H scope fp)) [] (oJ own ix aj) H s4)(uK:tn 0 s4.heap)(w0:W 0 m0 H): jB (aN X.prog X.w) X.A (.compLoop (.ListComp elt [⟨tg,iter,ifs,0⟩] scope pos) 0 (.ref it) (.ref D) (uU scope (sV X s scope) s.heap.objs.size X.env)) (λr s'=>∃ H' bA,r=.ok .next/\Inv (blk X scope (own++cap) (gC X ao s H scope fp)) [] bA H' s'/\End H') s4:=by have stat:∀{H':Hp}{pl:List (au × Obj)},(∀ b∈fp,H' b=none)->(∀ p∈pl,p.1 ∉ fp)->∀ b∈fp,jd (blk X scope (own++cap) (gC X ao s H scope fp)) [] H' b:=λhn _ b hb=>(by refine ⟨hn b hb,(I4.ok.yN b hb).1,I4.ok.BZ b hb,.inl hb,(I4.ok.yN b hb).2,λp hp=>?_⟩;have hp':p∈X.pn++ao:=(by rcases iC.mp hp with z | z;exact z;exact nomatch z);exact (hf b hb).2.2.2.2.2 p hp');refine Tw rfl (λn s'=>∃ i H',Inv (blk X scope (own++cap) (gC X ao s H scope fp)) [] (oJ own ix aj) H' s'/\tn i s'.heap/\(∀ b∈fp,H' b=none)/\W i n H') ?_ m0 ⟨0,H,I4,uK,λb hb=>(hf b hb).1,w0⟩;rintro n s3 ⟨i,H3,I3,st3,zB,w3⟩;show aJ _ X.A ((compTurn (.ListComp elt [⟨tg,iter,ifs,0⟩] scope pos) 0 (.ref it) (.ref D) (uU scope (sV X s scope) s.heap.objs.size X.env)).onRaise (λx=>do noteFrame x (uU scope (sV X s scope) s.heap.objs.size X.env); theTreesLotGoes x)) _ _ s3;refine Dr ?_;rw [compTurn_list];have st0:=stat (pl:=[]) zB (λ_ z=>nomatch z);rcases hW i n H3 w3 with ⟨stop,qe⟩ | ⟨go,step⟩;refine aG (vo (aG (bH (T.done (blk X scope (own++cap) (gC X ao s H scope fp)) rfl rfl rfl hc i [] s3 _ H3 _ I3 st0 st3 stop) λr s5 ⟨hr,I5⟩=>?_)));subst hr;exact aR ⟨H3,_,rfl,I5,qe⟩;refine aG (vo (aG (bH (T.item (blk X scope (own++cap) (gC X ao s H scope fp)) rfl rfl rfl hc i [] s3 _ H3 _ I3 st0 st3 go) λr s5 ⟨u,hr,h5⟩=>?_)));subst hr;refine aG (bH h5 λ_ s6 ⟨x,H6,I6,r6,y6,vV,fr6⟩=>?_);have I6':=I6.pinned (stat (pl:=[]) fr6 (λ_ z=>nomatch z)) (T.obj _ _ vV);refine aG (jx (hg _ s6 _ H6 x u _ I6' r6 (step x H6 y6)) (λ_ s7 ⟨mq,H7,I7,q7⟩=>?_) λ_ _ f=>f.elim);refine aG (jx (ht _ s7 mq H7 _ I7 q7) (λok s8 ⟨H8,I8,q8⟩=>?_) λ_ _ f=>f.elim);have again:∀{wK:St}{H9:Hp}{s9:aK}{m':Nat},Inv (blk X scope (own++cap) (gC X ao s H scope fp)) ([]++Cd fp s6.heap) wK H9 s9->m'<n->W (i+1) m' H9 -> ∃ m,m<n/\∃ i H',Inv (blk X scope (own++cap) (gC X ao s H scope fp)) [] (oJ own ix aj) H' s9/\tn i s9.heap/\(∀ b∈fp,H' b=none)/\W i m H':=λ{wK H9 s9 m'} I9 hm w9=>(by refine ⟨m',hm,i+1,H9,aar S hX I hf I9.Gk,T.keep _ _ _ vV λb hb o e=>(I9.pin (b,o) (lV _ (lV _ (Bt hb e)))).1,λb hb=>?_,w9⟩;obtain ⟨o,e,d⟩:=T.obj _ _ vV b hb;exact (I9.pin (b,o) (lV _ (lV _ (Bt hb e)))).2.1);cases ok with| false =>obtain ⟨m',hm,w9⟩:=q8;exact aR ⟨rfl,again I8 hm w9⟩| true =>refine aG (aG (jx (he _ s8 mq H8 _ I8 q8) (λy s9 ⟨v,H9,I9,r9,zs,hD,hz,m',hm,w9⟩=>?_) λ_ _ f=>f.elim));refine aG (jx (Ba (X:=blk X scope (own++cap) (gC X ao s H scope fp)) _ s9 mq H9 (.ref D) [v] (.ref D) [y] (λ_ H'=>∃ m',m'<n/\W (i+1) m' H') I9 rfl (.cons r9 .nil) ⟨D,zs,v,rfl,rfl,hD,hz,m',hm,w9⟩) (λ_ zQ ⟨_,tQ,I10,_,m'',hm',w10⟩=>?_) λ_ _ f=>f.elim);exact aR (aR ⟨rfl,again I10 hm' w10⟩)
variable{wi:TI}
theorem afN{Q:VK}{use:Option (aB->Sem Unit)}{Q':aB->aK->Prop}(hc:X.A.handled=hv)(hX:X.env.scope=bN)(S:oX bN scope X.N own cap ix)(hi:PIH hv X tg iter wi)(hg:∀ b,PG (blk X scope (own++cap) b) tg (g b))(ht:∀ b,oU (blk X scope (own++cap) b) ifs (tt b))(he:∀ b,PE (blk X scope (own++cap) b) elt (te b))(hs:∀ x,qz iter X.env x=pure x)(I:Inv X ao aj H s)(h:J4 own ix wi g tt te aj H Q)(out:∀(D C:au)(H':Hp)(s':aK),Q (.ref D) H'->(∃ m,s'.heap.Ns C m)->jd X ao H' C->(∀ h',vH C s'.heap h'->Inv X ao aj H' { s' with heap:=h' }) -> compPost (aN X.prog X.w) X.A X.xe use Q' (.ref D) C (.ok .next) s'): aJ (aN X.prog X.w) X.A (comprehension (.ListComp elt [⟨tg,iter,ifs,0⟩] scope pos) scope X.env (firstIterPos [⟨tg,iter,ifs,0⟩] pos) (newList []) false (eval iter X.env) use) Q' X.xe s:=by have hclos:=VH (scope:=scope) (env:=X.env) λy hy hk=>(by have hf:=S.free y hy hk;rw [<- hX] at hf;exact I.ok.has y.1 hf);refine Qh (use:=use) rfl hs hclos S.kind (λy hy hk=>by rw [S.nm y hy,hk]) (bH (hi ao s aj H _ I h) λv s1 h1=>bH h1 λitv s2 h2=>?_);obtain ⟨it,fp,tn,J,H2,e,I2,T,st2,f2,hR⟩:=h2;subst e;refine oK ?_;obtain ⟨W,⟨m0,w0⟩,hW⟩:=hR s2.heap.objs.size I2.fresh;have I3:Inv X ao aj (upd H2 s2.heap.objs.size (.lst [])) { s2 with heap:=s2.heap.push { cls:=.type "list",data:=.seq ([]:List aB).toArray } }:=I2.Og (t':=s2.toks) (its:=[]) .nil (dR _);have vp:∀ b∈fp,b<s2.heap.objs.size:=λb hb=>let ⟨_,e,_⟩:=T.obj _ _ st2 b hb; bQ e;have f3:∀ b∈fp,jd X ao (upd H2 s2.heap.objs.size (.lst [])) b:=λb hb=>⟨by rw [aW (fB (vp b hb))]; exact (f2 b hb).1,(f2 b hb).2⟩;have st3:tn 0 (s2.heap.push { cls:=.type "list",data:=.seq ([]:List aB).toArray }):=T.keep _ _ _ st2 λb hb o e=>cR _ e;generalize hs3:({ s2 with heap:=s2.heap.push { cls:=.type "list",data:=.seq ([]:List aB).toArray } }:aK)=s3 at I3;have Ai:tn 0 s3.heap:=(by rw [<- hs3]; exact st3);have ob3:∀ b∈fp,∃ o,s3.heap.get? b=some o:=λb hb=>let ⟨o,e,_⟩:=T.obj _ _ Ai b hb; ⟨o,e⟩;have I4:=W8 S hX I3 f3 ob3;have uK:tn 0 (yH s3 scope):=T.keep _ _ _ Ai λb _ o e=>Pr s3 scope b o e;refine Uh ?_;have loop:=amc (iter:=iter) (pos:=pos) S hX I3 f3 hc T (hg _) (ht _) (he _) (hW _) I4 uK w0;have fin:jB (aN X.prog X.w) X.A (.compLoop (.ListComp elt [⟨tg,iter,ifs,0⟩] scope pos) 0 (.ref it) (.ref s2.heap.objs.size) (uU scope (sV X s3 scope) s3.heap.objs.size X.env)) (compPost (aN X.prog X.w) X.A X.xe use Q' (.ref s2.heap.objs.size) s3.heap.objs.size) { s3 with heap:=yH s3 scope }:=wM loop λr s' ⟨H',bA,hr,J',q⟩=>(by subst hr;exact out _ _ H' s' q (let ⟨m,hn,_⟩:=J'.loc; ⟨m,hn⟩) (I3.ug (bG _) J'.free) λh' hh=>X8 I3 f3 J' hh);exact abg fin (T.self _ 0 _ _ _ uK fin)
theorem Mg(hc:X.A.handled=hv)(hX:X.env.scope=bN)(S:oX bN scope X.N own cap ix)(hi:PIH hv X tg iter wi)(hg:∀ b,PG (blk X scope (own++cap) b) tg (g b))(ht:∀ b,oU (blk X scope (own++cap) b) ifs (tt b))(he:∀ b,PE (blk X scope (own++cap) b) elt (te b))(hs:∀ x,qz iter X.env x=pure x:=by intro _; rfl):
   PE X (.ListComp elt [⟨tg,iter,ifs,0⟩] scope pos) (J4 own ix wi g tt te):=by
 intro ao s aj H Q I h;rw [Qv];refine afN (use:=none) hc hX S hi hg ht he hs I h λD C H' s' q hn _ hI=>?_
 obtain ⟨m,hn⟩:=hn;exact ⟨m,hn,λh' hh=>⟨.ref D,H',hI h' hh,rfl,q⟩⟩
end L2
namespace PySem
noncomputable def kJ(bs:List Bool)(i:Nat):Int:=if (bs[i]?).getD false=true then 1 else 0
theorem adS(bs:List Bool)(i:Nat):0<=kJ bs i/\kJ bs i<=1:=by unfold kJ; split <;> omega
theorem ab8(bs:List Bool):∀ n,0<=preSum (kJ bs) n/\preSum (kJ bs) n<=n
 | 0=>⟨Vl _,Vl _⟩
 | n+1=>by have a:=ab8 bs n;have b:=adS bs n;show 0<=preSum (kJ bs) n+kJ bs n/\preSum (kJ bs) n+kJ bs n<=((n+1:Nat):Int);omega
variable{A:iI}{E:aB->aK->Prop}{s:aK}
theorem abH{bM:Type}{M:Dj}{c:Bool}{x y:Sem bM}{Q:bM->aK->Prop}(hc:c=true)(h:aJ M A x Q E s):aJ M A (if c=true then x else y) Q E s:=by rw [bI hc]; exact h
variable{prog:gk}{w:fK}
theorem akn{R:xQ->aK->Prop}{I:au}{fp wr:List au}{n:Nat}{P:Nat->aB->Prop}{St:Nat->aY->Prop}(W:Walks prog w A.in1 I fp wr n P St)(bs:List Bool)(hb:∀ i v,P i v->v=.bool ((bs[i]?).getD false))(few:n<=1000)(S:au)(nS:S ∉ fp): ∀(k i:Nat)(s:aK)(tA:Tok)(c:Nat),n-i=k->i<=n->St i s.heap->s.heap.get? S=some { cls:=.type "list",dict:=none,data:=.seq #[.int (preSum (kJ bs) i) tA] c,slots:=#[] } -> (∀ h' tk t',(∀ b o,b ∉ wr->b≠S->s.heap.get? b=some o->h'.get? b=some o)->R (.ok (.ret (.int (preSum (kJ bs) n) t'))) { s with heap:=h',toks:=tk }) -> jB (aN prog w) A (.builtin "sum.loop" ⟨[.ref I,.ref S,rawInt 0,rawInt 0],[]⟩) R s:=by have nw:S ∉ wr:=λz=>nS (W.sub _ z);intro k;induction k with| zero =>intro i s tA c ek li st hS hR;obtain rfl:i=n:=(by omega);refine wW F.entry_sum_loop ?_;rw [zy Ow _];show aJ _ A.in1 (seqItems? (.ref S) >>= _) _ _ s;refine aG (Bm hS rfl ?_);show aJ _ A.in1 (tryCatch (pyNext (.ref I)) _ >>= _) _ _ s;exact aG (Qq (W.done s _ _ st λh' tk q=>aR (hR h' tk tA λb o nb _ e=>q b o nb e)))| succ k ih =>intro i s tA c ek li st hS hR;have lt:i<n:=(by omega);refine wW F.entry_sum_loop ?_;rw [zy Ow _];show aJ _ A.in1 (seqItems? (.ref S) >>= _) _ _ s;refine aG (Bm hS rfl ?_);show aJ _ A.in1 (tryCatch (pyNext (.ref I)) _ >>= _) _ _ s;refine aG (Qq (W.item i s _ _ lt st λv h' tk hP st' q=>?_));obtain rfl:=hb i v hP;have hS':=q S _ nw hS;have a:=ab8 bs i;have b:=adS bs i;have step:∀ m:Int,kJ bs i=m->0<=m->m<=1->aJ (aN prog w) A.in1 (mkInt (preSum (kJ bs) i+m) >>= λr=>(do updateSeq S λ_=>#[r]; again (.builtin "sum.loop" ⟨[.ref I,.ref S,rawInt 0,rawInt 0],[]⟩))) (λfin s'=>match fin with | .done f=>R (.ok f) s' | .again c'=>c'.quiet=true/\jB (aN prog w) A c' R s') (λe s'=>R (.error e) s') { s with heap:=h',toks:=tk }:=λm em _ _=>(by subst em;refine aG (wpAny_mkInt ?_);refine aG (Iw hS' rfl (aR ⟨Aq Ow _,ih (i+1) _ tk _ (by omega) lt (W.frame _ _ _ st' λb hb o e=>?_) (xY _ hS' rfl) λh2 tk2 t2 q2=>?_⟩));exact (qQ _ _ λz:S=b=>nS (by rw [z]; exact hb)).aA e;exact hR h2 tk2 t2 λb o nb nb2 e=>q2 b o nb nb2 ((qQ _ _ (bW nb2)).aA (q b o nb e)));have fits:∀ m:Int,0<=m->m<=1->((decide (-(2 ^ 63)<=m) && decide (m<2 ^ 63)) && (decide (-(2 ^ 63)<=preSum (kJ bs) i+m) && decide (preSum (kJ bs) i+m<2 ^ 63)))=true:=λm _ _=>(by simp only [pF,decide_eq_true_eq];omega);cases hz:(bs[i]?).getD false with| true =>have em:kJ bs i=1:=(by unfold kJ; rw [hz]; rfl);show aJ _ A.in1 (if (_:Bool)=true then (mkInt (preSum (kJ bs) i+1) >>= _) else _) _ _ _;exact abH (fits 1 (by decide) (by decide)) (step 1 em (by decide) (by decide))| false =>have em:kJ bs i=0:=(by unfold kJ; rw [hz]; rfl);show aJ _ A.in1 (if (_:Bool)=true then (mkInt (preSum (kJ bs) i+0) >>= _) else _) _ _ _;exact abH (fits 0 (by decide) (by decide)) (step 0 em (by decide) (by decide))
theorem aiW{x:aB}{Q:aB->aK->Prop}(h:aJ (aN prog w) A.in1 (pyIter x) (λit s2=>∃ I fp wr n P St bs,it=.ref I/\Walks prog w A.in1 I fp wr n P St/\St 0 s2.heap/\(∀ b∈fp,b<s2.heap.objs.size)/\(∀ i v,P i v->v=.bool ((bs[i]?).getD false))/\n<=1000 /\ ∀ h' tk t',(∀ b o,b ∉ wr->s2.heap.get? b=some o->h'.get? b=some o)->Q (.int (preSum (kJ bs) n) t') { s2 with heap:=h',toks:=tk }) E s):aJ (aN prog w) A (call (.builtin "sum") [x]) Q E s:=by refine call_function_tree F.kind_sum F.plain_sum F.entry_sum (F.args_sum1 _) ?_;unfold lD.«sum»;simp only [iz,rR];rw [aZ (by decide)];refine aG (KN (show Builtin.Builtins.bindParams "sum" ["start"] 0 { }=pure [none] from rfl) (aG (jx h (λit s2 h2=>?_) λ_ _ e=>e)));obtain ⟨I,fp,wr,n,P,St,bs,rfl,W,st,hfp,hb,few,hQ⟩:=h2;refine aG (wpAny_mkInt (aG (aR ?_)));simp only [Kr,JV];refine aG (aG (aG (Es (T:="int") (b:=false) (MN _ _ _) sub_int_str ?_)));simp only [uH,if_false];refine aR (aG (aG (Es (T:="int") (b:=false) (MN _ _ _) sub_int_bytes ?_)));simp only [uH,if_false];refine aR (aG (aG (Es (T:="int") (b:=false) (MN _ _ _) sub_int_bytearray ?_)));simp only [uH,if_false];refine aR (aR (aG (oK ?_)));have nS:s2.heap.objs.size ∉ fp:=λz=>qF _ (hfp _ z);refine aR ⟨Aq Ow _,akn W bs hb few s2.heap.objs.size nS n 0 _ s2.toks 0 rfl (dR _) (W.frame 0 _ _ st λb _ o e=>cR _ e) (gq _ rfl) λh' tk t' q=>?_⟩;exact hQ h' tk t' λb o nb e=>q b o nb (fB (bQ e)) (cR _ e)
end PySem
namespace L2
open PySem PySem.Spec PyProof.Rows
variable{hv:Option aB}
theorem KJ{J:It}{g:BI->TG}{tt:BI->TT}{act:BI->St->Hp->(Hp->Prop)->Prop}{jZ:St}{End:Hp->Prop}{H0:Hp}(h:∃ W:Nat->Nat->Hp->Prop,(∃ m,W 0 m H0)/\∀ b,rW J (g b) (tt b) (act b) jZ (λH=>qj hv H/\End H) W): ∃ W:Nat->Nat->Hp->Prop,(∃ m,W 0 m H0)/\∀ b,rW (Gi hv J) (g b) (tt b) (act b) jZ End W:=by obtain ⟨W,w0,hW⟩:=h;refine ⟨W,w0,λb i m H w=>?_⟩;rcases hW b i m H w with ⟨s,q,e⟩ | z;exact .inl ⟨⟨s,q⟩,e⟩;exact .inr z
noncomputable def zH(A:iI):List au:=match A.handled with | some (.ref e)=>[e] | _=>[]
variable{A:iI}
theorem aaM{h:aY}(q:rM A h):∀ b∈zH A,b<h.objs.size:=λb hb=>by
 rcases q with q | ⟨e,q,o,_,g,_⟩
 . unfold zH at hb; rw [q] at hb; cases hb
 . unfold zH at hb;rw [q] at hb;rw [lg.mp hb];exact bQ g
variable{prog:gk}{w:fK}
theorem RZ(I ax:au)(ne:ax≠I)(nh:∀ e,A.handled=some (.ref e)->e≠I)(items:Array aB):
   Walks prog w A I (I :: ax :: zH A) [I] items.size (λi v=>items[i]?=some v) (λi h=>h.IsListIter I ax i/\h.IsList ax items/\rM A h) where
 sub:=λb hb=>by rw [lg.mp hb]; exact gU
 frame:=λi h h' st k=>by
   obtain ⟨⟨o,e,r⟩,⟨o2,e2,r2⟩,q⟩:=st;refine ⟨⟨o,k I gU o e,r⟩,⟨o2,k ax (iM _ gU) o2 e2,r2⟩,?_⟩;rcases q with q | ⟨z,q,n⟩
   . exact .inl q
   . exact .inr ⟨z,q,n.at' λo e=>k z (by unfold zH; rw [q]; simp) o e⟩
 item:=λi s Q E hi st q=>by
   obtain ⟨s1,s2,qh⟩:=st;refine Z8 s1 s2 (x:=items[i]) (by simp [hi]) λh' st' sb=>?_
   refine q items[i] h' s.toks (by simp [hi]) ⟨st',let ⟨o,e,r⟩:=s2; ⟨o,(sb.2 ax ne).aA e,r⟩,?_⟩ λb o hb e=>(sb.2 b (λz=>hb (by simp [z]))).aA e
   rcases qh with qh | ⟨z,qh,n⟩
   . exact .inl qh
   . exact .inr ⟨z,qh,n.at' λo e=>(sb.2 z (nh z qh)).aA e⟩
 done:=λs Q E st q=>by
   obtain ⟨s1,s2,qh⟩:=st;exact ajz qh nh s1 s2 (by simp) λh' eb=>q h' s.toks λb o hb e=>eb b o (λz=>hb (by simp [z])) e
 self:=λi s Q E st h=>acN st.1 h
variable{X:Cx}
theorem X5(hc:X.A.handled=hv):jH X (.builtin "all") (λxs H Q=>∃(p:au)(bs:List Bool),xs=[.ref p]/\aV X.K H p (bs.map V.bl)/\qj hv H/\Q (.bl (bs.all id)) H):=by intro ao s aj H xs us Q I r h;obtain ⟨p,bs,rfl,hq,hsh,q⟩:=h;obtain ⟨u,rfl,ru⟩:=lZ r;cases ru;obtain ⟨its,rv,pl,_⟩:=I.list hq;have hb:=Iv rv;have hl:=pl.isList;have hlt:p<s.heap.objs.size:=(by obtain ⟨_,e,_⟩:=hl; exact bQ e);rw [<- hc] at hsh;have qh:=I.Gy hsh;have nh:=hsh.ne (I.hok.fresh (bG s.heap.objs.size));refine call_all_walk (Av hl ?_);refine ⟨s.heap.objs.size,s.heap.objs.size :: p :: zH X.A,[s.heap.objs.size],its.toArray.size,_,_,λi=>(bs[i]?).getD true,rfl,RZ (A:=X.A.in1) _ p (fB hlt) nh its.toArray,⟨⟨_,gq _ rfl,rfl,rfl⟩,hl.push _,qh.at' λb o e=>cR _ e⟩,λi v s' Q' E' hP hQ=>?_,λh' tk hk=>?_⟩;obtain ⟨b,e,rfl⟩:=hb.get i v (by simpa using hP);simp only [e,zf] at hQ;exact qT hQ;have e:((iQ its.toArray.size).all λi=>(bs[i]?).getD true)=bs.all id:=(by rw [fV,hb.length]; exact LSm.range_all bs);rw [e];exact ⟨.bl _,H,I.kept (Gn hk),rfl,q⟩
theorem aoV(hc:X.A.handled=hv):jH X (.builtin "sum") (λxs H Q=>∃(p:au)(bs:List Bool),xs=[.ref p]/\aV X.K H p (bs.map V.bl)/\bs.length<=1000/\qj hv H/\Q (.int (preSum (kJ bs) bs.length)) H):=by intro ao s aj H xs us Q I r h;obtain ⟨p,bs,rfl,hq,few,hsh,q⟩:=h;obtain ⟨u,rfl,ru⟩:=lZ r;cases ru;obtain ⟨its,rv,pl,_⟩:=I.list hq;have hb:=Iv rv;have hl:=pl.isList;have hlt:p<s.heap.objs.size:=(by obtain ⟨_,e,_⟩:=hl; exact bQ e);rw [<- hc] at hsh;have qh:=I.Gy hsh;have nh:=hsh.ne (I.hok.fresh (bG s.heap.objs.size));refine aiW (Av hl ?_);refine ⟨s.heap.objs.size,s.heap.objs.size :: p :: zH X.A,[s.heap.objs.size],its.toArray.size,_,_,bs,rfl,RZ (A:=X.A.in1) _ p (fB hlt) nh its.toArray,⟨⟨_,gq _ rfl,rfl,rfl⟩,hl.push _,qh.at' λb o e=>cR _ e⟩,λb hb=>?_,λi v hP=>?_,by rw [fV,hb.length]; exact few,λh' tk t' hk=>?_⟩;rw [qY];simp only [dU] at hb;rcases hb with rfl | rfl | hb;exact Dk _;exact yL hlt;exact yL (aaM qh b hb);obtain ⟨b,e,rfl⟩:=hb.get i v (by simpa using hP);rw [e]; rfl;have e:its.toArray.size=bs.length:=(by rw [fV,hb.length]);rw [e];exact ⟨.int _,H,I.kept (Gn hk),⟨_,rfl⟩,q⟩
theorem ajq{E:aB->aK->Prop}{s:aK}{l:au}{items:Array aB}{ks:List Key}{Q:aB->aK->Prop}(hh:rM A s.heap)(hl:s.heap.IsList l items)(hz:items.size=ks.length)(isK:∀(i:Nat)(v:aB),items[i]?=some v->∃ k,ks[i]?=some k/\(gZ prog w).is k v=true/\v.scannable=true)(few:ks.length+1<scanBound)(h:∀(h':aY)(tk:Nat),h'.SetOf (gZ prog w) s.heap.objs.size (lK (eZ ks ks.length)) (eZ ks ks.length).length->(∀ b o,s.heap.get? b=some o->h'.get? b=some o)->Q (.ref s.heap.objs.size) { s with heap:=h',toks:=tk }): aJ (aN prog w) A (call (.type "set") [.ref l]) Q E s:=by obtain ⟨cm,tm,hmro⟩:=PySem.F.called_set.mro;have made:=PySem.F.called_set.made;have apZ:=PySem.F.called_set.sub;refine GF (Vu ?_);show aJ _ _ (callAny (.type "set") _) _ _ _;refine aR ⟨adi _ (by decide +kernel),wW PySem.F.entry_type_call ?_⟩;rw [Around.under_plain (weight_type_call_type "set" [.ref l] []) rfl];have c1:=PySem.F.called_set.notType;have c2:=PySem.F.called_set.canCreate;have c3:=PySem.F.typeCall_set_1 (.ref l);(repeat (any_goals (first | assumption | wp_step)));generalize hN:s.heap.objs.size=N at h;refine wM (code_set_new_1 (.ref l) (E:=E) (Q₁:=λob s1=>∃ led:Bool,ob=.ref s.heap.objs.size/\s1={ s with heap:=s.heap.push (uq led) }) λled=>⟨led,rfl,rfl⟩) λr s1 hr=>?_;cases r with| error e=>exact hr| ok fl =>cases fl with| ret ob =>obtain ⟨led,rfl,rfl⟩:=hr;have gS:(s.heap.push (uq led)).get? s.heap.objs.size=some (uq led):=gq _ rfl;have hT:Shared.TypeIs { s with heap:=s.heap.push (uq led) } (.ref s.heap.objs.size) "set":=⟨_,gS,rfl⟩;have li:=PySem.F.called_set.init.lookup;have bi:=PySem.F.called_set.init.bind (.ref s.heap.objs.size);(repeat (any_goals (first | assumption | wp_step)));refine wM (Xi (R:=wants (λr s2=>r=.none/\∃ h' tk,s2={ s with heap:=h',toks:=tk }/\h'.SetOf (gZ prog w) s.heap.objs.size (lK (eZ ks ks.length)) (eZ ks ks.length).length/\(∀ b o,s.heap.get? b=some o->h'.get? b=some o)) E) PySem.F.called_set.init.plain PySem.F.entry_set_init (check_set_init_1 hT ?_)) λr2 s2 hr2=>?_;obtain ⟨ol,gl,cl,nl,dl⟩:=hl;obtain ⟨oc,od,oa,os⟩:=ol;simp only at cl dl;subst cl dl;have gl':(s.heap.push (uq led)).get? l=some { cls:=.type "list",dict:=od,data:=.seq items nl,slots:=os }:=cR _ gl;have t1:=PySem.F.sub_list_set;have t2:=PySem.F.sub_list_frozenset;have t3:(vN "list" == vN "dict")=false:=(by decide);have lst:(s.heap.push (uq led)).IsList l items:=⟨_,gl',rfl,nl,rfl⟩;unfold lD.«set.__init__» noKeywords Builtin.Frozenset.updateFrom;generalize hPI:pyIter=PI;wp_walk;subst hPI;refine Av lst ?_;refine (aG (wpAny_runValue ?_));have lS:l<s.heap.objs.size:=bQ gl;have qh:rM A.in1.in1.in1 (s.heap.push (uq led)):=hh.at' λb o e=>cR _ e;have nh:∀ e,A.in1.in1.in1.handled=some (.ref e)->e≠(s.heap.push (uq led)).objs.size:=λe he=>(by rcases qh with q | ⟨e',q,o,_,g,_⟩;rw [q] at he; cases he;rw [q] at he;cases he;exact fB (bQ g));have nz:s.heap.objs.size ∉ zH A.in1.in1.in1:=λz=>qF _ (aaM (A:=A.in1.in1.in1) (h:=s.heap) hh _ z);have sz:(s.heap.push (uq led)).objs.size=s.heap.objs.size+1:=qY ..;have n1:l≠(s.heap.push (uq led)).objs.size:=(by rw [sz]; exact fB (yL lS));have n2:s.heap.objs.size ∉ (s.heap.push (uq led)).objs.size :: l :: zH A.in1.in1.in1:=(by rw [sz];intro z;rcases dU.mp z with z | z;exact bO z (fB (Dk _));rcases dU.mp z with z | z;exact bO z (qp lS);exact nz z);have W:=(RZ (prog:=prog) (w:=w) (A:=A.in1.in1.in1) _ l n1 nh items).toS;rw [hz] at W;refine setLoop W s.heap.objs.size n2 isK few (ks.length-0) 0 _ rfl (dR _) ⟨⟨_,gq _ rfl,rfl,rfl⟩,lst.push _,qh.at' λb o e=>cR _ e⟩ ?_ λs' mv z=>?_;have g2:((s.heap.push (uq led)).push { cls:=.type "list_iterator",data:=.fields #[.ref l,.int 0 0] }).get? s.heap.objs.size=some (uq led):=cR _ gS;exact ⟨_,#[],0,_,g2,⟨rfl,rfl,rfl⟩,rfl,λe he=>by simp at he,λk=>by simp [eZ,lK],by decide,rfl,rfl⟩;obtain ⟨h',g',d',tk',os'⟩:=s';obtain rfl:g'=s.gens:=mv.gens;obtain rfl:d'=s.drawn:=mv.drawn;obtain rfl:os'=s.os:=mv.os;show aJ _ _ _ _ _ _;refine aR ?_;show aJ _ _ (ret dM) _ _ _;refine aR ⟨rfl,h',tk',rfl,z,λb o e=>?_⟩;have lb:b<s.heap.objs.size:=bQ e;refine mv.heap b o (λz=>?_) (cR _ (cR _ e));rcases dU.mp z with z | z;exact bO z (fB lb);exact bO (lg.mp z) (by rw [sz]; exact fB (yL lb));(cases r2 with| error e=>exact hr2| ok fl2 =>cases fl2 with| ret r =>obtain ⟨rfl,h',tk,rfl,zS,kk⟩:=hr2;(repeat (any_goals (first | assumption | wp_step)));subst hN;exact h _ _ zS kk| _=>exact hr2.elim)| _=>exact hr.elim
theorem aeO(hc:X.A.handled=hv):jH X (.type "set") (λxs H Q=>∃ p ks,xs=[.ref p]/\aV X.K H p (ks.map kV)/\ks.length<4000/\qj hv H/\∀ l,H l=none->Q (.ref l) (upd H l (.ext (FJ X.prog X.w l ks)))):=by intro ao s aj H xs us Q I r h;obtain ⟨p,ks,rfl,hq,h40,hsh,q⟩:=h;obtain ⟨u,rfl,ru⟩:=lZ r;cases ru;obtain ⟨its,rv,pl,_⟩:=I.list hq;have hlen:its.length=ks.length:=(by rw [<- rv.length,aL]);rw [<- hc] at hsh;refine ajq (I.Gy hsh) pl.isList (by rw [fV]; exact hlen) (λi v e=>akp (X:=X) rv i v (by simpa using e)) (by unfold scanBound; omega) λh' tk zS kk=>?_;refine ⟨.ref s.heap.objs.size,_,I.laid (t':=tk) (o:=.ext (FJ X.prog X.w s.heap.objs.size ks)) kk (bG _) ⟨zS,?_,?_⟩,rfl,q _ (I.hok.fresh (bG _))⟩;obtain ⟨o,_,_,_,e,_⟩:=zS;exact ⟨o,e⟩;intro h1 h2 z k;obtain ⟨o,es,ep,t,e,rest⟩:=z;exact ⟨o,es,ep,t,k o e,rest⟩
theorem Wg(hc:X.calm=true):jH X (.type "set") (λxs H Q=>∃ p ks,xs=[.ref p]/\aV X.K H p (ks.map kV)/\ks.length<4000/\∀ l,H l=none->Q (.ref l) (upd H l (.ext (FJ X.prog X.w l ks)))):=λao s aj H xs us Q I r h =>
 let ⟨p,ks,e,q1,q2,q⟩:=h
 aeO (I.ok.hd hc) ao s aj H xs us Q I r ⟨p,ks,e,q1,q2,.inl rfl,q⟩
end L2
namespace L2
open PySem PySem.Spec PySem.W PyProof.Rows PySem.Builtin PySem.Builtin.ObjectAttr PySem.Builtin.Getset_descriptor
section
variable{prog:gk}{w:fK}{A:iI}{E:aB->aK->Prop}{K:bV}{h:aY}{g:Array Nv}{d:Drawn}{t:Nat}{os:OsState}{a C:au}
noncomputable def wI(K:bV)(C:au):Bool:=findIn K (.ref C) "__getattribute__" == some (some (.builtin "BaseException.__getattribute__")) && findIn K (.ref C) "__getattr__" == some none && findIn K (.ref C) "__class__" == some (some (.builtin "object.__class__")) &&
 mroIn K C (.type "object") == some true && subIn K (.ref C) (.type "BaseException") == some true && (clsIn K C).isSome
theorem Ce(e:wI K C=true):findIn K (.ref C) "__getattribute__" = some (some (.builtin "BaseException.__getattribute__"))/\findIn K (.ref C) "__getattr__" = some none/\findIn K (.ref C) "__class__" = some (some (.builtin "object.__class__")) /\ mroIn K C (.type "object")=some true/\subIn K (.ref C) (.type "BaseException")=some true/\(clsIn K C).isSome=true:=by unfold wI at e;simp only [pF,beq_iff_eq] at e;obtain ⟨⟨⟨⟨⟨e1,e2⟩,e3⟩,e4⟩,e5⟩,e6⟩:=e;exact ⟨e1,e2,e3,e4,e5,e6⟩
theorem J2{M:Dj}(p:CG a C h):Cz M h (typeOf (.ref a)) (.ref C):=by obtain ⟨o,_,e1,e2,_⟩:=p;exact e2 ▸ (Looks.ld e1).andThen .now
variable{R:xQ->aK->Prop}
theorem af3{tp:aB}(X:K.In h)(p:CG a C h)(e:wI K C=true)(hq:R (.ok (.ret (.ref C))) ⟨h,g,d,t,os⟩): jB (aN prog w) A (.call (.builtin "getset_descriptor.__get__") ⟨[.builtin "object.__class__",.ref a,tp],[]⟩) R ⟨h,g,d,t,os⟩:=by have L0:Cz (aN prog w) h (typeOf (.ref a)) (.ref C):=J2 p;have L1:=looks_mroIn (M:=aN prog w) X (Ce e).2.2.2.1;refine Xi (PySem.W.KF.slot_gs.plain) (PySem.W.KF.entry_gs) (PySem.W.KF.slot_gs.check _ _ _ _ _ _ _ _ PySem.W.KF.type_class (PySem.W.KF.args_gs _ _ _) ?_);unfold lD.«getset_descriptor.__get__»; unfold descrGet;rw [dga_obj]; refine aG (aR ?_);unfold descrGetter; unfold descrCheckInstance descrNameAndClass; unfold isInstance;simp only [PySem.W.KF.owner_class];(repeat lk);refine ⟨adi _ (by decide +kernel),wW (PySem.W.KF.entry_class) ?_⟩;unfold lD.«object.__class__»; unfold shownTypeOf;(repeat lk);exact hq
variable{tk:Tok}
theorem agV{Q:Fin->aK->Prop}(X:K.In h)(p:CG a C h)(e:wI K C=true)(hq:Q (.done (.ret (.ref C))) ⟨h,g,d,t,os⟩): aJ (aN prog w) A (lD.«object.__getattribute__» ⟨[.ref a,.str "__class__" tk],[]⟩) Q E ⟨h,g,d,t,os⟩:=by have L0:Cz (aN prog w) h (typeOf (.ref a)) (.ref C):=J2 p;have L1:=Q0 (M:=aN prog w) X (Ce e).2.2.1;have L5:Cz (aN prog w) h (typeOf (.builtin "object.__class__")) (.type "getset_descriptor"):=Xn F.typeOf_object_class;have L6:Cz (aN prog w) h (typeLookup (.type "getset_descriptor") "__get__") (some (.builtin "getset_descriptor.__get__")):=Xn F.slot_gs_get.lookup;have L7:=Xn (M:=aN prog w) (h:=h) F.slot_gs_set.lookup;unfold lD.«object.__getattribute__»;(repeat ((fail_if_success (with_reducible show aJ _ _ (call _ _) _ _ _)); (first | lk | wp_step)));refine GF (af3 X p e ?_);repeat (any_goals (first | assumption | wp_step))
theorem ak9(X:K.In h)(p:CG a C h)(e:wI K C=true)(hq:R (.ok (.ret (.ref C))) ⟨h,g,d,t,os⟩): jB (aN prog w) A (.call (.builtin "BaseException.__getattribute__") ⟨[.ref a,.str "__class__" tk],[]⟩) R ⟨h,g,d,t,os⟩:=by refine Xi PySem.F.excAttr_ValueError.ga.plain F.entry_bexc_ga ?_;have hk:builtinKind "BaseException.__getattribute__" = some .slot:=(by decide +kernel);have hsplit:splitId "BaseException.__getattribute__" = some ("BaseException","__getattribute__"):=(by decide +kernel);have ha:=F.args_bexc_ga (.ref a) (.str "__class__" tk);have L0:Cz (aN prog w) h (typeOf (.ref a)) (.ref C):=J2 p;have L1:=looks_subIn (M:=aN prog w) X (Ce e).2.2.2.2.1;simp only [checkBuiltinCall,hk,hsplit];refine aG ?_;unfold isInstance;(repeat ((fail_if_success (with_reducible show aJ _ _ (lD.«object.__getattribute__» _) _ _ _)); (first | lk | wp_step)));refine agV X p e ?_;exact hq
theorem alh{Q:Option aB->aK->Prop}(X:K.In h)(p:CG a C h)(e:wI K C=true)(hq:Q (some (.ref C)) ⟨h,g,d,t+1,os⟩): aJ (aN prog w) A (getAttr? (.ref a) "__class__") Q E ⟨h,g,d,t,os⟩:=by have L0:Cz (aN prog w) h (typeOf (.ref a)) (.ref C):=J2 p;have L1:=Q0 (M:=aN prog w) X (Ce e).1;have L2:=Q0 (M:=aN prog w) X (Ce e).2.1;have f3:=PySem.F.excAttr_ValueError.ga.bind (.ref a);have hx2:(CJ "BaseException.__getattribute__" == CJ "object.__getattribute__")=false:=(by decide +kernel);have hx1:(onTheHeap (cL C) && CJ "BaseException.__getattribute__" == CJ "object.__getattribute__")=false:=(by rw [hx2]; exact yP _);unfold getAttr? getAttrBy?; unfold getAttrBy;refine aG (wpAny_mkText ?_);refine aG (Cj ?_);refine jO (aG (L0.at ?_));refine aG (L1.at ?_);dsimp only;rw [aZ (by rw [hx1]; exact iW)];unfold getAttrByItsOwn;(repeat ((fail_if_success (with_reducible show aJ _ _ (Sem.attempt _) _ _ _)); (first | lk | wp_step)));refine Cj (jO ?_);unfold callGetattribute;rw [aZ (show ¬ ((false && onTheHeap (CJ "BaseException.__getattribute__"))=true) from iW)];unfold boundAndCalled;rw [f3]; refine aG (aR ?_);refine GF (ak9 X p e ?_);repeat (any_goals (first | assumption | wp_step))
theorem alf(e:wI K C=true):KitX K (.ref a) (.ref C) (CG a C) where
 ty:=λ_ _ _ p=>J2 p
 it:=λ_ _ X _=>by
   obtain ⟨cd,hc⟩:=Kg.mp (Ce e).2.2.2.2.2;unfold clsIn at hc;split at hc
   case h_1 ho =>
     intro A' Q' E' s' k q;unfold isType; unfold loadHead;exact aG (wpAny_loadPart (k _ _ (X _ _ ho)) (aR q))
   case h_2=>cases hc
 ne:=λh tp dd its n sl X htp=>by
   obtain ⟨cd,hc⟩:=Kg.mp (Ce e).2.2.2.2.2;refine Xf.mpr λq=>?_
   have z:C=tp:=Value.ref.inj (beq_iff_eq.mp q);subst z;unfold clsIn at hc;split at hc
   case h_1 ho=>cases (X _ _ ho).symm.aA htp
   case h_2=>cases hc
 ca:=λ{_ _ _ _ _ s} X p k=>by
   obtain ⟨h,g,d,t,os⟩:=s;exact alh X p e k
end
end L2
namespace L2
open PySem PySem.Spec PyProof.Rows
structure Way(B:aY)(l:List Env)(a:au)(cls a0 fl:aB)(h:aY):Prop where
 st:B.StaysIn h
 no:B.get? a=none
 ff:h.FunFrames B l
 tr:h.TracedAtW B a cls a0 fl
variable{B:aY}{l:List Env}{a:au}{cls a0:aB}
theorem Way.abo{h:aY}(x:JG B l a cls a0 h):Way B l a cls a0 .none h:=⟨x.1,x.2.1,x.2.2.1,x.2.2.2⟩
variable{Q:Unit->aK->Prop}{M:Dj}{A:iI}{E:aB->aK->Prop}{s:aK}{env:Env}{outer:List Env}{L:au}
theorem entryN{oe:Obj}{vs:Array aB}{head:aB}{hadNext:Bool}(hfr:A.frames=some (env :: outer))(ff:s.heap.FunFrames B (env :: outer))(hf:env.frame=some L)(he:s.heap.get? a=some oe)(st:B.StaysIn s.heap)(nb:B.get? a=none)(hd:oe.data=.fields vs)(l1:1<vs.size)(h0:vs[0]?=some a0)(h2:vs[2]?=some .none)(q:∀ h',B.NotedW (env :: outer) a oe.cls a0 (rawInt L) s.heap h'->tu a h'->Q () { s with heap:=h' }):
   aJ M A (do
     let f <- frameOf env
     let pl <- entryPlaceOf L hadNext
     let b <- acQ head f dM (rawInt L) dM pl
     setField (cL a) 1 b) Q E s:=by
 refine aG (wpAny_frameOf_fun hfr ff hf λh1 so=>aG (wpAny_entryPlaceOf λpl hp=>aG ?_));obtain ⟨sz,oth,sl⟩:=so;unfold acQ newFields;refine oK ?_ (hp.sizeOk5 _ _ _ _ _)
 have nfa:a ∉ List.filterMap (λx=>x.frame) (env :: outer):=λz=>by
   obtain ⟨_,o',ho',nf⟩:=ff.mem z;rw [he] at ho'; cases ho';exact nf _ hd
 have wg:h1.get? a=some oe:=(oth a nfa).aA he;have lt:a<h1.objs.size:=bQ wg;refine yD (o:=oe) (cR _ wg) hd l1 ?_;generalize hT:({ cls:=vN "traceback",data:=Ec ([head,cL L,dM,rawInt L,dM]++if pl.isEmpty=true then wC 6 dM else pl).toArray }:Obj)=oT;have dT:oT.data=Ec ([head,cL L,dM,rawInt L,dM]++if pl.isEmpty=true then wC 6 dM else pl).toArray:=by rw [<- hT]
 have uo:∀ b,b≠a->((h1.push oT).update a (vO (·.setIfInBounds 1 (cL h1.objs.size)))).get? b=(h1.push oT).get? b:=λb n=>qQ _ _ (bW n)
 have ua:=xY (vO (·.setIfInBounds 1 (cL h1.objs.size))) (cR oT wg) (M9 (Bg hd _))
 have ks:∀ b o,s.heap.get? b=some o->(∀ vs,o.data≠.fields vs)->∃ sl,((h1.push oT).update a (vO (·.setIfInBounds 1 (cL h1.objs.size)))).get? b=some { o with slots:=sl }:=λb o e n=>by
   obtain ⟨sl',e'⟩:=sl b o e;refine ⟨sl',(uo b λz=>?_).aA (cR _ e')⟩;rw [z,he] at e; cases e;exact n _ hd
 have l2:2<vs.size:=(Ks.mp h2).1;refine q _ ⟨λb o e=>?_,ff.of_keeps λb o e n=>?_,⟨_,_,h1.objs.size,oT,_,ua,⟨SM ..,?_⟩,Bg hd _,?_,?_,qp lt,?_,dT,?_⟩,ks⟩ ⟨_,_,ua,Bg hd _,?_⟩
 . have na:b≠a:=λz=>by rw [z,nb] at e; cases e
   have nf:b ∉ List.filterMap (λx=>x.frame) (env :: outer):=λz=>by
     have:=(ff.mem z).1;rw [e] at this; cases this
   exact (uo b na).aA (cR _ ((oth b nf).aA (st b o e)))
 . obtain ⟨sl',e'⟩:=ks b o e n;exact ⟨_,e',rfl⟩
 . rw [aej (by decide)]; exact h0
 . simp [l1]
 . cases z:B.get? h1.objs.size with
   | none=>rfl
   | some o =>
     have:=bQ (st _ _ z);rw [sz] at this;exact bO this (qF _)
 . exact (uo _ (qp lt)).aA (gq _ (by rw [<- hT]; rfl))
 . rfl
 . rw [aej (by decide)]; exact h2
variable{fl:aB}
theorem ag8(hfr:A.frames=some (env :: outer))(hf:env.frame=some L)(W:Way B (env :: outer) a cls a0 fl s.heap)(n:tu a s.heap)(q:∀ h',Way B (env :: outer) a cls a0 (rawInt L) h'->tu a h'->s.heap.UpToSlots h'->Q () { s with heap:=h' }):aJ M A (noteFrame (.ref a) env) Q E s:=by by_cases z:fl=rawInt L;subst z;exact wpAny_noteFrame_againW hf W.tr (q s.heap W n (Heap.UpToSlots.refl _));obtain ⟨k1,k2,k3,oe,vs,T,oT,ts,he,⟨hc,h0⟩,hd,h1,nT,ne,hT,dT,h3⟩:=W;obtain ⟨oe',vs',he',hd',h2⟩:=n;rw [he] at he'; cases he';rw [hd] at hd'; cases hd';subst hc;unfold noteFrame;simp only [hf];refine aG (kj he hd h1 ?_);rw [bI (by simp)];refine aG (kj hT dT h3 ?_);rw [aZ (by simpa using z)];refine aG (yD hT dT (Ks.mp h3).1 ?_);have oth:∀ b,b≠T->(s.heap.update T (vO (·.setIfInBounds 3 dM))).get? b=s.heap.get? b:=λb n=>qQ _ _ (bW n);have nr:∀ b o,s.heap.get? b=some o->(∀ vs,o.data≠.fields vs)->b≠T:=λb o e n y=>(by rw [y,hT] at e; cases e; exact n ts dT);refine entryN hfr (k3.of_keeps λb o e n=>⟨o,(oth b (nr b o e n)).aA e,rfl⟩) hf ((oth a ne.symm).aA he) (λb o e=>(oth b λy=>by rw [y,nT] at e; cases e).aA (k1 b o e)) k2 hd (Ks.mp h1).1 h0 h2 λh' y nc=>?_;obtain ⟨x1,x2,x3,x4⟩:=y;exact q h' ⟨x1,k2,x2,x3⟩ nc λb o e n=>x4 b o ((oth b (nr b o e n)).aA e) n
theorem Qu(W:Way B l a cls a0 fl s.heap)(n:tu a s.heap)(q:∀ h',JG B l a cls a0 h'->tu a h'->s.heap.UpToSlots h'->Q () { s with heap:=h' }): aJ M A (setFlight (.ref a) none) Q E s:=by obtain ⟨k1,k2,k3,oe,vs,T,oT,ts,he,hc,hd,h1,nT,ne,hT,dT,h3⟩:=W;have l3:3<ts.size:=(Ks.mp h3).1;unfold setFlight;refine aG (kj he hd h1 ?_);rw [bI (by simp)];have oth:∀ b,b≠T->(s.heap.update T (vO (·.setIfInBounds 3 dM))).get? b=s.heap.get? b:=λb n=>qQ _ _ (bW n);have nr:∀ b o,s.heap.get? b=some o->(∀ vs,o.data≠.fields vs)->b≠T:=λb o e n y=>(by rw [y,hT] at e; cases e; exact n ts dT);refine yD hT dT l3 (q _ ⟨λb o e=>(oth b λy=>by rw [y,nT] at e; cases e).aA (k1 b o e),k2,k3.of_keeps λb o e n=>⟨o,(oth b (nr b o e n)).aA e,rfl⟩,?_⟩ (n.at' λo e=>(oth a ne.symm).aA e) λb o e n=>⟨_,(oth b (nr b o e n)).aA e⟩);exact ⟨oe,vs,T,_,_,(oth a ne.symm).aA he,hc,hd,h1,nT,ne,xY _ hT (M9 (Bg dT _)),Bg dT _,by simp [l3]⟩
theorem al8{h:aY}{args:List aB}(hfr:A.frames=some (env :: outer))(hf:env.frame=some L)(st:B.StaysIn h)(ff:h.FunFrames B (env :: outer))(me:h.MadeExcOf s.heap a cls args)(q:∀ h' t,JG B outer a cls (.ref t) h'->tu a h'->s.heap.UpToSlots h'->Q () { s with heap:=h' }):aJ M A (leaving env (.ref a)) Q E s:=by obtain ⟨t,ea,_,_⟩:=me.there;have nb:B.get? a=none:=(by cases z:B.get? a with| none=>rfl| some o=>have:=st _ _ z; rw [me.new] at this; cases this);unfold leaving;refine aG ?_;unfold noteFrame;simp only [hf];refine aG (kj (x:=.none) ea rfl rfl ?_);rw [aZ (by simp)];refine entryN hfr (ff.of_keeps λb o e n=>⟨o,me.keeps b o e,rfl⟩) hf ea (λb o e=>me.keeps b o (st b o e)) nb rfl (by show 1<6; decide) (a0:=.ref t) rfl rfl λh1 y nc=>?_;obtain ⟨x1,x2,x3,x4⟩:=y;refine Qu (s:={ s with heap:=h1 }) ⟨x1,nb,x2,x3⟩ nc λh2 fl2 nc2 up2=>?_;obtain ⟨k1,k2,⟨_,_,k3⟩,k4⟩:=fl2;exact q h2 t ⟨k1,k2,k3,k4⟩ nc2 (Heap.UpToSlots.aA x4 up2)
noncomputable def Af(P:gk)(w:fK):wz:=λouter H s E e s'=>CX1 P w outer H s E e s'/\∃ a,e=.ref a/\tu a s'.heap
noncomputable def adZ(X:Cx)(E:XK):Prop:=X.stack=X.env :: X.outer/\X.env.frame=some X.env.locals/\X.ex=[]/\X.calm=true /\
 ∀ e s',aJ (aN X.prog X.w) X.A (leaving X.env e) (λ_ s2=>Af X.prog X.w X.outer X.H₀ X.s₀ E e s2) (λe' s2=>Af X.prog X.w X.outer X.H₀ X.s₀ E e' s2) s'->X.xe e s'
variable{P:gk}{w:fK}{K:bV}{mg:Str->Option aB}{base:aY}{N:List Str}{qual:Str}{f:au}{H:Hp}{E:XK}
theorem afZ{scope:Scope}{cd:aB}:
   adZ (rJ (Af P w) P w K mg base N qual scope f cd A outer s H E) E:=⟨rfl,rfl,rfl,rfl,λ_ _ h=>h⟩
variable{X:Cx}{x:Str}{C:au}{pos:Pos}
theorem am2{np cpos:Pos}{e:Expr}{es:List Expr}{t:TA}(L:adZ X E)(oc:JT X.K C [.type "ValueError",.type "Exception",.type "BaseException",.type "object"] "ValueError.__new__" = true)(hg:Gl X x)(hm:X.mg x=some (.ref C))(ha:PA X (e :: es) t)(hdb:(x == ("__debug__" : Str))=false:=by decide)(he:gA (e :: es) X.env=(false,eval e X.env) :: gA es X.env:=by rfl)(hpl:(backTo cpos (gA es X.env)).any (·.1)=false:=by rfl):
   PS X (.Raise (some (.Call (.Name x np) (e :: es) [] cpos)) none pos) (aiU C E t):=by
 intro ao s aj H D I h;obtain ⟨hst,hf,hex,hcalm,rP⟩:=L;obtain ⟨nm,qn,N,bs,bm,hd,sn,sub,ab,col,dd,k0,k1,k2,k3,k5,mN,hC,hN,hni,hT⟩:=aiB I.mod.kin oc
 have hpl':(backTo cpos (gA (e :: es) X.env)).any (·.1)=false:=by
   rw [he];show (false || (backTo cpos (gA es X.env)).any (·.1))=false;rw [hpl]; rfl
 refine wpAny_Raise_call_subT (C:=C) (nm:=nm) (q:=qn) (N:=N) (bs:=bs) (bm:=bm) (hdct:=hd) (sn:=sn) (sub:=sub) (ab:=ab) (col:=col) (dd:=dd) (k0:=k0) (k1:=k1) (k2:=k2) (k3:=k3) (k5:=k5) (mN:=mN) PySem.F.excBase_ValueError (hT.hasType (by decide)) (I.ok.hd hcalm) hpl' hni (Ew I hg hm ⟨rfl,?_⟩ hdb);have h1:=ha cpos ao s aj H _ I h;rw [he] at h1 |-;refine aem (bH h1 λus s2 z=>?_);obtain ⟨vs,H2,I2,rv,hl,hE⟩:=z;refine ⟨rfl,by rw [<- rv.length]; exact hl,I2.bk _ _ hC,hN.keeps I2.bk,hT.keeps I2.bk,λh' a hme=>rP _ _ ?_⟩;have hfr:X.A.frames=some (X.env :: X.outer):=by rw [<- hst]; exact I.ok.frames
 have hFF:s2.heap.FunFrames (PN s2.heap (frs X.stack)) (X.env :: X.outer):=by
   have z:=PySem.W.funFrames_hide (as:=frs X.stack) I2.stack (λenv he a ha=>Qz.mpr ⟨env,he,ha⟩);rw [hst] at z |-;exact z
 refine al8 (B:=PN s2.heap (frs X.stack)) (h:=s2.heap) hfr hf (λb o z=>aa6 _ z) hFF hme λh2 tt fl nc up=>?_
 have hk:∀ b o,s2.heap.get? b=some o->b ∉ frs X.stack->h2.get? b=some o:=λb o q nb=>fl.1 b o (Ot _ q nb)
 obtain ⟨un,hok⟩:=I2.out hex hk (λb o q hb=>by
   obtain ⟨_,o',ho',nf⟩:=I2.stack.mem hb;rw [q] at ho'; cases ho'
   exact up b o (hme.keeps b o q) nf)
 refine ⟨⟨a,C,tt,_,H2,rfl,I2.os,I2.bare,un,hok,fl,λb o q nb hb=>?_,?_,hE⟩,a,rfl,nc⟩
 . rcases hb with ⟨u,hu⟩ | ⟨u,hu⟩
   . obtain ⟨o2,e2⟩:=I2.there hu;have z:=hk b o2 e2 (I2.track hu);rw [q] at z; cases z;exact Ot _ e2 (I2.track hu)
   . obtain ⟨o2,e2⟩:=I2.base.there b u hu (by rw [hex]; simp);have nb2:=I2.old hu nb;have z:=hk b o2 e2 nb2;rw [q] at z; cases z;exact Ot _ e2 nb2
 . cases z:H2 a with
   | none=>rfl
   | some u =>
     obtain ⟨o,eo⟩:=I2.there z;rw [hme.new] at eo; cases eo
theorem pG.okN{st:cA}{fd:jU}{ps:List Str}{k:Nat}{sp:Sp}(F:pG K x qual st f fd)(S:cW N ps (bw st))(len:∀ vs H Q E,sp vs H Q E->vs.length=ps.length)(hb:∀(cdv:aB)(A:iI)(outer:List Env)(s:aK)(H:Hp)(vs:List V)(Q:VK)(E:XK),jD k (A.deeper (envOfC qual (bw st) s.heap.objs.size f cdv))->sp vs H Q E -> ∃ t,qH (rJ (Af P w) P w K mg base N qual (bw st) f cdv A outer s H E) (wG st) t/\t { nx:=λ_ H'=>Q .non H',rt:=Q } (start N vs) H):bf P w K mg base (Af P w) (k+1) f fd ps sp:=by obtain ⟨_,_,_,_,_,_,cdv,_,_,rfl,lk,hcd⟩:=F.ex;exact abK lk hcd S len λA outer s H vs Q E hr hsp=>hb cdv A outer s H vs Q E hr hsp
theorem amJ{H1 H2:Hp}{h1 h5:aY}(un:Un (frs l) [] H1 H2 h1 h5)(hok:iD P w H2 h5)(na:H2 a=none)(n1:h1.get? a=none)(e:JK a C h5): Un (frs l) [] H1 (upd H2 a (sU a C)) h1 h5/\iD P w (upd H2 a (sU a C)) h5:=by refine ⟨⟨un.keep,un.slot,λb o q n hx=>?_,un.there,λb xs q=>?_,λb o u q=>?_,λb ps q=>?_⟩,λb u q=>?_⟩;rw [aW (λz=>by rw [z,n1] at q; cases q)];exact un.free b o q n hx;have z:=un.dH b xs q;rw [aW (dN z na)]; exact z;have z:=un.sS b o u q;rw [aW (dN z na)]; exact z;obtain ⟨more,z⟩:=un.tX b ps q;exact ⟨more,by rw [aW (dN z na)]; exact z⟩;by_cases hb:b=a;subst hb;rw [aX] at q; cases q;exact afa e;rw [aW hb] at q;exact (hok b u q).stay (λ_ _ _ r=>r) (λc r=>by rw [aW (dN r na)]; exact r) λc xs r=>by rw [aW (dN r na)]; exact r
section
variable{X:Cx}{k:Nat}{f S C0:au}{fd:jU}{ps:List Str}{sp:Sp}{kI:List V}{ds:List aB}{x n c:Str}{fp cp ep np hp pos:Pos}{e:Expr}{es:List Expr}{t:TA}{i:Nat}{b0:cA}{suite:List cA}{ts:au->TS}
noncomputable def aos(K:bV)(C0 S:au)(i j:Nat)(sp:Sp)(kI:List V)(t:TA)(ts:au->TS):TS:=λD aj H=>t aj H λvs H1=>∀ x dx,H1 x=none->H1 dx=none->dx≠x->sp (.ref x :: (vs++kI)) (upd (upd H1 dx (.own x)) x (.ins C0 dx [])) (λv H2=>v=.non/\D.nx (aj.set j (some (.ref x))) H2)
 (λcl _ H2=>Km K cl (.ref S)=some true/\∀ a C,cl=.ref C->H2 a=none->ts a { nx:=fun bA H'=>D.nx (bA.set i none) H',rt:=D.rt,bk:=fun bA H'=>D.bk (bA.set i none) H',ct:=fun bA H'=>D.ct (bA.set i none) H' } (aj.set i (some (.ref a))) (upd H2 a (sU a C)))
theorem alJ{j:Nat}{y:Str}{yp:Pos}(M:Mk X.K C0 f)(F:bf X.prog X.w X.K X.mg X.base (Af X.prog X.w) k f fd ps sp)(hr:jD (k+1) X.A)(hg:Gl X x)(hm:X.mg x=some (.ref C0))(hb:cj X.K fd ps ds)(hd:cD kI ds)(ha:PA X.nox (e :: es) t)(hst:X.stack=X.env :: X.outer)(hf:X.env.frame=some X.env.locals)(hN:X.N.Nodup)(hj:X.N[j]?=some y)(hy:Loc X.env.scope y)(hi:X.N[i]?=some n)(hl:X.env.scope.names.lookup n=some .local)(hgc:Gl X c)(hmc:X.mg c=some (.ref S))(hsu:∀ a E',qH (X.marked a E') (b0 :: suite) (ts a))(hdb:(x == ("__debug__" : Str))=false:=by decide)(hdc:(c == ("__debug__" : Str))=false:=by decide)(he:gA (e :: es) X.env=(false,eval e X.env) :: gA es X.env:=by rfl)(hpl:(backTo cp (gA es X.env)).any (·.1)=false:=by rfl)(hs:BL (.Call (.Name x fp) (e :: es) [] cp) (some (.Name y yp)) ep.line X.env=pure false:=by rfl)(hfy:X.fn y=true\/X.env.scope.names.lookup y=some .local:=by first | exact .inl rfl | exact .inr rfl | assumption):
   PS X (.Try [.Assign [.Name y yp] (.Call (.Name x fp) (e :: es) [] cp) ep] [.ExceptHandler (some (.Name c np)) (some n) (b0 :: suite) hp] [] [] pos) (aos X.K C0 S i j sp kI t ts):=by
 intro ao s aj H D I h;refine wpAny_Try_except (Vj (Zw ?_ hs));refine Jg (Ew I hg hm ?_ hdb);refine XJ (h₀:=X.base) I.ok.mod.kin M.kp (jx (ha cp ao s aj H _ (I.wish _) h) (λus s1 z=>?_) λ_ _ z=>ou z) he hpl;obtain ⟨vs,H1,I1,r,q⟩:=z;have I1:=I1.zJ;refine ⟨I1.jM,?_⟩;have hq:=q (s1.heap.objs.size+1) s1.heap.objs.size (I1.hok.fresh (Dn _)) (I1.hok.fresh (bG _)) (fB (Dk _));have I0:=I1;have I1:=Inv.made (C:=C0) I0;have r2:cD (V.ref (s1.heap.objs.size+1) :: (vs++kI)) (cL (s1.heap.objs.size+1) :: (us++ds)):=.cons rfl (r.append hd)
 have hlen:(cL (s1.heap.objs.size+1) :: us++ds).length=ps.length:=by
   have e:=r2.length;rw [F.len _ _ _ _ hq] at e;exact e.symm
 refine GF (ah6 (f:=f) I0.jM M.makes M.init (beq_iff_eq.mp M.fn) (wM (F.run _ X.stack _ _ ⟨cL (s1.heap.objs.size+1) :: us,[]⟩ (cL (s1.heap.objs.size+1) :: (us++ds)) _ _ _ (hr.make C0 us [])
   (I1.env0.make C0 us []) (hb _ (cL (s1.heap.objs.size+1) :: us) I1.jM hlen) r2 hq) λres s' hq=>?_))
 cases res with
 | ok fl =>
   cases fl with
   | ret u =>
     obtain ⟨v,H2,I2,rv,ev,q2⟩:=I1.after hq;subst ev;exact ⟨rv,MJ I2 hN hj hy (v:=.ref _) rfl (λs2 I3=>Jc (Jc ⟨_,H2,I3,q2⟩)) hfy⟩
   | next=>exact ou hq
   | brk=>exact ou hq
   | cont=>exact ou hq
 | error ex =>
   obtain ⟨⟨a,C,tt,B,H2,rfl,hos,bare,un,hok,fl,cov,na,hmt,hts⟩,a',ha',nc⟩:=hq;cases ha';obtain ⟨h2,g',d',t',o'⟩:=s';have hos:o'=s1.os:=hos;subst hos;have I2:Inv X ao aj H2 ⟨h2,g',d',t',s1.os⟩:=Inv.call (s:={ s1 with heap:=(s1.heap.push tD).push (uY C0 s1.heap.objs.size) }) I1 (ch:=[]) un hok bare (λb z=>by simp at z);have hfr:X.A.frames=some (X.env :: X.outer):=by rw [<- hst]; exact I.ok.frames
   have wL:=fl;rw [hst] at wL;have ff:h2.FunFrames B X.stack:=fl.2.2.1
   have n1:((s1.heap.push tD).push (uY C0 s1.heap.objs.size)).get? a=none:=by
     cases z:((s1.heap.push tD).push (uY C0 s1.heap.objs.size)).get? a with
     | none=>rfl
     | some u =>
       obtain ⟨oe,ws,hoe,_,hod,_⟩:=fl.first
       have nfa:a ∉ frs X.stack:=λy=>by
         obtain ⟨_,o',ho',nf⟩:=ff.mem y;rw [hoe] at ho'; cases ho';exact nf _ hod
       have:=cov a oe hoe nfa (.inr ⟨u,z⟩);rw [fl.2.1] at this; cases this
   have turn:∀(h5:aY)(tk:Nat),B.StaysIn h5->h2.UpToSlots h5->JK a C h5->Inv X ao aj (upd H2 a (sU a C)) ⟨h5,g',d',tk,s1.os⟩:=λh5 tk st up ea=>by
     obtain ⟨u5,k5⟩:=amn un hok (I2.Nm) ff cov st up;obtain ⟨u6,k6⟩:=amJ u5 k5 na n1 ea;exact Inv.call (s:={ s1 with heap:=(s1.heap.push tD).push (uY C0 s1.heap.objs.size) }) I1 (ch:=[]) u6 k6 bare (λb z=>by simp at z)
   have seen:∀{h5:aY}{l:List Env},JG B l a (.ref C) (.ref tt) h5->tu a h5->JK a C h5:=λz n=>by
     obtain ⟨oe,ws,hoe,hoc,hod,_⟩:=z.first;obtain ⟨oe',ws',abJ,hod',h2⟩:=n;rw [hoe] at abJ; cases abJ;rw [hod] at hod'; cases hod';exact ⟨oe,ws,hoe,hoc,hod,h2⟩
   refine ag8 hfr hf (Way.abo wL) nc λh4 anc nc4 up4=>?_
   refine Qu anc nc4 λh5 fl5 nc5 up5=>?_
   have I5:=turn h5 t' fl5.1 (up4.aA up5) (seen fl5 nc5);refine wpAny_handleBy_cons (codeAny_handlers_test (Ew (X:=X.marked a λ_ _=>False) (I5.marked a _) hgc hmc ?_ hdc)) (by intro q; cases q)
   have LT:PySem.W.Looks (aN X.prog X.w) h5 (typeOf (.ref a)) (.ref C):=by
     obtain ⟨o,_,e1,e2,_⟩:=seen fl5 nc5;exact e2 ▸ (PySem.W.Looks.ld e1).andThen .now
   refine (PySem.W.exm_one (K:=X.K) I5.jM LT hmt).at ?_;refine codeAny_handlers_suite_as ?_;refine Qu (Way.abo fl5) nc5 λh6 fl6 nc6 up6=>?_
   have I6:=turn h6 t' fl6.1 ((up4.aA up5).aA up6) (seen fl6 nc6);refine MJ (v:=.ref a) I6 hN hi (.inl hl) rfl (λs7 I7=>?_) (.inr hl);refine bH (hsu a _ ao s7 _ _ _ (I7.marked a _) (hts a C rfl na)) λfw s8 q8=>?_
   cases fw with
   | next =>
     obtain ⟨Tz,H8,I8,q8⟩:=q8;exact Ln (I8.unmarked I.ok) hN hi hl λs9 I9=>⟨_,H8,I9,q8⟩
   | brk =>
     obtain ⟨Tz,H8,I8,q8⟩:=q8;exact Ln (I8.unmarked I.ok) hN hi hl λs9 I9=>⟨_,H8,I9,q8⟩
   | cont =>
     obtain ⟨Tz,H8,I8,q8⟩:=q8;exact Ln (I8.unmarked I.ok) hN hi hl λs9 I9=>⟨_,H8,I9,q8⟩
   | ret u =>
     obtain ⟨v8,Tz,H8,I8,r8,q8⟩:=q8;exact Ln (I8.unmarked I.ok) hN hi hl λs9 I9=>⟨v8,_,H8,I9,r8,q8⟩
end
section
open PySem.W
variable{X:Cx}
noncomputable def aij(K:bV)(xs:List V)(H:Hp)(Q:VK):Prop:=vZ λ(a C:au)(v:V)(u:aB)(b:Bool)=>vK (xs=[.ref a,v]) ((∀ u',cO v u'->u'=u)) (H a=some (sU a C)) (wI K C=true) (kitOne K (.ref C) u=some b) (Q (.bl b) H)
theorem qI:jH X (.builtin "isinstance") (aij X.K):=by intro ao s aj H xs us Q I r h;obtain ⟨a,C,v,u,b,rfl,hu,ha,ec,eb,q⟩:=h;obtain ⟨u1,u2,rfl,r1,r2⟩:=vU r;cases hu _ r2;have r1:u1=cL a:=r1;subst r1;obtain ⟨⟨oe,vs,e1,e2,e3,_⟩,_⟩:=(show gF X.prog X.w H s.heap a (sU a C) from I.hok a _ ha);have p:CG a C s.heap:=⟨oe,vs,e1,e2,e3⟩;exact kia_one (alf ec) I.jM p eb (λz=>nomatch z) λtk=>⟨.bl b,H,I.tok tk,rfl,q⟩
end
noncomputable def afG:HO->Prop
 | .dK _=>True
 | .dT _=>True
 | _=>False
noncomputable def ZG(H0 H H':Hp):Prop:=sY λa o u=>rG (H a=some (.jh o u)) (afG u) ((∀ o u,H0 a≠some (.jh o u))) (H'=upd H a u)
section
variable{X:Cx}{ao:List (au × Obj)}{aj:St}{H H':Hp}{s:aK}
theorem Inv.ai0(I:Inv X ao aj H s)(t:ZG X.H₀ H H'):Inv X ao aj H' s:=by
 obtain ⟨a,o,u,e,du,hz,rfl⟩:=t;have ne:∀ b,H b=none->b≠a:=λb hb z=>by subst z; rw [e] at hb; cases hb
 have nt:∀ b xs,H b=some (.tup xs)->b≠a:=λb xs hb z=>by subst z; rw [e] at hb; cases hb
 have no:∀ b y,H b=some (.own y)->b≠a:=λb xs hb z=>by subst z; rw [e] at hb; cases hb
 refine ⟨I.ok,I.os,I.bare,⟨I.base.keep,I.base.slot,λb o' h1 h2 h3=>?_,I.base.there,λb xs h=>?_,λb o' u' h=>?_,λb ps h=>?_⟩,I.loc,I.cell,?_,λx c h=>?_,λp hp=>?_,λb v h=>?_,I.len⟩
 . have z:=I.base.free b o' h1 h2 h3;rw [aW (ne b z)]; exact z
 . have z:=I.base.dH b xs h;rw [aW (nt b xs z)]; exact z
 . have z:=I.base.sS b o' u' h;have n:b≠a:=λq=>by subst q; exact hz _ _ h
   rw [aW n]; exact z
 . obtain ⟨m,z⟩:=I.base.tX b ps h;have n:b≠a:=λq=>by subst q; rw [e] at z; cases z
   exact ⟨m,by rw [aW n]; exact z⟩
 . rw [aW (ne _ I.free)]; exact I.free
 . have z:=I.qJ x c h;rw [aW (ne _ z)]; exact z
 . obtain ⟨p1,p2,p3⟩:=I.pin p hp;exact ⟨p1,by rw [aW (ne _ p2)]; exact p2,p3⟩
 . have st:∀{c:au}{w':HO},gF X.prog X.w H s.heap c w'->gF X.prog X.w (upd H a u) s.heap c w':=λ{c w'} q =>
     q.stay (λ_ _ _ q=>q) (λc q=>by rw [aW (no _ _ q)]; exact q) λc xs q=>by rw [aW (nt _ _ q)]; exact q
   by_cases z:b=a
   . subst z;rw [aX] at h;cases h;exact st (show gF X.prog X.w H s.heap b (.jh o u) from I.hok b _ e).2
   . rw [aW z] at h;exact st (I.hok b v h)
variable{e:Expr}{te:TE}{st:cA}{ts:TS}
noncomputable def ajo(H0:Hp)(t:TS):TS:=λD aj H=>∃ H1,ZG H0 H H1/\t D aj H1
theorem ae6(h:PS X st ts):PS X st (ajo X.H₀ ts):=by intro ao s aj H D I ⟨H1,t,q⟩;exact h ao s aj H1 D (I.ai0 t) q
end
noncomputable def Iti(d:au)(o:Obj)(kvs:List (Key × V)):It:=⟨λi H=>H d=some (.jh o (.dK kvs))/\i<kvs.length,λi H v H'=>∃ T k x,H T=none/\v=.ref T/\kvs[i]?=some (k,x)/\H'=upd H T (.tup [kV k,x]),λi H=>H d=some (.jh o (.dK kvs))/\kvs.length<=i⟩
theorem aox{elts:List Expr}{kk:Nat}(d it:au)(o:Obj)(es:Array Pn)(ep:Nat)(kvs:List (Key × V))(hd:o.data=.dict es ep):
   Turn P w K (.Tuple elts kk pos) (Iti d o kvs) [it] it (λi h=>∃ ok ov,IsItemIter h it d i kvs.length ep ok ov) where
 mem:=by simp
 obj:=λi h st b hb=>by
   have e:b=it:=by simpa using hb
   subst e;obtain ⟨ok,ov,st⟩:=st;exact ⟨_,st,λv z=>by cases (show Ec _=Eh v from z)⟩
 keep:=λi h h' ⟨ok,ov,st⟩ k=>⟨ok,ov,k it (by simp) _ st⟩
 item:=by
   intro X hP hw hK hc i ao s aj H E I hf st hg;subst hP hw hK;obtain ⟨hd',lt⟩:=hg;obtain ⟨ok,ov,st⟩:=st;obtain ⟨vs,es',ep',rel,_,dd,hat⟩:=I.jh hd';rw [hd] at dd;cases dd;have lv:=rel.length;obtain ⟨⟨k,u⟩,hx⟩:∃ p,vs[i]?=some p:=⟨vs[i]'(by omega),gD _⟩;obtain ⟨⟨k',x⟩,hy,e1,ru⟩:=Wf rel hx;cases (show k'=k from e1);rw [lv] at st;refine wpAny_pyNext_items_item st hat hx λkey h' hkey ho hT hsz hk=>?_
   refine ⟨_,rfl,wpAny_letOwnedTupleGo_items (s:={ s with heap:=h' }) ho λh2 b1 b2=>?_⟩;have lte:it<s.heap.objs.size:=bQ st;have nz:s.heap.objs.size≠it:=qp lte;have eT:h2.get? s.heap.objs.size=some { cls:=.type "tuple",data:=.seq #[key,u] }:=(b2.2 _ nz).aA hT;have fresh:H s.heap.objs.size=none:=I.hok.fresh (bG _)
   have I1:Inv X ao aj (upd H s.heap.objs.size (.tup [kV k,x])) { s with heap:=s.heap.push { cls:=.type "tuple",data:=.seq #[key,u] } } :=
     I.laid (t':=s.toks) (λ_ _ e=>cR _ e) (bG _) ⟨by show 2<=aO; rw [cQ]; decide,[key,u],.cons (aje hkey) (.cons ru .nil),uQ.new _ _⟩
   have hf1:∀ c∈[it],jd X ao (upd H s.heap.objs.size (.tup [kV k,x])) c:=λc hc=>by
     have e:c=it:=by simpa using hc
     subst e;exact ⟨by rw [aW (bW nz)]; exact (hf _ (by simp)).1,(hf _ (by simp)).2⟩
   have I2:Inv X ao aj (upd H s.heap.objs.size (.tup [kV k,x])) { s with heap:=h2,toks:=s.toks }:=I1.Js (t':=s.toks) (λc o hc q=>by
     by_cases ec:c=s.heap.objs.size
     . subst ec;have e':(s.heap.push { cls:=.type "tuple",data:=.seq #[key,u] }).get? s.heap.objs.size=some o:=q;rw [gq _ rfl] at e';cases e';exact eT
     . have e':(s.heap.push { cls:=.type "tuple",data:=.seq #[key,u] }).get? c=some o:=q;rw [R7 _ _ _ ec] at e';have ni:c≠it:=by simpa using hc
       exact (b2.2 c ni).aA (hk c o ni e')) hf1
   rw [<- lv] at b1;exact ⟨.ref s.heap.objs.size,_,I2,rfl,⟨_,_,_,fresh,rfl,hy,rfl⟩,⟨_,_,b1⟩,λc hc=>(hf1 c hc).1⟩
 done:=by
   intro X hP hw hK hc i ao s aj H E I hf st hg;subst hP hw hK;obtain ⟨f0,f1,f2,f3,f4,f5⟩:=hf it (by simp);obtain ⟨hd',le⟩:=hg;obtain ⟨ok,ov,st⟩:=st;obtain ⟨vs,es',ep',rel,_,dd,hat⟩:=I.jh hd';rw [hd] at dd;cases dd;have lv:=rel.length;rw [lv] at st;exact wpAny_pyNext_items_end (I.ok.hd hc) st hat (Jr (by omega)) λh' eb=>⟨rfl,I.turned (t':=s.toks) (λb o hb e=>eb b o hb e) f0 f1 f3 f4 f5⟩
 self:=λ_ _ _ _ _ ⟨_,_,st⟩ h=>PySem.W.kcp_self st h
section
variable{X:Cx}{apos cpos pos:Pos}{d:Expr}{td:TE}{elts:List Expr}{kk:Nat}
noncomputable def ajw(td:TE):TI:=fun aj H R=>td aj H λx H1=>∃ a kvs,x=.ref a/\Rd H1 a (.dK kvs)/\∀(o:Obj)(H2:Hp),H2 a=some (.jh o (.dK kvs))->mX H1 H2->(∀ b,b≠a->H2 b=H1 b)->R (Iti a o kvs) H2
theorem afh(hl:PE X d td)(hbase:attributeBase d "items" X.env (eval d X.env)=eval d X.env:=by rfl)(hline:(apos.endLine == cpos.line)=true:=by rfl):
   PI X (.Tuple elts kk pos) (.Call (.Attribute d "items" apos) [] [] cpos) (ajw td):=by
 intro ao s aj H R I h;refine aaW hbase hline (bH (hl ao s aj H _ I h) λv s1 ⟨x,H1,I1,r1,q1⟩=>?_);obtain ⟨a,kvs,e,hq,q⟩:=q1;subst e;cases r1
 obtain ⟨o,H2,I2,e2,sf,oth⟩:∃ o H2,Inv X ao aj H2 s1/\H2 a=some (.jh o (.dK kvs))/\mX H1 H2/\∀ b,b≠a->H2 b=H1 b:=by
   rcases hq with hq | ⟨o,hq⟩
   . obtain ⟨o,I2⟩:=I1.freeze hq;refine ⟨o,_,I2,aX,λb u e=>?_,λb hb=>aW hb⟩;by_cases z:b=a
     . subst z;rw [hq] at e;cases e;exact .inr ⟨kvs,o,rfl,aX⟩
     . exact .inl (by rw [aW z]; exact e)
   . exact ⟨o,H1,I1,hq,mX.refl _,λ_ _=>rfl⟩
 obtain ⟨vs,es,ep,rel,ds,dd,hat⟩:=I2.jh e2;have tI:=amg I2 (.inl ⟨kvs,.inr ⟨o,e2⟩⟩);refine ⟨"dict","dict.items",aee,aaZ,PySem.F.type_dict_items,tI.1,tI.2.1,Wr rfl (Zu ?_)⟩;refine call_meetsIn aaZ tI.1 PySem.F.entry_dict_items (PySem.F.args_dict_items_1 _) (meets_dict_items (gZ X.prog X.w) a ds) ⟨⟨vs,hat.dictOf⟩,?_⟩;have I3:Inv X ao aj H2 { s1 with heap:=s1.heap.push { cls:=.type "dict_items",data:=.fields #[.ref a] } }:=I2.kept (t':=s1.toks) λb o e=>cR _ e
 have hat3:=hat.push { cls:=.type "dict_items",data:=.fields #[.ref a] };refine wpAny_pyIter_items (s:={ s1 with heap:=s1.heap.push { cls:=.type "dict_items",data:=.fields #[.ref a] } }) ⟨_,gq _ rfl,rfl,rfl⟩ hat3 ?_;refine ⟨_,[_],_,_,H2,rfl,I3.kept (t':=s1.toks) λb o e=>cR _ e,aox a _ o es ep kvs dd,⟨.none,.none,by rw [rel.length]; exact gq _ rfl⟩,λb hb=>?_,q o H2 e2 sf oth⟩;have e:=lg.mp hb;subst e;exact I3.ug (bG _) (I3.hok.fresh (bG _))
end
theorem ahZ{o:Obj}{kvs:List (Key × V)}{g:TG}{tb:TS}{D:Ends}{aj:St}(Pv:Nat->St->Hp->Prop)(h0:Pv 0 aj H)(hl:∀ i aj H,i<=kvs.length->Pv i aj H->H a=some (.jh o (.dK kvs)))(hs:∀ i k x T aj H,kvs[i]?=some (k,x)->Pv i aj H->H T=none->g (.ref T) aj (upd H T (.tup [kV k,x])) fun dJ H2=>tb { D with nx:=Pv (i+1),ct:=Pv (i+1),bk:=D.nx } dJ H2)(hd:∀ aj H,Pv kvs.length aj H->D.nx aj H): ∃ W:Nat->Nat->St->Hp->Prop,(∃ m,W 0 m aj H)/\∀ i m aj H,W i m aj H -> ((Iti a o kvs).stop i H/\D.nx aj H)\/((Iti a o kvs).go i H/\∃ N:St->Hp->Prop,(∀ bA H',N bA H'->∃ m',m'<m/\W (i+1) m' bA H')/\∀ x H',(Iti a o kvs).sO i H x H'->g x aj H' fun dJ H2=>tb { D with nx:=N,ct:=N,bk:=D.nx } dJ H2):=by refine ⟨λi m aj H=>m=kvs.length-i/\i<=kvs.length/\Pv i aj H,⟨kvs.length,by simp,dR _,h0⟩,?_⟩;rintro i m aj H ⟨rfl,hi,p⟩;have q:=hl i aj H hi p;by_cases hlt:i<kvs.length;refine .inr ⟨⟨q,hlt⟩,Pv (i+1),fun bA H' p'=>⟨kvs.length-(i+1),by omega,rfl,hlt,p'⟩,λx H' y=>?_⟩;obtain ⟨T,k,x',fT,rfl,hx,rfl⟩:=y;exact hs i k x' T aj H hx p fT;have e:i=kvs.length:=(by omega);subst e;exact .inl ⟨⟨q,bG _⟩,hd aj H p⟩
end L2
namespace L2
open PySem PySem.Spec PyProof.Rows PySem.W
theorem agt{prog:gk}{w:fK}{A:iI}{E:aB->aK->Prop}{s:aK}{x:aB}{ns:List Int}{Q:aB->aK->Prop}(h64:ns.length<64)(col:∀(R:List aB->aK->Prop),(∀(h':aY)(tk:Nat)(vs:List aB),(∀ b o,s.heap.get? b=some o->h'.get? b=some o)->Bx vs ns->vs.length=ns.length->R vs { s with heap:=h',toks:=tk })->aJ (aN prog w) A.in1 (collect x) R E s)(h:∀(h1 h':aY)(tk:Nat)(out:List aB)(ns':List Int)(n:Nat),(∀ b o,s.heap.get? b=some o->h1.get? b=some o)->(∀ b o,h1.get? b=some o->h'.get? b=some o)->h'.get? h1.objs.size=some (seqObj "list" out.toArray n)->Bx out ns'->ns'.Perm ns->ns'.Pairwise (·<=·)->Q (.ref h1.objs.size) { s with heap:=h',toks:=tk }): aJ (aN prog w) A (call (.builtin "sorted") [x]) Q E s:=by refine SN RG Sw WR (R3 _) ?_;unfold lD.«sorted»;refine aG (m:=checkCount "sorted" 1 1 _) (aR ?_);refine aG (col _ λh' tk vs kk hS hl=>?_);have dO:=cQ;refine aG (Oj ?_ (by omega));have g0:(h'.push (seqObj "list" vs.toArray 0)).get? h'.objs.size=some (seqObj "list" vs.toArray 0):=gq _ rfl;refine aG (jO (tH Xj (s:={ s with heap:=h'.push (seqObj "list" vs.toArray 0),toks:=tk }) ⟨_,g0,rfl⟩ QS (list_sort_tree (s:={ s with heap:=h'.push (seqObj "list" vs.toArray 0),toks:=tk }) g0 hS (by omega) λout ns' q1 q2 q3=>⟨_,rfl,?_⟩) (RW _)));obtain ⟨n,hn⟩:=Vt (vs:=vs) (out:=out) g0;refine aR ⟨_,rfl,h h' _ tk out.toList ns' n kk (λb o e1=>?_) (by rw [ab4]; exact hn) q1 q2 q3⟩;have lt:b<h'.objs.size:=bQ e1;show (sortedHeap (h'.push (seqObj "list" vs.toArray 0)) h'.objs.size vs _).get? b=some o;rw [Xk (fB lt) (by rw [qY]; exact yL lt)];exact cR _ e1
theorem ah9:∀{ns:List Int}{us:List aB},Bx us ns->cD (ns.map V.int) us:=by intro ns us h;induction h with| nil=>exact .nil| cons x t _ ih=>exact .cons ⟨t,rfl⟩ ih
theorem Zh:∀{ns:List Int}{us:List aB},us.length=ns.length->(∀(i:Nat)(v:aB),us[i]?=some v->∃ x t,ns[i]?=some x/\v=.int x t)->Bx us ns
 | [],[],_,_=>.nil
 | x :: ns,u :: us,hl,h=>by obtain ⟨y,t,e,rfl⟩:=h 0 u rfl;cases (show some x=some y from e);exact .cons x t (Zh (by simpa using hl) λi v e=>h (i+1) v (by simpa using e))
 | [],_ :: _,hl,_=>by simp at hl
 | _ :: _,[],hl,_=>by simp at hl
theorem acd{X:Cx}(hc:X.calm=true):jH X (.builtin "sorted") (λxs H Q=>sY λ(p:au)(kvs:List (Key × V))(ns:List Int)=>jJ (xs=[.ref p]) (H p=some (.dK kvs)) (kvs.map (·.1)=ns.map (λi=>(pJ (some i):Key))) (ns.length<64) (∀(l:au)(ns':List Int),H l=none->ns'.Perm ns->ns'.Pairwise (·<=·)->Q (.ref l) (upd H l (.lst (ns'.map V.int))))):=by intro ao s aj H xs us Q I r h;obtain ⟨p,kvs,ns,rfl,hp,hk,h64,q⟩:=h;obtain ⟨u,rfl,ru⟩:=lZ r;cases ru;obtain ⟨z,d,vs,rel,dd⟩:=DN I.hok hp;have hl:kvs.length=ns.length:=(by have:=jr rA hk; simpa using this);have hvl:vs.length=ns.length:=(by rw [<- rel.length]; exact hl);have dO:=cQ;obtain ⟨ep,hat⟩:=dd.dictAt;refine agt h64 (λR hR=>Q5 (A:=X.A.in1) (PySem.W.kdl_dict (knd:=gZ X.prog X.w) (kvs:=vs) (ep:=ep) d) (by simpa using I.ok.hd hc) hat (by omega) λh' tk acc kk hacc=>?_) λh1 h' tk out ns' n k1 k2 ho hS hp2 hs=>?_;have al:acc.toList.length=ns.length:=(by rw [tO]; exact hacc.1.aA hvl);refine hR h' tk acc.toList kk (Zh al λi v e=>?_) al;obtain ⟨k,x,ek,hk'⟩:=hacc.2 i v (by simpa using e);have ek2:(kvs.map (·.1))[i]?=some k:=(by rw [rel.keys,bL,ek]; rfl);rw [hk,bL] at ek2;(cases es:ns[i]? with| none=>rw [es] at ek2; cases ek2| some y =>rw [es] at ek2;cases (show some (pJ (some y):Key)=some k from ek2);rcases sI (show xT (pJ (some y)) v=true from hk') with ⟨j,t,e1,e2⟩ | ⟨x',t,e1,e2⟩ | ⟨e1,e2⟩;cases e1;exact ⟨y,t,rfl,e2⟩;cases e1;cases e1);have I1:Inv X ao aj H { s with heap:=h1,toks:=tk }:=I.kept k1;have hl':ns'.length=ns.length:=hp2.length_eq;exact ⟨.ref h1.objs.size,_,I1.laid (t':=tk) (o:=.lst (ns'.map V.int)) k2 (bG _) ⟨by rw [aL]; omega,out,n,ah9 hS,ho⟩,rfl,q _ _ (I1.hok.fresh (bG _)) hp2 hs⟩
end L2
namespace L2
open PySem PySem.Spec PyProof.Rows PyProof PySem.MeetsSeq
noncomputable def aj5:V->List V->Hp->VK->Prop:=λx vs H Q=>∃(l:au)(bs:List Bool)(j:Nat),x=.ref l/\vs=[.bl true]/\H l=some (.lst (bs.map V.bl))/\bs.length<=1000/\bs[j]?=some true/\(∀ i,i<j->bs[i]?=some false)/\Q (.int j) H
theorem acL(a b:Bool):EqGives (.bool a) (.bool b) (a == b):=λprog w _ E _ Q h=>SeqAt.EqAt.bool_bool a b prog w E Q h
theorem aix{X:Cx}:MtM X "list.index" aj5:=by intro ao s aj H x vs v us Q I rx rv h;obtain ⟨l,bs,j,rfl,rfl,hH,few,hj,hno,q⟩:=h;cases rx;obtain ⟨u,rfl,ru⟩:=rv.one;cases ru;obtain ⟨z,its,n,r,hl,e⟩:=I.Ft hH;have hb:=Iv r;have lj:j<bs.length:=(jC.mp hj).1;have ln:its.length=bs.length:=hb.length;have at_:∀ i b,bs[i]?=some b->its[i]?=some (nC b):=λi b hi=>(by have li:i<its.length:=(by rw [ln]; exact (jC.mp hi).1);obtain ⟨b',e1,e2⟩:=hb.get i its[i] (gD li);rw [hi] at e1;cases e1;rw [gD li,e2]);refine Mj F.slot_list_index ⟨_,e,rfl⟩ F.entry_list_index (F.args_list_index_2 _ _) (PySem.MeetsSeq.list_index l its.toArray n (.bool true) (λy:aB=>y == nC true) (λy hy=>?_) j (by simpa [ln] using lj) (by omega) ?_ ?_) ⟨e,?_⟩;obtain ⟨i,hi,ei⟩:=List.getElem_of_mem (by simpa using hy:y∈its);obtain ⟨b',_,e2⟩:=hb.get i its[i] (gD hi);rw [<- ei,e2];cases b';exact acL false true;exact acL true true;have z1:=at_ j true hj;have lj':j<its.length:=(by rw [ln]; exact lj);rw [gD lj'] at z1;show (its.toArray[j] == nC true)=true;rw [aeH,j6 z1];rfl;intro m hm lt;have z1:=at_ m false (hno m lt);have lm:m<its.length:=(by simpa using hm);rw [gD lm] at z1;show (its.toArray[m] == nC true)=false;rw [aeH,j6 z1];rfl;exact ⟨.int j,H,I.tok _,⟨_,rfl⟩,q⟩
end L2
namespace Fw
section
variable{bM:Type}[DecidableEq bM]
end
end Fw
namespace vQ
open PySem L2
variable{u:TS}{D:Ends}{aj:St}{H:Hp}
theorem J1{c:TT}{t e:TS}(N:St->Hp->Prop)(h:∀ U:St->Hp->Prop,(∀ bA H',N bA H'->U bA H')->Vi c t e { D with nx:=U } aj H)(hN:∀ bA H',N bA H'->u D bA H'):KZ (Vi c t e) u D aj H:=h (u D) hN
theorem gV{te:TE}{g:TG}(h:∀ U:St->Hp->Prop,U=u D->te aj H λx H1=>g x aj H1 U):KZ (Bl te g) u D aj H:=h (u D) rfl
theorem bU{G:Prop}(h:∀ R:Prop,R=G->R):G:=h G rfl
noncomputable def isW:V->Bool
 | .int _=>true
 | _=>false
noncomputable def Thing(K:bV)(H:Hp)(x:V):Prop:=(∃ T,jX K H x (.type T))/\∀ z,x=.str z->z.length<=aO
noncomputable def low(c:Nat):Bool:=97<=c && c<=122
noncomputable def jN:V->Bool
 | .str z=>decide (1<=z.length) && decide (z.length<=8) && z.cps.toList.all low
 | _=>false
noncomputable def tY(K:bV):Sp:=λvs H Q _=>∃ x,vs=[x]/\Thing K H x/\Q (.bl (isW x)) H
noncomputable def uR(K:bV):Sp:=λvs H Q _=>∃ x,vs=[x]/\Thing K H x/\∀ H',aF H H'->Q (.bl (jN x)) H'
variable{K:bV}
theorem ab2{x:V}{T:String}(h:jX K H x (.type T)):(uW T "int" && !uW T "bool")=isW x:=by cases h <;> rfl
theorem apJ(c:Nat):(!decide ((⟨#[c]⟩:Str).cps.toList<("a" : Str).cps.toList))=decide (97<=c)/\(!decide (("z" : Str).cps.toList<(⟨#[c]⟩:Str).cps.toList))=decide (c<=122):=by have ea:("a" : Str).cps.toList=[97]:=(by decide +kernel);have ez:("z" : Str).cps.toList=[122]:=(by decide +kernel);have es:(⟨#[c]⟩:Str).cps.toList=[c]:=rfl;rw [ea,ez,es];constructor;rw [lY]; simp [lt1];rw [lY]; simp [lt1]
structure fU(z:Str):Prop where
 lo:1<=z.length
 hi:z.length<=8
 all:∀ c∈z.cps.toList,low c=true
theorem fU.jN{z:Str}(g:fU z):vQ.jN (.str z)=true:=by have h:z.cps.toList.all low=true:=fW.mpr g.all;simp [vQ.jN,g.lo,g.hi,h]
noncomputable abbrev Row:=Str × Int
structure bK where
 name:Str
 low:Int
 high:Int
 bZ:Int
 runs:List (List Row)
noncomputable abbrev gY:=(Str × Str) × Int × Option Int
noncomputable def zX:Option Int->V
 | none=>.non
 | some i=>.int i
inductive je(H:Hp)(v:V)(r:Row):Prop|mk a(_:v=.ref a)(_:H a=some (.tup [.str r.1,.int r.2]))
inductive oH(H:Hp)(v:V)(rs:List Row):Prop|mk a vs(_:v=.ref a)(_:H a=some (.tup vs))(_:eX (je H) vs rs)
inductive DK(H:Hp)(v:V)(rs:List (List Row)):Prop|mk a vs(_:v=.ref a)(_:H a=some (.tup vs))(_:eX (oH H) vs rs)
inductive qD(H:Hp)(v:V)(h:bK):Prop|mk a b(_:v=.ref a)(_:H a=some (.tup [.str h.name,.int h.low,.int h.high,.int h.bZ,b]))(_:DK H b h.runs)
inductive vG(H:Hp)(v:V)(hs:List bK):Prop|mk a vs(_:v=.ref a)(_:H a=some (.tup vs))(_:eX (qD H) vs hs)
inductive wV(H:Hp)(v:V)(l:gY):Prop|mk a(_:v=.ref a)(_:H a=some (.tup [.str l.1.1,.str l.1.2,.int l.2.1,zX l.2.2]))
inductive Bs(H:Hp)(v:V)(ls:List gY):Prop|mk a vs(_:v=.ref a)(_:H a=some (.tup vs))(_:eX (wV H) vs ls)
inductive uz(H:Hp)(v:V)(hs:List bK)(ls:List gY):Prop|mk a x y(_:v=.ref a)(_:H a=some (.tup [x,y]))(_:vG H x hs)(_:Bs H y ls)
section
variable{H H':Hp}{v:V}(s:jc H H')
include s
theorem je.ts{r:Row}(h:je H v r):je H' v r:=let ⟨a,e,g⟩:=h; ⟨a,e,s _ _ g⟩
theorem oH.ts{r:List Row}(h:oH H v r):oH H' v r:=let ⟨a,vs,e,g,p⟩:=h; ⟨a,vs,e,s _ _ g,j4 (λ_ _ q=>je.ts s q) p⟩
theorem DK.ts{r:List (List Row)}(h:DK H v r):DK H' v r:=let ⟨a,vs,e,g,p⟩:=h; ⟨a,vs,e,s _ _ g,j4 (λ_ _ q=>oH.ts s q) p⟩
theorem qD.ts{r:bK}(h:qD H v r):qD H' v r:=let ⟨a,b,e,g,p⟩:=h; ⟨a,b,e,s _ _ g,DK.ts s p⟩
theorem vG.ts{r:List bK}(h:vG H v r):vG H' v r:=let ⟨a,vs,e,g,p⟩:=h; ⟨a,vs,e,s _ _ g,j4 (λ_ _ q=>qD.ts s q) p⟩
theorem wV.ts{r:gY}(h:wV H v r):wV H' v r:=let ⟨a,e,g⟩:=h; ⟨a,e,s _ _ g⟩
theorem Bs.ts{r:List gY}(h:Bs H v r):Bs H' v r:=let ⟨a,vs,e,g,p⟩:=h; ⟨a,vs,e,s _ _ g,j4 (λ_ _ q=>wV.ts s q) p⟩
theorem uz.ts{hs:List bK}{ls:List gY}(h:uz H v hs ls):uz H' v hs ls:=let ⟨a,x,y,e,g,p,q⟩:=h; ⟨a,x,y,e,s _ _ g,vG.ts s p,Bs.ts s q⟩
end
structure yO(rs:List Row):Prop where
 ne:rs≠[]
 few:rs.length<=25
 names:∀ r∈rs,fU r.1
 rise:(rs.map yh).Pairwise (·<·)
structure pW(h:bK):Prop where
 name:fU h.name
 wide:h.low<=h.high
 bZ:0<=h.bZ
 few:h.runs.length<=25
 runs:∀ r∈h.runs,yO r
noncomputable def iT(h:bK):List Row:=h.runs.flatten
noncomputable def cV(h:bK):List Str:=(iT h).map dw
noncomputable def cG(hs:List bK):List Str:=hs.flatMap cV
structure tK(hs:List bK):Prop where
 lo:1<=hs.length
 hi:hs.length<=6
 all:∀ h∈hs,pW h
 names:(hs.map bK.name).Nodup
 rows:(cG hs).Nodup
 few:(cG hs).length<=24
structure KY(hs:List bK)(l:gY):Prop where
 sent:fU l.1.1
 taken:fU l.1.2
 least:1<=l.2.1
 most:∀ m,l.2.2=some m->l.2.1<=m
 R4:∃ h1∈hs,∃ h2∈hs,l.1.1∈cV h1/\l.1.2∈cV h2/\h1.name≠h2.name
structure Bo(hs:List bK)(ls:List gY):Prop where
 few:ls.length<=24
 all:∀ l∈ls,KY hs l
 rise:(ls.map dw).Pairwise (λa b=>mF a b=true)
inductive Da where
 | non | bl (b:Bool) | int (i:Int) | str (z:Str) | tup (xs:List Da) | oth
mutual
inductive bD(H:Hp):V->Da->Prop
 | non:bD H .non .non
 | bl (b:Bool):bD H (.bl b) (.bl b)
 | int (i:Int):bD H (.int i) (.int i)
 | str (z:Str) (h:z.length<=aO):bD H (.str z) (.str z)
 | tup {a:au} {vs:List V} {xs:List Da}:H a=some (.tup vs)->vs.length<=25->cH H vs xs->bD H (.ref a) (.tup xs)
 | lst {a:au} {vs:List V}:H a=some (.lst vs)->bD H (.ref a) .oth
 | uh {a:au} {kvs:List (Key × V)}:H a=some (.dK kvs)->bD H (.ref a) .oth
inductive cH(H:Hp):List V->List Da->Prop
 | nil:cH H [] []
 | cons {v:V} {vs:List V} {x:Da} {xs:List Da}:bD H v x->cH H vs xs->cH H (v :: vs) (x :: xs)
end
mutual
theorem bD.same{H H':Hp}(s:aF H H'):∀{v:V}{d:Da},bD H v d->bD H' v d
 | _,_,.non=>.non
 | _,_,.bl b=>.bl b
 | _,_,.int i=>.int i
 | _,_,.str z h=>.str z h
 | _,_,.tup h l r=>.tup (s _ _ h) l (cH.same s r)
 | _,_,.lst h=>.lst (s _ _ h)
 | _,_,.uh h=>.uh (s _ _ h)
theorem cH.same{H H':Hp}(s:aF H H'):∀{v:List V}{d:List Da},cH H v d->cH H' v d
 | _,_,.nil=>.nil
 | _,_,.cons h r=>.cons (bD.same s h) (cH.same s r)
end
theorem cH.len:∀{vs:List V}{xs:List Da},cH H vs xs->vs.length=xs.length
 | _,_,.nil=>rfl
 | _,_,.cons _ r=>by rw [iz,iz,r.len]
theorem cH.get:∀{vs:List V}{xs:List Da},cH H vs xs->∀{i:Nat}{v:V},vs[i]?=some v->∃ x,xs[i]?=some x/\bD H v x
 | _,_,.nil,i,v,e=>by simp at e
 | _,_,.cons h r,i,v,e=>by cases i with| zero=>cases (show some _=some v from e); exact ⟨_,rfl,h⟩| succ i=>exact r.get (by simpa using e)
variable{vs:List V}{xs:List Da}
theorem cH.inv{x:Da}(h:cH H vs (x :: xs)):∃ v r,vs=v :: r/\bD H v x/\cH H r xs:=by cases h with| cons h r=>exact ⟨_,_,rfl,h,r⟩
theorem cH.Im(h:cH H vs []):vs=[]:=by cases h; rfl
variable{a:Da}
theorem cH.akl(h:cH H vs [a]):∃ v1,vs=[v1]/\bD H v1 a:=by obtain ⟨v,r,rfl,h1,h2⟩:=h.inv;obtain rfl:=h2.Im;exact ⟨_,rfl,h1⟩
variable{b:Da}
theorem cH.two(h:cH H vs [a,b]):∃ v1 v2,vs=[v1,v2]/\bD H v1 a/\bD H v2 b:=by obtain ⟨v,r,rfl,h1,h2⟩:=h.inv;obtain ⟨w,rfl,h3⟩:=h2.akl;exact ⟨_,_,rfl,h1,h3⟩
variable{c d:Da}
theorem cH.four(h:cH H vs [a,b,c,d]):∃ v1 v2 v3 v4,vs=[v1,v2,v3,v4]/\bD H v1 a/\bD H v2 b/\bD H v3 c/\bD H v4 d:=by obtain ⟨v,r,rfl,h1,h2⟩:=h.inv;obtain ⟨w,r,rfl,h3,h4⟩:=h2.inv;obtain ⟨x,y,rfl,h5,h6⟩:=h4.two;exact ⟨_,_,_,_,rfl,h1,h3,h5,h6⟩
theorem cH.five{e:Da}(h:cH H vs [a,b,c,d,e]):∃ v1 v2 v3 v4 v5,vs=[v1,v2,v3,v4,v5]/\bD H v1 a/\bD H v2 b/\bD H v3 c/\bD H v4 d/\bD H v5 e:=by obtain ⟨v,r,rfl,h1,h2⟩:=h.inv;obtain ⟨w,x,y,z,rfl,h3,h4,h5,h6⟩:=h2.four;exact ⟨_,_,_,_,_,rfl,h1,h3,h4,h5,h6⟩
theorem JH{n:Nat}(h:xs.length=n+1):∃ x r,xs=x :: r/\r.length=n:=by cases xs with| nil=>cases h| cons x r=>exact ⟨x,r,rfl,Nat.succ.inj h⟩
theorem len2(h:xs.length=2):∃ a b,xs=[a,b]:=by obtain ⟨a,r1,rfl,h1⟩:=JH h;obtain ⟨b,r2,rfl,h2⟩:=JH h1;obtain rfl:=HF h2;exact ⟨a,b,rfl⟩
theorem Il(h:xs.length=4):∃ a b c d,xs=[a,b,c,d]:=by obtain ⟨a,r1,rfl,h1⟩:=JH h;obtain ⟨b,r2,rfl,h2⟩:=JH h1;obtain ⟨c,d,rfl⟩:=len2 h2;exact ⟨a,b,c,d,rfl⟩
theorem adR(h:xs.length=5):∃ a b c d e,xs=[a,b,c,d,e]:=by obtain ⟨a,r1,rfl,h1⟩:=JH h;obtain ⟨b,c,d,e,rfl⟩:=Il h1;exact ⟨a,b,c,d,e,rfl⟩
variable{v:V}
theorem bD.dW(h:bD H v (.tup xs)):∃ a vs,v=.ref a/\H a=some (.tup vs)/\vs.length<=25/\cH H vs xs:=by cases h with| tup h l r=>exact ⟨_,_,rfl,h,l,r⟩
noncomputable def mj:Da->Bool
 | .tup _=>true
 | _=>false
noncomputable def gW:Da->Bool
 | .int _=>true
 | _=>false
noncomputable def lJ:Da->Bool
 | .str z=>jN (.str z)
 | _=>false
noncomputable def intD:Da->Int
 | .int i=>i
 | _=>0
noncomputable def oA(d:Da)(n:Nat):Bool:=match d with
 | .tup xs=>decide (xs.length=n)
 | _=>false
noncomputable def eU:Da->Bool
 | .tup [a,b]=>lJ a && gW b
 | _=>false
noncomputable def uT:Da->Da
 | .tup [_,b]=>b
 | _=>.non
noncomputable def j8{bM:Type}(xs:List bM):List (bM × bM):=xs.zip (xs.drop 1)
noncomputable def sJ(is:List Int):Bool:=(j8 is).all λp=>decide (p.1<p.2)
noncomputable def Ag(ks:List (Str × Str)):Bool:=(j8 ks).all λp=>mF p.1 p.2
noncomputable def nU:Da->Bool
 | .tup xs=>!xs.isEmpty && (xs.all eU && sJ (xs.map λx=>intD (uT x)))
 | _=>false
noncomputable def ql(n l h d:Da):Bool:=lJ n && ((gW l && (gW h && gW d)) && (decide (intD l<=intD h) && decide (0<=intD d)))
noncomputable def Dc:Da->Bool
 | .tup rs=>rs.all nU
 | _=>false
noncomputable def jl:Da->Bool
 | .tup [n,l,h,d,r]=>ql n l h d && Dc r
 | _=>false
noncomputable def Hs(l:Int):Da->Bool
 | .non=>true
 | .int i=>decide (l<=i)
 | _=>false
noncomputable def lB:Da->Bool
 | .tup [s,t,l,m]=>lJ s && (lJ t && (gW l && (decide (1<=intD l) && Hs (intD l) m)))
 | _=>false
theorem Fd{y:Da}(h:eU y=true):∃ z j,y=.tup [.str z,.int j]/\jN (.str z)=true:=by unfold eU at h;split at h;rename_i a b;obtain ⟨h1,h2⟩:=cB.mp h;(cases b with| int j =>(cases a with| str z=>exact ⟨z,j,rfl,h1⟩| _=>cases h1)| _=>cases h2);cases h
theorem bD.kind(h:bD H v d):Thing K H v/\(∃ T,jX K H v (.type T)/\ju K (.type T) (.type "tuple")=some (mj d))/\isW v=gW d/\jN v=lJ d:=by cases h with| non=>exact ⟨⟨⟨_,.non⟩,λz e=>by cases e⟩,⟨_,.non,(vm (K:=K) (jX.non (H:=H))).2.2.2⟩,rfl,rfl⟩| bl b=>exact ⟨⟨⟨_,.bl b⟩,λz e=>by cases e⟩,⟨_,.bl b,(vm (K:=K) (jX.bl (H:=H) b)).2.2.2⟩,rfl,rfl⟩| int i=>exact ⟨⟨⟨_,.int i⟩,λz e=>by cases e⟩,⟨_,.int i,(vm (K:=K) (jX.int (H:=H) i)).2.2.2⟩,rfl,rfl⟩| str z hz=>exact ⟨⟨⟨_,.str z⟩,λy e=>by cases e; exact hz⟩,⟨_,.str z,(vm (K:=K) (jX.str (H:=H) z)).2.2.2⟩,rfl,rfl⟩| tup e l r=>exact ⟨⟨⟨_,.tup e⟩,λz e=>by cases e⟩,⟨_,.tup e,(vm (K:=K) (jX.tup e)).2.2.2⟩,rfl,rfl⟩| lst e=>exact ⟨⟨⟨_,.lst e⟩,λz e=>by cases e⟩,⟨_,.lst e,(vm (K:=K) (jX.lst e)).2.2.2⟩,rfl,rfl⟩| uh e=>exact ⟨⟨⟨_,.dK e⟩,λz e=>by cases e⟩,⟨_,.dK e,(vm (K:=K) (jX.dK e)).2.2.2⟩,rfl,rfl⟩
noncomputable def gQ(f:Da->Bool):Sp:=λvs H Q _=>∃(x:V)(d:Da),vs=[x]/\bD H x d/\∀ H',aF H H'->Q (.bl (f d)) H'
noncomputable def rK:Sp:=λvs H Q _=>∃(x:V)(d:Da)(n:Nat),vs=[x,.int (n:Int)]/\bD H x d/\Q (.bl (oA d n)) H
noncomputable def MP:Sp:=λvs H Q _=>QX8 λ(x0 x1 x2 x3:V)(d0 d1 d2 d3:Da)=>vK (vs=[x0,x1,x2,x3]) (bD H x0 d0) (bD H x1 d1) (bD H x2 d2) (bD H x3 d3) (∀ H',aF H H'->Q (.bl (ql d0 d1 d2 d3)) H')
noncomputable def Yi(H:Hp)(xs:List V)(b:Bool):Prop:=(∃ is:List Int,xs=is.map V.int/\b=sJ is)\/∃(as:List au)(ks:List (Str × Str)),xs=as.map V.ref/\eX (λa k=>H a=some (.tup ((kP k).map kV))) as ks/\b=Ag ks
noncomputable def Pu:Sp:=λvs H Q _=>sY λ(a:au)(xs:List V)(b:Bool)=>jJ (vs=[.ref a]) (H a=some (.lst xs)) (xs.length<=60) (Yi H xs b) (∀ H',aF H H'->Q (.bl b) H')
theorem Jm{H':Hp}{a:au}{xs:List V}(s:aF H H')(h:aV K H a xs):aV K H' a xs:=by rcases h with (h | ⟨o,h⟩) | h;exact .inl (.inl (s _ _ h));exact .inl (.inr ⟨o,s _ _ h⟩);exact .inr h
structure LtA(K:bV)(x y:V)(H:Hp)(Q:VK):Prop where
 h:aaH K x y H Q
theorem aaP{X:Cx}(hu:X.A.units<cLine):cU X (gJ .Lt) (LtA X.K):=λao s aj H x y v u Q I rx ry h=>agR hu ao s aj H x y v u Q I rx ry h.h
variable{bM:Type}
theorem Xv(xs:List bM):(j8 xs).length=xs.length-1:=by unfold j8; rw [Bj,jR]; omega
theorem QT{xs:List bM}{i:Nat}{x y:bM}(hx:xs[i]?=some x)(hy:xs[i+1]?=some y):(j8 xs)[i]?=some (x,y):=by unfold j8;exact PyProof.Rows.zip_get hx (by rw [NK,LR]; exact hy)
theorem Yi.bools{xs:List V}{b:Bool}(h:Yi H xs b):∃ bs:List Bool,bs.length=xs.length-1/\bs.all id=b/\∀{K:bV}{i:Nat}{x y:V}{H':Hp}{Q:VK},xs[i]?=some x->xs[i+1]?=some y->aF H H'->(∀ c,bs[i]?=some c->Q (.bl c) H')->LtA K x y H' Q:=by rcases h with ⟨is,rfl,rfl⟩ | ⟨as,ks,rfl,pr,rfl⟩;refine ⟨(j8 is).map λp=>decide (p.1<p.2),by rw [aL,Xv,aL],by unfold sJ; rw [uD]; rfl,λ{K i x y H' Q} hx hy s q=>?_⟩;rw [bL] at hx hy;(cases e1:is[i]? with| none=>rw [e1] at hx; cases hx| some j =>cases e2:is[i+1]? with| none=>rw [e2] at hy; cases hy| some k =>rw [e1] at hx; rw [e2] at hy;exact ⟨.inl ⟨j,k,(j6 hx).symm,(j6 hy).symm,q _ (by rw [bL,QT e1 e2]; rfl)⟩⟩);refine ⟨(j8 ks).map λp=>mF p.1 p.2,by rw [aL,Xv,aL,pr.length],by unfold Ag; rw [uD]; rfl,λ{K i x y H' Q} hx hy s q=>?_⟩;rw [bL] at hx hy;cases e1:as[i]? with| none=>rw [e1] at hx; cases hx| some j =>cases e2:as[i+1]? with| none=>rw [e2] at hy; cases hy| some k =>rw [e1] at hx; rw [e2] at hy;obtain ⟨k1,g1,h1⟩:=iK pr e1;obtain ⟨k2,g2,h2⟩:=iK pr e2;exact ⟨.inr ⟨j,k,k1,k2,(j6 hx).symm,(j6 hy).symm,aH.of (s _ _ h1),aH.of (s _ _ h2),q _ (by rw [bL,QT g1 g2]; rfl)⟩⟩
theorem xR(xs:List Da)(f:Da->Bool):(xs.map f).all id=xs.all f:=by rw [uD]; rfl
end vQ
namespace vQ
open PySem L2
noncomputable def Hf:Sp:=λvs H Q _=>∃(x:V)(h:bK),vs=[x]/\qD H x h/\pW h/\∀(l:au)(zs:List V)(H':Hp),H l=none->H' l=some (.lst zs)->aF H H'->eX (je H') zs (iT h)->Q (.ref l) H'
noncomputable def K1:Sp:=λvs H Q _=>∃(a:au)(ss:List Str),vs=[.ref a]/\H a=some (.lst (ss.map V.str))/\ss.length<=3800/\∀ H',aF H H'->Q (.bl (decide ss.Nodup)) H'
theorem Xm{ks:List Key}:∀ i,i<=ks.length->(eZ ks i).length=i->(ks.take i).Nodup
 | 0,_,_=>by rw [Bf]; exact List.nodup_nil
 | i+1,hi,h=>by have hk:ks[i]?=some ks[i]:=gD (by omega);have le:=Fv ks i;rw [Ms hk] at h;cases q:lK (eZ ks i) ks[i] with| true=>rw [q,bI rfl] at h; omega| false =>rw [q,aZ iW,dZ] at h;have h':(eZ ks i).length=i:=(by simpa using h);have ih:=Xm i (by omega) h';have e:eZ ks i=ks.take i:=acu i (by omega) h';rw [fZ,hk];rw [FQ];refine ⟨ih,by simp,λa ha b hb z=>?_⟩;have hb':b=ks[i]:=(by simpa using hb);rw [hb'] at z;rw [e] at q;have:=YH.mpr (show ks[i]∈ks.take i by rw [<- z]; exact ha);rw [q] at this; cases this
where acu:∀ i,i<=ks.length->(eZ ks i).length=i->eZ ks i=ks.take i
 | 0,_,_=>rfl
 | i+1,hi,h=>by
   have hk:ks[i]?=some ks[i]:=gD (by omega);have le:=Fv ks i;rw [Ms hk] at h |-;cases q:lK (eZ ks i) ks[i] with
   | true=>rw [q,bI rfl] at h; omega
   | false =>
     rw [q,aZ iW,dZ] at h;rw [aZ iW,acu i (by omega) (by simpa using h),fZ,hk];rfl
noncomputable def LK:Sp:=λvs H Q _=>rz λ(x:V)(hs:List bK)=>jJ (vs=[x]) (vG H x hs) (hs.length<=6) ((∀ h∈hs,pW h)) (∀(l:au)(H':Hp),H l=none->H' l=some (.lst ((cG hs).map V.str))->aF H H'->Q (.ref l) H')
theorem Ka{bM:Type}:∀{l:List (List bM)}{n:Nat},(∀ r∈l,r.length<=n)->l.flatten.length<=l.length * n
 | [],_,_=>by simp
 | r :: l,n,h=>by have h1:=h r gU;have h2:=Ka λq hq=>h q (iM _ hq);rw [JD,dZ,iz,Nat.succ_mul];omega
theorem pW.len{h:bK}(g:pW h):(iT h).length<=625:=by have h1:=Ka (n:=25) λr hr=>(g.runs r hr).few;have h2:h.runs.length * 25<=25 * 25:=Ny 25 g.few;show h.runs.flatten.length<=625;omega
variable{z:Str}
theorem Ox(h:jN (.str z)=true):fU z:=by simp only [jN,pF,decide_eq_true_iff] at h;exact ⟨h.1.1,h.1.2,λc hc=>fW.mp h.2 c hc⟩
noncomputable def rowOf:Da->Row
 | .tup [.str z,.int j]=>(z,j)
 | _=>(⟨#[]⟩,0)
noncomputable def runOf:Da->List Row
 | .tup xs=>xs.map rowOf
 | _=>[]
noncomputable def fX:Da->bK
 | .tup [.str n,.int l,.int h,.int d,.tup rs]=>⟨n,l,h,d,rs.map runOf⟩
 | _=>⟨⟨#[]⟩,0,0,0,[]⟩
noncomputable def Eu:Da->List bK
 | .tup xs=>xs.map fX
 | _=>[]
variable{is:List Int}
theorem aiT(h:sJ is=true):is.Pairwise (·<·):=by unfold sJ at h;have key:∀(l:List Int),(j8 l).all (λp=>decide (p.1<p.2))=true->l.Pairwise (·<·):=(by intro l;induction l with| nil=>intro _; exact yc| cons x l ih =>intro hl;cases l with| nil=>exact Lg _ _| cons y l =>have e:j8 (x :: y :: l)=(x,y) :: j8 (y :: l):=rfl;rw [e,pP] at hl;obtain ⟨h1,h2⟩:=cB.mp hl;have p:=ih h2;refine Cq.mpr ⟨λz hz=>?_,p⟩;have xy:x<y:=dB h1;rcases dU.mp hz with e | e;rw [e]; exact xy;have:=(Cq.mp p).1 z e; omega);exact key is h
theorem ab3{H:Hp}:∀{vs:List V}{xs:List Da},cH H vs xs->xs.all eU=true->eX (je H) vs (xs.map rowOf)
 | _,_,.nil,_=>.nil
 | _,_,.cons h r,g=>by rw [pP] at g;obtain ⟨w1,w2⟩:=cB.mp g;refine .cons ?_ (ab3 r w2);obtain ⟨z,j,rfl,_⟩:=Fd w1;obtain ⟨b,ws,rfl,hb,_,rr⟩:=h.dW;obtain ⟨_,_,rfl,q1,q2⟩:=rr.two;cases q1;cases q2;exact ⟨b,rfl,hb⟩
variable{H:Hp}{v:V}{d:Da}
theorem ajE(h:bD H v d)(g:nU d=true):oH H v (runOf d)/\yO (runOf d):=by cases h with| @tup a vs xs ha rB r =>have g':(!xs.isEmpty && (xs.all eU && sJ (xs.map λx=>intD (uT x))))=true:=g;obtain ⟨g1,g2⟩:=cB.mp g';obtain ⟨g2,g3⟩:=cB.mp g2;have pr:eX (je H) vs (xs.map rowOf):=ab3 r g2;have len:=r.len;refine ⟨⟨a,vs,rfl,ha,pr⟩,?_,by show (xs.map rowOf).length<=25; rw [aL]; omega,λx hx=>?_,?_⟩;intro e;have:xs=[]:=(by simpa [runOf] using e);subst this;cases g1;obtain ⟨y,hy,rfl⟩:=cZ.mp hx;obtain ⟨z,j,rfl,hz⟩:=Fd (fW.mp g2 y hy);exact Ox hz;have e:(xs.map λx=>intD (uT x))=(xs.map rowOf).map yh:=(by rw [nA];refine J5 λy hy=>?_;obtain ⟨z,j,rfl,_⟩:=Fd (fW.mp g2 y hy);rfl);have:=aiT g3;rw [e] at this;exact this| _=>cases g
theorem ajh(g:jl d=true):∃ n l h dr rs,d=.tup [.str n,.int l,.int h,.int dr,.tup rs]/\jN (.str n)=true/\l<=h/\0<=dr/\rs.all nU=true:=by unfold jl at g;split at g;rename_i n l h dr r;obtain ⟨g1,g2⟩:=cB.mp g;unfold ql at g1;obtain ⟨c1,c2⟩:=cB.mp g1;obtain ⟨c2,c3⟩:=cB.mp c2;obtain ⟨c4,c5⟩:=cB.mp c2;obtain ⟨c5,c6⟩:=cB.mp c5;obtain ⟨c7,c8⟩:=cB.mp c3;(cases r with| tup rs =>(cases n with| str n =>(cases l with| int l =>(cases h with| int h =>(cases dr with| int dr=>exact ⟨n,l,h,dr,rs,rfl,c1,dB c7,dB c8,g2⟩| _=>cases c6)| _=>cases c5)| _=>cases c4)| _=>cases c1)| _=>cases g2);cases g
theorem Y4{H:Hp}:∀{vs:List V}{xs:List Da},cH H vs xs->xs.all nU=true->eX (oH H) vs (xs.map runOf)/\∀ r∈xs.map runOf,yO r
 | _,_,.nil,_=>⟨.nil,λh hh=>by simp at hh⟩
 | _,_,.cons h r,g=>by rw [pP] at g;obtain ⟨w1,w2⟩:=cB.mp g;obtain ⟨p1,p2⟩:=Y4 r w2;obtain ⟨r1,r2⟩:=ajE h w1;refine ⟨.cons r1 p1,λy hy=>?_⟩;rw [fM] at hy;rcases dU.mp hy with e | e;rw [e]; exact r2;exact p2 y e
theorem agI(h:bD H v d)(g:jl d=true):qD H v (fX d)/\pW (fX d):=by obtain ⟨n,l,hh,dr,rs,rfl,g1,g2,g3,g4⟩:=ajh g;obtain ⟨a,vs,rfl,ha,_,r⟩:=h.dW;obtain ⟨_,_,_,_,v5,rfl,q1,q2,q3,q4,q5⟩:=r.five;cases q1;cases q2;cases q3;cases q4;obtain ⟨b,ws,rfl,hb,lw,rr⟩:=q5.dW;have len:=rr.len;have pr:=Y4 rr g4;exact ⟨⟨a,.ref b,rfl,ha,b,ws,rfl,hb,pr.1⟩,Ox g1,g2,g3,by show (rs.map runOf).length<=25; rw [aL]; omega,pr.2⟩
theorem Le{H:Hp}:∀{vs:List V}{xs:List Da},cH H vs xs->xs.all jl=true->eX (qD H) vs (xs.map fX)/\∀ h∈xs.map fX,pW h
 | _,_,.nil,_=>⟨.nil,λh hh=>by simp at hh⟩
 | _,_,.cons h r,g=>by rw [pP] at g;obtain ⟨w1,w2⟩:=cB.mp g;obtain ⟨p1,p2⟩:=Le r w2;obtain ⟨r1,r2⟩:=agI h w1;refine ⟨.cons r1 p1,λy hy=>?_⟩;rw [fM] at hy;rcases dU.mp hy with e | e;rw [e]; exact r2;exact p2 y e
noncomputable def yg:Da->Bool
 | .tup xs=>decide (1<=xs.length) && (decide (xs.length<=6) && (xs.all jl && (decide ((xs.map fX).map bK.name).Nodup && (decide (cG (xs.map fX)).Nodup && decide ((cG (xs.map fX)).length<=24)))))
 | _=>false
noncomputable def keyOf:Da->Str × Str
 | .tup (.str a :: .str b :: _)=>(a,b)
 | _=>(⟨#[]⟩,⟨#[]⟩)
noncomputable def jz(h:bK):List (Str × Str):=(iT h).map λr=>(r.1,h.name)
noncomputable def cJ(hs:List bK):List (Str × Str):=hs.flatMap jz
theorem anI(h:bK):(jz h).map dw=cV h:=by unfold jz cV; rw [nA]; rfl
theorem CW(hs:List bK):(cJ hs).map dw=cG hs:=by unfold cJ cG;rw [List.map_flatMap];congr 1;funext h;exact anI h
noncomputable def oZ(ps:List (Str × Str))(n:Str):Option Str:=(ps.find? λp=>decide (p.1=n)).map yh
noncomputable def ux(hs:List bK)(d:Da):Bool:=match oZ (cJ hs) (keyOf d).1,oZ (cJ hs) (keyOf d).2 with
 | some a,some b=>!decide (a=b)
 | _,_=>false
noncomputable def Cg(hs:List bK):Da->Bool
 | .tup xs=>decide (xs.length<=24) && (xs.all lB && (xs.all (ux hs) && Ag (xs.map keyOf)))
 | _=>false
noncomputable def Bc:Da->Bool
 | .tup [h,l]=>yg h && Cg (Eu h) l
 | _=>false
noncomputable def tG(kvs:List (Key × V))(ps:List (Str × Str)):Prop:=∀ n,fO kvs (.inr n)=(oZ ps n).map V.str
variable{kvs:List (Key × V)}{ps:List (Str × Str)}
theorem tG.put{p:Str × Str}(h:tG kvs ps)(nw:∀ q∈ps,q.1≠p.1):tG (eV kvs (.inr p.1) (.str p.2)) (ps++[p]):=λn=>by
 rw [Oo];unfold oZ;rw [aby];by_cases e:n=p.1
 . subst e;have z:ps.find? (λq=>decide (q.1=p.1))=none:=aav.mpr λq hq w=>nw q hq (dB w)
   rw [bI rfl,z];simp
 . rw [aZ (λz=>e (rD z)),h n];unfold oZ
   have z:([p]:List (Str × Str)).find? (λq=>decide (q.1=n))=none:=aav.mpr λq hq w=>by
     rw [lg.mp hq] at w;exact e (dB w).symm
   rw [z];cases ps.find? (λq=>decide (q.1=n)) <;> rfl
noncomputable def Wa:Sp:=λvs H Q _=>qN λ(x y:V)(hs:List bK)(d:Da)=>jJ (vs=[x,y]) (bD H x d) (vG H y hs) (tK hs) (∀ H',aF H H'->Q (.bl (Cg hs d)) H')
variable{X:Cx}
theorem aan:cU X (gJ .Eq) (fS λi j=>.bl (decide (i=j))):=by
 intro ao s aj H x y v u Q I rx ry q;refine abS ao s aj H x y v u Q I rx ry ?_
 cases x <;> cases y <;> first
   | exact (show False from q).elim
   | (refine ⟨rfl,?_⟩
      rename_i i j
      have e:decide (V.str i=V.str j)=decide (i=j):=by rw [lY]; simp
      rw [e]; exact q)
theorem Yu(g:lB d=true):∃ s t l m,d=.tup [.str s,.str t,.int l,m]:=by unfold lB at g;split at g;rename_i s t l m;obtain ⟨g1,g2⟩:=cB.mp g;obtain ⟨g2,g3⟩:=cB.mp g2;obtain ⟨g3,g4⟩:=cB.mp g3;(cases s with| str s =>(cases t with| str t =>(cases l with| int l=>exact ⟨s,t,l,m,rfl⟩| _=>cases g3)| _=>cases g2)| _=>cases g1);cases g
noncomputable def PvH(O:au)(hs:List bK)(H1:Hp):Nat->St->Hp->Prop:=λi aj H'=>qN λ(o1 o2 o3:Option V)(kvs:List (Key × V))=>jJ (aj=[o1,o2,o3]) (H' O=some (.dK kvs)) (kvs.length<=(cJ (hs.take i)).length) (tG kvs (cJ (hs.take i))) (aF H1 H')
noncomputable def PvI(c d O:au)(hs:List bK)(xs:List Da)(H2:Hp):Nat->St->Hp->Prop:=λi aj H'=>H'=H2/\(xs.take i).all (ux hs)=true/\∃(o3 o4 o5 o6:Option V),aj=[some (.ref c),some (.ref d),some (.ref O),o3,o4,o5,o6]
noncomputable def PvJ(D2:au)(xs:List Da)(H2:Hp):Nat->Hp->Prop:=λi H'=>∃ as:List au,eG H' H' D2 (as.map V.ref)/\aF H2 H'/\eX (λa k=>H' a=some (.tup ((kP k).map kV))) as ((xs.map keyOf).take i)
noncomputable def PvK(x:V)(O l:au)(hs:List bK)(h:bK)(i:Nat)(zs:List V)(H1 H3:Hp):Nat->St->Hp->Prop:=λj aj cM=>sY λ(o2 o3:Option V)(wB:List (Key × V))=>QA7 (aj=[some x,o2,o3]) (cM O=some (.dK wB)) (wB.length<=(cJ (hs.take i)++(jz h).take j).length) (tG wB (cJ (hs.take i)++(jz h).take j)) (aF H1 cM) (cM l=some (.lst zs)) (jc H3 cM)
open Builtin.Int in
theorem afA:cU X (lQ .Mult) (tU IntMulOk λi j=>.int (i * j)):=(opI λ_ _ _ _ _ _ _ hc q=>PyProof.Rows.mul_int q hc:cU X (lQ .Mult) (rI IntMulOk λi j=>.int (i * j))).tU
noncomputable def IV(n:Int):Prop:=Cu n<=1048576
noncomputable def Kf:Sp:=λvs H Q _=>∃ c:Int,vs=[.int c]/\Cu c<=2000000/\∀ n:Int,0<=n->Q (.int n) H
noncomputable def iH(H:Hp)(p:au):Prop:=∃ n:Int,H p=some (.lst [.int n])/\0<=n
noncomputable def Xh(K:bV):Sp:=λvs H Q _=>sY λ(a:au)(ns:List Int)(k:Int)=>QA7 (vs=[.ref a,.int k]) (aV K H a (ns.map V.int)) ((∀ n∈ns,IV n)) (ns.length<=63) (0<=k) (k<=1000) (∀(p:au)(H':Hp),H p=none->iH H' p->aF H H'->Q (.ref p) H')
inductive zO(vs:List V)(H:Hp)(Q:VK)(_:XK):Prop|mk (p:au) (m:Int)(_:vs=[.ref p,.int m])(_:iH H p)(_:0<m)(_:m<1073741824)(_:∀(d:Int)(H':Hp),0<=d->d<m->iH H' p->dF p H H'->Q (.int d) H')
noncomputable def HN:List Nat:=(iQ 26).map (97+·)
noncomputable def vM(t:Nat):List Nat:=HN.drop t++HN.take t
noncomputable def zP(t sz pick k:Nat):List Nat :=
 if pick=0 then wC (1+k % 8) ((vM t).getD (k / 8) 0) else if pick=1 then (vM t).getD (k % 26) 0 :: ((vM t).drop 4).take sz else ((vM t).drop 4).take sz++[(vM t).getD (k % 26) 0]
noncomputable def adx(l:List (List Nat)):Bool:=decide l.Nodup && l.all λs=>decide (1<=s.length) && decide (s.length<=8) && s.all low
noncomputable def qL:List Nat:=[113,113,113,113,113,113,113,114]
noncomputable def qS:Str:=⟨qL.toArray⟩
theorem aoq:((iQ 26).all λt=>(iQ 8).all λsz=>(iQ 3).all λpick=>(iQ 12).all λk=>!decide (zP t sz pick k=qL))=true:=by decide +kernel
theorem aj1:((iQ 26).all λt=>(iQ 8).all λsz=>(iQ 3).all λpick=>adx ((iQ 12).map (zP t sz pick)))=true:=by decide +kernel
noncomputable def xX(t sz pick k:Nat):Str:=⟨(zP t sz pick k).toArray⟩
noncomputable def mR(t sz pick:Nat):List Str:=(iQ 12).map (xX t sz pick)
variable{pick:Nat}
theorem aoe{t sz:Nat}(ht:t<26)(hz:sz<8)(hp:pick<3):(mR t sz pick).Nodup/\∀ s∈mR t sz pick,fU s:=by have h:=fW.mp (fW.mp (fW.mp aj1 t (uI.mpr ht)) sz (uI.mpr hz)) pick (uI.mpr hp);unfold adx at h;obtain ⟨h1,h2⟩:=cB.mp h;have h1':=dB h1;constructor;unfold mR;rw [pU,yC] at h1' |-;refine h1'.imp λ{a b} z e=>z ?_;have:=jr (λs:Str=>s.cps.toList) e;simpa [xX] using this;intro s hs;obtain ⟨k,hk,rfl⟩:=cZ.mp hs;have h3:=fW.mp h2 (zP t sz pick k) (cZ.mpr ⟨k,hk,rfl⟩);obtain ⟨h4,h5⟩:=cB.mp h3;obtain ⟨h6,h7⟩:=cB.mp h4;refine ⟨?_,?_,λc hc=>fW.mp h5 c (by simpa [xX] using hc)⟩;have:=dB h6; simpa [xX,Aj] using this;have:=dB h7; simpa [xX,Aj] using this
theorem ae7{t sz:Nat}(ht:t<26)(hz:sz<8)(hp:pick<3):∀ s∈mR t sz pick,s≠qS:=by intro s hs e;obtain ⟨k,hk,rfl⟩:=cZ.mp hs;have h:=fW.mp (fW.mp (fW.mp (fW.mp aoq t (uI.mpr ht)) sz (uI.mpr hz)) pick (uI.mpr hp)) k hk;have:=jr (λs:Str=>s.cps.toList) e;have e2:zP t sz pick k=qL:=(by simpa [xX,qS] using this);rw [e2] at h;exact bO h (by decide)
noncomputable def abc:Str:="abcdefghijklmnopqrstuvwxyz"
theorem ail:abc.cps.toList=HN:=by decide +kernel
theorem Oi{t:Nat}(h:t<=26):(vM t).length=26:=by unfold vM;rw [dZ,jR,gR,show HN.length=26 by decide];omega
theorem Uo:abc.length=26:=by decide +kernel
theorem ahL{t:Nat}(ht:t<=26):(BX abc (some (t:Int)) none++BX abc none (some (t:Int))).cps.toList=vM t:=by rw [app_list,agT,V4];unfold JZ vM;rw [HT.uf,HT.Dh,Uo,ail,vI ht,lF (by rw [jR,show HN.length=26 by decide]; omega)]
theorem Vm{l:List Nat}{k:Int}(h0:0<=k)(h1:k<l.length):oV l k=some (l.getD k.toNat 0):=by obtain ⟨n,rfl⟩:=Br h0;refine oW ?_;have hn:n<l.length:=(by omega);rw [gD hn];simp [Gq,hn]
noncomputable def R5:Sp:=λvs H Q _=>∃(p:au),vs=[.ref p,.int 12]/\iH H p/\∀(l:au)(ss:List Str)(H':Hp),H l=none->H' l=some (.lst (ss.map V.str))->ss.length=12->ss.Nodup->(∀ s∈ss,fU s)->(∀ s∈ss,s≠qS)->iH H' p->dF p H H'->Q (.ref l) H'
noncomputable def Fe(r:Row):rZ:=.tuple [.str r.1,.int r.2]
noncomputable def CQ(rs:List Row):rZ:=.list (rs.map Fe)
theorem fU.ok(g:fU z):PyData.strOk z=true:=by unfold PyData.strOk;rw [Array.all_eq_true_iff_forall_mem];intro c hc;have h:=g.all c (by simpa using hc);unfold low at h;have h2:=dB (cB.mp h).2;exact cg (by omega)
theorem al9:∀{rs:List Row},(∀ r∈rs,fU r.1)->tZ (CQ rs)=true:=by intro rs h;have h1:yS (rs.map Fe)=true:=(by induction rs with| nil=>rfl| cons r rs ih =>rw [fM];unfold yS;rw [ih λq hq=>h q (iM _ hq),DR];unfold Fe Dd yS;have z:=(h r gU).ok;simp [Dd,yS,z]);have h2:BW (rs.map Fe)<=1:=(by clear h h1;induction rs with| nil=>exact dR _| cons r rs ih =>rw [fM];unfold BW;have e:CK (Fe r)=1:=(by simp [Fe,CK,BW]);rw [e];omega);unfold tZ CQ;rw [pF];refine ⟨?_,?_⟩;unfold Dd; exact h1;unfold CK; exact cg (by omega)
variable{K:bV}{a:au}{vs:List V}{rs:List Row}
theorem agd(ha:H a=some (.lst vs))(p:eX (je H) vs rs):Dp K H (.ref a) (CQ rs):=by refine .lst (aV.of ha) ?_;clear ha;induction p with| nil=>exact .nil| cons h _ ih =>obtain ⟨b,rfl,hb⟩:=h;exact .cons (.tup (aH.of hb) (.cons (.str _) (.cons (.int _) .nil))) ih
theorem agO(rs:List Row):yt (CQ rs) (.list [])=rs.isEmpty:=by cases rs with| nil=>simp [CQ,yt,Ck]| cons r rs=>simp [CQ,yt,Ck]
structure acK(K:bV)(x y:V)(H:Hp)(Q:VK):Prop where
 h:aaC K x y H Q
theorem RN(hu:X.A.units+64<cLine):cU X (gJ .NotEq) (acK X.K):=λao s aj H x y v u Q I rx ry h=>Ym hu ao s aj H x y v u Q I rx ry h.h
variable{Q:VK}
theorem PX{l:au}(ha:H a=some (.lst vs))(p:eX (je H) vs rs)(g:∀ r∈rs,fU r.1)(hl:H l=some (.lst []))(q:Q (.bl (!rs.isEmpty)) H):acK K (.ref a) (.ref l) H Q :=
 ⟨CQ rs,.list [],agd ha p,.lst (aV.of hl) .nil,al9 g,rfl,by rw [agO]; exact q⟩
variable{bM:Type}
theorem acG{xs:List bM}{x:bM}:oV (xs++[x]) (-1)=some x:=by unfold oV zG;have e:(xs++[x]).length=xs.length+1:=(by simp);rw [e,aZ (by decide),bI (by omega)];have e2:((-1:Int)+((xs.length+1:Nat):Int)).toNat=xs.length:=(by omega);rw [e2];simp
structure HS(H0:Hp)(p R D:au)(ss:List Str)(room:Int)(H:Hp)(vr:List V)(kvs:List (Key × V))(runs:List (List Row))(m:Nat):Prop where
 pack:iH H p
 same:dF p H0 H
 hR:H R=some (.lst vr)
 pR:eX (oH H) vr runs
 hD:H D=some (.dK kvs)
 keys:kvs.map (·.1)=(ss.take m).map bR
 vals:∀ n∈ss.take m,∃ i:Int,fO kvs (.inr n)=some (.int i)
 le:m<=ss.length
 rm:(m:Int)<=room\/m=0
 good:∀ r∈runs,yO r
variable{p:au}{H':Hp}
theorem dF.dH(hp:iH H p)(s:dF p H H'):jc H H':=λb xs e=>s b _ (λz=>by obtain ⟨n,e',_⟩:=hp; rw [z,e'] at e; cases e) e
variable{H0:Hp}{R D:au}{ss:List Str}{room:Int}{vr:List V}{runs:List (List Row)}{m:Nat}
theorem HS.step(h:HS H0 p R D ss room H vr kvs runs m)(nR:R≠p)(nD:D≠p)(pk:iH H' p)(s:dF p H H'):HS H0 p R D ss room H' vr kvs runs m :=
 ⟨pk,h.same.aA s,s _ _ nR h.hR,j4 (λ_ _ z=>z.ts (dF.dH h.pack s)) h.pR,s _ _ nD h.hD,h.keys,h.vals,h.le,h.rm,h.good⟩
variable{q:au}{o:HO}
theorem iH.new(h:iH H p)(hq:H q=none):iH (upd H q o) p:=by obtain ⟨n,e,n0⟩:=h;exact ⟨n,by rw [aW (dN e hq)]; exact e,n0⟩
theorem iH.put(h:iH H p)(hq:q≠p):iH (upd H q o) p:=by obtain ⟨n,e,n0⟩:=h;exact ⟨n,by rw [aW (bW hq)]; exact e,n0⟩
theorem HS.new(h:HS H0 p R D ss room H vr kvs runs m)(nR:R≠p)(nD:D≠p)(hq:H q=none):HS H0 p R D ss room (upd H q o) vr kvs runs m :=
 h.step nR nD (h.pack.new hq) ((dF.of (aF.refl H)).new hq)
theorem Xu{k:Key}(h:k ∉ kvs.map (·.1)):eV kvs k v=kvs++[(k,v)]:=by unfold eV;rw [aZ];intro z;obtain ⟨x,hx,e⟩:=XM.mp z;exact h (cZ.mpr ⟨x,hx,dB e⟩)
variable{n:Str}
theorem Uu(hm:ss[m]?=some n):ss.take (m+1)=ss.take m++[n]:=by rw [fZ,hm]; rfl
theorem Vs(nd:ss.Nodup)(hm:ss[m]?=some n):n ∉ ss.take m:=λz=>by
 obtain ⟨j,hj,ej⟩:=aaG.mp z;obtain ⟨hl,el⟩:=jC.mp hm;rw [gR] at hj;rw [aaN] at ej;have:=(T3 (i:=j) (j:=m) (h₀:=by omega) (h₁:=hl) nd).mp (ej.aA el.symm);omega
theorem HS.put{L tp:au}{vl:List V}{mo rd:Int}(h:HS H0 p R D ss room H vr kvs runs m)(nR:R≠p)(nD:D≠p)(nRD:R≠D)(nL:L≠p)(nLR:L≠R)(nLD:L≠D)(f0:H0 D=none)(fL:H0 L=none)(nd:ss.Nodup)(hm:ss[m]?=some n)(hr:(m:Int)<room)(hL:H L=some (.lst vl))(pl:eX (je H) vl rs)(ht:upd H D (.dK (eV kvs (.inr n) (.int mo))) tp=none): HS H0 p R D ss room (upd (upd (upd H D (.dK (eV kvs (.inr n) (.int mo)))) tp (.tup [.str n,.int rd])) L (.lst (vl++[.ref tp]))) vr (eV kvs (.inr n) (.int mo)) runs (m+1) /\ eX (je (upd (upd (upd H D (.dK (eV kvs (.inr n) (.int mo)))) tp (.tup [.str n,.int rd])) L (.lst (vl++[.ref tp])))) (vl++[.ref tp]) (rs++[(n,rd)]):=by have t1:jc H (upd H D (.dK (eV kvs (.inr n) (.int mo)))):=(jc.refl H).put h.hD (λ_ z=>nomatch z);have t2:jc H (upd (upd H D (.dK (eV kvs (.inr n) (.int mo)))) tp (.tup [.str n,.int rd])):=t1.new ht;have hL1:upd H D (.dK (eV kvs (.inr n) (.int mo))) L=some (.lst vl):=(by rw [aW nLD]; exact hL);have nLt:L≠tp:=dN hL1 ht;have hL2:upd (upd H D (.dK (eV kvs (.inr n) (.int mo)))) tp (.tup [.str n,.int rd]) L=some (.lst vl):=(by rw [aW nLt]; exact hL1);have t3:=t2.put (o:=.lst (vl++[.ref tp])) hL2 (λ_ z=>nomatch z);have hle:m<ss.length:=(jC.mp hm).1;have amT:(bR n:Key) ∉ kvs.map (·.1):=λz=>(by rw [h.keys] at z;obtain ⟨y,hy,e⟩:=cZ.mp z;exact Vs nd hm (by rw [<- rD e]; exact hy));refine ⟨⟨((h.pack.put nD).new ht).put nL,?_,?_,j4 (λ_ _ z=>z.ts t3) h.pR,?_,?_,?_,hle,.inl (by omega),h.good⟩,?_⟩;intro b o hb e;have n1:b≠D:=dN e f0;have n2:b≠L:=dN e fL;have e1:upd H D (.dK (eV kvs (.inr n) (.int mo))) b=some o:=(by rw [aW n1]; exact h.same b o hb e);rw [aW n2,aW (dN e1 ht)];exact e1;have e1:upd H D (.dK (eV kvs (.inr n) (.int mo))) R=some (.lst vr):=(by rw [aW nRD]; exact h.hR);rw [aW (bW nLR),aW (dN e1 ht)];exact e1;have e1:upd H D (.dK (eV kvs (.inr n) (.int mo))) D=some (.dK (eV kvs (.inr n) (.int mo))):=aX;rw [aW (bW nLD),aW (dN e1 ht)];exact e1;rw [Xu amT,jq,h.keys,Uu hm,jq]; rfl;intro x hx;rw [Uu hm] at hx;rw [Oo];by_cases e:(bR x:Key)=bR n;exact ⟨mo,bI e⟩;rw [aZ e];rcases iC.mp hx with z | z;exact h.vals x z;exact bO (by rw [lg.mp z]) e;refine Aw (j4 (λ_ _ z=>z.ts t3) pl) (.cons ⟨tp,rfl,?_⟩ .nil);rw [aW (bW nLt),aX]
theorem aiE{rd:Int}(h:(rs.map yh).Pairwise (·<·))(g:∀ r∈rs,r.2<rd):((rs++[(n,rd)]).map yh).Pairwise (·<·):=by rw [jq,VR];refine ⟨h,Lg _ _,λa ha b hb=>?_⟩;obtain ⟨r,hr,rfl⟩:=cZ.mp ha;have e:b=rd:=(by simpa using hb);rw [e]; exact g r hr
variable{d:Int}
theorem ab1{a b c e:Int}(h0:0<=d)(h4:d<4)(ha:0<=a/\a<=300)(hb:0<=b/\b<=300)(hc:0<=c/\c<=300)(he:0<=e/\e<=300):∃ w:Int,oV [V.int a,.int b,.int c,.int e] d=some (.int w)/\0<=w/\w<=300:=by
 obtain ⟨n,rfl⟩:=Br h0
 match n,h4 with
 | 0,_=>exact ⟨a,rfl,ha⟩
 | 1,_=>exact ⟨b,rfl,hb⟩
 | 2,_=>exact ⟨c,rfl,hc⟩
 | 3,_=>exact ⟨e,rfl,he⟩
 | n+4,h=>exact bO h (by omega)
noncomputable def NvR(p ln R D L:au)(nm:Str)(room low wide bZ qZ mo:Int)(m:Nat)(x11 x14:V)(H:Hp)(ss:List Str)(vr vl:List V)(kvs:List (Key × V))(runs:List (List Row))(rs:List Row)(F:Int->Prop):St->Hp->Prop:=fun bA H'=>∃ rd:Int,bA=[some (.ref p),some (.str nm),some (.ref ln),some (.int room),some (.int low),some (.int wide),some (.int bZ),some (.int mo),some (.ref R),some (.ref D),some (.int (m:Int)),some x11,some (.int (low+qZ)),some (.ref L),some x14,some (.int rd)]/\HS H p R D ss room H' vr kvs runs m/\H' L=some (.lst vl)/\eX (je H') vl rs/\F rd
theorem anw:cU X (gJ .NotEq) (fS λi j=>.bl (!decide (i=j))):=by
 intro ao s aj H x y v u Q I rx ry q;refine ams ao s aj H x y v u Q I rx ry ?_
 cases x <;> cases y <;> first
   | exact (show False from q).elim
   | (refine ⟨rfl,?_⟩
      rename_i i j
      have e:decide (V.str i=V.str j)=decide (i=j):=by rw [lY]; simp
      rw [e]; exact q)
theorem apo{κ:Type}[DecidableEq κ]{kvs:List (κ × V)}{k:κ}{v:V}{x:κ × V}(h:x∈eV kvs k v):x=(k,v)\/x∈kvs:=by unfold eV at h;split at h;obtain ⟨y,hy,e⟩:=cZ.mp h;split at e;rename_i c;exact .inl (by rw [<- e,c]);exact .inr (by rw [<- e]; exact hy);rcases iC.mp h with z | z;exact .inr z;exact .inl (lg.mp z)
theorem afd{κ:Type}[DecidableEq κ]{kvs:List (κ × V)}{k:κ}(h:k∈kvs.map (·.1)):∃ v,fO kvs k=some v/\(k,v)∈kvs:=by induction kvs with| nil=>simp at h| cons x r ih =>by_cases e:x.1=k;refine ⟨x.2,tW e,?_⟩;rw [<- e]; exact gU;rw [fM] at h;rcases dU.mp h with z | z;exact bO z.symm e;obtain ⟨v,h1,h2⟩:=ih z;exact ⟨v,by rw [ud e]; exact h1,iM _ h2⟩
noncomputable def xZ(kvs:List (Key × V))(ps:List (Str × Str)):Prop:=∀ p∈ps,fO kvs (.inr p.1)=some (.str p.2)
theorem xZ.put{p:Str × Str}(h:xZ kvs ps)(n:∀ q∈ps,q.1≠p.1):xZ (eV kvs (.inr p.1) (.str p.2)) (ps++[p]):=λq hq=>by
 rw [Oo];rcases iC.mp hq with z | z
 . rw [aZ (λe=>n q z (rD e))]; exact h q z
 . rw [lg.mp z,bI rfl]
noncomputable def Ko(hs:List bK)(H:Hp)(kf:List (List Key × V)):Prop:=∀ kv∈kf,∃ l:gY,kv.1=kP l.1/\wV H kv.2 l/\KY hs l
variable{hs:List bK}
theorem Ko.keys:∀{kf:List (List Key × V)},Ko hs H kf->∃ ks:List (Str × Str),kf.map (·.1)=ks.map kP/\ks.length=kf.length
 | [],_=>⟨[],rfl,rfl⟩
 | kv :: r,h=>by obtain ⟨l,e,_⟩:=h kv gU;obtain ⟨ks,e2,e3⟩:=Ko.keys (kf:=r) λx hx=>h x (iM _ hx);exact ⟨l.1 :: ks,by rw [fM,fM,e,e2],by simp [e3]⟩
noncomputable def gB(nm:Str)(r:List Row):List (Str × Str):=r.map λx=>(x.1,nm)
theorem Mr(h:bK):jz h=h.runs.flatMap (gB h.name):=by unfold jz iT gB;rw [List.map_flatten,Kq]
theorem aec(ow:xZ kvs (cJ hs))(h:n∈cG hs):∃ hh∈hs,n∈cV hh/\fO kvs (.inr n)=some (.str hh.name):=by obtain ⟨hh,m,hn⟩:=sy.mp h;refine ⟨hh,m,hn,ow (n,hh.name) (sy.mpr ⟨hh,m,?_⟩)⟩;obtain ⟨r,hr,er⟩:=cZ.mp hn;exact cZ.mpr ⟨r,hr,by rw [er]⟩
theorem aed(g:∀ h∈hs,pW h)(h:n∈cG hs):fU n:=by obtain ⟨hh,m,hn⟩:=sy.mp h;obtain ⟨r,hr,er⟩:=cZ.mp hn;obtain ⟨run,hrun,hr2⟩:=Bh.mp hr;rw [<- er];exact ((g hh m).runs run hrun).names r hr2
noncomputable def PvC(p lh dh O:au)(hs:List bK)(H:Hp):Nat->St->Hp->Prop:=λi aj H'=>vZ λ(kv:List (Key × V))(o4 o5 o6 o7:Option V)=>jJ (aj=[some (.ref p),some (.ref lh),some (.ref dh),some (.ref O),o4,o5,o6,o7,none,none,none,none,none,none,none,none]) (H' O=some (.dK kv)) (xZ kv (cJ (hs.take i))) (kv.length<=(cJ (hs.take i)).length) (aF H H')
noncomputable def PvD(p lh dh O a:au)(hs:List bK)(hh:bK)(i:Nat)(H:Hp):Nat->St->Hp->Prop:=λj aj H'=>qN λ(kv:List (Key × V))(o5 o6 o7:Option V)=>jJ (aj=[some (.ref p),some (.ref lh),some (.ref dh),some (.ref O),some (.ref a),o5,o6,o7,none,none,none,none,none,none,none,none]) (H' O=some (.dK kv)) (xZ kv (cJ (hs.take i)++(hh.runs.take j).flatMap (gB hh.name))) (kv.length<=(cJ (hs.take i)++(hh.runs.take j).flatMap (gB hh.name)).length) (aF H H')
noncomputable def PvE(p lh dh O a c2:au)(hs:List bK)(hh:bK)(i j:Nat)(r:List Row)(H:Hp):Nat->St->Hp->Prop:=λt aj H'=>sY λ(kv:List (Key × V))(o6 o7:Option V)=>jJ (aj=[some (.ref p),some (.ref lh),some (.ref dh),some (.ref O),some (.ref a),some (.ref c2),o6,o7,none,none,none,none,none,none,none,none]) (H' O=some (.dK kv)) (xZ kv (cJ (hs.take i)++(hh.runs.take j).flatMap (gB hh.name)++(gB hh.name r).take t)) (kv.length<=(cJ (hs.take i)++(hh.runs.take j).flatMap (gB hh.name)++(gB hh.name r).take t).length) (aF H H')
noncomputable def xM:List Str:=["me","you","abcdefgh","z"]
theorem apz:∀ s∈xM,fU s:=by have h:xM.all (λs=>decide (1<=s.length) && decide (s.length<=8) && s.cps.toList.all low)=true:=(by decide +kernel);intro s hs;obtain ⟨h1,h2⟩:=cB.mp (fW.mp h s hs);obtain ⟨h3,h4⟩:=cB.mp h1;exact ⟨dB h3,dB h4,λc hc=>fW.mp h2 c hc⟩
theorem akk:xM.Nodup:=by decide +kernel
theorem Lf{Ha Hb:Hp}(s:aF H Ha)(n:H p=none)(b:dF p Ha Hb):aF H Hb:=λc o e=>b c o (λz=>by rw [z,n] at e; cases e) (s c o e)
theorem T9:∀(more kvs:List (Key × V)),(more.map (·.1)).Nodup->(∀ k∈more.map (·.1),k ∉ kvs.map (·.1))->um kvs more=kvs++more
 | [],kvs,_,_=>by rw [Cv]; rfl
 | x :: r,kvs,nd,dj=>by rw [fM] at nd dj;have nd':=yW.mp nd;show um (eV kvs x.1 x.2) r=_;rw [Xu (dj x.1 gU),T9 r _ nd'.2,pQ];rfl;intro k hk z;rw [jq] at z;rcases iC.mp z with z | z;exact dj k (iM _ hk) z;have:k=x.1:=(by simpa using z);exact nd'.1 (by rw [<- this]; exact hk)
theorem Qm{more:List (Key × V)}{k:Key}:fO (kvs++more) k=(fO kvs k).or (fO more k):=by unfold fO;rw [aby];cases kvs.find? (λkv=>decide (kv.1=k)) <;> rfl
theorem Zc{k:Key}(h:k ∉ kvs.map (·.1)):fO kvs k=none:=by cases e:fO kvs k with| none=>rfl| some v=>exact bO (agp e) h
noncomputable def iB(r:Row):Da:=.tup [.str r.1,.int r.2]
noncomputable def oR(rs:List Row):Da:=.tup (rs.map iB)
noncomputable def vJ(rs:List (List Row)):Da:=.tup (rs.map oR)
noncomputable def jK(h:bK):Da:=.tup [.str h.name,.int h.low,.int h.high,.int h.bZ,vJ h.runs]
noncomputable def uM(hs:List bK):Da:=.tup (hs.map jK)
noncomputable def Bv:Option Int->Da
 | none=>.non
 | some i=>.int i
noncomputable def j7(l:gY):Da:=.tup [.str l.1.1,.str l.1.2,.int l.2.1,Bv l.2.2]
noncomputable def uF(ls:List gY):Da:=.tup (ls.map j7)
theorem fU.da(g:fU z):bD H (.str z) (.str z):=.str z (by have:=g.hi; have dO:=cQ; omega)
theorem Jx{R:V->bM->Prop}{f:bM->Da}{xs:List bM}(p:eX R vs xs)(h:∀ v x,x∈xs->R v x->bD H v (f x)):cH H vs (xs.map f):=by induction p with| nil=>exact .nil| cons r _ ih=>exact .cons (h _ _ (gU ..) r) (ih λv x hx=>h v x (iM _ hx))
theorem je.da{r:Row}(h:je H v r)(g:fU r.1):bD H v (iB r):=by obtain ⟨a,rfl,e⟩:=h;exact .tup e (show 2<=25 by decide) (.cons g.da (.cons (.int _) .nil))
theorem oH.da{r:List Row}(h:oH H v r)(g:yO r):bD H v (oR r):=by obtain ⟨a,vs,rfl,e,p⟩:=h;exact .tup e (by rw [p.length]; exact g.few) (Jx p λv x hx q=>q.da (g.names x hx))
theorem DK.da{rs:List (List Row)}(h:DK H v rs)(few:rs.length<=25)(g:∀ r∈rs,yO r):bD H v (vJ rs):=by obtain ⟨a,vs,rfl,e,p⟩:=h;exact .tup e (by rw [p.length]; exact few) (Jx p λv x hx q=>q.da (g x hx))
theorem qD.da{h:bK}(a:qD H v h)(g:pW h):bD H v (jK h):=by obtain ⟨a,b,rfl,e,p⟩:=a;exact .tup e (show 5<=25 by decide) (.cons g.name.da (.cons (.int _) (.cons (.int _) (.cons (.int _) (.cons (p.da g.few g.runs) .nil)))))
theorem vG.da(a:vG H v hs)(few:hs.length<=25)(g:∀ h∈hs,pW h):bD H v (uM hs):=by obtain ⟨a,vs,rfl,e,p⟩:=a;exact .tup e (by rw [p.length]; exact few) (Jx p λv x hx q=>q.da (g x hx))
theorem alL{m:Option Int}:bD H (zX m) (Bv m):=by cases m with| none=>exact .non| some i=>exact .int i
theorem wV.da{l:gY}(h:wV H v l)(g1:fU l.1.1)(g2:fU l.1.2):bD H v (j7 l):=by obtain ⟨a,rfl,e⟩:=h;exact .tup e (show 4<=25 by decide) (.cons g1.da (.cons g2.da (.cons (.int _) (.cons alL .nil))))
variable{ls:List gY}
theorem Bs.da(h:Bs H v ls)(few:ls.length<=25)(g:∀ l∈ls,fU l.1.1/\fU l.1.2):bD H v (uF ls):=by obtain ⟨a,vs,rfl,e,p⟩:=h;exact .tup e (by rw [p.length]; exact few) (Jx p λv x hx q=>q.da (g x hx).1 (g x hx).2)
theorem QX{bM:Type}{R:bM->bM->Prop}:∀{l:List bM},l.Pairwise R->∀ p∈j8 l,R p.1 p.2
 | [],_,p,hp=>by simp [j8] at hp
 | [x],_,p,hp=>by simp [j8] at hp
 | x :: y :: l,h,p,hp=>by have e:j8 (x :: y :: l)=(x,y) :: j8 (y :: l):=rfl;rw [e] at hp;rcases dU.mp hp with z | z;rw [z]; exact (Cq.mp h).1 y (gU ..);exact QX (Cq.mp h).2 p z
theorem amu(h:is.Pairwise (·<·)):sJ is=true:=fW.mpr λp hp=>cg (QX h p hp)
theorem agQ{ks:List (Str × Str)}(h:ks.Pairwise (λa b=>mF a b=true)):Ag ks=true:=fW.mpr λp hp=>QX h p hp
theorem YZ{r:Row}(g:fU r.1):eU (iB r)=true:=by show (lJ (.str r.1) && gW (.int r.2))=true;rw [show lJ (.str r.1)=true from g.jN];rfl
theorem aoL(g:yO rs):nU (oR rs)=true:=by show (!(rs.map iB).isEmpty && ((rs.map iB).all eU && sJ ((rs.map iB).map λx=>intD (uT x))))=true;have h1:(rs.map iB).isEmpty=false:=(by have:=g.ne;cases rs with| nil=>exact bO rfl this| cons x xs=>rfl);have h2:(rs.map iB).all eU=true:=fW.mpr λd hd=>(by obtain ⟨r,hr,rfl⟩:=cZ.mp hd;exact YZ (g.names r hr));have h3:((rs.map iB).map λx=>intD (uT x))=rs.map yh:=(by rw [nA]; rfl);rw [h1,h2,h3,amu g.rise];rfl
theorem ahD{rs:List (List Row)}(g:∀ r∈rs,yO r):Dc (vJ rs)=true:=by show (rs.map oR).all nU=true;exact fW.mpr λd hd=>by obtain ⟨r,hr,rfl⟩:=cZ.mp hd;exact aoL (g r hr)
theorem ahO{l h:Int}(g:fU n)(hw:l<=h)(hd:0<=d):ql (.str n) (.int l) (.int h) (.int d)=true:=by unfold ql;rw [show lJ (.str n)=true from g.jN];show (true && ((true && (true && true)) && (decide (l<=h) && decide (0<=d))))=true;rw [cg hw,cg hd];rfl
theorem ali{h:bK}(g:pW h):jl (jK h)=true:=by show (ql (.str h.name) (.int h.low) (.int h.high) (.int h.bZ) && Dc (vJ h.runs))=true;rw [ahO g.name g.wide g.bZ,ahD g.runs];rfl
theorem apr(r:List Row):runOf (oR r)=r:=by show (r.map iB).map rowOf=r;rw [nA];exact M6 r
theorem ak3(h:bK):fX (jK h)=h:=by show bK.mk h.name h.low h.high h.bZ ((h.runs.map oR).map runOf)=h;rw [nA,show runOf∘oR=id from funext apr,M6]
theorem abx(hs:List bK):(hs.map jK).map fX=hs:=by rw [nA,show fX∘jK=id from funext ak3,M6]
theorem ao5(g:tK hs):yg (uM hs)=true:=by show (decide (1<=(hs.map jK).length) && (decide ((hs.map jK).length<=6) && ((hs.map jK).all jl && (decide (((hs.map jK).map fX).map bK.name).Nodup && (decide (cG ((hs.map jK).map fX)).Nodup && decide ((cG ((hs.map jK).map fX)).length<=24))))))=true;have h2:(hs.map jK).all jl=true:=fW.mpr λd hd=>(by obtain ⟨r,hr,rfl⟩:=cZ.mp hd;exact ali (g.all r hr));rw [abx,h2,aL,cg g.lo,cg g.hi,cg g.names,cg g.rows,cg g.few];rfl
theorem aji{l:gY}(g:KY hs l):lB (j7 l)=true:=by obtain ⟨⟨s,t⟩,le,m⟩:=l;have g1:=g.sent.jN;have g2:=g.taken.jN;have g3:=g.least;cases m with| none=>simp [j7,lB,Bv,Hs,lJ,gW,intD,g1,g2,g3]| some m =>have g4:=g.most m rfl;simp [j7,lB,Bv,Hs,lJ,gW,intD,g1,g2,g3,g4]
theorem ahx{x:Str}(nd:(ps.map dw).Nodup)(h:(n,x)∈ps):oZ ps n=some x:=by unfold oZ;induction ps with| nil=>simp at h| cons p ps ih =>rw [fM,yW] at nd;by_cases e:p.1=n;rw [List.find?_cons_of_pos (by simp [e])];rcases dU.mp h with z | z;rw [<- z]; rfl;exact bO (cZ.mpr ⟨_,z,e.symm⟩) nd.1;rw [abE (by simp [e])];rcases dU.mp h with z | z;rw [<- z] at e; exact bO rfl e;exact ih nd.2 z
theorem owner(nd:(cG hs).Nodup){h:bK}(hh:h∈hs)(hn:n∈cV h):oZ (cJ hs) n=some h.name:=by refine ahx (by rw [CW]; exact nd) ?_;obtain ⟨r,hr,e⟩:=cZ.mp hn;exact sy.mpr ⟨h,hh,cZ.mpr ⟨r,hr,by rw [e]⟩⟩
theorem aiH(gh:tK hs)(g:Bo hs ls):Cg hs (uF ls)=true:=by show (decide ((ls.map j7).length<=24) && ((ls.map j7).all lB && ((ls.map j7).all (ux hs) && Ag ((ls.map j7).map keyOf))))=true;have h2:(ls.map j7).all lB=true:=fW.mpr λd hd=>(by obtain ⟨r,hr,rfl⟩:=cZ.mp hd;exact aji (g.all r hr));have h3:(ls.map j7).all (ux hs)=true:=fW.mpr λd hd=>(by obtain ⟨l,hr,rfl⟩:=cZ.mp hd;obtain ⟨h1,m1,h2,m2,n1,n2,ne⟩:=(g.all l hr).R4;unfold ux;rw [show (keyOf (j7 l)).1=l.1.1 from rfl,show (keyOf (j7 l)).2=l.1.2 from rfl,owner gh.rows m1 n1,owner gh.rows m2 n2];show (!decide (h1.name=h2.name))=true;rw [fP ne]; rfl);have h4:(ls.map j7).map keyOf=ls.map dw:=(by rw [nA]; rfl);rw [h2,h3,h4,agQ g.rise,aL,cg g.few];rfl
theorem ahE(gh:tK hs)(g:Bo hs ls):Bc (.tup [uM hs,uF ls])=true:=by show (yg (uM hs) && Cg ((hs.map jK).map fX) (uF ls))=true;rw [abx,ao5 gh,aiH gh g];rfl
theorem uz.da(h:uz H v hs ls)(gh:tK hs)(g:Bo hs ls):bD H v (.tup [uM hs,uF ls]):=by obtain ⟨a,x,y,rfl,e,h1,h2⟩:=h;exact .tup e (show 2<=25 by decide) (.cons (h1.da (by have:=gh.hi; omega) gh.all) (.cons (h2.da (by have:=g.few; omega) λl hl=>⟨(g.all l hl).sent,(g.all l hl).taken⟩) .nil))
structure TD(te:TE)(aj:St)(H:Hp)(d:Da):Prop where
 r:∀ H1,aF H H1->∀ Q:VK,(∀ v H2,aF H1 H2->bD H2 v d->Q v H2)->te aj H1 Q
variable{te:TE}{aj:St}{d:Da}{H1:Hp}
theorem TD.use(h:TD te aj H d)(s:aF H H1)(q:∀ v H2,aF H1 H2->bD H2 v d->Q v H2):te aj H1 Q:=h.r H1 s Q q
structure Ah(ta:TA)(aj:St)(H:Hp)(ds:List Da):Prop where
 r:∀ H1,aF H H1->∀ Q:List V->Hp->Prop,(∀ vs H2,aF H1 H2->cH H2 vs ds->Q vs H2)->ta aj H1 Q
structure yr(tl:TO)(aj:St)(H:Hp)(o:Option Int):Prop where
 r:∀ H1,aF H H1->∀ Q:Option Int->Hp->Prop,(∀ H2,aF H1 H2->Q o H2)->tl aj H1 Q
theorem cH.app:∀{vs ws:List V}{xs ys:List Da},cH H vs xs->cH H ws ys->cH H (vs++ws) (xs++ys)
 | _,_,_,_,.nil,q=>q
 | _,_,_,_,.cons h r,q=>.cons h (cH.app r q)
theorem cH.aey:∀{vs:List V}{xs:List Da}(n:Nat),cH H vs xs->cH H (vs.take n) (xs.take n)
 | _,_,0,_=>by rw [Bf,Bf]; exact .nil
 | _,_,n+1,.nil=>.nil
 | _,_,n+1,.cons h r=>.cons h (cH.aey n r)
theorem cH.abG:∀{vs:List V}{xs:List Da}(n:Nat),cH H vs xs->cH H (vs.drop n) (xs.drop n)
 | _,_,0,h=>by rw [Fz,Fz]; exact h
 | _,_,n+1,.nil=>.nil
 | _,_,n+1,.cons h r=>cH.abG n r
theorem cH.rev:∀{vs:List V}{xs:List Da},cH H vs xs->cH H vs.reverse xs.reverse
 | _,_,.nil=>.nil
 | _,_,.cons h r=>by rw [JW,JW]; exact cH.app (cH.rev r) (.cons h .nil)
variable{i:Int}
theorem pD:TD (tC (.int i)) aj H (.int i):=⟨λH1 _ _ q=>q _ H1 (aF.refl _) (.int i)⟩
theorem Xd{b:Bool}:TD (tC (.bl b)) aj H (.bl b):=⟨λH1 _ _ q=>q _ H1 (aF.refl _) (.bl b)⟩
theorem Ld:TD (tC .non) aj H .non:=⟨λH1 _ _ q=>q _ H1 (aF.refl _) .non⟩
theorem Gw(h:z.length<=1000):TD (tC (.str z)) aj H (.str z):=⟨λH1 _ _ q=>q _ H1 (aF.refl _) (.str z (by have dO:=cQ; omega))⟩
theorem yX{k:Nat}(e:aj[k]?=some (some v))(h:bD H v d):TD (tV k) aj H d:=⟨λH1 s Q q=>by
 unfold tV;rw [e]
 exact q v H1 (aF.refl _) (h.same s)⟩
variable{r:St}
theorem Z5(h:bD H v d):TD (tV 0) (some v :: r) H d:=yX rfl h
variable{o0:Option V}
theorem jm(h:bD H v d):TD (tV 1) (o0 :: some v :: r) H d:=yX rfl h
variable{o1 o2:Option V}
theorem Yp(h:bD H v d):TD (tV 3) (o0 :: o1 :: o2 :: some v :: r) H d:=yX rfl h
variable{o3 o4:Option V}
theorem wX(h:bD H v d):TD (tV 5) (o0 :: o1 :: o2 :: o3 :: o4 :: some v :: r) H d:=yX rfl h
variable{o5:Option V}
theorem aiI(h:bD H v d):TD (tV 6) (o0 :: o1 :: o2 :: o3 :: o4 :: o5 :: some v :: r) H d:=yX rfl h
variable{o6:Option V}
theorem akG(h:bD H v d):TD (tV 7) (o0 :: o1 :: o2 :: o3 :: o4 :: o5 :: o6 :: some v :: r) H d:=yX rfl h
variable{o7:Option V}
theorem ajQ(h:bD H v d):TD (tV 8) (o0 :: o1 :: o2 :: o3 :: o4 :: o5 :: o6 :: o7 :: some v :: r) H d:=yX rfl h
variable{o8 o9:Option V}
theorem GP(h:bD H v d):TD (tV 10) (o0 :: o1 :: o2 :: o3 :: o4 :: o5 :: o6 :: o7 :: o8 :: o9 :: some v :: r) H d:=yX rfl h
theorem acO{jw:Option V}(h:bD H v d):TD (tV 11) (o0 :: o1 :: o2 :: o3 :: o4 :: o5 :: o6 :: o7 :: o8 :: o9 :: jw :: some v :: r) H d:=yX rfl h
theorem ai9{r:V->Hp->VK->Prop}(hr:r=λx H Q=>match x with | .int i=>Q (.int (-i)) H | _=>False)(h:TD te aj H (.int i)):TD (tUn r te) aj H (.int (-i)):=by subst hr;exact ⟨λH1 s Q q=>h.r H1 s _ λv H2 s2 hv=>by cases hv; exact q _ H2 s2 (.int _)⟩
theorem nj:Ah GR aj H []:=⟨λH1 _ _ q=>q [] H1 (aF.refl _) .nil⟩
variable{ds:List Da}
theorem fj{ts:TA}(h:TD te aj H d)(r:Ah ts aj H ds):Ah (JM te ts) aj H (d :: ds):=⟨λH1 s Q q =>
 h.r H1 s _ λv H2 s2 hv=>r.r H2 (s.aA s2) _ λvs H3 s3 hvs=>q _ H3 (s2.aA s3) (.cons (hv.same s3) hvs)⟩
theorem zA{ts:TA}(h:Ah ts aj H ds)(few:ds.length<=25):TD (ady ts) aj H (.tup ds):=⟨λH1 s Q q =>
 h.r H1 s _ λvs H2 s2 hvs=>⟨by have dO:=cQ; have:=hvs.len; omega,λp hp=>q _ _ (s2.upd hp) (.tup aX (by rw [hvs.len]; exact few) (hvs.same ((aF.refl H2).upd hp)))⟩⟩
theorem R9{ts:TA}(h:Ah ts aj H ds)(few:ds.length<=25):TD (DX ts) aj H .oth:=⟨λH1 s Q q =>
 h.r H1 s _ λvs H2 s2 hvs=>⟨by have dO:=cQ; have:=hvs.len; omega,λp hp=>q _ _ (s2.upd hp) (.lst aX)⟩⟩
theorem ak7:TD Z2 aj H .oth:=⟨λH1 _ _ q p hp=>q _ _ ((aF.refl H1).upd hp) (.uh aX)⟩
variable{ta tb:TE}{j:Int}
theorem DW(ha:TD ta aj H (.int i))(hb:TD tb aj H (.int j)):TD (rQ (fI λi j=>.int (i+j)) ta tb) aj H (.int (i+j)):=⟨λH1 s Q q =>
 ha.r H1 s _ λv H2 s2 hv=>by
   cases hv
   exact hb.r H2 (s.aA s2) _ λv H3 s3 hv=>by cases hv; exact q _ H3 (s2.aA s3) (.int _)⟩
theorem Vh{k:Nat}(ha:TD ta aj H (.int (k:Int))):TD (rQ (fI λi j=>.int (i+j)) ta (tC (.int 1))) aj H (.int ((k+1:Nat):Int)):=DW ha pD
theorem aea(ha:TD ta aj H (.int i))(hb:TD tb aj H (.int j)):TD (rQ (fI λi j=>.int (i-j)) ta tb) aj H (.int (i-j)):=⟨λH1 s Q q =>
 ha.r H1 s _ λv H2 s2 hv=>by
   cases hv
   exact hb.r H2 (s.aA s2) _ λv H3 s3 hv=>by cases hv; exact q _ H3 (s2.aA s3) (.int _)⟩
variable{xs ys:List Da}
theorem Dg(ha:TD ta aj H (.tup xs))(hb:TD tb aj H (.tup ys))(few:xs.length+ys.length<=25):TD (rQ Rw ta tb) aj H (.tup (xs++ys)):=⟨λH1 s Q q =>
 ha.r H1 s _ λv H2 s2 hv=>hb.r H2 (s.aA s2) _ λw H3 s3 hw=>by
   obtain ⟨a,vs,rfl,ea,la,ra⟩:=(hv.same s3).dW;obtain ⟨b,ws,rfl,eb,lb,rb⟩:=hw.dW;have dO:=cQ;have l1:=ra.len;have l2:=rb.len
   exact ⟨a,b,vs,ws,rfl,rfl,ea,eb,by omega,λp H4 hp s4=>q _ H4 ((s2.aA s3).aA s4) (.tup hp (by rw [dZ]; omega) ((ra.app rb).same s4))⟩⟩
theorem Ar:yr Oe aj H none:=⟨λH1 _ _ q=>q H1 (aF.refl _)⟩
theorem oE(h:TD te aj H (.int i)):yr (aad te) aj H (some i):=⟨λH1 s Q q=>h.r H1 s _ λv H2 s2 hv=>by cases hv; exact q H2 s2⟩
variable{tl th:TO}
theorem Wn{lo hi:Option Int}(h:TD te aj H (.tup xs))(hl:yr tl aj H lo)(hh:yr th aj H hi):TD (tSl SlA te tl th) aj H (.tup ((xs.drop (HT.cC xs.length 0 lo)).take (HT.cC xs.length xs.length hi-HT.cC xs.length 0 lo))):=⟨λH1 s Q q =>
 h.r H1 s _ λv H2 s2 hv=>hl.r H2 (s.aA s2) _ λH3 s3=>hh.r H3 ((s.aA s2).aA s3) _ λH4 s4=>by
   obtain ⟨a,vs,rfl,ea,la,ra⟩:=(hv.same (s3.aA s4)).dW;refine ⟨a,vs,rfl,ea,λp H5 hp s5=>q _ H5 (((s2.aA s3).aA s4).aA s5) (.tup hp (jF (Nt _ _ _) la) ?_)⟩;unfold jt;rw [ra.len]
   exact ((ra.abG _).aey _).same s5⟩
theorem Jh{k:Nat}(h:TD te aj H (.tup xs))(hh:yr th aj H (some (k:Int))):TD (tSl SlA te Oe th) aj H (.tup (xs.take k)):=by have z:=Wn h Ar hh;rw [HT.Dh,HT.uf,Fz,KR] at z;rw [show xs.take k=xs.take (min k xs.length) from by rw [X3]; omega];exact z
theorem KC{k:Nat}(h:TD te aj H (.tup xs))(hl:yr tl aj H (some (k:Int))):TD (tSl SlA te tl Oe) aj H (.tup (xs.drop k)):=by have z:=Wn h hl Ar;rw [HT.Dh,HT.uf] at z;have e:(xs.drop (min k xs.length)).take (xs.length-min k xs.length)=xs.drop k:=(by rw [lF (by rw [jR]; omega)];by_cases hk:k<=xs.length;rw [vI hk];rw [Gg (by omega),Gg (by omega)]);rw [e] at z;exact z
theorem aay(h:TD te aj H (.tup xs)):TD (Zq K te) aj H (.tup xs.reverse):=⟨λH1 s Q q =>
 h.r H1 s _ λv H2 s2 hv=>by
   obtain ⟨a,vs,rfl,ea,la,ra⟩:=hv.dW
   exact ⟨a,vs,rfl,aH.of ea,λp hp=>q _ _ (s2.upd hp) (.tup aX (by rw [DQ]; exact la) (ra.rev.same ((aF.refl H2).upd hp)))⟩⟩
theorem aiP(h:TD te aj H (.tup xs)):TD (tCB (λxs H Q=>SqQ K xs H λ_ ys=>∀ l,H l=none->Q (.ref l) (upd H l (.lst ys))) (JM te GR)) aj H .oth:=⟨λH1 s Q q =>
 h.r H1 s _ λv H2 s2 hv=>by
   obtain ⟨a,vs,rfl,ea,la,ra⟩:=hv.dW
   exact ⟨a,vs,rfl,.inr (aH.of ea),λl hl=>q _ _ (s2.upd hl) (.lst aX)⟩⟩
structure Kp(H H':Hp):Prop where
 tup:∀ b xs,H b=some (.tup xs)->H' b=some (.tup xs)
 lst:∀ b xs,H b=some (.lst xs)->∃ ys,H' b=some (.lst ys)
 uh:∀ b ks,H b=some (.dK ks)->∃ k2,H' b=some (.dK k2)
theorem Kp.refl(H:Hp):Kp H H:=⟨λ_ _ h=>h,λ_ _ h=>⟨_,h⟩,λ_ _ h=>⟨_,h⟩⟩
theorem Kp.of(s:aF H H'):Kp H H':=⟨λ_ _ h=>s _ _ h,λ_ _ h=>⟨_,s _ _ h⟩,λ_ _ h=>⟨_,s _ _ h⟩⟩
theorem Kp.aA{H2:Hp}(a:Kp H H1)(b:Kp H1 H2):Kp H H2:=⟨λ_ _ h=>b.tup _ _ (a.tup _ _ h),λ_ _ h=>let ⟨_,z⟩:=a.lst _ _ h; b.lst _ _ z,λ_ _ h=>let ⟨_,z⟩:=a.uh _ _ h; b.uh _ _ z⟩
theorem Kp.put{xs ys:List V}(h:H a=some (.lst xs)):Kp H (upd H a (.lst ys)):=by refine ⟨λb zs e=>?_,λb zs e=>?_,λb zs e=>?_⟩;rw [aW (λz=>by rw [z,h] at e; cases e)]; exact e;by_cases z:b=a;subst z; exact ⟨ys,aX⟩;exact ⟨zs,by rw [aW z]; exact e⟩;exact ⟨zs,by rw [aW (λz=>by rw [z,h] at e; cases e)]; exact e⟩
mutual
theorem bD.kp{H H':Hp}(s:Kp H H'):∀{v:V}{d:Da},bD H v d->bD H' v d
 | _,_,.non=>.non
 | _,_,.bl b=>.bl b
 | _,_,.int i=>.int i
 | _,_,.str z h=>.str z h
 | _,_,.tup h l r=>.tup (s.tup _ _ h) l (cH.kp s r)
 | _,_,.lst h=>let ⟨_,z⟩:=s.lst _ _ h; .lst z
 | _,_,.uh h=>let ⟨_,z⟩:=s.uh _ _ h; .uh z
theorem cH.kp{H H':Hp}(s:Kp H H'):∀{v:List V}{d:List Da},cH H v d->cH H' v d
 | _,_,.nil=>.nil
 | _,_,.cons h r=>.cons (bD.kp s h) (cH.kp s r)
end
theorem El{ts:TA}(h:Ah ts aj H ds)(few:ds.length<=1000)(q:∀ a vs H2,H a=none->aF H H2->H2 a=some (.lst vs)->cH H2 vs ds->Q (.ref a) H2):DX ts aj H Q :=
 h.r H (aF.refl H) _ λvs H2 s2 hvs=>⟨by have dO:=cQ; have:=hvs.len; omega,λp hp=>q p vs _ (by
   cases e:H p with
   | none=>rfl
   | some o=>rw [s2 _ _ e] at hp; cases hp) (s2.upd hp) aX (hvs.same ((aF.refl H2).upd hp))⟩
end vQ
namespace vQ
open PySem L2
variable{i:Nat}{aj:St}{H:Hp}{ds:List Da}{D:Ends}
theorem am7{ts:TA}(h:Ah ts aj H ds)(few:ds.length<=1000)(q:∀ a vs H2,H a=none->aF H H2->H2 a=some (.lst vs)->cH H2 vs ds->D.nx (aj.set i (some (.ref a))) H2):Bl (DX ts) (xG i) D aj H:=El h few q
theorem O9{ts:TA}{u:TS}(σs:Option V->St)(hs:∀ z,aj.set i z=σs z)(h:Ah ts aj H ds)(few:ds.length<=1000)(q:∀ a vs H2,H a=none->aF H H2->H2 a=some (.lst vs)->cH H2 vs ds->u D (σs (some (.ref a))) H2):KZ (Bl (DX ts) (xG i)) u D aj H :=
 am7 (D:={ D with nx:=u D }) h few λa vs H2 h1 h2 h3 h4=>by show u D _ _; rw [hs]; exact q a vs H2 h1 h2 h3 h4
noncomputable def V0:Sp:=λvs H Q _=>∃ b c:Bool,vs=[.bl b,.bl c]/\Q (.bl (b == c)) H
theorem WY{g:BI->TG}{te:BI->TE}{jZ:St}{D:au}{End:Hp->Prop}{H1:Hp}{K:bV}{a:au}{xs:List V}{f:Da->Da}(hD:H1 D=none)(ha:H1 a=some (.tup xs))(hx:cH H1 xs ds)(few:ds.length<=1000)(turn:∀(x:V)(d:Da)(H':Hp),d∈ds->bD H' x d->aF H1 H'->∀ b (R:VK),(∀ v cM,aF H' cM->bD cM v (f d)->R v cM)->g b x jZ H' fun dJ H2=>te b dJ H2 R)(fin:∀ vs H',aF H1 H'->H' D=some (.lst vs)->cH H' vs (ds.map f)->End H'):
   ∃ W:Nat->Nat->Hp->Prop,(∃ m,W 0 m (upd H1 D (.lst [])))/\∀ b,rW (wO K a) (g b) (Dw) (qd D (te b)) jZ End W :=
 WL (xs:=xs) (λi H'=>∃ vs,H' D=some (.lst vs)/\aF H1 H'/\cH H' vs ((ds.take i).map f)) ⟨[],aX,(aF.refl H1).upd hD,.nil⟩ (λi H' _ ⟨_,_,s,_⟩=>aH.of (s _ _ ha)) (λH' ⟨vs,e,s,h⟩=>fin vs H' s e (by rw [hx.len,lW] at h; exact h)) (λi x H' hi hlt ⟨vs,e,s,h⟩ b=>by
   obtain ⟨d,hd,hxd⟩:=hx.get hi;refine turn x d H' (fG hd) (hxd.same s) s b _ λv cM s2 hv=>⟨vs,s2 _ _ e,by have dO:=cQ; have:=h.len; rw [aL,gR] at this; omega,nx hlt ?_⟩
   refine ⟨vs++[v],aX,λc u z=>by rw [aW (dN z hD)]; exact (s.aA s2) c u z,?_⟩;have z:(ds.take (i+1)).map f=(ds.take i).map f++[f d]:=by rw [fZ,hd,jq]; rfl
   rw [z]
   exact ((h.same s2).app (.cons hv .nil)).kp (Kp.put (s2 _ _ e)))
theorem ama{lo c:Int}{n:Nat}{g:TG}{tb:TS}(Pv:Nat->St->Hp->Prop)(h0:Pv 0 aj H)(hs:∀ i aj H,i<n->Pv i aj H->g (.int (lo+i * c)) aj H fun dJ H2=>tb { D with nx:=Pv (i+1),ct:=Pv (i+1),bk:=D.nx } dJ H2)(hd:∀ aj H,Pv n aj H->D.nx aj H): ∃ W:Nat->Nat->St->Hp->Prop,(∃ m,W 0 m aj H)/\∀ i m aj H,W i m aj H -> ((J8 lo c n).stop i H/\D.nx aj H)\/((J8 lo c n).go i H/\∃ N:St->Hp->Prop,(∀ bA H',N bA H'->∃ m',m'<m/\W (i+1) m' bA H')/\∀ x H',(J8 lo c n).sO i H x H'->g x aj H' fun dJ H2=>tb { D with nx:=N,ct:=N,bk:=D.nx } dJ H2):=by refine ⟨λi m aj H=>m=n-i/\i<=n/\Pv i aj H,⟨n,rfl,dR _,h0⟩,λi m aj H ⟨em,hi,p⟩=>?_⟩;subst em;rcases En i n with lt | ge;refine .inr ⟨lt,Pv (i+1),fun bA H' p'=>⟨n-(i+1),by omega,rfl,lt,p'⟩,λx H' ⟨e,y⟩=>?_⟩;subst e y;exact hs i aj _ lt p;have e:i=n:=(by omega);subst e;exact .inl ⟨bG _,hd aj H p⟩
end vQ
namespace L2
open PySem
inductive ae1{a b c d e f g i j k l m:Type}(p:a->b->c->d->e->f->g->i->j->k->l->m->Prop):Prop|mk x y z u v w r s t x1 x2 x3(h:p x y z u v w r s t x1 x2 x3)
inductive aap{a0 a1 a2 a3 a4 a5 a6 a7 a8 a9 a10 a11 a12 a13 a14 a15 a16 a17:Type}(p:a0->a1->a2->a3->a4->a5->a6->a7->a8->a9->a10->a11->a12->a13->a14->a15->a16->a17->Prop):Prop|mk x y z u v w r s t x1 x2 x3 x4 x5 x6 x7 x8 x9(h:p x y z u v w r s t x1 x2 x3 x4 x5 x6 x7 x8 x9)
inductive QA3(a b c:Prop):Prop|mk(_:a)(_:b)(_:c)
inductive aoX(a b c d e f g i j k l m n:Prop):Prop|mk(_:a)(_:b)(_:c)(_:d)(_:e)(_:f)(_:g)(_:i)(_:j)(_:k)(_:l)(_:m)(_:n)
inductive ala(a b c d e f g i j k l m n o:Prop):Prop|mk(_:a)(_:b)(_:c)(_:d)(_:e)(_:f)(_:g)(_:i)(_:j)(_:k)(_:l)(_:m)(_:n)(_:o)
end L2
namespace VL
open PySem L2 vQ
noncomputable abbrev bY(a:au):Option V:=some (.ref a)
noncomputable abbrev iJ(a:Int):Option V:=some (.int a)
noncomputable abbrev za(a:Str):Option V:=some (.str a)
noncomputable abbrev zzN:Option V:=none
noncomputable abbrev eY(K:bV)(x:Str)(st:cA)(f:au)(fd:jU):Prop:=pG K x x st f fd
variable{P:gk}{w:fK}{K:bV}{mg:Str->Option aB}{base:aY}{t8 t6 tR tL t9:Tok}{C NW:au}{c:Nat->au}
variable{X:Cx}{ps:List Str}{x:Str}{e:Expr}{pos:Pos}
theorem pZ{te:TE}{pos':Pos}(i:Nat)(S:cW X.N ps X.env.scope)(he:PE X e te)(hi:X.N[i]?=some x:=by rfl)(hx:Loc X.env.scope x:=by first | exact .inl rfl | exact .inr rfl)(hs:BL e (some (.Name x pos')) pos.line X.env=pure false:=by rfl)(hf:X.fn x=true\/X.env.scope.names.lookup x=some .local:=by first | exact .inl rfl | exact .inr rfl | assumption):PS X (.Assign [.Name x pos'] e pos) (Bl te (xG i)):=al3 S.nd hi hx he hs hf
theorem pY(i:Nat)(S:cW X.N ps X.env.scope)(hi:X.N[i]?=some x:=by rfl)(hx:Loc X.env.scope x:=by first | exact .inl rfl | exact .inr rfl)(hf:X.fn x=true\/X.env.scope.names.lookup x=some .local:=by first | exact .inl rfl | exact .inr rfl | assumption):PG X (.Name x pos) (xG i):=Zf S.nd hi hx hf
theorem pH(i:Nat)(N:List Str)(nd:N.Nodup:=by decide +kernel)(e:X.N=N:=by rfl)(hi:N[i]?=some x:=by rfl)(hx:Loc X.env.scope x:=by first | exact .inl rfl | exact .inr rfl)(hf:X.fn x=true\/X.env.scope.names.lookup x=some .local:=by first | exact .inl rfl | exact .inr rfl | assumption):PG X (.Name x pos) (xG i):=Zf (e ▸ nd) (e ▸ hi) hx hf
theorem pX{a b:Expr}{ta tb:TE}{r:R2}(hr:IxR X r)(ha:PE X a ta)(hb:PE X b tb)(hs:aeI b:=by exact λ_ _=>rfl):PE X (.Subscript a b pos) (rQ r ta tb):=vq hr ha hb hs
@[elab_as_elim] theorem gE{P:Hp}{T:au}{X:HO}{motive:Hp->Prop}(f:P T=none)(k:∀ N,aF P N->N T=some X->motive N):motive (upd P T X):=k _ ((aF.refl P).upd f) aX
structure Cl(P:gk)(w:fK)(K:bV)(mg:Str->Option aB)(base:aY)(k:Nat)(x:Str)(ps:List Str)(sp:Sp):Prop where
 ex:∃ f fd,bf P w K mg base bB k f fd ps sp/\mg x=some (.ref f)/\nu K (.ref f)=true/\cj K fd ps []
variable{sp:Sp}{f:au}{fd:jU}
theorem clM{k:Nat}(a:bf P w K mg base bB k f fd ps sp)(b:mg x=some (.ref f))(c:nu K (.ref f)=true)(d:cj K fd ps []):Cl P w K mg base k x ps sp:=⟨_,_,a,b,c,d⟩
theorem pC{k:Nat}{p:Pos}{es:List Expr}{t:TA}(c:Cl X.prog X.w X.K X.mg X.base k x ps sp)(hr:jD k X.A)(ha:PA X (e :: es) t)(hg:Gl X x:=by rfl)(hdb:(x == ("__debug__" : Str))=false:=by decide)(he:gA (e :: es) X.env=(false,eval e X.env) :: gA es X.env:=by rfl)(hpl:(backTo pos (gA es X.env)).any (·.1)=false:=by rfl):
   PE X (.Call (.Name x p) (e :: es) [] pos) (YT sp [] E0 t):=let ⟨_,_,F,m,kk,b⟩:=c.ex; zK F hr hg m kk b .nil yj ha hdb he hpl
noncomputable def top(i:Nat):cA:=PySem.Challenge.pw_skewbooks_k73_whole_things_put_otherwise.main.body.getD i (.Pass ⟨0,0,0,0⟩)
noncomputable abbrev Uw:cA:=top 19
noncomputable abbrev Nz:cA:=top 20
noncomputable abbrev Uk:cA:=top 25
noncomputable abbrev M5:cA:=top 26
noncomputable abbrev W6:cA:=top 27
noncomputable abbrev Lw:cA:=top 28
noncomputable abbrev Jw:cA:=top 29
noncomputable abbrev Lh:cA:=top 30
noncomputable abbrev K8:cA:=top 31
noncomputable abbrev Nu:cA:=top 32
noncomputable abbrev K7:cA:=top 33
noncomputable abbrev W9:cA:=top 34
noncomputable abbrev Ih:cA:=top 35
noncomputable abbrev Ut:cA:=top 36
noncomputable abbrev Gs:cA:=top 37
noncomputable abbrev VN:cA:=top 38
noncomputable abbrev TV:cA:=top 39
noncomputable abbrev Ip:cA:=top 40
noncomputable abbrev Lz:cA:=top 41
noncomputable abbrev GD:cA:=top 42
noncomputable abbrev VD:cA:=top 43
noncomputable abbrev GJ:cA:=top 44
noncomputable abbrev Ry:cA:=top 62
noncomputable abbrev Ij:cA:=top 63
noncomputable abbrev O4:cA:=top 64
noncomputable abbrev GC:cA:=top 65
noncomputable abbrev Qy:cA:=top 70
noncomputable abbrev Tr:cA:=top 71
noncomputable abbrev Qo:cA:=top 72
noncomputable abbrev Ge:cA:=top 73
noncomputable abbrev Tc:cA:=top 74
noncomputable abbrev N7:cA:=top 75
noncomputable abbrev Ky:cA:=top 76
noncomputable abbrev MF:cA:=top 77
noncomputable abbrev Vg:cA:=top 78
noncomputable abbrev Rx:cA:=top 79
noncomputable abbrev Nk:cA:=top 80
noncomputable abbrev Vw:cA:=top 81
noncomputable abbrev M8:cA:=top 82
noncomputable abbrev MK:cA:=top 83
noncomputable abbrev Np:cA:=top 84
noncomputable abbrev Q7:cA:=top 85
noncomputable abbrev Cy:cA:=top 86
noncomputable abbrev JN:cA:=top 87
noncomputable abbrev O1:cA:=top 88
noncomputable abbrev Om:cA:=top 89
noncomputable abbrev Wd:cA:=top 90
noncomputable abbrev Rr:cA:=top 91
noncomputable abbrev sIs:cA:=top 92
noncomputable abbrev Qi:cA:=top 93
noncomputable abbrev Ov:cA:=top 94
noncomputable abbrev Nj:cA:=top 95
noncomputable abbrev Qe:cA:=top 96
structure Txt(mg:Str->Option aB)(t8 t6 tR tL:Tok):Prop where
 gK:mg "isinstance" = none
 int:mg "int" = none
 bool:mg "bool" = none
 str:mg "str" = none
 tuple:mg "tuple" = none
 len:mg "len" = none
 all:mg "all" = none
 any:mg "any" = none
 zip:mg "zip" = none
 set:mg "set" = none
 sorted:mg "sorted" = none
 divmod:mg "divmod" = none
 range:mg "range" = none
 max:mg "max" = none
 min:mg "min" = none
 list:mg "list" = none
 dict:mg "dict" = none
 sum:mg "sum" = none
 enum:mg "enumerate" = none
 most:mg "LONGEST_NAME" = some (.int 8 t8)
 ZW:mg "MOST_HOUSES" = some (.int 6 t6)
 ahn:mg "MOST_ROWS" = some (.int 24 tR)
 amE:mg "MOST_LETTERS" = some (.int 24 tL)
theorem aon:cW ["thing"] ["thing"] (bw Uw):=dX
theorem af0(F:eY K "is_whole" Uw f fd)(T:Txt mg t8 t6 tR tL):bf P w K mg base bB 1 f fd ["thing"] (tY K):=by refine F.ok aon (λvs H Q E h=>?_) (λcdv A outer s H vs Q E hr h=>?_);obtain ⟨x,rfl,_⟩:=h;rfl;obtain ⟨x,rfl,⟨⟨T',ty⟩,_⟩,q⟩:=h;refine ⟨_,aU (bx (mZ (bh kO rfl T.gK gG (aq (pV 0) (aq (jV (v:=.ty "int") rfl T.int Z6 rfl) aD))) (oF (VG (bh kO rfl T.gK gG (aq (pV 0) (aq (jV (v:=.ty "bool") rfl T.bool R0 rfl) aD))))))),?_⟩;obtain ⟨k1,k2,_,_⟩:=vm ty;have e:=ab2 ty;refine ⟨x,_,_,_,rfl,ty,k1,?_⟩;cases q1:uW T' "int" with| false =>rw [q1] at e;rw [<- e] at q;exact q| true =>rw [q1] at e;refine ⟨x,_,_,_,rfl,ty,k2,?_⟩;show Q (.bl (!uW T' "bool")) H;rw [<- e] at q;simpa using q
theorem afL:cW ["thing"] ["thing"] (bw Nz):=dX
theorem aov(F:eY K "is_name" Nz f fd)(T:Txt mg t8 t6 tR tL):bf P w K mg base bB 1 f fd ["thing"] (uR K):=by refine F.ok afL (λvs H Q E h=>?_) (λcdv A outer s H vs Q E hr h=>?_);obtain ⟨x,rfl,_⟩:=h;rfl;obtain ⟨x,rfl,⟨⟨T',ty⟩,hz⟩,q⟩:=h;refine ⟨_,aP (cP (jP (dg (dD (bh kO rfl T.gK gG (aq (pV 0) (aq (jV (v:=.ty "str") rfl T.str PJ rfl) aD))))) (pw_or1 (dg (J3 oLe oLe aM (bh KD rfl T.len gO (aq (pV 0) aD)) (nM (v:=.int 8) rfl T.most ⟨_,rfl⟩))))) (aU (bx dG)) cN) (aU (bx (bh (pA rfl) rfl T.all mV (aq (iG (bN:=bw Nz) (own:=["sign"]) (cap:=[]) (ix:=[]) rfl rfl fH (aga (pV 0)) (λb=>pH 0 ["sign"]) (λb=>fu) (λb=>akq Zd Zd qC (pV 0) qC)) aD)))),?_⟩;obtain ⟨_,_,k3,_⟩:=vm ty;refine ⟨x,_,_,_,rfl,ty,k3,?_⟩;cases q1:uW T' "str" with| false =>have e:jN x=false:=(by cases ty <;> first | rfl | exact bO q1 (by decide));rw [e] at q;exact q H (aF.refl H)| true =>obtain ⟨z,rfl⟩:∃ z,x=.str z:=(by cases ty <;> first | exact ⟨_,rfl⟩ | exact bO q1 (by decide));have hz':=hz z rfl;refine ⟨z,rfl,hz',?_⟩;refine fQ (λh1=>?_) (λh1=>?_);have h1':1<=z.length:=(by have:=dB h1; omega);refine fQ (λh2=>?_) (λh2=>?_);have e:jN (.str z)=false:=(by have h2':¬ z.length<=8:=(by intro h;have:decide ((z.length:Int)<=8)=true:=cg (by omega);rw [this] at h2; cases h2);simp [jN,h2']);rw [e] at q;exact q H (aF.refl H);have h2':z.length<=8:=(by have:¬ ¬ (z.length:Int)<=8:=λh=>h2 (by rw [fP h]; rfl);omega);refine ⟨z,rfl,λD hD=>Yy (λi H'=>eG H H' D ((z.cps.toList.take i).map λc=>V.bl (low c))) (eG.start hD) (λH' G=>?_) (λi c H' hc hi G b=>?_)⟩;refine ⟨D,z.cps.toList.map low,rfl,aV.of (by rw [G.at',aew (by simp),nA]; rfl),?_⟩;have e:jN (.str z)=(z.cps.toList.map low).all id:=(by simp [jN,h1',h2',uD]);rw [e] at q;exact q H' G.same;have hl:=apJ c;have sz:z.cps.size<=aO:=hz';have fin:∀(k:Bool),k=low c->Nx z.cps.size i (λi H'=>eG H H' D ((z.cps.toList.take i).map λc=>V.bl (low c))) (upd H' D (.lst ((z.cps.toList.take i).map (λc=>V.bl (low c))++[.bl k]))):=λk hk=>(by subst hk;refine nx hi ?_;show eG H _ D ((z.cps.toList.take (i+1)).map λc=>V.bl (low c));rw [ZL (abr hc)];exact G.put hD _);refine fQ (λh3=>?_) (λh3=>?_);refine ⟨_,G.at',RJ hi sz,fin _ ?_⟩;have h3':decide (97<=c)=true:=hl.1.symm.aA h3;show (!decide (("z" : Str).cps.toList<(⟨#[c]⟩:Str).cps.toList))=low c;rw [hl.2];simp [low,dB h3'];refine ⟨_,G.at',RJ hi sz,fin _ ?_⟩;have h3':¬ 97<=c:=λh=>h3 (hl.1.aA (cg h));simp [low,h3'];have e:jN (.str z)=false:=(by have h1':¬ 1<=z.length:=(by intro h;exact h1 (cg (by omega)));simp [jN,h1']);rw [e] at q;exact q H (aF.refl H)
theorem ajK:cW ["_law_cell"] ["_law_cell"] (bw Qy):=dX
theorem aeY(F:eY K "_law_mixed" Qy f fd):bf P w K mg base bB 1 f fd ["_law_cell"] Kf:=by refine F.ok ajK (λvs H Q E h=>?_) (λcdv A outer s H vs Q E hr h=>?_);obtain ⟨c,rfl,_⟩:=h;rfl;obtain ⟨c,rfl,hb,q⟩:=h;refine ⟨_,(aU (bx (bJ oMod (bJ afA (pV 0) aM) (bJ Ve aM aM)))),?_⟩;refine ⟨IntMulOk.of_le (m:=2000000) (n:=400) hb (by decide +kernel) (by decide),?_⟩;refine ⟨⟨by decide,by decide,by decide⟩,by show (0:Int)<10 ^ Int.toNat 60; decide +kernel,?_⟩;exact q _ (Int.emod_nonneg _ (by decide +kernel))
theorem aoF:cW ["_law_script","_law_k"] ["_law_script","_law_k"] (bw Tr):=dX
theorem aeW(F:eY K "_law_pack" Tr f fd)(T:Txt mg t8 t6 tR tL)(Ob:Cl P w K mg base 1 "_law_mixed" ["_law_cell"] Kf):bf P w K mg base bB 2 f fd ["_law_script","_law_k"] (Xh K):=by refine F.ok aoF (λvs H Q E h=>?_) (λcdv A outer s H vs Q E hr h=>?_);obtain ⟨a,ns,k,rfl,_⟩:=h;rfl;obtain ⟨a,ns,k,rfl,ha,hb,hl,k0,k1,q⟩:=h;have small:∀ z:Int,0<=z->z<=10000000->Cu z<=1048576:=λz z0 z1=>jF (Gb (by omega) (by omega)) (by decide);have fin:∀ n:Int,0<=n->DX (JM (tC (.int n)) GR) ([]:St) H Q:=λn n0=>⟨by show 1<=aO; rw [cQ]; decide,λp hp=>q p _ hp ⟨n,aX,n0⟩ ((aF.refl H).upd hp)⟩;refine ⟨_,(aP (cP (gM oLt (pV 1) (bh jy rfl T.len gO (aq (pV 0) aD)) (cX _)) (aU (bx (iU (aq (pC Ob hr (aq (bJ gj (pX mY (pV 0) (pV 1)) (bJ Jd aM (pV 1))) aD)) aD)))) cN) (aU (bx (iU (aq (pC Ob hr (aq (bJ gj (bJ Jd aM (pV 1)) aM) aD)) aD))))),?_⟩;refine ⟨a,_,rfl,.inl ha,?_⟩;refine fQ (λz=>?_) (λz=>?_);have lt:k<((ns.map V.int).length:Int):=dB z;obtain ⟨j,rfl⟩:=Br k0;rw [aL] at lt;have hj:ns[j]?=some ns[j]:=gD (by omega);refine amo ha (v:=.int ns[j]) (oW (by rw [bL,hj]; rfl)) ?_;refine ⟨.inl ⟨by decide,by decide⟩,?_⟩;have b1:=QC (hb ns[j] (fG hj)) (small (23 * (j:Int)) (by omega) (by omega));refine ⟨_,rfl,jF b1 (by decide),λn n0=>?_⟩;exact fin n n0;refine ⟨.inl ⟨by decide,by decide⟩,?_⟩;refine ⟨_,rfl,jF (small (5099 * k+7) (by omega) (by omega)) (by decide),λn n0=>?_⟩;exact fin n n0
theorem aa7:cW ["_law_pack_here","_law_size","_law_digit"] ["_law_pack_here","_law_size"] (bw Qo):=dX
theorem akr(F:eY K "_law_take" Qo f fd)(T:Txt mg t8 t6 tR tL):bf P w K mg base bB 1 f fd ["_law_pack_here","_law_size"] zO:=by refine F.ok aa7 (λvs H Q E h=>?_) (λcdv A outer s H vs Q E hr h=>?_);obtain ⟨p,m,rfl,_⟩:=h;rfl;obtain ⟨p,m,rfl,⟨n,hp,n0⟩,m0,m1,q⟩:=h;refine ⟨_,(aP (vY (bh ahu rfl T.divmod PyProof.Rows.boot_divmod (aq (pX mY (pV 0) aM) (aq (pV 1) aD))) (jG rfl (cI (apG (pV 0) aM alF) (cI (pY 2 aa7) jE)))) (aU (bx (pV 2)))),?_⟩;refine qt hp (i:=0) (by rfl) ?_;refine ⟨n,m,rfl,⟨m0,m1⟩,λt ht=>?_⟩;have ne:p≠t:=dN hp ht;refine ⟨t,_,rfl,aH.of aX,rfl,_,_,rfl,?_⟩;refine setAt (j:=0) (show upd H t (.tup [.int (n / m),.int (n % m)]) p=some (.lst [.int n]) by rw [aW ne]; exact hp) (by rfl) ?_;refine ⟨_,_,rfl,rfl,?_⟩;refine q _ _ (Int.emod_nonneg n (by omega)) (Int.emod_lt_of_pos n m0) ⟨n / m,aX,Int.ediv_nonneg n0 (by omega)⟩ ?_;exact ((dF.of (aF.refl H)).new ht).upd
theorem Fi:cW ["_law_pack_here","_law_amount","_law_letters_here","_law_turn","_law_pick","_law_size"] ["_law_pack_here","_law_amount"] (bw Ge):=dX
theorem ajk(F:eY K "_law_names" Ge f fd)(T:Txt mg t8 t6 tR tL)(gP:Cl P w K mg base 1 "_law_take" ["_law_pack_here","_law_size"] zO):bf P w K mg base bB 2 f fd ["_law_pack_here","_law_amount"] R5:=by refine F.ok Fi (λvs H Q E h=>?_) (λcdv A outer s H vs Q E hr h=>?_);obtain ⟨p,rfl,_⟩:=h;rfl;obtain ⟨p,rfl,hp,q⟩:=h;have dO:=cQ;refine ⟨_,(aP (pZ 2 Fi qC) (aP (pZ 3 Fi (pC gP hr (aq (pV 0) (aq aM aD)))) (aP (pZ 2 Fi (bJ Ab (jo wY (pV 2) (iu (pV 3)) kZ) (jo wY (pV 2) kZ (iu (pV 3))))) (aP (pZ 4 Fi (pC gP hr (aq (pV 0) (aq aM aD)))) (aP (pZ 5 Fi (pC gP hr (aq (pV 0) (aq aM aD)))) (aP (cP (gM oEq (pV 4) aM (cX _)) (aU (bx (iG (bN:=bw Ge) (own:=["_law_k"]) (cap:=["_law_letters_here"]) (ix:=[2]) rfl rfl fH (yq rfl T.range (aq (pV 1) aD)) (λb=>(pH 0 ["_law_k","_law_letters_here"])) (λb=>fu) (λb=>(bJ ahB (pX Px (pV 1) (bJ oDiv (pV 0) aM)) (bJ gj aM (bJ oMod (pV 0) aM))))))) cN) (aP (cP (gM oEq (pV 4) aM (cX _)) (aU (bx (iG (bN:=bw Ge) (own:=["_law_k"]) (cap:=["_law_letters_here","_law_size"]) (ix:=[2,5]) rfl rfl fH (yq rfl T.range (aq (pV 1) aD)) (λb=>(pH 0 ["_law_k","_law_letters_here","_law_size"])) (λb=>fu) (λb=>(bJ Ab (pX Px (pV 1) (bJ oMod (pV 0) aM)) (jo wY (pV 1) (iu aM) (iu (bJ gj aM (pV 2))))))))) cN) (aU (bx (iG (bN:=bw Ge) (own:=["_law_k"]) (cap:=["_law_letters_here","_law_size"]) (ix:=[2,5]) rfl rfl fH (yq rfl T.range (aq (pV 1) aD)) (λb=>(pH 0 ["_law_k","_law_letters_here","_law_size"])) (λb=>fu) (λb=>(bJ Ab (jo wY (pV 1) (iu aM) (iu (bJ gj aM (pV 2)))) (pX Px (pV 1) (bJ oMod (pV 0) aM)))))))))))))),?_⟩;refine ⟨p,26,rfl,hp,by decide,by decide,λt H1 t0 t1 hp1 s1=>?_⟩;obtain ⟨t,rfl⟩:=Br t0;have ht:t<26:=(by omega);have la:abc.length<=aO:=(by rw [Uo]; omega);refine JF (z:=abc) la ?_;refine JF (z:=abc) la ?_;have rt:=ahL (t:=t) (by omega);refine ⟨by have z1:=Vx abc (some (t:Int)) none;have z2:=Vx abc none (some (t:Int));rw [Uo] at z1 z2;omega,?_⟩;generalize BX abc (some (t:Int)) none++BX abc none (some (t:Int))=R at rt;have lR:R.length=26:=(by rw [<- len_list,rt]; exact Oi (by omega));refine ⟨p,3,rfl,hp1,by decide,by decide,λpk H2 p0 p1 hp2 s2=>?_⟩;obtain ⟨pick,rfl⟩:=Br p0;refine ⟨p,8,rfl,hp2,by decide,by decide,λsz H3 z0 z1 hp3 s3=>?_⟩;obtain ⟨size,rfl⟩:=Br z0;have s13:dF p H H3:=(s1.aA s2).aA s3;obtain ⟨ok1,ok2⟩:=aoe (t:=t) (sz:=size) (pick:=pick) ht (by omega) (by omega);have ok3:=ae7 (t:=t) (sz:=size) (pick:=pick) ht (by omega) (by omega);have fin:∀(D:au)(H':Hp),H3 D=none->eG H3 H' D ((mR t size pick).map V.str)->Q (.ref D) H':=λD H' hD G=>(by refine q D (mR t size pick) H' ?_ G.at' (by unfold mR; rw [aL,Ib]) ok1 ok2 ok3 (by obtain ⟨n,e,n0⟩:=hp3; exact ⟨n,G.same _ _ e,n0⟩) (s13.aA (dF.of G.same));cases e:H D with| none=>rfl| some o =>have nD:D≠p:=λz=>(by obtain ⟨n,e',_⟩:=hp3;rw [<- z,hD] at e'; cases e');have:=s13 D o nD e;rw [hD] at this; cases this);have step:∀(i:Nat),i<12->(mR t size pick).take (i+1)=(mR t size pick).take i++[xX t size pick i]:=λi hi=>(by have e:(mR t size pick)[i]?=some (xX t size pick i):=(by unfold mR; rw [bL,Wh hi]; rfl);rw [fZ,e]; rfl);have ap1:(mR t size pick).length=12:=(by unfold mR; rw [aL,Ib]);have put:∀(i:Nat)(D:au)(H':Hp)(z:Str),i<12->H3 D=none->eG H3 H' D (((mR t size pick).take i).map V.str)->z.cps.toList=zP t size pick i->∃ zs,H' D=some (.lst zs)/\zs.length<aO/\Nx 12 i (λi H'=>eG H3 H' D (((mR t size pick).take i).map V.str)) (upd H' D (.lst (zs++[.str z]))):=λi D H' z hi hD G ez=>(by refine ⟨_,G.at',by rw [aL,gR]; omega,nx hi ?_⟩;show eG H3 _ D (((mR t size pick).take (i+1)).map V.str);have ez':z=xX t size pick i:=(by cases z with| mk c=>unfold xX; congr 1; rw [<- ez]);rw [step i hi,jq,ez'];exact G.put hD _);have all:((mR t size pick).take 12).map V.str=(mR t size pick).map V.str:=(by rw [lF (by omega)]);have YK:(BX R (some 4) (some (4+(size:Int)))).cps.toList=((vM t).drop 4).take size:=(by have e:BX R (some ((4:Nat):Int)) (some ((4+size:Nat):Int))=_:=aiX R 4 (4+size);have e2:BX R (some 4) (some (4+(size:Int)))=⟨((R.cps.toList.take (4+size)).drop 4).toArray⟩:=e;rw [e2,rt,Mx];simp);have apU:(BX R (some 4) (some (4+(size:Int)))).length<=26:=(by rw [<- lR]; exact Vx R _ _);refine fQ (λc1=>?_) (λc1=>?_);have pk0:pick=0:=(by have:=dB c1; omega);refine ⟨12,rfl,by decide,by decide,λD hD=>JB (lo:=0) (n:=12) (λi H'=>eG H3 H' D (((mR t size pick).take i).map V.str)) (eG.start hD) (λH' G=>fin D H' hD (by rw [<- all]; exact G)) (λi H' hi G b=>?_)⟩;refine ⟨⟨by decide,by decide⟩,?_⟩;refine Lq (z:=R) (by omega) (by rw [rt]; exact Vm (by omega) (by rw [Oi (by omega)]; omega)) ?_;refine ⟨by show (0:Int)<8; decide,?_⟩;refine ⟨_,_,rfl,rfl,by omega,by omega,?_⟩;refine put i D H' _ hi hD G ?_;subst pk0;unfold zP;rw [bI rfl];show wC _ _=_;congr 1;omega;congr 1; omega;refine fQ (λc2=>?_) (λc2=>?_);have pk1:pick=1:=(by have:=dB c2; omega);refine ⟨12,rfl,by decide,by decide,λD hD=>JB (lo:=0) (n:=12) (λi H'=>eG H3 H' D (((mR t size pick).take i).map V.str)) (eG.start hD) (λH' G=>fin D H' hD (by rw [<- all]; exact G)) (λi H' hi G b=>?_)⟩;refine ⟨by show (0:Int)<26; decide,?_⟩;refine Lq (z:=R) (by omega) (by rw [rt]; exact Vm (by omega) (by rw [Oi (by omega)]; omega)) ?_;refine JF (z:=R) (by omega) ?_;refine ⟨by show 1+_<=aO; omega,?_⟩;refine put i D H' _ hi hD G ?_;subst pk1;rw [app_list,YK];unfold zP;rw [aZ (by decide),bI rfl];have ei:((0+(i:Int)) % 26).toNat=i % 26:=(by omega);show (vM t).getD ((0+(i:Int)) % 26).toNat 0 :: _=_;rw [ei];rfl;have pk2:pick≠0/\pick≠1:=⟨λe=>c1 (cg (by rw [e]; rfl)),λe=>c2 (cg (by rw [e]; rfl))⟩;refine ⟨12,rfl,by decide,by decide,λD hD=>JB (lo:=0) (n:=12) (λi H'=>eG H3 H' D (((mR t size pick).take i).map V.str)) (eG.start hD) (λH' G=>fin D H' hD (by rw [<- all]; exact G)) (λi H' hi G b=>?_)⟩;refine JF (z:=R) (by omega) ?_;refine ⟨by show (0:Int)<26; decide,?_⟩;refine Lq (z:=R) (by omega) (by rw [rt]; exact Vm (by omega) (by rw [Oi (by omega)]; omega)) ?_;refine ⟨by show _+1<=aO; omega,?_⟩;refine put i D H' _ hi hD G ?_;rw [app_list,YK];unfold zP;rw [aZ pk2.1,aZ pk2.2];congr 1;show [_]=[_];congr 2; omega
theorem agi:cW ["thing","many"] ["thing","many"] (bw Uk):=dX
theorem akh(F:eY K "has_parts" Uk f fd)(T:Txt mg t8 t6 tR tL):bf P w K mg base bB 1 f fd ["thing","many"] rK:=by refine F.ok agi (λvs H Q E h=>?_) (λcdv A outer s H vs Q E hr h=>?_);obtain ⟨x,d,n,rfl,_⟩:=h;rfl;obtain ⟨x,d,n,rfl,hd,q⟩:=h;obtain ⟨_,⟨T',ty,kt⟩,_⟩:=hd.kind (K:=K);refine ⟨_,(aU (bx (mZ (bh kO rfl T.gK gG (aq (pV 0) (aq (jV (v:=.ty "tuple") rfl T.tuple jA rfl) aD))) (oF (jW oEq (bh jy rfl T.len gO (aq (pV 0) aD)) (pV 1) (cX _)))))),?_⟩;refine ⟨_,_,_,_,rfl,ty,kt,?_⟩;cases d with| tup xs =>refine bU λcu aQ=>?_;obtain ⟨a,vs,ez1,ha,rB,r⟩:=hd.dW;subst aQ;subst ez1;refine ⟨a,vs,rfl,.inr (aH.of ha),?_⟩;show Q (.bl (decide ((vs.length:Int)=(n:Int)))) H;have e:decide ((vs.length:Int)=(n:Int))=decide (xs.length=n):=(by rw [r.len,lY,decide_eq_true_iff,decide_eq_true_iff]; omega);rw [e]; exact q| _=>exact q
theorem aju:cW ["values"] ["values"] (bw M5):=dX
theorem ajD(F:eY K "is_rising" M5 f fd)(T:Txt mg t8 t6 tR tL):bf P w K mg base bB 1 f fd ["values"] Pu:=by refine F.ok aju (λvs H Q E h=>?_) (λcdv A outer s H vs Q E hr h=>?_);obtain ⟨a,xs,b,rfl,_⟩:=h;rfl;obtain ⟨a,xs,bb,rfl,ha,few,rise,q⟩:=h;have dO:=cQ;refine ⟨_,(aU (bx (bh (pA rfl) rfl T.all mV (aq (iG (bN:=bw M5) (own:=["value","later"]) (cap:=[]) (ix:=[]) rfl rfl fH (anK rfl T.zip (aq (pV 0) (aq (jo Mq (pV 0) (iu aM) kZ) aD))) (λb=>(jG rfl (cI (pH 0 ["value","later"]) (cI (pH 1 ["value","later"]) jE)))) (λb=>fu) (λb=>(jW (aaP hr.Kz) (pV 0) (pV 1) (cX _)))) aD)))),?_⟩;refine ⟨a,xs,rfl,aV.of ha,λp hp=>?_⟩;have e1:jt xs (some 1) none=xs.drop 1:=(by unfold jt;rw [HT.Dh,show (some 1:Option Int)=some ((1:Nat):Int) from rfl,HT.uf];rcases En 0 xs.length with z | z;rw [vI z,lF (by rw [jR]; omega)];have:xs=[]:=HF (by omega);subst this; rfl);rw [e1];have s1:aF H (upd H p (.lst (xs.drop 1))):=(aF.refl H).upd hp;refine bU λcu aQ=>?_;obtain ⟨bs,lb,eb,ask⟩:=rise.bools;subst aQ;refine ⟨a,p,xs,xs.drop 1,rfl,aV.of (s1 _ _ ha),aV.of aX,λD hD=>?_⟩;have lp:(xs.drop 1).length=xs.length-1:=jR;refine Jp (xs.drop 1).length (λi H'=>eG (upd H p (.lst (xs.drop 1))) H' D ((bs.take i).map V.bl)) (eG.start hD) (λH' G=>⟨⟨aV.of (G.same _ _ (s1 _ _ ha)),aV.of (G.same _ _ aX),.inr (bG _)⟩,?_⟩) (λi H' hi G=>⟨⟨aV.of (G.same _ _ (s1 _ _ ha)),aV.of (G.same _ _ aX),by omega,hi⟩,λx H2 y b=>?_⟩);refine ⟨D,bs,rfl,aV.of (by have e:=G.at'; rw [lF (by omega)] at e; exact e),?_⟩;rw [eb];exact q H' (s1.aA G.same);refine bU λcu aQ=>?_;obtain ⟨t,u,v,ht,ez2,hu',hv,ez3⟩:=y;subst aQ;subst ez2;subst ez3;have s2:aF H' (upd H' t (.tup [u,v])):=(aF.refl H').upd ht;have G2:=G.more s2;refine ⟨t,[u,v],rfl,aH.of aX,rfl,u,[v],rfl,v,[],rfl,rfl,?_⟩;refine ask hu' (by rw [NK,LR] at hv; exact hv) (s1.aA G2.same) λc hc=>?_;refine ⟨_,G2.at',by rw [aL,gR]; omega,nx hi ?_⟩;show eG _ _ D ((bs.take (i+1)).map V.bl);rw [fZ,hc,jq];exact G2.put hD _
theorem ah8:cW ["thing"] ["thing"] (bw W6):=dX
theorem alO(F:eY K "is_named_number" W6 f fd)(zM:Cl P w K mg base 1 "has_parts" ["thing","many"] rK)(BR:Cl P w K mg base 1 "is_name" ["thing"] (uR K))(BP:Cl P w K mg base 1 "is_whole" ["thing"] (tY K)):bf P w K mg base bB 2 f fd ["thing"] (gQ eU):=by
 refine F.ok ah8 (λvs H Q E h=>?_) (λcdv A outer s H vs Q E hr h=>?_)
 . obtain ⟨x,d,rfl,_⟩:=h;rfl
 . obtain ⟨x,d,rfl,hd,q⟩:=h;refine ⟨_,(aU (bx (mZ (pC zM hr (aq (pV 0) (aq aM aD))) (mZ (pC BR hr (aq (pX dY (pV 0) aM) aD)) (oF (pC BP hr (aq (pX dY (pV 0) aM) aD))))))),?_⟩;refine ⟨x,d,2,rfl,hd,?_⟩
   have no:∀ d',oA d' 2=false->eU d'=false:=λd' h=>by
     cases d' with
     | tup xs =>
       match xs,h with
       | [],_=>rfl
       | [_],_=>rfl
       | [_,_],h=>cases h
       | _ :: _ :: _ :: _,_=>rfl
     | _=>rfl
   cases e:oA d 2 with
   | false =>
     have z:=q H (aF.refl H);rw [no d e] at z;exact z
   | true =>
     cases d with
     | tup xs =>
       refine bU λcu aQ=>?_
       obtain ⟨a,vs,ez4,ha,rB,r⟩:=hd.dW;subst aQ;subst ez4;obtain ⟨y,z,rfl⟩:=len2 (dB e);refine bU λcu aQ=>?_
       obtain ⟨v1,v2,ez5,h1,h2⟩:=r.two;subst aQ;subst ez5;refine dI (aH.of ha) (i:=0) (v:=v1) (by rfl) ?_;refine bU λcu aQ=>?_
       obtain ⟨th,_,_,n1⟩:=h1.kind (K:=K);subst aQ;refine ⟨v1,rfl,th,λH1 s1=>?_⟩;rw [n1];cases e2:lJ y with
       | false =>
         have w:=q H1 s1;simp only [eU,e2,rY] at w;exact w
       | true =>
         refine dI (aH.of (s1 _ _ ha)) (i:=1) (v:=v2) (by rfl) ?_;refine bU λcu aQ=>?_
         obtain ⟨Aa,_,w2,_⟩:=(h2.same s1).kind (K:=K);subst aQ;refine ⟨v2,rfl,Aa,?_⟩;rw [w2];have w:=q H1 s1;simp only [eU,e2,fJ] at w;exact w
     | _=>cases e
theorem aj9:cW ["name","low","high","drift"] ["name","low","high","drift"] (bw Lw):=dX
theorem ao2(F:eY K "is_clock" Lw f fd)(T:Txt mg t8 t6 tR tL)(BR:Cl P w K mg base 1 "is_name" ["thing"] (uR K))(BP:Cl P w K mg base 1 "is_whole" ["thing"] (tY K)):bf P w K mg base bB 2 f fd ["name","low","high","drift"] MP:=by
 refine F.ok aj9 (λvs H Q E h=>?_) (λcdv A outer s H vs Q E hr h=>?_)
 . obtain ⟨x0,x1,x2,x3,d0,d1,d2,d3,rfl,_⟩:=h;rfl
 . obtain ⟨x0,x1,x2,x3,d0,d1,d2,d3,rfl,h0,h1,h2,h3,q⟩:=h;have dO:=cQ;obtain ⟨th0,_,_,n0⟩:=h0.kind (K:=K);refine ⟨_,(aP (cP (jP (dg (dD (pC BR hr (aq (pV 0) aD)))) (pw_or1 (dg (dD (bh (pA rfl) rfl T.all mV (aq (iG (bN:=bw Lw) (own:=["number"]) (cap:=[]) (ix:=[]) rfl rfl fH (fY (kY (aq (pV 1) (aq (pV 2) (aq (pV 3) aD))))) (λb=>(pH 0 ["number"])) (λb=>fu) (λb=>(pC BP hr (aq (pV 0) aD)))) aD)))))) (aU (bx dG)) cN) (aU (bx (mZ (jW oLe (pV 1) (pV 2) (cX _)) (oF (jW oGe (pV 3) aM (cX _))))))),?_⟩;refine ⟨x0,rfl,th0,λH1 s1=>?_⟩;rw [n0];unfold ql at q;cases e0:lJ d0 with
   | false=>rw [e0] at q; exact q H1 s1
   | true =>
     rw [e0,fJ] at q;refine ⟨by show 3<=aO; omega,λp hp=>?_⟩;refine ⟨p,rfl,⟨_,aH.of aX⟩,λD hD=>j9 (xs:=[x1,x2,x3]) (ys:=[gW d1,gW d2,gW d3].map V.bl) hD (aH.of aX) (by show 3<=aO; omega) rfl (λi x H' hx s2 b R hR=>?_) (λH' s2 e=>?_)⟩
     . have S:=(s1.upd hp).aA s2
       have hx':∃ dd,bD H' x dd/\([gW d1,gW d2,gW d3].map V.bl)[i]?=some (.bl (gW dd)):=by
         match i,hx with
         | 0,hx=>cases hx; exact ⟨d1,h1.same S,rfl⟩
         | 1,hx=>cases hx; exact ⟨d2,h2.same S,rfl⟩
         | 2,hx=>cases hx; exact ⟨d3,h3.same S,rfl⟩
       obtain ⟨dd,hdd,ey⟩:=hx';refine bU λcu aQ=>?_
       obtain ⟨th,_,w,_⟩:=hdd.kind (K:=K);subst aQ;refine ⟨x,rfl,th,?_⟩;rw [w];exact hR H' _ ey (aF.refl _)
     . refine ⟨D,[gW d1,gW d2,gW d3],rfl,aV.of e,?_⟩;have ea:([gW d1,gW d2,gW d3]:List Bool).all id=(gW d1 && (gW d2 && gW d3)):=by simp
       rw [ea];have qq:=q H' ((s1.upd hp).aA s2);cases e1:(gW d1 && (gW d2 && gW d3)) with
       | false=>rw [e1] at qq; exact qq
       | true =>
         rw [e1,fJ] at qq;obtain ⟨w1,w2⟩:=cB.mp e1;obtain ⟨w2,w3⟩:=cB.mp w2;cases h1 with
         | int i1 =>
           cases h2 with
           | int i2 =>
             cases h3 with
             | int i3 =>
               refine fQ (λz=>?_) (λz=>?_)
               . have z':decide (intD (.int i1)<=intD (.int i2))=true:=z;rw [z',fJ] at qq;exact qq
               . have z':decide (intD (.int i1)<=intD (.int i2))=false:=(Bool.not_eq_true _).mp z;rw [z',rY] at qq;exact qq
             | _=>cases w3
           | _=>cases w2
         | _=>cases w1
theorem ao3:cW ["thing"] ["thing"] (bw Jw):=dX
theorem ahr(F:eY K "is_run" Jw f fd)(T:Txt mg t8 t6 tR tL)(Qc:Cl P w K mg base 2 "is_named_number" ["thing"] (gQ eU))(QF:Cl P w K mg base 2 "is_rising" ["values"] Pu):bf P w K mg base bB 3 f fd ["thing"] (gQ nU):=by refine F.ok ao3 (λvs H Q E h=>?_) (λcdv A outer s H vs Q E hr h=>?_);obtain ⟨x,d,rfl,_⟩:=h;rfl;obtain ⟨x,d,rfl,hd,q⟩:=h;have dO:=cQ;obtain ⟨_,⟨T',ty,kt⟩,_⟩:=hd.kind (K:=K);refine ⟨_,(aP (cP (jP (dg (dD (bh kO rfl T.gK gG (aq (pV 0) (aq (jV (v:=.ty "tuple") rfl T.tuple jA rfl) aD))))) (pw_or1 (gM oEq (bh jy rfl T.len gO (aq (pV 0) aD)) aM (cX _)))) (aU (bx dG)) cN) (aP (cP (dg (dD (bh (pA rfl) rfl T.all mV (aq (iG (bN:=bw Jw) (own:=["row"]) (cap:=[]) (ix:=[]) rfl rfl fH (fY (pV 0)) (λb=>(pH 0 ["row"])) (λb=>fu) (λb=>(pC Qc hr (aq (pV 0) aD)))) aD)))) (aU (bx dG)) cN) (aU (bx (pC QF hr (aq (iG (bN:=bw Jw) (own:=["name","reading"]) (cap:=[]) (ix:=[]) rfl rfl fH (fY (pV 0)) (λb=>(jG rfl (cI (pH 0 ["name","reading"]) (cI (pH 1 ["name","reading"]) jE)))) (λb=>fu) (λb=>(pV 1))) aD)))))),?_⟩;refine ⟨_,_,_,_,rfl,ty,kt,?_⟩;cases d with| tup xs =>refine bU λcu aQ=>?_;obtain ⟨a,vs,ez6,ha,rB,r⟩:=hd.dW;subst aQ;subst ez6;have len:=r.len;refine ⟨a,vs,rfl,.inr (aH.of ha),?_⟩;refine fQ (λz=>?_) (λz=>?_);have e:xs=[]:=HF (by have:=dB z; omega);subst e;exact q H (aF.refl H);have ne:xs.isEmpty=false:=(by cases xs with| nil=>exact bO (cg (by rw [len]; rfl)) z| cons _ _=>rfl);have q':∀ H',aF H H'->Q (.bl (xs.all eU && sJ (xs.map λx=>intD (uT x)))) H':=λH' s=>(by have w:=q H' s;simp only [nU,ne,Bool.not_false,fJ] at w;exact w);refine ⟨a,rfl,⟨_,aH.of ha⟩,λD hD=>j9 (xs:=vs) (ys:=(xs.map eU).map V.bl) hD (aH.of ha) (by omega) (by rw [aL,aL]; omega) (λi x H' hx s2 b R hR=>?_) (λH' s2 e=>?_)⟩;obtain ⟨y,hy,ya⟩:=r.get hx;exact ⟨x,y,rfl,ya.same s2,λcM s=>hR cM _ (by rw [bL,bL,hy]; rfl) s⟩;refine ⟨D,_,rfl,aV.of e,?_⟩;rw [xR];(cases ea:xs.all eU with| false =>have w:=q' H' s2;rw [ea] at w;exact w| true =>rw [ea] at q';have form:∀(i:Nat)(y:Da),xs[i]?=some y->∃ p j,y=.tup [p,.int j]:=λi y hy=>(by refine bU λcu aQ=>?_;obtain ⟨z,j,e,_⟩:=Fd (fW.mp ea y (fG hy));subst aQ;exact ⟨_,j,e⟩);refine ⟨a,rfl,⟨_,aH.of (s2 _ _ ha)⟩,λD2 hD2=>j9 (xs:=vs) (ys:=(xs.map λx=>intD (uT x)).map V.int) hD2 (aH.of (s2 _ _ ha)) (by omega) (by rw [aL,aL]; omega) (λi x H2 hx s3 b R hR=>?_) (λH2 s3 e2=>?_)⟩;obtain ⟨y,hy,ya⟩:=r.get hx;obtain ⟨p,j,rfl⟩:=form i y hy;refine bU λcu aQ=>?_;obtain ⟨c,ws,ez7,hc,_,qb⟩:=(ya.same (s2.aA s3)).dW;subst aQ;subst ez7;refine bU λcu aQ=>?_;obtain ⟨w1,w2,ez8,g1,g2⟩:=qb.two;subst aQ;subst ez8;(cases g2 with| int _ =>refine ⟨c,_,rfl,aH.of hc,rfl,_,_,rfl,_,_,rfl,rfl,?_⟩;exact hR H2 _ (by rw [bL,bL,hy]; rfl) (aF.refl _));refine ⟨D2,_,_,rfl,e2,by rw [aL,aL]; omega,.inl ⟨_,rfl,rfl⟩,λH3 s4=>?_⟩;exact q' H3 ((s2.aA s3).aA s4))| _=>exact q H (aF.refl H)
theorem Gd:cW ["thing","name","low","high","drift","runs"] ["thing"] (bw Lh):=dX
theorem ajn(F:eY K "is_house" Lh f fd)(T:Txt mg t8 t6 tR tL)(zM:Cl P w K mg base 3 "has_parts" ["thing","many"] rK)(Vn:Cl P w K mg base 3 "is_clock" ["name","low","high","drift"] MP)(apf:Cl P w K mg base 3 "is_run" ["thing"] (gQ nU)):bf P w K mg base bB 4 f fd ["thing"] (gQ jl):=by
 refine F.ok Gd (λvs H Q E h=>?_) (λcdv A outer s H vs Q E hr h=>?_)
 . obtain ⟨x,d,rfl,_⟩:=h;rfl
 . obtain ⟨x,d,rfl,hd,q⟩:=h;have dO:=cQ;refine ⟨_,(aP (cP (dg (dD (pC zM hr (aq (pV 0) (aq aM aD))))) (aU (bx dG)) cN) (aP (vY (pV 0) (jG rfl (cI (pY 1 Gd) (cI (pY 2 Gd) (cI (pY 3 Gd) (cI (pY 4 Gd) (cI (pY 5 Gd) jE))))))) (aP (cP (jP (dg (dD (pC Vn hr (aq (pV 1) (aq (pV 2) (aq (pV 3) (aq (pV 4) aD))))))) (pw_or1 (dg (dD (bh kO rfl T.gK gG (aq (pV 5) (aq (jV (v:=.ty "tuple") rfl T.tuple jA rfl) aD))))))) (aU (bx dG)) cN) (aU (bx (bh (pA rfl) rfl T.all mV (aq (iG (bN:=bw Lh) (own:=["run"]) (cap:=[]) (ix:=[]) rfl rfl fH (fY (pV 5)) (λb=>(pH 0 ["run"])) (λb=>fu) (λb=>(pC apf hr (aq (pV 0) aD)))) aD))))))),?_⟩;refine ⟨x,d,5,rfl,hd,?_⟩
   have no:∀ d',oA d' 5=false->jl d'=false:=λd' h=>by
     cases d' with
     | tup xs =>
       match xs,h with
       | [],_=>rfl
       | [_],_=>rfl
       | [_,_],_=>rfl
       | [_,_,_],_=>rfl
       | [_,_,_,_],_=>rfl
       | [_,_,_,_,_],h=>cases h
       | _ :: _ :: _ :: _ :: _ :: _ :: _,_=>rfl
     | _=>rfl
   cases e:oA d 5 with
   | false =>
     have z:=q H (aF.refl H);rw [no d e] at z;exact z
   | true =>
     cases d with
     | tup xs =>
       refine bU λcu aQ=>?_
       obtain ⟨a,vs,ez9,ha,rB,r⟩:=hd.dW;subst aQ;subst ez9;refine bU λcu aQ=>?_
       obtain ⟨y1,y2,y3,y4,y5,ajT⟩:=adR (dB e);subst aQ;subst ajT;refine bU λcu aQ=>?_
       obtain ⟨v1,v2,v3,v4,v5,afR,h1,h2,h3,h4,h5⟩:=r.five;subst aQ;subst afR;refine ⟨a,_,rfl,aH.of ha,rfl,_,_,rfl,_,_,rfl,_,_,rfl,_,_,rfl,_,_,rfl,rfl,?_⟩;refine ⟨v1,v2,v3,v4,y1,y2,y3,y4,rfl,h1,h2,h3,h4,λH1 s1=>?_⟩;cases ec:ql y1 y2 y3 y4 with
       | false =>
         have w:=q H1 s1;simp only [jl,ec,rY] at w;exact w
       | true =>
         have q':∀ H',aF H H'->Q (.bl (Dc y5)) H':=λH' s=>by
           have w:=q H' s;simp only [jl,ec,fJ] at w;exact w
         refine bU λcu aQ=>?_
         obtain ⟨_,⟨T',ty,kt⟩,_⟩:=(h5.same s1).kind (K:=K);subst aQ;refine ⟨_,_,_,_,rfl,ty,kt,?_⟩;cases y5 with
         | tup rs =>
           refine bU λcu aQ=>?_
           obtain ⟨c,ws,aiF,hc,lw,rr⟩:=(h5.same s1).dW;subst aQ;subst aiF;have len:=rr.len;refine ⟨c,rfl,⟨_,aH.of hc⟩,λD hD=>j9 (xs:=ws) (ys:=(rs.map nU).map V.bl) hD (aH.of hc) (by omega) (by rw [aL,aL]; omega) (λi x H' hx s2 b R hR=>?_) (λH' s2 e=>?_)⟩
           . obtain ⟨y,hy,ya⟩:=rr.get hx;exact ⟨x,y,rfl,ya.same s2,λcM s=>hR cM _ (by rw [bL,bL,hy]; rfl) s⟩
           . refine ⟨D,_,rfl,aV.of e,?_⟩;rw [xR];exact q' H' (s1.aA s2)
         | _=>exact q' H1 s1
     | _=>cases e
theorem ai4:cW ["house"] ["house"] (bw K8):=dX
theorem anj(F:eY K "rows_in" K8 f fd):bf P w K mg base bB 1 f fd ["house"] Hf:=by refine F.ok ai4 (λvs H Q E h=>?_) (λcdv A outer s H vs Q E hr h=>?_);obtain ⟨x,hh,rfl,_⟩:=h;rfl;obtain ⟨x,hh,rfl,⟨a,b,rfl,ha,c,vs,rfl,hc,pr⟩,gd,q⟩:=h;have dO:=cQ;refine ⟨_,(aU (bx (acY (bN:=bw K8) (own:=["run","row"]) (cap:=[]) (ix:=[]) rfl rfl fH (fY (pX dY (pV 0) aM)) (λb=>(pH 0 ["run","row"])) (λb=>fu) (λb=>fY (pV 0)) (λb=>(pH 1 ["run","row"])) (λb=>fu) (λb=>pV 1)))),?_⟩;refine dI (aH.of ha) (i:=4) (v:=.ref c) (by rfl) ?_;refine ⟨c,rfl,⟨_,aH.of hc⟩,λD hD=>⟨WS vs.length (λi aj H'=>sY λo1 o2 zs=>QA3 (aj=[o1,o2]) (eG H H' D zs) (eX (je H) zs (hh.runs.take i).flatten)),ws0 ⟨none,none,[],rfl,eG.start hD,.nil⟩,λb=>Jj (xs:=vs) _ (λi aj H' _ hz1=>by obtain ⟨_,_,_,_,G,_⟩:=hz1; exact aH.of (G.same _ _ hc)) (fun aj H' hz2=>?_) (λi x aj H' hx hi hz3=>?_)⟩⟩;refine bU λcu aQ=>?_;obtain ⟨_,_,zs,_,G,pz⟩:=hz2;subst aQ;refine q D zs H' hD G.at' G.same ?_;rw [pr.length,lW] at pz;exact j4 (λ_ _ z=>z.ts G.same.dH) pz;refine bU λcu aQ=>?_;obtain ⟨o1,o2,zs,e,G,pz⟩:=hz3;subst aQ;subst e;refine bU λcu aQ=>?_;obtain ⟨r,hr',c2,ws,afk,hc2,pr2⟩:=iK pr hx;subst aQ;subst afk;have gr:=gd.runs r (fG hr');refine ⟨c2,rfl,⟨_,aH.of (G.same _ _ hc2)⟩,WS ws.length (λj aj cM=>∃ o2 zs',aj=[bY c2,o2]/\eG H cM D zs'/\eX (je H) zs' ((hh.runs.take i).flatten++r.take j)),ws0 ⟨o2,zs,rfl,G,by rw [Bf,Cv]; exact pz⟩,Jj (xs:=ws) _ (λj aj cM _ hz1=>by obtain ⟨_,_,_,G',_⟩:=hz1; exact aH.of (G'.same _ _ hc2)) (fun aj cM ⟨o2',zs',e',G',pz'⟩=>nxs hi ⟨_,_,zs',e',G',?_⟩) (λj y aj cM hy hj hz3=>?_)⟩;rw [pr2.length,lW] at pz';rw [fZ,hr',Ej];simpa using pz';refine bU λcu aQ=>?_;obtain ⟨o2',zs',e',G',pz'⟩:=hz3;subst aQ;subst e';obtain ⟨rr,hrr,ra⟩:=iK pr2 hy;have hl:=pz'.length;have hl1:=Ka (l:=hh.runs.take i) (n:=25) λq hq=>(gd.runs q (xW hq)).few;have hl2:(hh.runs.take i).length<=25:=jF (Vd i hh.runs) gd.few;have hl3:(hh.runs.take i).length * 25<=25 * 25:=Ny 25 hl2;have hl4:=gr.few;rw [dZ,gR] at hl;refine ⟨zs',G'.at',by omega,nxs hj ⟨_,zs'++[y],rfl,G'.put hD y,?_⟩⟩;rw [fZ,hrr,<- pQ];exact Aw pz' (.cons ra .nil)
theorem ahw:cW ["houses"] ["houses"] (bw K7):=dX
theorem afb(F:eY K "row_names" K7 f fd)(Ca:Cl P w K mg base 1 "rows_in" ["house"] Hf):bf P w K mg base bB 2 f fd ["houses"] LK:=by refine F.ok ahw (λvs H Q E h=>?_) (λcdv A outer s H vs Q E hr h=>?_);obtain ⟨x,hs,rfl,_⟩:=h;rfl;obtain ⟨x,hs,rfl,⟨c,vs,rfl,hc,pr⟩,h6,gd,q⟩:=h;have dO:=cQ;refine ⟨_,(aU (bx (acY (bN:=bw K7) (own:=["house","name","reading"]) (cap:=[]) (ix:=[]) rfl rfl fH (fY (pV 0)) (λb=>(pH 0 ["house","name","reading"])) (λb=>fu) (λb=>vR (pC Ca hr (aq (pV 0) aD))) (λb=>(jG rfl (cI (pH 1 ["house","name","reading"]) (cI (pH 2 ["house","name","reading"]) jE)))) (λb=>fu) (λb=>pV 1)))),?_⟩;refine ⟨c,rfl,⟨_,aH.of hc⟩,λD hD=>⟨WS vs.length (λi aj H'=>∃ o1 o2 o3,aj=[o1,o2,o3]/\eG H H' D (((hs.take i).flatMap cV).map V.str)),ws0 ⟨none,none,none,rfl,eG.start hD⟩,λb=>Jj (xs:=vs) _ (λi aj H' _ hz4=>by obtain ⟨_,_,_,_,G⟩:=hz4; exact aH.of (G.same _ _ hc)) (fun aj H' hz5=>?_) (λi x aj H' hx hi hz6=>?_)⟩⟩;refine bU λcu aQ=>?_;obtain ⟨_,_,_,_,G⟩:=hz5;subst aQ;refine q D H' hD ?_ G.same;have e:=G.at';rw [pr.length,lW] at e;exact e;refine bU λcu aQ=>?_;obtain ⟨o1,o2,o3,e,G⟩:=hz6;subst aQ;subst e;obtain ⟨h,hh',ha⟩:=iK pr hx;have gh:=gd h (fG hh');refine ⟨x,h,rfl,ha.ts G.same.dH,gh,λl zs H2 hl el s2 pz=>?_⟩;have nlD:l≠D:=λz=>(by subst z; rw [G.at'] at hl; cases hl);have G2:=G.more s2;refine ⟨l,rfl,⟨_,aV.of el⟩,WS zs.length (λj aj cM=>rz λo2 o3=>rG (aj=[some x,o2,o3]) (eG H cM D (((hs.take i).flatMap cV++((iT h).take j).map dw).map V.str)) (cM l=some (.lst zs)) (jc H2 cM)),ws0 ⟨o2,o3,rfl,by simpa using G2,el,jc.refl _⟩,abA (xs:=zs) _ (λj aj cM _ hz4=>by obtain ⟨_,_,_,_,e',_⟩:=hz4; exact aV.of e') (fun aj cM ⟨o2',o3',e',G',_,_⟩=>nxs hi ⟨_,_,_,e',?_⟩) (λj y aj cM hy hj hz6=>?_)⟩;rw [pz.length,lW] at G';rw [fZ,hh',nJ];simpa [cV] using G';refine bU λcu aQ=>?_;obtain ⟨o2',o3',e',G',el',t'⟩:=hz6;subst aQ;subst e';obtain ⟨rr,hrr,ra⟩:=iK pz hy;obtain ⟨ra1,rfl,ra2⟩:=ra.ts t';refine ⟨ra1,_,rfl,aH.of ra2,rfl,_,_,rfl,_,_,rfl,rfl,?_⟩;have hl1:((hs.take i).flatMap cV).length<=(hs.take i).length * 625:=(by rw [Kq];have z:=Ka (l:=(hs.take i).map cV) (n:=625) λq hq=>(by obtain ⟨k,hk,rfl⟩:=cZ.mp hq;have z1:=(gd k (xW hk)).len;show ((iT k).map dw).length<=625;rw [aL]; exact z1);rw [aL] at z;exact z);have hl2:(hs.take i).length<=6:=jF (Vd i hs) h6;have hl3:(hs.take i).length * 625<=6 * 625:=Ny 625 hl2;have hl4:=gh.len;refine ⟨_,G'.at',by rw [aL,dZ,aL,gR]; omega,nxs hj ⟨_,_,rfl,?_,?_,t'.put G'.at' (λ_ z=>nomatch z)⟩⟩;have z:=G'.put hD (V.str rr.1);rw [fZ,hrr];simpa using z;rw [aW nlD]; exact el'
theorem an9:cW ["names"] ["names"] (bw W9):=dX
theorem aph(F:eY K "are_unlike" W9 f fd)(T:Txt mg t8 t6 tR tL):bf P w K mg base bB 1 f fd ["names"] K1:=by refine F.ok an9 (λvs H Q E h=>?_) (λcdv A outer s H vs Q E hr h=>?_);obtain ⟨x,hs,rfl,_⟩:=h;rfl;obtain ⟨a,ss,rfl,ha,few,q⟩:=h;have ek:(ss.map (bR:Str->Key)).map kV=ss.map V.str:=(by rw [nA]; rfl);refine ⟨_,(aU (bx (jW oEq (bh Oz rfl T.len gO (aq (oO (Wg rfl) rfl T.set PB (aq (pV 0) aD)) aD)) (bh jy rfl T.len gO (aq (pV 0) aD)) (cX _)))),?_⟩;refine ⟨a,ss.map bR,rfl,aV.of (by rw [ek]; exact ha),by rw [aL]; omega,λl hl=>?_⟩;refine ⟨l,ss.map bR,rfl,aX,?_⟩;have s1:=(aF.refl H).upd (o:=.ext (FJ P w l (ss.map bR))) hl;refine ⟨a,ss.map V.str,rfl,.inl (aV.of (s1 _ _ ha)),?_⟩;show Q (.bl (decide (((eZ (ss.map bR) (ss.map (bR:Str->Key)).length).length:Int)=((ss.map V.str).length:Int)))) _;have e:decide (((eZ (ss.map bR) (ss.map (bR:Str->Key)).length).length:Int)=((ss.map V.str).length:Int))=decide ss.Nodup:=(by rw [lY,decide_eq_true_iff,decide_eq_true_iff,aL,aL];constructor;intro z;have z2:=Xm (ks:=ss.map (bR:Str->Key)) ss.length (by rw [aL]; exact bG _) (by omega);rw [lF (by rw [aL]; exact bG _)] at z2;rw [pU,yC] at z2;rw [pU];exact z2.imp λh e=>h (by rw [e]);intro z;have nk:(ss.map (bR:Str->Key)).Nodup:=(by rw [pU,yC];exact (pU.mp z).imp λh z=>h (rD z));rw [Xa nk _ (by rw [aL]; exact bG _),gR,aL];omega);rw [e];exact q _ s1
variable{d:Da}
theorem apP(h:oA d 2=false):eU d=false:=by
 cases d with
 | tup xs =>
   match xs,h with
   | [],_=>rfl
   | [_],_=>rfl
   | [_,_],h=>cases h
   | _ :: _ :: _ :: _,_=>rfl
 | _=>rfl
theorem ajc:cW ["_law_thing"] ["_law_thing"] (bw Rx):=dX
variable{hv:Option aB}
theorem anE(F:eY K "_law_whole" Rx f fd)(T:Txt mg t8 t6 tR tL):jT P w K mg base hv 1 f fd ["_law_thing"] (tY K):=by refine F.okH ajc (λvs H Q E h=>?_) (λcdv A outer s H vs Q E hh hr hsh h=>?_);obtain ⟨x,rfl,_⟩:=h;rfl;obtain ⟨x,rfl,⟨⟨T',ty⟩,_⟩,q⟩:=h;refine ⟨_,aU (bx (mZ (bh kO rfl T.gK gG (aq (pV 0) (aq (jV (v:=.ty "int") rfl T.int Z6 rfl) aD))) (oF (VG (bh kO rfl T.gK gG (aq (pV 0) (aq (jV (v:=.ty "bool") rfl T.bool R0 rfl) aD))))))),?_⟩;obtain ⟨k1,k2,_,_⟩:=vm ty;have e:=ab2 ty;refine ⟨x,_,_,_,rfl,ty,k1,?_⟩;cases q1:uW T' "int" with| false =>rw [q1] at e;rw [<- e] at q;exact q| true =>rw [q1] at e;refine ⟨x,_,_,_,rfl,ty,k2,?_⟩;show Q (.bl (!uW T' "bool")) H;rw [<- e] at q;simpa using q
theorem amf:("abcdefghijklmnopqrstuvwxyz" : Str).cps.toList=(iQ 26).map (97+·):=by decide +kernel
theorem afO(c:Nat):(!(ad8 ("abcdefghijklmnopqrstuvwxyz" : Str) ⟨#[c]⟩ 0 ("abcdefghijklmnopqrstuvwxyz" : Str).length 1).isEmpty)=low c:=by rw [StrLaws.found_one,amf,lY,decide_eq_true_iff];simp only [cZ,uI,low,pF,decide_eq_true_iff];exact ⟨λ⟨i,h,e⟩=>by omega,λh=>⟨c-97,by omega,by omega⟩⟩
theorem aof:cW ["_law_thing"] ["_law_thing"] (bw Nk):=dX
theorem agj(F:eY K "_law_name" Nk f fd)(T:Txt mg t8 t6 tR tL):jT P w K mg base hv 1 f fd ["_law_thing"] (uR K):=by refine F.okH aof (λvs H Q E h=>?_) (λcdv A outer s H vs Q E hh hr hsh h=>?_);obtain ⟨x,rfl,_⟩:=h;rfl;obtain ⟨x,rfl,⟨⟨T',ty⟩,hz⟩,q⟩:=h;refine ⟨_,aP (cP (jP (dg (dD (bh kO rfl T.gK gG (aq (pV 0) (aq (jV (v:=.ty "str") rfl T.str PJ rfl) aD))))) (pw_or (gM oLt (bh KD rfl T.len gO (aq (pV 0) aD)) aM (cX _)) (pw_or1 (gM wu (bh KD rfl T.len gO (aq (pV 0) aD)) aM (cX _))))) (aU (bx dG)) cN) (aU (bx (bh (X5 hh) rfl T.all mV (aq (Mg (bN:=bw Nk) (own:=["_law_sign"]) (cap:=[]) (ix:=[]) hh rfl fH (an2 (pV 0)) (λb=>pH 0 ["_law_sign"]) (λb=>fu) (λb=>jW ah7 (pV 0) qC (by with_unfolding_all rfl))) aD)))),?_⟩;obtain ⟨_,_,k3,_⟩:=vm ty;refine ⟨x,_,_,_,rfl,ty,k3,?_⟩;cases q1:uW T' "str" with| false =>have e:jN x=false:=(by cases ty <;> first | rfl | exact bO q1 (by decide));rw [e] at q;exact q H (aF.refl H)| true =>obtain ⟨z,rfl⟩:∃ z,x=.str z:=(by cases ty <;> first | exact ⟨_,rfl⟩ | exact bO q1 (by decide));have hz':=hz z rfl;refine ⟨z,rfl,hz',?_⟩;refine fQ (λh1=>?_) (λh1=>?_);have e:jN (.str z)=false:=(by have h1':¬ 1<=z.length:=(by have:=dB h1; omega);simp [jN,h1']);rw [e] at q;exact q H (aF.refl H);have h1':1<=z.length:=(by have:¬ (z.length:Int)<1:=λh=>h1 (cg h); omega);refine ⟨z,rfl,hz',?_⟩;refine fQ (λh2=>?_) (λh2=>?_);have e:jN (.str z)=false:=(by have h2':¬ z.length<=8:=(by have:=dB h2; omega);simp [jN,h2']);rw [e] at q;exact q H (aF.refl H);have h2':z.length<=8:=(by have:¬ (8:Int)<z.length:=λh=>h2 (cg h); omega);refine ⟨z,rfl,λD hD=>KJ <| Yy (λi H'=>eG H H' D ((z.cps.toList.take i).map λc=>V.bl (low c))) (eG.start hD) (λH' G=>?_) (λi c H' hc hi G b=>?_)⟩;refine ⟨hsh.same G.same,D,z.cps.toList.map low,rfl,aV.of (by rw [G.at',aew (by simp),nA]; rfl),hsh.same G.same,?_⟩;have e:jN (.str z)=(z.cps.toList.map low).all id:=(by simp [jN,h1',h2',uD]);rw [e] at q;exact q H' G.same;have sz:z.cps.size<=aO:=hz';refine ⟨_,_,rfl,rfl,?_⟩;rw [afO];refine ⟨_,G.at',RJ hi sz,nx hi ?_⟩;show eG H _ D ((z.cps.toList.take (i+1)).map λc=>V.bl (low c));rw [ZL (abr hc)];exact G.put hD _
theorem agU:cW ["_law_thing","_law_size"] ["_law_thing","_law_size"] (bw Vw):=dX
theorem afD(F:eY K "_law_sized" Vw f fd)(T:Txt mg t8 t6 tR tL):jT P w K mg base hv 1 f fd ["_law_thing","_law_size"] rK:=by refine F.okH agU (λvs H Q E h=>?_) (λcdv A outer s H vs Q E hh hr hsh h=>?_);obtain ⟨x,d,n,rfl,_⟩:=h;rfl;obtain ⟨x,d,n,rfl,hd,q⟩:=h;obtain ⟨_,⟨T',ty,kt⟩,_⟩:=hd.kind (K:=K);refine ⟨_,(aU (bx (mZ (bh kO rfl T.gK gG (aq (pV 0) (aq (jV (v:=.ty "tuple") rfl T.tuple jA rfl) aD))) (oF (jW oEq (bh jy rfl T.len gO (aq (pV 0) aD)) (pV 1) (cX _)))))),?_⟩;refine ⟨_,_,_,_,rfl,ty,kt,?_⟩;cases d with| tup xs =>refine bU λcu aQ=>?_;obtain ⟨a,vs,ez1,ha,rB,r⟩:=hd.dW;subst aQ;subst ez1;refine ⟨a,vs,rfl,.inr (aH.of ha),?_⟩;show Q (.bl (decide ((vs.length:Int)=(n:Int)))) H;have e:decide ((vs.length:Int)=(n:Int))=decide (xs.length=n):=(by rw [r.len,lY,decide_eq_true_iff,decide_eq_true_iff]; omega);rw [e]; exact q| _=>exact q
noncomputable def Fx:Da->Bool
 | .tup xs=>xs.all eU
 | _=>false
theorem anF:cW ["_law_thing"] ["_law_thing"] (bw M8):=dX
theorem agf(F:eY K "_law_pairs_good" M8 f fd)(T:Txt mg t8 t6 tR tL)(yG:Cl P w K mg base 1 "_law_sized" ["_law_thing","_law_size"] rK)(Ak:Cl P w K mg base 1 "_law_name" ["_law_thing"] (uR K))(wZ:Cl P w K mg base 1 "_law_whole" ["_law_thing"] (tY K)):bf P w K mg base bB 2 f fd ["_law_thing"] (gQ Fx):=by refine F.ok anF (λvs H Q E h=>?_) (λcdv A outer s H vs Q E hr h=>?_);obtain ⟨x,d,rfl,_⟩:=h;rfl;obtain ⟨x,d,rfl,hd,q⟩:=h;have dO:=cQ;obtain ⟨_,⟨T',ty,kt⟩,_⟩:=hd.kind (K:=K);refine ⟨_,(aP (cP (dg (dD (bh kO rfl T.gK gG (aq (pV 0) (aq (jV (v:=.ty "tuple") rfl T.tuple jA rfl) aD))))) (aU (bx dG)) cN) (aU (bx (bh (pA rfl) rfl T.all mV (aq (iG (bN:=bw M8) (own:=["_law_one"]) (cap:=[]) (ix:=[]) rfl rfl fH (fY (pV 0)) (λb=>(pH 0 ["_law_one"])) (λb=>fu) (λb=>(mZ (pC yG hr (aq (pV 0) (aq aM aD))) (mZ (pC Ak hr (aq (pX dY (pV 0) aM) aD)) (oF (pC wZ hr (aq (pX dY (pV 0) aM) aD))))))) aD))))),?_⟩;refine ⟨_,_,_,_,rfl,ty,kt,?_⟩;cases d with| tup xs =>obtain ⟨a,vs,rfl,ha,rB,r⟩:=hd.dW;have len:=r.len;refine ⟨a,rfl,⟨_,aH.of ha⟩,λD hD=>j9 (xs:=vs) (ys:=(xs.map eU).map V.bl) hD (aH.of ha) (by omega) (by rw [aL,aL]; omega) (λi x H' hx s2 b R hR=>?_) (λH' s2 e=>?_)⟩;obtain ⟨y,hy,ya⟩:=r.get hx;have hd:=ya.same s2;have q:∀ cM,aF H' cM->R (.bl (eU y)) cM:=λcM s=>hR cM _ (by rw [bL,bL,hy]; rfl) s;clear hR;refine ⟨x,y,2,rfl,hd,?_⟩;(cases e:oA y 2 with| false =>have z:=q H' (aF.refl H');rw [apP e] at z;exact z| true =>cases y with| tup xs =>obtain ⟨a,vs,rfl,ha,rB,r⟩:=hd.dW;obtain ⟨y,z,rfl⟩:=len2 (dB e);obtain ⟨v1,v2,rfl,h1,h2⟩:=r.two;refine dI (aH.of ha) (i:=0) (v:=v1) (by rfl) ?_;obtain ⟨th,_,_,n1⟩:=h1.kind (K:=K);refine ⟨v1,rfl,th,λH1 s1=>?_⟩;rw [n1];(cases e2:lJ y with| false =>have w:=q H1 s1;simp only [eU,e2,rY] at w;exact w| true =>refine dI (aH.of (s1 _ _ ha)) (i:=1) (v:=v2) (by rfl) ?_;obtain ⟨Aa,_,w2,_⟩:=(h2.same s1).kind (K:=K);refine ⟨v2,rfl,Aa,?_⟩;rw [w2];have w:=q H1 s1;simp only [eU,e2,fJ] at w;exact w)| _=>cases e);refine ⟨D,_,rfl,aV.of e,?_⟩;rw [xR];exact q H' s2| _=>exact q H (aF.refl H)
noncomputable def jg:Da->Bool
 | .tup [n,l,h,d]=>ql n l h d
 | _=>false
theorem ac0(h:oA d 4=false):jg d=false:=by
 cases d with
 | tup xs =>
   match xs,h with
   | [],_=>rfl
   | [_],_=>rfl
   | [_,_],_=>rfl
   | [_,_,_],_=>rfl
   | [_,_,_,_],h=>cases h
   | _ :: _ :: _ :: _ :: _ :: _,_=>rfl
 | _=>rfl
variable{H:Hp}{v:V}
theorem NQ(h:bD H v d)(e:gW d=true):∃ i,d=.int i/\v=.int i:=by cases h with| int i=>exact ⟨i,rfl,rfl⟩| _=>cases e
theorem aoE:cW ["_law_thing"] ["_law_thing"] (bw MK):=dX
theorem apa{Tt V8 Vk:au}{aer abt aaT:jU}(F:eY K "_law_clock_good" MK f fd)(T:Txt mg t8 t6 tR tL)(yG:jT P w K mg base hv 1 Tt aer ["_law_thing","_law_size"] rK)(ahc:mg "_law_sized" = some (.ref Tt))(aht:nu K (.ref Tt)=true)(alS:cj K aer ["_law_thing","_law_size"] [])(Ak:jT P w K mg base hv 1 V8 abt ["_law_thing"] (uR K))(aoI:mg "_law_name" = some (.ref V8))(an8:nu K (.ref V8)=true)(aiu:cj K abt ["_law_thing"] [])(wZ:jT P w K mg base hv 1 Vk aaT ["_law_thing"] (tY K))(apb:mg "_law_whole" = some (.ref Vk))(agH:nu K (.ref Vk)=true)(ajj:cj K aaT ["_law_thing"] []):jT P w K mg base hv 2 f fd ["_law_thing"] (gQ jg):=by refine F.okH aoE (λvs H Q E h=>?_) (λcdv A outer s H vs Q E hh hr hsh h=>?_);obtain ⟨x,d,rfl,_⟩:=h;rfl;obtain ⟨x,d,rfl,hd,q⟩:=h;have dO:=cQ;refine ⟨_,(aP (cP (jP (dg (dD (Em yG hh hr rfl ahc aht alS .nil (aq (pV 0) (aq aM aD))))) (pw_or1 (dg (dD (Em Ak hh hr rfl aoI an8 aiu .nil (aq (pX dY (pV 0) aM) aD)))))) (aU (bx dG)) cN) (aP (cP (dg (dD (bh (X5 hh) rfl T.all mV (aq (Mg (bN:=bw MK) (own:=["_law_number"]) (cap:=[]) (ix:=[]) hh rfl fH (Wo (jo qP (pV 0) (iu aM) kZ)) (λb=>(pH 0 ["_law_number"])) (λb=>fu) (λb=>(Em wZ hh hr rfl apb agH ajj .nil (aq (pV 0) aD)))) aD)))) (aU (bx dG)) cN) (aU (bx (mZ (jW oLe (pX dY (pV 0) aM) (pX dY (pV 0) aM) (cX _)) (oF (jW oGe (pX dY (pV 0) aM) aM (cX _)))))))),?_⟩;refine ⟨hsh,x,d,4,rfl,hd,?_⟩;cases e:oA d 4 with| false =>have z:=q H (aF.refl H);rw [ac0 e] at z;exact z| true =>cases d with| tup xs =>obtain ⟨a,vs,rfl,ha,rB,r⟩:=hd.dW;obtain ⟨n,l,h,dd,rfl⟩:=Il (dB e);obtain ⟨v1,v2,v3,v4,rfl,h1,h2,h3,h4⟩:=r.four;refine dI (aH.of ha) (i:=0) (v:=v1) (by rfl) ?_;obtain ⟨th,_,_,n1⟩:=h1.kind (K:=K);refine ⟨hsh,v1,rfl,th,λH1 s1=>?_⟩;rw [n1];(cases e2:lJ n with| false =>have w:=q H1 s1;simp only [jg,ql,e2,rY] at w;exact w| true =>refine ⟨a,_,rfl,s1 _ _ ha,λp H2 hp s2=>?_⟩;have ec:jt [v1,v2,v3,v4] (some 1) none=[v2,v3,v4]:=rfl;rw [ec] at hp;have S2:=s1.aA s2;have rr:cH H2 [v2,v3,v4] [l,h,dd]:=.cons (h2.same S2) (.cons (h3.same S2) (.cons (h4.same S2) .nil));refine ⟨p,rfl,⟨_,aH.of hp⟩,λD hD=>KJ <| j9 (xs:=[v2,v3,v4]) (ys:=([l,h,dd].map gW).map V.bl) hD (aH.of hp) (by show 3<=aO; omega) rfl (λi x H' hx s3 b R hR=>?_) (λH3 s3 e3=>?_)⟩;obtain ⟨y,hy,ya⟩:=rr.get hx;obtain ⟨Aa,_,w2,_⟩:=(ya.same s3).kind (K:=K);refine ⟨hsh.same (S2.aA s3),x,rfl,Aa,?_⟩;rw [w2];exact hR H' _ (by rw [bL,bL,hy]; rfl) (aF.refl _);refine ⟨hsh.same (S2.aA s3),D,_,rfl,aV.of e3,hsh.same (S2.aA s3),?_⟩;rw [xR];have S3:=S2.aA s3;have q3:=q H3 S3;cases e4:[l,h,dd].all gW with| false =>have e5:jg (.tup [n,l,h,dd])=false:=(by simp only [pP,Us,DR] at e4;simp only [jg,ql,e2,e4,rY,yP]);rw [e5] at q3;exact q3| true =>simp only [pP,Us,DR] at e4;obtain ⟨w1,w2⟩:=cB.mp e4;obtain ⟨w2,w3⟩:=cB.mp w2;obtain ⟨i1,rfl,rfl⟩:=NQ h2 w1;obtain ⟨i2,rfl,rfl⟩:=NQ h3 w2;obtain ⟨i3,rfl,rfl⟩:=NQ h4 w3;refine dI (aH.of (S3 _ _ ha)) (i:=1) (v:=.int i1) (by rfl) ?_;refine dI (aH.of (S3 _ _ ha)) (i:=2) (v:=.int i2) (by rfl) ?_;have e5:jg (.tup [n,.int i1,.int i2,.int i3])=(decide (i1<=i2) && decide (0<=i3)):=(by simp only [jg,ql,e2,gW,intD,fJ]; rfl);rw [e5] at q3;show (if decide (i1<=i2)=true then _ else _);cases e6:decide (i1<=i2) with| false =>rw [e6] at q3;exact q3| true =>refine dI (aH.of (S3 _ _ ha)) (i:=3) (v:=.int i3) (by rfl) ?_;rw [e6] at q3;exact q3)| _=>cases e
noncomputable def offs(rs:List Row)(m:Str->Int):List Int:=rs.map λr=>r.2-m r.1
noncomputable def kE(rs:List Row)(d:Int)(m:Str->Int):Bool:=decide (∀ a∈offs rs m,∀ b∈offs rs m,a-b<=d)
noncomputable def mO(h:bK)(m:Str->Int)(r:Row):Bool:=decide (h.low<=r.2-m r.1) && decide (r.2-m r.1<=h.high)
noncomputable def pN(m:Str->Int)(p:Str × Str):Bool:=decide (1<=m p.2-m p.1)
noncomputable def mJ(h:bK)(m:Str->Int):Bool:=(iT h).all (mO h m) && (((cV h).zip ((cV h).drop 1)).all (pN m) && h.runs.all λr=>kE r h.bZ m)
noncomputable def pI(l:gY)(m:Str->Int):Bool:=decide (l.2.1<=m l.1.2-m l.1.1) && (match l.2.2 with | none=>true | some z=>decide (m l.1.2-m l.1.1<=z))
noncomputable def sW(hs:List bK)(ls:List gY)(m:Str->Int):Bool:=hs.all (λh=>mJ h m) && ls.all λl=>pI l m
noncomputable def mQ(m:Str->Int):List Str->Bool
 | a :: b :: r=>pN m (a,b) && mQ m (b :: r)
 | _=>true
theorem adb(m:Str->Int):∀ l:List Str,(l.zip (l.drop 1)).all (pN m)=mQ m l
 | []=>rfl
 | [_]=>rfl
 | a :: b :: r=>by have z:=adb m (b :: r);show (pN m (a,b) && ((b :: r).zip r).all (pN m))=(pN m (a,b) && mQ m (b :: r));rw [<- z]; rfl
theorem J9(m:Str->Int):∀(l:List Str)(n:Str),mQ m (l++[n])=(mQ m l && (match l.getLast? with | none=>true | some a=>pN m (a,n)))
 | [],n=>rfl
 | [a],n=>by simp [mQ]
 | a :: b :: r,n=>by have z:=J9 m (b :: r) n;show (pN m (a,b) && mQ m ((b :: r)++[n]))=_;rw [z,List.getLast?_cons_cons];show _=(pN m (a,b) && mQ m (b :: r) && _);rw [Bool.and_assoc]
theorem aeG(m:Str->Int):∀(l r:List Str),mQ m (l++r)=true->mQ m l=true
 | [],_,_=>rfl
 | [a],_,_=>rfl
 | a :: b :: l,r,h=>by have h':(pN m (a,b) && mQ m ((b :: l)++r))=true:=h;obtain ⟨h1,h2⟩:=cB.mp h';exact cB.mpr ⟨h1,aeG m (b :: l) r h2⟩
noncomputable def yQ(d:Int)(m:Str->Int)(r q:Row):Bool:=decide ((q.2-m q.1)-(r.2-m r.1)<=d) && decide (0-d<=(q.2-m q.1)-(r.2-m r.1))
variable{rs:List Row}{r:Row}{d:Int}{m:Str->Int}
theorem alG(d0:0<=d)(h:kE rs d m=true)(hp:∀ q∈rs,yQ d m r q=true):kE (rs++[r]) d m=true:=by unfold kE at h |-;have h':=dB h;refine cg λa ha b hb=>?_;have pr:∀ q∈rs,(q.2-m q.1)-(r.2-m r.1)<=d/\0-d<=(q.2-m q.1)-(r.2-m r.1):=λq hq=>(by have z:=hp q hq;unfold yQ at z;obtain ⟨z1,z2⟩:=cB.mp z;exact ⟨dB z1,dB z2⟩);unfold offs at ha hb h';rw [jq] at ha hb;rcases iC.mp ha with ha | ha;rcases iC.mp hb with hb | hb;exact h' a ha b hb;obtain ⟨q,hq,rfl⟩:=cZ.mp ha;have:=pr q hq;have e:b=r.2-m r.1:=(by simpa using hb);omega;have e:a=r.2-m r.1:=(by simpa using ha);rcases iC.mp hb with hb | hb;obtain ⟨q,hq,rfl⟩:=cZ.mp hb;have:=pr q hq;omega;have e2:b=r.2-m r.1:=(by simpa using hb);omega
theorem anH{q:Row}(hr:r∈rs)(hq:q∈rs)(h:yQ d m r q=false):kE rs d m=false:=by cases e:kE rs d m with| false=>rfl| true =>unfold kE at e;have h':=dB e;have z1:=h' _ (mW (f:=λr=>r.2-m r.1) hq) _ (mW (f:=λr=>r.2-m r.1) hr);have z2:=h' _ (mW (f:=λr=>r.2-m r.1) hr) _ (mW (f:=λr=>r.2-m r.1) hq);unfold yQ at h;simp only [Bool.and_eq_false_iff,decide_eq_false_iff_not] at h;omega
variable{hs:List bK}{ls:List gY}
theorem Ss{h:bK}(hh:h∈hs)(e:mJ h m=false):sW hs ls m=false:=by cases z:sW hs ls m with| false=>rfl| true =>have z1:=(cB.mp z).1;rw [fW.mp z1 h hh] at e;cases e
theorem Er{h:bK}:mJ h m=true↔(∀ r∈iT h,mO h m r=true)/\mQ m (cV h)=true/\∀ r∈h.runs,kE r h.bZ m=true:=by unfold mJ;rw [pF,pF,adb,fW,fW]
theorem Uv{h:bK}(n:¬ ((∀ r∈iT h,mO h m r=true)/\mQ m (cV h)=true/\∀ r∈h.runs,kE r h.bZ m=true)):mJ h m=false:=by cases z:mJ h m with| false=>rfl| true=>exact bO (Er.mp z) n
theorem ZM{l:gY}(hl:l∈ls)(e:pI l m=false):sW hs ls m=false:=by cases z:sW hs ls m with| false=>rfl| true =>have z1:=(cB.mp z).2;rw [fW.mp z1 l hl] at e;cases e
noncomputable def intOf:V->Int
 | .int i=>i
 | _=>0
noncomputable def gH(kvs:List (Key × V))(n:Str):Int:=match fO kvs (.inr n) with | some v=>intOf v | none=>0
variable{kvs:List (Key × V)}{n:Str}{i:Int}
theorem Ik(h:fO kvs (.inr n)=some (.int i)):gH kvs n=i:=by unfold gH; rw [h]; rfl
theorem acj:gH (eV kvs (.inr n) (.int i)) x=if x=n then i else gH kvs x:=by unfold gH;rw [Oo];by_cases e:x=n;rw [bI e,bI (by rw [e])]; rfl;rw [aZ e,aZ (λz=>e (rD z))]
variable{a b:List (Key × V)}
theorem afo(h:fO a (.inr n)=some (.int i)):gH (a++b) n=gH a n:=by unfold gH; rw [Qm,h]; rfl
theorem aol(h:fO a (.inr n)=none):gH (a++b) n=gH b n:=by unfold gH; rw [Qm,h]; rfl
theorem QH{m m':Str->Int}:∀{l:List Str},(∀ n∈l,m n=m' n)->mQ m l=mQ m' l
 | [],_=>rfl
 | [_],_=>rfl
 | a :: b :: r,h=>by show (pN m (a,b) && mQ m (b :: r))=(pN m' (a,b) && mQ m' (b :: r));rw [QH (l:=b :: r) λn hn=>h n (iM _ hn)];unfold pN;rw [h a gU,h b (iM _ gU)]
variable{m':Str->Int}
theorem ajv(h:∀ r∈rs,m r.1=m' r.1):offs rs m=offs rs m':=by unfold offs;exact J5 λr hr=>by rw [h r hr]
theorem acp(h:∀ r∈rs,m r.1=m' r.1):kE rs d m=kE rs d m':=by unfold kE; rw [ajv h]
theorem ZF{h:bK}(e:∀ n∈cV h,m n=m' n):mJ h m=mJ h m':=by rw [lY,Er,Er,QH e];have er:∀ r∈iT h,m r.1=m' r.1:=λr hr=>e _ (mW hr);have ed:∀ r∈h.runs,kE r h.bZ m=kE r h.bZ m':=λr hr=>acp λq hq=>er q (Bh.mpr ⟨r,hr,hq⟩);have e2:∀ r∈iT h,mO h m r=mO h m' r:=λr hr=>(by unfold mO; rw [er r hr]);exact ⟨λ⟨a,b,c⟩=>⟨λr hr=>(e2 r hr) ▸ a r hr,b,λr hr=>(ed r hr) ▸ c r hr⟩,λ⟨a,b,c⟩=>⟨λr hr=>(e2 r hr).symm ▸ a r hr,b,λr hr=>(ed r hr).symm ▸ c r hr⟩⟩
theorem anG(h:∀ k∈hs,mJ k m=true)(l:∀ k∈ls,pI k m=true):sW hs ls m=true:=by unfold sW;rw [pF,fW,fW];exact ⟨h,l⟩
theorem ajt{one other:Str}{g1 g2 lst:Int}{mo:Option Int}(e1:m one=g1)(e2:m other=g2)(h1:lst<=g2-g1)(h2:∀ x,mo=some x->g2-g1<=x):pI ((one,other),lst,mo) m=true:=by unfold pI;dsimp only;rw [e1,e2,cg h1];cases mo with| none=>rfl| some x=>exact cg (h2 x rfl)
noncomputable def qm(low wide bZ off:Int)(M:Str->Int)(mo:Int)(runs:List (List Row))(rs:List Row):Prop :=
 (∀ r∈runs.flatten++rs,low<=r.2-M r.1/\r.2-M r.1<=low+wide/\M r.1<=mo/\-20<=M r.1)/\mQ M ((runs.flatten++rs).map dw)=true/\(∀ r∈runs,kE r bZ M=true) /\
 ∀ r∈rs,r.2-M r.1=off\/(r.2-M r.1=off+1/\0<bZ/\off+1<=low+wide)
noncomputable def zZ(low wide bZ off mo:Int)(rd:Int):Prop:=rd=mo+off\/(rd=mo+off+1/\0<bZ/\off+1<=low+wide)
variable{wide bZ off mo:Int}{M:Str->Int}
theorem alC{low:Int}:qm low wide bZ off M mo [] []:=⟨λr hr=>by simp at hr,rfl,λr hr=>by simp at hr,λr hr=>by simp at hr⟩
variable{o:Int}{runs:List (List Row)}
theorem YL{low:Int}(h:qm low wide bZ off M mo runs []):qm low wide bZ o M mo runs []:=⟨h.1,h.2.1,h.2.2.1,λr hr=>by simp at hr⟩
variable{qx:Int}
theorem aac{low:Int}(h:qm low wide bZ off M mo runs rs)(l:mo<=qx):qm low wide bZ off M qx runs rs:=⟨λr hr=>by have:=h.1 r hr; omega,h.2⟩
theorem afI{low:Int}(h:qm low wide bZ off M mo runs rs)(d0:0<=bZ):kE rs bZ M=true:=by unfold kE offs;refine cg λa ha b hb=>?_;obtain ⟨r,hr,rfl⟩:=cZ.mp ha;obtain ⟨q,hq,rfl⟩:=cZ.mp hb;have:=h.2.2.2 r hr;have:=h.2.2.2 q hq;omega
theorem anQ{low:Int}(h:qm low wide bZ off M mo runs rs)(d0:0<=bZ):qm low wide bZ o M mo (runs++[rs]) []:=by have e:(runs++[rs]).flatten++[]=runs.flatten++rs:=(by simp);refine ⟨by rw [e]; exact h.1,by rw [e]; exact h.2.1,λr hr=>?_,λr hr=>by simp at hr⟩;rcases iC.mp hr with z | z;exact h.2.2.1 r z;rw [lg.mp z]; exact afI h d0
theorem aow{low:Int}{rd:Int}(h:qm low wide bZ off (gH kvs) mo runs rs)(lt:mo+1<=qx)(l20:-20<=qx)(nn:n ∉ (runs.flatten++rs).map dw)(ok:zZ low wide bZ off qx rd)(o0:low<=off)(o1:off<=low+wide):qm low wide bZ off (gH (eV kvs (.inr n) (.int qx))) qx runs (rs++[(n,rd)]):=by have ne:∀ r∈runs.flatten++rs,gH (eV kvs (.inr n) (.int qx)) r.1=gH kvs r.1:=λr hr=>(by rw [acj,aZ λz=>nn (cZ.mpr ⟨r,hr,z⟩)]);have nw:gH (eV kvs (.inr n) (.int qx)) n=qx:=(by rw [acj,bI rfl]);generalize gH (eV kvs (.inr n) (.int qx))=M' at ne nw;refine ⟨λr hr=>?_,?_,λr hr=>?_,λr hr=>?_⟩;rw [<- pQ] at hr;rcases iC.mp hr with z | z;have:=h.1 r z; rw [ne r z]; omega;rw [lg.mp z]; show low<=rd-M' n/\rd-M' n<=low+wide/\M' n<=qx/\-20<=M' n; rw [nw]; unfold zZ at ok; omega;rw [<- pQ,jq];show mQ M' (_++[n])=true;rw [J9,QH (m':=gH kvs) (λx hx=>by obtain ⟨r,hr,rfl⟩:=cZ.mp hx; exact ne r hr),h.2.1,fJ];(cases e:((runs.flatten++rs).map dw).getLast? with| none=>rfl| some a =>obtain ⟨r,hr,rfl⟩:=cZ.mp (acS e);have:=h.1 r hr;show decide (1<=M' n-M' r.1)=true;rw [nw,ne r hr];exact cg (by omega));rw [acp λq hq=>ne q (Jq _ (Bh.mpr ⟨r,hr,hq⟩))]; exact h.2.2.1 r hr;rcases iC.mp hr with z | z;rw [ne r (lV _ z)]; exact h.2.2.2 r z;rw [lg.mp z]; show rd-M' n=off\/_; rw [nw]; unfold zZ at ok; omega
theorem apq{low:Int}{rd:Int}(h:qm low wide bZ off M mo runs rs)(hr:r∈rs)(d0:0<=d)(ok:zZ low wide bZ off (mo+1+d) rd)(le:rd<=r.2):zZ low wide bZ off (mo+1+d) (r.2+1):=by have:=h.1 r (lV _ hr);have:=h.2.2.2 r hr;unfold zZ at ok |-;omega
theorem ao0{low:Int}(h:qm low wide bZ off M mo runs [])(l0:-20<=low)(l1:low<=20)(w0:0<=wide)(w1:wide<=300)(m1:mo<=660):∀ r∈runs.flatten,-1000<=r.2/\r.2<=1000:=λr hr=>by
 have:=h.1 r (Jq _ hr);omega
theorem aot{low:Int}{nm:Str}(h:qm low wide bZ off M mo runs []):mJ ⟨nm,low,low+wide,bZ,runs⟩ M=true:=by have e:runs.flatten++[]=runs.flatten:=(by simp);have h1:=h.1;have h2:=h.2.1;rw [e] at h1 h2;refine Er.mpr ⟨λr hr=>?_,h2,h.2.2.1⟩;have:=h1 r hr;unfold mO;rw [pF];exact ⟨cg this.1,cg this.2.1⟩
noncomputable def rE(H:Hp)(a:au)(m:Str->Int)(ns:List Str):Prop:=∃ kvs:List (Key × V),Rd H a (.dK kvs)/\∀ n∈ns,fO kvs (.inr n)=some (.int (m n))
variable{H':Hp}{a:au}{ns:List Str}
theorem rE.same(h:rE H a m ns)(s:mX H H'):rE H' a m ns:=let ⟨k,r,v⟩:=h; ⟨k,s.rd r,v⟩
theorem rE.part{ms:List Str}(h:rE H a m ns)(s:∀ n∈ms,n∈ns):rE H a m ms:=let ⟨k,r,v⟩:=h; ⟨k,r,λn hn=>v n (s n hn)⟩
theorem rE.get(h:rE H a m ns)(hn:n∈ns):lO H a (.str n) (some (.int (m n))):=by obtain ⟨k,r,v⟩:=h;exact .inl ⟨k,.inr n,r,rfl,(v n hn).symm⟩
noncomputable def V9:Sp:=λvs H Q _=>rz λ(x:V)(h:bK)=>rG (vs=[x]) (qD H x h) (pW h) (∀(S:au)(P:List (au × V × V))(H':Hp),H S=none->aF H H'->P.map (·.2)=((cV h).map V.str).zip (((cV h).drop 1).map V.str)->H' S=some (.lst (P.map λq=>.ref q.1))->(∀ q∈P,H' q.1=some (.tup [q.2.1,q.2.2]))->Q (.ref S) H')
noncomputable def Xp:Sp:=λvs H Q _=>sY λ(x:V)(hs:List bK)(ls:List gY)=>rG (vs=[x]) (uz H x hs ls) (tK hs) (∀(p:au)(ss:List Str)(H':Hp),H p=none->H' p=some (.tup (ss.map V.str))->aF H H'->ss.Perm (cG hs)->CN ss=true->Q (.ref p) H')
noncomputable def Qf:Sp:=λvs H Q _=>vZ λ(x:V)(rs:List Row)(d:Int)(a:au)(m:Str->Int)=>jJ (vs=[x,.int d,.ref a]) (oH H x rs) (yO rs) (rE H a m (rs.map dw)) (∀ H',aF H H'->Q (.bl (kE rs d m)) H')
noncomputable def Xb:Sp:=λvs H Q _=>qN λ(x:V)(h:bK)(a:au)(m:Str->Int)=>jJ (vs=[x,.ref a]) (qD H x h) (pW h) (rE H a m (cV h)) (∀ H',aF H H'->Q (.bl (mJ h m)) H')
noncomputable def QK:Sp:=λvs H Q _=>qN λ(x:V)(l:gY)(a:au)(m:Str->Int)=>rG (vs=[x,.ref a]) (wV H x l) (rE H a m [l.1.1,l.1.2]) (∀ H',aF H H'->Q (.bl (pI l m)) H')
theorem ahA(xs:List V):jt xs (some 1) none=xs.drop 1:=by unfold jt;rw [HT.Dh,show (some 1:Option Int)=some ((1:Nat):Int) from rfl,HT.uf];rcases En 0 xs.length with z | z;rw [vI z,lF (by rw [jR]; omega)];have:xs=[]:=HF (by omega);subst this; rfl
variable{xs:List V}
theorem WM{H1:Hp}{D:au}{jZ:St}{g:BI->TG}{te:BI->TE}{End:Hp->Prop}{ys:List V}(hD:H1 D=none)(hT:H1 a=some (.lst xs))(hz:xs.length<=aO)(hl:ys.length=xs.length)(turn:∀(i:Nat)(x:V)(H':Hp),xs[i]?=some x->aF H1 H'->∀ b (R:VK),(∀ cM y,ys[i]?=some y->aF H' cM->R y cM)->g b x jZ H' fun dJ H2=>te b dJ H2 R)(fin:∀ H',aF H1 H'->H' D=some (.lst ys)->End H'):
   ∃ W:Nat->Nat->Hp->Prop,(∃ m,W 0 m (upd H1 D (.lst [])))/\∀ b,rW (Ac K a) (g b) (Dw) (qd D (te b)) jZ End W :=
 O6 (xs:=xs) (λi H'=>eG H1 H' D (ys.take i)) (eG.start hD) (λi H' _ G=>aV.of (G.same _ _ hT)) (λH' G=>fin H' G.same (by have e:=G.at'; rw [<- hl,lW] at e; exact e)) (λi x H' hx hi G b =>
   turn i x H' hx G.same b _ λcM y hy s=>⟨_,(G.more s).at',by rw [gR]; omega,nx hi (by
     show eG H1 _ D (ys.take (i+1));rw [fZ,hy]
     exact (G.more s).put hD _)⟩)
theorem aau{h:bK}(g:pW h):(cV h).length<=625:=by show ((iT h).map dw).length<=625;rw [aL]; exact g.len
theorem Y0:cW ["house","names"] ["house"] (bw Nu):=dX
theorem ajy(F:eY K "neighbours_in" Nu f fd)(T:Txt mg t8 t6 tR tL)(Ca:Cl P w K mg base 1 "rows_in" ["house"] Hf):bf P w K mg base bB 2 f fd ["house"] V9:=by refine F.ok Y0 (λvs H Q E h=>?_) (λcdv A outer s H vs Q E hr h=>?_);obtain ⟨x,hh,rfl,_⟩:=h;rfl;obtain ⟨x,hh,rfl,hx,gd,q⟩:=h;have dO:=cQ;refine ⟨_,(aP (HX (i:=1) Y0.nd rfl rfl (bN:=bw Nu) (own:=["name","reading"]) (cap:=[]) (ix:=[]) rfl rfl fH (vR (pC Ca hr (aq (pV 0) aD))) (λb=>(jG rfl (cI (pH 0 ["name","reading"]) (cI (pH 1 ["name","reading"]) jE)))) (λb=>fu) (λb=>(pV 0))) (aU (bx (ant rfl rfl T.list rfl T.zip (aq (pV 1) (aq (jo Mq (pV 1) (iu aM) kZ) aD)))))),?_⟩;refine ⟨x,hh,rfl,hx,gd,λl zs H1 hl el s1 pz=>?_⟩;have lz:=pz.length;have ln:=aau gd;have lr:(cV hh).length=(iT hh).length:=(by show ((iT hh).map dw).length=_; rw [aL]);refine ⟨l,rfl,⟨_,aV.of el⟩,λD hD=>WM (xs:=zs) (ys:=(cV hh).map V.str) hD el (by omega) (by rw [aL]; omega) (λi y H2 hy s2 b R hR=>?_) (λH2 s2 e2=>?_)⟩;obtain ⟨rr,hrr,ra⟩:=iK pz hy;obtain ⟨a1,rfl,g1⟩:=ra.ts s2.dH;refine ⟨a1,_,rfl,aH.of g1,rfl,_,_,rfl,_,_,rfl,rfl,?_⟩;exact hR H2 _ (by show ((iT hh).map dw |>.map V.str)[i]?=_; rw [bL,bL,hrr]; rfl) (aF.refl _);refine ⟨D,(cV hh).map V.str,rfl,aV.of e2,λp hp=>?_⟩;rw [ahA,<- List.map_drop];have s3:aF H2 (upd H2 p (.lst (((cV hh).drop 1).map V.str))):=(aF.refl H2).upd hp;refine ⟨D,p,_,_,rfl,aV.of (s3 _ _ e2),aV.of aX,λS P H3 fS s4 eP eS eT=>?_⟩;exact q S P H3 (((s1.aA s2).aA s3).free fS) (((s1.aA s2).aA s3).aA s4) eP eS eT
theorem afX:cW ["ledger"] ["ledger"] (bw TV):=dX
theorem alg(F:eY K "rows_of" TV f fd)(T:Txt mg t8 t6 tR tL)(T4:Cl P w K mg base 2 "row_names" ["houses"] LK):bf P w K mg base bB 3 f fd ["ledger"] Xp:=by refine F.ok afX (λvs H Q E h=>?_) (λcdv A outer s H vs Q E hr h=>?_);obtain ⟨x,hs,ls,rfl,_⟩:=h;rfl;obtain ⟨x,hs,ls,rfl,⟨a,y,z,rfl,ha,hH,hL⟩,gh,q⟩:=h;refine ⟨_,(aU (bx (oO vC rfl T.tuple jA (aq (bh abT rfl T.sorted DP (aq (pC T4 hr (aq (pX dY (pV 0) aM) aD)) aD)) aD)))),?_⟩;refine dI (aH.of ha) (i:=0) (v:=y) (by rfl) ?_;refine ⟨y,hs,rfl,hH,gh.hi,gh.all,λl H1 hl el s1=>?_⟩;have few:=gh.few;refine ⟨l,cG hs,rfl,aV.of el,by omega,λl2 ss hl2 hp hs'=>?_⟩;have s2:=s1.upd (o:=.lst (ss.map V.str)) hl2;refine ⟨l2,ss.map V.str,rfl,.inl ⟨aV.of aX,λl3 hl3=>?_⟩⟩;exact q l3 ss _ (s2.free hl3) aX (s2.upd hl3) hp hs'
theorem adL:cW ["run","drift","moments","offs"] ["run","drift","moments"] (bw Lz):=dX
theorem afj(F:eY K "keeps_drift" Lz f fd)(T:Txt mg t8 t6 tR tL):bf P w K mg base bB 1 f fd ["run","drift","moments"] Qf:=by refine F.ok adL (λvs H Q E h=>?_) (λcdv A outer s H vs Q E hr h=>?_);obtain ⟨x,rs,d,a,m,rfl,_⟩:=h;rfl;obtain ⟨x,rs,d,a,m,rfl,⟨c,vs,rfl,hc,pr⟩,gr,mo,q⟩:=h;have dO:=cQ;refine ⟨_,(aP (HX (i:=3) adL.nd rfl rfl (bN:=bw Lz) (own:=["row","reading"]) (cap:=["moments"]) (ix:=[2]) rfl rfl fH (fY (pV 0)) (λb=>(jG rfl (cI (pH 0 ["row","reading","moments"]) (cI (pH 1 ["row","reading","moments"]) jE)))) (λb=>fu) (λb=>(bJ oG (pV 1) (lN (jk hr) (pV 2) (pV 0) (λ_ _=>rfl))))) (aU (bx (jW oLe (bJ oG (bh (amI rfl) rfl T.max JC (aq (pV 3) aD)) (bh (agy rfl) rfl T.min WD (aq (pV 3) aD))) (pV 1) (cX _))))),?_⟩;have lz:=pr.length;have ln:=gr.few;refine ⟨c,rfl,⟨_,aH.of hc⟩,λD hD=>j9 (xs:=vs) (ys:=(offs rs m).map V.int) hD (aH.of hc) (by omega) (by rw [aL]; unfold offs; rw [aL]; omega) (λi y H2 hy s2 b R hR=>?_) (λH2 s2 e2=>?_)⟩;obtain ⟨rr,hrr,ra⟩:=iK pr hy;obtain ⟨a1,rfl,g1⟩:=ra.ts s2.dH;refine ⟨a1,_,rfl,aH.of g1,rfl,_,_,rfl,_,_,rfl,rfl,?_⟩;refine ⟨a,_,rfl,(mo.same (mX.of s2)).get (mW (fG hrr)),?_⟩;exact hR H2 _ (by unfold offs; rw [bL,bL,hrr]; rfl) (aF.refl _);have ne:offs rs m≠[]:=(by unfold offs; intro z; exact gr.ne (List.map_eq_nil_iff.mp z));refine ⟨D,offs rs m,rfl,aV.of e2,ne,λmx hmx gmx=>?_⟩;refine ⟨D,offs rs m,rfl,aV.of e2,ne,λmn hmn gmn=>?_⟩;show Q (.bl (decide (mx-mn<=d))) H2;have e:decide (mx-mn<=d)=kE rs d m:=(by unfold kE;rw [lY,decide_eq_true_iff,decide_eq_true_iff];refine ⟨λz u hu v hv=>?_,λz=>z mx hmx mn hmn⟩;have:=gmx u hu;have:=gmn v hv;omega);rw [e];exact q H2 s2
theorem GX:cW ["letter","moments","sent","taken","least","most","gap"] ["letter","moments"] (bw VD):=dX
theorem apD(F:eY K "keeps_letter" VD f fd):bf P w K mg base bB 1 f fd ["letter","moments"] QK:=by refine F.ok GX (λvs H Q E h=>?_) (λcdv A outer s H vs Q E hr h=>?_);obtain ⟨x,l,a,m,rfl,_⟩:=h;rfl;obtain ⟨x,l,a,m,rfl,⟨c,rfl,hc⟩,mo,q⟩:=h;refine ⟨_,(aP (vY (pV 0) (jG rfl (cI (pY 2 GX) (cI (pY 3 GX) (cI (pY 4 GX) (cI (pY 5 GX) jE)))))) (aP (pZ 6 GX (bJ oG (lN (jk hr) (pV 1) (pV 3) (λ_ _=>rfl)) (lN (jk hr) (pV 1) (pV 2) (λ_ _=>rfl)))) (aU (bx (mZ (jW oGe (pV 6) (pV 4) (cX _)) (oF (Vv (akA (aoM (pV 5))) (oF (jW oLe (pV 6) (pV 5) (cX _)))))))))),?_⟩;refine ⟨c,_,rfl,aH.of hc,rfl,_,_,rfl,_,_,rfl,_,_,rfl,_,_,rfl,rfl,?_⟩;refine ⟨a,.int (m l.1.2),rfl,mo.get (by simp),?_⟩;refine ⟨a,.int (m l.1.1),rfl,mo.get (by simp),?_⟩;have z:=q H (aF.refl H);obtain ⟨⟨se,ta⟩,le,mst⟩:=l;unfold pI at z;dsimp only at z;show (if decide (le<=m ta-m se)=true then _ else Q (.bl false) H);cases e1:decide (le<=m ta-m se) with| false=>rw [e1] at z; exact z| true =>rw [e1] at z;cases mst with| none=>exact z| some y =>show Q (.bl (decide (m ta-m se<=y))) H;simpa using z
theorem Fl:cW ["house","moments","name","low","high","drift","runs"] ["house","moments"] (bw GD):=dX
theorem afW(F:eY K "keeps_house" GD f fd)(T:Txt mg t8 t6 tR tL)(Ca:Cl P w K mg base 2 "rows_in" ["house"] Hf)(aia:Cl P w K mg base 2 "neighbours_in" ["house"] V9)(aeZ:Cl P w K mg base 2 "keeps_drift" ["run","drift","moments"] Qf):bf P w K mg base bB 3 f fd ["house","moments"] Xb:=by refine F.ok Fl (λvs H Q E h=>?_) (λcdv A outer s H vs Q E hr h=>?_);obtain ⟨x,hh,a,m,rfl,_⟩:=h;rfl;obtain ⟨x,hh,a,m,rfl,hx0,gd,mo,q⟩:=h;obtain ⟨c,bb,rfl,hc,c5,vr,rfl,hc5,pr⟩:=id hx0;have dO:=cQ;refine ⟨_,(aP (vY (pV 0) (jG rfl (cI (pY 2 Fl) (cI (pY 3 Fl) (cI (pY 4 Fl) (cI (pY 5 Fl) (cI (pY 6 Fl) jE))))))) (aP (cP (dg (dD (bh (pA rfl) rfl T.all mV (aq (iG (bN:=bw GD) (own:=["row","reading"]) (cap:=["high","low","moments"]) (ix:=[4,3,1]) rfl rfl fH (vR (pC Ca hr (aq (pV 0) aD))) (λb=>(jG rfl (cI (pH 0 ["row","reading","high","low","moments"]) (cI (pH 1 ["row","reading","high","low","moments"]) jE)))) (λb=>fu) (λb=>(afm oLe oLe (pV 3) (bJ oG (pV 1) (lN (jk hr) (pV 4) (pV 0) (λ_ _=>rfl))) (pV 2)))) aD)))) (aU (bx dG)) cN) (aP (cP (dg (dD (bh (pA rfl) rfl T.all mV (aq (iG (bN:=bw GD) (own:=["row","later"]) (cap:=["moments"]) (ix:=[1]) rfl rfl fH (vR (pC aia hr (aq (pV 0) aD))) (λb=>(jG rfl (cI (pH 0 ["row","later","moments"]) (cI (pH 1 ["row","later","moments"]) jE)))) (λb=>fu) (λb=>(jW oGe (bJ oG (lN (jk hr) (pV 2) (pV 1) (λ_ _=>rfl)) (lN (jk hr) (pV 2) (pV 0) (λ_ _=>rfl))) aM (cX _)))) aD)))) (aU (bx dG)) cN) (aU (bx (bh (pA rfl) rfl T.all mV (aq (iG (bN:=bw GD) (own:=["run"]) (cap:=["drift","moments"]) (ix:=[5,1]) rfl rfl fH (fY (pV 6)) (λb=>(pH 0 ["run","drift","moments"])) (λb=>fu) (λb=>(pC aeZ hr (aq (pV 0) (aq (pV 1) (aq (pV 2) aD)))))) aD))))))),?_⟩;refine ⟨c,_,rfl,aH.of hc,rfl,_,_,rfl,_,_,rfl,_,_,rfl,_,_,rfl,_,_,rfl,rfl,?_⟩;have lnn:=aau gd;have lrn:(cV hh).length=(iT hh).length:=(by show ((iT hh).map dw).length=_; rw [aL]);refine ⟨.ref c,hh,rfl,hx0,gd,λl zs H1 hl el s1 pz=>?_⟩;have lz:=pz.length;refine ⟨l,rfl,⟨_,aV.of el⟩,λD hD=>WM (xs:=zs) (ys:=((iT hh).map (mO hh m)).map V.bl) hD el (by omega) (by rw [aL,aL]; omega) (λi y H2 hy s2 b R hR=>?_) (λH2 s2 e2=>?_)⟩;obtain ⟨rr,hrr,ra⟩:=iK pz hy;obtain ⟨a1,rfl,g1⟩:=ra.ts s2.dH;refine ⟨a1,_,rfl,aH.of g1,rfl,_,_,rfl,_,_,rfl,rfl,?_⟩;refine ⟨a,.int (m rr.1),rfl,(mo.same (mX.of (s1.aA s2))).get (mW (fG hrr)),?_⟩;have w:=hR H2 (.bl (mO hh m rr)) (by rw [bL,bL,hrr]; rfl) (aF.refl _);refine ⟨decide (hh.low<=rr.2-m rr.1),rfl,?_⟩;unfold mO at w;(cases e1:decide (hh.low<=rr.2-m rr.1) with| false=>rw [e1] at w; exact w| true=>rw [e1] at w; simp only [fJ] at w; exact w);refine ⟨D,(iT hh).map (mO hh m),rfl,aV.of e2,?_⟩;have S2:aF H H2:=s1.aA s2;have e3:((iT hh).map (mO hh m)).all id=(iT hh).all (mO hh m):=(by rw [uD]; rfl);rw [e3];cases k1:(iT hh).all (mO hh m) with| false =>have z:=q H2 S2;unfold mJ at z;rw [k1] at z;exact z| true =>refine ⟨.ref c,hh,rfl,hx0.ts S2.dH,gd,λS P H3 fS s3 eP eS eT=>?_⟩;have lP:P.length<=625:=(by have z:=jr rA eP;rw [aL,Bj,aL,aL] at z;omega);refine ⟨S,rfl,⟨_,aV.of eS⟩,λD2 hD2=>WM (xs:=P.map λq=>.ref q.1) (ys:=((((cV hh).zip ((cV hh).drop 1)).map (pN m)).map V.bl)) hD2 eS (by rw [aL]; omega) (by have z:=jr rA eP;rw [aL,Bj,aL,aL] at z;rw [aL,aL,Bj,aL]; omega) (λi y H4 hy s4 b R hR=>?_) (λH4 s4 e4=>?_)⟩;rw [bL] at hy;obtain ⟨pq,hpq,rfl⟩:=wA.mp hy;have tq:=s4 _ _ (eT pq (fG hpq));have w1:(P.map (·.2))[i]?=some pq.2:=(by rw [bL,hpq]; rfl);rw [eP,Ei,bL,bL] at w1;obtain ⟨w2,w3⟩:=w1;obtain ⟨n1,en1,ez1⟩:=wA.mp w2;obtain ⟨n2,en2,ez2⟩:=wA.mp w3;rw [<- ez1,<- ez2] at tq;have in1:n1∈cV hh:=fG en1;have in2:n2∈cV hh:=K5 (fG en2);have mo4:=mo.same (mX.of ((S2.aA s3).aA s4));refine ⟨pq.1,_,rfl,aH.of tq,rfl,_,_,rfl,_,_,rfl,rfl,?_⟩;refine ⟨a,.int (m n2),rfl,mo4.get in2,?_⟩;refine ⟨a,.int (m n1),rfl,mo4.get in1,?_⟩;refine hR H4 _ ?_ (aF.refl _);have w4:((cV hh).zip ((cV hh).drop 1))[i]?=some (n1,n2):=(by rw [Ei]; exact ⟨en1,en2⟩);rw [bL,bL,w4];rfl;refine ⟨D2,_,rfl,aV.of e4,?_⟩;have S4:aF H H4:=(S2.aA s3).aA s4;have e5:(((cV hh).zip ((cV hh).drop 1)).map (pN m)).all id=((cV hh).zip ((cV hh).drop 1)).all (pN m):=(by rw [uD]; rfl);rw [e5];cases k2:((cV hh).zip ((cV hh).drop 1)).all (pN m) with| false =>have z:=q H4 S4;unfold mJ at z;rw [k1,k2] at z;exact z| true =>have lr:=pr.length;have few:=gd.few;refine ⟨c5,rfl,⟨_,aH.of (S4 _ _ hc5)⟩,λD3 hD3=>j9 (xs:=vr) (ys:=(hh.runs.map λr=>kE r hh.bZ m).map V.bl) hD3 (aH.of (S4 _ _ hc5)) (by omega) (by rw [aL,aL]; omega) (λi y H5 hy s5 b R hR=>?_) (λH5 s5 e6=>?_)⟩;obtain ⟨rs,hrs,rat⟩:=iK pr hy;refine ⟨y,rs,hh.bZ,a,m,rfl,rat.ts (S4.aA s5).dH,gd.runs rs (fG hrs),?_,λH6 s6=>?_⟩;refine (mo.same (mX.of (S4.aA s5))).part λn hn=>?_;obtain ⟨r,hr1,rfl⟩:=cZ.mp hn;exact mW (Bh.mpr ⟨rs,fG hrs,hr1⟩);exact hR H6 _ (by rw [bL,bL,hrs]; rfl) s6;refine ⟨D3,_,rfl,aV.of e6,?_⟩;have z:=q H5 (S4.aA s5);unfold mJ at z;rw [k1,k2] at z;have e7:(hh.runs.map λr=>kE r hh.bZ m).all id=hh.runs.all λr=>kE r hh.bZ m:=(by rw [uD]; rfl);rw [e7];exact z
noncomputable def zL(ss:List Str):rZ:=.tuple (ss.map .str)
variable{ss:List Str}
theorem acz(ha:H a=some (.tup (ss.map V.str))):Dp K H (.ref a) (zL ss):=by refine .tup (aH.of ha) ?_;clear ha;induction ss with| nil=>exact .nil| cons s ss ih=>exact .cons (.str s) ih
theorem RM(g:∀ s∈ss,fU s):tZ (zL ss)=true:=by have h1:yS (ss.map .str)=true:=(by induction ss with| nil=>rfl| cons s ss ih =>rw [fM];unfold yS;rw [ih λq hq=>g q (iM _ hq),DR];unfold Dd;exact (g s gU).ok);have h2:BW (ss.map .str)=0:=(by clear g h1;induction ss with| nil=>rfl| cons s ss ih =>rw [fM];unfold BW;rw [ih];simp [CK]);unfold tZ zL;rw [pF];refine ⟨?_,?_⟩;unfold Dd; exact h1;unfold CK; rw [h2]; rfl
theorem RK:∀(l:List Str)(p:Str),adG p l=true->l.Pairwise (λa b=>slt b a=false)/\∀ x∈l,slt x p=false
 | [],p,_=>⟨yc,λx hx=>by simp at hx⟩
 | y :: l,p,h=>by have h':(!PySem.Spec.ltCps y.cps.toList p.cps.toList && adG y l)=true:=h;obtain ⟨h1,h2⟩:=cB.mp h';obtain ⟨p1,p2⟩:=RK l y h2;have h3:slt y p=false:=(by rw [PyProof.Rows.ltCps_eq] at h1;simpa [slt] using h1);have le:∀ x,slt x y=false->slt x p=false:=λx hx=>(by cases e:slt x p with| false=>rfl| true =>rcases Hy (p=y) with z | z;rw [z,hx] at e; cases e;rcases Cr.tot p y z with w | w;have:=Cr.aA _ _ _ e w;rw [hx] at this; cases this;rw [h3] at w; cases w);refine ⟨Cq.mpr ⟨p2,p1⟩,λx hx=>?_⟩;rcases dU.mp hx with z | z;rw [z]; exact h3;exact le x (p2 x z)
theorem Yt:∀(l:List Str),CN l=true->l.Pairwise (λa b=>slt b a=false)
 | [],_=>yc
 | x :: l,h=>Cq.mpr ⟨(RK l x h).2,(RK l x h).1⟩
theorem ada{a b l:List Str}(pa:a.Perm l)(pb:b.Perm l)(sa:CN a=true)(sb:CN b=true):a=b:=by refine List.Perm.eq_of_pairwise (le:=λa b=>slt b a=false) (λx y _ _ h1 h2=>?_) (Yt a sa) (Yt b sb) (pa.aA pb.symm);rcases Hy (x=y) with z | z;exact z;rcases Cr.tot x y z with w | w;rw [h2] at w; cases w;rw [h1] at w; cases w
noncomputable def iR(ss:List Str)(m:Str->Int):List Row:=ss.map λn=>(n,m n)
noncomputable def nmD:Da->Str
 | .tup (.str z :: _)=>z
 | _=>""
noncomputable def vP(ss:List Str):Da->Bool
 | .tup ds=>ds.all eU && decide (ds.map nmD=ss)
 | _=>false
variable{d:Da}
theorem akO(h:eU d=true):∃ r:Row,d=iB r/\fU r.1:=by unfold eU at h;split at h;rename_i a b;obtain ⟨h1,h2⟩:=cB.mp h;(cases a with| str z =>(cases b with| int i=>exact ⟨(z,i),rfl,Ox h1⟩| _=>exact bO h2 (by simp [gW]))| _=>exact bO h1 (by simp [lJ]));cases h
theorem Ma:∀{ds:List Da},ds.all eU=true->∃ rs:List Row,ds=rs.map iB/\∀ r∈rs,fU r.1
 | [],_=>⟨[],rfl,λr hr=>by simp at hr⟩
 | d :: ds,h=>by rw [pP,pF] at h;obtain ⟨r,rfl,g⟩:=akO h.1;obtain ⟨rs,rfl,gs⟩:=Ma h.2;exact ⟨r :: rs,rfl,λx hx=>(dU.mp hx).elim (λz=>z ▸ g) (gs x)⟩
theorem HB(rs:List Row):(rs.map iB).map nmD=rs.map dw:=by rw [nA]; rfl
theorem Wz:∀(a b:List Str),Ck (a.map .str) (b.map .str)=decide (a=b)
 | [],[]=>by simp [Ck]
 | [],_ :: _=>by simp [Ck]
 | _ :: _,[]=>by simp [Ck]
 | x :: a,y :: b=>by have z:=Wz a b;simp only [Ck,yt,z,fM];rw [lY];simp
theorem ah3(a b:List Str):yt (zL a) (zL b)=decide (a=b):=by unfold zL;simp [yt,Wz]
theorem ahl(g:∀ s∈ss,fU s):vP ss (.tup ((iR ss m).map iB))=true:=by have h1:((iR ss m).map iB).all eU=true:=(by rw [fW];intro d hd;obtain ⟨r,hr,rfl⟩:=cZ.mp hd;obtain ⟨n,hn,rfl⟩:=cZ.mp hr;exact YZ (g n hn));show (_ && decide (((iR ss m).map iB).map nmD=ss))=true;rw [h1,HB,fJ];unfold iR;rw [nA];exact cg (by rw [show (dw∘λn=>(n,m n))=(id:Str->Str) from rfl,M6])
theorem oH.told{t:V}(h:oH H t (iR ss m))(g:∀ s∈ss,fU s)(few:ss.length<=24):bD H t (.tup ((iR ss m).map iB)):=by obtain ⟨c,vs,rfl,hc,pr⟩:=h;have lv:vs.length=ss.length:=(by have z:=pr.length; unfold iR at z; rw [aL] at z; exact z);exact .tup hc (by omega) (Jx pr λv r hr' ra=>ra.da (by obtain ⟨n,hn,rfl⟩:=cZ.mp hr';exact g n hn))
noncomputable def Rows(hs:List bK)(ss:List Str):Prop:=ss.Perm (cG hs)/\CN ss=true
noncomputable def Rg:Sp:=λvs H Q _=>vZ λ(x t:V)(hs:List bK)(ls:List gY)(d:Da)=>jJ (vs=[x,t]) (uz H x hs ls) (tK hs) (bD H t d) (∀ b H',aF H H'->(∀ ss,Rows hs ss->b=vP ss d)->Q (.bl b) H')
noncomputable def Wi:Sp:=λvs H Q _=>∃(x t:V)(hs:List bK)(ls:List gY),vs=[x,t]/\uz H x hs ls/\tK hs/\Bo hs ls/\((∃(ss:List Str)(m:Str->Int),oH H t (iR ss m)/\ss.Perm (cG hs)/\CN ss=true/\∀ H',aF H H'->Q (.bl (sW hs ls m)) H')\/∃ d,bD H t d/\(∃ ss,Rows hs ss/\vP ss d=false)/\∀ H',aF H H'->Q (.bl false) H')
theorem V3(g:tK hs)(h:n∈cG hs):fU n:=by obtain ⟨k,hk,hn⟩:=sy.mp h;obtain ⟨r,hr,rfl⟩:=cZ.mp hn;obtain ⟨q,hq,hr2⟩:=Bh.mp hr;exact ((g.all k hk).runs q hq).names r hr2
noncomputable def uZ(ss:List Str)(m:Str->Int):List (Key × V):=ss.map λn=>(.inr n,.int (m n))
theorem Yj(ss:List Str)(m:Str->Int):(uZ ss m).map (·.1)=ss.map bR:=by unfold uZ; rw [nA]; rfl
theorem X7{m:Str->Int}:∀{ss:List Str}{n:Str},n∈ss->fO (uZ ss m) (.inr n)=some (.int (m n))
 | s :: ss,n,h=>by by_cases e:s=n;subst e; exact tW rfl;rw [show uZ (s :: ss) m=(.inr s,.int (m s)) :: uZ ss m from rfl,ud (λz=>e (rD z))];exact X7 ((dU.mp h).resolve_left λz=>e z.symm)
theorem aoi:cW ["ledger","thing"] ["ledger","thing"] (bw Ip):=dX
theorem alm(F:eY K "names_each_row" Ip f fd)(T:Txt mg t8 t6 tR tL)(Qc:Cl P w K mg base 3 "is_named_number" ["thing"] (gQ eU))(ahz:Cl P w K mg base 3 "rows_of" ["ledger"] Xp):bf P w K mg base bB 4 f fd ["ledger","thing"] Rg:=by refine F.ok aoi (λvs H Q E h=>?_) (λcdv A outer s H vs Q E hr h=>?_);obtain ⟨x,t,hs,ls,d,rfl,_⟩:=h;rfl;obtain ⟨x,t,hs,ls,d,rfl,hx,gh,hd,q⟩:=h;have dO:=cQ;obtain ⟨_,⟨T',ty,kt⟩,_⟩:=hd.kind (K:=K);refine ⟨_,(aP (cP (jP (dg (dD (bh kO rfl T.gK gG (aq (pV 1) (aq (jV (v:=.ty "tuple") rfl T.tuple jA rfl) aD))))) (pw_or1 (dg (dD (bh (pA rfl) rfl T.all mV (aq (iG (bN:=bw Ip) (own:=["part"]) (cap:=[]) (ix:=[]) rfl rfl fH (fY (pV 1)) (λb=>(pH 0 ["part"])) (λb=>fu) (λb=>(pC Qc hr (aq (pV 0) aD)))) aD)))))) (aU (bx dG)) cN) (aU (bx (jW (acw hr.units) (oO vC rfl T.tuple jA (aq (iG (bN:=bw Ip) (own:=["name","moment"]) (cap:=[]) (ix:=[]) rfl rfl fH (fY (pV 1)) (λb=>(jG rfl (cI (pH 0 ["name","moment"]) (cI (pH 1 ["name","moment"]) jE)))) (λb=>fu) (λb=>(pV 0))) aD)) (pC ahz hr (aq (pV 0) aD)) (cX _))))),?_⟩;refine ⟨_,_,_,_,rfl,ty,kt,?_⟩;have qf:(∀ ss,vP ss d=false)->Q (.bl false) H:=λz=>q false H (aF.refl H) λss _=>(z ss).symm;cases d with| non=>exact qf λ_=>rfl| bl b=>exact qf λ_=>rfl| int i=>exact qf λ_=>rfl| str z=>exact qf λ_=>rfl| oth=>exact qf λ_=>rfl| tup ds =>clear qf;obtain ⟨c,vs,rfl,hc,lc,pr⟩:=hd.dW;have lv:=pr.len;refine ⟨c,rfl,⟨_,aH.of hc⟩,λD hD=>j9 (xs:=vs) (ys:=(ds.map eU).map V.bl) hD (aH.of hc) (by omega) (by rw [aL,aL]; omega) (λi y H2 hy s2 b R hR=>?_) (λH2 s2 e2=>?_)⟩;obtain ⟨dd,hdd,da⟩:=pr.get hy;refine ⟨y,dd,rfl,da.same s2,λH3 s3=>?_⟩;exact hR H3 _ (by rw [bL,bL,hdd]; rfl) s3;refine ⟨D,ds.map eU,rfl,aV.of e2,?_⟩;have e4:(ds.map eU).all id=ds.all eU:=(by rw [uD]; rfl);rw [e4];cases k1:ds.all eU with| false=>exact q false H2 s2 λss _=>(by show false=(ds.all eU && _); rw [k1]; rfl)| true =>obtain ⟨rs,rfl,gr⟩:=Ma k1;rw [aL] at lv;refine ⟨c,rfl,⟨_,aH.of (s2 _ _ hc)⟩,λD2 hD2=>j9 (xs:=vs) (ys:=(rs.map dw).map V.str) hD2 (aH.of (s2 _ _ hc)) (by omega) (by rw [aL,aL]; omega) (λi y H3 hy s3 b R hR=>?_) (λH3 s3 e3=>?_)⟩;obtain ⟨dd,hdd,da⟩:=pr.get hy;rw [bL] at hdd;obtain ⟨rr,hrr,rfl⟩:=wA.mp hdd;obtain ⟨a1,ws,rfl,g1,_,pw⟩:=da.dW;obtain ⟨v1,w1,rfl,d1,p1⟩:=pw.inv;obtain ⟨v2,w2,rfl,d2,p2⟩:=p1.inv;cases p2;cases d1;cases d2;refine ⟨a1,_,rfl,aH.of ((s2.aA s3) _ _ g1),rfl,_,_,rfl,_,_,rfl,rfl,?_⟩;exact hR H3 _ (by rw [bL,bL,hrr]; rfl) (aF.refl _);refine ⟨D2,(rs.map dw).map V.str,rfl,.inl ⟨aV.of e3,λl3 hl3=>?_⟩⟩;have s4:aF H (upd H3 l3 (.tup ((rs.map dw).map V.str))):=((s2.aA s3)).upd hl3;refine ⟨x,hs,ls,rfl,hx.ts s4.dH,gh,λp ss' H5 fp ep s5 pm' so'=>?_⟩;have gss:∀ s∈ss',fU s:=λs hs'=>V3 gh (pm'.mem_iff.mp hs');refine ⟨zL (rs.map dw),zL ss',acz (s5 _ _ aX),acz ep,RM (λs hs'=>by obtain ⟨r,hr,rfl⟩:=cZ.mp hs'; exact gr r hr),RM gss,?_⟩;rw [ah3];refine q _ H5 (s4.aA s5) λss hss=>?_;rw [ada hss.1 pm' hss.2 so'];show _=(((rs.map iB).all eU) && decide ((rs.map iB).map nmD=ss'));rw [k1,HB,fJ]
theorem Pg:cW ["ledger","thing","houses","letters","moments"] ["ledger","thing"] (bw GJ):=dX
theorem afv(F:eY K "is_placing" GJ f fd)(T:Txt mg t8 t6 tR tL)(aha:Cl P w K mg base 4 "names_each_row" ["ledger","thing"] Rg)(alx:Cl P w K mg base 4 "keeps_house" ["house","moments"] Xb)(ai6:Cl P w K mg base 4 "keeps_letter" ["letter","moments"] QK):bf P w K mg base bB 5 f fd ["ledger","thing"] Wi:=by refine F.ok Pg (λvs H Q E h=>?_) (λcdv A outer s H vs Q E hr h=>?_);obtain ⟨x,t,hs,ls,rfl,_⟩:=h;rfl;obtain ⟨x,t,hs,ls,rfl,hx,gh,gl,hT⟩:=h;have dO:=cQ;have few:=gh.few;refine ⟨_,(aP (cP (dg (dD (pC aha hr (aq (pV 0) (aq (pV 1) aD))))) (aU (bx dG)) cN) (aP (vY (pV 0) (jG rfl (cI (pY 2 Pg) (cI (pY 3 Pg) jE)))) (aP (pZ 4 Pg (ajp (bN:=bw GJ) (own:=["row","moment"]) (cap:=[]) (ix:=[]) rfl rfl fH (fY (pV 1)) (λb=>(jG rfl (cI (pH 0 ["row","moment"]) (cI (pH 1 ["row","moment"]) jE)))) (λb=>fu) (λb=>(pV 0)) (λb=>(pV 1)))) (aP (cP (dg (dD (bh (pA rfl) rfl T.all mV (aq (iG (bN:=bw GJ) (own:=["house"]) (cap:=["moments"]) (ix:=[4]) rfl rfl fH (fY (pV 2)) (λb=>(pH 0 ["house","moments"])) (λb=>fu) (λb=>(pC alx hr (aq (pV 0) (aq (pV 1) aD))))) aD)))) (aU (bx dG)) cN) (aU (bx (bh (pA rfl) rfl T.all mV (aq (iG (bN:=bw GJ) (own:=["letter"]) (cap:=["moments"]) (ix:=[4]) rfl rfl fH (fY (pV 3)) (λb=>(pH 0 ["letter","moments"])) (λb=>fu) (λb=>(pC ai6 hr (aq (pV 0) (aq (pV 1) aD))))) aD)))))))),?_⟩;rcases hT with ⟨ss,m,ht,pm,so,q⟩ | ⟨d,hd,⟨ss,hss,ef⟩,q⟩;rotate_left;refine ⟨x,t,hs,ls,d,rfl,hx,gh,hd,λb H1 s1 hb=>?_⟩;rw [hb ss hss,ef];exact q H1 s1;have lss:ss.length<=24:=(by rw [pm.length_eq]; exact few);have nds:ss.Nodup:=pm.nodup_iff.mpr gh.rows;have gss:∀ s∈ss,fU s:=λs hs'=>V3 gh (pm.mem_iff.mp hs');refine ⟨x,t,hs,ls,_,rfl,hx,gh,oH.told ht gss lss,λb H1 s1 hb=>?_⟩;rw [hb ss ⟨pm,so⟩,ahl gss];obtain ⟨ca,y,z,rfl,hca,hH,hL⟩:=hx;obtain ⟨cy,vy,rfl,hcy,py⟩:=hH;obtain ⟨cz,vz,rfl,hcz,pz⟩:=hL;obtain ⟨c,vs,rfl,hc,pr⟩:=ht;have lv:vs.length=ss.length:=(by have z:=pr.length; unfold iR at z; rw [aL] at z; exact z);refine ⟨ca,_,rfl,aH.of (s1 _ _ hca),rfl,_,_,rfl,_,_,rfl,rfl,?_⟩;refine ⟨c,rfl,⟨_,aH.of (s1 _ _ hc)⟩,λD hD=>⟨WS vs.length (λi aj H'=>∃ o1 o2,aj=[o1,o2]/\H' D=some (.dK (uZ (ss.take i) m))/\aF H1 H'),ws0 ⟨none,none,rfl,by rw [aX]; rfl,(aF.refl H1).upd hD⟩,λb=>Jj (xs:=vs) _ (λi aj H' _ hz1=>by obtain ⟨_,_,_,_,s2⟩:=hz1; exact aH.of (s2 _ _ (s1 _ _ hc))) (fun aj H2 hz2=>?_) (λi x aj H2 hx hi hz3=>?_)⟩⟩;obtain ⟨_,_,_,eD,s2⟩:=hz2;rw [lv,lW] at eD;have S2:=s1.aA s2;have mo:rE H2 D m ss:=⟨_,.inl eD,λn hn=>X7 hn⟩;have ly:=py.length;have lz:=pz.length;have h6:=gh.hi;have l24:=gl.few;refine ⟨cy,rfl,⟨_,aH.of (S2 _ _ hcy)⟩,λD2 hD2=>j9 (xs:=vy) (ys:=(hs.map λh=>mJ h m).map V.bl) hD2 (aH.of (S2 _ _ hcy)) (by omega) (by rw [aL,aL]; omega) (λi y H3 hy s3 b R hR=>?_) (λH3 s3 e3=>?_)⟩;obtain ⟨hh,hhi,ha⟩:=iK py hy;have hmem:=fG hhi;refine ⟨y,hh,D,m,rfl,ha.ts (S2.aA s3).dH,gh.all hh hmem,(mo.same (mX.of s3)).part λn hn=>pm.mem_iff.mpr (sy.mpr ⟨hh,hmem,hn⟩),λH4 s4=>?_⟩;exact hR H4 _ (by rw [bL,bL,hhi]; rfl) s4;refine ⟨D2,_,rfl,aV.of e3,?_⟩;have e4:(hs.map λh=>mJ h m).all id=hs.all λh=>mJ h m:=(by rw [uD]; rfl);rw [e4];(cases k1:hs.all λh=>mJ h m with| false =>have z:=q H3 (S2.aA s3);unfold sW at z;rw [k1] at z;exact z| true =>have S3:=S2.aA s3;refine ⟨cz,rfl,⟨_,aH.of (S3 _ _ hcz)⟩,λD3 hD3=>j9 (xs:=vz) (ys:=(ls.map λl=>pI l m).map V.bl) hD3 (aH.of (S3 _ _ hcz)) (by omega) (by rw [aL,aL]; omega) (λi y H4 hy s4 b R hR=>?_) (λH4 s4 e5=>?_)⟩;obtain ⟨l,hli,ha⟩:=iK pz hy;have hmem:=fG hli;obtain ⟨h1,m1,h2,m2,n1,n2,_⟩:=(gl.all l hmem).R4;refine ⟨y,l,D,m,rfl,ha.ts (S3.aA s4).dH,(mo.same (mX.of (s3.aA s4))).part λn hn=>pm.mem_iff.mpr ?_,λH5 s5=>?_⟩;simp only [dU,lC,or_false] at hn;rcases hn with rfl | rfl;exact sy.mpr ⟨h1,m1,n1⟩;exact sy.mpr ⟨h2,m2,n2⟩;exact hR H5 _ (by rw [bL,bL,hli]; rfl) s5;refine ⟨D3,_,rfl,aV.of e5,?_⟩;have z:=q H4 (S3.aA s4);unfold sW at z;rw [k1] at z;have e6:(ls.map λl=>pI l m).all id=ls.all λl=>pI l m:=(by rw [uD]; rfl);rw [e6];exact z);obtain ⟨o1,o2,rfl,eD,s2⟩:=hz3;obtain ⟨rr,hrr,ra⟩:=iK pr hx;obtain ⟨a1,rfl,g1⟩:=ra.ts (s1.aA s2).dH;unfold iR at hrr;rw [bL] at hrr;obtain ⟨n,hn,rfl⟩:=wA.mp hrr;refine ⟨a1,_,rfl,aH.of g1,rfl,_,_,rfl,_,_,rfl,rfl,?_⟩;have nn:n ∉ ss.take i:=Vs nds hn;refine ⟨_,.inr n,eD,rfl,by unfold uZ; rw [aL,gR]; omega,nxs hi ⟨_,_,rfl,?_,λb o e=>by rw [aW (dN e hD)]; exact s2 _ _ e⟩⟩;rw [aX,vQ.Xu (by rw [Yj]; intro w; obtain ⟨n',hn',e⟩:=cZ.mp w; exact nn (rD e ▸ hn')),fZ,hn];unfold uZ;rw [jq];rfl
theorem agX{k:Nat}(h:k<=xs.length):jt xs none (some (k:Int))=xs.take k:=by unfold jt;rw [HT.Dh,HT.uf,vI h];simp
noncomputable def InstAt(H:Hp)(a:au)(m:Str->Int)(ns:List Str):Prop:=∃ kvs:List (Key × V),Rd H a (.dK kvs)/\kvs.map (·.1)=ns.map bR/\∀ n∈ns,fO kvs (.inr n)=some (.int (m n))
theorem InstAt.mom(h:InstAt H a m ns):rE H a m ns:=let ⟨k,r,_,v⟩:=h; ⟨k,r,v⟩
theorem InstAt.same(h:InstAt H a m ns)(s:mX H H'):InstAt H' a m ns:=let ⟨k,r,e,v⟩:=h; ⟨k,s.rd r,e,v⟩
noncomputable def UW:Sp:=λvs H Q _=>vZ λ(x:V)(a:au)(hs:List bK)(ls:List gY)(m:Str->Int)=>vK (vs=[x,.ref a]) (uz H x hs ls) (tK hs) (Bo hs ls) (rE H a m (cG hs)) (∀ H',aF H H'->Q (.bl (sW hs ls m)) H')
theorem zW{D:Ends}{aj:St}(h:D.nx aj H):adq D aj H:=h
noncomputable def Ao(ns:List Str):V:=match ns.getLast? with | none=>.non | some n=>.str n
theorem ajm(ns:List Str)(n:Str):Ao (ns++[n])=.str n:=by unfold Ao; rw [List.getLast?_concat]
noncomputable def adV(h:bK)(m:Str->Int)(rows:List Row):Prop:=(∀ r∈rows,mO h m r=true)/\mQ m (rows.map dw)=true
noncomputable def PK1(x:V)(a:au)(hs:List bK)(m:Str->Int)(H:Hp):Nat->St->Hp->Prop:=λi aj H'=>aap λ(o2 o3 o4 o5 o6 o7 o8 o9 jw iZ iY iV ig iy nY nQ oh nG:Option V)=>QA3 (aj=[some x,bY a,o2,o3,o4,o5,o6,o7,o8,o9,jw,iZ,iY,iV,ig,iy,nY,nQ,oh,nG]) (aF H H') (∀ h∈hs.take i,mJ h m=true)
noncomputable def PK2(x:V)(a:au)(h:bK)(c5:V)(m:Str->Int)(H:Hp):Nat->St->Hp->Prop:=λj aj H'=>ae1 λ(o8 o9 jw iZ iY iV ig iy nY nQ oh nG:Option V)=>rG (aj=[some x,bY a,za h.name,iJ h.low,iJ h.high,iJ h.bZ,some c5,some (Ao ((h.runs.take j).flatten.map dw)),o8,o9,jw,iZ,iY,iV,ig,iy,nY,nQ,oh,nG]) (aF H H') (adV h m (h.runs.take j).flatten) (∀ r∈h.runs.take j,kE r h.bZ m=true)
noncomputable def PK3(x:V)(a:au)(h:bK)(c5 v8:V)(pre rs:List Row)(m:Str->Int)(H:Hp):Nat->St->Hp->Prop:=λk aj H'=>VP λ(o9 jw iZ iY iV ig iy nY nQ oh nG:Option V)=>rG (aj=[some x,bY a,za h.name,iJ h.low,iJ h.high,iJ h.bZ,some c5,some (Ao ((pre++rs.take k).map dw)),some v8,o9,jw,iZ,iY,iV,ig,iy,nY,nQ,oh,nG]) (aF H H') (adV h m (pre++rs.take k)) (kE (rs.take k) h.bZ m=true)
noncomputable def PK4(x:V)(a:au)(h:bK)(c5 v8:V)(k:Nat)(r:Row)(rs:List Row)(m:Str->Int)(H:Hp):Nat->St->Hp->Prop:=λt aj H'=>QX8 λ(iY iV ig iy nY nQ oh nG:Option V)=>QA3 (aj=[some x,bY a,za h.name,iJ h.low,iJ h.high,iJ h.bZ,some c5,za r.1,some v8,iJ (0+(k:Int)),za r.1,iJ r.2,iY,iV,ig,iy,nY,nQ,oh,nG]) (aF H H') (∀ q∈(rs.take k).take t,yQ h.bZ m r q=true)
noncomputable def PK5(x:V)(a:au)(ls:List gY)(m:Str->Int)(H:Hp):Nat->St->Hp->Prop:=λi aj H'=>aap λ(o2 o3 o4 o5 o6 o7 o8 o9 jw iZ iY iV ig iy nY nQ oh nG:Option V)=>QA3 (aj=[some x,bY a,o2,o3,o4,o5,o6,o7,o8,o9,jw,iZ,iY,iV,ig,iy,nY,nQ,oh,nG]) (aF H H') (∀ l∈ls.take i,pI l m=true)
theorem nP:cW ["_law_ledger_here","_law_instants","_law_name_here","_law_low","_law_high","_law_drift","_law_runs","_law_behind","_law_run","_law_k","_law_row","_law_reading","_law_ahead","_law_other_here","_law_gap","_law_sent","_law_taken","_law_least","_law_most","_law_way_here"] ["_law_ledger_here","_law_instants"] (bw Vg):=dX
theorem ao8(F:eY K "_law_keeps" Vg f fd)(T:Txt mg t8 t6 tR tL):bf P w K mg base bB 1 f fd ["_law_ledger_here","_law_instants"] UW:=by
 refine F.ok nP (λvs H Q E h=>?_) (λcdv A outer s H vs Q E hr h=>?_)
 . obtain ⟨x,a,hs,ls,m,rfl,_⟩:=h;rfl
 . obtain ⟨x,a,hs,ls,m,rfl,hx,gh,gl,mo,q⟩:=h;have dO:=cQ;refine ⟨_,(aP (lG lA rfl (fY (pX dY (pV 0) aM)) (jG rfl (cI (pY 2 nP) (cI (pY 3 nP) (cI (pY 4 nP) (cI (pY 5 nP) (cI (pY 6 nP) jE)))))) (aP (pZ 7 nP yI) (aU (lG lA rfl (fY (pV 6)) (pY 8 nP) (aU (lG lA rfl (yq rfl T.range (aq (bh jy rfl T.len gO (aq (pV 8) aD)) aD)) (pY 9 nP) (aP (vY (pX dY (pV 8) (pV 9)) (jG rfl (cI (pY 10 nP) (cI (pY 11 nP) jE)))) (aP (cP (dg (amL oLe oLe (pV 3) (bJ oG (pV 11) (lN (jk hr) (pV 1) (pV 10) (λ_ _=>rfl))) (pV 4))) (aU (bx dG)) cN) (aP (cP (Dm (Hg (ac9 (pV 7))) (pw_and1 (gM oLt (lN (jk hr) (pV 1) (pV 10) (λ_ _=>rfl)) (bJ gj (lN (jk hr) (pV 1) (pV 7) (λ_ _=>rfl)) aM) (cX _)))) (aU (bx dG)) cN) (aP (pZ 7 nP (pV 10)) (aU (lG lA rfl (fY (jo qP (pV 8) kZ (iu (pV 9)))) (jG rfl (cI (pY 12 nP) (cI (pY 13 nP) jE))) (aP (pZ 14 nP (bJ gj (bJ oG (bJ oG (lN (jk hr) (pV 1) (pV 10) (λ_ _=>rfl)) (lN (jk hr) (pV 1) (pV 12) (λ_ _=>rfl))) (pV 11)) (pV 13))) (aU (cP (jP (gM wu (pV 14) (pV 5) (cX _)) (pw_or1 (gM oLt (pV 14) (bJ oG aM (pV 5)) (cX _)))) (aU (bx dG)) cN))))))))))))))) (aP (lG lA rfl (fY (pX dY (pV 0) aM)) (jG rfl (cI (pY 15 nP) (cI (pY 16 nP) (cI (pY 17 nP) (cI (pY 18 nP) jE))))) (aP (pZ 19 nP (bJ oG (lN (jk hr) (pV 1) (pV 16) (λ_ _=>rfl)) (lN (jk hr) (pV 1) (pV 15) (λ_ _=>rfl)))) (aP (cP (gM oLt (pV 19) (pV 17) (cX _)) (aU (bx dG)) cN) (aU (cP (Dm (Hg (ac9 (pV 18))) (pw_and1 (gM wu (pV 19) (pV 18) (cX _)))) (aU (bx dG)) cN))))) (aU (bx dG)))),?_⟩;obtain ⟨ca,y,z,rfl,hca,hH,hL⟩:=hx;obtain ⟨cy,vy,rfl,hcy,py⟩:=hH;obtain ⟨cz,vz,rfl,hcz,pz⟩:=hL;have no:∀ H',aF H H'->sW hs ls m=false->Q (.bl false) H':=λH' s' e=>by have w:=q H' s'; rw [e] at w; exact w
   refine dI (aH.of hca) (i:=0) (v:=.ref cy) (by rfl) ?_;refine ⟨cy,rfl,⟨_,aH.of hcy⟩,rU (xs:=vy) (PK1 (.ref ca) a hs m H) ⟨none,none,none,none,none,none,none,none,none,none,none,none,none,none,none,none,none,none,rfl,aF.refl _,λh hh=>by simp at hh⟩ (λi aj H' _ hz=>by obtain ⟨_o2,_o3,_o4,_o5,_o6,_o7,_o8,_o9,ZR,adN,Qt,Tf,Tv,Rf,Yd,Vp,X6,TY,_,s',_⟩:=hz; exact aH.of (s' _ _ hcy)) (λi v aj H1 hv hz=>?_) (fun aj H1 hz=>?_)⟩
   . obtain ⟨o2,o3,o4,o5,o6,o7,o8,o9,jw,iZ,iY,iV,ig,iy,nY,nQ,oh,nG,rfl,s1,k1⟩:=hz;obtain ⟨h,hhi,c,bb,rfl,hc,c5,vr,rfl,hc5,pr⟩:=iK py hv;have hmem:=fG hhi;have gd:=gh.all h hmem;have moh:∀ H',aF H H'->rE H' a m (cV h):=λH' s'=>(mo.same (mX.of s')).part λn hn=>sy.mpr ⟨h,hmem,hn⟩
     refine ⟨c,_,rfl,aH.of (s1 _ _ hc),rfl,_,_,rfl,_,_,rfl,_,_,rfl,_,_,rfl,_,_,rfl,rfl,?_⟩;refine ⟨c5,rfl,⟨_,aH.of (s1 _ _ hc5)⟩,rU (xs:=vr) (PK2 (.ref ca) a h (.ref c5) m H) ⟨_,_,_,_,_,_,_,_,_,_,_,_,rfl,s1,⟨λr hr=>by simp at hr,rfl⟩,λr hr=>by simp at hr⟩ (λj aj H' _ hz=>by obtain ⟨_o8,_o9,ZR,adN,Qt,Tf,Tv,Rf,Yd,Vp,X6,TY,_,s',_⟩:=hz; exact aH.of (s' _ _ hc5)) (λj v8 aj H2 hv8 hz=>?_) (fun aj H2 hz=>?_)⟩
     . obtain ⟨o8,o9,jw,iZ,iY,iV,ig,iy,nY,nQ,oh,nG,rfl,s2,pre,dr⟩:=hz;obtain ⟨rs,hrs,c8,ws,rfl,hc8,pw⟩:=iK pr hv8;have K9:=fG hrs;have gr:=gd.runs rs K9;have lw:=pw.length;have few:=gr.few;refine ⟨c8,ws,rfl,.inr (aH.of (s2 _ _ hc8)),?_⟩
       have split:h.runs=h.runs.take j++(rs :: h.runs.drop (j+1)):=by
         obtain ⟨li,fi⟩:=jC.mp hrs;rw [<- fi,vX,qX]
       refine ⟨(ws.length:Int),rfl,by omega,by omega,GK (lo:=0) (n:=(ws.length:Int).toNat) (PK3 (.ref ca) a h (.ref c5) (.ref c8) (h.runs.take j).flatten rs m H) ⟨_,_,_,_,_,_,_,_,_,_,_,by rw [Bf,Cv]; rfl,s2,by rw [Bf,Cv]; exact pre,by rw [Bf]; rfl⟩ (λk aj H3 hk hz=>?_) (fun aj H3 hz=>?_)⟩
       . obtain ⟨o9,jw,iZ,iY,iV,ig,iy,nY,nQ,oh,nG,rfl,s3,Gf,dr3⟩:=hz;have hk':k<ws.length:=by omega
         obtain ⟨vk,hvk⟩:∃ v,ws[k]?=some v:=⟨_,gD hk'⟩;obtain ⟨r,hrk,cr,rfl,hcr⟩:=iK pw hvk;have hrm:=fG hrk;have inh:r∈iT h:=Bh.mpr ⟨rs,K9,hrm⟩;have inn:r.1∈cV h:=mW inh;have Q6:rs.take (k+1)=rs.take k++[r]:=by rw [fZ,hrk]; rfl
         have Za:∃ post,iT h=((h.runs.take j).flatten++rs.take k)++(r :: post):=by
           refine ⟨rs.drop (k+1)++(h.runs.drop (j+1)).flatten,?_⟩
           have e2:rs=rs.take k++(r :: rs.drop (k+1)):=by
             obtain ⟨li,fi⟩:=jC.mp hrk;rw [<- fi,vX,qX]
           unfold iT
           conv=>lhs; rw [split]
           rw [Ej,JD]
           conv=>lhs; rw [e2]
           simp only [pQ,Bu]
         refine dI (aH.of (s3 _ _ hc8)) (i:=0+(k:Int)) (v:=.ref cr) (by rw [Hl]; exact oW hvk) ?_;refine ⟨cr,_,rfl,aH.of (s3 _ _ hcr),rfl,_,_,rfl,_,_,rfl,rfl,?_⟩;refine ⟨a,.int (m r.1),rfl,(moh H3 s3).get inn,?_⟩;have Yr:mO h m r=false->Q (.bl false) H3:=λe=>no H3 s3 (Ss hmem (Uv λw=>by rw [w.1 r inh] at e; cases e))
         refine ⟨_,rfl,?_⟩;by_cases c1:h.low<=r.2-m r.1
         case neg =>
           rw [aZ (by simpa using c1)];refine ⟨false,rfl,?_⟩;exact Yr (by unfold mO; rw [fP c1]; rfl)
         . rw [bI (cg c1)];refine ⟨_,rfl,?_⟩;show (if (!decide (r.2-m r.1<=h.high))=true then _ else _);by_cases c2:r.2-m r.1<=h.high
           case neg =>
             rw [bI (by simpa using c2)];exact Yr (by unfold mO; rw [fP (p:=r.2-m r.1<=h.high) c2,yP])
           . rw [aZ (by simpa using c2)]
             have apK:mO h m r=true:=by
               unfold mO;exact cB.mpr ⟨cg (by omega),cg (by omega)⟩
             have ens:((h.runs.take j).flatten++rs.take (k+1)).map dw=((h.runs.take j).flatten++rs.take k).map dw++[r.1]:=by
               rw [Q6,<- pQ,jq]; rfl
             refine zW ?_;dsimp only;refine J1 (fun bA H'=>∃ L:V,bA=[bY ca,bY a,za h.name,iJ h.low,iJ h.high,iJ h.bZ,bY c5,some L,bY c8,iJ (0+(k:Int)),za r.1,iJ r.2,iY,iV,ig,iy,nY,nQ,oh,nG]/\H'=H3/\mQ m (((h.runs.take j).flatten++rs.take (k+1)).map dw)=true) (λU hU=>?_) (fun bA H' hN=>?_)
             . refine ⟨_,rfl,?_⟩;cases gl':(((h.runs.take j).flatten++rs.take k).map dw).getLast? with
               | none =>
                 have eL:Ao (((h.runs.take j).flatten++rs.take k).map dw)=.non:=by unfold Ao; rw [gl']
                 rw [eL];refine hU _ _ ⟨.non,rfl,rfl,?_⟩;rw [ens,J9,gl',Gf.2]; rfl
               | some b =>
                 have eL:Ao (((h.runs.take j).flatten++rs.take k).map dw)=.str b:=by unfold Ao; rw [gl']
                 rw [eL]
                 have inb:b∈cV h:=by
                   obtain ⟨post,ep⟩:=Za;have z:=acS gl';show b∈(iT h).map dw;rw [ep,jq];exact Jq _ z
                 refine ⟨a,.int (m r.1),rfl,(moh H3 s3).get inn,?_⟩;refine ⟨a,.int (m b),rfl,(moh H3 s3).get inb,?_⟩;show (if decide (m r.1<m b+1)=true then _ else _);by_cases c3:m r.1<m b+1
                 . rw [bI (cg c3)];refine no H3 s3 (Ss hmem (Uv λw=>?_));obtain ⟨post,ep⟩:=Za;have z:=w.2.1
                   have e4:cV h=(((h.runs.take j).flatten++rs.take k).map dw++[r.1])++post.map dw:=by
                     show (iT h).map dw=_;rw [ep,jq,fM];simp only [pQ,Bu,Vy]
                   rw [e4] at z;have z2:=aeG m _ _ z;rw [J9,gl'] at z2;obtain ⟨_,z3⟩:=cB.mp z2;have z4:1<=m r.1-m b:=dB z3;omega
                 . rw [aZ (by simpa using c3)];refine hU _ _ ⟨.str b,rfl,rfl,?_⟩;rw [ens,J9,gl',Gf.2];show decide (1<=m r.1-m b)=true;exact cg (by omega)
             . obtain ⟨L,rfl,rfl,adj⟩:=hN;refine ⟨c8,ws,rfl,s3 _ _ hc8,λp H4 ep s4=>?_⟩;rw [Hl,agX (by omega)] at ep;have S4:=s3.aA s4;refine ⟨p,rfl,⟨_,aH.of ep⟩,rU (xs:=ws.take k) (PK4 (.ref ca) a h (.ref c5) (.ref c8) k r rs m H4) ⟨_,_,_,_,_,_,_,_,rfl,aF.refl _,λq hq=>by simp at hq⟩ (λt aj H' _ hz=>?_) (λt v aj H5 hv hz=>?_) (fun aj H5 hz=>?_)⟩
               . obtain ⟨Qt,Tf,Tv,Rf,Yd,Vp,X6,TY,_,s',_⟩:=hz;exact aH.of (s' _ _ ep)
               . obtain ⟨iY,iV,ig,iy,nY,nQ,oh,nG,rfl,s5,pk⟩:=hz;have S5:=S4.aA s5
                 have lt:t<k:=by
                   have z:=(jC.mp hv).1;rw [gR] at z;omega
                 rw [Nf lt] at hv;obtain ⟨q',hqt,cq,rfl,hcq⟩:=iK pw hv;have hqm:=fG hqt;have inq:q'.1∈cV h:=mW (Bh.mpr ⟨rs,K9,hqm⟩);refine ⟨cq,_,rfl,aH.of (S5 _ _ hcq),rfl,_,_,rfl,_,_,rfl,rfl,?_⟩;refine ⟨a,.int (m r.1),rfl,(moh H5 S5).get inn,?_⟩;refine ⟨a,.int (m q'.1),rfl,(moh H5 S5).get inq,?_⟩;show (if decide (h.bZ<m r.1-m q'.1-r.2+q'.2)=true then _ else _)
                 have bad:yQ h.bZ m r q'=false->Q (.bl false) H5:=λe=>no H5 S5 (Ss hmem (Uv λw=>by
                   have z:=w.2.2 rs K9;rw [anH hrm hqm e] at z
                   cases z))
                 by_cases c3:h.bZ<m r.1-m q'.1-r.2+q'.2
                 . rw [bI (cg c3)];exact bad (by unfold yQ; rw [fP (by omega)]; rfl)
                 . rw [aZ (by simpa using c3)];show (if decide (m r.1-m q'.1-r.2+q'.2<0-h.bZ)=true then _ else _);by_cases c4:m r.1-m q'.1-r.2+q'.2<0-h.bZ
                   . rw [bI (cg c4)];exact bad (by unfold yQ; rw [fP (p:=0-h.bZ<=_) (by omega),yP])
                   . rw [aZ (by simpa using c4)];refine ⟨_,_,_,_,_,_,_,_,rfl,s5,λq2 hq2=>?_⟩;have e5:(rs.take k)[t]?=some q':=by rw [Nf lt]; exact hqt
                     rw [fZ,e5] at hq2;rcases iC.mp hq2 with z | z
                     . exact pk q2 z
                     . rw [show q2=q' from by simpa using z];unfold yQ;exact cB.mpr ⟨cg (by omega),cg (by omega)⟩
               . obtain ⟨iY,iV,ig,iy,nY,nQ,oh,nG,rfl,s5,pk⟩:=hz;have S5:=S4.aA s5;have e5:(rs.take k).take (ws.take k).length=rs.take k:=lF (by rw [gR,gR]; omega);rw [e5] at pk;refine ⟨_,_,_,_,_,_,_,_,_,_,_,by rw [ens,ajm],S5,⟨λr2 hr2=>?_,adj⟩,?_⟩
                 . rw [Q6,<- pQ] at hr2;rcases iC.mp hr2 with z | z
                   . exact Gf.1 r2 z
                   . rw [lg.mp z]; exact apK
                 . rw [Q6];exact alG gd.bZ dr3 pk
       . obtain ⟨o9,jw,iZ,iY,iV,ig,iy,nY,nQ,oh,nG,rfl,s3,Gf,dr3⟩:=hz;have e1:rs.take (ws.length:Int).toNat=rs:=lF (by omega);rw [e1] at Gf dr3;have e2:(h.runs.take (j+1))=h.runs.take j++[rs]:=by rw [fZ,hrs]; rfl
         have e3:(h.runs.take (j+1)).flatten=(h.runs.take j).flatten++rs:=by rw [e2,Ej]; simp
         refine ⟨_,_,_,_,_,_,_,_,_,_,_,_,by rw [e1,e3],s3,by rw [e3]; exact Gf,λr hr=>?_⟩;rw [e2] at hr;rcases iC.mp hr with z | z
         . exact dr r z
         . rw [lg.mp z]; exact dr3
     . obtain ⟨o8,o9,jw,iZ,iY,iV,ig,iy,nY,nQ,oh,nG,rfl,s2,pre,dr⟩:=hz;have lr:=pr.length;have e1:h.runs.take vr.length=h.runs:=lF (by omega);rw [e1] at pre dr;refine ⟨_,_,_,_,_,_,_,_,_,_,_,_,_,_,_,_,_,_,rfl,s2,λk hk=>?_⟩;rw [fZ,hhi] at hk;rcases iC.mp hk with z | z
       . exact k1 k z
       . rw [show k=h from by simpa using z];exact Er.mpr ⟨pre.1,pre.2,dr⟩
   . obtain ⟨o2,o3,o4,o5,o6,o7,o8,o9,jw,iZ,iY,iV,ig,iy,nY,nQ,oh,nG,rfl,s1,k1⟩:=hz;have ly:=py.length;have e1:hs.take vy.length=hs:=lF (by omega);rw [e1] at k1;refine dI (aH.of (s1 _ _ hca)) (i:=1) (v:=.ref cz) (by rfl) ?_;refine ⟨cz,rfl,⟨_,aH.of (s1 _ _ hcz)⟩,rU (xs:=vz) (PK5 (.ref ca) a ls m H) ⟨_,_,_,_,_,_,_,_,_,_,_,_,_,_,_,_,_,_,rfl,s1,λl hl=>by simp at hl⟩ (λi aj H' _ hz=>by obtain ⟨_o2,_o3,_o4,_o5,_o6,_o7,_o8,_o9,ZR,adN,Qt,Tf,Tv,Rf,Yd,Vp,X6,TY,_,s',_⟩:=hz; exact aH.of (s' _ _ hcz)) (λi v aj H2 hv hz=>?_) (fun aj H2 hz=>?_)⟩
     . obtain ⟨o2,o3,o4,o5,o6,o7,o8,o9,jw,iZ,iY,iV,ig,iy,nY,nQ,oh,nG,rfl,s2,k2⟩:=hz;obtain ⟨l,hli,cl,rfl,hcl⟩:=iK pz hv;have hmem:=fG hli;obtain ⟨h1,m1,h2,m2,n1,n2,_⟩:=(gl.all l hmem).R4;have in1:l.1.1∈cG hs:=sy.mpr ⟨h1,m1,n1⟩;have in2:l.1.2∈cG hs:=sy.mpr ⟨h2,m2,n2⟩;have mo2:=mo.same (mX.of s2);refine ⟨cl,_,rfl,aH.of (s2 _ _ hcl),rfl,_,_,rfl,_,_,rfl,_,_,rfl,_,_,rfl,rfl,?_⟩;refine ⟨a,.int (m l.1.2),rfl,mo2.get in2,?_⟩;refine ⟨a,.int (m l.1.1),rfl,mo2.get in1,?_⟩;show (if decide (m l.1.2-m l.1.1<l.2.1)=true then _ else _)
       have fin:pI l m=true->PK5 (.ref ca) a ls m H (i+1) [some (.ref ca),some (.ref a),o2,o3,o4,o5,o6,o7,o8,o9,jw,iZ,iY,iV,ig,some (.str l.1.1),some (.str l.1.2),some (.int l.2.1),some (zX l.2.2),some (.int (m l.1.2-m l.1.1))] H2:=λkl=>by
         refine ⟨_,_,_,_,_,_,_,_,_,_,_,_,_,_,_,_,_,_,rfl,s2,λk hk=>?_⟩;rw [fZ,hli] at hk;rcases iC.mp hk with z | z
         . exact k2 k z
         . rw [show k=l from by simpa using z]; exact kl
       by_cases c1:m l.1.2-m l.1.1<l.2.1
       . rw [bI (cg c1)];refine no H2 s2 (ZM hmem ?_);unfold pI;rw [fP (by omega)]; rfl
       . rw [aZ (by simpa using c1)];obtain ⟨⟨se,ta⟩,le,mst⟩:=l;cases mst with
         | none =>
           refine ⟨_,rfl,?_⟩;exact fin (by unfold pI; dsimp only at c1 |-; rw [cg (by omega)]; rfl)
         | some y =>
           refine ⟨_,rfl,?_⟩;show (if decide (y<m ta-m se)=true then _ else _);by_cases c2:y<m ta-m se
           . rw [bI (cg c2)];refine no H2 s2 (ZM hmem ?_);unfold pI;dsimp only;rw [fP (p:=m ta-m se<=y) (by omega),yP]
           . rw [aZ (by simpa using c2)];exact fin (by unfold pI; dsimp only at c1 |-; rw [cg (by omega),cg (by omega)]; rfl)
     . obtain ⟨o2,o3,o4,o5,o6,o7,o8,o9,jw,iZ,iY,iV,ig,iy,nY,nQ,oh,nG,rfl,s2,k2⟩:=hz;have lz:=pz.length;have e2:ls.take vz.length=ls:=lF (by omega);rw [e2] at k2;have w:=q H2 s2;have e3:sW hs ls m=true:=cB.mpr ⟨fW.mpr k1,fW.mpr k2⟩;rw [e3] at w;exact w
theorem afr(h:oA d 5=false):jl d=false:=by
 cases d with
 | tup xs =>
   match xs,h with
   | [],_=>rfl
   | [_],_=>rfl
   | [_,_],_=>rfl
   | [_,_,_],_=>rfl
   | [_,_,_,_],_=>rfl
   | [_,_,_,_,_],h=>cases h
   | _ :: _ :: _ :: _ :: _ :: _ :: _,_=>rfl
 | _=>rfl
variable{is:List Int}
theorem akb{bs:List Bool}(l:bs.length=is.length-1)(h:∀(j:Nat)(a b:Int),is[j]?=some a->is[j+1]?=some b->bs[j]?=some (decide (b<=a))):bs.any id=!sJ is:=by have e:bs=(j8 is).map λp=>decide (p.2<=p.1):=(by refine List.ext_getElem? λj=>?_;unfold j8;rw [bL];rcases En (j+1) is.length with z | z;have a1:is[j]?=some is[j]:=gD (by omega);have a2:is[j+1]?=some is[j+1]:=gD z;rw [h j _ _ a1 a2];have a3:(is.zip (is.drop 1))[j]?=some (is[j],is[j+1]):=(by rw [Ei];exact ⟨a1,by rw [NK,LR]; exact a2⟩);rw [a3]; rfl;rw [Jr (by omega),Jr (by rw [Bj,jR]; omega)]; rfl);rw [e];unfold sJ;rw [Qp,List.not_all_eq_any_not];congr 1;funext p;show decide (p.2<=p.1)=!decide (p.1<p.2);rw [lY];simp
noncomputable def yZ(is:List Int):List Bool:=(j8 is).map λp=>decide (p.2<=p.1)
theorem ad7:(yZ is).length=is.length-1:=by unfold yZ j8; rw [aL,Bj,jR]; omega
theorem adk{j:Nat}{a b:Int}(h1:is[j]?=some a)(h2:is[j+1]?=some b):(yZ is)[j]?=some (decide (b<=a)):=by unfold yZ j8;rw [bL];have a3:(is.zip (is.drop 1))[j]?=some (a,b):=(by rw [Ei];exact ⟨h1,by rw [NK,LR]; exact h2⟩);rw [a3]; rfl
theorem ab6:cW ["_law_thing","_law_run"] ["_law_thing"] (bw Np):=dX
theorem amO(F:eY K "_law_house_good" Np f fd)(T:Txt mg t8 t6 tR tL)(yG:Cl P w K mg base 2 "_law_sized" ["_law_thing","_law_size"] rK)(XR:Cl P w K mg base 2 "_law_clock_good" ["_law_thing"] (gQ jg))(Rq:Cl P w K mg base 2 "_law_pairs_good" ["_law_thing"] (gQ Fx)):bf P w K mg base bB 3 f fd ["_law_thing"] (gQ jl):=by refine F.ok ab6 (λvs H Q E h=>?_) (λcdv A outer s H vs Q E hr h=>?_);obtain ⟨x,d,rfl,_⟩:=h;rfl;obtain ⟨x,d,rfl,hd,q⟩:=h;have dO:=cQ;refine ⟨_,(aP (cP (jP (dg (dD (pC yG hr (aq (pV 0) (aq aM aD))))) (pw_or (dg (dD (pC XR hr (aq (jo qP (pV 0) kZ (iu aM)) aD)))) (pw_or1 (dg (dD (bh kO rfl T.gK gG (aq (pX dY (pV 0) aM) (aq (jV (v:=.ty "tuple") rfl T.tuple jA rfl) aD)))))))) (aU (bx dG)) cN) (aP (lG lA rfl (fY (pX dY (pV 0) aM)) (pY 1 ab6) (aP (cP (jP (dg (dD (pC Rq hr (aq (pV 1) aD)))) (pw_or1 (gM (air hr.Kz) (pV 1) (kY aD) (cX _)))) (aU (bx dG)) cN) (aU (cP (dD (bh (aa1 rfl) rfl T.any aaF (aq (iG (bN:=bw Np) (own:=["_law_k"]) (cap:=["_law_run"]) (ix:=[1]) rfl rfl fH (yq rfl T.range (aq (bJ oG (bh jy rfl T.len gO (aq (pV 1) aD)) aM) aD)) (λb=>(pH 0 ["_law_k","_law_run"])) (λb=>fu) (λb=>(jW oGe (pX dY (pX dY (pV 1) (pV 0)) aM) (pX dY (pX dY (pV 1) (bJ gj (pV 0) aM)) aM) (cX _)))) aD))) (aU (bx dG)) cN)))) (aU (bx dG)))),?_⟩;refine ⟨x,d,5,rfl,hd,?_⟩;cases e:oA d 5 with| false =>have z:=q H (aF.refl H);rw [afr e] at z;exact z| true =>cases d with| tup xs =>obtain ⟨a,vs,rfl,ha,rB,r⟩:=hd.dW;obtain ⟨n,l,h,dd,rs,rfl⟩:=adR (dB e);obtain ⟨v1,v2,v3,v4,v5,rfl,h1,h2,h3,h4,h5⟩:=r.five;refine ⟨a,_,rfl,ha,λp H1 hp s1=>?_⟩;have ec:jt [v1,v2,v3,v4,v5] none (some 4)=[v1,v2,v3,v4]:=rfl;rw [ec] at hp;refine ⟨.ref p,.tup [n,l,h,dd],rfl,.tup hp (by show 4<=25; decide) (.cons (h1.same s1) (.cons (h2.same s1) (.cons (h3.same s1) (.cons (h4.same s1) .nil)))),λH2 s2=>?_⟩;have S2:=s1.aA s2;(cases e2:jg (.tup [n,l,h,dd]) with| false =>have w:=q H2 S2;have e3:jl (.tup [n,l,h,dd,rs])=false:=(by have e2':ql n l h dd=false:=e2;simp only [jl,e2',rY]);rw [e3] at w;exact w| true =>have e2':ql n l h dd=true:=e2;have q':∀ H',aF H H'->Q (.bl (Dc rs)) H':=λH' s=>(by have w:=q H' s;simp only [jl,e2',fJ] at w;exact w);clear q;refine dI (aH.of (S2 _ _ ha)) (i:=4) (v:=v5) (by rfl) ?_;obtain ⟨_,⟨T',ty,kt⟩,_⟩:=(h5.same S2).kind (K:=K);refine ⟨_,_,_,_,rfl,ty,kt,?_⟩;cases rs with| tup rs =>obtain ⟨b,ws,rfl,hb,l25,rr⟩:=h5.dW;refine dI (aH.of (S2 _ _ ha)) (i:=4) (v:=.ref b) (by rfl) ?_;refine ⟨b,rfl,⟨_,aH.of (S2 _ _ hb)⟩,rU (xs:=ws) (λi aj H'=>∃ o1:Option V,aj=[bY a,o1]/\aF H H'/\(rs.take i).all nU=true) ⟨none,rfl,S2,rfl⟩ (λi aj H' _ hz=>by obtain ⟨_,_,s',_⟩:=hz; exact aH.of (s' _ _ hb)) (λi y aj H' hy hz=>?_) (fun aj H' hz=>?_)⟩;obtain ⟨o1,rfl,S,al⟩:=hz;obtain ⟨dy,hdy,ya⟩:=rr.get hy;have mem:=fG hdy;have bad:nU dy=false->∀ H',aF H H'->Q (.bl false) H':=λef H' s'=>(by have w:=q' H' s';have e4:Dc (.tup rs)=false:=(by show rs.all nU=false;rw [Xf];intro z;rw [fW.mp z dy mem] at ef; cases ef);rw [e4] at w;exact w);refine ⟨y,dy,rfl,ya.same S,λH3 s3=>?_⟩;have S3:=S.aA s3;(cases ep:Fx dy with| false =>refine bad ?_ H3 S3;(cases dy with| tup xs =>have ep':xs.all eU=false:=ep;simp only [nU,ep',rY,yP]| _=>rfl)| true =>cases dy with| tup xs =>obtain ⟨c,us,rfl,hc,lc,ru⟩:=ya.dW;have len:=ru.len;have ep':xs.all eU=true:=ep;refine ⟨dR _,λE hE=>?_⟩;have sE:aF H3 (upd H3 E (.tup [])):=(aF.refl H3).upd hE;have eE:upd H3 E (.tup []) E=some (.tup []):=aX;generalize upd H3 E (.tup [])=H4 at sE eE |-;have S4:=S3.aA sE;refine ⟨⟨c,E,us,rfl,rfl,S4 _ _ hc,eE,?_⟩⟩;have z0:us.isEmpty=xs.isEmpty:=(by cases ru <;> rfl);show (if us.isEmpty=true then _ else _);rw [z0];(cases xs with| nil =>rw [bI (show ([]:List Da).isEmpty=true from rfl)];exact bad rfl H4 S4| cons x0 xr =>obtain ⟨u0,ur,rfl,_,_⟩:=ru.inv;rw [aZ (by simp)];have row:∀(j:Nat)(u:V),(u0 :: ur)[j]?=some u->∃(ck:au)(z:V)(i:Int),u=.ref ck/\H ck=some (.tup [z,.int i])/\((x0 :: xr).map λx=>intD (uT x))[j]?=some i:=λj u hu=>(by obtain ⟨y,hy,yd⟩:=ru.get hu;obtain ⟨z,i,rfl,_⟩:=Fd (fW.mp ep' y (fG hy));obtain ⟨ck,wk,rfl,hck,_,rk⟩:=yd.dW;obtain ⟨w1,w2,rfl,g1,g2⟩:=rk.two;cases g2 with| int _=>exact ⟨ck,w1,i,rfl,hck,by rw [bL,hy]; rfl⟩);have lis:((x0 :: xr).map λx=>intD (uT x)).length=(u0 :: ur).length:=(by rw [aL]; exact len.symm);have Yh:nU (.tup (x0 :: xr))=sJ ((x0 :: xr).map λx=>intD (uT x)):=(by simp only [nU,ep',fJ,List.isEmpty_cons,Bool.not_false]);generalize (x0 :: xr).map (λx=>intD (uT x))=is at row lis Yh;generalize eus:u0 :: ur=us at row lis hc len lc;have ne:us.length≠0:=(by rw [<- eus]; simp);refine ⟨c,us,rfl,.inr (aH.of (S4 _ _ hc)),?_⟩;refine ⟨(us.length:Int)-1,rfl,by omega,by omega,λD hD=>JB (lo:=0) (n:=((us.length:Int)-1).toNat) (λk H'=>eG H4 H' D (((yZ is).take k).map V.bl)) (eG.start hD) (λH' G=>?_) (λk H' hk G b=>?_)⟩;have ll:((us.length:Int)-1).toNat=(yZ is).length:=(by rw [ad7,lis]; omega);rw [ll,lW] at G;refine ⟨D,yZ is,rfl,aV.of G.at',?_⟩;show (if (yZ is).any id=true then _ else _);rw [akb ad7 λj a b h1 h2=>adk h1 h2];have S5:=S4.aA G.same;(cases er:sJ is with| false=>exact bad (by rw [Yh,er]) H' S5| true =>refine ⟨some (.ref c),rfl,S5,?_⟩;rw [fZ,hdy,List.all_append,al];show (nU (.tup (x0 :: xr)) && true)=true;rw [Yh,er]; rfl);have S5:=S4.aA G.same;have h1:us[k]?=some us[k]:=gD (by omega);have h2:us[k+1]?=some us[k+1]:=gD (by omega);obtain ⟨c1,z1,i1,e1,g1,f1⟩:=row _ _ h1;obtain ⟨c2,z2,i2,e2,g2,f2⟩:=row _ _ h2;rw [e1] at h1;rw [e2] at h2;refine dI (aH.of (S5 _ _ hc)) (i:=0+(k:Int)) (v:=.ref c1) (by rw [Hl]; exact oW h1) ?_;refine dI (aH.of (S5 _ _ g1)) (i:=1) (v:=.int i1) (by rfl) ?_;refine dI (aH.of (S5 _ _ hc)) (i:=0+(k:Int)+1) (v:=.ref c2) (by rw [show (0+(k:Int)+1)=((k+1:Nat):Int) by omega]; exact oW h2) ?_;refine dI (aH.of (S5 _ _ g2)) (i:=1) (v:=.int i2) (by rfl) ?_;refine ⟨_,G.at',by rw [aL,gR]; omega,nx hk ?_⟩;show eG _ _ _ (((yZ is).take (k+1)).map V.bl);rw [fZ,adk f1 f2,jq];exact G.put hD _)| _=>cases ep);obtain ⟨o1,rfl,S,al⟩:=hz;rw [rr.len,lW] at al;have w:=q' H' S;have e4:Dc (.tup rs)=true:=al;rw [e4] at w;exact w| _=>exact q' H2 S2)| _=>cases e
noncomputable def Ax(ps:List (Str × Str))(d:Da):Bool:=match oZ ps (keyOf d).1,oZ ps (keyOf d).2 with
 | some a,some b=>!decide (a=b)
 | _,_=>false
noncomputable def Vb:Sp:=λvs H Q _=>vZ λ(x:V)(d:Da)(O:au)(kvs:List (Key × V))(ps:List (Str × Str))=>jJ (vs=[x,.ref O]) (bD H x d) (H O=some (.dK kvs)) (tG kvs ps) (∀ H',aF H H'->Q (.bl (lB d && Ax ps d)) H')
theorem ah2(h:oA d 4=false):lB d=false:=by
 cases d with
 | tup xs =>
   match xs,h with
   | [],_=>rfl
   | [_],_=>rfl
   | [_,_],_=>rfl
   | [_,_,_],_=>rfl
   | [_,_,_,_],h=>cases h
   | _ :: _ :: _ :: _ :: _ :: _,_=>rfl
 | _=>rfl
theorem nameE(h:bD H v d)(e:lJ d=true):∃ z,d=.str z/\v=.str z:=by cases h with| str z _=>exact ⟨z,rfl,rfl⟩| _=>cases e
theorem apt:cW ["_law_thing","_law_home"] ["_law_thing","_law_home"] (bw Q7):=dX
theorem akd(F:eY K "_law_letter_good" Q7 f fd)(T:Txt mg t8 t6 tR tL)(yG:Cl P w K mg base 1 "_law_sized" ["_law_thing","_law_size"] rK)(Ak:Cl P w K mg base 1 "_law_name" ["_law_thing"] (uR K))(wZ:Cl P w K mg base 1 "_law_whole" ["_law_thing"] (tY K)):bf P w K mg base bB 2 f fd ["_law_thing","_law_home"] Vb:=by refine F.ok apt (λvs H Q E h=>?_) (λcdv A outer s H vs Q E hr h=>?_);obtain ⟨x,d,O,kvs,ps,rfl,_⟩:=h;rfl;obtain ⟨x,d,O,kvs,ps,rfl,hd,eO,ow,q⟩:=h;have dO:=cQ;refine ⟨_,(aP (cP (jP (dg (dD (pC yG hr (aq (pV 0) (aq aM aD))))) (pw_or (dg (dD (pC Ak hr (aq (pX dY (pV 0) aM) aD)))) (pw_or1 (dg (dD (pC Ak hr (aq (pX dY (pV 0) aM) aD))))))) (aU (bx dG)) cN) (aP (cP (jP (Hg (Li (jk hr) (pX dY (pV 0) aM) (pV 1))) (pw_or1 (Hg (Li (jk hr) (pX dY (pV 0) aM) (pV 1))))) (aU (bx dG)) cN) (aP (cP (gM aan (lN (jk hr) (pV 1) (pX dY (pV 0) aM) (λ_ _=>rfl)) (lN (jk hr) (pV 1) (pX dY (pV 0) aM) (λ_ _=>rfl)) (cX _)) (aU (bx dG)) cN) (aP (cP (jP (dg (dD (pC wZ hr (aq (pX dY (pV 0) aM) aD)))) (pw_or1 (gM oLt (pX dY (pV 0) aM) aM (cX _)))) (aU (bx dG)) cN) (aU (bx (Vv (jW Yk (pX dY (pV 0) aM) yI (cX _)) (oF (mZ (pC wZ hr (aq (pX dY (pV 0) aM) aD)) (oF (jW oGe (pX dY (pV 0) aM) (pX dY (pV 0) aM) (cX _)))))))))))),?_⟩;refine ⟨x,d,4,rfl,hd,?_⟩;cases e:oA d 4 with| false =>have z:=q H (aF.refl H);rw [ah2 e] at z;exact z| true =>cases d with| tup xs =>obtain ⟨a,vs,rfl,ha,rB,r⟩:=hd.dW;obtain ⟨y1,y2,y3,y4,rfl⟩:=Il (dB e);obtain ⟨v1,v2,v3,v4,rfl,h1,h2,h3,h4⟩:=r.four;refine dI (aH.of ha) (i:=0) (v:=v1) (by rfl) ?_;obtain ⟨th1,_,_,n1⟩:=h1.kind (K:=K);refine ⟨_,rfl,th1,λH1 s1=>?_⟩;rw [n1];have q:∀ H',aF H H'->Q (.bl ((lJ y1 && (lJ y2 && (gW y3 && (decide (1<=intD y3) && Hs (intD y3) y4)))) && Ax ps (.tup [y1,y2,y3,y4]))) H':=q;(cases e1:lJ y1 with| false=>rw [e1] at q; exact q H1 s1| true =>rw [e1,fJ] at q;refine dI (aH.of (s1 _ _ ha)) (i:=1) (v:=v2) (by rfl) ?_;obtain ⟨Aa,_,_,n2⟩:=(h2.same s1).kind (K:=K);refine ⟨_,rfl,Aa,λH2 s2=>?_⟩;rw [n2];have S:=s1.aA s2;cases e2:lJ y2 with| false=>rw [e2] at q; exact q H2 S| true =>rw [e2,fJ] at q;obtain ⟨s,rfl,rfl⟩:=nameE h1 e1;obtain ⟨t,rfl,rfl⟩:=nameE h2 e2;have ha2:=S _ _ ha;have eO2:=S _ _ eO;have qO:Ax ps (.tup [.str s,.str t,y3,y4])=false->Q (.bl false) H2:=λhb=>(by have w:=q H2 S;rw [hb,yP] at w;exact w);have eo:Ax ps (.tup [.str s,.str t,y3,y4])=(match oZ ps s,oZ ps t with | some a,some b=>!decide (a=b) | _,_=>false):=rfl;refine dI (aH.of ha2) (i:=0) (v:=.str s) (by rfl) ?_;refine ⟨O,_,rfl,lO.k (k:=bR s) eO2,_,rfl,?_⟩;have w1:=ow s;cases e3:oZ ps s with| none =>rw [w1,e3];exact qO (by rw [eo,e3])| some o1 =>rw [w1,e3];rw [e3] at w1;refine dI (aH.of ha2) (i:=1) (v:=.str t) (by rfl) ?_;refine ⟨O,_,rfl,lO.k (k:=bR t) eO2,_,rfl,?_⟩;have w2:=ow t;cases e4:oZ ps t with| none =>rw [w2,e4];exact qO (by rw [eo,e3,e4])| some o2 =>rw [w2,e4];rw [e4] at w2;refine dI (aH.of ha2) (i:=0) (v:=.str s) (by rfl) ?_;refine ⟨O,_,rfl,w1 ▸ lO.k (k:=bR s) eO2,?_⟩;refine dI (aH.of ha2) (i:=1) (v:=.str t) (by rfl) ?_;refine ⟨O,_,rfl,w2 ▸ lO.k (k:=bR t) eO2,?_⟩;refine fQ (λz=>?_) (λz=>?_);exact qO (by rw [eo,e3,e4]; show (!decide (o1=o2))=false; rw [z]; rfl);have eo2:Ax ps (.tup [.str s,.str t,y3,y4])=true:=(by rw [eo,e3,e4];show (!decide (o1=o2))=true;rw [Xf.mpr z]; rfl);rw [eo2,DR] at q;refine dI (aH.of ha2) (i:=2) (v:=v3) (by rfl) ?_;obtain ⟨th3,_,w3,_⟩:=(h3.same S).kind (K:=K);refine ⟨_,rfl,th3,?_⟩;rw [w3];cases e5:gW y3 with| false=>rw [e5] at q; exact q H2 S| true =>rw [e5,fJ] at q;obtain ⟨i3,rfl,rfl⟩:=NQ h3 e5;refine dI (aH.of ha2) (i:=2) (v:=.int i3) (by rfl) ?_;refine fQ (λz=>?_) (λz=>?_);have z':decide (1<=intD (.int i3))=false:=fP (by have:=dB z; show ¬ (1:Int)<=i3; omega);rw [z',rY] at q;exact q H2 S;have z':decide (1<=intD (.int i3))=true:=cg (by have:¬ i3<1:=λw=>z (cg w);show (1:Int)<=i3; omega);rw [z',fJ] at q;refine dI (aH.of ha2) (i:=3) (v:=v4) (by rfl) ?_;refine ⟨rfl,?_⟩;obtain ⟨rC,_,w4,_⟩:=(h4.same S).kind (K:=K);cases h4 with| non=>exact q H2 S| int i4 =>refine dI (aH.of ha2) (i:=3) (by rfl) ?_;refine ⟨_,rfl,rC,?_⟩;refine dI (aH.of ha2) (i:=3) (by rfl) ?_;refine dI (aH.of ha2) (i:=2) (by rfl) ?_;exact q H2 S| bl b4=>exact dI (aH.of ha2) (i:=3) (by rfl) ⟨_,rfl,rC,q H2 S⟩| str z4 hz4=>exact dI (aH.of ha2) (i:=3) (by rfl) ⟨_,rfl,rC,q H2 S⟩| tup g1 g2 g3=>exact dI (aH.of ha2) (i:=3) (by rfl) ⟨_,rfl,rC,q H2 S⟩| lst g1=>exact dI (aH.of ha2) (i:=3) (by rfl) ⟨_,rfl,rC,q H2 S⟩| uh g1=>exact dI (aH.of ha2) (i:=3) (by rfl) ⟨_,rfl,rC,q H2 S⟩)| _=>cases e
structure GoodW(h:bK):Prop extends pW h where
 narrow:h.high-h.low<=300
 QL:-1000<=h.low
 TX:h.high<=1000
 near:∀ r∈iT h,-1000<=r.2/\r.2<=1000
 aaq:h.bZ<=1000
 ak5:h.runs.length<=3
noncomputable def PL:Sp:=λvs H Q _=>vZ λ(p:au)(nm:Str)(ln:au)(ss:List Str)(room:Int)=>QA8 (vs=[.ref p,.str nm,.ref ln,.int room]) (iH H p) (fU nm) (H ln=some (.lst (ss.map V.str))) (ss.length<=12) (ss.Nodup) ((∀ s∈ss,fU s)) (∀(r d:au)(hv:V)(h:bK)(kvs:List (Key × V))(m:Nat)(H':Hp),H r=none->H d=none->H' r=some (.tup [hv,.ref d])->qD H' hv h->GoodW h->h.name=nm->cV h=ss.take m->m<=ss.length->((m:Int)<=room\/m=0)->H' d=some (.dK kvs)->kvs.map (·.1)=(ss.take m).map bR->(∀ n∈ss.take m,∃ i:Int,fO kvs (.inr n)=some (.int i))->iH H' p->dF p H H'->mJ h (gH kvs)=true->Q (.ref r) H')
noncomputable def zx(mo:Int)(m i:Nat):Prop:=-20<=mo/\mo<=60+40 * (m:Int)+5 * (i:Int)
noncomputable def PwA(p ln R D:au)(nm:Str)(room low wide bZ:Int)(H:Hp)(ss:List Str):Nat->St->Hp->Prop:=λi aj H'=>YD λ(mo:Int)(m:Nat)(vr:List V)(kvs:List (Key × V))(runs:List (List Row))(iZ iY iV ig iy:Option V)=>vK (aj=[bY p,za nm,bY ln,iJ room,iJ low,iJ wide,iJ bZ,iJ mo,bY R,bY D,iJ (m:Int),iZ,iY,iV,ig,iy]) (HS H p R D ss room H' vr kvs runs m) (runs.flatten.map dw=ss.take m) (runs.length<=i) (qm low wide bZ 0 (gH kvs) mo runs []) (zx mo m i)
noncomputable def PwB(p ln R D L:au)(nm:Str)(room low wide bZ qZ:Int)(H:Hp)(ss:List Str)(i:Nat)(vr:List V)(runs:List (List Row)):Nat->St->Hp->Prop:=λj aj cM=>QX7 λ(mo:Int)(m:Nat)(kvs:List (Key × V))(vl:List V)(rs:List Row)(ig iy:Option V)=>QA9 (aj=[bY p,za nm,bY ln,iJ room,iJ low,iJ wide,iJ bZ,iJ mo,bY R,bY D,iJ (m:Int),iJ (0+(i:Int)),iJ (low+qZ),bY L,ig,iy]) (HS H p R D ss room cM vr kvs runs m) (cM L=some (.lst vl)) (eX (je cM) vl rs) ((runs.flatten++rs).map dw=ss.take m) (rs.length<=j) ((rs.map yh).Pairwise (·<·)) (qm low wide bZ (low+qZ) (gH kvs) mo runs rs) (zx mo m i)
theorem pB:cW ["_law_pack_here","_law_name_here","_law_names_here","_law_room","_law_low","_law_wide","_law_drift","_law_moment","_law_runs","_law_hidden","_law_at","_law_turn","_law_off","_law_rows_here","_law_step","_law_reading"] ["_law_pack_here","_law_name_here","_law_names_here","_law_room"] (bw Tc):=dX
theorem apI(F:eY K "_law_house" Tc f fd)(T:Txt mg t8 t6 tR tL)(gP:Cl P w K mg base 1 "_law_take" ["_law_pack_here","_law_size"] zO):bf P w K mg base bB 2 f fd ["_law_pack_here","_law_name_here","_law_names_here","_law_room"] PL:=by refine F.ok pB (λvs H Q E h=>?_) (λcdv A outer s H vs Q E hr h=>?_);obtain ⟨p,nm,ln,ss,room,rfl,_⟩:=h;rfl;obtain ⟨p,nm,ln,ss,room,rfl,hp,gn,hln,few,nd,gs,q⟩:=h;have dO:=cQ;have nln:ln≠p:=λz=>(by obtain ⟨n,e,_⟩:=hp;rw [z,e] at hln;cases ss with| nil=>cases hln| cons s ss=>cases hln);refine ⟨_,(aP (pZ 4 pB (bJ oG (pC gP hr (aq (pV 0) (aq aM aD))) aM)) (aP (pZ 5 pB (pX mY (iU (aq aM (aq aM (aq aM (aq aM aD))))) (pC gP hr (aq (pV 0) (aq aM aD))))) (aP (pZ 6 pB (pX mY (iU (aq aM (aq aM (aq aM (aq aM aD))))) (pC gP hr (aq (pV 0) (aq aM aD))))) (aP (pZ 7 pB (bJ oG (pC gP hr (aq (pV 0) (aq aM aD))) aM)) (aP (pZ 8 pB (iU aD)) (aP (pZ 9 pB yK) (aP (pZ 10 pB aM) (aP (lG lA rfl (yq rfl T.range (aq (pC gP hr (aq (pV 0) (aq aM aD))) aD)) (pY 11 pB) (aP (pZ 12 pB (bJ gj (pV 4) (pC gP hr (aq (pV 0) (aq (bJ gj (pV 5) aM) aD))))) (aP (pZ 13 pB (iU aD)) (aP (lG lA rfl (yq rfl T.range (aq (bJ gj aM (pC gP hr (aq (pV 0) (aq aM aD)))) aD)) (pY 14 pB) (aU (cP (Dm (gM oLt (pV 10) (pV 3) (cX _)) (pw_and1 (gM oLt (pV 10) (bh jy rfl T.len gO (aq (pV 2) aD)) (cX _)))) (aP (pZ 7 pB (bJ gj (bJ gj (pV 7) aM) (pC gP hr (aq (pV 0) (aq aM aD))))) (aP (pZ 15 pB (bJ gj (pV 7) (pV 12))) (aP (cP (Dm (gM (RN hr.units) (pV 13) (iU aD) (cX _)) (pw_and (gM oLe (bJ gj (pV 12) aM) (bJ gj (pV 4) (pV 5)) (cX _)) (pw_and (gM oEq (pC gP hr (aq (pV 0) (aq aM aD))) aM (cX _)) (pw_and1 (gM wu (pV 6) aM (cX _)))))) (aU (pZ 15 pB (bJ gj (pV 15) aM))) cN) (aP (cP (Dm (gM (RN hr.units) (pV 13) (iU aD) (cX _)) (pw_and1 (gM oLe (pV 15) (pX dY (pX mY (pV 13) (NZ K4 aM)) aM) (cX _)))) (aU (pZ 15 pB (bJ gj (pX dY (pX mY (pV 13) (NZ K4 aM)) aM) aM))) cN) (aP (Ph (jk hr) (pV 9) (pX mY (pV 2) (pV 10)) (pV 7) rfl) (aP (Cw (Az CV Hu J7 Ba (pV 13) (aq (kY (aq (pX mY (pV 2) (pV 10)) (aq (pV 15) aD))) aD))) (aU (pZ 10 pB (bJ gj (pV 10) aM))))))))) cN))) (aP (cP (gM (RN hr.units) (pV 13) (iU aD) (cX _)) (aU (Cw (Az CV Hu J7 Ba (pV 8) (aq (oO vC rfl T.tuple jA (aq (pV 13) aD)) aD)))) cN) (aU (pZ 7 pB (bJ gj (pV 7) (pC gP hr (aq (pV 0) (aq aM aD))))))))))) (aU (bx (kY (aq (kY (aq (pV 1) (aq (pV 4) (aq (bJ gj (pV 4) (pV 5)) (aq (pV 6) (aq (oO vC rfl T.tuple jA (aq (pV 8) aD)) aD)))))) (aq (pV 9) aD))))))))))))),?_⟩;refine gV λU1 yV=>?_;refine ⟨p,41,rfl,hp,by decide,by decide,λd1 H1 d10 d11 hp1 s1=>?_⟩;show U1 _ _;subst yV;refine gV λU2 hU2=>?_;refine ⟨by show 4<=aO; omega,λl1 hl1=>?_⟩;refine ⟨p,4,rfl,hp1.new hl1,by decide,by decide,λd2 H2 d2a d2b hp2 s2=>?_⟩;have nl1:l1≠p:=λz=>(by obtain ⟨n,e,_⟩:=hp1; rw [<- z,hl1] at e; cases e);obtain ⟨wide,ew,w0,w1⟩:=ab1 (a:=0) (b:=3) (c:=40) (e:=300) d2a d2b (by decide) (by decide) (by decide) (by decide);refine qt (s2 l1 _ nl1 aX) ew ?_;show U2 _ _;subst hU2;have S2:dF p H H2:=((dF.of (aF.refl H)).aA s1 |>.new hl1).aA s2;refine gV λU3 hU3=>?_;refine ⟨by show 4<=aO; omega,λl2 hl2=>?_⟩;refine ⟨p,4,rfl,hp2.new hl2,by decide,by decide,λd3 H3 d3a d3b hp3 s3=>?_⟩;have nl2:l2≠p:=λz=>(by obtain ⟨n,e,_⟩:=hp2; rw [<- z,hl2] at e; cases e);obtain ⟨bZ,ed,dr0,dr1⟩:=ab1 (a:=0) (b:=1) (c:=2) (e:=9) d3a d3b (by decide) (by decide) (by decide) (by decide);refine qt (s3 l2 _ nl2 aX) ed ?_;show U3 _ _;subst hU3;have S3:dF p H H3:=(S2.new hl2).aA s3;refine gV λU4 hU4=>?_;refine ⟨p,60,rfl,hp3,by decide,by decide,λd4 H4 d40 d41 hp4 s4=>?_⟩;show U4 _ _;subst hU4;have S4:dF p H H4:=S3.aA s4;refine gV λU5 hU5=>?_;refine ⟨dR _,λR hR=>?_⟩;show U5 _ _;subst hU5;have nR:R≠p:=λz=>(by obtain ⟨n,e,_⟩:=hp4; rw [<- z,hR] at e; cases e);have fR:H R=none:=(by cases e:H R with| none=>rfl| some o=>have:=S4 R o nR e; rw [hR] at this; cases this);refine gV λU6 hU6=>?_;refine λD hD=>?_;show U6 _ _;subst hU6;have hp5:=hp4.new (o:=.lst []) hR;have S5:dF p H (upd H4 R (.lst [])):=S4.new hR;have nD:D≠p:=λz=>(by obtain ⟨n,e,_⟩:=hp5; rw [<- z,hD] at e; cases e);have nRD:R≠D:=dN aX hD;have fD:H D=none:=(by cases e:H D with| none=>rfl| some o=>have:=S5 D o nD e; rw [hD] at this; cases this);have nlD:ln≠D:=dN hln fD;refine ⟨p,4,rfl,hp5.new hD,by decide,by decide,λn1 H6 n1a n1b hp6 s6=>?_⟩;have S6:dF p H H6:=(S5.new hD).aA s6;obtain ⟨low,hlow⟩:∃ low,low=d1-20:=⟨_,rfl⟩;refine ⟨n1,rfl,by omega,by omega,GK (lo:=0) (n:=n1.toNat) (PwA p ln R D nm room low wide bZ H ss) ?_ (λi aj H' hi ao4=>?_) (fun aj H' apm=>?_)⟩;exact ⟨_,0,[],[],[],none,none,none,none,none,by subst hlow; rfl,⟨hp6,S6,s6 R _ nR (by rw [aW nRD]; exact aX),.nil,s6 D _ nD aX,rfl,λn hn=>by simp at hn,dR _,.inr rfl,λr hr=>by simp at hr⟩,rfl,dR _,alC,by unfold zx; omega⟩;refine bU λcu aQ=>?_;obtain ⟨mo,m,vr,kvs,runs,iZ,iY,iV,ig,iy,eσ,S,fl,rl,fe,mb⟩:=ao4;subst aQ;subst eσ;refine ⟨p,wide+1,rfl,S.pack,by omega,by omega,λqZ Ha ap0 apT hpa sa=>?_⟩;have Sa:=S.step nR nD hpa sa;refine ⟨dR _,λL hL=>?_⟩;have Sb:=Sa.new (o:=.lst []) nR nD hL;have nLp:L≠p:=λz=>(by obtain ⟨n,e,_⟩:=Sa.pack; rw [<- z,hL] at e; cases e);have nLR:L≠R:=λz=>(by rw [z,Sa.hR] at hL; cases hL);have nLD:L≠D:=λz=>(by rw [z,Sa.hD] at hL; cases hL);have fL:H L=none:=(by cases e:H L with| none=>rfl| some o=>have:=Sa.same L o nLp e; rw [hL] at this; cases this);refine ⟨p,3,rfl,Sb.pack,by decide,by decide,λn2 Hc n2a n2b hpc sc=>?_⟩;have Sc:=Sb.step nR nD hpc sc;have hLc:Hc L=some (.lst []):=sc L _ nLp aX;refine ⟨1+n2,rfl,by omega,by omega,GK (lo:=0) (n:=(1+n2).toNat) (PwB p ln R D L nm room low wide bZ qZ H ss i vr runs) ?_ (λj aj cM hj ahH=>?_) (fun aj cM ak6=>?_)⟩;exact ⟨mo,m,kvs,[],[],_,_,rfl,Sc,hLc,.nil,by rw [Cv]; exact fl,dR _,yc,YL fe,mb⟩;refine bU λcu aQ=>?_;obtain ⟨mo,m,kvs,vl,rs,ig,iy,eσ,S,hL',pl,wL,rl',ris,fe,mb⟩:=ahH;subst aQ;subst eσ;have gr:∀ r∈rs,fU r.1:=λr hr=>gs r.1 (by have z:r.1∈ss.take m:=(by rw [<- wL,jq]; exact lV _ (mW hr));exact xW z);have skip:QX7 λ(qx:Int)(m':Nat)(wB:List (Key × V))(vl':List V)(rs':List Row)(ajL akx:Option V)=>QA9 (([some (.ref p),some (.str nm),some (.ref ln),some (.int room),some (.int low),some (.int wide),some (.int bZ),some (.int mo),some (.ref R),some (.ref D),some (.int (m:Int)),some (.int (0+(i:Int))),some (.int (low+qZ)),some (.ref L),some (.int (0+(j:Int))),iy]:St)=[some (.ref p),some (.str nm),some (.ref ln),some (.int room),some (.int low),some (.int wide),some (.int bZ),some (.int qx),some (.ref R),some (.ref D),some (.int (m':Int)),some (.int (0+(i:Int))),some (.int (low+qZ)),some (.ref L),ajL,akx]) (HS H p R D ss room cM vr wB runs m') (cM L=some (.lst vl')) (eX (je cM) vl' rs') ((runs.flatten++rs').map dw=ss.take m') (rs'.length<=j+1) ((rs'.map yh).Pairwise (·<·)) (qm low wide bZ (low+qZ) (gH wB) qx runs rs') (zx qx m' i):=⟨mo,m,kvs,vl,rs,_,_,rfl,S,hL',pl,wL,Ju rl',ris,fe,mb⟩;refine fQ (λc1=>?_) (λc1=>skip);refine ⟨ln,_,rfl,.inl (aV.of (S.same ln _ nln hln)),?_⟩;refine fQ (λc2=>?_) (λc2=>skip);clear skip;have hroom:(m:Int)<room:=dB c1;have hlen:m<ss.length:=(by have z:(m:Int)<((ss.map V.str).length:Int):=dB c2;rw [aL] at z; omega);refine bU λRz1 Jk=>?_;obtain ⟨n,hn⟩:∃ n,ss[m]?=some n:=⟨ss[m],gD hlen⟩;subst Jk;refine gV λV1 hV1=>?_;refine ⟨p,30,rfl,S.pack,by decide,by decide,λd5 Hd d50 d51 hpd sd=>?_⟩;show V1 _ _;subst hV1;refine gV λV2 hV2=>?_;show V2 _ _;subst hV2;have Sd:=S.step nR nD hpd sd;have hLd:Hd L=some (.lst vl):=sd L _ nLp hL';have pld:eX (je Hd) vl rs:=j4 (λ_ _ z=>z.ts (dF.dH S.pack sd)) pl;refine J1 (NvR p ln R D L nm room low wide bZ qZ (mo+1+d5) m (.int (0+(i:Int))) (.int (0+(j:Int))) H ss vr vl kvs runs rs (zZ low wide bZ (low+qZ) (mo+1+d5))) (λU hU=>?_) (fun dJ H2 hN2=>?_);have Iz:∀(rd:Int)(H9:Hp),zZ low wide bZ (low+qZ) (mo+1+d5) rd->HS H p R D ss room H9 vr kvs runs m->H9 L=some (.lst vl)->eX (je H9) vl rs->U [some (.ref p),some (.str nm),some (.ref ln),some (.int room),some (.int low),some (.int wide),some (.int bZ),some (.int (mo+1+d5)),some (.ref R),some (.ref D),some (.int (m:Int)),some (.int (0+(i:Int))),some (.int (low+qZ)),some (.ref L),some (.int (0+(j:Int))),some (.int rd)] H9:=λrd H9 x0 x1 x2 x3=>hU _ _ ⟨rd,rfl,x1,x2,x3,x0⟩;refine ⟨dR _,λe1 wg=>?_⟩;have Se:=Sd.new (o:=.lst []) nR nD wg;have hLe:upd Hd e1 (.lst []) L=some (.lst vl):=(aW (dN hLd wg)).aA hLd;have ple:eX (je (upd Hd e1 (.lst []))) vl rs:=j4 (λ_ _ z=>z.ts ((jc.refl Hd).new wg)) pld;refine PX hLe ple gr aX ?_;generalize (!rs.isEmpty)=bb;(cases bb with| false=>exact Iz _ _ (.inl rfl) Se hLe ple| true =>refine fQ (λk1=>?_) (λk1=>Iz _ _ (.inl rfl) Se hLe ple);refine ⟨p,3,rfl,Se.pack,by decide,by decide,λd6 Hh _ _ hph sh=>?_⟩;have Sh:=Se.step nR nD hph sh;have hLh:Hh L=some (.lst vl):=sh L _ nLp hLe;have plh:eX (je Hh) vl rs:=j4 (λ_ _ z=>z.ts (dF.dH Se.pack sh)) ple;exact fQ (λk2=>fQ (λk3=>Iz _ _ (.inr ⟨rfl,dB k3,dB k1⟩) Sh hLh plh) (λk3=>Iz _ _ (.inl rfl) Sh hLh plh)) (λk2=>Iz _ _ (.inl rfl) Sh hLh plh));refine bU λRz1 Jk=>?_;obtain ⟨rd,af6,Sx,hLx,plx,rok⟩:=hN2;subst Jk;subst af6;refine J1 (NvR p ln R D L nm room low wide bZ qZ (mo+1+d5) m (.int (0+(i:Int))) (.int (0+(j:Int))) H ss vr vl kvs runs rs (λrd=>(∀ r∈rs,r.2<rd)/\zZ low wide bZ (low+qZ) (mo+1+d5) rd)) (λU hU=>?_) (fun zq H3 hN3=>?_);refine ⟨dR _,λfa hfa=>?_⟩;have Sga:=Sx.new (o:=.lst []) nR nD hfa;have Gm:upd H2 fa (.lst []) L=some (.lst vl):=(aW (dN hLx hfa)).aA hLx;have HJ:eX (je (upd H2 fa (.lst []))) vl rs:=j4 (λ_ _ z=>z.ts ((jc.refl _).new hfa)) plx;refine PX Gm HJ gr aX ?_;rcases aez rs with er | ⟨rs0,rl0,er⟩;subst er;exact hU _ _ ⟨_,rfl,Sga,Gm,HJ,λr hr=>by simp at hr,rok⟩;rw [aah] at er;have ne:(!rs.isEmpty)=true:=(by rw [er]; simp);rw [ne];have aiy:∃ vl0 vL,vl=vl0++[vL]/\∀ Hx,eX (je Hx) vl rs->je Hx vL rl0:=(by have hv:vl≠[]:=λz=>(by have:=pl.length;rw [z,er] at this;simp at this);obtain ⟨vl0,vL,ev⟩:=(aez vl).resolve_left hv;rw [aah] at ev;refine ⟨vl0,vL,ev,λHx px=>?_⟩;have l1:=px.length;rw [ev,er,dZ,dZ] at l1;have e1:vl[vl0.length]?=some vL:=(by rw [ev]; simp);obtain ⟨r,hr,ra⟩:=iK px e1;have e2:rs[vl0.length]?=some rl0:=(by have:vl0.length=rs0.length:=(by simpa using l1);rw [er,this]; simp);rw [e2] at hr;cases hr;exact ra);refine bU λcu aQ=>?_;obtain ⟨vl0,vL,evl,akL⟩:=aiy;obtain ⟨gaa,rfl,gba⟩:=akL _ HJ;subst aQ;have adv:∀ rd:Int,rl0.2<rd->∀ r∈rs,r.2<rd:=λrd h r hr=>(by rw [er] at hr ris;rcases iC.mp hr with z | z;rw [jq] at ris;have:=(VR.mp ris).2.2 r.2 (mW z) rl0.2 (by simp);omega;rw [lg.mp z]; exact h);refine qt Gm (i:=-1) (v:=.ref gaa) (by rw [evl]; exact acG) ?_;refine dI (aH.of gba) (i:=1) (v:=.int rl0.2) (by rfl) ?_;refine fQ (λcc=>?_) (λcc=>?_);refine qt Gm (i:=-1) (v:=.ref gaa) (by rw [evl]; exact acG) ?_;refine dI (aH.of gba) (i:=1) (v:=.int rl0.2) (by rfl) ?_;exact hU _ _ ⟨_,rfl,Sga,Gm,HJ,adv _ (by omega),apq fe (by rw [er]; simp) d50 rok (dB cc)⟩;have cc2:¬ rd<=rl0.2:=λz=>cc (cg z);exact hU _ _ ⟨_,rfl,Sga,Gm,HJ,adv _ (by omega),rok⟩;refine bU λRz1 Jk=>?_;obtain ⟨rd,aeU,Sy,hLy,ply,lt,rok⟩:=hN3;subst Jk;subst aeU;refine qt (Sy.same ln _ nln hln) (i:=(m:Int)) (v:=.str n) (oW (by rw [bL,hn]; rfl)) ?_;refine ⟨D,_,rfl,xK.k (k:=bR n) Sy.hD (by have z:=jr rA Sy.keys; rw [aL,aL,gR] at z; omega),?_⟩;have hLq:upd H3 D (.dK (eV kvs (.inr n) (.int (mo+1+d5)))) L=some (.lst vl):=(aW nLD).aA hLy;refine ⟨.inl ⟨rfl,_,aV.of hLq⟩,?_⟩;refine qt ((aW nlD).aA (Sy.same ln _ nln hln)) (i:=(m:Int)) (v:=.str n) (oW (by rw [bL,hn]; rfl)) ?_;refine ⟨by show 2<=aO; omega,λtp htp=>?_⟩;obtain ⟨Sq,pq⟩:=HS.put (rd:=rd) Sy nR nD nRD nLp nLR nLD fD fL nd hn hroom hLy ply htp;refine ⟨L,vl,_,rfl,rfl,(aW (dN hLq htp)).aA hLq,by have z:=ply.length; omega,?_⟩;exact ⟨_,m+1,_,_,rs++[(n,rd)],_,_,rfl,Sq,aX,pq,by rw [<- pQ,jq,wL,Uu hn]; rfl,by rw [dZ]; exact GZ rl' 1,aiE ris lt,aow fe (by omega) (by unfold zx at mb; omega) (λz=>Vs nd hn (wL ▸ z)) rok (by omega) (by omega),by unfold zx at mb |-; omega⟩;refine bU λcu aQ=>?_;obtain ⟨mo,m,kvs,vl,rs,ig,iy,eσ,S,hL',pl,wL,rl',ris,fe,mb⟩:=ak6;subst aQ;subst eσ;have gr:∀ r∈rs,fU r.1:=λr hr=>gs r.1 (by have z:r.1∈ss.take m:=(by rw [<- wL,jq]; exact lV _ (mW hr));exact xW z);refine ⟨dR _,λe1 wg=>?_⟩;have Se:=S.new (o:=.lst []) nR nD wg;have hLe:upd cM e1 (.lst []) L=some (.lst vl):=(aW (dN hL' wg)).aA hL';have ple:eX (je (upd cM e1 (.lst []))) vl rs:=j4 (λ_ _ z=>z.ts ((jc.refl _).new wg)) pl;have lr:=ple.length;have lrr:=Se.pR.length;refine PX hLe ple gr aX ?_;refine fQ (λc1=>?_) (λc1=>?_);have rne:rs≠[]:=λz=>(by rw [z] at c1; cases c1);refine ⟨.inl ⟨rfl,_,aV.of Se.hR⟩,?_⟩;refine ⟨L,vl,rfl,.inl ⟨aV.of hLe,λt9 ht9=>?_⟩⟩;have St:=Se.new (o:=.tup vl) nR nD ht9;refine ⟨R,vr,_,rfl,rfl,St.hR,by omega,?_⟩;have tt:jc (upd (upd cM e1 (.lst [])) t9 (.tup vl)) (upd (upd (upd cM e1 (.lst [])) t9 (.tup vl)) R (.lst (vr++[.ref t9]))):=(jc.refl _).put St.hR (λ_ z=>nomatch z);have Su:HS H p R D ss room (upd (upd (upd cM e1 (.lst [])) t9 (.tup vl)) R (.lst (vr++[.ref t9]))) (vr++[.ref t9]) kvs (runs++[rs]) m:=(by refine ⟨St.pack.put nR,λb o hb e=>?_,aX,?_,(aW (bW nRD)).aA St.hD,St.keys,St.vals,St.le,St.rm,λr hr=>?_⟩;rw [aW (dN e fR)]; exact St.same b o hb e;refine Aw (j4 (λ_ _ z=>z.ts tt) St.pR) (.cons ⟨t9,vl,rfl,tt _ _ aX,j4 (λ_ _ z=>z.ts (((jc.refl _).new ht9).aA tt)) ple⟩ .nil);rcases iC.mp hr with z | z;exact St.good r z;rw [lg.mp z];exact ⟨rne,by omega,gr,ris⟩);refine ⟨p,5,rfl,Su.pack,by decide,by decide,λd9 Hz d90 d91 hpz sz=>?_⟩;exact ⟨_,m,_,kvs,runs++[rs],_,_,_,_,_,rfl,Su.step nR nD hpz sz,by rw [Ej]; simpa using wL,by rw [dZ]; exact GZ rl 1,aac (anQ fe dr0) (by omega),by unfold zx at mb |-; omega⟩;have rne:rs=[]:=(by cases rs with| nil=>rfl| cons r rs=>exact bO rfl c1);subst rne;refine ⟨p,5,rfl,Se.pack,by decide,by decide,λd9 Hz d90 d91 hpz sz=>?_⟩;exact ⟨_,m,_,kvs,runs,_,_,_,_,_,rfl,Se.step nR nD hpz sz,by simpa using wL,Ju rl,aac (YL fe) (by omega),by unfold zx at mb |-; omega⟩;refine bU λcu aQ=>?_;obtain ⟨mo,m,vr,kvs,runs,iZ,iY,iV,ig,iy,eσ,S,fl,rl,fe,mb⟩:=apm;subst aQ;subst eσ;have lr:=S.pR.length;refine ⟨R,vr,rfl,.inl ⟨aV.of S.hR,λt1 h1=>?_⟩⟩;have Sa:=S.new (o:=.tup vr) nR nD h1;refine ⟨by show 5<=aO; omega,λt2 h2=>?_⟩;have Sb:=Sa.new (o:=.tup [.str nm,.int low,.int (low+wide),.int bZ,.ref t1]) nR nD h2;refine ⟨by show 2<=aO; omega,λt3 h3=>?_⟩;have Sc:=Sb.new (o:=.tup [.ref t2,.ref D]) nR nD h3;have nt3:t3≠p:=λz=>(by obtain ⟨n,e,_⟩:=Sb.pack; rw [<- z,h3] at e; cases e);have ft3:H t3=none:=(by cases e:H t3 with| none=>rfl| some o=>have:=Sb.same t3 o nt3 e; rw [h3] at this; cases this);refine q t3 D (.ref t2) ⟨nm,low,low+wide,bZ,runs⟩ kvs m _ ft3 fD aX ⟨t2,.ref t1,rfl,(aW (dN aX h3)).aA aX,t1,vr,rfl,?_,Sc.pR⟩ ⟨⟨gn,by show low<=low+wide; omega,dr0,by show runs.length<=25; omega,Sc.good⟩,by show low+wide-low<=300; omega,by show -1000<=low; omega,by show low+wide<=1000; omega,ao0 fe (by omega) (by omega) (by omega) (by omega) (by unfold zx at mb; have:=Sc.le; omega),by show bZ<=1000; omega,by show runs.length<=3; omega⟩ rfl fl Sc.le Sc.rm Sc.hD Sc.keys Sc.vals Sc.pack Sc.same (aot fe);have e1:upd (upd H' t1 (.tup vr)) t2 (.tup [.str nm,.int low,.int (low+wide),.int bZ,.ref t1]) t1=some (.tup vr):=(aW (dN aX h2)).aA aX;exact (aW (dN e1 h3)).aA e1
noncomputable def OJ(B:Int)(l:gY):Prop:=l.2.1<=B/\∀ m,l.2.2=some m->m<=B
noncomputable def adT(hs:List bK)(M:Str->Int)(l:gY):Prop:=KY hs l/\pI l M=true/\OJ 4100 l
noncomputable def Ht(hs:List bK)(M:Str->Int)(H:Hp)(kf:List (List Key × V)):Prop:=∀ kv∈kf,∃ l:gY,kv.1=kP l.1/\wV H kv.2 l/\adT hs M l
theorem Ht.keys{kf:List (List Key × V)}(h:Ht hs M H kf):∃ ks:List (Str × Str),kf.map (·.1)=ks.map kP/\ks.length=kf.length :=
 Ko.keys (hs:=hs) (H:=H) λkv hkv=>let ⟨l,a,b,c⟩:=h kv hkv; ⟨l,a,b,c.1⟩
noncomputable def Qa:Sp:=λvs H Q _=>QX6 λ(p lh dh:au)(vh:List V)(hs:List bK)(kvs:List (Key × V))=>adu (vs=[.ref p,.ref lh,.ref dh]) (iH H p) (H lh=some (.lst vh)) (eX (qD H) vh hs) (hs.length<=6) ((∀ h∈hs,pW h)) ((cG hs).Nodup) ((cG hs).length<=24) (H dh=some (.dK kvs)) (kvs.map (·.1)=(cG hs).map bR) ((∀ n∈cG hs,∃ i:Int,fO kvs (.inr n)=some (.int i)/\-2000<=i/\i<=2000)) (∀(x:V)(ls:List gY)(H':Hp),Bs H' x ls->Bo hs ls->(∀ l∈ls,pI l (gH kvs)=true/\OJ 4100 l)->ls.length<=6->iH H' p->dF p H H'->Q x H')
noncomputable def PwF(p lh dh O l8 F:au)(hs:List bK)(M:Str->Int)(H2:Hp):Nat->St->Hp->Prop:=λi aj H'=>VP λ(kf:List (List Key × V))(o4 o5 o6 o7 jw iZ iY iV ig iy:Option V)=>vK (aj=[bY p,bY lh,bY dh,bY O,o4,o5,o6,o7,bY l8,bY F,jw,iZ,iY,iV,ig,iy]) (iH H' p) (dF p H2 H') (H' F=some (.dT kf)) (kf.length<=i) (Ht hs M H' kf)
theorem rO:cW ["_law_pack_here","_law_houses","_law_hidden","_law_home","_law_house_here","_law_run","_law_name_here","_law_reading","_law_rows_here","_law_found","_law_turn","_law_one","_law_other_here","_law_gap","_law_slack","_law_most"] ["_law_pack_here","_law_houses","_law_hidden"] (bw N7):=dX
theorem anx(F:eY K "_law_letters" N7 f fd)(T:Txt mg t8 t6 tR tL)(gP:Cl P w K mg base 1 "_law_take" ["_law_pack_here","_law_size"] zO):bf P w K mg base bB 2 f fd ["_law_pack_here","_law_houses","_law_hidden"] Qa:=by
 refine F.ok rO (λvs H Q E h=>?_) (λcdv A outer s H vs Q E hr h=>?_)
 . obtain ⟨p,lh,dh,vh,hs,kvs,rfl,_⟩:=h;rfl
 . obtain ⟨p,lh,dh,vh,hs,kvs,rfl,hp,hlh,ph,h6,gh,nd,few,hdh,keys,vals,q⟩:=h;have dO:=cQ
   have nlh:lh≠p:=λz=>by
     obtain ⟨n,e,_⟩:=hp;rw [z,e] at hlh;cases ph with
     | nil=>cases hlh
     | cons h _=>obtain ⟨a,b,rfl,_⟩:=h; cases hlh
   have ndh:dh≠p:=λz=>by obtain ⟨n,e,_⟩:=hp; rw [z,e] at hdh; cases hdh
   refine ⟨_,(aP (pZ 3 rO yK) (aP (lG lA rfl (vR (pV 1)) (pY 4 rO) (aU (lG lA rfl (fY (pX dY (pV 4) aM)) (pY 5 rO) (aU (lG lA rfl (fY (pV 5)) (jG rfl (cI (pY 6 rO) (cI (pY 7 rO) jE))) (aU (Ph (jk hr) (pV 3) (pV 6) (pX dY (pV 4) aM) rfl))))))) (aP (pZ 8 rO (bh (ac2 rfl) rfl T.sorted DP (aq (pV 2) aD))) (aP (pZ 9 rO aiK) (aP (lG lA rfl (yq rfl T.range (aq (pC gP hr (aq (pV 0) (aq aM aD))) aD)) (pY 10 rO) (aU (cP (gM wu (bh jy rfl T.len gO (aq (pV 8) aD)) aM (cX _)) (aP (pZ 11 rO (vq mY (pV 8) (pC gP hr (aq (pV 0) (aq (bh jy rfl T.len gO (aq (pV 8) aD)) aD))) (λ_ _=>rfl))) (aP (pZ 12 rO (vq mY (pV 8) (pC gP hr (aq (pV 0) (aq (bh jy rfl T.len gO (aq (pV 8) aD)) aD))) (λ_ _=>rfl))) (aP (pZ 13 rO (bJ oG (lN (jk hr) (pV 2) (pV 12) (λ_ _=>rfl)) (lN (jk hr) (pV 2) (pV 11) (λ_ _=>rfl)))) (aP (pZ 14 rO (pC gP hr (aq (pV 0) (aq aM aD)))) (aU (cP (Dm (gM anw (lN (jk hr) (pV 3) (pV 11) (λ_ _=>rfl)) (lN (jk hr) (pV 3) (pV 12) (λ_ _=>rfl)) (cX _)) (pw_and1 (gM wu (pV 13) aM (cX _)))) (aP (pZ 15 rO (vq mY (iU (aq yI (aq (pV 13) (aq (bJ gj (pV 13) (pV 14)) aD)))) (pC gP hr (aq (pV 0) (aq aM aD))) (λ_ _=>rfl))) (aU (Ph (jk hr) (pV 9) (kY (aq (pV 11) (aq (pV 12) aD))) (kY (aq (pV 11) (aq (pV 12) (aq (bh (Mi rfl) rfl T.max JC (aq aM (aq (bJ oG (pV 13) (pV 14)) aD))) (aq (pV 15) aD))))) rfl))) cN)))))) cN))) (aU (bx (oO vC rfl T.tuple jA (aq (iG (bN:=bw N7) (own:=["_law_pair"]) (cap:=["_law_found"]) (ix:=[9]) rfl rfl fH (vR (bh (alw rfl) rfl T.sorted DP (aq (pV 9) aD))) (λb=>(pH 0 ["_law_pair","_law_found"])) (λb=>fu) (λb=>(lN (jk hr) (pV 1) (pV 0) (λ_ _=>rfl)))) aD))))))))),?_⟩;refine λO hO=>?_
   have s0:aF H (upd H O (.dK [])):=(aF.refl H).upd hO
   have T6:(cJ hs).length<=24:=by
     have z:=few;rw [<- CW,aL] at z;exact z
   have wR:((cJ hs).map dw).Nodup:=by rw [CW]; exact nd
   have Ue:∀(A:List (Str × Str))(x:Str × Str)(B:List (Str × Str))(kv:List (Key × V)),cJ hs=A++x :: B->xZ kv A->kv.length<=A.length->xZ (eV kv (.inr x.1) (.str x.2)) (A++[x])/\(eV kv (.inr x.1) (.str x.2)).length<=(A++[x]).length/\kv.length<aO:=λA x B kv e ow kl=>by
     have l1:=T6;rw [e,dZ,iz] at l1;refine ⟨xZ.put ow λy hy z=>?_,?_,by omega⟩
     . rw [e,jq,fM] at wR;exact (FQ.mp wR).2.2 y.1 (mW hy) x.1 gU z
     . have z:=yF kv (.inr x.1) (V.str x.2);rw [dZ];exact jF z (GZ kl 1)
   refine ⟨lh,rfl,⟨_,aV.of (s0 _ _ hlh)⟩,akU (xs:=vh) (PvC p lh dh O hs H) ⟨[],none,none,none,none,rfl,aX,λx hx=>by simp [cJ] at hx,dR _,s0⟩ (λi aj H' _ am5=>by obtain ⟨_,_,_,_,_,_,_,_,_,s⟩:=am5; exact aV.of (s _ _ hlh)) (λi x aj H' hx ae5=>?_) (fun aj H1 akj=>?_)⟩
   . refine bU λcu aQ=>?_
     obtain ⟨kv,o4,o5,o6,o7,eσ,eO,ow,kl,s⟩:=ae5;subst aQ;subst eσ;obtain ⟨hh,hhi,ha⟩:=iK ph hx;have gd:=gh hh (fG hhi);refine bU λcu aQ=>?_
     obtain ⟨a,b,agb,ga,c,vr,an7,gc,pr⟩:=ha;subst aQ;subst agb;subst an7;refine dI (aH.of (s _ _ ga)) (i:=4) (v:=.ref c) (by rfl) ?_
     have e0:cJ hs=cJ (hs.take i)++(jz hh++cJ (hs.drop (i+1))):=by
       unfold cJ
       have e1:hs=hs.take i++(hh :: hs.drop (i+1)):=by
         obtain ⟨li,fi⟩:=jC.mp hhi;rw [<- fi,vX,qX]
       conv=>lhs; rw [e1]
       rw [nJ,Bq]
     refine ⟨c,rfl,⟨_,aH.of (s _ _ gc)⟩,rU (xs:=vr) (PvD p lh dh O a hs hh i H) ⟨kv,o5,o6,o7,rfl,eO,by simpa using ow,by simpa using kl,s⟩ (λj aj H' _ ahs=>by obtain ⟨_,_,_,_,_,_,_,_,s⟩:=ahs; exact aH.of (s _ _ gc)) (λj y aj H' hy aok=>?_) (fun aj H' ae4=>?_)⟩
     . refine bU λcu aQ=>?_
       obtain ⟨kv,o5,o6,o7,eσ,eO,ow,kl,s⟩:=aok;subst aQ;subst eσ;refine bU λcu aQ=>?_
       obtain ⟨r,hr',c2,ws,alI,g2,pr2⟩:=iK pr hy;subst aQ;subst alI
       have e1:jz hh=(hh.runs.take j).flatMap (gB hh.name)++(gB hh.name r++(hh.runs.drop (j+1)).flatMap (gB hh.name)):=by
         rw [Mr]
         have e1:hh.runs=hh.runs.take j++(r :: hh.runs.drop (j+1)):=by
           obtain ⟨li,fi⟩:=jC.mp hr';rw [<- fi,vX,qX]
         conv=>lhs; rw [e1]
         rw [nJ,Bq]
       refine ⟨c2,rfl,⟨_,aH.of (s _ _ g2)⟩,rU (xs:=ws) (PvE p lh dh O a c2 hs hh i j r H) ⟨kv,o6,o7,rfl,eO,by simpa using ow,by simpa using kl,s⟩ (λt aj H' _ ai5=>by obtain ⟨_,_,_,_,_,_,_,s⟩:=ai5; exact aH.of (s _ _ g2)) (λt z aj H' hz agq=>?_) (fun aj H' ajx=>?_)⟩
       . refine bU λcu aQ=>?_
         obtain ⟨kv,o6,o7,eσ,eO,ow,kl,s⟩:=agq;subst aQ;subst eσ;refine bU λcu aQ=>?_
         obtain ⟨rr,hrr,ra1,agN,ra2⟩:=iK pr2 hz;subst aQ;subst agN;have hp':(gB hh.name r)[t]?=some (rr.1,hh.name):=by unfold gB; rw [bL,hrr]; rfl
         refine ⟨ra1,_,rfl,aH.of (s _ _ ra2),rfl,_,_,rfl,_,_,rfl,rfl,?_⟩;refine dI (aH.of (s _ _ ga)) (i:=0) (v:=.str hh.name) (by rfl) ?_
         have e2:gB hh.name r=(gB hh.name r).take t++((rr.1,hh.name) :: (gB hh.name r).drop (t+1)):=by
           obtain ⟨li,fi⟩:=jC.mp hp';rw [<- fi,vX,qX]
         obtain ⟨w1,w2,w3⟩:=Ue (cJ (hs.take i)++(hh.runs.take j).flatMap (gB hh.name)++(gB hh.name r).take t) (rr.1,hh.name) ((gB hh.name r).drop (t+1)++((hh.runs.drop (j+1)).flatMap (gB hh.name)++cJ (hs.drop (i+1)))) kv (by
           rw [e0,e1]
           conv=>lhs; rw [e2]
           simp only [pQ,Bu]) ow kl
         refine ⟨O,_,rfl,xK.k (k:=bR rr.1) eO w3,?_⟩;refine ⟨_,_,_,rfl,aX,?_,?_,λb' o' e'=>by rw [aW (dN e' hO)]; exact s _ _ e'⟩
         . rw [fZ,hp',<- pQ]; exact w1
         . rw [fZ,hp',<- pQ]; exact w2
       . refine bU λcu aQ=>?_
         obtain ⟨kv,o6,o7,eσ,eO,ow,kl,s⟩:=ajx;subst aQ;subst eσ;have l2:=pr2.length;have e2:(gB hh.name r).take ws.length=gB hh.name r:=lF (by unfold gB; rw [aL]; omega);rw [e2] at ow kl;refine ⟨kv,_,_,_,rfl,eO,?_,?_,s⟩
         . rw [fZ,hr',nJ]; simpa using ow
         . rw [fZ,hr',nJ]; simpa using kl
     . refine bU λcu aQ=>?_
       obtain ⟨kv,o5,o6,o7,eσ,eO,ow,kl,s⟩:=ae4;subst aQ;subst eσ;rw [pr.length,lW,<- Mr] at ow kl
       have e2:cJ (hs.take (i+1))=cJ (hs.take i)++jz hh:=by
         unfold cJ;rw [fZ,hhi,nJ];simp
       exact ⟨kv,_,_,_,_,rfl,eO,by rw [e2]; exact ow,by rw [e2]; exact kl,s⟩
   . refine bU λcu aQ=>?_
     obtain ⟨kvo,o4,o5,o6,o7,eσ,eO,ow,kl,s1⟩:=akj;subst aQ;subst eσ;rw [ph.length,lW] at ow kl;refine ⟨dh,kvs,cG hs,rfl,s1 _ _ hdh,keys,by omega,λl8 ss hl8 pm so=>?_⟩;have s2:aF H1 (upd H1 l8 (.lst (ss.map V.str))):=(aF.refl H1).upd hl8;generalize eH2:upd H1 l8 (.lst (ss.map V.str))=H2 at s2;have h8:H2 l8=some (.lst (ss.map V.str)):=by rw [<- eH2]; exact aX
     have sH:aF H H2:=s1.aA s2;have hp2:iH H2 p:=by obtain ⟨n,e,n0⟩:=hp; exact ⟨n,sH _ _ e,n0⟩
     refine λF hF=>?_
     have nF:F≠p:=λz=>by obtain ⟨n,e,_⟩:=hp2; rw [<- z,hF] at e; cases e
     have n8:l8≠p:=λz=>by
       obtain ⟨n,e,_⟩:=hp2;rw [<- z,h8] at e;cases ss with
       | nil=>cases e
       | cons s ss=>cases e
     have nO:O≠p:=λz=>by obtain ⟨n,e,_⟩:=hp2; rw [<- z,s2 _ _ eO] at e; cases e
     have lss:ss.length=(cG hs).length:=pm.length_eq;have FP:∀ x∈ss,x∈cG hs:=λx hx=>pm.mem_iff.mp hx
     refine ⟨p,7,rfl,hp2.new hF,by decide,by decide,λn7 H3 n7a n7b hp3 s3=>?_⟩;have SB3:dF p H2 H3:=((dF.of (aF.refl H2)).new hF).aA s3;refine ⟨n7,rfl,by omega,by omega,GK (lo:=0) (n:=n7.toNat) (PwF p lh dh O l8 F hs (gH kvs) H2) ⟨[],_,_,_,_,_,_,_,_,_,_,rfl,hp3,SB3,s3 F _ nF aX,dR _,λx hx=>by simp at hx⟩ (λi aj H' hi apl=>?_) (fun aj H' ani=>?_)⟩
     . refine bU λcu aQ=>?_
       obtain ⟨kf,o4,o5,o6,o7,jw,iZ,iY,iV,ig,iy,eσ,pk,sb,eF,kl,fo⟩:=apl;subst aQ;subst eσ;refine ⟨l8,_,rfl,.inl (aV.of (sb l8 _ n8 h8)),?_⟩;refine fQ (λc1=>?_) (λc1=>⟨kf,_,_,_,_,_,_,_,_,_,_,rfl,pk,sb,eF,Ju kl,fo⟩)
       have many:1<ss.length:=by
         have z:(1:Int)<((ss.map V.str).length:Int):=dB c1;rw [aL] at z; omega
       have pick:∀ d:Int,0<=d->d<((ss.map V.str).length:Int)->∃ x,x∈ss/\oV (ss.map V.str) d=some (.str x):=λd d0 d1=>by
         obtain ⟨n,rfl⟩:=Br d0;rw [aL] at d1;have hn:n<ss.length:=by omega
         exact ⟨ss[n],WT hn,oW (by rw [bL,gD hn]; rfl)⟩
       have K3:(0:Int)<((ss.map V.str).length:Int)/\((ss.map V.str).length:Int)<1073741824:=by rw [aL]; omega
       refine gV λW1 hW1=>?_
       refine ⟨l8,_,rfl,.inl (aV.of (sb l8 _ n8 h8)),?_⟩;refine ⟨p,_,rfl,pk,K3.1,K3.2,λd1 Ha d1a d1b pka sa=>?_⟩;have sba:=sb.aA sa;obtain ⟨one,m1,e1⟩:=pick d1 d1a d1b;refine qt (sba l8 _ n8 h8) e1 ?_;show W1 _ _;subst hW1;refine gV λW2 hW2=>?_
       refine ⟨l8,_,rfl,.inl (aV.of (sba l8 _ n8 h8)),?_⟩;refine ⟨p,_,rfl,pka,K3.1,K3.2,λd2 Hb d2a d2b pkb oM=>?_⟩;have sbb:=sba.aA oM;obtain ⟨other,m2,e2⟩:=pick d2 d2a d2b;refine qt (sbb l8 _ n8 h8) e2 ?_;show W2 _ _;subst hW2;refine gV λW3 hW3=>?_
       obtain ⟨g2,eg2,b21,b22⟩:=vals other (FP _ m2);obtain ⟨g1,eg1,b11,b12⟩:=vals one (FP _ m1);have hdb:Hb dh=some (.dK kvs):=sbb dh _ ndh (sH _ _ hdh);refine ⟨dh,_,rfl,eg2 ▸ lO.k (k:=bR other) hdb,?_⟩;refine ⟨dh,_,rfl,eg1 ▸ lO.k (k:=bR one) hdb,?_⟩;show W3 _ _;subst hW3;refine gV λW4 hW4=>?_
       refine ⟨p,9,rfl,pkb,by decide,by decide,λsk Hc sk0 sk1 pkc sc=>?_⟩;show W4 _ _;subst hW4;have sbc:=sbb.aA sc;have eFc:Hc F=some (.dT kf):=(sa.aA (oM.aA sc)) F _ nF eF
       have foc:Ht hs (gH kvs) Hc kf:=λkv hkv=>by
         refine bU λcu aQ=>?_
         obtain ⟨l,w1,w2,w3⟩:=fo kv hkv;subst aQ;exact ⟨l,w1,w2.ts (dF.dH pk (sa.aA (oM.aA sc))),w3⟩
       refine bU λcu aQ=>?_
       obtain ⟨hh1,q1,q2,q3⟩:=aec ow (FP _ m1);subst aQ;refine bU λcu aQ=>?_
       obtain ⟨hh2,r1,r2,r3⟩:=aec ow (FP _ m2);subst aQ;have hOc:Hc O=some (.dK kvo):=sbc O _ nO (s2 _ _ eO);refine ⟨O,_,rfl,q3 ▸ lO.k (k:=bR one) hOc,?_⟩;refine ⟨O,_,rfl,r3 ▸ lO.k (k:=bR other) hOc,?_⟩;have skip:∀(aj:St),(∃ o4 o5 o6 o7 jw iZ iY iV ig iy:Option V,aj=[bY p,bY lh,bY dh,bY O,o4,o5,o6,o7,bY l8,bY F,jw,iZ,iY,iV,ig,iy])->VP λ(kf:List (List Key × V))(o4 o5 o6 o7 jw iZ iY iV ig iy:Option V)=>vK (aj=[bY p,bY lh,bY dh,bY O,o4,o5,o6,o7,bY l8,bY F,jw,iZ,iY,iV,ig,iy]) (iH Hc p) (dF p H2 Hc) (Hc F=some (.dT kf)) (kf.length<=i+1) (Ht hs (gH kvs) Hc kf):=fun aj ⟨a4,a5,a6,a7,a10,a11,a12,a13,a14,a15,e⟩=>⟨kf,a4,a5,a6,a7,a10,a11,a12,a13,a14,a15,e,pkc,sbc,eFc,Ju kl,foc⟩
       refine fQ (λc2=>?_) (λc2=>skip _ ⟨_,_,_,_,_,_,_,_,_,_,rfl⟩)
       have hne:hh1.name≠hh2.name:=λz=>by
         rw [cg z] at c2;cases c2
       refine fQ (λc3=>?_) (λc3=>skip _ ⟨_,_,_,_,_,_,_,_,_,_,rfl⟩);have ap2:0<g2-g1:=dB c3;refine gV λW5 hW5=>?_
       refine ⟨by show 3<=aO; omega,λl3 hl3=>?_⟩;have nl3:l3≠p:=λz=>by obtain ⟨n,e,_⟩:=pkc; rw [<- z,hl3] at e; cases e
       refine ⟨p,3,rfl,pkc.new hl3,by decide,by decide,λd3 Hd d3a d3b pkd sd=>?_⟩;have scd:dF p Hc Hd:=((dF.of (aF.refl Hc)).new hl3).aA sd
       obtain ⟨mo,emo,hmo⟩:∃ mo:Option Int,oV [V.non,.int (g2-g1),.int (g2-g1+sk)] d3=some (zX mo)/\∀ m,mo=some m->g2-g1<=m/\m<=4100:=by
         obtain ⟨n,rfl⟩:=Br d3a
         match n,d3b with
         | 0,_=>exact ⟨none,rfl,λm e=>nomatch e⟩
         | 1,_=>exact ⟨some (g2-g1),rfl,λm e=>by cases e; omega⟩
         | 2,_=>exact ⟨some (g2-g1+sk),rfl,λm e=>by cases e; omega⟩
         | n+3,h=>exact bO h (by omega)
       refine qt (sd l3 _ nl3 aX) emo ?_;show W5 _ _;subst hW5;refine ⟨1,g2-g1-sk,rfl,?_⟩;obtain ⟨lst,agg,hl1,hl2⟩:∃ lst:Int,lst=(if g2-g1-sk > 1 then g2-g1-sk else 1)/\1<=lst/\lst<=g2-g1:=⟨_,rfl,by split <;> omega,by split <;> omega⟩;rw [<- agg];refine ⟨by show 4<=aO; omega,λt1 ht1=>?_⟩;refine ⟨by show 2<=aO; omega,λt2 ht2=>?_⟩;have eFd:Hd F=some (.dT kf):=scd F _ nF eFc;have eF1:upd Hd t1 (.tup [.str one,.str other,.int lst,zX mo]) F=some (.dT kf):=(aW (dN eFd ht1)).aA eFd;have eF2:upd (upd Hd t1 (.tup [.str one,.str other,.int lst,zX mo])) t2 (.tup [.str one,.str other]) F=some (.dT kf):=(aW (dN eF1 ht2)).aA eF1;refine ⟨F,_,rfl,xK.t (k:=kP (one,other)) eF2 aX (by omega),?_⟩;have tt:jc Hc (upd (upd (upd Hd t1 (.tup [.str one,.str other,.int lst,zX mo])) t2 (.tup [.str one,.str other])) F (.dT (eV kf (kP (one,other)) (.ref t1)))):=(((dF.dH pkc scd).new ht1).new ht2).put eF2 (λ_ z=>nomatch z)
       have et1:upd (upd (upd Hd t1 (.tup [.str one,.str other,.int lst,zX mo])) t2 (.tup [.str one,.str other])) F (.dT (eV kf (kP (one,other)) (.ref t1))) t1=some (.tup [.str one,.str other,.int lst,zX mo]):=by
         rw [aW (dN eFd ht1).symm,aW (dN aX ht2)]; exact aX
       refine ⟨_,_,_,_,_,_,_,_,_,_,_,rfl,((pkd.new ht1).new ht2).put nF,λb o hb e=>?_,aX,?_,λkv hkv=>?_⟩
       . have z1:=(sbc.aA scd) b o hb e;rw [aW (dN e hF)];exact (((dF.of (aF.refl Hd)).new ht1).new ht2) b o hb z1
       . exact jF (yF kf (kP (one,other)) (.ref t1)) (GZ kl 1)
       . rcases apo hkv with z | z
         . subst z;exact ⟨((one,other),lst,mo),rfl,⟨t1,rfl,et1⟩,⟨aed gh (FP _ m1),aed gh (FP _ m2),hl1,λm e=>by have:=(hmo m e).1; show lst<=m; omega,hh1,q1,hh2,r1,q2,r2,hne⟩,ajt (Ik eg1) (Ik eg2) hl2 (λm e=>(hmo m e).1),⟨by show lst<=4100; omega,λm e=>(hmo m e).2⟩⟩
         . refine bU λcu aQ=>?_
           obtain ⟨l,w1,w2,w3⟩:=foc kv z;subst aQ;exact ⟨l,w1,w2.ts tt,w3⟩
     . refine bU λcu aQ=>?_
       obtain ⟨kf,o4,o5,o6,o7,jw,iZ,iY,iV,ig,iy,eσ,pk,sb,eF,kl,fo⟩:=ani;subst aQ;subst eσ;obtain ⟨ks,ek,lk⟩:=fo.keys;refine ⟨F,kf,ks,rfl,eF,ek,by omega,λl9 as ks' hl9 pm' pw la ha=>?_⟩;have lks:ks'.length=ks.length:=pm'.length_eq;have s9:aF H' (upd H' l9 (.lst (as.map V.ref))):=(aF.refl H').upd hl9;generalize eH9:upd H' l9 (.lst (as.map V.ref))=H9 at s9;have h9:H9 l9=some (.lst (as.map V.ref)):=by rw [<- eH9]; exact aX
       refine ⟨l9,rfl,⟨_,aV.of h9⟩,λD hD=>O6 (xs:=as.map V.ref) (λi cM=>rz λ(zs:List V)(ls:List gY)=>rG (eG H9 cM D zs) (eX (wV H9) zs ls) (ls.map dw=ks'.take i) (∀ l∈ls,adT hs (gH kvs) l)) ⟨[],[],eG.start hD,.nil,rfl,λl hl=>by simp at hl⟩ (λi cM _ ahj=>by obtain ⟨_,_,G,_⟩:=ahj; exact aV.of (G.same _ _ h9)) (λcM aic=>?_) (λi x cM hx hi akZ b=>?_)⟩
       . refine bU λcu aQ=>?_
         obtain ⟨zs,ls,G,pz,el,gl⟩:=aic;subst aQ;have lx:ks'.take (as.map V.ref).length=ks':=lF (by rw [aL]; omega);rw [lx] at el;have l1:=jr rA el;rw [aL] at l1;have l2:=pz.length;refine ⟨D,zs,rfl,.inl ⟨aV.of G.at',λt ht=>?_⟩⟩;refine q (.ref t) ls _ ⟨t,zs,rfl,aX,j4 (λ_ _ z=>z.ts (G.same.dH.new ht)) pz⟩ ⟨by omega,λl hl=>(gl l hl).1,by rw [el]; exact pw⟩ (λl hl=>(gl l hl).2) (by omega) ?_ ?_
         . obtain ⟨n,e,n0⟩:=pk;exact (show iH cM p from ⟨n,G.same _ _ (s9 _ _ e),n0⟩).new ht
         . exact (((dF.of sH).aA (sb.aA (dF.of (s9.aA G.same)))).new ht)
       . refine bU λcu aQ=>?_
         obtain ⟨zs,ls,G,pz,el,gl⟩:=akZ;subst aQ;rw [bL] at hx
         obtain ⟨a,ea,rfl⟩:∃ a,as[i]?=some a/\x=V.ref a:=by
           cases e:as[i]? with
           | none=>rw [e] at hx; cases hx
           | some a=>rw [e] at hx; exact ⟨a,rfl,(j6 hx).symm⟩
         have li:i<ks'.length:=by rw [aL] at hi; omega
         have eki:ks'[i]?=some ks'[i]:=gD li;have hka:H' a=some (.tup ((kP ks'[i]).map kV)):=ha i a _ ea eki
         have mk:kP ks'[i]∈kf.map (·.1):=by
           rw [ek];exact mW (pm'.mem_iff.mp (WT li))
         obtain ⟨v,ev,mv⟩:=afd mk;refine bU λcu aQ=>?_
         obtain ⟨l,w1,w2,w3⟩:=fo _ mv;subst aQ;have el1:l.1=ks'[i]:=(akg w1).symm;have sg:aF H' cM:=s9.aA G.same;refine ⟨F,v,rfl,ev ▸ lO.t (k:=kP ks'[i]) (sg _ _ eF) (sg _ _ hka),?_⟩;have l2:=pz.length;have l1:=jr rA el;rw [aL,gR] at l1;refine ⟨zs,G.at',by omega,nx hi ⟨zs++[v],ls++[l],G.put hD v,Aw pz (.cons (w2.ts s9.dH) .nil),?_,λl' hl'=>?_⟩⟩
         . rw [jq,el,fZ,eki];show _++[l.1]=_++[ks'[i]];rw [el1]
         . rcases iC.mp hl' with z | z
           . exact gl l' z
           . rw [lg.mp z]; exact w3
noncomputable def Ls:Sp:=λvs H Q _=>qN λ(a:au)(y z:V)(hs:List bK)=>vK (vs=[.ref a]) (H a=some (.tup [y,z])) (vG H y hs) ((∀ h∈hs,pW h)) ((cG hs).length<64) (∀(l:au)(ss:List Str)(H':Hp),H' l=some (.lst (ss.map V.str))->aF H H'->ss.Perm (cG hs)->CN ss=true->Q (.ref l) H')
structure Drawn(hs:List bK)(ls:List gY)(ss:List Str)(m:Str->Int):Prop where
 gh:tK hs
 gl:Bo hs ls
 gw:∀ h∈hs,GoodW h
 nl:∀ l∈ls,OJ 4100 l
 rows:Rows hs ss
 pl:sW hs ls m=true
 nm:(∀ s∈ss,fU s)/\ss.length<=10/\hs.length<=4
 mo:∀ s∈ss,-2000<=m s/\m s<=2000
 l6:ls.length<=6
noncomputable def RD(K:bV):Sp:=λvs H Q _=>sY λ(a:au)(ns:List Int)(k:Int)=>QA7 (vs=[.ref a,.int k]) (aV K H a (ns.map V.int)) ((∀ n∈ns,IV n)) (ns.length<=63) (0<=k) (k<=100) (∀(r:au)(x t:V)(hs:List bK)(ls:List gY)(ss:List Str)(m:Str->Int)(H':Hp),H' r=some (.tup [x,t])->uz H' x hs ls->oH H' t (iR ss m)->Drawn hs ls ss m->aF H H'->Q (.ref r) H')
noncomputable def PvG(a hd ln lh dh:au)(k:Int)(ss:List Str)(H0:Hp):Nat->St->Hp->Prop:=λi aj H'=>YD λ(vh:List V)(hs:List bK)(kvs:List (Key × V))(m:Nat)(o6 o7 o8 o9 jw iZ:Option V)=>ala (aj=[bY a,iJ k,bY hd,bY ln,bY lh,bY dh,o6,o7,o8,o9,jw,iZ,zzN,zzN]) (H' lh=some (.lst vh)) (eX (qD H') vh hs) (H' dh=some (.dK kvs)) (kvs.map (·.1)=(cG hs).map bR) ((∀ n∈cG hs,∃ i:Int,fO kvs (.inr n)=some (.int i))) (cG hs=ss.take m) (m<=10) (hs.length=i) (hs.map bK.name=xM.take i) ((∀ h∈hs,GoodW h)) ((∀ h∈hs,mJ h (gH kvs)=true)) (H' ln=some (.lst (ss.map V.str))) (aF H0 H')
theorem uw:cW ["_law_script","_law_k","_law_head","_law_names_here","_law_houses","_law_hidden","_law_j","_law_rest","_law_pack_here","_law_called","_law_house_here","_law_more","_law_letters_here","_law_when"] ["_law_script","_law_k"] (bw Ky):=dX
theorem alu(F:eY K "_law_ledger" Ky f fd)(T:Txt mg t8 t6 tR tL)(U7:Cl P w K mg base 2 "_law_pack" ["_law_script","_law_k"] (Xh K))(alQ:Cl P w K mg base 2 "_law_names" ["_law_pack_here","_law_amount"] R5)(gP:Cl P w K mg base 2 "_law_take" ["_law_pack_here","_law_size"] zO)(ane:Cl P w K mg base 2 "_law_house" ["_law_pack_here","_law_name_here","_law_names_here","_law_room"] PL)(afl:Cl P w K mg base 2 "_law_letters" ["_law_pack_here","_law_houses","_law_hidden"] Qa):bf P w K mg base bB 3 f fd ["_law_script","_law_k"] (RD K):=by refine F.ok uw (λvs H Q E h=>?_) (λcdv A outer s H vs Q E hr h=>?_);obtain ⟨a,ns,k,rfl,_⟩:=h;rfl;obtain ⟨a,ns,k,rfl,ha,hb,hl,k0,k1,q⟩:=h;have dO:=cQ;refine ⟨_,(aP (pZ 2 uw (pC U7 hr (aq (pV 0) (aq (pV 1) aD)))) (aP (pZ 3 uw (pC alQ hr (aq (pV 2) (aq aM aD)))) (aP (pZ 4 uw (iU aD)) (aP (pZ 5 uw yK) (aP (lG lA rfl (yq rfl T.range (aq (bJ gj aM (pC gP hr (aq (pV 2) (aq aM aD)))) aD)) (pY 6 uw) (aP (pZ 7 uw (jo Mq (pV 3) (iu (bh Y7 rfl T.len gO (aq (pV 5) aD))) (iu aM))) (aP (pZ 8 uw (pC U7 hr (aq (pV 0) (aq (bJ gj (bJ gj (pV 1) aM) (pV 6)) aD)))) (aP (pZ 9 uw (pX mY (iU (aq qC (aq qC (aq qC (aq qC aD))))) (pV 6))) (aP (vY (pC ane hr (aq (pV 8) (aq (pV 9) (aq (pV 7) (aq (bJ oG aM (bh Y7 rfl T.len gO (aq (pV 5) aD))) aD))))) (jG rfl (cI (pY 10 uw) (cI (pY 11 uw) jE)))) (aP (Cw (Az CV Hu J7 Ba (pV 4) (aq (pV 10) aD))) (aU (Cw (Az aee ZD PySem.F.type_dict_update ame (pV 5) (aq (pV 11) aD)))))))))) (aP (pZ 12 uw (pC afl hr (aq (pC U7 hr (aq (pV 0) (aq (bJ gj (pV 1) aM) aD))) (aq (pV 4) (aq (pV 5) aD))))) (aP (HX (i:=13) uw.nd rfl rfl (bN:=bw Ky) (own:=["_law_name_here"]) (cap:=["_law_hidden"]) (ix:=[5]) rfl rfl fH (vR (bh (ac2 rfl) rfl T.sorted DP (aq (pV 5) aD))) (λb=>(pH 0 ["_law_name_here","_law_hidden"])) (λb=>fu) (λb=>(kY (aq (pV 0) (aq (lN (jk hr) (pV 1) (pV 0) (λ_ _=>rfl)) aD))))) (aU (bx (kY (aq (kY (aq (oO vC rfl T.tuple jA (aq (pV 4) aD)) (aq (pV 12) aD))) (aq (oO vC rfl T.tuple jA (aq (pV 13) aD)) aD)))))))))))),?_⟩;refine gV λU1 yV=>?_;refine ⟨a,ns,k,rfl,ha,hb,hl,k0,by omega,λhd H1 fhd pk1 s1=>?_⟩;show U1 _ _;subst yV;refine gV λU2 hU2=>?_;refine ⟨hd,rfl,pk1,λln ss H2 fln eln l12 nd gs nq pk2 oM=>?_⟩;show U2 _ _;subst hU2;have S2:aF H H2:=Lf s1 fhd oM;have aip:ln≠hd:=λz=>(by obtain ⟨n,e,_⟩:=pk1; rw [<- z,fln] at e; cases e);refine gV λU4 hU4=>?_;refine ⟨dR _,λlh flh=>?_⟩;show U4 _ _;subst hU4;refine gV λU5 hU5=>?_;refine λdh fdh=>?_;show U5 _ _;subst hU5;have nld:lh≠dh:=dN aX fdh;have S4':aF H2 (upd (upd H2 lh (.lst [])) dh (.dK [])):=((aF.refl H2).upd flh).upd fdh;have nhl:hd≠lh:=λz=>(by obtain ⟨n,e,_⟩:=pk2; rw [z,flh] at e; cases e);have nhd:hd≠dh:=λz=>(by obtain ⟨n,e,_⟩:=pk2; rw [z] at e; have y:=(aW (o:=.lst []) (bW nld)).symm.aA fdh; rw [e] at y; cases y);have YF:upd (upd H2 lh (.lst [])) dh (.dK []) lh=some (.lst []):=(aW nld).aA aX;have ab5:upd (upd H2 lh (.lst [])) dh (.dK []) dh=some (.dK []):=aX;generalize upd (upd H2 lh (.lst [])) dh (.dK [])=H25 at S4' YF ab5;refine ⟨hd,4,rfl,(let ⟨n,e,z⟩:=pk2; ⟨n,S4' _ _ e,z⟩),by decide,by decide,λd4 H3 d4a d4b uc qM=>?_⟩;have S3:aF H H3:=Lf (S2.aA S4') fhd qM;have ahF:H3 ln=some (.lst (ss.map V.str)):=qM ln _ aip (S4' _ _ eln);have amU:=qM lh _ (bW nhl) YF;have aiV:=qM dh _ (bW nhd) ab5;have e12:ss.length=12:=l12;refine ⟨1+d4,rfl,by omega,by omega,GK (lo:=0) (n:=(1+d4).toNat) (PvG a hd ln lh dh k ss H) ⟨[],[],[],0,none,none,none,none,none,none,rfl,amU,.nil,aiV,rfl,λn hn=>by simp [cG] at hn,rfl,by decide,rfl,rfl,λh hh=>by simp at hh,λh hh=>by simp at hh,ahF,S3⟩ (λi aj H' hi amB=>?_) (fun aj H' amm=>?_)⟩;refine bU λcu aQ=>?_;obtain ⟨vh,hs,kvs,m,o6,o7,o8,o9,jw,iZ,eσ,elh,ph,edh,keys,vals,nms,m10,lhs,hnm,gh,kh,Vo,S⟩:=amB;subst aQ;subst eσ;have i4:i<4:=(by omega);have lkv:kvs.length=m:=(by have z:=jr rA keys;rw [aL,aL,nms,gR] at z;omega);have SH:aF H H':=S;refine ⟨dh,kvs,rfl,edh,?_⟩;refine ⟨ln,_,rfl,aV.of Vo,λlr flr=>?_⟩;have ajH:jt (ss.map V.str) (some (kvs.length:Int)) (some 10)=((ss.take 10).drop m).map V.str:=(by unfold jt;rw [show (some 10:Option Int)=some ((10:Nat):Int) from rfl,HT.uf,HT.uf,aL,l12,lkv,vI (show m<=12 by omega),vI (show 10<=12 by decide),<- List.map_drop,<- List.map_take,Mx]);rw [ajH];have s5:aF H' (upd H' lr (.lst (((ss.take 10).drop m).map V.str))):=(aF.refl H').upd flr;generalize eH5:upd H' lr (.lst (((ss.take 10).drop m).map V.str))=H5 at s5;have elr:H5 lr=some (.lst (((ss.take 10).drop m).map V.str)):=(by rw [<- eH5]; exact aX);have SH5:aF H H5:=SH.aA s5;refine ⟨a,ns,k+1+(0+(i:Int)),rfl,Jm SH5 ha,hb,hl,by omega,by omega,λp H6 fp pk6 s6=>?_⟩;refine ⟨by show 4<=aO; omega,λl4 fl4=>?_⟩;obtain ⟨nm,enm⟩:∃ nm,xM[i]?=some nm:=⟨xM[i],gD (show i<4 from i4)⟩;have eat:oV (xM.map V.str) (0+(i:Int))=some (.str nm):=(by rw [Hl];exact oW (by rw [bL,enm]; rfl));refine qt (xs:=xM.map V.str) aX eat ?_;have gnm:fU nm:=apz nm (fG enm);have s7:aF H5 (upd H6 l4 (.lst (xM.map V.str))):=s6.upd fl4;have pk7:iH (upd H6 l4 (.lst (xM.map V.str))) p:=pk6.new fl4;have ssl:((ss.take 10).drop m).length=10-m:=(by rw [jR,gR]; omega);have sub:((ss.take 10).drop m).Sublist ss:=(List.drop_sublist _ _).aA (Ea _ _);refine ⟨dh,kvs,rfl,s7 _ _ (s5 _ _ edh),?_⟩;refine ⟨p,nm,lr,(ss.take 10).drop m,10-(kvs.length:Int),rfl,pk7,gnm,s7 _ _ elr,by omega,sub.nodup nd,λs hs'=>gs s (sub.subset hs'),λr d hv hh kv m' H8 fr fd er hat ghh ehn RL le rm ed N6 vU pk8 sb8 kph=>?_⟩;have fp5:H5 p=none:=fp;have S8:aF H5 H8:=Lf s7 fp5 sb8;refine ⟨r,_,rfl,aH.of er,rfl,_,_,rfl,_,_,rfl,rfl,?_⟩;have IW:H8 lh=some (.lst vh):=S8 _ _ (s5 _ _ elh);have KH:H8 dh=some (.dK kvs):=S8 _ _ (s5 _ _ edh);refine ⟨.inl ⟨rfl,_,aV.of IW⟩,?_⟩;have lv:=ph.length;refine ⟨lh,vh,_,rfl,rfl,IW,by omega,?_⟩;have ndd:dh≠d:=λz=>(by rw [<- z] at fd;have w:=(s7 _ _ (s5 _ _ edh));cases (fd.symm.aA w));have ad4:dh≠lh:=λz=>(by rw [z,IW] at KH; cases KH);have aiN:d≠lh:=λz=>(by rw [z,IW] at ed; cases ed);have Vr:upd H8 lh (.lst (vh++[hv])) dh=some (.dK kvs):=(aW ad4).aA KH;have ed9:upd H8 lh (.lst (vh++[hv])) d=some (.dK kv):=(aW aiN).aA ed;have apR:kv.length=m':=(by have z:=jr rA N6;rw [aL,aL,gR] at z;omega);refine ⟨.inr (.inr (.inl ⟨rfl,.inl ⟨_,Vr⟩⟩)),?_⟩;refine ⟨dh,d,kvs,kv,rfl,rfl,ndd,Vr,ed9,by omega,?_⟩;have mm:m+m'<=10:=(by omega);have e10:cG (hs++[hh])=ss.take (m+m'):=(by have z:cG (hs++[hh])=cG hs++cV hh:=(by unfold cG; rw [nJ]; simp);rw [z,nms,RL,Mx,List.take_take,List.take_add,vI (by omega)]);have ndk:(ss.take (m+m')).Nodup:=(Ea _ _).nodup nd;have RP:ss.take (m+m')=ss.take m++((ss.take 10).drop m).take m':=(by rw [<- e10];unfold cG;rw [nJ];have z:hs.flatMap cV=ss.take m:=nms;rw [z,<- RL]; simp);have inj:∀ l:List Str,l.Nodup->(l.map (bR:Str->Key)).Nodup:=λl hl=>(by rw [pU,yC];exact (pU.mp hl).imp λh z=>h (rD z));have abL:=inj _ ndk;rw [RP,jq] at abL;obtain ⟨nda,ndb,ndc⟩:=FQ.mp abL;have emk:um kvs kv=kvs++kv:=T9 kv kvs (by rw [N6]; exact ndb) (λx hx z=>by rw [N6] at hx;rw [keys,nms] at z;exact ndc x z x hx rfl);rw [emk];have tt:jc H8 (upd (upd H8 lh (.lst (vh++[hv]))) dh (.dK (kvs++kv))):=((jc.refl H8).put IW (λ_ z=>nomatch z)).put Vr (λ_ z=>nomatch z);refine ⟨vh++[hv],hs++[hh],kvs++kv,m+m',some (.int (0+(i:Int))),some (.ref lr),some (.ref p),some (.str nm),some hv,some (.ref d),rfl,(aW (bW ad4)).aA aX,?_,aX,?_,?_,e10,mm,by rw [dZ,lhs]; rfl,?_,?_,?_,?_,?_⟩;refine Aw (j4 (λ_ _ z=>(z.ts s5.dH).ts (S8.dH.aA tt)) ph) (.cons (hat.ts tt) .nil);rw [jq,keys,N6,e10,nms,RP,jq];intro n hn;rw [e10,RP] at hn;rw [Qm];rcases iC.mp hn with z | z;obtain ⟨v,ev⟩:=vals n (by rw [nms]; exact z);exact ⟨v,by rw [ev]; rfl⟩;obtain ⟨v,ev⟩:=vU n z;refine ⟨v,?_⟩;have no:fO kvs (.inr n)=none:=Zc (λy=>by rw [keys,nms] at y;exact ndc (bR n) y (bR n) (mW z) rfl);rw [no,ev]; rfl;rw [jq,hnm,fZ,enm,<- ehn]; rfl;intro h hh';rcases iC.mp hh' with z | z;exact gh h z;rw [lg.mp z]; exact ghh;have a1:∀ n∈cG hs,gH (kvs++kv) n=gH kvs n:=λn hn=>(by obtain ⟨v,ev⟩:=vals n hn;exact afo ev);have a2:∀ n∈cV hh,gH (kvs++kv) n=gH kv n:=λn hn=>aol (Zc (λy=>by rw [keys,nms] at y;rw [RL] at hn;exact ndc (bR n) y (bR n) (mW hn) rfl));intro h hh';rcases iC.mp hh' with z | z;rw [ZF λn hn=>a1 n (sy.mpr ⟨h,z,hn⟩)]; exact kh h z;rw [lg.mp z,ZF a2]; exact kph;have z:=S8 _ _ (s5 _ _ Vo);rw [aW (λy=>by rw [y,KH] at z; cases z),aW (λy=>by rw [y] at eln;rw [flh] at eln; cases eln)];exact z;intro b o e;have z:=S8 _ _ (s5 _ _ (S _ _ e));have e2:=S2 _ _ e;have n1:b≠lh:=dN e2 flh;have n2:b≠dh:=λy=>(by rw [y] at e2;have:=(aW (o:=.lst []) (bW nld)).aA e2;rw [fdh] at this; cases this);rw [aW n2,aW n1]; exact z;refine bU λcu aQ=>?_;obtain ⟨vh,hs,kvs,m,o6,o7,o8,o9,jw,iZ,eσ,elh,ph,edh,keys,vals,nms,m10,lhs,hnm,gh,kh,Vo,S⟩:=amm;subst aQ;subst eσ;have SH:aF H H':=S;have lv:=ph.length;have ln':hs.length<=4:=(by omega);have ndn:(cG hs).Nodup:=(by rw [nms]; exact (Ea _ _).nodup nd);have apV:(cG hs).length<=10:=(by rw [nms,gR]; omega);have gsn:∀ s∈cG hs,fU s:=λs hs'=>gs s (xW (nms ▸ hs'));have vals':∀ n∈cG hs,∃ i:Int,fO kvs (.inr n)=some (.int i)/\-2000<=i/\i<=2000:=λn hn=>(by obtain ⟨i,ei⟩:=vals n hn;obtain ⟨k,hk,hn'⟩:=sy.mp hn;obtain ⟨r,hr2,rfl⟩:=cZ.mp hn';have z:=(Er.mp (kh k hk)).1 r hr2;unfold mO at z;have z1:=dB (cB.mp z).1;have z2:=dB (cB.mp z).2;rw [Ik ei] at z1 z2;have g:=gh k hk;have y1:=g.QL;have y2:=g.TX;have y3:=g.near r hr2;exact ⟨i,ei,by omega,by omega⟩);dsimp only;refine gV λU1 yV=>?_;refine ⟨a,ns,k+5,rfl,Jm SH ha,hb,hl,by omega,by omega,λp H6 fp pk6 s6=>?_⟩;refine ⟨p,lh,dh,vh,hs,kvs,rfl,pk6,s6 _ _ elh,j4 (λ_ _ z=>z.ts s6.dH) ph,by omega,(λh hh=>(gh h hh).topW),ndn,by omega,s6 _ _ edh,keys,vals',λx ls H7 lat gl kls l6 pk7 sb7=>?_⟩;have S7:aF H' H7:=Lf s6 fp sb7;show U1 _ _;subst yV;refine gV λU2 hU2=>?_;have hi:InstAt H7 dh (gH kvs) (cG hs):=⟨kvs,.inl (S7 _ _ edh),keys,λn hn=>by obtain ⟨i,ei⟩:=vals n hn; rw [Ik ei]; exact ei⟩;refine ⟨dh,kvs,cG hs,rfl,S7 _ _ edh,keys,by omega,λl ss' hl' pm so=>?_⟩;have s1':aF H7 (upd H7 l (.lst (ss'.map V.str))):=(aF.refl H7).upd hl';have e1:upd H7 l (.lst (ss'.map V.str)) l=some (.lst (ss'.map V.str)):=aX;generalize upd H7 l (.lst (ss'.map V.str))=H8 at s1' e1 |-;have lss:ss'.length=(cG hs).length:=pm.length_eq;refine ⟨l,rfl,⟨_,aV.of e1⟩,λD hD=>O6 (xs:=ss'.map V.str) (λi H'=>∃ zs,eG H8 H' D zs/\eX (je H') zs (iR (ss'.take i) (gH kvs))) ⟨[],eG.start hD,.nil⟩ (λi H' _ G=>by obtain ⟨_,G,_⟩:=G; exact aV.of (G.same _ _ e1)) (λH2 G=>?_) (λi y H2 hy hi' G b=>?_)⟩;obtain ⟨zs,G,pz⟩:=G;rw [aL,lW] at pz;show U2 _ _;subst hU2;have S9:aF H7 H2:=s1'.aA G.same;have lz:=pz.length;unfold iR at lz;rw [aL] at lz;refine ⟨lh,vh,rfl,.inl ⟨aV.of (S9 _ _ (S7 _ _ elh)),λt1 ft1=>?_⟩⟩;have zQ:aF H2 (upd H2 t1 (.tup vh)):=(aF.refl H2).upd ft1;have et1:upd H2 t1 (.tup vh) t1=some (.tup vh):=aX;generalize upd H2 t1 (.tup vh)=tQ at zQ et1 |-;refine ⟨by show 2<=aO; omega,λt2 ft2=>?_⟩;have s11:aF tQ (upd tQ t2 (.tup [.ref t1,x])):=(aF.refl tQ).upd ft2;have et2:upd tQ t2 (.tup [.ref t1,x]) t2=some (.tup [.ref t1,x]):=aX;generalize upd tQ t2 (.tup [.ref t1,x])=H11 at s11 et2 |-;refine ⟨D,zs,rfl,.inl ⟨aV.of ((zQ.aA s11) _ _ G.at'),λt3 ft3=>?_⟩⟩;have s12:aF H11 (upd H11 t3 (.tup zs)):=(aF.refl H11).upd ft3;have et3:upd H11 t3 (.tup zs) t3=some (.tup zs):=aX;generalize upd H11 t3 (.tup zs)=H12 at s12 et3 |-;refine ⟨by show 2<=aO; omega,λt ft=>?_⟩;have s13:aF H12 (upd H12 t (.tup [.ref t2,.ref t3])):=(aF.refl H12).upd ft;have SA:=(zQ.aA s11).aA (s12.aA s13);have SB:=S9.aA SA;refine q t (.ref t2) (.ref t3) hs ls ss' (gH kvs) _ aX ⟨t2,.ref t1,x,rfl,(s12.aA s13) _ _ et2,⟨t1,vh,rfl,(s11.aA (s12.aA s13)) _ _ et1,j4 (λ_ _ z=>z.ts (S7.aA SB).dH) ph⟩,lat.ts SB.dH⟩ ⟨t3,zs,rfl,s13 _ _ et3,j4 (λ_ _ z=>z.ts SA.dH) pz⟩ ⟨⟨by omega,by omega,(λh hh=>(gh h hh).topW),by rw [hnm]; exact (Ea _ _).nodup akk,ndn,by omega⟩,gl,gh,λl hl=>(kls l hl).2,⟨pm,so⟩,anG kh λl hl=>(kls l hl).1,⟨λs hs'=>gsn s (pm.mem_iff.mp hs'),by omega,by omega⟩,λs hs'=>by obtain ⟨i,ei,b1,b2⟩:=vals' s (pm.mem_iff.mp hs');rw [Ik ei]; exact ⟨b1,b2⟩,l6⟩ ((SH.aA S7).aA SB);obtain ⟨zs,G,pz⟩:=G;rw [bL] at hy;obtain ⟨n,hn,rfl⟩:=wA.mp hy;have lz:=pz.length;unfold iR at lz;rw [aL,gR] at lz;refine ⟨dh,.int (gH kvs n),rfl,((hi.same (mX.of (s1'.aA G.same))).mom).get (pm.mem_iff.mp (fG hn)),?_⟩;refine ⟨by show 2<=aO; omega,λp hp=>?_⟩;have s3:aF H2 (upd H2 p (.tup [.str n,.int (gH kvs n)])):=(aF.refl H2).upd hp;have e3:upd H2 p (.tup [.str n,.int (gH kvs n)]) p=some (.tup [.str n,.int (gH kvs n)]):=aX;generalize upd H2 p (.tup [.str n,.int (gH kvs n)])=H3' at s3 e3 |-;have G3:=G.more s3;refine ⟨zs,G3.at',by omega,nx hi' ⟨zs++[.ref p],G3.put hD _,?_⟩⟩;have tt:jc H3' (upd H3' D (.lst (zs++[.ref p]))):=λc xs e=>(by rw [aW (λz=>by rw [z,G3.at'] at e; cases e)]; exact e);rw [fZ,hn];show eX _ _ (iR (ss'.take i++[n]) (gH kvs));unfold iR;rw [jq];exact Aw (j4 (λ_ _ z=>(z.ts s3.dH).ts tt) pz) (.cons ⟨p,rfl,tt _ _ e3⟩ .nil)
theorem Nb:cW ["_law_ledger_here","_law_found","_law_house_here","_law_run"] ["_law_ledger_here"] (bw MF):=dX
theorem afB(F:eY K "_law_rows" MF f fd)(T:Txt mg t8 t6 tR tL):bf P w K mg base bB 1 f fd ["_law_ledger_here"] Ls:=by refine F.ok Nb (λvs H Q E h=>?_) (λcdv A outer s H vs Q E hr h=>?_);obtain ⟨a,y,z,hs,rfl,_⟩:=h;rfl;obtain ⟨a,y,z,hs,rfl,ha,⟨c,vh,rfl,hc,ph⟩,gh,aaE,q⟩:=h;have dO:=cQ;refine ⟨_,(aP (pZ 1 Nb (iU aD)) (aP (lG lA rfl (fY (pX dY (pV 0) aM)) (pY 2 Nb) (aU (lG lA rfl (fY (pX dY (pV 2) aM)) (pY 3 Nb) (aU (Cw (Az CV PySem.F.slot_list_extend PySem.F.type_list_extend amF (pV 1) (aq (iG (bN:=bw MF) (own:=["_law_row","_law_reading"]) (cap:=[]) (ix:=[]) rfl rfl fH (fY (pV 3)) (λb=>(jG rfl (cI (pH 0 ["_law_row","_law_reading"]) (cI (pH 1 ["_law_row","_law_reading"]) jE)))) (λb=>fu) (λb=>(pV 0))) aD))))))) (aU (bx (bh abT rfl T.sorted DP (aq (pV 1) aD)))))),?_⟩;refine ⟨dR _,λD hD=>?_⟩;have s0:aF H (upd H D (.lst [])):=(aF.refl H).upd hD;refine dI (aH.of (s0 _ _ ha)) (i:=0) (v:=.ref c) (by rfl) ?_;refine ⟨c,rfl,⟨_,aH.of (s0 _ _ hc)⟩,rU (xs:=vh) (λi aj H'=>∃ o2 o3:Option V,aj=[bY a,bY D,o2,o3]/\eG H H' D (((hs.take i).flatMap cV).map V.str)) ⟨none,none,rfl,eG.start hD⟩ (λi aj H' _ Tj=>by obtain ⟨_,_,_,G⟩:=Tj; exact aH.of (G.same _ _ hc)) (λi x aj H' hx Td=>?_) (fun aj H' U8=>?_)⟩;refine bU λcu aQ=>?_;obtain ⟨o2,o3,eσ,G⟩:=Td;subst aQ;subst eσ;refine bU λcu aQ=>?_;obtain ⟨hh,hhi,b,d,aog,gb,c2,vr,ajS,gc,pr⟩:=iK ph hx;subst aQ;subst aog;subst ajS;refine dI (aH.of (G.same _ _ gb)) (i:=4) (v:=.ref c2) (by rfl) ?_;refine ⟨c2,rfl,⟨_,aH.of (G.same _ _ gc)⟩,rU (xs:=vr) (λj aj H'=>∃ o3:Option V,aj=[bY a,bY D,bY b,o3]/\eG H H' D (((hs.take i).flatMap cV++(hh.runs.take j).flatten.map dw).map V.str)) ⟨o3,rfl,by simpa using G⟩ (λj aj H' _ Qn=>by obtain ⟨_,_,G⟩:=Qn; exact aH.of (G.same _ _ gc)) (λj y aj H' hy aky=>?_) (fun aj H' Ub=>?_)⟩;obtain ⟨o3,eσ,G⟩:=aky;subst eσ;refine bU λcu aQ=>?_;obtain ⟨r,hri,c3,ws,anb,gw,pw⟩:=iK pr hy;subst aQ;subst anb;have gd:=gh hh (fG hhi);have gr:=gd.runs r (fG hri);have few:=gr.few;have lw:=pw.length;refine ⟨.inl ⟨rfl,_,aV.of G.at'⟩,?_⟩;refine ⟨c3,rfl,⟨_,aH.of (G.same _ _ gw)⟩,λE' hE=>j9 (xs:=ws) (ys:=r.map λx=>V.str x.1) hE (aH.of (G.same _ _ gw)) (by omega) (by rw [aL]; omega) (λt x H2 hx s2 b R hR=>?_) (λH2 s2 e2=>?_)⟩;obtain ⟨rr,hrr,ra⟩:=iK pw hx;obtain ⟨a1,rfl,g1⟩:=ra.ts (G.same.aA s2).dH;refine ⟨a1,_,rfl,aH.of g1,rfl,_,_,rfl,_,_,rfl,rfl,?_⟩;exact hR H2 _ (by rw [bL,hrr]; rfl) (aF.refl _);have G2:=G.more s2;have total:((hs.take i).flatMap cV++(hh.runs.take j).flatten.map dw).length+r.length<=63:=(by have z:=aaE;have e1:hs=hs.take i++(hh :: hs.drop (i+1)):=(by obtain ⟨li,fi⟩:=jC.mp hhi;rw [<- fi,vX,qX]);have e2:hh.runs=hh.runs.take j++(r :: hh.runs.drop (j+1)):=(by obtain ⟨li,fi⟩:=jC.mp hri;rw [<- fi,vX,qX]);have e3:cG hs=(hs.take i).flatMap cV++(cV hh++(hs.drop (i+1)).flatMap cV):=(by unfold cG;(conv=>lhs; rw [e1]);rw [nJ,Bq]);have e4:cV hh=((hh.runs.take j).flatten++(r++(hh.runs.drop (j+1)).flatten)).map dw:=(by unfold cV iT;(conv=>lhs; rw [e2]);rw [Ej,JD]);rw [e3,e4] at z;simp only [dZ,aL] at z |-;omega);refine ⟨D,E',_,_,rfl,rfl,G2.at',e2,by rw [aL,aL]; omega,?_⟩;refine ⟨_,rfl,⟨?_,λb o e=>by rw [aW (dN e hD)]; exact G2.same _ _ e⟩⟩;rw [aX,fZ,hri,Ej];simp;obtain ⟨o3,eσ,G⟩:=Ub;subst eσ;refine ⟨_,_,rfl,?_⟩;rw [pr.length,lW] at G;rw [fZ,hhi,nJ];simpa [cV,iT] using G;refine bU λcu aQ=>?_;obtain ⟨o2,o3,eσ,G⟩:=U8;subst aQ;subst eσ;have e:=G.at';rw [ph.length,lW] at e;have few:=aaE;refine ⟨D,cG hs,rfl,aV.of e,by omega,λl ss hl pm so=>?_⟩;exact q l ss _ aX (G.same.upd hl) pm so
@[elab_as_elim] theorem gEl{P:Hp}{T:au}{X:HO}{motive:Hp->Prop}(f:P T=none)(k:∀ N,aF P N->N T=some X->motive N):motive (upd P T X):=k _ ((aF.refl P).upd f) aX
noncomputable def Yl(d:Da):Prop:=∀ xs l,d=.tup [.tup xs,l]->xs.all jl=true->(cG (xs.map fX)).length<64
noncomputable def U9:Sp:=λvs H Q _=>rz λ(x:V)(d:Da)=>rG (vs=[x]) (bD H x d) (Yl d) (∀ H',aF H H'->Q (.bl (Bc d)) H')
theorem ak4(h:oA d 2=false):Bc d=false:=by
 cases d with
 | tup xs =>
   match xs,h with
   | [],_=>rfl
   | [_],_=>rfl
   | [_,_],h=>cases h
   | _ :: _ :: _ :: _,_=>rfl
 | _=>rfl
theorem akJ(ys:List Da)(f g:Da->Bool):ys.all (λd=>f d && g d)=(ys.all f && ys.all g):=by induction ys with| nil=>rfl| cons y ys ih =>rw [pP,pP,pP,ih];cases f y <;> cases g y <;> cases ys.all f <;> rfl
theorem Ul(ss:List Str):decide (((eZ (ss.map bR) (ss.map (bR:Str->Key)).length).length:Int)<((ss.map V.str).length:Int))=!decide ss.Nodup:=by rw [lY,decide_eq_true_iff,aeh,decide_eq_false_iff_not,aL,aL];have le:=Fv (ss.map (bR:Str->Key)) ss.length;constructor;intro z nd;have nk:(ss.map (bR:Str->Key)).Nodup:=(by rw [pU,yC];exact (pU.mp nd).imp λh z=>h (rD z));rw [Xa nk _ (by rw [aL]; exact bG _),gR,aL] at z;omega;intro nd;have ne:(eZ (ss.map (bR:Str->Key)) ss.length).length≠ss.length:=λz=>(by have z2:=Xm (ks:=ss.map (bR:Str->Key)) ss.length (by rw [aL]; exact bG _) z;rw [lF (by rw [aL]; exact bG _)] at z2;rw [pU,yC] at z2;exact nd (pU.mpr (z2.imp λh e=>h (by rw [e]))));omega
theorem xV:cW ["_law_thing","_law_houses","_law_letters_here","_law_names_here","_law_clocks","_law_home","_law_house_here","_law_run","_law_name_here","_law_reading"] ["_law_thing"] (bw Cy):=dX
theorem aly(F:eY K "_law_ledger_good" Cy f fd)(T:Txt mg t8 t6 tR tL)(yG:Cl P w K mg base 3 "_law_sized" ["_law_thing","_law_size"] rK)(anD:Cl P w K mg base 3 "_law_house_good" ["_law_thing"] (gQ jl))(XF:Cl P w K mg base 3 "_law_rows" ["_law_ledger_here"] Ls)(aj8:Cl P w K mg base 3 "_law_letter_good" ["_law_thing","_law_home"] Vb):bf P w K mg base bB 4 f fd ["_law_thing"] U9:=by
 refine F.ok xV (λvs H Q E h=>?_) (λcdv A outer s H vs Q E hr h=>?_)
 . obtain ⟨x,d,rfl,_⟩:=h;rfl
 . obtain ⟨x,d,rfl,hd,fr,q⟩:=h;have dO:=cQ;refine ⟨_,(aP (cP (jP (dg (dD (pC yG hr (aq (pV 0) (aq aM aD))))) (pw_or (dg (dD (bh kO rfl T.gK gG (aq (pX dY (pV 0) aM) (aq (jV (v:=.ty "tuple") rfl T.tuple jA rfl) aD))))) (pw_or1 (dg (dD (bh kO rfl T.gK gG (aq (pX dY (pV 0) aM) (aq (jV (v:=.ty "tuple") rfl T.tuple jA rfl) aD)))))))) (aU (bx dG)) cN) (aP (vY (pV 0) (jG rfl (cI (pY 1 xV) (cI (pY 2 xV) jE)))) (aP (cP (jP (dg (J3 oLe oLe aM (bh jy rfl T.len gO (aq (pV 1) aD)) aM)) (pw_or1 (dg (dD (bh (pA rfl) rfl T.all mV (aq (iG (bN:=bw Cy) (own:=["_law_house_here"]) (cap:=[]) (ix:=[]) rfl rfl fH (fY (pV 1)) (λb=>(pH 0 ["_law_house_here"])) (λb=>fu) (λb=>(pC anD hr (aq (pV 0) aD)))) aD)))))) (aU (bx dG)) cN) (aP (pZ 3 xV (pC XF hr (aq (pV 0) aD))) (aP (HX (i:=4) xV.nd rfl rfl (bN:=bw Cy) (own:=["_law_house_here"]) (cap:=[]) (ix:=[]) rfl rfl fH (fY (pV 1)) (λb=>(pH 0 ["_law_house_here"])) (λb=>fu) (λb=>(pX dY (pV 0) aM))) (aP (cP (jP (gM oLt (bh Oz rfl T.len gO (aq (oO (Wg rfl) rfl T.set PB (aq (pV 4) aD)) aD)) (bh jy rfl T.len gO (aq (pV 4) aD)) (cX _)) (pw_or1 (gM oLt (bh Oz rfl T.len gO (aq (oO (Wg rfl) rfl T.set PB (aq (pV 3) aD)) aD)) (bh jy rfl T.len gO (aq (pV 3) aD)) (cX _)))) (aU (bx dG)) cN) (aP (cP (jP (gM wu (bh jy rfl T.len gO (aq (pV 3) aD)) aM (cX _)) (pw_or1 (gM wu (bh jy rfl T.len gO (aq (pV 2) aD)) aM (cX _)))) (aU (bx dG)) cN) (aP (pZ 5 xV yK) (aP (lG lA rfl (fY (pV 1)) (pY 6 xV) (aU (lG lA rfl (fY (pX dY (pV 6) aM)) (pY 7 xV) (aU (lG lA rfl (fY (pV 7)) (jG rfl (cI (pY 8 xV) (cI (pY 9 xV) jE))) (aU (Ph (jk hr) (pV 5) (pV 8) (pX dY (pV 6) aM) rfl))))))) (aP (cP (dg (dD (bh (pA rfl) rfl T.all mV (aq (iG (bN:=bw Cy) (own:=["_law_letter"]) (cap:=["_law_home"]) (ix:=[5]) rfl rfl fH (fY (pV 2)) (λb=>(pH 0 ["_law_letter","_law_home"])) (λb=>fu) (λb=>(pC aj8 hr (aq (pV 0) (aq (pV 1) aD))))) aD)))) (aU (bx dG)) cN) (aU (bx (bh (pA rfl) rfl T.all mV (aq (iG (bN:=bw Cy) (own:=["_law_k"]) (cap:=["_law_letters_here"]) (ix:=[2]) rfl rfl fH (yq rfl T.range (aq (bJ oG (bh jy rfl T.len gO (aq (pV 2) aD)) aM) aD)) (λb=>(pH 0 ["_law_k","_law_letters_here"])) (λb=>fu) (λb=>(jW (aaP hr.Kz) (jo qP (pX dY (pV 1) (pV 0)) kZ (iu aM)) (jo qP (pX dY (pV 1) (bJ gj (pV 0) aM)) kZ (iu aM)) (cX _)))) aD)))))))))))))),?_⟩;refine ⟨x,d,2,rfl,hd,?_⟩;cases e:oA d 2 with
   | false =>
     have z:=q H (aF.refl H);rw [ak4 e] at z;exact z
   | true =>
     cases d with
     | tup xs =>
       obtain ⟨a,vs,rfl,ha,rB,r⟩:=hd.dW;obtain ⟨dh,dl,rfl⟩:=len2 (dB e);obtain ⟨v1,v2,rfl,h1,h2⟩:=r.two;have q:∀ H',aF H H'->Q (.bl (yg dh && Cg (Eu dh) dl)) H':=q;refine dI (aH.of ha) (i:=0) (v:=v1) (by rfl) ?_;obtain ⟨_,⟨T1,ty1,kt1⟩,_⟩:=h1.kind (K:=K);refine ⟨_,_,_,_,rfl,ty1,kt1,?_⟩;cases dh with
       | tup xs =>
         refine dI (aH.of ha) (i:=1) (v:=v2) (by rfl) ?_;obtain ⟨_,⟨T2,ty2,kt2⟩,_⟩:=h2.kind (K:=K);refine ⟨_,_,_,_,rfl,ty2,kt2,?_⟩;cases dl with
         | tup ys =>
           obtain ⟨c,ws,rfl,hc,l25,rh⟩:=h1.dW;obtain ⟨c2,us,rfl,hc2,m25,rl⟩:=h2.dW;refine ⟨a,_,rfl,aH.of ha,rfl,_,_,rfl,_,_,rfl,rfl,?_⟩;have len:=rh.len;have al2:=rl.len;have q:∀ H',aF H H'->Q (.bl ((decide (1<=xs.length) && (decide (xs.length<=6) && (xs.all jl && (decide ((xs.map fX).map bK.name).Nodup && (decide (cG (xs.map fX)).Nodup && decide ((cG (xs.map fX)).length<=24)))))) && (decide (ys.length<=24) && (ys.all lB && (ys.all (ux (xs.map fX)) && Ag (ys.map keyOf)))))) H':=q;refine ⟨c,ws,rfl,.inr (aH.of hc),?_⟩;refine fQ (λz=>?_) (λz=>?_)
           . have z1:1<=xs.length:=by have:=dB z; omega
             rw [cg z1,fJ] at q;by_cases z2:xs.length<=6
             . rw [cg z2,fJ] at q;refine fQ (λw6=>by rw [cg (show (ws.length:Int)<=6 by omega)] at w6; cases w6) (λw6=>?_);refine ⟨c,rfl,⟨_,aH.of hc⟩,λD hD=>j9 (xs:=ws) (ys:=(xs.map jl).map V.bl) hD (aH.of hc) (by omega) (by rw [aL,aL]; omega) (λi x H' hx s2 b R hR=>?_) (λH1 s1 e1=>?_)⟩
               . obtain ⟨y,hy,ya⟩:=rh.get hx;exact ⟨x,y,rfl,ya.same s2,λcM s=>hR cM _ (by rw [bL,bL,hy]; rfl) s⟩
               . refine ⟨D,_,rfl,aV.of e1,?_⟩;rw [xR];cases ea:xs.all jl with
                 | false=>rw [ea] at q; exact q H1 s1
                 | true =>
                   rw [ea,fJ] at q;obtain ⟨pr,gd⟩:=Le rh ea;have few:=fr xs _ rfl ea;have lhs:(xs.map fX).length<=6:=by rw [aL]; exact z2
                   clear fr hd ea e1;generalize xs.map fX=hs at q pr gd few lhs;refine ⟨a,.ref c,.ref c2,hs,rfl,s1 _ _ ha,⟨c,ws,rfl,s1 _ _ hc,j4 (λ_ _ z=>z.ts s1.dH) pr⟩,gd,few,λl ss H2 el s2 pm so=>?_⟩;have S2:=s1.aA s2;have lw:=pr.length;refine ⟨c,rfl,⟨_,aH.of (S2 _ _ hc)⟩,λD2 hD2=>j9 (xs:=ws) (ys:=(hs.map bK.name).map V.str) hD2 (aH.of (S2 _ _ hc)) (by omega) (by rw [aL,aL]; omega) (λi x H3 hx s3 b R hR=>?_) (λH3 s3 e3=>?_)⟩
                   . obtain ⟨h,hh',hat⟩:=iK pr hx;obtain ⟨a1,b1,rfl,g1,_⟩:=hat.ts (S2.aA s3).dH;refine dI (aH.of g1) (i:=0) (v:=.str h.name) (by rfl) ?_;exact hR H3 _ (by rw [bL,bL,hh']; rfl) (aF.refl _)
                   . have S3:=S2.aA s3;have ek:∀ tt:List Str,(tt.map (bR:Str->Key)).map kV=tt.map V.str:=λtt=>by rw [nA]; rfl
                     refine ⟨D2,(hs.map bK.name).map bR,rfl,aV.of (by rw [ek]; exact e3),by rw [aL,aL]; omega,λl1 hl1=>?_⟩;refine gEl hl1 λH4 s4 e4=>?_
                     refine ⟨l1,_,rfl,e4,?_⟩;refine ⟨D2,(hs.map bK.name).map V.str,rfl,.inl (aV.of (s4 _ _ e3)),?_⟩;show (if decide (((eZ ((hs.map bK.name).map bR) ((hs.map bK.name).map (bR:Str->Key)).length).length:Int)<(((hs.map bK.name).map V.str).length:Int))=true then _ else _);rw [Ul];have S4:=S3.aA s4;cases en:decide (hs.map bK.name).Nodup with
                     | false=>rw [en] at q; exact q H4 S4
                     | true =>
                       rw [en,fJ] at q;have el4:=(s3.aA s4) _ _ el;have lss:=pm.length_eq;refine ⟨l,ss.map bR,rfl,aV.of (by rw [ek]; exact el4),by rw [aL]; omega,λl2 hl2=>?_⟩;refine gEl hl2 λH5 s5 e5=>?_
                       refine ⟨l2,_,rfl,e5,?_⟩;refine ⟨l,ss.map V.str,rfl,.inl (aV.of (s5 _ _ el4)),?_⟩;show (if decide (((eZ (ss.map bR) (ss.map (bR:Str->Key)).length).length:Int)<((ss.map V.str).length:Int))=true then _ else _);rw [Ul];have S5:=S4.aA s5;have eN:decide ss.Nodup=decide (cG hs).Nodup:=by rw [lY,decide_eq_true_iff,decide_eq_true_iff]; exact pm.nodup_iff
                       rw [eN];cases er:decide (cG hs).Nodup with
                       | false=>rw [er] at q; exact q H5 S5
                       | true =>
                         rw [er,fJ] at q;refine ⟨l,ss.map V.str,rfl,.inl (aV.of ((s5) _ _ el4)),?_⟩;show (if decide ((24:Int)<((ss.map V.str).length:Int))=true then _ else _);by_cases z3:(cG hs).length<=24
                         case neg =>
                           rw [fP z3] at q;rw [bI (cg (by rw [aL]; omega))];exact q H5 S5
                         . rw [cg z3,fJ] at q;rw [aZ (by rw [decide_eq_true_iff,aL]; omega)];refine ⟨c2,us,rfl,.inr (aH.of (S5 _ _ hc2)),?_⟩;show (if decide ((24:Int)<(us.length:Int))=true then _ else _);by_cases z4:ys.length<=24
                           case neg =>
                             rw [fP z4] at q;rw [bI (cg (by omega))];exact q H5 S5
                           . rw [cg z4,fJ] at q;rw [aZ (by rw [decide_eq_true_iff]; omega)];refine λO hO=>?_
                             have s0:aF H5 (upd H5 O (.dK [])):=(aF.refl H5).upd hO
                             have T6:(cJ hs).length<=24:=by
                               have z:=z3;rw [<- CW,aL] at z;exact z
                             have wR:((cJ hs).map dw).Nodup:=by rw [CW]; exact dB er
                             have Ue:∀(A:List (Str × Str))(x:Str × Str)(B:List (Str × Str))(kv:List (Key × V)),cJ hs=A++x :: B->tG kv A->kv.length<=A.length->tG (eV kv (.inr x.1) (.str x.2)) (A++[x])/\(eV kv (.inr x.1) (.str x.2)).length<=(A++[x]).length/\kv.length<aO:=λA x B kv e ow kl=>by
                               have l1:=T6;rw [e,dZ,iz] at l1;refine ⟨tG.put ow λy hy z=>?_,?_,by omega⟩
                               . rw [e,jq,fM] at wR;exact (FQ.mp wR).2.2 y.1 (mW hy) x.1 gU z
                               . have z:=yF kv (.inr x.1) (V.str x.2);rw [dZ];exact jF z (GZ kl 1)
                             have pr5:eX (qD H5) ws hs:=j4 (λ_ _ z=>z.ts S5.dH) pr;have hc5:=S5 _ _ hc;refine ⟨c,rfl,⟨_,aH.of (s0 _ _ hc5)⟩,rU (xs:=ws) (λi aj H'=>vZ λ(kv:List (Key × V))(o6 o7 o8 o9:Option V)=>jJ (aj=[bY a,bY c,bY c2,bY l,bY D2,bY O,o6,o7,o8,o9]) (H' O=some (.dK kv)) (tG kv (cJ (hs.take i))) (kv.length<=(cJ (hs.take i)).length) (aF H5 H')) ⟨[],none,none,none,none,rfl,aX,λn=>rfl,dR _,s0⟩ (λi aj H' _ hz=>by obtain ⟨_,_,_,_,_,_,_,_,_,s⟩:=hz; exact aH.of (s _ _ hc5)) (λi x aj H' hx hz=>?_) (fun aj H6 hz=>?_)⟩
                             . obtain ⟨kv,o6,o7,o8,o9,rfl,eO,ow,kl,s⟩:=hz;obtain ⟨hh,hhi,a1,b1,rfl,ga,c4,vr,rfl,gc,pr4⟩:=iK pr5 hx;refine dI (aH.of (s _ _ ga)) (i:=4) (v:=.ref c4) (by rfl) ?_
                               have e0:cJ hs=cJ (hs.take i)++(jz hh++cJ (hs.drop (i+1))):=by
                                 unfold cJ
                                 have e1:hs=hs.take i++(hh :: hs.drop (i+1)):=by
                                   obtain ⟨li,fi⟩:=jC.mp hhi;rw [<- fi,vX,qX]
                                 conv=>lhs; rw [e1]
                                 rw [nJ,Bq]
                               refine ⟨c4,rfl,⟨_,aH.of (s _ _ gc)⟩,rU (xs:=vr) (λj aj H'=>qN λ(kv:List (Key × V))(o7 o8 o9:Option V)=>jJ (aj=[bY a,bY c,bY c2,bY l,bY D2,bY O,bY a1,o7,o8,o9]) (H' O=some (.dK kv)) (tG kv (cJ (hs.take i)++(hh.runs.take j).flatMap (gB hh.name))) (kv.length<=(cJ (hs.take i)++(hh.runs.take j).flatMap (gB hh.name)).length) (aF H5 H')) ⟨kv,o7,o8,o9,rfl,eO,by simpa using ow,by simpa using kl,s⟩ (λj aj H' _ hz=>by obtain ⟨_,_,_,_,_,_,_,_,s⟩:=hz; exact aH.of (s _ _ gc)) (λj y aj H' hy hz=>?_) (fun aj H' hz=>?_)⟩
                               . obtain ⟨kv,o7,o8,o9,rfl,eO,ow,kl,s⟩:=hz;obtain ⟨r',hr',c6,wr,rfl,g6,pr6⟩:=iK pr4 hy
                                 have e1:jz hh=(hh.runs.take j).flatMap (gB hh.name)++(gB hh.name r'++(hh.runs.drop (j+1)).flatMap (gB hh.name)):=by
                                   rw [Mr]
                                   have e1:hh.runs=hh.runs.take j++(r' :: hh.runs.drop (j+1)):=by
                                     obtain ⟨li,fi⟩:=jC.mp hr';rw [<- fi,vX,qX]
                                   conv=>lhs; rw [e1]
                                   rw [nJ,Bq]
                                 refine ⟨c6,rfl,⟨_,aH.of (s _ _ g6)⟩,rU (xs:=wr) (λt aj H'=>sY λ(kv:List (Key × V))(o8 o9:Option V)=>jJ (aj=[bY a,bY c,bY c2,bY l,bY D2,bY O,bY a1,bY c6,o8,o9]) (H' O=some (.dK kv)) (tG kv (cJ (hs.take i)++(hh.runs.take j).flatMap (gB hh.name)++(gB hh.name r').take t)) (kv.length<=(cJ (hs.take i)++(hh.runs.take j).flatMap (gB hh.name)++(gB hh.name r').take t).length) (aF H5 H')) ⟨kv,o8,o9,rfl,eO,by simpa using ow,by simpa using kl,s⟩ (λt aj H' _ hz=>by obtain ⟨_,_,_,_,_,_,_,s⟩:=hz; exact aH.of (s _ _ g6)) (λt z aj H' hz' hz=>?_) (fun aj H' hz=>?_)⟩
                                 . obtain ⟨kv,o8,o9,rfl,eO,ow,kl,s⟩:=hz;obtain ⟨rr,hrr,ra1,rfl,ra2⟩:=iK pr6 hz';have hp':(gB hh.name r')[t]?=some (rr.1,hh.name):=by unfold gB; rw [bL,hrr]; rfl
                                   refine ⟨ra1,_,rfl,aH.of (s _ _ ra2),rfl,_,_,rfl,_,_,rfl,rfl,?_⟩;refine dI (aH.of (s _ _ ga)) (i:=0) (v:=.str hh.name) (by rfl) ?_
                                   have e2:gB hh.name r'=(gB hh.name r').take t++((rr.1,hh.name) :: (gB hh.name r').drop (t+1)):=by
                                     obtain ⟨li,fi⟩:=jC.mp hp';rw [<- fi,vX,qX]
                                   obtain ⟨w1,w2,w3⟩:=Ue (cJ (hs.take i)++(hh.runs.take j).flatMap (gB hh.name)++(gB hh.name r').take t) (rr.1,hh.name) ((gB hh.name r').drop (t+1)++((hh.runs.drop (j+1)).flatMap (gB hh.name)++cJ (hs.drop (i+1)))) kv (by
                                     rw [e0,e1]
                                     conv=>lhs; rw [e2]
                                     simp only [pQ,Bu]) ow kl
                                   refine ⟨O,_,rfl,xK.k (k:=bR rr.1) eO w3,?_⟩;refine ⟨_,_,_,rfl,aX,?_,?_,λb' o' e'=>by rw [aW (dN e' hO)]; exact s _ _ e'⟩
                                   . rw [fZ,hp',<- pQ]; exact w1
                                   . rw [fZ,hp',<- pQ]; exact w2
                                 . obtain ⟨kv,o8,o9,rfl,eO,ow,kl,s⟩:=hz;have l2:=pr6.length;have e2:(gB hh.name r').take wr.length=gB hh.name r':=lF (by unfold gB; rw [aL]; omega);rw [e2] at ow kl;refine ⟨kv,_,_,_,rfl,eO,?_,?_,s⟩
                                   . rw [fZ,hr',nJ]; simpa using ow
                                   . rw [fZ,hr',nJ]; simpa using kl
                               . obtain ⟨kv,o7,o8,o9,rfl,eO,ow,kl,s⟩:=hz;rw [pr4.length,lW,<- Mr] at ow kl
                                 have e2:cJ (hs.take (i+1))=cJ (hs.take i)++jz hh:=by
                                   unfold cJ;rw [fZ,hhi,nJ];simp
                                 exact ⟨kv,_,_,_,_,rfl,eO,by rw [e2]; exact ow,by rw [e2]; exact kl,s⟩
                             . obtain ⟨kv,o6,o7,o8,o9,rfl,eO,ow,kl,s⟩:=hz;rw [lw,lW] at ow;have S6:=S5.aA s;refine ⟨c2,rfl,⟨_,aH.of (S6 _ _ hc2)⟩,λD3 hD3=>j9 (xs:=us) (ys:=(ys.map λd=>lB d && Ax (cJ hs) d).map V.bl) hD3 (aH.of (S6 _ _ hc2)) (by omega) (by rw [aL,aL]; omega) (λi x H7 hx s7 b R hR=>?_) (λH7 s7 e7=>?_)⟩
                               . obtain ⟨y,hy,ya⟩:=rl.get hx;exact ⟨x,y,O,kv,cJ hs,rfl,ya.same (S6.aA s7),s7 _ _ eO,ow,λcM s=>hR cM _ (by rw [bL,bL,hy]; rfl) s⟩
                               . refine ⟨D3,_,rfl,aV.of e7,?_⟩;rw [xR];have S7:=S6.aA s7;have acP:ys.all (λd=>lB d && Ax (cJ hs) d)=(ys.all lB && ys.all (ux hs)):=akJ ys lB (ux hs);rw [<- Bool.and_assoc,<- acP] at q;cases ef:ys.all (λd=>lB d && Ax (cJ hs) d) with
                                 | false=>rw [ef] at q; exact q H7 S7
                                 | true =>
                                   rw [ef,fJ] at q;have al:ys.all lB=true:=(cB.mp (acP.symm.aA ef)).1
                                   have row:∀(j:Nat)(u:V),us[j]?=some u->∃(r1:au)(s t:Str)(v3 v4:V),u=.ref r1/\H r1=some (.tup [.str s,.str t,v3,v4])/\(ys.map keyOf)[j]?=some (s,t):=λj u hu=>by
                                     obtain ⟨y,hy,yd⟩:=rl.get hu;obtain ⟨s,t,y3,y4,rfl⟩:=Yu (fW.mp al y (fG hy));obtain ⟨ck,wk,rfl,hck,_,rk⟩:=yd.dW;obtain ⟨w1,w2,w3,w4,rfl,g1,g2,g3,g4⟩:=rk.four;cases g1 with
                                     | str _ _ =>
                                       cases g2 with
                                       | str _ _=>exact ⟨ck,s,t,w3,w4,rfl,hck,by rw [bL,hy]; rfl⟩
                                   have lk:(ys.map keyOf).length=us.length:=by rw [aL]; exact al2.symm
                                   generalize ys.map keyOf=ks at q row lk;refine ⟨c2,us,rfl,.inr (aH.of (S7 _ _ hc2)),?_⟩;refine ⟨(us.length:Int)-1,rfl,by omega,by omega,λD4 hD4=>JB (lo:=0) (n:=((us.length:Int)-1).toNat) (λk H'=>eG H7 H' D4 ((((j8 ks).map λp=>mF p.1 p.2).take k).map V.bl)) (eG.start hD4) (λH' G=>?_) (λk H' hk G b=>?_)⟩
                                   . have ll:((us.length:Int)-1).toNat=((j8 ks).map λp=>mF p.1 p.2).length:=by rw [aL,Xv,lk]; omega
                                     rw [ll,lW] at G;refine ⟨D4,_,rfl,aV.of G.at',?_⟩;have er2:((j8 ks).map λp=>mF p.1 p.2).all id=Ag ks:=by unfold Ag; rw [uD]; rfl
                                     rw [er2];exact q H' (S7.aA G.same)
                                   . have S8:=S7.aA G.same;have h1:us[k]?=some us[k]:=gD (by omega);have h2:us[k+1]?=some us[k+1]:=gD (by omega);obtain ⟨r1,s1',t1',y3,y4,e1',g1,f1⟩:=row _ _ h1;obtain ⟨r2,s2',t2',z3',z4',e2',g2,f2⟩:=row _ _ h2;rw [e1'] at h1;rw [e2'] at h2;refine dI (aH.of (S8 _ _ hc2)) (i:=0+(k:Int)) (v:=.ref r1) (by rw [Hl]; exact oW h1) ?_;refine ⟨r1,_,rfl,S8 _ _ g1,λp1 H9 hp1 s9=>?_⟩;refine dI (aH.of ((S8.aA s9) _ _ hc2)) (i:=0+(k:Int)+1) (v:=.ref r2) (by rw [show (0+(k:Int)+1)=((k+1:Nat):Int) by omega]; exact oW h2) ?_;refine ⟨r2,_,rfl,(S8.aA s9) _ _ g2,λp2 tQ hp2 zQ=>?_⟩;have G2:=G.more (s9.aA zQ);refine ⟨.inr ⟨p1,p2,(s1',t1'),(s2',t2'),rfl,rfl,aH.of (zQ _ _ hp1),aH.of hp2,?_⟩⟩;refine ⟨_,G2.at',by rw [aL,gR]; omega,nx hk ?_⟩;show eG _ _ _ ((((j8 ks).map λp=>mF p.1 p.2).take (k+1)).map V.bl);rw [fZ,bL,QT f1 f2,jq];exact G2.put hD4 _
             . rw [fP z2] at q;refine fQ (λw=>q H (aF.refl H)) (λw=>?_);exact bO (by rw [fP (show ¬ (ws.length:Int)<=6 by omega)]; rfl) w
           . have z1:¬ 1<=xs.length:=λw=>z (cg (by omega))
             rw [fP z1] at q;exact q H (aF.refl H)
         | _ =>
           have w:=q H (aF.refl H);simp only [Cg,yP] at w;exact w
       | _=>exact q H (aF.refl H)
     | _=>cases e
noncomputable def rF:Da->Str
 | .tup (.str z :: _)=>z
 | _=>⟨#[]⟩
noncomputable def wH:Da->Bool
 | .tup xs=>decide (1<=xs.length) && (decide (xs.length<=6) && (xs.all jg && decide (xs.map rF).Nodup))
 | _=>false
theorem aaA(h:jg d=true):∃ z y2 y3 y4,d=.tup [.str z,y2,y3,y4]:=by unfold jg at h;split at h;rename_i y1 y2 y3 y4;have h1:=(cB.mp h).1;(cases y1 with| str s=>exact ⟨s,y2,y3,y4,rfl⟩| _=>cases h1);cases h
theorem acJ(h:bD H v d)(g:jg d=true):∃(c:au)(v2 v3 v4:V),v=.ref c/\H c=some (.tup [.str (rF d),v2,v3,v4]):=by obtain ⟨z,y2,y3,y4,rfl⟩:=aaA g;obtain ⟨c,wk,rfl,hck,_,rk⟩:=h.dW;obtain ⟨w1,w2,w3,w4,rfl,g1,_,_,_⟩:=rk.four;cases g1 with| str _ _=>exact ⟨c,w2,w3,w4,rfl,hck⟩
theorem aku(ss:List Str):decide (((eZ (ss.map bR) (ss.map (bR:Str->Key)).length).length:Int)=(ss.length:Int))=decide ss.Nodup:=by rw [lY,decide_eq_true_iff,decide_eq_true_iff];have z:=Ul ss;rw [lY,decide_eq_true_iff,aeh,decide_eq_false_iff_not,aL (f:=V.str)] at z;have le:=Fv (ss.map (bR:Str->Key)) (ss.map (bR:Str->Key)).length;rw [aL] at le z |-;constructor;intro e;exact Decidable.byContradiction λn=>(by have:=z.mpr n; omega);intro n;have:¬ ((eZ (ss.map bR) ss.length).length:Int)<(ss.length:Int):=λh=>z.mp h n;omega
theorem Ig:cW ["thing","name","low","high","drift"] ["thing"] (bw Ry):=dX
theorem afq(F:eY K "is_empty_house" Ry f fd)(zM:Cl P w K mg base 2 "has_parts" ["thing","many"] rK)(Vn:Cl P w K mg base 2 "is_clock" ["name","low","high","drift"] MP):bf P w K mg base bB 3 f fd ["thing"] (gQ jg):=by refine F.ok Ig (λvs H Q E h=>?_) (λcdv A outer s H vs Q E hr h=>?_);obtain ⟨x,d,rfl,_⟩:=h;rfl;obtain ⟨x,d,rfl,hd,q⟩:=h;refine ⟨_,(aP (cP (dg (dD (pC zM hr (aq (pV 0) (aq aM aD))))) (aU (bx dG)) cN) (aP (vY (pV 0) (jG rfl (cI (pY 1 Ig) (cI (pY 2 Ig) (cI (pY 3 Ig) (cI (pY 4 Ig) jE)))))) (aU (bx (pC Vn hr (aq (pV 1) (aq (pV 2) (aq (pV 3) (aq (pV 4) aD))))))))),?_⟩;refine ⟨x,d,4,rfl,hd,?_⟩;cases e:oA d 4 with| false =>have z:=q H (aF.refl H);rw [ac0 e] at z;exact z| true =>cases d with| tup xs =>obtain ⟨a,vs,rfl,ha,rB,r⟩:=hd.dW;obtain ⟨n,l,h,dd,rfl⟩:=Il (dB e);obtain ⟨v1,v2,v3,v4,rfl,h1,h2,h3,h4⟩:=r.four;refine ⟨a,_,rfl,aH.of ha,rfl,_,_,rfl,_,_,rfl,_,_,rfl,_,_,rfl,rfl,?_⟩;exact ⟨v1,v2,v3,v4,n,l,h,dd,rfl,h1,h2,h3,h4,q⟩| _=>cases e
theorem aks:cW ["thing"] ["thing"] (bw Ij):=dX
theorem ahR(F:eY K "are_empty_houses" Ij f fd)(T:Txt mg t8 t6 tR tL)(ag6:Cl P w K mg base 3 "is_empty_house" ["thing"] (gQ jg))(Oq:Cl P w K mg base 3 "are_unlike" ["names"] K1):bf P w K mg base bB 4 f fd ["thing"] (gQ wH):=by refine F.ok aks (λvs H Q E h=>?_) (λcdv A outer s H vs Q E hr h=>?_);obtain ⟨x,d,rfl,_⟩:=h;rfl;obtain ⟨x,d,rfl,hd,q⟩:=h;have dO:=cQ;obtain ⟨_,⟨T',ty,kt⟩,_⟩:=hd.kind (K:=K);refine ⟨_,(aP (cP (jP (dg (dD (bh kO rfl T.gK gG (aq (pV 0) (aq (jV (v:=.ty "tuple") rfl T.tuple jA rfl) aD))))) (pw_or1 (dg (J3 oLe oLe aM (bh jy rfl T.len gO (aq (pV 0) aD)) (nM (v:=.int 6) rfl T.ZW ⟨_,rfl⟩))))) (aU (bx dG)) cN) (aP (cP (dg (dD (bh (pA rfl) rfl T.all mV (aq (iG (bN:=bw Ij) (own:=["house"]) (cap:=[]) (ix:=[]) rfl rfl fH (fY (pV 0)) (λb=>(pH 0 ["house"])) (λb=>fu) (λb=>(pC ag6 hr (aq (pV 0) aD)))) aD)))) (aU (bx dG)) cN) (aU (bx (pC Oq hr (aq (iG (bN:=bw Ij) (own:=["house"]) (cap:=[]) (ix:=[]) rfl rfl fH (fY (pV 0)) (λb=>(pH 0 ["house"])) (λb=>fu) (λb=>(pX dY (pV 0) aM))) aD)))))),?_⟩;refine ⟨_,_,_,_,rfl,ty,kt,?_⟩;cases d with| tup xs =>obtain ⟨c,ws,rfl,hc,l25,rh⟩:=hd.dW;have len:=rh.len;have q:∀ H',aF H H'->Q (.bl (decide (1<=xs.length) && (decide (xs.length<=6) && (xs.all jg && decide (xs.map rF).Nodup)))) H':=q;refine ⟨c,ws,rfl,.inr (aH.of hc),?_⟩;refine fQ (λz=>?_) (λz=>?_);have z1:1<=xs.length:=(by have:=dB z; omega);rw [cg z1,fJ] at q;by_cases z2:xs.length<=6;rw [cg z2,fJ] at q;refine fQ (λw6=>by rw [cg (show (ws.length:Int)<=6 by omega)] at w6; cases w6) (λw6=>?_);refine ⟨c,rfl,⟨_,aH.of hc⟩,λD hD=>j9 (xs:=ws) (ys:=(xs.map jg).map V.bl) hD (aH.of hc) (by omega) (by rw [aL,aL]; omega) (λi x H' hx s2 b R hR=>?_) (λH1 s1 e1=>?_)⟩;obtain ⟨y,hy,ya⟩:=rh.get hx;exact ⟨x,y,rfl,ya.same s2,λcM s=>hR cM _ (by rw [bL,bL,hy]; rfl) s⟩;refine ⟨D,_,rfl,aV.of e1,?_⟩;rw [xR];(cases ea:xs.all jg with| false=>rw [ea] at q; exact q H1 s1| true =>rw [ea,fJ] at q;refine ⟨c,rfl,⟨_,aH.of (s1 _ _ hc)⟩,λD2 hD2=>j9 (xs:=ws) (ys:=(xs.map rF).map V.str) hD2 (aH.of (s1 _ _ hc)) (by omega) (by rw [aL,aL]; omega) (λi x H3 hx s3 b R hR=>?_) (λH3 s3 e3=>?_)⟩;obtain ⟨y,hy,ya⟩:=rh.get hx;obtain ⟨a1,u2,u3,u4,rfl,g1⟩:=acJ ya (fW.mp ea y (fG hy));refine dI (aH.of ((s1.aA s3) _ _ g1)) (i:=0) (v:=.str (rF y)) (by rfl) ?_;exact hR H3 _ (by rw [bL,bL,hy]; rfl) (aF.refl _);have S3:=s1.aA s3;refine ⟨D2,xs.map rF,rfl,e3,by rw [aL]; omega,λH4 s4=>?_⟩;exact q H4 (S3.aA s4));rw [fP z2] at q;refine fQ (λw=>q H (aF.refl H)) (λw=>?_);exact bO (by rw [fP (show ¬ (ws.length:Int)<=6 by omega)]; rfl) w;have z1:¬ 1<=xs.length:=λw=>z (cg (by omega));rw [fP z1] at q;exact q H (aF.refl H)| _=>exact q H (aF.refl H)
theorem ais:cW ["_law_thing"] ["_law_thing"] (bw JN):=dX
theorem ao7{Ql:au}{Zn:jU}(F:eY K "_law_clocks_good" JN f fd)(T:Txt mg t8 t6 tR tL)(XR:jT P w K mg base hv 2 Ql Zn ["_law_thing"] (gQ jg))(ana:mg "_law_clock_good" = some (.ref Ql))(amx:nu K (.ref Ql)=true)(ae3:cj K Zn ["_law_thing"] []):jT P w K mg base hv 3 f fd ["_law_thing"] (gQ wH):=by refine F.okH ais (λvs H Q E h=>?_) (λcdv A outer s H vs Q E hh hr hsh h=>?_);obtain ⟨x,d,rfl,_⟩:=h;rfl;obtain ⟨x,d,rfl,hd,q⟩:=h;have dO:=cQ;obtain ⟨_,⟨T',ty,kt⟩,_⟩:=hd.kind (K:=K);refine ⟨_,(aP (cP (jP (dg (dD (bh kO rfl T.gK gG (aq (pV 0) (aq (jV (v:=.ty "tuple") rfl T.tuple jA rfl) aD))))) (pw_or1 (dg (J3 oLe oLe aM (bh jy rfl T.len gO (aq (pV 0) aD)) aM)))) (aU (bx dG)) cN) (aP (cP (dg (dD (bh (X5 hh) rfl T.all mV (aq (Mg (bN:=bw JN) (own:=["_law_one"]) (cap:=[]) (ix:=[]) hh rfl fH (Wo (pV 0)) (λb=>(pH 0 ["_law_one"])) (λb=>fu) (λb=>(Em XR hh hr rfl ana amx ae3 .nil (aq (pV 0) aD)))) aD)))) (aU (bx dG)) cN) (aU (bx (jW oEq (bh Oz rfl T.len gO (aq (oO (aeO hh) rfl T.set PB (aq (Mg (bN:=bw JN) (own:=["_law_clock"]) (cap:=[]) (ix:=[]) hh rfl fH (Wo (pV 0)) (λb=>(pH 0 ["_law_clock"])) (λb=>fu) (λb=>(pX dY (pV 0) aM))) aD)) aD)) (bh jy rfl T.len gO (aq (pV 0) aD)) (cX _)))))),?_⟩;refine ⟨_,_,_,_,rfl,ty,kt,?_⟩;cases d with| tup xs =>obtain ⟨c,ws,rfl,hc,l25,rh⟩:=hd.dW;have len:=rh.len;have q:∀ H',aF H H'->Q (.bl (decide (1<=xs.length) && (decide (xs.length<=6) && (xs.all jg && decide (xs.map rF).Nodup)))) H':=q;refine ⟨c,ws,rfl,.inr (aH.of hc),?_⟩;refine fQ (λz=>?_) (λz=>?_);have z1:1<=xs.length:=(by have:=dB z; omega);rw [cg z1,fJ] at q;by_cases z2:xs.length<=6;rw [cg z2,fJ] at q;refine fQ (λw6=>by rw [cg (show (ws.length:Int)<=6 by omega)] at w6; cases w6) (λw6=>?_);refine ⟨c,rfl,⟨_,aH.of hc⟩,λD hD=>KJ <| j9 (xs:=ws) (ys:=(xs.map jg).map V.bl) hD (aH.of hc) (by omega) (by rw [aL,aL]; omega) (λi x H' hx s2 b R hR=>?_) (λH1 s1 e1=>?_)⟩;obtain ⟨y,hy,ya⟩:=rh.get hx;exact ⟨hsh.same s2,x,y,rfl,ya.same s2,λcM s=>hR cM _ (by rw [bL,bL,hy]; rfl) s⟩;refine ⟨hsh.same s1,D,_,rfl,aV.of e1,hsh.same s1,?_⟩;rw [xR];(cases ea:xs.all jg with| false=>rw [ea] at q; exact q H1 s1| true =>rw [ea,fJ] at q;refine ⟨c,rfl,⟨_,aH.of (s1 _ _ hc)⟩,λD2 hD2=>KJ <| j9 (xs:=ws) (ys:=(xs.map rF).map V.str) hD2 (aH.of (s1 _ _ hc)) (by omega) (by rw [aL,aL]; omega) (λi x H3 hx s3 b R hR=>?_) (λH3 s3 e3=>?_)⟩;obtain ⟨y,hy,ya⟩:=rh.get hx;obtain ⟨a1,u2,u3,u4,rfl,g1⟩:=acJ ya (fW.mp ea y (fG hy));refine dI (aH.of ((s1.aA s3) _ _ g1)) (i:=0) (v:=.str (rF y)) (by rfl) ?_;exact hR H3 _ (by rw [bL,bL,hy]; rfl) (aF.refl _);have S3:=s1.aA s3;have ek:((xs.map rF).map (bR:Str->Key)).map kV=(xs.map rF).map V.str:=(by rw [nA]; rfl);refine ⟨hsh.same S3,D2,(xs.map rF).map bR,rfl,aV.of (by rw [ek]; exact e3),by rw [aL,aL]; omega,hsh.same S3,λl1 hl1=>?_⟩;refine gEl hl1 λH4 s4 e4=>?_;refine ⟨l1,_,rfl,e4,?_⟩;refine ⟨c,ws,rfl,.inr (aH.of ((S3.aA s4) _ _ hc)),?_⟩;show Q (.bl (decide (((eZ ((xs.map rF).map bR) ((xs.map rF).map (bR:Str->Key)).length).length:Int)=(ws.length:Int)))) H4;have el:ws.length=(xs.map rF).length:=(by rw [aL]; exact len);rw [el,aku];exact q H4 (S3.aA s4));rw [fP z2] at q;refine fQ (λw=>q H (aF.refl H)) (λw=>?_);exact bO (by rw [fP (show ¬ (ws.length:Int)<=6 by omega)]; rfl) w;have z1:¬ 1<=xs.length:=λw=>z (cg (by omega));rw [fP z1] at q;exact q H (aF.refl H)| _=>exact q H (aF.refl H)
theorem XQ{H:Hp}:∀{vs:List V}{rs:List Row},cH H vs (rs.map iB)->eX (je H) vs rs
 | _,[],h=>by obtain rfl:=h.Im;exact .nil
 | _,r :: rs,h=>by obtain ⟨v,vs',rfl,h1,h2⟩:=h.inv;obtain ⟨a,ws,rfl,ha,_,rr⟩:=h1.dW;obtain ⟨w1,w2,rfl,g1,g2⟩:=rr.two;cases g1 with| str _ _ =>cases g2 with| int _=>exact .cons ⟨a,rfl,ha⟩ (XQ h2)
noncomputable def rT(rs:List Row)(s:Str):Int:=((rs.find? λr=>decide (r.1=s)).map yh).getD 0
theorem Rj:∀(rs:List Row),(rs.map dw).Nodup->iR (rs.map dw) (rT rs)=rs
 | [],_=>rfl
 | r :: rs,nd=>by rw [fM,yW] at nd;have ih:=Rj rs nd.2;have e1:rT (r :: rs) r.1=r.2:=(by unfold rT; simp);have e2:iR (rs.map dw) (rT (r :: rs))=iR (rs.map dw) (rT rs):=(by unfold iR;refine J5 λs hs=>?_;have ne:r.1≠s:=λz=>nd.1 (z ▸ hs);unfold rT;rw [abE (by simpa using ne)]);unfold iR at e2 ih |-;rw [fM,fM,e1,e2,ih]
noncomputable def Lb:Da->Str->Int
 | .tup ds=>rT (ds.map rowOf)
 | _=>λ_=>0
theorem abW(rs:List Row):(rs.map iB).map rowOf=rs:=by induction rs with| nil=>rfl| cons r rs ih=>rw [fM,fM,ih]; rfl
theorem anV{t:V}(hd:bD H t d)(e:vP ss d=true)(nd:ss.Nodup):oH H t (iR ss (Lb d)):=by cases d with| tup ds =>obtain ⟨e1,e2⟩:=cB.mp e;obtain ⟨rs,rfl,_⟩:=Ma e1;have e3:=dB e2;rw [HB] at e3;subst e3;obtain ⟨a,vs,rfl,ha,_,r⟩:=hd.dW;refine ⟨a,vs,rfl,ha,?_⟩;show eX (je H) vs (iR _ (rT ((rs.map iB).map rowOf)));rw [abW,Rj rs nd]; exact XQ r| _=>cases e
noncomputable def X4:Sp:=λvs H Q _=>QX6 λ(x t:V)(hs:List bK)(ls:List gY)(d:Da)(ss:List Str)=>QA7 (vs=[x,t]) (uz H x hs ls) (tK hs) (Bo hs ls) (bD H t d) (Rows hs ss) (∀ H',aF H H'->Q (.bl (vP ss d && sW hs ls (Lb d))) H')
noncomputable def EY(ss:List Str):rZ:=.list (ss.map .str)
theorem adp(ha:H a=some (.lst (ss.map V.str))):Dp K H (.ref a) (EY ss):=by refine .lst (aV.of ha) ?_;clear ha;induction ss with| nil=>exact .nil| cons s ss ih=>exact .cons (.str s) ih
theorem ZS(g:∀ s∈ss,fU s):tZ (EY ss)=true:=by have z:=RM g;unfold tZ zL at z;unfold tZ EY;exact z
theorem ahN(a b:List Str):yt (EY a) (EY b)=decide (a=b):=by unfold EY;simp [yt,Wz]
theorem am6{vs:List V}(p:eX (je H) vs rs):∃ ps:List (au × Key × V),vs=(ps.map λq=>V.ref q.1)/\ps.map (·.2)=(rs.map λr=>((bR r.1:Key),V.int r.2))/\∀ q∈ps,H q.1=some (.tup [kV q.2.1,q.2.2]):=by induction p with| nil=>exact ⟨[],rfl,rfl,λx hx=>by cases hx⟩| @cons v r _ _ h _ ih =>obtain ⟨a,rfl,e⟩:=h;obtain ⟨ms,e1,e2,e3⟩:=ih;refine ⟨(a,bR r.1,.int r.2) :: ms,by rw [fM,e1],by rw [fM,fM,e2],λx hx=>?_⟩;rcases dU.mp hx with z | z;rw [z]; exact e;exact e3 x z
theorem afC:cW ["_law_ledger_here","_law_thing"] ["_law_ledger_here","_law_thing"] (bw O1):=dX
theorem alp(F:eY K "_law_placing_good" O1 f fd)(T:Txt mg t8 t6 tR tL)(Rq:Cl P w K mg base 2 "_law_pairs_good" ["_law_thing"] (gQ Fx))(XF:Cl P w K mg base 2 "_law_rows" ["_law_ledger_here"] Ls)(amd:Cl P w K mg base 2 "_law_keeps" ["_law_ledger_here","_law_instants"] UW):bf P w K mg base bB 3 f fd ["_law_ledger_here","_law_thing"] X4:=by
 refine F.ok afC (λvs H Q E h=>?_) (λcdv A outer s H vs Q E hr h=>?_)
 . obtain ⟨x,t,hs,ls,d,ss,rfl,_⟩:=h;rfl
 . obtain ⟨x,t,hs,ls,d,ss,rfl,hx,gh,gl,hd,qb,q⟩:=h;have dO:=cQ;refine ⟨_,(aP (cP (jP (dg (dD (pC Rq hr (aq (pV 1) aD)))) (pw_or1 (gM (Ym hr.units) (iG (bN:=bw O1) (own:=["_law_one"]) (cap:=[]) (ix:=[]) rfl rfl fH (fY (pV 1)) (λb=>(pH 0 ["_law_one"])) (λb=>fu) (λb=>(pX dY (pV 0) aM))) (pC XF hr (aq (pV 0) aD)) (cX _)))) (aU (bx dG)) cN) (aU (bx (pC amd hr (aq (pV 0) (aq (oO (ajG rfl) rfl T.dict PyProof.Rows.boot_dict (aq (pV 1) aD)) aD)))))),?_⟩;have Z9:ss.Nodup:=qb.1.nodup_iff.mpr gh.rows
   have bad:vP ss d=false->∀ H',aF H H'->Q (.bl false) H':=λe H' s'=>by
     have z:=q H' s';rw [e] at z;exact z
   refine ⟨t,d,rfl,hd,λH1 s1=>?_⟩;cases ep:Fx d with
   | false =>
     refine bad ?_ H1 s1;cases d with
     | tup ds =>
       have ep':ds.all eU=false:=ep;simp only [vP,ep',rY]
     | _=>rfl
   | true =>
     cases d with
     | tup ds =>
       have ep':ds.all eU=true:=ep;obtain ⟨rs,rfl,gr⟩:=Ma ep';obtain ⟨a,vs,rfl,ha,l25,r⟩:=hd.dW;have pr:=XQ r;have lr:=pr.length;refine ⟨a,rfl,⟨_,aH.of (s1 _ _ ha)⟩,λD hD=>j9 (xs:=vs) (ys:=(rs.map dw).map V.str) hD (aH.of (s1 _ _ ha)) (by omega) (by rw [aL,aL]; omega) (λi y H' hy s2 b R hR=>?_) (λH2 s2 e2=>?_)⟩
       . obtain ⟨ro,hro,cr,rfl,hcr⟩:=iK pr hy;refine dI (aH.of ((s1.aA s2) _ _ hcr)) (i:=0) (v:=.str ro.1) (by rfl) ?_;exact hR H' _ (by rw [bL,bL,hro]; rfl) (aF.refl _)
       . have S2:=s1.aA s2;obtain ⟨ca,y,z,rfl,hca,hH,hL⟩:=hx;refine ⟨ca,y,z,hs,rfl,S2 _ _ hca,hH.ts S2.dH,gh.all,by have:=gh.few; omega,λl ss' H3 el s3 pm so=>?_⟩;have ess:ss'=ss:=ada pm qb.1 so qb.2;subst ess;have S3:=S2.aA s3
         refine ⟨_,_,adp (s3 _ _ e2),adp el,ZS (λs hs'=>by
           obtain ⟨ro,hro,rfl⟩:=cZ.mp hs'
           exact gr ro hro),ZS (λs hs'=>V3 gh (qb.1.mem_iff.mp hs')),?_⟩
         rw [ahN];show (if (!decide (rs.map dw=ss'))=true then _ else _);by_cases en:rs.map dw=ss'
         case neg =>
           rw [bI (by simpa using en)];exact bad (by simp only [vP,ep',HB,fJ]; exact fP en) H3 S3
         . rw [aZ (by simpa using en)];subst en
           have ee:vP (rs.map dw) (.tup (rs.map iB))=true:=by
             show ((rs.map iB).all eU && decide ((rs.map iB).map nmD=rs.map dw))=true;rw [ep',HB,cg rfl]; rfl
           have mD:Lb (.tup (rs.map iB))=rT rs:=by show rT ((rs.map iB).map rowOf)=_; rw [abW]
           rw [ee,mD,fJ] at q;obtain ⟨ps,rfl,eps,hps⟩:=am6 pr;refine ⟨a,ps,rfl,S3 _ _ ha,λp hp=>S3 _ _ (hps p hp),λdd hdd=>?_⟩
           have ekv:(rs.map λr=>((bR r.1:Key),V.int r.2))=uZ (rs.map dw) (rT rs):=by
             have z:=Rj rs Z9
             conv=>lhs; rw [<- z]
             unfold iR uZ;rw [nA]; rfl
           have em:um [] (ps.map (·.2))=uZ (rs.map dw) (rT rs):=by
             rw [eps,ekv]
             have z:=T9 (uZ (rs.map dw) (rT rs)) [] (by
               rw [Yj,pU,yC]
               exact (pU.mp Z9).imp λh e=>h (rD e)) (λk _ z=>by cases z)
             simpa using z
           rw [em];refine gEl hdd λH4 s4 e4=>?_
           have S4:=S3.aA s4;refine ⟨.ref ca,dd,hs,ls,rT rs,rfl,⟨ca,y,z,rfl,S4 _ _ hca,hH.ts S4.dH,hL.ts S4.dH⟩,gh,gl,⟨_,.inl e4,λn hn=>X7 (qb.1.mem_iff.mpr hn)⟩,λH5 s5=>?_⟩;exact q H5 (S4.aA s5)
     | _=>cases ep
mutual
noncomputable def wt:Da->Nat
 | .tup xs=>1+lH xs
 | _=>1
noncomputable def lH:List Da->Nat
 | []=>0
 | x :: xs=>wt x+lH xs
end
mutual
noncomputable def dep:Da->Nat
 | .tup xs=>1+deps xs
 | _=>0
noncomputable def deps:List Da->Nat
 | []=>0
 | x :: xs=>max (dep x) (deps xs)
end
mutual
noncomputable def cT(n:Nat):Da->Bool
 | .tup xs=>decide (xs.length<=12+n) && mU n xs
 | .int i=>decide (i.natAbs<=1000000000+1000 * n)
 | .str z=>decide (z.length<=30 * 4 ^ n)
 | _=>true
noncomputable def mU(n:Nat):List Da->Bool
 | []=>true
 | x :: xs=>cT n x && mU n xs
end
mutual
noncomputable def cY:Da->Nat
 | .tup xs=>(if eU (.tup xs)=true then 1 else 0)+rws xs
 | _=>0
noncomputable def rws:List Da->Nat
 | []=>0
 | x :: xs=>cY x+rws xs
end
noncomputable def Al:Da->Bool
 | .tup xs=>xs.all λx=>!mj x
 | _=>true
theorem Fb:∀{xs:List Da}{x:Da},x∈xs->dep x<=deps xs
 | y :: ys,x,h=>by unfold deps;rcases dU.mp h with z | z;rw [z]; exact Nat.le_max_left _ _;exact jF (Fb z) (Nat.le_max_right _ _)
theorem acI{n:Nat}:∀{xs:List Da}{x:Da},mU n xs=true->x∈xs->cT n x=true
 | y :: ys,x,h,m=>by unfold mU at h;obtain ⟨h1,h2⟩:=cB.mp h;rcases dU.mp m with z | z;rw [z]; exact h1;exact acI h2 z
theorem UJ:∀(xs ys:List Da),lH (xs++ys)=lH xs+lH ys
 | [],ys=>by rw [Vy]; unfold lH; omega
 | x :: xs,ys=>by rw [Bu];have ih:=UJ xs ys;show wt x+lH (xs++ys)=(wt x+lH xs)+lH ys;omega
theorem alW{xs:List Da}{i:Nat}{x:Da}(h:xs[i]?=some x):lH (xs.take (i+1))=lH (xs.take i)+wt x:=by rw [fZ,h,UJ];show lH (xs.take i)+(wt x+0)=_;omega
theorem alP(xs:List Da)(i:Nat):lH (xs.take i)<=lH xs:=by have e:=UJ (xs.take i) (xs.drop i);rw [qX] at e;omega
noncomputable def WX(n:Nat):Sp:=λvs H Q _=>rz λ(x:V)(d:Da)=>jJ (vs=[x]) (bD H x d) (dep d<n) (wt d<=100000) (∀(l:au)(us:List V)(ds:List Da)(H':Hp),H' l=some (.lst us)->cH H' us ds->1<=ds.length->ds.length<=wt d->(∀ e∈ds,Al e=true/\∀ n,cT n d=true->cT n e=true)->aF H H'->Q (.ref l) H')
theorem Ji:cW ["_law_thing","_law_found","_law_part"] ["_law_thing"] (bw Om):=dX
theorem adQ{KQ:au}{Rv:jU}(F:eY K "_law_small" Om KQ Rv)(T:Txt mg t8 t6 tR tL)(aek:mg "_law_small" = some (.ref KQ))(aao:nu K (.ref KQ)=true)(abN:cj K Rv ["_law_thing"] []):∀ n,bf P w K mg base bB (n+1) KQ Rv ["_law_thing"] (WX n)
 | 0=>F.ok Ji (λvs H Q E h=>by obtain ⟨_,_,_,_,z,_⟩:=h; omega) (λcdv A outer s H vs Q E hr h=>by obtain ⟨_,_,_,_,z,_⟩:=h; omega)
 | n+1=>by have N8:=adQ F T aek aao abN n;refine F.ok Ji (λvs H Q E h=>?_) (λcdv A outer s H vs Q E hr h=>?_);obtain ⟨x,d,rfl,_⟩:=h;rfl;obtain ⟨x,d,rfl,hd,dp,we,q⟩:=h;have dO:=cQ;obtain ⟨_,⟨T',ty,kt⟩,_⟩:=hd.kind (K:=K);refine ⟨_,(aP (cP (dg (dD (bh kO rfl T.gK gG (aq (pV 0) (aq (jV (v:=.ty "tuple") rfl T.tuple jA rfl) aD))))) (aU (bx (iU (aq (pV 0) aD)))) cN) (aP (pZ 1 Ji (iU aD)) (aP (cP (dg (dD (bh (aa1 rfl) rfl T.any aaF (aq (iG (bN:=bw Om) (own:=["_law_part"]) (cap:=[]) (ix:=[]) rfl rfl fH (fY (pV 0)) (λb=>(pH 0 ["_law_part"])) (λb=>fu) (λb=>(bh kO rfl T.gK gG (aq (pV 0) (aq (jV (v:=.ty "tuple") rfl T.tuple jA rfl) aD))))) aD)))) (aU (Cw (Az CV Hu J7 Ba (pV 1) (aq (pV 0) aD)))) cN) (aP (lG lA rfl (fY (pV 0)) (pY 2 Ji) (aU (pZ 1 Ji (bJ yJ (pV 1) (zK N8 hr rfl aek aao abN .nil yj (aq (pV 2) aD)))))) (aU (bx (pV 1))))))),?_⟩;refine ⟨_,_,_,_,rfl,ty,kt,?_⟩;show (if (!mj d)=true then _ else _);cases d with| tup xs =>rw [aZ (by simp [mj])];refine zW ?_;dsimp only;obtain ⟨a,vs,rfl,ha,l25,r⟩:=hd.dW;have len:=r.len;have wx:wt (.tup xs)=1+lH xs:=(by simp only [wt]);have dx:dep (.tup xs)=1+deps xs:=(by simp only [dep]);have smx:∀ n,cT n (.tup xs)=true->mU n xs=true:=λn h=>(by simp only [cT] at h;exact (cB.mp h).2);refine gV λU1 yV=>?_;refine ⟨dR _,λF0 hF0=>?_⟩;show U1 _ _;subst yV;refine gEl hF0 λH1 s1 e1=>?_;refine J1 (fun bA H'=>rz λ(us0:List V)(ds0:List Da)=>QA7 (bA=[bY a,bY F0,zzN]) (H' F0=some (.lst us0)) (cH H' us0 ds0) (ds0.length<=1) ((ds0=[]->1<=xs.length)) ((∀ e∈ds0,e=.tup xs/\Al (.tup xs)=true)) (aF H H')) (λU hU=>?_) (fun bA H3 hN=>?_);refine ⟨a,rfl,⟨_,aH.of (s1 _ _ ha)⟩,λD hD=>j9 (xs:=vs) (ys:=(xs.map mj).map V.bl) hD (aH.of (s1 _ _ ha)) (by omega) (by rw [aL,aL]; omega) (λi y H' hy s2 b R hR=>?_) (λH2 s2 e2=>?_)⟩;obtain ⟨dy,hdy,ya⟩:=r.get hy;obtain ⟨_,⟨T2,ty2,kt2⟩,_⟩:=(ya.same (s1.aA s2)).kind (K:=K);refine ⟨_,_,_,_,rfl,ty2,kt2,?_⟩;exact hR H' _ (by rw [bL,bL,hdy]; rfl) (aF.refl _);refine ⟨D,xs.map mj,rfl,aV.of e2,?_⟩;show (if (!(xs.map mj).any id)=true then _ else _);have S2:=s1.aA s2;(cases ea:(xs.map mj).any id with| true =>refine hU _ _ ⟨[],[],rfl,s2 _ _ e1,.nil,dR _,λ_=>?_,(λe he=>by cases he),S2⟩;(cases xs with| nil=>cases ea| cons _ _=>exact Wj (dR _))| false =>refine ⟨.inl ⟨rfl,_,aV.of (s2 _ _ e1)⟩,?_⟩;refine ⟨F0,[],.ref a,rfl,rfl,s2 _ _ e1,by show 0<aO; omega,?_⟩;have S3:aF H (upd H2 F0 (.lst ([]++[.ref a]))):=λb o e=>(by rw [aW (dN e hF0)]; exact S2 _ _ e);refine hU _ _ ⟨[.ref a],[.tup xs],rfl,aX,.cons (hd.same S3) .nil,bG _,(λz=>by cases z),λe he=>?_,S3⟩;refine ⟨lg.mp he,?_⟩;show (xs.all λx=>!mj x)=true;rw [Qp] at ea;rw [List.all_eq_not_any_not];simpa using ea);obtain ⟨us0,ds0,rfl,eF,da0,l0,n0,g0,S3⟩:=hN;refine ⟨a,rfl,⟨_,aH.of (S3 _ _ ha)⟩,rU (xs:=vs) (λi aj H'=>qN λ(F1:au)(us:List V)(ds:List Da)(o2:Option V)=>QA7 (aj=[bY a,bY F1,o2]) (H' F1=some (.lst us)) (cH H' us ds) (ds.length<=1+lH (xs.take i)) ((ds=[]->i=0/\1<=xs.length)) ((∀ e∈ds,Al e=true/\∀ n,cT n (.tup xs)=true->cT n e=true)) (aF H H')) ⟨F0,us0,ds0,none,rfl,eF,da0,by omega,λz=>⟨rfl,n0 z⟩,λe he=>⟨(g0 e he).1 ▸ (g0 e he).2,λn h=>(g0 e he).1 ▸ h⟩,S3⟩ (λi aj H' _ hz=>by obtain ⟨_,_,_,_,_,_,_,_,_,_,s'⟩:=hz; exact aH.of (s' _ _ ha)) (λi y aj H4 hy hz=>?_) (fun aj H4 hz=>?_)⟩;obtain ⟨F1,us,ds,o2,rfl,eF1,da,ld,nd,gd,S4⟩:=hz;obtain ⟨dy,hdy,ya⟩:=r.get hy;have mem:=fG hdy;have dd:=Fb mem;have wl:=alP xs (i+1);have we2:=alW hdy;refine ⟨y,dy,rfl,ya.same S4,by omega,by omega,λl qy ds2 H5 el da2 l1 l2 gd2 s5=>?_⟩;have lu:=da.len;have lu2:=da2.len;refine ⟨F1,l,us,qy,rfl,rfl,s5 _ _ eF1,el,by omega,λp hp=>?_⟩;have s6:aF H5 (upd H5 p (.lst (us++qy))):=(aF.refl H5).upd hp;refine ⟨p,us++qy,ds++ds2,some y,rfl,aX,(da.same (s5.aA s6)).app (da2.same s6),by rw [dZ]; omega,λz=>?_,λe he=>?_,(S4.aA s5).aA s6⟩;have z2:=(List.append_eq_nil_iff.mp z).2;rw [z2] at l1;exact bO l1 (by decide);rcases iC.mp he with z | z;exact gd e z;exact ⟨(gd2 e z).1,λn h=>(gd2 e z).2 n (acI (smx n h) mem)⟩;obtain ⟨F1,us,ds,o2,rfl,eF1,da,ld,nd,gd,S4⟩:=hz;rw [len,lW] at ld;refine q F1 us ds H4 eF1 da ?_ (by omega) gd S4;(cases ds with| nil=>have:=nd rfl; omega| cons _ _=>exact Wj (dR _))| _ =>rw [bI (by rfl)];refine ⟨by show 1<=aO; omega,λp hp=>?_⟩;refine q p [x] [_] _ aX (.cons (hd.same ((aF.refl H).upd hp)) .nil) (bG _) (by simp only [wt,iz,rR]; omega) (λe he=>?_) ((aF.refl H).upd hp);rw [lg.mp he];exact ⟨rfl,λn h=>h⟩
end VL
namespace VL
open PySem L2 vQ
variable{P:gk}{w:fK}{K:bV}{mg:Str->Option aB}{base:aY}{t8 t6 tR tL t9:Tok}{C NW:au}{c:Nat->au}
theorem aaI{n:Nat}:∀{xs:List Da},mU n xs=true↔∀ x∈xs,cT n x=true
 | []=>⟨(λ_ x hx=>by cases hx),(λ_=>by simp only [mU])⟩
 | y :: ys=>by rw [show mU n (y :: ys)=(cT n y && mU n ys) by simp only [mU],cB,aaI];exact ⟨λh x hx=>by rcases dU.mp hx with z | z;rw [z]; exact h.1;exact h.2 x z,λh=>⟨h y gU,λx hx=>h x (iM _ hx)⟩⟩
variable{n:Nat}
theorem mG{xs:List Da}:cT n (.tup xs)=true↔xs.length<=12+n/\∀ x∈xs,cT n x=true:=by rw [show cT n (.tup xs)=(decide (xs.length<=12+n) && mU n xs) by simp only [cT],cB,decide_eq_true_iff,aaI]
mutual
theorem Eb{n:Nat}:∀{d:Da},cT n d=true->cT (n+1) d=true
 | .tup xs,h=>by have h':(decide (xs.length<=12+n) && mU n xs)=true:=(by simpa only [cT] using h);obtain ⟨h1,h2⟩:=cB.mp h';have h1':=dB h1;rw [show cT (n+1) (.tup xs)=(decide (xs.length<=12+(n+1)) && mU (n+1) xs) by simp only [cT]];exact cB.mpr ⟨cg (by omega),aa3 h2⟩
 | .int i,h=>by simp only [cT,decide_eq_true_iff] at h |-;omega
 | .str z,h=>by simp only [cT,decide_eq_true_iff] at h |-;have e:4 ^ (n+1)=4 ^ n * 4:=Nat.pow_succ 4 n;omega
 | .non,_=>by simp only [cT]
 | .bl _,_=>by simp only [cT]
 | .oth,_=>by simp only [cT]
theorem aa3{n:Nat}:∀{xs:List Da},mU n xs=true->mU (n+1) xs=true
 | [],_=>by simp only [mU]
 | x :: xs,h=>by have h':(cT n x && mU n xs)=true:=(by simpa only [mU] using h);obtain ⟨h1,h2⟩:=cB.mp h';rw [show mU (n+1) (x :: xs)=(cT (n+1) x && mU (n+1) xs) by simp only [mU]];exact cB.mpr ⟨Eb h1,aa3 h2⟩
end
theorem wj:∀(xs ys:List Da),rws (xs++ys)=rws xs+rws ys
 | [],ys=>by rw [Vy]; simp only [rws]; omega
 | x :: xs,ys=>by have ih:=wj xs ys;rw [Bu];simp only [rws];omega
theorem NP(xs:List Da)(i:Nat):rws (xs.take i)+rws (xs.drop i)=rws xs:=by rw [<- wj,qX]
theorem UL:∀(xs:List Da),rws xs.reverse=rws xs
 | []=>rfl
 | x :: xs=>by rw [JW,wj,UL xs];simp only [rws];omega
theorem rw_le(xs:List Da):cY (.tup xs)<=1+rws xs:=by rw [show cY (.tup xs)=(if eU (.tup xs)=true then 1 else 0)+rws xs by simp only [cY]];split <;> omega
theorem rw_ge(xs:List Da):rws xs<=cY (.tup xs):=by rw [show cY (.tup xs)=(if eU (.tup xs)=true then 1 else 0)+rws xs by simp only [cY]];omega
variable{d:Da}
theorem rw_flat(h:mj d=false):cY d=0:=by cases d with| tup xs=>cases h| _=>simp only [cY]
theorem rw_piece(h:Al d=true):cY d<=1:=by cases d with| tup xs =>have e:rws xs=0:=(by have h':(xs.all λx=>!mj x)=true:=h;clear h;induction xs with| nil=>simp only [rws]| cons x xs ih =>rw [pP] at h';obtain ⟨h1,h2⟩:=cB.mp h';rw [show rws (x :: xs)=cY x+rws xs by simp only [rws],ih h2,rw_flat (by simpa using h1)]);have:=rw_le xs;omega| _=>rw [rw_flat rfl]; exact dR _
theorem rw_run:∀{xs:List Da},xs.all eU=true->xs.length<=rws xs
 | [],_=>dR _
 | x :: xs,h=>by rw [pP] at h;obtain ⟨h1,h2⟩:=cB.mp h;have ih:=rw_run h2;rw [show rws (x :: xs)=cY x+rws xs by simp only [rws],iz];cases x with| tup ys =>rw [show cY (.tup ys)=(if eU (.tup ys)=true then 1 else 0)+rws ys by simp only [cY],bI h1];omega| _=>cases h1
theorem afT(h:nU d=true):(runOf d).length<=cY d:=by cases d with| tup xs =>have h':(!xs.isEmpty && (xs.all eU && sJ (xs.map λx=>intD (uT x))))=true:=h;have h1:=(cB.mp (cB.mp h').2).1;have a:=rw_run h1;have b:=rw_ge xs;show (xs.map rowOf).length<=_;rw [aL];omega| _=>cases h
theorem aeF:∀{rs:List Da},rs.all nU=true->(rs.map runOf).flatten.length<=rws rs
 | [],_=>dR _
 | r :: rs,h=>by rw [pP] at h;obtain ⟨h1,h2⟩:=cB.mp h;have a:=afT h1;have b:=aeF h2;rw [show rws (r :: rs)=cY r+rws rs by simp only [rws],fM,JD,dZ];omega
theorem anA(h:jl d=true):(cV (fX d)).length<=cY d:=by unfold jl at h;split at h;rename_i n l hh dd r;obtain ⟨h1,h2⟩:=cB.mp h;obtain ⟨c1,c2⟩:=cB.mp h1;obtain ⟨c2,_⟩:=cB.mp c2;obtain ⟨w1,c2⟩:=cB.mp c2;obtain ⟨w2,w3⟩:=cB.mp c2;(cases n with| str z =>(cases l with| int i1 =>(cases hh with| int i2 =>(cases dd with| int i3 =>(cases r with| tup rs =>have a:=aeF (rs:=rs) h2;have b:=rw_ge [.str z,.int i1,.int i2,.int i3,.tup rs];have c:=rw_ge rs;have e:rws [.str z,.int i1,.int i2,.int i3,.tup rs]=cY (.tup rs):=(by simp only [rws,cY]; omega);show ((rs.map runOf).flatten.map dw).length<=_;rw [aL];omega| _=>cases h2)| _=>cases w3)| _=>cases w2)| _=>cases w1)| _=>cases c1);cases h
theorem adP:∀{xs:List Da},xs.all jl=true->(cG (xs.map fX)).length<=rws xs
 | [],_=>dR _
 | x :: xs,h=>by rw [pP] at h;obtain ⟨h1,h2⟩:=cB.mp h;have a:=anA h1;have b:=adP h2;have e:cG ((x :: xs).map fX)=cV (fX x)++cG (xs.map fX):=(by unfold cG; rw [fM,Bq]);rw [show rws (x :: xs)=cY x+rws xs by simp only [rws],e,dZ];omega
theorem amV(h:cY d<64):Yl d:=λxs l e ea=>by
 subst e;have a:=adP ea;have b:=rw_ge xs;have c:=rw_ge [.tup xs,l];have e2:rws [.tup xs,l]=cY (.tup xs)+cY l:=by simp only [rws]; omega
 omega
end VL
namespace VL
open PySem L2 vQ
variable{P:gk}{w:fK}{K:bV}{mg:Str->Option aB}{base:aY}{t8 t6 tR tL t9:Tok}{C NW:au}{c:Nat->au}
structure TL(te:TE)(aj:St)(H:Hp)(ds:List Da):Prop where
 r:∀ H1,aF H H1->∀ Q:VK,(∀(l:au)(us:List V)(H2:Hp),aF H1 H2->H2 l=some (.lst us)->cH H2 us ds->Q (.ref l) H2)->te aj H1 Q
variable{aj:St}{H:Hp}{ds:List Da}
theorem El{ts:TA}(h:Ah ts aj H ds)(few:ds.length<=25):TL (DX ts) aj H ds:=⟨λH1 s Q q=>h.r H1 s _ λvs H2 s2 da=>by
 have dO:=cQ;have l:=da.len;refine ⟨by omega,λp hp=>?_⟩;have s3:=(aF.refl H2).upd (o:=.lst vs) hp
 exact q p vs _ (s2.aA s3) aX (da.same s3)⟩
theorem Qk{k:Nat}{l:au}{us:List V}(e:aj[k]?=some (some (.ref l)))(hl:H l=some (.lst us))(h:cH H us ds):TL (tV k) aj H ds:=⟨λH1 s Q q=>by
 unfold tV;rw [e]
 exact q l us H1 (aF.refl _) (s _ _ hl) (h.same s)⟩
variable{ta tb:TE}
theorem Rc{es:List Da}(ha:TL ta aj H ds)(hb:TL tb aj H es)(few:ds.length+es.length<=1000):TL (rQ Ze ta tb) aj H (ds++es):=⟨λH1 s Q q=>ha.r H1 s _ λl us H2 s2 el da=>hb.r H2 (s.aA s2) _ λl2 qy H3 s3 el2 da2=>by
 have dO:=cQ;have l1:=da.len;have l2':=da2.len;refine ⟨l,l2,us,qy,rfl,rfl,s3 _ _ el,el2,by omega,λp hp=>?_⟩;have s4:=(aF.refl H3).upd (o:=.lst (us++qy)) hp
 exact q p _ _ ((s2.aA s3).aA s4) aX ((da.same (s3.aA s4)).app (da2.same s4))⟩
variable{m:Nat}{te:TE}{d:Da}
theorem Pa{k:Nat}(h:TL te aj H ds)(e:aj[k]?=some (some (.int (m:Int))))(hd:ds[m]?=some d):TD (rQ (IxA K) te (tV k)) aj H d:=⟨λH1 s Q q=>h.r H1 s _ λl us H2 s2 el da=>by
 unfold tV;rw [e];have lt:m<us.length:=by rw [da.len]; exact (jC.mp hd).1
 have hu:us[m]?=some us[m]:=gD lt;obtain ⟨y,hy,ya⟩:=da.get hu;rw [hd] at hy;cases hy
 exact qt el (oW hu) (q _ H2 s2 ya)⟩
variable{i j:Int}
theorem adY{a b:Int}(c:FZ a b):TD (rQ (tU FZ λi j=>.int (i ^ j.toNat)) (tC (.int a)) (tC (.int b))) aj H (.int (a ^ b.toNat)):=⟨λH1 _ _ q=>⟨c,q _ H1 (aF.refl _) (.int _)⟩⟩
theorem amS(ha:TD ta aj H (.int i))(hb:TD tb aj H (.int j)):TD (rQ (fI λi j=>.bl (decide (j<i))) ta tb) aj H (.bl (decide (j<i))):=⟨λH1 s Q q =>
 ha.r H1 s _ λv H2 s2 hv=>hb.r H2 (s.aA s2) _ λv' H3 s3 hv'=>by
   cases hv;cases hv'
   exact q _ H3 (s2.aA s3) (.bl _)⟩
variable{y z:Str}
theorem Eo(ha:TD ta aj H (.str y))(hb:TD tb aj H (.str z))(few:y.length+z.length<=1000):TD (rQ abv ta tb) aj H (.str (y++z)):=⟨λH1 s Q q =>
 ha.r H1 s _ λv H2 s2 hv=>hb.r H2 (s.aA s2) _ λv' H3 s3 hv'=>by
   have dO:=cQ;cases hv;cases hv';have e:(y++z).length=y.length+z.length:=Gp y z
   exact ⟨by omega,q _ H3 (s2.aA s3) (.str _ (by omega))⟩⟩
variable{tl th:TO}{lo hi:Option Int}
theorem Ga(h:TD te aj H (.str z))(hl:yr tl aj H lo)(hh:yr th aj H hi)(hz:z.length<=1000)(hs:(lX z lo hi).length<=z.length):TD (tSl SlS te tl th) aj H (.str (lX z lo hi)):=⟨λH1 s Q q =>
 h.r H1 s _ λv H2 s2 hv=>hl.r H2 (s.aA s2) _ λH3 s3=>hh.r H3 ((s.aA s2).aA s3) _ λH4 s4=>by
   have dO:=cQ;cases hv
   exact JF (by omega) (q _ H4 ((s2.aA s3).aA s4) (.str _ (by omega)))⟩
theorem amD(h:TD te aj H (.int i))(b:i.natAbs.log2<1920)(few:(toString i:Str).length<=1000):TD (tCB (λxs H Q=>(∃ i,xs=[.int i]/\i.natAbs.log2<1920/\Q (.str (toString i)) H)\/∃ z,xs=[.str z]/\Q (.str z) H) (JM te GR)) aj H (.str (toString i)):=⟨λH1 s Q q =>
 h.r H1 s _ λv H2 s2 hv=>by
   have dO:=cQ;cases hv
   exact .inl ⟨i,rfl,b,q _ H2 s2 (.str _ (by omega))⟩⟩
theorem aps(h:TD te aj H (.str z))(few:z.length<=1000):TD (YC K "str" (λx xs H Q=>∃ z,x=.str z/\xs=[]/\z.length<=5592405/\Q (.str (Mz z)) H) te) aj H (.str (Mz z)):=⟨λH1 s Q q =>
 h.r H1 s _ λv H2 s2 hv=>by
   have dO:=cQ;have lu:=Zz z;cases hv
   exact ⟨rfl,z,rfl,rfl,by omega,q _ H2 s2 (.str _ (by omega))⟩⟩
theorem qg{p:au}{H':Hp}(h:iH H p)(h':iH H' p)(sb:dF p H H'):Kp H H':=by obtain ⟨n,e,_⟩:=h;obtain ⟨n',e',_⟩:=h';refine ⟨λa xs ea=>?_,λa xs ea=>?_,λa xs ea=>?_⟩;by_cases z:a=p;rw [z,e] at ea; cases ea;exact sb _ _ z ea;by_cases z:a=p;rw [z]; exact ⟨_,e'⟩;exact ⟨_,sb _ _ z ea⟩;by_cases z:a=p;rw [z,e] at ea; cases ea;exact ⟨_,sb _ _ z ea⟩
noncomputable def Ys:List Da:=[.non,.bl true,.bl false,.int 0,.int 1,.int (-1),.int 100000000,.str "",.str "a",.str "zz",.tup [],.oth,.oth,.str "None"]
variable{n:Nat}
theorem oY(h:i.natAbs<=1000000000):cT n (.int i)=true:=by simp only [cT,decide_eq_true_iff]; omega
theorem wN(h:z.length<=30):cT n (.str z)=true:=by simp only [cT,decide_eq_true_iff];have:=Nat.one_le_two_pow (n:=n);have e:1<=4 ^ n:=Nat.one_le_pow _ _ (by decide);omega
theorem akI(n:Nat):Ys.all (λe=>cT (n+1) e && decide (cY e<=1/\dep e<=1))=true:=by unfold Ys;simp only [pP,Us,DR,cY,rws,dep,deps,pF];refine ⟨⟨by simp only [cT],by decide⟩,⟨by simp only [cT],by decide⟩,⟨by simp only [cT],by decide⟩,⟨oY (by decide),by decide⟩,⟨oY (by decide),by decide⟩,⟨oY (by decide),by decide⟩,⟨oY (by decide),by decide⟩,⟨wN (by decide +kernel),by decide⟩,⟨wN (by decide +kernel),by decide⟩,⟨wN (by decide +kernel),by decide⟩,⟨mG.mpr ⟨dR _,λx hx=>by cases hx⟩,by decide⟩,⟨by simp only [cT],by decide⟩,⟨by simp only [cT],by decide⟩,⟨wN (by decide +kernel),by decide⟩⟩
theorem yE{b:Nat}:∀{xs:List Da},(∀ x∈xs,dep x<=b)->deps xs<=b
 | [],_=>by simp only [deps]; omega
 | x :: xs,h=>by have a:=h x gU;have c:=yE (xs:=xs) λy hy=>h y (iM _ hy);simp only [deps];omega
theorem vd(xs:List Da):dep (.tup xs)=1+deps xs:=by simp only [dep]
theorem JX(h:mj d=false):dep d=0:=by cases d with| tup xs=>cases h| _=>simp only [dep]
theorem ahe(h:Al d=true):dep d<=1:=by cases d with| tup xs =>have h':(xs.all λx=>!mj x)=true:=h;have a:deps xs<=0:=yE λx hx=>(by have z:=fW.mp h' x hx;rw [JX (by simpa using z)];exact bG _);rw [vd];omega| _=>rw [JX rfl]; exact dR _
structure uJ(n:Nat)(d e:Da):Prop where
 sm:cT (n+1) e=true
 rw:cY e<=2 * cY d+1
 dp:dep e<=dep d+1
variable{v:V}
theorem Sv{G:Hp}(h:bD H v (.str z)):bD G v (.str z):=by cases h; exact .str z (by assumption)
noncomputable def abX:Da->Bool
 | .str _=>true
 | _=>false
theorem kindS(h:bD H v d):∃ T,jX K H v (.type T)/\ju K (.type T) (.type "tuple")=some (mj d)/\ju K (.type T) (.type "str")=some (abX d):=by cases h with| non=>exact ⟨_,.non,rfl,rfl⟩| bl b=>exact ⟨_,.bl b,rfl,rfl⟩| int i=>exact ⟨_,.int i,rfl,rfl⟩| str z hz=>exact ⟨_,.str z,rfl,rfl⟩| tup e l r=>exact ⟨_,.tup e,rfl,rfl⟩| lst e=>exact ⟨_,.lst e,rfl,rfl⟩| uh e=>exact ⟨_,.dK e,rfl,rfl⟩
variable{xs:List Da}
theorem aeg{a c:Nat}(h:TD te aj H (.tup xs))(hl:yr tl aj H (some (a:Int)))(hh:yr th aj H (some ((a+c:Nat):Int))):TD (tSl SlA te tl th) aj H (.tup ((xs.drop a).take c)):=by have z:=Wn h hl hh;rw [HT.uf,HT.uf] at z;have e:(xs.drop (min a xs.length)).take (min (a+c) xs.length-min a xs.length)=(xs.drop a).take c:=(by by_cases hk:a<=xs.length;rw [vI hk];rcases Nat.le_total (a+c) xs.length with h | h;rw [vI h,Nat.add_sub_cancel_left];rw [Nat.min_eq_right h,lF (by rw [jR]; exact bG _),lF (by rw [jR]; exact Nat.sub_le_iff_le_add'.mpr h)];rw [Gg (by omega),Gg (by omega),List.take_nil,List.take_nil]);rw [e] at z;exact z
theorem acn(d:Da):uJ n d (.tup []):=by refine ⟨mG.mpr ⟨dR _,λx hx=>by cases hx⟩,by have:=rw_le []; simp only [rws] at this; omega,by rw [vd]; simp only [deps]; omega⟩
variable{ys:List Da}
theorem Jt(sm:cT n (.tup xs)=true)(hl:ys.length<=xs.length+1)(hm:∀ y∈ys,y∈xs\/y=.non)(hr:rws ys<=2 * rws xs):uJ n (.tup xs) (.tup ys):=by obtain ⟨a,b⟩:=mG.mp sm;refine ⟨mG.mpr ⟨by omega,λy hy=>?_⟩,?_,?_⟩;rcases hm y hy with z | z;exact Eb (b y z);rw [z]; simp only [cT];have:=rw_le ys;have:=rw_ge xs;omega;have a:deps ys<=deps xs:=yE λy hy=>(by rcases hm y hy with z | z;exact Fb z;rw [z,JX rfl]; exact dR _);rw [vd,vd];omega
noncomputable def QB(xs:List Da)(j:Nat):List Da:=[.oth,.tup (xs.take j++xs.drop (j+1)),.tup (xs.take j++(xs.drop j).take 1++xs.drop j),.tup (xs.take j++((xs.drop j).take 2).reverse++xs.drop (j+2)),.tup xs.reverse,.tup (xs++[.non]),.tup [.tup xs],.tup []]
theorem ahK(sm:cT n (.tup xs)=true)(j:Nat):∀ e∈QB xs j,uJ n (.tup xs) e:=by have c0:=NP xs j;have c1:=NP (xs.drop j) 1;have c2:=NP (xs.drop j) 2;rw [List.drop_drop] at c1 c2;have mt:∀{y:Da}{k:Nat},y∈xs.take k->y∈xs:=λh=>xW h;have md:∀{y:Da}{k:Nat},y∈xs.drop k->y∈xs:=λh=>K5 h;intro e he;unfold QB at he;simp only [dU,lC,or_false] at he;rcases he with rfl | rfl | rfl | rfl | rfl | rfl | rfl | rfl;exact ⟨by simp only [cT],by simp only [cY]; omega,by simp only [dep]; omega⟩;refine Jt sm (by simp only [dZ,gR,jR]; omega) (λy hy=>?_) (by rw [wj]; omega);rcases iC.mp hy with z | z;exact .inl (mt z);exact .inl (md z);refine Jt sm (by simp only [dZ,gR,jR]; omega) (λy hy=>?_) (by rw [wj,wj]; omega);rcases iC.mp hy with z | z;rcases iC.mp z with z | z;exact .inl (mt z);exact .inl (md (xW z));exact .inl (md z);refine Jt sm (by simp only [dZ,DQ,gR,jR]; omega) (λy hy=>?_) (by rw [wj,wj,UL]; omega);rcases iC.mp hy with z | z;rcases iC.mp z with z | z;exact .inl (mt z);exact .inl (md (xW (List.mem_reverse.mp z)));exact .inl (md z);exact Jt sm (by rw [DQ]; omega) (λy hy=>.inl (List.mem_reverse.mp hy)) (by rw [UL]; omega);refine Jt sm (by rw [dZ]; simp) (λy hy=>?_) (by rw [wj]; simp only [rws,cY]; omega);rcases iC.mp hy with z | z;exact .inl z;exact .inr (lg.mp z);refine ⟨mG.mpr ⟨by simp only [iz,rR]; omega,λy hy=>?_⟩,?_,?_⟩;rw [lg.mp hy]; exact Eb sm;have:=rw_le [.tup xs];have e:rws [.tup xs]=cY (.tup xs):=(by simp only [rws]; omega);omega;have e:deps [.tup xs]=dep (.tup xs):=(by simp only [deps]; omega);rw [vd,e];omega;exact acn _
theorem afy{j:Nat}(h:xs.length<=14):(xs.take j).length+((xs.drop j).take 1).length<=25/\(xs.take j++(xs.drop j).take 1).length+(xs.drop j).length<=25/\(xs.take j).length+(xs.drop (j+1)).length<=25/\(xs.take j).length+((xs.drop j).take 2).reverse.length<=25/\(xs.take j++((xs.drop j).take 2).reverse).length+(xs.drop (j+2)).length<=25/\xs.length+[Da.non].length<=25:=by have a:(xs.take j).length<=xs.length:=Vd ..;have b:∀ i,(xs.drop i).length<=xs.length:=λi=>(by rw [jR]; exact Nat.sub_le _ _);have c:∀ i,((xs.drop j).take i).length<=i:=λi=>List.length_take_le ..;have d:xs.length+2+xs.length<=30:=(by omega);have e:(xs.take j).length+(xs.drop j).length=xs.length:=(by rw [<- dZ,qX]);have b1:(xs.drop (j+1)).length<=(xs.drop j).length:=(by rw [jR,jR]; omega);have b2:(xs.drop (j+2)).length<=(xs.drop j).length:=(by rw [jR,jR]; omega);have c1:=c 1;have c2:=c 2;clear b c;rw [dZ,dZ,DQ,Qx];exact ⟨by omega,by omega,by omega,by omega,by omega,by omega⟩
theorem Yw{a c:Str}{s:Nat}(ha:a.length<=z.length)(hc:c.length<=z.length)(hz:z.length<=480):a.length+(⟨#[s]⟩:Str).length<=1000/\(a++⟨#[s]⟩:Str).length+c.length<=1000/\(a++⟨#[s]⟩++c:Str).length<=3 * z.length+9/\a.length+c.length<=1000/\(a++c:Str).length<=3 * z.length+9:=by have e:(⟨#[s]⟩:Str).length=1:=rfl;rw [Gp,Gp,Gp,Gp,e];exact ⟨by omega,by omega,by omega,by omega,by omega⟩
theorem Ho(h:cT n (.str z)=true)(l:y.length<=3 * z.length+9)(d:Da):uJ n d (.str y):=by simp only [cT,decide_eq_true_iff] at h;have e:4 ^ (n+1)=4 ^ n * 4:=Nat.pow_succ 4 n;have e1:1<=4 ^ n:=Nat.one_le_pow _ _ (by decide);exact ⟨by simp only [cT,decide_eq_true_iff]; omega,by simp only [cY]; omega,by simp only [dep]; omega⟩
theorem Pq(h:cT n (.int i)=true)(l:j.natAbs<=i.natAbs+100)(d:Da):uJ n d (.int j):=by simp only [cT,decide_eq_true_iff] at h;exact ⟨by simp only [cT,decide_eq_true_iff]; omega,by simp only [cY]; omega,by simp only [dep]; omega⟩
variable{e:Da}
theorem Yv(h:cT n e=true)(f:mj e=false)(d:Da):uJ n d (.tup [e]):=by refine ⟨mG.mpr ⟨by simp only [iz,rR]; omega,λy hy=>?_⟩,?_,?_⟩;rw [lg.mp hy]; exact Eb h;have a:=rw_le [e];have b:rws [e]=cY e:=(by simp only [rws]; omega);have c:=rw_flat f;omega;have c:=JX f;have b:deps [e]=dep e:=(by simp only [deps]; omega);rw [vd,b];omega
theorem uE(h:cT (n+1) e=true)(f:mj e=false)(d:Da):uJ n d e:=⟨h,by rw [rw_flat f]; exact dR _,by rw [JX f]; exact dR _⟩
theorem aiA{k:Nat}(k0:0<k)(h:i.natAbs<10 ^ k):(toString i:Str).length<=k+1:=by rw [PyProof.Rows.ofString_len];cases i with| ofNat n =>have e:toString (Int.ofNat n)=n.repr:=rfl;rw [e];have:=(adK (n:=n) k0).mpr h;omega| negSucc n =>have e:toString (Int.negSucc n) = "-"++(n+1).repr:=rfl;rw [e,String.length_append];have h':n+1<10 ^ k:=h;have:=(adK (n:=n+1) k0).mpr h';have e1 : "-".length=1:=(by decide);omega
theorem lg2(h:i.natAbs<=2000000000):i.natAbs.log2<1920:=by by_cases z:i.natAbs=0;rw [z]; decide;have a:i.natAbs.log2<31:=(Nat.log2_lt z).mpr (Z7 h (by decide));omega
theorem Mv(l:ds.length=8)(h:m<8):∃ e,ds[m]?=some e:=⟨ds[m],gD (by omega)⟩
noncomputable def Ez(n:Nat):Sp:=λvs H Q _=>QX6 λ(p l:au)(x:V)(d:Da)(us:List V)(ds:List Da)=>adu (vs=[.ref p,x,.ref l]) (iH H p) (bD H x d) (cT n d=true) (H l=some (.lst us)) (cH H us ds) (l≠p) (1<=ds.length) (ds.length<=1000000) ((∀ e∈ds,Al e=true/\cT n e=true)) (n<=2) (∀(y:V)(e:Da)(H':Hp),bD H' y e->uJ n d e->iH H' p->dF p H H'->Q y H')
theorem uL:cW ["_law_pack_here","_law_thing","_law_some","_law_odd","_law_k","_law_j","_law_twice","_law_without","_law_turned","_law_more","_law_at","_law_sign"] ["_law_pack_here","_law_thing","_law_some"] (bw Wd):=dX
variable{f:au}{fd:jU}
theorem acF(n:Nat)(F:eY K "_law_other" Wd f fd)(T:Txt mg t8 t6 tR tL)(gP:Cl P w K mg base 1 "_law_take" ["_law_pack_here","_law_size"] zO)(wZ:Cl P w K mg base 1 "_law_whole" ["_law_thing"] (tY K)):bf P w K mg base bB 2 f fd ["_law_pack_here","_law_thing","_law_some"] (Ez n):=by refine F.ok uL (λvs H Q E h=>?_) (λcdv A outer s H vs Q E hr h=>?_);obtain ⟨p,l,x,d,us,ds,rfl,_⟩:=h;rfl;obtain ⟨p,l,x,d,us,ds,rfl,hp,hd,sm,hl,da,qW,l1,l2,gd,n5,q⟩:=h;have dO:=cQ;refine ⟨_,(aP (pZ 3 uL (iU (aq yI (aq dG (aq dG (aq aM (aq aM (aq (NZ K4 aM) (aq (bJ Ve aM aM) (aq qC (aq qC (aq qC (aq (kY aD) (aq (iU aD) (aq yK (aq qC aD)))))))))))))))) (aP (cP (gM oEq (pC gP hr (aq (pV 0) (aq aM aD))) aM (cX _)) (aU (bx (vq mY (pV 2) (pC gP hr (aq (pV 0) (aq (bh jy rfl T.len gO (aq (pV 2) aD)) aD))) (λ_ _=>rfl)))) cN) (aP (cP (gM oEq (pC gP hr (aq (pV 0) (aq aM aD))) aM (cX _)) (aU (bx (vq mY (pV 3) (pC gP hr (aq (pV 0) (aq (bh jy rfl T.len gO (aq (pV 3) aD)) aD))) (λ_ _=>rfl)))) cN) (aP (pZ 4 uL (pC gP hr (aq (pV 0) (aq aM aD)))) (aP (cP (dD (bh kO rfl T.gK gG (aq (pV 1) (aq (jV (v:=.ty "tuple") rfl T.tuple jA rfl) aD)))) (aP (pZ 5 uL (pC gP hr (aq (pV 0) (aq (bh (Mi rfl) rfl T.max JC (aq aM (aq (bh jy rfl T.len gO (aq (pV 1) aD)) aD))) aD)))) (aP (pZ 6 uL (bJ xu (bJ xu (jo qP (pV 1) kZ (iu (pV 5))) (jo qP (pV 1) (iu (pV 5)) (iu (bJ gj (pV 5) aM)))) (jo qP (pV 1) (iu (pV 5)) kZ))) (aP (pZ 7 uL (bJ xu (jo qP (pV 1) kZ (iu (pV 5))) (jo qP (pV 1) (iu (bJ gj (pV 5) aM)) kZ))) (aP (pZ 8 uL (bJ xu (bJ xu (jo qP (pV 1) kZ (iu (pV 5))) (aci (jo qP (pV 1) (iu (pV 5)) (iu (bJ gj (pV 5) aM))))) (jo qP (pV 1) (iu (bJ gj (pV 5) aM)) kZ))) (aP (pZ 9 uL (iU (aq (oO afS rfl T.list PyProof.Rows.boot_list (aq (pV 1) aD)) (aq (pV 7) (aq (pV 6) (aq (pV 8) aD)))))) (aU (bx (vq mY (bJ yJ (pV 9) (iU (aq (aci (pV 1)) (aq (bJ xu (pV 1) (kY (aq yI aD))) (aq (kY (aq (pV 1) aD)) (aq (kY aD) aD)))))) (pV 4) (λ_ _=>rfl))))))))) cN) (aP (cP (dD (bh kO rfl T.gK gG (aq (pV 1) (aq (jV (v:=.ty "str") rfl T.str PJ rfl) aD)))) (aP (pZ 10 uL (pC gP hr (aq (pV 0) (aq (bJ gj (bh KD rfl T.len gO (aq (pV 1) aD)) aM) aD)))) (aP (pZ 11 uL (pX Px qC (pC gP hr (aq (pV 0) (aq aM aD))))) (aP (pZ 9 uL (iU (aq (bJ Ab (bJ Ab (jo wY (pV 1) kZ (iu (pV 10))) (pV 11)) (jo wY (pV 1) (iu (pV 10)) kZ)) (aq (bJ Ab (bJ Ab (jo wY (pV 1) kZ (iu (pV 10))) (pV 11)) (jo wY (pV 1) (iu (bJ gj (pV 10) aM)) kZ)) aD)))) (aP (Cw (Az CV Hu J7 Ba (pV 9) (aq (bJ Ab (jo wY (pV 1) kZ (iu (pV 10))) (jo wY (pV 1) (iu (bJ gj (pV 10) aM)) kZ)) aD))) (aU (bx (vq mY (bJ yJ (pV 9) (iU (aq (bJ Ab (pV 1) qC) (aq (ahQ PySem.F.plainAttrs_str PySem.F.slot_str_upper PySem.F.type_str_upper ai1 (pV 1)) (aq (iU (aq (pV 1) aD)) (aq (kY (aq (pV 1) aD)) (aq aM aD))))))) (pV 4) (λ_ _=>rfl)))))))) cN) (aP (cP (dD (pC wZ hr (aq (pV 1) aD))) (aP (pZ 9 uL (iU (aq (bJ gj (pV 1) aM) (aq (bJ oG (pV 1) aM) (aq (bJ gj (pV 1) aM) (aq (bJ oG aM (pV 1)) aD)))))) (aU (bx (vq mY (bJ yJ (pV 9) (iU (aq (jW wu (pV 1) aM (cX _)) (aq (oO alB rfl T.str PJ (aq (pV 1) aD)) (aq yI (aq (kY (aq (pV 1) aD)) aD)))))) (pV 4) (λ_ _=>rfl))))) cN) (aU (bx (vq mY (iU (aq aM (aq aM (aq aM (aq (bJ Ve aM aM) (aq dG (aq qC (aq (kY aD) (aq (iU (aq yI aD)) aD))))))))) (pV 4) (λ_ _=>rfl))))))))))),?_⟩;refine O9 (i:=3) (λz=>[some (.ref p),some x,some (.ref l),z,none,none,none,none,none,none,none,none]) (λz=>rfl) (fj Ld (fj Xd (fj Xd (fj pD (fj pD (fj (ai9 rfl pD) (fj (adY (by unfold FZ; decide)) (fj (Gw (by decide +kernel)) (fj (Gw (by decide +kernel)) (fj (Gw (by decide +kernel)) (fj (zA nj (by decide)) (fj (R9 nj (by decide)) (fj ak7 (fj (Gw (by decide +kernel)) nj)))))))))))))) (by decide) (λod ov H1 hod s1 eod acT=>?_);have hp1:iH H1 p:=let ⟨n,e,z⟩:=hp; ⟨n,s1 _ _ e,z⟩;have nop:od≠p:=λz=>(by obtain ⟨n,e,_⟩:=hp; rw [<- z,hod] at e; cases e);refine ⟨p,4,rfl,hp1,by decide,by decide,λd0 H2 d0a d0b pk2 oM=>?_⟩;have hl2:H2 l=some (.lst us):=oM _ _ qW (s1 _ _ hl);have lu:=da.len;have kp2:Kp H H2:=(Kp.of s1).aA (qg hp1 pk2 oM);have SB2:dF p H H2:=(dF.of s1).aA oM;refine fQ (λz=>?_) (λz=>?_);refine ⟨l,us,rfl,.inl (aV.of hl2),?_⟩;refine ⟨p,(us.length:Int),rfl,pk2,by omega,by omega,λd1 H3 d1a d1b uc qM=>?_⟩;obtain ⟨m,rfl⟩:∃ m:Nat,d1=m:=⟨d1.toNat,by omega⟩;have hu:us[m]?=some us[m]:=gD (by omega);refine qt (qM _ _ qW hl2) (oW hu) ?_;obtain ⟨y,hy,ya⟩:=da.get hu;have g:=gd y (fG hy);have r1:=rw_piece g.1;exact q _ y H3 (ya.kp (kp2.aA (qg pk2 uc qM))) ⟨Eb g.2,by omega,by have:=ahe g.1; omega⟩ uc (SB2.aA qM);refine ⟨p,4,rfl,pk2,by decide,by decide,λd2 H3 d2a d2b uc qM=>?_⟩;have kp3:Kp H H3:=kp2.aA (qg pk2 uc qM);have SB3:=SB2.aA qM;have ac8:H3 od=some (.lst ov):=qM _ _ nop (oM _ _ nop eod);have anh:=acT.kp ((qg hp1 pk2 oM).aA (qg pk2 uc qM));have lo:=acT.len;refine fQ (λz=>?_) (λz=>?_);refine ⟨od,ov,rfl,.inl (aV.of ac8),?_⟩;have l14:ov.length=14:=lo;refine ⟨p,(ov.length:Int),rfl,uc,by omega,by omega,λd1 H4 d1a d1b uG sb4=>?_⟩;obtain ⟨m,rfl⟩:∃ m:Nat,d1=m:=⟨d1.toNat,by omega⟩;have hu:ov[m]?=some ov[m]:=gD (by omega);refine qt (sb4 _ _ nop ac8) (oW hu) ?_;obtain ⟨y,hy,ya⟩:=anh.get hu;have g:=fW.mp (akI n) y (fG hy);obtain ⟨g1,g2⟩:=cB.mp g;have g2:=dB g2;exact q _ y H4 (ya.kp (qg uc uG sb4)) ⟨g1,by omega,by omega⟩ uG (SB3.aA sb4);refine zW ?_;dsimp only;refine gV λU hU=>?_;refine ⟨p,8,rfl,uc,by decide,by decide,λkk H4 k0 k8 uG sb4=>?_⟩;obtain ⟨m,rfl⟩:∃ m:Nat,kk=m:=⟨kk.toNat,by omega⟩;show U _ _;subst hU;have m8:m<8:=(by omega);have SB4:=SB3.aA sb4;have hd4:=hd.kp (kp3.aA (qg uc uG sb4));have n16:4 ^ n<=16:=jF (Nat.pow_le_pow_right (by decide) n5) (by decide);have fin:∀(Hz H':Hp)(y:V)(e:Da),iH Hz p->dF p H Hz->aF Hz H'->bD H' y e->uJ n d e->Q y H':=λHz H' y e pk sb s h a=>q y e H' h a (let ⟨n,e,z⟩:=pk; ⟨n,s _ _ e,z⟩) (sb.aA (dF.of s));obtain ⟨Ty,ty,kt,ks⟩:=kindS (K:=K) hd4;refine ⟨_,_,_,_,rfl,ty,kt,?_⟩;show (if mj d=true then _ else _);refine fQ (λzt=>?_) (λzt=>?_);obtain ⟨xs,rfl⟩:∃ xs,d=.tup xs:=(by cases d with| tup xs=>exact ⟨xs,rfl⟩| _=>cases zt);obtain ⟨a,vs,rfl,ea,la,ra⟩:=hd4.dW;have lx:=ra.len;have l14:=(mG.mp sm).1;refine gV λU hU=>?_;refine ⟨a,vs,rfl,.inr (aH.of ea),?_⟩;refine ⟨1,(vs.length:Int),rfl,?_⟩;refine ⟨p,_,rfl,uG,by split <;> omega,by split <;> omega,λjj H5 j0 j5 pk5 sb5=>?_⟩;obtain ⟨j,rfl⟩:∃ j:Nat,jj=j:=⟨jj.toNat,by omega⟩;show U _ _;subst hU;have hx:=hd4.kp (qg uG pk5 sb5);have S5:=SB4.aA sb5;obtain ⟨w1,w2,w3,w4,w5,w6⟩:=afy (xs:=xs) (j:=j) (jF l14 (by omega));refine gV λU hU=>?_;refine TD.use (aj:=[some (.ref p),some (.ref a),some (.ref l),some (.ref od),some (.int (m:Int)),some (.int (j:Int)),none,none,none,none,none,none]) (Dg (Dg (Jh (k:=j) (jm hx) (oE (wX (.int _)))) (aeg (a:=j) (c:=1) (jm hx) (oE (wX (.int _))) (oE (Vh (wX (.int _))))) w1) (KC (k:=j) (jm hx) (oE (wX (.int _)))) w2) (aF.refl _) λv6 H6 s6 h6=>?_;show U _ _;subst hU;refine gV λU hU=>?_;refine TD.use (aj:=[some (.ref p),some (.ref a),some (.ref l),some (.ref od),some (.int (m:Int)),some (.int (j:Int)),some v6,none,none,none,none,none]) (Dg (Jh (k:=j) (jm (hx.same s6)) (oE (wX (.int _)))) (KC (k:=j+1) (jm (hx.same s6)) (oE (Vh (wX (.int _))))) w3) (aF.refl _) λv7 H7 s7 h7=>?_;show U _ _;subst hU;have S7:=s6.aA s7;refine gV λU hU=>?_;refine TD.use (aj:=[some (.ref p),some (.ref a),some (.ref l),some (.ref od),some (.int (m:Int)),some (.int (j:Int)),some v6,some v7,none,none,none,none]) (Dg (Dg (Jh (k:=j) (jm (hx.same S7)) (oE (wX (.int _)))) (aay (aeg (a:=j) (c:=2) (jm (hx.same S7)) (oE (wX (.int _))) (oE (DW (wX (.int _)) pD)))) w4) (KC (k:=j+2) (jm (hx.same S7)) (oE (DW (wX (.int _)) pD))) w5) (aF.refl _) λv8 H8 s8 h8=>?_;show U _ _;subst hU;have S8:=S7.aA s8;refine O9 (i:=9) (λz=>[some (.ref p),some (.ref a),some (.ref l),some (.ref od),some (.int (m:Int)),some (.int (j:Int)),some v6,some v7,some v8,z,none,none]) (λz=>rfl) (fj (aiP (jm (hx.same S8))) (fj (akG (h7.same s8)) (fj (aiI (h6.same (s7.aA s8))) (fj (ajQ h8) nj)))) (by exact oN rfl) (λml mv H9 hml s9 eml Ia=>?_);have S9:=S8.aA s9;obtain ⟨e,he⟩:=Mv (ds:=QB xs j) rfl m8;exact TD.use (aj:=[some (.ref p),some (.ref a),some (.ref l),some (.ref od),some (.int (m:Int)),some (.int (j:Int)),some v6,some v7,some v8,some (.ref ml),none,none]) (Pa (k:=4) (d:=e) (Rc (Qk rfl eml Ia) (El (fj (aay (jm (hx.same S9))) (fj (Dg (jm (hx.same S9)) (zA (fj Ld nj) (by exact oN rfl)) w6) (fj (zA (fj (jm (hx.same S9)) nj) (by exact oN rfl)) (fj (zA nj (by exact oN rfl)) nj)))) (by exact oN rfl)) (by exact oN rfl)) rfl he) (aF.refl _) λy H' s hy=>fin H5 H' y e pk5 S5 (S9.aA s) hy (ahK sm j e (fG he));refine zW ?_;dsimp only;refine ⟨_,_,_,_,rfl,ty,ks,?_⟩;show (if abX d=true then _ else _);refine fQ (λzs=>?_) (λzs=>?_);obtain ⟨z,rfl⟩:∃ z,d=.str z:=(by cases d with| str z=>exact ⟨z,rfl⟩| _=>cases zs);obtain ⟨rfl,hz⟩:x=.str z/\z.length<=aO:=(by cases hd4; exact ⟨rfl,by assumption⟩);have zl:z.length<=1000:=(by have sm':=sm;simp only [cT,decide_eq_true_iff] at sm';omega);have zl2:z.length<=480:=(by have sm':=sm;simp only [cT,decide_eq_true_iff] at sm';omega);refine gV λU hU=>?_;refine ⟨z,rfl,hz,?_⟩;refine ⟨p,(z.length:Int)+1,rfl,uG,by omega,by omega,λjj H5 j0 j5 pk5 sb5=>?_⟩;obtain ⟨k,rfl⟩:∃ k:Nat,jj=k:=⟨jj.toNat,by omega⟩;show U _ _;subst hU;refine gV λU hU=>?_;refine ⟨p,11,rfl,pk5,by decide,by decide,λcc H6 c0 c5 pk6 sb6=>?_⟩;obtain ⟨c,rfl⟩:∃ c:Nat,cc=c:=⟨cc.toNat,by omega⟩;have lc:("AZ09 _-.aqz" : Str).cps.toList.length=11:=(by decide +kernel);refine Lq (by rw [dO]; decide +kernel) (oW (gD (by omega))) ?_;show U _ _;subst hU;have S6:=(SB4.aA sb5).aA sb6;generalize hsg:("AZ09 _-.aqz" : Str).cps.toList[c]=sc;have lsg:(⟨#[sc]⟩:Str).length=1:=rfl;have hx:∀{G:Hp},bD G (.str z) (.str z):=.str z hz;have hs:∀{G:Hp},bD G (.str ⟨#[sc]⟩) (.str ⟨#[sc]⟩):=.str _ (by rw [lsg]; omega);have a1:=PyProof.Txt.length_slice_le z none (some (k:Int));obtain ⟨f1,f2,f3,f4,f5⟩:=Yw (s:=sc) a1 (PyProof.Txt.length_slice_le z (some (k:Int)) none) zl2;obtain ⟨_,g2,g3,g4,g5⟩:=Yw (s:=sc) a1 (PyProof.Txt.length_slice_le z (some ((k:Int)+1)) none) zl2;refine O9 (i:=9) (λy=>[some (.ref p),some (.str z),some (.ref l),some (.ref od),some (.int (m:Int)),none,none,none,none,y,some (.int (k:Int)),some (.str ⟨#[sc]⟩)]) (λz=>rfl) (fj (Eo (Eo (Ga (jm hx) Ar (oE (GP (.int _))) zl (PyProof.Txt.length_slice_le _ _ _)) (acO hs) f1) (Ga (jm hx) (oE (GP (.int _))) Ar zl (PyProof.Txt.length_slice_le _ _ _)) f2) (fj (Eo (Eo (Ga (jm hx) Ar (oE (GP (.int _))) zl (PyProof.Txt.length_slice_le _ _ _)) (acO hs) f1) (Ga (jm hx) (oE (DW (GP (.int _)) pD)) Ar zl (PyProof.Txt.length_slice_le _ _ _)) g2) nj)) (by exact oN rfl) (λml mv H7 hml s7 eml Ia=>?_);obtain ⟨w1,w2,rfl,d1,d2⟩:=Ia.two;refine ⟨.inl ⟨rfl,_,aV.of eml⟩,?_⟩;refine TD.use (aj:=[some (.ref p),some (.str z),some (.ref l),some (.ref od),some (.int (m:Int)),none,none,none,none,some (.ref ml),some (.int (k:Int)),some (.str ⟨#[sc]⟩)]) (Eo (Ga (jm hx) Ar (oE (GP (.int _))) zl (PyProof.Txt.length_slice_le _ _ _)) (Ga (jm hx) (oE (DW (GP (.int _)) pD)) Ar zl (PyProof.Txt.length_slice_le _ _ _)) g4) (aF.refl _) λw3 H8 s8 d3=>?_;refine ⟨ml,_,w3,rfl,rfl,s8 _ _ eml,by show 2<aO; omega,?_⟩;have S9:aF H6 (upd H8 ml (.lst ([w1,w2]++[w3]))):=λb o e=>(by rw [aW (dN e hml)]; exact s8 _ _ (s7 _ _ e));generalize hH9:upd H8 ml (.lst ([w1,w2]++[w3]))=H9 at S9 |-;have akV:H9 ml=some (.lst [w1,w2,w3]):=(by rw [<- hH9]; exact aX);have d9:cH H9 [w1,w2,w3] [.str ((lX z none (some (k:Int)))++⟨#[sc]⟩++(lX z (some (k:Int)) none)),.str ((lX z none (some (k:Int)))++⟨#[sc]⟩++(lX z (some ((k:Int)+1)) none)),.str ((lX z none (some (k:Int)))++(lX z (some ((k:Int)+1)) none))]:=.cons (Sv d1) (.cons (Sv d2) (.cons (Sv d3) .nil));obtain ⟨e,he⟩:=Mv (ds:=[.str ((lX z none (some (k:Int)))++⟨#[sc]⟩++(lX z (some (k:Int)) none)),.str ((lX z none (some (k:Int)))++⟨#[sc]⟩++(lX z (some ((k:Int)+1)) none)),.str ((lX z none (some (k:Int)))++(lX z (some ((k:Int)+1)) none)),.str (z++"abcdefg"),.str (Mz z),.oth,.tup [.str z],.int 7]) rfl m8;have l7:("abcdefg" : Str).length=7:=(by decide +kernel);have b5:(z++"abcdefg" : Str).length=z.length+7:=(by rw [Gp,l7]);have b6:=Zz z;refine TD.use (aj:=[some (.ref p),some (.str z),some (.ref l),some (.ref od),some (.int (m:Int)),none,none,none,none,some (.ref ml),some (.int (k:Int)),some (.str ⟨#[sc]⟩)]) (Pa (k:=4) (d:=e) (Rc (Qk (k:=9) rfl akV d9) (El (fj (Eo (jm hx) (Gw (by rw [l7]; decide)) (by omega)) (fj (aps (jm hx) zl) (fj (R9 (fj (jm hx) nj) (by exact oN rfl)) (fj (zA (fj (jm hx) nj) (by exact oN rfl)) (fj pD nj))))) (by exact oN rfl)) (by exact oN rfl)) rfl he) (aF.refl _) λy H' s hy=>fin H6 H' y e pk6 S6 (S9.aA s) hy ?_;have me:=fG he;simp only [dU,lC,or_false] at me;rcases me with rfl | rfl | rfl | rfl | rfl | rfl | rfl | rfl;exact Ho sm f3 _;exact Ho sm g3 _;exact Ho sm g5 _;exact Ho sm (by omega) _;exact Ho sm (by omega) _;exact uE (by simp only [cT]) rfl _;exact Yv sm rfl _;exact uE (oY (by decide)) rfl _;refine zW ?_;dsimp only;obtain ⟨th,_,iw,_⟩:=hd4.kind (K:=K);refine ⟨x,rfl,th,?_⟩;rw [iw];show (if gW d=true then _ else _);refine fQ (λzi=>?_) (λzi=>?_);obtain ⟨i,rfl⟩:∃ i,d=.int i:=(by cases d with| int i=>exact ⟨i,rfl⟩| _=>cases zi);obtain rfl:x=.int i:=(by cases hd4; rfl);have smi:=sm;simp only [cT,decide_eq_true_iff] at smi;have hx:∀{G:Hp},bD G (.int i) (.int i):=.int i;refine O9 (i:=9) (λy=>[some (.ref p),some (.int i),some (.ref l),some (.ref od),some (.int (m:Int)),none,none,none,none,y,none,none]) (λz=>rfl) (fj (DW (jm hx) pD) (fj (aea (jm hx) pD) (fj (DW (jm hx) pD) (fj (aea pD (jm hx)) nj)))) (by exact oN rfl) (λml mv H7 hml s7 eml Ia=>?_);have t9:=aiA (i:=i) (k:=10) (by decide) (by omega);obtain ⟨e,he⟩:=Mv (ds:=[.int (i+1),.int (i-1),.int (i+100),.int (0-i),.bl (decide (0<i)),.str (toString i),.non,.tup [.int i]]) rfl m8;refine TD.use (aj:=[some (.ref p),some (.int i),some (.ref l),some (.ref od),some (.int (m:Int)),none,none,none,none,some (.ref ml),none,none]) (Pa (k:=4) (d:=e) (Rc (Qk rfl eml Ia) (El (fj (amS (jm hx) pD) (fj (amD (jm hx) (lg2 (by omega)) (by omega)) (fj Ld (fj (zA (fj (jm hx) nj) (by exact oN rfl)) nj)))) (by exact oN rfl)) (by exact oN rfl)) rfl he) (aF.refl _) λy H' s hy=>fin H4 H' y e uG SB4 (s7.aA s) hy ?_;have me:=fG he;simp only [dU,lC,or_false] at me;rcases me with rfl | rfl | rfl | rfl | rfl | rfl | rfl | rfl;exact Pq sm (by omega) _;exact Pq sm (by omega) _;exact Pq sm (by omega) _;exact Pq sm (by omega) _;exact uE (by simp only [cT]) rfl _;exact uE (wN (by omega)) rfl _;exact uE (by simp only [cT]) rfl _;exact Yv sm rfl _;refine zW ?_;dsimp only;obtain ⟨e,he⟩:=Mv (ds:=[.int 0,.int 1,.int 5,.int 1000000,.bl true,.str "-",.tup [],.oth]) rfl m8;refine TD.use (aj:=[some (.ref p),some x,some (.ref l),some (.ref od),some (.int (m:Int)),none,none,none,none,none,none,none]) (Pa (k:=4) (d:=e) (El (fj pD (fj pD (fj pD (fj (adY (by unfold FZ; decide)) (fj Xd (fj (Gw (by decide +kernel)) (fj (zA nj (by exact oN rfl)) (fj (R9 (fj Ld nj) (by exact oN rfl)) nj)))))))) (by exact oN rfl)) rfl he) (aF.refl _) λy H' s hy=>fin H4 H' y e uG SB4 s hy ?_;have me:=fG he;simp only [dU,lC,or_false] at me;rcases me with rfl | rfl | rfl | rfl | rfl | rfl | rfl | rfl;exact uE (oY (by decide)) rfl _;exact uE (oY (by decide)) rfl _;exact uE (oY (by decide)) rfl _;exact uE (oY (by decide)) rfl _;exact uE (by simp only [cT]) rfl _;exact uE (wN (by decide +kernel)) rfl _;exact acn _;exact uE (by simp only [cT]) rfl _
theorem Wm{w:V}{Q:VK}(hv:bD H v (.tup xs))(hw:bD H w (.tup ys))(few:xs.length+ys.length<=25)(q:∀ u H2,aF H H2->bD H2 u (.tup (xs++ys))->Q u H2):Rw v w H Q:=by obtain ⟨a,vs,rfl,ea,la,ra⟩:=hv.dW;obtain ⟨b,ws,rfl,eb,lb,rb⟩:=hw.dW;have dO:=cQ;have l1:=ra.len;have l2:=rb.len;exact ⟨a,b,vs,ws,rfl,rfl,ea,eb,by omega,λp H4 hp s4=>q _ H4 s4 (.tup hp (by rw [dZ]; omega) ((ra.app rb).same s4))⟩
theorem amX{y:Da}(h:eU (.tup ys)=true)(hy:y∈ys):cY y=0:=by obtain ⟨z,j,e,_⟩:=Fd h;cases e;simp only [dU,lC,or_false] at hy;rcases hy with rfl | rfl;simp only [cY];simp only [cY]
theorem adH:∀{ys:List Da},(∀ y∈ys,cY y=0)->rws ys=0
 | [],_=>by simp only [rws]
 | y :: ys,h=>by have a:=h y gU;have b:=adH (ys:=ys) λx hx=>h x (iM _ hx);simp only [rws];omega
theorem aoW{k:Nat}{x:Da}(sm:cT n (.tup xs)=true)(hx:xs[k]?=some x)(ne:uJ n x e):uJ n (.tup xs) (.tup (xs.take k++[e]++xs.drop (k+1))):=by obtain ⟨a,b⟩:=mG.mp sm;have lt:=(jC.mp hx).1;have mx:=fG hx;have mem:∀ y∈xs.take k++[e]++xs.drop (k+1),y∈xs\/y=e:=λy hy=>(by rcases iC.mp hy with z | z;rcases iC.mp z with z | z;exact .inl (xW z);exact .inr (lg.mp z);exact .inl (K5 z));refine ⟨mG.mpr ⟨?_,λy hy=>?_⟩,?_,?_⟩;simp only [dZ,gR,jR,iz,rR];omega;rcases mem y hy with z | z;exact Eb (b y z);rw [z]; exact ne.sm;rw [show cY (.tup (xs.take k++[e]++xs.drop (k+1)))=(if eU (.tup (xs.take k++[e]++xs.drop (k+1)))=true then 1 else 0)+rws (xs.take k++[e]++xs.drop (k+1)) by simp only [cY]];split;rename_i h;rw [adH λy hy=>amX h hy];omega;have c0:=NP xs k;have c1:rws (xs.drop k)=cY x+rws (xs.drop (k+1)):=(by have e1:xs.drop k=x :: xs.drop (k+1):=(by rw [List.drop_eq_getElem_cons lt];congr 1;exact j6 ((gD lt).symm.aA hx));rw [e1];simp only [rws]);have c2:rws [e]=cY e:=(by simp only [rws]; omega);have c3:=rw_ge xs;have c4:=ne.rw;rw [wj,wj,c2];omega;have d1:=Fb mx;have d2:=ne.dp;have a:deps (xs.take k++[e]++xs.drop (k+1))<=deps xs+1:=yE λy hy=>(by rcases mem y hy with z | z;have:=Fb z; omega;rw [z]; omega);rw [vd,vd];omega
noncomputable def Ie(n k:Nat):Sp:=λvs H Q _=>QX6 λ(p l:au)(x:V)(d:Da)(us:List V)(ds:List Da)=>aoX (vs=[.ref p,x,.ref l]) (iH H p) (bD H x d) (dep d<k) (cT n d=true) (H l=some (.lst us)) (cH H us ds) (l≠p) (1<=ds.length) (ds.length<=1000000) ((∀ e∈ds,Al e=true/\cT n e=true)) (n<=2) (∀(y:V)(e:Da)(H':Hp),bD H' y e->uJ n d e->iH H' p->dF p H H'->Q y H')
theorem Um:cW ["_law_pack_here","_law_thing","_law_some","_law_k"] ["_law_pack_here","_law_thing","_law_some"] (bw Rr):=dX
theorem Tq{zT T5 Ye:au}{Dq adJ YS:jU}(n:Nat)(F:eY K "_law_bent" Rr zT Dq)(T:Txt mg t8 t6 tR tL)(gP:bf P w K mg base bB 1 T5 adJ ["_law_pack_here","_law_size"] zO)(Qg:mg "_law_take" = some (.ref T5))(PK:nu K (.ref T5)=true)(Uy:cj K adJ ["_law_pack_here","_law_size"] [])(Gx:bf P w K mg base bB 2 Ye YS ["_law_pack_here","_law_thing","_law_some"] (Ez n))(m_other:mg "_law_other" = some (.ref Ye))(adO:nu K (.ref Ye)=true)(aeA:cj K YS ["_law_pack_here","_law_thing","_law_some"] [])(Jv:mg "_law_bent" = some (.ref zT))(Hq:nu K (.ref zT)=true)(IK:cj K Dq ["_law_pack_here","_law_thing","_law_some"] []):∀ k,bf P w K mg base bB (k+3) zT Dq ["_law_pack_here","_law_thing","_law_some"] (Ie n k)
 | 0=>F.ok Um (λvs H Q E h=>by obtain ⟨_,_,_,_,_,_,_,_,_,z,_⟩:=h; omega) (λcdv A outer s H vs Q E hr h=>by obtain ⟨_,_,_,_,_,_,_,_,_,z,_⟩:=h; omega)
 | k+1=>by have af8:=Tq n F T gP Qg PK Uy Gx m_other adO aeA Jv Hq IK k;have gP:=gP.mono (show 1<=k+3 by omega);have Gx:=Gx.mono (show 2<=k+3 by omega);refine F.ok Um (λvs H Q E h=>?_) (λcdv A outer s H vs Q E hr h=>?_);obtain ⟨p,l,x,d,us,ds,rfl,_⟩:=h;rfl;obtain ⟨p,l,x,d,us,ds,rfl,hp,hd,dp,sm,hl,da,qW,l1,l2,gd,n5,q⟩:=h;have dO:=cQ;obtain ⟨_,⟨T',ty,kt⟩,_⟩:=hd.kind (K:=K);refine ⟨_,(aP (cP (Dm (dD (bh kO rfl T.gK gG (aq (pV 1) (aq (jV (v:=.ty "tuple") rfl T.tuple jA rfl) aD)))) (pw_and (gM (afV hr.Kz) (pV 1) (kY aD) (cX _)) (pw_and1 (gM wu (zK gP hr rfl Qg PK Uy .nil yj (aq (pV 0) (aq aM aD))) aM (cX _))))) (aP (pZ 3 Um (zK gP hr rfl Qg PK Uy .nil yj (aq (pV 0) (aq (bh jy rfl T.len gO (aq (pV 1) aD)) aD)))) (aU (bx (bJ xu (bJ xu (jo qP (pV 1) kZ (iu (pV 3))) (kY (aq (zK af8 hr rfl Jv Hq IK .nil yj (aq (pV 0) (aq (pX dY (pV 1) (pV 3)) (aq (pV 2) aD)))) aD))) (jo qP (pV 1) (iu (bJ gj (pV 3) aM)) kZ))))) cN) (aU (bx (zK Gx hr rfl m_other adO aeA .nil yj (aq (pV 0) (aq (pV 1) (aq (pV 2) aD))))))),?_⟩;have rest:∀ H1,Kp H H1->iH H1 p->dF p H H1->Ez n [.ref p,x,.ref l] H1 Q E:=λH1 kp pk sb=>(by refine ⟨p,l,x,d,us,ds,rfl,pk,hd.kp kp,sm,sb _ _ qW hl,da.kp kp,qW,l1,l2,gd,n5,λy e H2 hy ne pk2 oM=>?_⟩;exact q y e H2 hy ne pk2 (sb.aA oM));refine ⟨_,_,_,_,rfl,ty,kt,?_⟩;show if mj d=true then _ else _;refine fQ (λzt=>?_) (λzt=>?_);obtain ⟨xs,rfl⟩:∃ xs,d=.tup xs:=(by cases d with| tup xs=>exact ⟨xs,rfl⟩| _=>cases zt);obtain ⟨a,vs,rfl,ea,la,ra⟩:=hd.dW;have lx:=ra.len;have l14:=(mG.mp sm).1;refine ⟨dR _,λe0 he0=>?_⟩;have s1:aF H (upd H e0 (.tup [])):=(aF.refl H).upd he0;have e1:upd H e0 (.tup []) e0=some (.tup []):=aX;generalize upd H e0 (.tup [])=H1 at s1 e1 |-;have hp1:iH H1 p:=let ⟨n,e,z⟩:=hp; ⟨n,s1 _ _ e,z⟩;refine ⟨⟨a,e0,vs,rfl,rfl,s1 _ _ ea,e1,?_⟩⟩;show if (!vs.isEmpty)=true then _ else _;refine fQ (λzn=>?_) (λzn=>?_);have v1:1<=vs.length:=(by cases vs with| nil=>cases zn| cons _ _=>exact Wj (dR _));refine ⟨p,5,rfl,hp1,by decide,by decide,λd0 H2 d0a d0b pk2 oM=>?_⟩;have kp2:Kp H H2:=(Kp.of s1).aA (qg hp1 pk2 oM);have SB2:dF p H H2:=(dF.of s1).aA oM;refine fQ (λz=>?_) (λz=>?_);refine gV λU hU=>?_;have ea2:=kp2.tup _ _ ea;refine ⟨a,vs,rfl,.inr (aH.of ea2),?_⟩;refine ⟨p,(vs.length:Int),rfl,pk2,by omega,by omega,λd1 H3 d1a d1b uc qM=>?_⟩;obtain ⟨j,rfl⟩:∃ j:Nat,d1=j:=⟨d1.toNat,by omega⟩;show U _ _;subst hU;have kp3:Kp H H3:=kp2.aA (qg pk2 uc qM);have SB3:=SB2.aA qM;have hx3:=hd.kp kp3;refine TD.use (aj:=[some (.ref p),some (.ref a),some (.ref l),some (.int (j:Int))]) (Jh (k:=j) (jm hx3) (oE (Yp (.int _)))) (aF.refl _) λv4 H4 s4 h4=>?_;have hv:vs[j]?=some vs[j]:=gD (by omega);obtain ⟨y,hy,ya⟩:=ra.get hv;have dm:=Fb (fG hy);rw [vd] at dp;have uG:iH H4 p:=let ⟨n,e,z⟩:=uc; ⟨n,s4 _ _ e,z⟩;have kp4:Kp H H4:=kp3.aA (Kp.of s4);have SB4:dF p H H4:=SB3.aA (dF.of s4);refine dI (aH.of (kp4.tup _ _ ea)) (oW hv) ?_;refine ⟨p,l,_,y,us,ds,rfl,uG,ya.kp kp4,by omega,(mG.mp sm).2 y (fG hy),SB4 _ _ qW hl,da.kp kp4,qW,l1,l2,gd,n5,λw e H5 hw ne pk5 sb5=>?_⟩;have kp5:=qg uG pk5 sb5;have hx5:=hd.kp (kp4.aA kp5);have h45:=h4.kp kp5;refine ⟨by show 1<=aO; omega,λt5 ht5=>?_⟩;have s6:aF H5 (upd H5 t5 (.tup [w])):=(aF.refl H5).upd ht5;have e6:bD (upd H5 t5 (.tup [w])) (.ref t5) (.tup [e]):=.tup aX (by show 1<=25; decide) (.cons (hw.same s6) .nil);generalize upd H5 t5 (.tup [w])=H6 at s6 e6 |-;refine Wm (h45.same s6) e6 (by simp only [dZ,gR,jR,iz,rR]; omega) λu7 H7 s7 h7=>?_;refine TD.use (aj:=[some (.ref p),some (.ref a),some (.ref l),some (.int (j:Int))]) (KC (k:=j+1) (jm (hx5.same (s6.aA s7))) (oE (Vh (Yp (.int _))))) (aF.refl _) λv8 H8 s8 h8=>?_;refine Wm (h7.same s8) h8 (by simp only [dZ,gR,jR,iz,rR]; omega) λu9 H9 s9 h9=>?_;have S9:aF H5 H9:=((s6.aA s7).aA s8).aA s9;exact q u9 _ H9 h9 (aoW sm hy ne) (let ⟨n,e,z⟩:=pk5; ⟨n,S9 _ _ e,z⟩) ((SB4.aA sb5).aA (dF.of S9));exact rest H2 kp2 pk2 SB2;exact rest H1 (Kp.of s1) hp1 (dF.of s1);exact rest H (Kp.refl H) hp (dF.of (aF.refl H))
noncomputable abbrev Ug:cA:=inClass (top 68) 0
noncomputable abbrev Ww:cA:=inClass (top 68) 6
noncomputable def alb:TE:=λ_ _ _=>False
noncomputable def anP:TG:=λ_ _ _ _=>False
noncomputable def ahb:TT:=λ_ _ _=>False
variable{X:Cx}{e:Expr}
theorem Qs:PE X e alb:=λ_ _ _ _ _ _ h=>h.elim
theorem akf:PG X e anP:=λ_ _ _ _ _ _ _ _ _ h=>h.elim
theorem ai8{es:List Expr}:oU X es ahb:=λ_ _ _ _ _ _ h=>h.elim
theorem V7{a D:au}{H1:Hp}{jZ:St}{g:BI->TG}{tt:BI->TT}{te:BI->TE}{End:Hp->Prop}(hD:H1 D=none)(ha:H1 a=some (.lst []))(fin:End (upd H1 D (.lst []))):
   ∃ W:Nat->Nat->Hp->Prop,(∃ m,W 0 m (upd H1 D (.lst [])))/\∀ b,rW (Ac K a) (g b) (tt b) (qd D (te b)) jZ End W :=
 O6 (xs:=[]) (λ_ H'=>H'=upd H1 D (.lst [])) rfl (λi H _ e=>aV.of (by rw [e,aW (dN ha hD)]; exact ha)) (λH e=>e ▸ fin) (λi x H hx=>by cases hx)
noncomputable def Ed:Da->Da
 | .tup xs=>.tup (xs++[.tup []])
 | d=>d
theorem Oc{c:Da}(h:jg c=true):∃(n:Str)(l h d:Int),c=.tup [.str n,.int l,.int h,.int d]/\fU n:=by obtain ⟨z,y2,y3,y4,rfl⟩:=aaA h;have h':ql (.str z) y2 y3 y4=true:=h;unfold ql at h';obtain ⟨c1,c2⟩:=cB.mp h';obtain ⟨c2,_⟩:=cB.mp c2;obtain ⟨w1,c2⟩:=cB.mp c2;obtain ⟨w2,w3⟩:=cB.mp c2;cases y2 with| int i1 =>(cases y3 with| int i2 =>(cases y4 with| int i3=>exact ⟨z,i1,i2,i3,rfl,Ox c1⟩| _=>cases w3)| _=>cases w2)| _=>cases w1
noncomputable def Mu(cs:List Da):Da:=.tup [.tup (cs.map Ed),.tup []]
noncomputable def Hi(ch:V)(ak al ae:au):List (Str × V):=[("houses",ch),("kept",.ref ak),("letters",.ref al),("ends",.ref ae)]
theorem ai7(ch:V)(ak al ae:au):(Hi ch ak al ae).lookup ("houses" : Str)=some ch:=by rfl
theorem ake(ch:V)(ak al ae:au):(Hi ch ak al ae).lookup ("kept" : Str)=some (.ref ak):=by rfl
theorem ag1(ch:V)(ak al ae:au):(Hi ch ak al ae).lookup ("letters" : Str)=some (.ref al):=by rfl
structure KCls(K:bV)(mg:Str->Option aB)(C:au):Prop where
 cl:Cls K C
 nH:xq K C "houses"
 nK:xq K C "kept"
 nL:xq K C "letters"
 nE:xq K C "ends"
 mgC:mg "Keeper" = some (.ref C)
noncomputable def Ws:Sp:=λvs H Q _=>∃(x:V)(a:au),vs=[x,.ref a]/\H a=some (.dK [])/\∀(t:au)(H':Hp),H' t=some (.tup [])->aF H H'->Q (.ref t) H'
noncomputable def Vz:Sp:=λvs H Q _=>vZ λ(a ak al:au)(us:List V)(cs:List Da)=>QA8 (vs=[.ref a,.ref ak,.ref al]) (H a=some (.tup us)) (cH H us cs) (cs.length<=6) (cs.all jg=true) (H ak=some (.dK [])) (H al=some (.dK [])) (∀(v:V)(H':Hp),bD H' v (Mu cs)->aF H H'->Q v H')
noncomputable def Qw(C NH:au):Sp:=λvs H Q E=>∃(x dx:au)(ch:V)(d:Da),vs=[.ref x,ch]/\H x=some (.ins C dx [])/\bD H ch d /\
 (wH d=true->∀(ak al ae:au)(H':Hp),H' x=some (.ins C dx (Hi ch ak al ae))->H' ak=some (.dK [])->H' al=some (.dK [])->(∀ b o,b≠x->H b=some o->H' b=some o)->Q .non H') /\
 (wH d=false->∀ H',aF H H'->E (.ref NH) none H')
noncomputable def Ti(C:au):Sp:=λvs H Q _=>QX8 λ(x dx a ak al ae:au)(us:List V)(cs:List Da)=>QA9 (vs=[.ref x]) (H x=some (.ins C dx (Hi (.ref a) ak al ae))) (H a=some (.tup us)) (cH H us cs) (cs.length<=6) (cs.all jg=true) (H ak=some (.dK [])) (H al=some (.dK [])) (∀(v:V)(H':Hp),bD H' v (Mu cs)->aF H H'->Q v H')
theorem Zj:cW ["house","rows","runs","name","owner","run","reading"] ["house","rows"] (bw O4):=dX
theorem afF(F:eY K "runs_of" O4 f fd)(T:Txt mg t8 t6 tR tL):bf P w K mg base bB 1 f fd ["house","rows"] Ws:=by refine F.ok Zj (λvs H Q E h=>?_) (λcdv A outer s H vs Q E hr h=>?_);obtain ⟨x,a,rfl,_⟩:=h;rfl;obtain ⟨x,a,rfl,ea,q⟩:=h;have dO:=cQ;refine ⟨_,(aP (pZ 2 Zj yK) (aP (lG lA rfl (afh (pV 1)) akf (aU an6)) (aU (ae6 (bx (oO vC rfl T.tuple jA (aq (iG (bN:=bw O4) (own:=["run"]) (cap:=["runs"]) (ix:=[2]) rfl rfl fH (vR (bh (acd rfl) rfl T.sorted DP (aq (pV 2) aD))) (λb=>(pH 0 ["run","runs"])) (λb=>fu) (λb=>Qs)) aD))))))),?_⟩;refine λR fR=>?_;have s1:aF H (upd H R (.dK [])):=(aF.refl H).upd fR;have nRa:R≠a:=λz=>(by rw [z,ea] at fR; cases fR);refine ⟨a,[],rfl,.inl (s1 _ _ ea),λo H2 e2 sf oth=>?_⟩;refine ahZ (λi aj H'=>aj=[some x,bY a,bY R,zzN,zzN,zzN,zzN]/\H'=H2) ⟨rfl,rfl⟩ (λi aj H' _ hz=>by rw [hz.2]; exact e2) (λi k x T aj H3 hx hz fT=>by cases hx) (fun aj H3 hz=>?_);obtain ⟨rfl,rfl⟩:=hz;have na:∀ o u,H a≠some (.jh o u):=λo u z=>(by rw [ea] at z; cases z);refine ⟨upd H3 a (.dK []),⟨a,o,.dK [],e2,trivial,na,rfl⟩,?_⟩;have S3:aF H (upd H3 a (.dK [])):=λb o hb=>(by by_cases z:b=a;subst z;rw [aX,<- ea,hb];rw [aW z,oth b z];exact s1 _ _ hb);have eR:upd H3 a (.dK []) R=some (.dK []):=(by rw [aW nRa,oth R nRa]; exact aX);generalize upd H3 a (.dK [])=H4 at S3 eR |-;refine ⟨R,[],[],rfl,eR,rfl,by decide,λl ns' fl pm _=>?_⟩;obtain rfl:ns'=[]:=List.perm_nil.mp pm;have s5:aF H4 (upd H4 l (.lst (([]:List Int).map V.int))):=(aF.refl H4).upd fl;have e5:upd H4 l (.lst (([]:List Int).map V.int)) l=some (.lst []):=aX;generalize upd H4 l (.lst (([]:List Int).map V.int))=H5 at s5 e5 |-;refine ⟨l,rfl,⟨_,aV.of e5⟩,λD fD=>V7 fD e5 ?_⟩;have s6:aF H5 (upd H5 D (.lst [])):=(aF.refl H5).upd fD;have e6:upd H5 D (.lst []) D=some (.lst []):=aX;refine ⟨D,[],rfl,.inl ⟨aV.of e6,λt ft=>?_⟩⟩;exact q t _ aX (((S3.aA s5).aA s6).aA ((aF.refl _).upd ft))
theorem Xw:cW ["houses","rows","letters","full","sent_and_taken"] ["houses","rows","letters"] (bw GC):=dX
theorem amt(F:eY K "put_down" GC f fd)(T:Txt mg t8 t6 tR tL)(ah0:Cl P w K mg base 1 "runs_of" ["house","rows"] Ws):bf P w K mg base bB 2 f fd ["houses","rows","letters"] Vz:=by refine F.ok Xw (λvs H Q E h=>?_) (λcdv A outer s H vs Q E hr h=>?_);obtain ⟨a,ak,al,us,cs,rfl,_⟩:=h;rfl;obtain ⟨a,ak,al,us,cs,rfl,ea,da,few,gd,ek,el,q⟩:=h;have dO:=cQ;refine ⟨_,(aP (pZ 3 Xw (oO vC rfl T.tuple jA (aq (iG (bN:=bw GC) (own:=["house"]) (cap:=["rows"]) (ix:=[1]) rfl rfl fH (fY (pV 0)) (λb=>(pH 0 ["house","rows"])) (λb=>fu) (λb=>(bJ xu (pV 0) (kY (aq (pC ah0 hr (aq (pX dY (pV 0) aM) (aq (pV 1) aD))) aD))))) aD))) (aP (HX (i:=4) Xw.nd rfl rfl (bN:=bw GC) (own:=["pair"]) (cap:=["rows"]) (ix:=[1]) rfl rfl fH (vR (bh (acd rfl) rfl T.sorted DP (aq (pV 2) aD))) (λb=>(pH 0 ["pair","rows"])) (λb=>ai8) (λb=>Qs)) (aU (bx (kY (aq (pV 3) (aq (oO vC rfl T.tuple jA (aq (iG (bN:=bw GC) (own:=["pair"]) (cap:=["letters"]) (ix:=[2]) rfl rfl fH (vR (pV 4)) (λb=>(pH 0 ["pair","letters"])) (λb=>fu) (λb=>Qs)) aD)) aD))))))),?_⟩;refine ⟨a,rfl,⟨_,aH.of ea⟩,λD1 fD1=>WY (f:=Ed) fD1 ea da (by omega) (λx c H2 mc hx s2 b R hR=>?_) (λvs1 H2 s2 eD1 Ae=>?_)⟩;obtain ⟨n,l,h,d,rfl,gn⟩:=Oc (fW.mp gd c mc);obtain ⟨a1,vs1,rfl,e1,l1,r1⟩:=hx.dW;obtain ⟨v1,v2,v3,v4,rfl,d1,d2,d3,d4⟩:=r1.four;refine dI (aH.of e1) (i:=0) (v:=v1) (by rfl) ?_;refine ⟨v1,ak,rfl,s2 _ _ ek,λt H3 et s3=>?_⟩;refine ⟨by show 1<=aO; omega,λp3 hp3=>?_⟩;have s4:aF H3 (upd H3 p3 (.tup [.ref t])):=(aF.refl H3).upd hp3;have e4:bD (upd H3 p3 (.tup [.ref t])) (.ref p3) (.tup [.tup []]):=.tup aX (by show 1<=25; decide) (.cons (.tup (s4 _ _ et) (by show 0<=25; decide) .nil) .nil);generalize upd H3 p3 (.tup [.ref t])=H4 at s4 e4 |-;exact Wm (hx.same (s3.aA s4)) e4 (by show 4+1<=25; decide) λu H5 s5 h5=>hR u H5 ((s3.aA s4).aA s5) h5;refine ⟨D1,vs1,rfl,.inl ⟨aV.of eD1,λp3 hp3=>?_⟩⟩;have lv:=Ae.len;rw [aL] at lv;have s3:aF H2 (upd H2 p3 (.tup vs1)):=(aF.refl H2).upd hp3;have e3:bD (upd H2 p3 (.tup vs1)) (.ref p3) (.tup (cs.map Ed)):=.tup aX (by omega) (Ae.same s3);generalize upd H2 p3 (.tup vs1)=H3 at s3 e3 |-;have S3:=s2.aA s3;refine ⟨al,[],[],rfl,S3 _ _ el,rfl,by decide,λl ns' fl pm _=>?_⟩;obtain rfl:ns'=[]:=List.perm_nil.mp pm;have s5:aF H3 (upd H3 l (.lst (([]:List Int).map V.int))):=(aF.refl H3).upd fl;have e5:upd H3 l (.lst (([]:List Int).map V.int)) l=some (.lst []):=aX;generalize upd H3 l (.lst (([]:List Int).map V.int))=H5 at s5 e5 |-;refine ⟨l,rfl,⟨_,aV.of e5⟩,λD2 fD2=>V7 fD2 e5 ?_⟩;have s6:aF H5 (upd H5 D2 (.lst [])):=(aF.refl H5).upd fD2;have e6:upd H5 D2 (.lst []) D2=some (.lst []):=aX;generalize upd H5 D2 (.lst [])=H6 at s6 e6 |-;refine ⟨D2,rfl,⟨_,aV.of e6⟩,λD3 fD3=>V7 fD3 e6 ?_⟩;have s7:aF H6 (upd H6 D3 (.lst [])):=(aF.refl H6).upd fD3;have e7:upd H6 D3 (.lst []) D3=some (.lst []):=aX;generalize upd H6 D3 (.lst [])=H7 at s7 e7 |-;refine ⟨D3,[],rfl,.inl ⟨aV.of e7,λt ft=>?_⟩⟩;have s8:aF H7 (upd H7 t (.tup [])):=(aF.refl H7).upd ft;have e8:bD (upd H7 t (.tup [])) (.ref t) (.tup []):=.tup aX (by show 0<=25; decide) .nil;generalize upd H7 t (.tup [])=H8 at s8 e8 |-;refine ⟨by show 2<=aO; omega,λr fr=>?_⟩;have s9:aF H8 (upd H8 r (.tup [.ref p3,.ref t])):=(aF.refl H8).upd fr;have S9:aF H3 (upd H8 r (.tup [.ref p3,.ref t])):=(((s5.aA s6).aA s7).aA s8).aA s9;exact q _ _ (.tup aX (by show 2<=25; decide) (.cons (e3.same S9) (.cons (e8.same s9) .nil))) (S3.aA S9)
theorem aoO:cW ["self","houses"] ["self","houses"] (bw Ug):=dX
theorem amN{NH:au}(F:pG K "__init__" "Keeper.__init__" Ug f fd)(T:Txt mg t8 t6 tR tL)(TC:KCls K mg C)(xH:JT K NH [.type "ValueError",.type "Exception",.type "BaseException",.type "object"] "ValueError.__new__" = true)(mH:mg "NoHouse" = some (.ref NH))(aoc:Cl P w K mg base 4 "are_empty_houses" ["thing"] (gQ wH)):bf P w K mg base (Af P w) 5 f fd ["self","houses"] (Qw C NH):=by refine F.okN aoO (λvs H Q E h=>?_) (λcdv A outer s H vs Q E hr h=>?_);obtain ⟨x,dx,ch,d,rfl,_⟩:=h;rfl;obtain ⟨x,dx,ch,d,rfl,ex,hc,q1,q2⟩:=h;have dO:=cQ;refine ⟨_,(aP (cP (dg (dD (pC aoc hr (aq (pV 1) aD)))) (aU (am2 afZ xH rfl mH (aq qC aD))) cN) (aP (La (pV 0) (pV 1) rfl) (aP (La (pV 0) yK rfl) (aP (La (pV 0) yK rfl) (aU (La (pV 0) yK rfl)))))),?_⟩;refine ⟨ch,d,rfl,hc,λH1 s1=>?_⟩;show if (!wH d)=true then _ else _;cases hcd:wH d with| false =>exact ⟨by show 1<=aO; omega,q2 hcd _ s1⟩| true =>have ex1:=s1 _ _ ex;refine ⟨x,C,dx,[],rfl,ex1,TC.cl,TC.nH,by show 0<1000; decide,?_⟩;intro ak fk;have nxk:x≠ak:=λz=>(by rw [<- z,aX] at fk; cases fk);refine ⟨x,C,dx,_,rfl,by rw [aW nxk]; exact aX,TC.cl,TC.nK,by show 1<1000; decide,?_⟩;intro al fl;have nxl:x≠al:=λz=>(by rw [<- z,aX] at fl; cases fl);refine ⟨x,C,dx,_,rfl,by rw [aW nxl]; exact aX,TC.cl,TC.nL,by show 2<1000; decide,?_⟩;intro ae fe;have nxe:x≠ae:=λz=>(by rw [<- z,aX] at fe; cases fe);refine ⟨x,C,dx,_,rfl,by rw [aW nxe]; exact aX,TC.cl,TC.nE,by show 3<1000; decide,?_⟩;have fk1:H1 ak=none:=(by rw [aW (bW nxk)] at fk; exact fk);have nlk:al≠ak:=λz=>(by rw [z,aW (bW nxk),aX] at fl; cases fl);have fl1:H1 al=none:=(by rw [aW (bW nxl),aW nlk,aW (bW nxl)] at fl; exact fl);have nel:ae≠al:=λz=>(by rw [z,aW (bW nxl),aX] at fe; cases fe);have nek:ae≠ak:=λz=>(by rw [z,aW (bW nxk),aW (bW nlk),aW (bW nxk),aX] at fe; cases fe);have fe1:H1 ae=none:=(by rw [aW (bW nxe),aW nel,aW (bW nxe),aW nek,aW (bW nxe)] at fe; exact fe);refine q1 hcd ak al ae _ aX ?_ ?_ (λb o n e=>?_);rw [aW (bW nxk),aW (bW nek),aW (bW nxk),aW (bW nlk),aW (bW nxk),aX];rw [aW (bW nxl),aW (bW nel),aW (bW nxl),aX];have e1:=s1 _ _ e;rw [aW n,aW (dN e1 fe1),aW n,aW (dN e1 fl1),aW n,aW (dN e1 fk1),aW n];exact e1
theorem af9:cW ["self"] ["self"] (bw Ww):=dX
theorem anT(F:pG K "ledger" "Keeper.ledger" Ww f fd)(TC:KCls K mg C)(alU:Cl P w K mg base 2 "put_down" ["houses","rows","letters"] Vz):bf P w K mg base bB 3 f fd ["self"] (Ti C):=by refine F.ok af9 (λvs H Q E h=>?_) (λcdv A outer s H vs Q E hr h=>?_);obtain ⟨x,dx,a,ak,al,ae,us,cs,rfl,_⟩:=h;rfl;obtain ⟨x,dx,a,ak,al,ae,us,cs,rfl,ob,ea,da,few,gd,ek,el,q⟩:=h;refine ⟨_,(aU (bx (pC alU hr (aq (Vf (pV 0) rfl) (aq (Vf (pV 0) rfl) (aq (Vf (pV 0) rfl) aD)))))),?_⟩;refine ⟨x,C,dx,_,_,rfl,ob,TC.cl,TC.nH,ai7 _ _ _ _,x,C,dx,_,_,rfl,ob,TC.cl,TC.nK,ake _ _ _ _,x,C,dx,_,_,rfl,ob,TC.cl,TC.nL,ag1 _ _ _ _,?_⟩;exact ⟨a,ak,al,us,cs,rfl,ea,da,few,gd,ek,el,q⟩
theorem ahg:bootBuiltins "ValueError" = some (.type "ValueError"):=by rfl
structure Sorts(mg:Str->Option aB)(c:Nat->au):Prop where
 m0:mg "NoBound" = some (.ref (c 0))
 m1:mg "NoPlacing" = some (.ref (c 1))
 m2:mg "NoRow" = some (.ref (c 2))
 m3:mg "NoWord" = some (.ref (c 3))
 m4:mg "TooMany" = some (.ref (c 4))
 m5:mg "NoNumber" = some (.ref (c 5))
 m6:mg "NoOrder" = some (.ref (c 6))
 m7:mg "NoHouse" = some (.ref (c 7))
 m8:mg "NoRun" = some (.ref (c 8))
 m9:mg "NoReading" = some (.ref (c 9))
 m10:mg "NoLetter" = some (.ref (c 10))
 m11:mg "NoMerge" = some (.ref (c 11))
 m12:mg "NoText" = some (.ref (c 12))
 m13:mg "NoCall" = some (.ref (c 13))
 m14:mg "NoKept" = some (.ref (c 14))
 ve:mg "ValueError" = none
 su:mg "sum" = none
structure Rt(K:bV)(c:Nat->au)(C:au)(j:Nat):Prop where
 ex:wI K C=true
 ve:ju K (.ref C) (.type "ValueError")=some true
 is:∀ k,k<15->ju K (.ref C) (.ref (c k))=some (decide (k=j))
 lt:j<15
noncomputable def vg(j:Nat):List Bool:=(iQ 15).map λk=>decide (k=j)
theorem aoa:∀ j,j<15->preSum (kJ (vg j)) 15=1:=by decide
theorem ahm{j:Nat}(h:j<15):(vg j)[j]?=some true/\∀ i,i<j->(vg j)[i]?=some false:=by refine ⟨?_,λi hi=>?_⟩;unfold vg;rw [bL,Wh h];simp;unfold vg;rw [bL,Wh (by omega)];simp;omega
noncomputable def Vq(K:bV)(c:Nat->au):Sp:=λvs H Q _=>sY λ(a C:au)(j:Nat)=>rG (vs=[.ref a]) (H a=some (sU a C)) (Rt K c C j) (∀ H',aF H H'->Q (.int (j:Int)) H')
theorem Hv:cW ["_law_e","_law_sorts"] ["_law_e"] (bw Qi):=dX
theorem aiC{hv:Option aB}(F:eY K "_law_sort" Qi f fd)(T:Txt mg t8 t6 tR tL)(M:Sorts mg c):jT P w K mg base hv 1 f fd ["_law_e"] (Vq K c):=by refine F.okH Hv (λvs H Q E h=>?_) (λcdv A outer s H vs Q E hh hr hsh h=>?_);obtain ⟨a,C,j,rfl,_⟩:=h;rfl;obtain ⟨a,C,j,rfl,ha,so,q⟩:=h;have dO:=cQ;refine ⟨_,(aP (pZ 1 Hv (iU (aq (bh qI rfl T.gK gG (aq (pV 0) (aq (nM (v:=.ref (c 0)) rfl M.m0 rfl) aD))) (aq (bh qI rfl T.gK gG (aq (pV 0) (aq (nM (v:=.ref (c 1)) rfl M.m1 rfl) aD))) (aq (bh qI rfl T.gK gG (aq (pV 0) (aq (nM (v:=.ref (c 2)) rfl M.m2 rfl) aD))) (aq (bh qI rfl T.gK gG (aq (pV 0) (aq (nM (v:=.ref (c 3)) rfl M.m3 rfl) aD))) aD)))))) (aP (pZ 1 Hv (bJ yJ (pV 1) (iU (aq (bh qI rfl T.gK gG (aq (pV 0) (aq (nM (v:=.ref (c 4)) rfl M.m4 rfl) aD))) (aq (bh qI rfl T.gK gG (aq (pV 0) (aq (nM (v:=.ref (c 5)) rfl M.m5 rfl) aD))) (aq (bh qI rfl T.gK gG (aq (pV 0) (aq (nM (v:=.ref (c 6)) rfl M.m6 rfl) aD))) (aq (bh qI rfl T.gK gG (aq (pV 0) (aq (nM (v:=.ref (c 7)) rfl M.m7 rfl) aD))) aD))))))) (aP (pZ 1 Hv (bJ yJ (pV 1) (iU (aq (bh qI rfl T.gK gG (aq (pV 0) (aq (nM (v:=.ref (c 8)) rfl M.m8 rfl) aD))) (aq (bh qI rfl T.gK gG (aq (pV 0) (aq (nM (v:=.ref (c 9)) rfl M.m9 rfl) aD))) (aq (bh qI rfl T.gK gG (aq (pV 0) (aq (nM (v:=.ref (c 10)) rfl M.m10 rfl) aD))) (aq (bh qI rfl T.gK gG (aq (pV 0) (aq (nM (v:=.ref (c 11)) rfl M.m11 rfl) aD))) aD))))))) (aP (pZ 1 Hv (bJ yJ (pV 1) (iU (aq (bh qI rfl T.gK gG (aq (pV 0) (aq (nM (v:=.ref (c 12)) rfl M.m12 rfl) aD))) (aq (bh qI rfl T.gK gG (aq (pV 0) (aq (nM (v:=.ref (c 13)) rfl M.m13 rfl) aD))) (aq (bh qI rfl T.gK gG (aq (pV 0) (aq (nM (v:=.ref (c 14)) rfl M.m14 rfl) aD))) aD)))))) (aP (cP (jP (dg (dD (bh qI rfl T.gK gG (aq (pV 0) (aq (jV (v:=.ty "ValueError") rfl M.ve ahg rfl) aD))))) (pw_or1 (gM oNe (bh (aoV hh) rfl M.su PyProof.Rows.boot_sum (aq (pV 1) aD)) aM (cX _)))) (aU (bx yI)) cN) (aU (bx (Az CV PySem.F.slot_list_index PySem.F.type_list_index aix (pV 1) (aq dG aD))))))))),?_⟩;refine gV λU0 hU0=>?_;refine ⟨a,C,_,.ref (c 0),_,rfl,(λ_ r=>r),ha,so.ex,so.is 0 (by decide),?_⟩;refine ⟨a,C,_,.ref (c 1),_,rfl,(λ_ r=>r),ha,so.ex,so.is 1 (by decide),?_⟩;refine ⟨a,C,_,.ref (c 2),_,rfl,(λ_ r=>r),ha,so.ex,so.is 2 (by decide),?_⟩;refine ⟨a,C,_,.ref (c 3),_,rfl,(λ_ r=>r),ha,so.ex,so.is 3 (by decide),?_⟩;refine ⟨by show 4<=aO; omega,λl0 agl=>?_⟩;show U0 _ _;subst hU0;refine gE agl λal6 akT am4=>?_;have S0:aF H al6:=akT;refine gV λU1 yV=>?_;refine ⟨a,C,_,.ref (c 4),_,rfl,(λ_ r=>r),(S0 _ _ ha),so.ex,so.is 4 (by decide),?_⟩;refine ⟨a,C,_,.ref (c 5),_,rfl,(λ_ r=>r),(S0 _ _ ha),so.ex,so.is 5 (by decide),?_⟩;refine ⟨a,C,_,.ref (c 6),_,rfl,(λ_ r=>r),(S0 _ _ ha),so.ex,so.is 6 (by decide),?_⟩;refine ⟨a,C,_,.ref (c 7),_,rfl,(λ_ r=>r),(S0 _ _ ha),so.ex,so.is 7 (by decide),?_⟩;refine ⟨by show 4<=aO; omega,λl1 apM=>?_⟩;refine gE apM λapS aaS amr=>?_;refine ⟨l0,l1,_,_,rfl,rfl,aaS _ _ am4,amr,by show 4+4<=aO; omega,λp1 ah5=>?_⟩;show U1 _ _;subst yV;refine gE ah5 λaln akv ag5=>?_;have S1:aF H aln:=S0.aA (aaS.aA akv);refine gV λU2 hU2=>?_;refine ⟨a,C,_,.ref (c 8),_,rfl,(λ_ r=>r),(S1 _ _ ha),so.ex,so.is 8 (by decide),?_⟩;refine ⟨a,C,_,.ref (c 9),_,rfl,(λ_ r=>r),(S1 _ _ ha),so.ex,so.is 9 (by decide),?_⟩;refine ⟨a,C,_,.ref (c 10),_,rfl,(λ_ r=>r),(S1 _ _ ha),so.ex,so.is 10 (by decide),?_⟩;refine ⟨a,C,_,.ref (c 11),_,rfl,(λ_ r=>r),(S1 _ _ ha),so.ex,so.is 11 (by decide),?_⟩;refine ⟨by show 4<=aO; omega,λl2 ahM=>?_⟩;refine gE ahM λapY adB ajb=>?_;refine ⟨p1,l2,_,_,rfl,rfl,adB _ _ ag5,ajb,by show 8+4<=aO; omega,λp2 aeX=>?_⟩;show U2 _ _;subst hU2;refine gE aeX λalD agh ahX=>?_;have S2:aF H alD:=S1.aA (adB.aA agh);refine gV λU3 hU3=>?_;refine ⟨a,C,_,.ref (c 12),_,rfl,(λ_ r=>r),(S2 _ _ ha),so.ex,so.is 12 (by decide),?_⟩;refine ⟨a,C,_,.ref (c 13),_,rfl,(λ_ r=>r),(S2 _ _ ha),so.ex,so.is 13 (by decide),?_⟩;refine ⟨a,C,_,.ref (c 14),_,rfl,(λ_ r=>r),(S2 _ _ ha),so.ex,so.is 14 (by decide),?_⟩;refine ⟨by show 3<=aO; omega,λl3 aiM=>?_⟩;refine gE aiM λap3 ad5 apE=>?_;refine ⟨p2,l3,_,_,rfl,rfl,ad5 _ _ ahX,apE,by show 12+3<=aO; omega,λp3 akm=>?_⟩;show U3 _ _;subst hU3;refine gE akm λacZ aja ahT=>?_;have S3:aF H acZ:=S2.aA (ad5.aA aja);have el:acZ p3=some (.lst ((vg j).map V.bl)):=ahT;have ln:(vg j).length=15:=(by unfold vg; rw [aL,Ib]);refine ⟨a,C,_,.type "ValueError",_,rfl,(λ_ r=>r),S3 _ _ ha,so.ex,so.ve,?_⟩;refine ⟨p3,vg j,rfl,aV.of el,by omega,hsh.same S3,?_⟩;have e1:preSum (kJ (vg j)) (vg j).length=1:=(by rw [ln]; exact aoa j so.lt);rw [e1];obtain ⟨a1,a2⟩:=ahm so.lt;refine ⟨.inl ⟨rfl,_,aV.of el⟩,?_⟩;exact ⟨p3,vg j,j,rfl,rfl,el,by omega,a1,a2,q _ S3⟩
theorem _root_.L2.qR.mark{k:Nat}{A:iI}{v:Option aB}(r:qR k A):qR k (A.mark v):=⟨r.dp,r.un⟩
noncomputable def pyC:Da->rZ
 | .tup [.str n,.int l,.int h,.int d]=>.tuple [.str n,.int l,.int h,.int d,.tuple []]
 | _=>.none
noncomputable def Fy(cs:List Da):rZ:=.tuple [.tuple (cs.map pyC),.tuple []]
theorem adg{K:bV}{H:Hp}:∀{cs:List Da}{vs:List V},cs.all jg=true->cH H vs (cs.map Ed)->wJ K H vs (cs.map pyC)
 | [],vs,_,h=>by obtain rfl:=h.Im;exact .nil
 | x :: cs,vs,g,h=>by rw [pP] at g;obtain ⟨g1,g2⟩:=cB.mp g;obtain ⟨v,r,rfl,h1,h2⟩:=cH.inv h;refine .cons ?_ (adg g2 h2);obtain ⟨n,l,hh,d,rfl,_⟩:=Oc g1;obtain ⟨a,us,rfl,ea,_,ra⟩:=bD.dW (xs:=[.str n,.int l,.int hh,.int d,.tup []]) h1;obtain ⟨v1,v2,v3,v4,v5,rfl,d1,d2,d3,d4,d5⟩:=ra.five;cases d1;cases d2;cases d3;cases d4;obtain ⟨b,ws,rfl,eb,_,rb⟩:=d5.dW;obtain rfl:=rb.Im;exact .tup (aH.of ea) (.cons (.str _) (.cons (.int _) (.cons (.int _) (.cons (.int _) (.cons (.tup (aH.of eb) .nil) .nil)))))
variable{cs:List Da}
theorem ab0(g:cs.all jg=true)(h:bD H v (Mu cs)):Dp K H v (Fy cs):=by obtain ⟨a,us,rfl,ea,_,ra⟩:=bD.dW (xs:=[.tup (cs.map Ed),.tup []]) h;obtain ⟨v1,v2,rfl,d1,d2⟩:=ra.two;obtain ⟨b,ws,rfl,eb,_,rb⟩:=d1.dW;obtain ⟨e,zs,rfl,ee,_,re⟩:=d2.dW;obtain rfl:=re.Im;exact .tup (aH.of ea) (.cons (.tup (aH.of eb) (adg g rb)) (.cons (.tup (aH.of ee) .nil) .nil))
theorem aen:∀{cs:List Da},cs.all jg=true->yS (cs.map pyC)=true/\BW (cs.map pyC)<=2
 | [],_=>⟨rfl,dR _⟩
 | x :: cs,g=>by rw [pP] at g;obtain ⟨g1,g2⟩:=cB.mp g;obtain ⟨n,l,hh,d,rfl,gn⟩:=Oc g1;obtain ⟨h1,h2⟩:=aen g2;have z:=gn.ok;rw [fM,show pyC (.tup [.str n,.int l,.int hh,.int d])=.tuple [.str n,.int l,.int hh,.int d,.tuple []] from rfl];refine ⟨?_,?_⟩;simp [Dd,yS,z,h1];simp only [CK,BW];exact Nat.max_le.mpr ⟨by decide,h2⟩
theorem Rm(g:cs.all jg=true):tZ (Fy cs)=true:=by obtain ⟨h1,h2⟩:=aen g;unfold tZ;rw [pF];refine ⟨?_,cg ?_⟩;simp [Fy,Dd,yS,h1];simp only [Fy,CK,BW];omega
theorem ajF(g:cs.all jg=true):yt (Fy cs) (Fy cs)=true:=SeqAt.eqv_refl _ (cB.mp (Rm g)).1
noncomputable def Ur:Sp:=λvs H Q _=>∃(x:V)(d:Da),vs=[x]/\bD H x d/\∀ H',aF H H'->Q (.bl true) H'
theorem aeB:cW ["_law_thing","_law_keeper","_law_e"] ["_law_thing"] (bw Ov):=dX
theorem agc{aae acV XH Xo Sk:au}{YQ aef adC Zg:jU}(F:eY K "_law_keeper_right" Ov f fd)(T:Txt mg t8 t6 tR tL)(TC:KCls K mg C)(M:Mk K C aae)(mL:Meth K C "ledger" acV)(mS:mg "SkewError" = some (.ref Sk))(em:Km K (.ref (c 7)) (.ref Sk)=some true)(so:Rt K c (c 7) 7)(alA:bf P w K mg base (Af P w) 5 aae YQ ["self","houses"] (Qw C (c 7)))(aiQ:cj K YQ ["self","houses"] [])(agv:bf P w K mg base bB 6 acV aef ["self"] (Ti C))(am1:cj K aef ["self"] [])(afM:∀ hv,jT P w K mg base hv 6 XH adC ["_law_e"] (Vq K c))(ajs:mg "_law_sort" = some (.ref XH))(aoK:nu K (.ref XH)=true)(ait:cj K adC ["_law_e"] [])(Y9:∀ hv,jT P w K mg base hv 6 Xo Zg ["_law_thing"] (gQ wH))(acs:mg "_law_clocks_good" = some (.ref Xo))(ab7:nu K (.ref Xo)=true)(ab9:cj K Zg ["_law_thing"] []):bf P w K mg base bB 7 f fd ["_law_thing"] Ur:=by refine F.ok aeB (λvs H Q E h=>?_) (λcdv A outer s H vs Q E hr h=>?_);obtain ⟨x,d,rfl,_⟩:=h;rfl;obtain ⟨x,d,rfl,hd,q⟩:=h;have dO:=cQ;have apQ:=(Y9 none).ok;refine ⟨_,(aP (alJ (i:=2) (j:=1) M alA hr rfl TC.mgC aiQ .nil (aq (pV 0) aD) rfl rfl aeB.nd rfl (Or.inl rfl) rfl rfl rfl mS (ts:=_) (λa E'=>(aU (bx (mZ (jW oEq (Em (afM (some (.ref a))) rfl hr.h.mark rfl ajs aoK ait .nil (aq (pV 2) aD)) aM (cX _)) (oF (VG (Em (Y9 (some (.ref a))) rfl hr.h.mark rfl acs ab7 ab9 .nil (aq (pV 0) aD))))))))) (aP (cP (dg (dD (zK apQ hr rfl acs ab7 ab9 .nil yj (aq (pV 0) aD)))) (aU (bx dG)) cN) (aU (bx (jW (acw hr.units) (aj0 (pV 1) TC.cl mL agv hr am1 .nil yj) (kY (aq (oO vC rfl T.tuple jA (aq (iG (bN:=bw Ov) (own:=["_law_clock"]) (cap:=[]) (ix:=[]) rfl rfl fH (fY (pV 0)) (λb=>(pH 0 ["_law_clock"])) (λb=>fu) (λb=>(bJ xu (pV 0) (kY (aq (kY aD) aD))))) aD)) (aq (kY aD) aD))) (by with_unfolding_all rfl)))))),?_⟩;intro k dk fk fdk ndk;have s1:aF H (upd (upd H dk (.own k)) k (.ins C dk [])):=λb o e=>(by rw [aW (dN e fk),aW (dN e fdk)]; exact e);have e1:upd (upd H dk (.own k)) k (.ins C dk []) k=some (.ins C dk []):=aX;generalize upd (upd H dk (.own k)) k (.ins C dk [])=H1 at s1 e1 |-;refine ⟨k,dk,x,d,rfl,e1,hd.same s1,λcd ak al ae H2 ob ek el oth=>⟨rfl,?_⟩,λcd H2 s2=>⟨em,λa C' ec na=>?_⟩⟩;have S2:aF H H2:=λb o e=>oth b o (dN e fk) (s1 _ _ e);refine ⟨x,d,rfl,hd.same S2,λH3 s3=>?_⟩;rw [cd];have S3:=S2.aA s3;(cases d with| tup cs =>have cd':=cd;unfold wH at cd';obtain ⟨c1,cd'⟩:=cB.mp cd';obtain ⟨c2,cd'⟩:=cB.mp cd';obtain ⟨c3,_⟩:=cB.mp cd';have l6:=dB c2;obtain ⟨a,us,rfl,ea,la,ra⟩:=hd.dW;have lu:=ra.len;refine ⟨k,dk,_,rfl,s3 _ _ ob,rfl,?_⟩;refine ⟨k,dk,a,ak,al,ae,us,cs,rfl,s3 _ _ ob,S3 _ _ ea,ra.same S3,l6,c3,s3 _ _ ek,s3 _ _ el,λv H4 hv s4=>?_⟩;have S4:=S3.aA s4;refine ⟨a,rfl,⟨_,aH.of (S4 _ _ ea)⟩,λD fD=>WY (f:=Ed) fD (S4 _ _ ea) (ra.same S4) (by omega) (λy e H5 me hy s5 b R hR=>?_) (λvs1 H5 s5 eD Ae=>?_)⟩;obtain ⟨n,l,h,dd,rfl,gn⟩:=Oc (fW.mp c3 e me);exact TD.use (aj:=[some y]) (Dg (Z5 hy) (zA (fj (zA nj (by decide)) nj) (by exact oN rfl)) (by show 4+1<=25; decide)) (aF.refl _) λu H6 s6 h6=>hR u H6 s6 h6;refine ⟨D,vs1,rfl,.inl ⟨aV.of eD,λp6 hp6=>?_⟩⟩;have lv:=Ae.len;rw [aL] at lv;have s6:aF H5 (upd H5 p6 (.tup vs1)):=(aF.refl H5).upd hp6;have e6:bD (upd H5 p6 (.tup vs1)) (.ref p6) (.tup (cs.map Ed)):=.tup aX (by omega) (Ae.same s6);generalize upd H5 p6 (.tup vs1)=H6 at s6 e6 |-;refine ⟨dR _,λp7 hp7=>?_⟩;have s7:aF H6 (upd H6 p7 (.tup [])):=(aF.refl H6).upd hp7;have e7:bD (upd H6 p7 (.tup [])) (.ref p7) (.tup []):=.tup aX (by show 0<=25; decide) .nil;generalize upd H6 p7 (.tup [])=H7 at s7 e7 |-;refine ⟨by show 2<=aO; omega,λp8 hp8=>?_⟩;have s8:aF H7 (upd H7 p8 (.tup [.ref p6,.ref p7])):=(aF.refl H7).upd hp8;have e8:bD (upd H7 p8 (.tup [.ref p6,.ref p7])) (.ref p8) (Mu cs):=.tup aX (by show 2<=25; decide) (.cons (e6.same (s7.aA s8)) (.cons (e7.same s8) .nil));generalize upd H7 p8 (.tup [.ref p6,.ref p7])=H8 at s8 e8 |-;have S8:=s5.aA (s6.aA (s7.aA s8));refine ⟨_,_,ab0 c3 (hv.same S8),ab0 c3 e8,Rm c3,Rm c3,?_⟩;rw [ajF c3];exact q H8 (S4.aA S8)| _=>cases cd);cases ec;have S2:=s1.aA s2;have s3:aF H2 (upd H2 a (sU a (c 7))):=(aF.refl H2).upd na;have e3:upd H2 a (sU a (c 7)) a=some (sU a (c 7)):=aX;generalize upd H2 a (sU a (c 7))=H3 at s3 e3 |-;have hu:qj (some (.ref a)) H3:=.inr ⟨a,c 7,rfl,e3⟩;refine ⟨hu,a,c 7,7,rfl,e3,so,λH4 s4=>?_⟩;have S4:=S2.aA (s3.aA s4);refine ⟨hu.same s4,x,d,rfl,hd.same S4,λH5 s5=>?_⟩;rw [cd];exact q H5 (S4.aA s5)
noncomputable def Bd(hs:List bK)(ls:List gY):Da:=.tup [uM hs,uF ls]
noncomputable def CZ(ss:List Str)(m:Str->Int):Da:=oR (iR ss m)
noncomputable def zY(h:bK):Da:=.tup [.str h.name,.int h.low,.int h.high,.int h.bZ]
noncomputable def Jl(hs:List bK):Da:=.tup (hs.map zY)
theorem Fq{b:Nat}:∀{xs:List Da},(∀ x∈xs,wt x<=b)->lH xs<=xs.length * b
 | [],_=>by simp only [lH]; omega
 | x :: xs,h=>by have a:=h x gU;have c:=Fq (xs:=xs) λy hy=>h y (iM _ hy);simp only [lH,iz,Nat.succ_mul];omega
theorem agG:∀{xs:List Da},(∀ x∈xs,mj x=true)->eU (.tup xs)=false
 | [],_=>rfl
 | [_],_=>rfl
 | [a,b],h=>by have z:=h a gU;cases a with| tup _=>rfl| _=>cases z
 | _ :: _ :: _ :: _,_=>rfl
theorem rw_tups(h:∀ x∈xs,mj x=true):cY (.tup xs)=rws xs:=by rw [show cY (.tup xs)=(if eU (.tup xs)=true then 1 else 0)+rws xs by simp only [cY],agG h];simp
theorem Ja{bM:Type}{f:bM->Da}{xs:List bM}(h:∀ x,mj (f x)=true):∀ y∈xs.map f,mj y=true:=λy hy=>by
 obtain ⟨x,_,rfl⟩:=cZ.mp hy;exact h x
theorem rw_row(r:Row):cY (iB r)<=1:=by have:=rw_le [.str r.1,.int r.2];simp only [rws,cY] at this;exact this
theorem rw_rows:∀(rs:List Row),rws (rs.map iB)<=rs.length
 | []=>by simp only [yR,rws]; omega
 | r :: rs=>by have a:=rw_row r;have b:=rw_rows rs;simp only [fM,rws,iz];omega
theorem rw_runDa(r:List Row):cY (oR r)<=r.length:=by unfold oR;rw [rw_tups (Ja λ_=>rfl)];exact rw_rows r
theorem rw_runs:∀(rs:List (List Row)),rws (rs.map oR)<=rs.flatten.length
 | []=>by simp only [yR,rws]; omega
 | r :: rs=>by have a:=rw_runDa r;have b:=rw_runs rs;simp only [fM,rws,JD,dZ];omega
theorem rw_house(h:bK):cY (jK h)<=(cV h).length:=by have a:=rw_runs h.runs;have e:cY (jK h)=cY (vJ h.runs):=(by unfold jK;simp only [cY,rws,eU];simp);have e2:cY (vJ h.runs)=rws (h.runs.map oR):=(by unfold vJ;exact rw_tups (Ja λ_=>rfl));have e3:(cV h).length=h.runs.flatten.length:=(by unfold cV iT; rw [aL]);omega
theorem rw_houses:∀(hs:List bK),rws (hs.map jK)<=(cG hs).length
 | []=>by simp only [yR,rws]; omega
 | h :: hs=>by have a:=rw_house h;have b:=rw_houses hs;have e:cG (h :: hs)=cV h++cG hs:=(by unfold cG; rw [Bq]);rw [e,dZ];simp only [fM,rws];omega
theorem rw_letter(l:gY):cY (j7 l)=0:=by unfold j7;cases l.2.2 <;> simp [cY,rws,eU,Bv]
theorem rw_lets:∀(ls:List gY),rws (ls.map j7)=0
 | []=>by simp only [yR,rws]
 | l :: ls=>by simp only [fM,rws,rw_letter,rw_lets ls]
theorem rw_clks:∀(hs:List bK),rws (hs.map zY)=0
 | []=>by simp only [yR,rws]
 | h :: hs=>by have e:cY (zY h)=0:=(by unfold zY; simp [cY,rws,eU]);simp only [fM,rws,e,rw_clks hs]
structure Base(d:Da):Prop where
 sm:cT 0 d=true
 dp:dep d<=6
 wt:wt d<=1000
 rw:cY d<=10
theorem adn{B:Int}{r:Row}(g:fU r.1)(a:-B<=r.2/\r.2<=B)(b:B<=10000):cT 0 (iB r)=true:=by refine mG.mpr ⟨by show 2<=12; decide,λx hx=>?_⟩;simp only [dU,lC,or_false] at hx;rcases hx with rfl | rfl;exact wN (by have:=g.hi; omega);exact oY (by omega)
theorem aoP(r:Row):dep (iB r)=1:=by unfold iB; simp [dep,deps]
theorem amZ(r:Row):wt (iB r)=3:=by unfold iB; simp [wt,lH]
theorem acr(r:List Row):dep (oR r)<=2:=by unfold oR;rw [vd];have:deps (r.map iB)<=1:=yE λx hx=>(by obtain ⟨y,_,rfl⟩:=cZ.mp hx;rw [aoP];exact bG _);omega
theorem acq(r:List Row):wt (oR r)<=1+r.length * 3:=by unfold oR;have:=Fq (xs:=r.map iB) (b:=3) λx hx=>(by obtain ⟨y,_,rfl⟩:=cZ.mp hx;rw [amZ];exact bG _);rw [aL] at this;simp only [wt];omega
variable{hs:List bK}{ls:List gY}{ss:List Str}{m:Str->Int}
theorem Drawn.ten(D:Drawn hs ls ss m):(cG hs).length<=10:=by rw [<- D.rows.1.length_eq];exact D.nm.2.1
theorem aeD{h:bK}{r:List Row}(n:(cG hs).length<=10)(hh:h∈hs)(hr:r∈h.runs):r.length<=10:=by have a:r.length<=(cV h).length:=(by unfold cV iT;rw [aL];exact (abj hr).length_le);have b:(cV h).length<=(cG hs).length:=(by unfold cG;rw [Kq];exact (abj (cZ.mpr ⟨h,hh,rfl⟩)).length_le);omega
theorem ami(D:Drawn hs ls ss m):Base (CZ ss m):=by have l:(iR ss m).length<=10:=(by unfold iR; rw [aL]; exact D.nm.2.1);refine ⟨mG.mpr ⟨by rw [aL]; omega,λx hx=>?_⟩,?_,?_,?_⟩;obtain ⟨r,hr,rfl⟩:=cZ.mp hx;obtain ⟨n,hn,rfl⟩:=cZ.mp hr;exact adn (B:=2000) (D.nm.1 n hn) (D.mo n hn) (by decide);have:=acr (iR ss m); unfold CZ; omega;have:=acq (iR ss m); unfold CZ; omega;have:=rw_runDa (iR ss m); unfold CZ; omega
theorem apc(D:Drawn hs ls ss m):Base (Jl hs):=by have l:=D.nm.2.2;refine ⟨mG.mpr ⟨by rw [aL]; omega,λx hx=>?_⟩,?_,?_,?_⟩;obtain ⟨h,hh,rfl⟩:=cZ.mp hx;have g:=D.gw h hh;have b1:=g.QL;have b2:=g.TX;have b3:=g.aaq;have b4:=g.bZ;have b5:=g.wide;refine mG.mpr ⟨by show 4<=12; decide,λx hx=>?_⟩;simp only [dU,lC,or_false] at hx;rcases hx with rfl | rfl | rfl | rfl;exact wN (by have:=g.name.hi; omega);exact oY (by omega);exact oY (by omega);exact oY (by omega);unfold Jl;rw [vd];have:deps (hs.map zY)<=1:=yE λx hx=>(by obtain ⟨h,_,rfl⟩:=cZ.mp hx;unfold zY;simp [dep,deps]);omega;unfold Jl;have:=Fq (xs:=hs.map zY) (b:=5) λx hx=>(by obtain ⟨h,_,rfl⟩:=cZ.mp hx;unfold zY;simp [wt,lH]);rw [aL] at this;simp only [wt];omega;unfold Jl;rw [rw_tups (Ja λ_=>rfl),rw_clks];exact dR _
theorem aj6{h:bK}(n:(cG hs).length<=10)(hh:h∈hs)(g:GoodW h):cT 0 (jK h)=true/\dep (jK h)<=4/\wt (jK h)<=99:=by have b1:=g.QL;have b2:=g.TX;have b3:=g.aaq;have b4:=g.bZ;have b5:=g.wide;have b6:=g.ak5;have rn:cT 0 (vJ h.runs)=true/\dep (vJ h.runs)<=3/\wt (vJ h.runs)<=94:=(by unfold vJ;refine ⟨mG.mpr ⟨by rw [aL]; omega,λx hx=>?_⟩,?_,?_⟩;obtain ⟨r,hr,rfl⟩:=cZ.mp hx;have l:=aeD n hh hr;refine mG.mpr ⟨by rw [aL]; omega,λy hy=>?_⟩;obtain ⟨w,hw,rfl⟩:=cZ.mp hy;exact adn (B:=1000) ((g.runs r hr).names w hw) (g.near w (Bh.mpr ⟨r,hr,hw⟩)) (by decide);rw [vd];have:deps (h.runs.map oR)<=2:=yE λx hx=>(by obtain ⟨r,_,rfl⟩:=cZ.mp hx;exact acr r);omega;have:=Fq (xs:=h.runs.map oR) (b:=31) λx hx=>(by obtain ⟨r,hr,rfl⟩:=cZ.mp hx;have l:=aeD n hh hr;have:=acq r;omega);rw [aL] at this;simp only [wt];omega);refine ⟨mG.mpr ⟨by show 5<=12; decide,λx hx=>?_⟩,?_,?_⟩;simp only [dU,lC,or_false] at hx;rcases hx with rfl | rfl | rfl | rfl | rfl;exact wN (by have:=g.name.hi; omega);exact oY (by omega);exact oY (by omega);exact oY (by omega);exact rn.1;have:=rn.2.1;unfold jK;simp only [dep,deps];omega;have:=rn.2.2;unfold jK;simp only [wt,lH];omega
theorem afu{l:gY}(g1:fU l.1.1)(g2:fU l.1.2)(lo:1<=l.2.1)(hi:∀ m,l.2.2=some m->l.2.1<=m)(n:OJ 4100 l):cT 0 (j7 l)=true/\dep (j7 l)=1/\wt (j7 l)=5:=by have a:=g1.hi;have b:=g2.hi;have c:=n.1;refine ⟨mG.mpr ⟨by show 4<=12; decide,λx hx=>?_⟩,?_,?_⟩;simp only [dU,lC,or_false] at hx;rcases hx with rfl | rfl | rfl | rfl;exact wN (by omega);exact wN (by omega);exact oY (by omega);(cases e:l.2.2 with| none=>simp only [Bv,cT]| some i =>have:=hi i e;have:=n.2 i e;exact oY (by omega));unfold j7;cases l.2.2 <;> simp [dep,deps,Bv];unfold j7;cases l.2.2 <;> simp [wt,lH,Bv]
theorem anz(D:Drawn hs ls ss m):Base (Bd hs ls):=by have n:=D.ten;have l4:=D.nm.2.2;have l6:=D.l6;have hh:=λh (z:h∈hs)=>aj6 n z (D.gw h z);have hl:=λl (z:l∈ls)=>afu (D.gl.all l z).sent (D.gl.all l z).taken (D.gl.all l z).least (D.gl.all l z).most (D.nl l z);refine ⟨mG.mpr ⟨by show 2<=12; decide,λx hx=>?_⟩,?_,?_,?_⟩;simp only [dU,lC,or_false] at hx;rcases hx with rfl | rfl;refine mG.mpr ⟨by rw [aL]; omega,λy hy=>?_⟩;obtain ⟨h,z,rfl⟩:=cZ.mp hy;exact (hh h z).1;refine mG.mpr ⟨by rw [aL]; omega,λy hy=>?_⟩;obtain ⟨l,z,rfl⟩:=cZ.mp hy;exact (hl l z).1;have a:deps (hs.map jK)<=4:=yE λx hx=>(by obtain ⟨h,z,rfl⟩:=cZ.mp hx;exact (hh h z).2.1);have b:deps (ls.map j7)<=1:=yE λx hx=>(by obtain ⟨l,z,rfl⟩:=cZ.mp hx;exact LC (hl l z).2.1);unfold Bd uM uF;simp only [dep,deps];omega;have a:=Fq (xs:=hs.map jK) (b:=99) λx hx=>(by obtain ⟨h,z,rfl⟩:=cZ.mp hx;exact (hh h z).2.2);have b:=Fq (xs:=ls.map j7) (b:=5) λx hx=>(by obtain ⟨l,z,rfl⟩:=cZ.mp hx;exact LC (hl l z).2.2);rw [aL] at a b;unfold Bd uM uF;simp only [wt,lH];omega;have a:=rw_houses hs;have b:=rw_lets ls;have e1:cY (uM hs)=rws (hs.map jK):=rw_tups (Ja λ_=>rfl);have e2:cY (uF ls)=rws (ls.map j7):=rw_tups (Ja λl=>rfl);have e3:cY (Bd hs ls)=rws [uM hs,uF ls]:=rw_tups λx hx=>(by simp only [dU,lC,or_false] at hx;rcases hx with rfl | rfl <;> rfl);have e4:rws [uM hs,uF ls]=cY (uM hs)+cY (uF ls):=(by simp only [rws]; omega);omega
theorem aom:cW ["_law_found","_law_due"] ["_law_found","_law_due"] (bw sIs):=dX
theorem anL(F:eY K "_law_is" sIs f fd)(T:Txt mg t8 t6 tR tL):bf P w K mg base bB 1 f fd ["_law_found","_law_due"] V0:=by refine F.ok aom (λvs H Q E h=>?_) (λcdv A outer s H vs Q E hr h=>?_);obtain ⟨b,c,rfl,_⟩:=h;rfl;obtain ⟨b,c,rfl,q⟩:=h;refine ⟨_,(aU (bx (mZ (bh kO rfl T.gK gG (aq (pV 0) (aq (jV (v:=.ty "bool") rfl T.bool R0 rfl) aD))) (oF (jW abS (pV 0) (pV 1) (cX _)))))),?_⟩;refine ⟨.bl b,_,_,_,rfl,.bl b,(vm (K:=K) (jX.bl (H:=H) b)).2.1,?_⟩;refine ⟨rfl,?_⟩;have e:decide (V.bl b=V.bl c)=(b == c):=(by cases b <;> cases c <;> rfl);rw [e];exact q
noncomputable def cutD:Da->Da
 | .tup xs=>.tup (xs.take 4)
 | d=>d
theorem anM(hs:List bK):(hs.map jK).map cutD=hs.map zY:=by rw [nA]; rfl
noncomputable def QV:Sp:=λvs H Q _=>QX7 λ(c:Int)(x t:V)(hs:List bK)(ls:List gY)(ss:List Str)(m:Str->Int)=>vK (vs=[.int c,x,t]) (Cu c<=1500000) (uz H x hs ls) (oH H t (iR ss m)) (Drawn hs ls ss m) (∀ H',aF H H'->Q (.bl true) H')
theorem akz(D:Drawn hs ls ss m){t:V}(h:oH H t (iR ss m)):bD H t (CZ ss m):=by obtain ⟨a,vs,rfl,ea,p⟩:=h;have lp:=p.length;have l:(iR ss m).length<=10:=(by unfold iR; rw [aL]; exact D.nm.2.1);refine .tup ea (by omega) ?_;have key:∀{vs:List V}{rs:List Row},eX (je H) vs rs->(∀ r∈rs,fU r.1)->cH H vs (rs.map iB):=λ{vs rs} p=>(by induction p with| nil=>intro _; exact .nil| cons h _ ih =>intro g;obtain ⟨b,rfl,eb⟩:=h;exact .cons (.tup eb (by show 2<=25; decide) (.cons (fU.da (g _ gU)) (.cons (.int _) .nil))) (ih λr hr=>g r (iM _ hr)));refine key p λr hr=>?_;obtain ⟨n,hn,rfl⟩:=cZ.mp hr;exact D.nm.1 n hn
theorem zR:cW ["_law_cell","_law_ledger_here","_law_placing","_law_clocks","_law_some","_law_j","_law_whole_here","_law_pack_here","_law_thing","_law_part"] ["_law_cell","_law_ledger_here","_law_placing"] (bw Nj):=dX
theorem aiR{zT:au}{Dq:jU}(F:eY K "_law_right" Nj f fd)(T:Txt mg t8 t6 tR tL)(gP:Cl P w K mg base 13 "_law_take" ["_law_pack_here","_law_size"] zO)(Ob:Cl P w K mg base 13 "_law_mixed" ["_law_cell"] Kf)(N8:Cl P w K mg base 13 "_law_small" ["_law_thing"] (WX 8))(afH:bf P w K mg base bB 13 zT Dq ["_law_pack_here","_law_thing","_law_some"] (Ie 0 9))(al0:bf P w K mg base bB 13 zT Dq ["_law_pack_here","_law_thing","_law_some"] (Ie 1 9))(Jv:mg "_law_bent" = some (.ref zT))(Hq:nu K (.ref zT)=true)(IK:cj K Dq ["_law_pack_here","_law_thing","_law_some"] [])(Gx:Cl P w K mg base 13 "_law_other" ["_law_pack_here","_law_thing","_law_some"] (Ez 0))(BR:Cl P w K mg base 13 "is_name" ["thing"] (uR K))(Ak:Cl P w K mg base 13 "_law_name" ["_law_thing"] (uR K))(BP:Cl P w K mg base 13 "is_whole" ["thing"] (tY K))(wZ:Cl P w K mg base 13 "_law_whole" ["_law_thing"] (tY K))(aaX:Cl P w K mg base 13 "is_ledger" ["thing"] (gQ Bc))(anf:Cl P w K mg base 13 "_law_ledger_good" ["_law_thing"] U9)(ahV:Cl P w K mg base 13 "_law_keeper_right" ["_law_thing"] Ur)(Zk:Cl P w K mg base 13 "is_placing" ["ledger","thing"] Wi)(ahG:Cl P w K mg base 13 "_law_placing_good" ["_law_ledger_here","_law_thing"] X4)(Gj:Cl P w K mg base 13 "_law_is" ["_law_found","_law_due"] V0):bf P w K mg base bB 14 f fd ["_law_cell","_law_ledger_here","_law_placing"] QV:=by
 refine F.ok zR (λvs H Q E h=>?_) (λcdv A outer s H vs Q E hr h=>?_)
 . obtain ⟨c,x,t,hs,ls,ss,m,rfl,_⟩:=h;rfl
 . obtain ⟨c,x,t,hs,ls,ss,m,rfl,cb,lat,rat,D,qq⟩:=h;have dO:=cQ;refine ⟨_,(aP (pZ 3 zR (oO vC rfl T.tuple jA (aq (iG (bN:=bw Nj) (own:=["_law_house_here"]) (cap:=[]) (ix:=[]) rfl rfl fH (fY (pX dY (pV 1) aM)) (λb=>(pH 0 ["_law_house_here"])) (λb=>fu) (λb=>(jo qP (pV 0) kZ (iu aM)))) aD))) (aP (pZ 4 zR (bJ yJ (pC N8 hr (aq (pV 1) aD)) (pC N8 hr (aq (pV 2) aD)))) (aP (lG lA rfl (anY rfl T.enum (aq (iU (aq (pV 1) (aq (pV 2) (aq (pV 3) aD)))) aD)) (jG rfl (cI (pY 5 zR) (cI (pY 6 zR) jE))) (aP (pZ 7 zR (iU (aq (pC Ob hr (aq (bJ gj (pV 0) (bJ Jd aM (pV 5))) aD)) aD))) (aP (pZ 8 zR (zK afH hr rfl Jv Hq IK .nil yj (aq (pV 7) (aq (pV 6) (aq (pV 4) aD))))) (aP (cP (gM oEq (pC gP hr (aq (pV 7) (aq aM aD))) aM (cX _)) (aU (pZ 8 zR (zK al0 hr rfl Jv Hq IK .nil yj (aq (pV 7) (aq (pV 8) (aq (pV 4) aD)))))) cN) (aP (pZ 9 zR (pC Gx hr (aq (pV 7) (aq (vq mY (pV 4) (pC gP hr (aq (pV 7) (aq (bh jy rfl T.len gO (aq (pV 4) aD)) aD))) (λ_ _=>rfl)) (aq (pV 4) aD))))) (aP (cP (dg (dD (pC Gj hr (aq (pC BR hr (aq (pV 9) aD)) (aq (pC Ak hr (aq (pV 9) aD)) aD))))) (aU (bx dG)) cN) (aP (cP (dg (dD (pC Gj hr (aq (pC BP hr (aq (pV 9) aD)) (aq (pC wZ hr (aq (pV 9) aD)) aD))))) (aU (bx dG)) cN) (aP (cP (jP (dg (dD (pC Gj hr (aq (pC aaX hr (aq (pV 8) aD)) (aq (pC anf hr (aq (pV 8) aD)) aD))))) (pw_or1 (dg (dD (pC ahV hr (aq (pV 8) aD)))))) (aU (bx dG)) cN) (aU (cP (dg (dD (pC Gj hr (aq (pC Zk hr (aq (pV 1) (aq (pV 8) aD))) (aq (pC ahG hr (aq (pV 1) (aq (pV 8) aD))) aD))))) (aU (bx dG)) cN)))))))))) (aU (bx (mZ (pC Gj hr (aq (pC aaX hr (aq (pV 1) aD)) (aq dG aD))) (oF (pC Gj hr (aq (pC Zk hr (aq (pV 1) (aq (pV 2) aD))) (aq dG aD)))))))))),?_⟩;have hX:bD H x (Bd hs ls):=lat.da D.gh D.gl;have hT:bD H t (CZ ss m):=akz D rat;have bX:=anz D;have bT:=ami D;have bC:=apc D;obtain ⟨ax,vx,ex,eax,_,rx⟩:=hX.dW;obtain ⟨y,z,rfl,dy,dz⟩:=rx.two;obtain ⟨ay,vy,ey,eay,ly,ry⟩:=dy.dW;refine gV λU hU=>?_
   subst ex;refine dI (aH.of eax) (i:=0) (v:=y) (by rfl) ?_;subst ey;refine ⟨ay,rfl,⟨_,aH.of eay⟩,λD1 fD1=>WY (f:=cutD) fD1 eay ry (by rw [<- ry.len]; omega) (λv d H2 md hv s2 b R hR=>?_) (λvs1 H1 s1 eD1 Ae=>?_)⟩
   . obtain ⟨h,_,rfl⟩:=cZ.mp md;exact TD.use (aj:=[some v]) (Jh (k:=4) (Z5 (d:=jK h) hv) (oE pD)) (aF.refl _) λu H3 s3 h3=>hR u H3 s3 h3
   refine ⟨D1,vs1,rfl,.inl ⟨aV.of eD1,λkc fkc=>?_⟩⟩;show U _ _;subst hU;rw [anM] at Ae;have lv1:=Ae.len;rw [aL] at lv1;have l4:=D.nm.2.2;have s2:aF H1 (upd H1 kc (.tup vs1)):=(aF.refl H1).upd fkc;have hC:bD (upd H1 kc (.tup vs1)) (.ref kc) (Jl hs):=.tup aX (by omega) (Ae.same s2);generalize upd H1 kc (.tup vs1)=H2 at s2 hC |-;have S2:=s1.aA s2;refine gV λU hU=>?_
   have d1:=bX.dp;have d2:=bT.dp;have w1:=bX.wt;have w2:=bT.wt;refine ⟨_,Bd hs ls,rfl,hX.same S2,by omega,by omega,λl1 us1 ds1 H3 el1 da3 n1 n2 g1 s3=>?_⟩;refine ⟨t,CZ ss m,rfl,hT.same (S2.aA s3),by omega,by omega,λl2 qy ds2 H4 el2 da4 m1 m2 g2 s4=>?_⟩;have lu1:=da3.len;have lu2:=da4.len;refine ⟨l1,l2,us1,qy,rfl,rfl,s4 _ _ el1,el2,by omega,λlS flS=>?_⟩;show U _ _;subst hU;have s5:aF H4 (upd H4 lS (.lst (us1++qy))):=(aF.refl H4).upd flS;have eS:upd H4 lS (.lst (us1++qy)) lS=some (.lst (us1++qy)):=aX;have dS:cH (upd H4 lS (.lst (us1++qy))) (us1++qy) (ds1++ds2):=((da3.same (s4.aA s5)).app (da4.same s5));generalize upd H4 lS (.lst (us1++qy))=H5 at s5 eS dS |-;have S25:aF H2 H5:=(s3.aA s4).aA s5;have S5:aF H H5:=S2.aA S25;have hC5:=hC.same S25
   have gS:∀ e∈ds1++ds2,Al e=true/\cT 0 e=true:=λe he=>by
     rcases iC.mp he with z | z
     . exact ⟨(g1 e z).1,(g1 e z).2 0 bX.sm⟩
     . exact ⟨(g2 e z).1,(g2 e z).2 0 bT.sm⟩
   have lS1:1<=(ds1++ds2).length:=by rw [dZ]; omega
   have lS2:(ds1++ds2).length<=1000000:=by rw [dZ]; omega
   have luS:(us1++qy).length=(ds1++ds2).length:=by rw [dZ,dZ,lu1,lu2]
   generalize us1++qy=us at eS dS luS |-;generalize ds1++ds2=ds at dS gS lS1 lS2 luS |-;refine ⟨by show 3<=aO; omega,λlE flE=>?_⟩;have s6:aF H5 (upd H5 lE (.lst [.ref ax,t,.ref kc])):=(aF.refl H5).upd flE;have eE:upd H5 lE (.lst [.ref ax,t,.ref kc]) lE=some (.lst [.ref ax,t,.ref kc]):=aX;generalize upd H5 lE (.lst [.ref ax,t,.ref kc])=H6 at s6 eE |-;have S6:=S5.aA s6;refine ⟨lE,_,rfl,aV.of eE,akc (xs:=[.ref ax,t,.ref kc]) (λi aj H'=>∃(o5 o6 o7 o8 o9:Option V),aj=[iJ c,bY ax,some t,bY kc,bY lS,o5,o6,o7,o8,o9]/\aF H6 H') ⟨none,none,none,none,none,rfl,aF.refl H6⟩ (λi aj H' _ hz=>by obtain ⟨_,_,_,_,_,_,s⟩:=hz; exact aV.of (s _ _ eE)) (λi xi T' aj H7 hx hz fT=>?_) (fun aj H7 hz=>?_)⟩
   . obtain ⟨o5,o6,o7,o8,o9,rfl,s7⟩:=hz
     obtain ⟨d,hd7,bd⟩:∃ d,bD H7 xi d/\Base d:=by
       have i3:i<3:=(jC.mp hx).1
       match i,i3,hx with
       | 0,_,hx=>cases hx; exact ⟨_,hX.same (S6.aA s7),bX⟩
       | 1,_,hx=>cases hx; exact ⟨_,hT.same (S6.aA s7),bT⟩
       | 2,_,hx=>cases hx; exact ⟨_,hC5.same (s6.aA s7),bC⟩
     have i3:i<3:=(jC.mp hx).1;have s8:aF H7 (upd H7 T' (.tup [.int (i:Int),xi])):=(aF.refl H7).upd fT;refine ⟨T',_,rfl,aH.of aX,rfl,_,_,rfl,_,_,rfl,rfl,?_⟩;generalize upd H7 T' (.tup [.int (i:Int),xi])=H8 at s8 |-;have S8:=(S6.aA s7).aA s8;have S58:aF H5 H8:=(s6.aA s7).aA s8;refine gV λU hU=>?_
     refine ⟨.inl ⟨by decide,by decide⟩,?_⟩
     have bits:Cu (c+7919 * (i:Int))<=2000000:=by
       have a:=QC cb (Gb (k:=7919 * (i:Int)) (by omega) (by omega));omega
     refine ⟨_,rfl,bits,λn n0=>?_⟩;refine ⟨by show 1<=aO; omega,λp fp=>?_⟩;show U _ _;subst hU;have s9:aF H8 (upd H8 p (.lst [.int n])):=(aF.refl H8).upd fp;have pk9:iH (upd H8 p (.lst [.int n])) p:=⟨n,aX,n0⟩;generalize upd H8 p (.lst [.int n])=H9 at s9 pk9 |-;have S9:=S8.aA s9;have S59:=S58.aA s9;have Wx:H5 p=none:=S58.free fp;have qW:lS≠p:=λz=>by rw [<- z,eS] at Wx; cases Wx
     have agC:H7 p=none:=s8.free fp;refine gV λU hU=>?_
     have db:=bd.dp;refine ⟨p,lS,xi,d,us,ds,rfl,pk9,hd7.same (s8.aA s9),by omega,bd.sm,S59 _ _ eS,dS.same S59,qW,lS1,lS2,gS,by decide,λv e tQ hv ne NT W0=>?_⟩;show U _ _;subst hU;have agD:=qg pk9 NT W0;have e10:tQ lS=some (.lst us):=W0 _ _ qW (S59 _ _ eS);have aa8:=(dS.same S59).kp agD;have rwe:cY e<=21:=by have:=ne.rw; have:=bd.rw; omega
     have dpe:dep e<9:=by have:=ne.dp; omega
     refine J1 (fun bA H'=>rz λ(v:V)(e:Da)=>jJ (bA=[iJ c,bY ax,some t,bY kc,bY lS,iJ (i:Int),some xi,bY p,some v,o9]) (bD H' v e) (cY e<64) (iH H' p) (dF p tQ H')) (λU hU=>?_) (fun bA H11 hN=>?_)
     . refine ⟨p,2,rfl,NT,by decide,by decide,λd0 H11 d0a d0b Cp BK=>?_⟩;have Ii:=qg NT Cp BK;refine fQ (λz=>?_) (λz=>?_)
       . refine ⟨p,lS,v,e,us,ds,rfl,Cp,hv.kp Ii,dpe,ne.sm,BK _ _ qW e10,aa8.kp Ii,qW,lS1,lS2,λe he=>⟨(gS e he).1,Eb (gS e he).2⟩,by decide,λv2 e2 H12 hv2 ne2 HW J6=>?_⟩;exact hU _ _ ⟨v2,e2,rfl,hv2,by have:=ne2.rw; omega,HW,BK.aA J6⟩
       . exact hU _ _ ⟨v,e,rfl,hv.kp Ii,by omega,Cp,BK⟩
     . obtain ⟨v2,e2,rfl,hv2,rw2,Cp,BK⟩:=hN;clear hv ne rwe dpe;have Ii:=qg NT Cp BK;have e11:H11 lS=some (.lst us):=BK _ _ qW e10;have afp:=aa8.kp Ii;refine gV λU hU=>?_
       refine ⟨lS,us,rfl,.inl (aV.of e11),?_⟩;refine ⟨p,(us.length:Int),rfl,Cp,by omega,by omega,λd1 H12 d1a d1b HW J6=>?_⟩;obtain ⟨j,rfl⟩:∃ j:Nat,d1=j:=⟨d1.toNat,by omega⟩;have aa4:=qg Cp HW J6;have hu:us[j]?=some us[j]:=gD (by omega);have e12:H12 lS=some (.lst us):=J6 _ _ qW e11;refine qt e12 (oW hu) ?_;have adW:=afp.kp aa4;obtain ⟨du,hdu,yu⟩:=adW.get hu;refine ⟨p,lS,_,du,us,ds,rfl,HW,yu,(gS du (fG hdu)).2,e12,adW,qW,lS1,lS2,gS,by decide,λv3 e3 H13 hv3 ne3 aoB aco=>?_⟩;show U _ _;subst hU;have afg:=qg HW aoB aco;have Cm:=hv2.kp (aa4.aA afg);have abk:dF p H9 H13:=((W0.aA BK).aA J6).aA aco;have S13:aF H5 H13:=λb o eb=>abk _ _ (dN eb Wx) (S59 _ _ eb)
       have aou:aF H7 H13:=λb o eb=>abk _ _ (dN eb agC) (s9 _ _ (s8 _ _ eb))
       have Mp:uz H13 (.ref ax) hs ls:=lat.ts (S5.aA S13).dH;obtain ⟨th3,_,w3,n3⟩:=hv3.kind (K:=K);refine ⟨v3,rfl,th3,λH14 s14=>?_⟩;obtain ⟨rC,_,_,_⟩:=(hv3.same s14).kind (K:=K);refine ⟨v3,rfl,rC,λH15 s15=>?_⟩;refine ⟨_,_,rfl,?_⟩;rw [beq_self_eq_true];refine zW ?_;dsimp only;have S15:=s14.aA s15;obtain ⟨th5,_,_,_⟩:=(hv3.same S15).kind (K:=K);refine ⟨v3,rfl,th5,?_⟩;refine ⟨v3,rfl,th5,?_⟩;refine ⟨_,_,rfl,?_⟩;rw [beq_self_eq_true];refine zW ?_;dsimp only;refine ⟨v2,e2,rfl,Cm.same S15,λH16 s16=>?_⟩;refine ⟨v2,e2,rfl,Cm.same (S15.aA s16),amV rw2,λH17 s17=>?_⟩;refine ⟨_,_,rfl,?_⟩;rw [beq_self_eq_true];have S17:=S15.aA (s16.aA s17);refine ⟨v2,e2,rfl,Cm.same S17,λH18 s18=>?_⟩;refine zW ?_;dsimp only;have S18:=S17.aA s18;have nd:ss.Nodup:=D.rows.1.nodup_iff.mpr D.gh.rows;have fin:∀ H',aF H13 H'->∃(o5 o6 o7 o8 o9:Option V),[some (.int c),some (.ref ax),some t,some (.ref kc),some (.ref lS),some (.int (i:Int)),some xi,some (.ref p),some v2,some v3]=[some (.int c),some (.ref ax),some t,some (.ref kc),some (.ref lS),o5,o6,o7,o8,o9]/\aF H6 H':=λH' s'=>⟨_,_,_,_,_,rfl,s7.aA (aou.aA s')⟩
       cases ee:vP ss e2 with
       | true =>
         refine ⟨.ref ax,v2,hs,ls,rfl,Mp.ts S18.dH,D.gh,D.gl,.inl ⟨ss,Lb e2,anV (Cm.same S18) ee nd,D.rows.1,D.rows.2,λH19 s19=>?_⟩⟩;have S19:=S18.aA s19;refine ⟨.ref ax,v2,hs,ls,e2,ss,rfl,Mp.ts S19.dH,D.gh,D.gl,Cm.same S19,D.rows,λH20 s20=>?_⟩;refine ⟨_,_,rfl,?_⟩;rw [ee,fJ,beq_self_eq_true];exact fin H20 (S19.aA s20)
       | false =>
         refine ⟨.ref ax,v2,hs,ls,rfl,Mp.ts S18.dH,D.gh,D.gl,.inr ⟨e2,Cm.same S18,⟨ss,D.rows,ee⟩,λH19 s19=>?_⟩⟩;have S19:=S18.aA s19;refine ⟨.ref ax,v2,hs,ls,e2,ss,rfl,Mp.ts S19.dH,D.gh,D.gl,Cm.same S19,D.rows,λH20 s20=>?_⟩;refine ⟨_,_,rfl,?_⟩;rw [ee,rY];exact fin H20 (S19.aA s20)
   . obtain ⟨o5,o6,o7,o8,o9,rfl,s7⟩:=hz;have S7:=S6.aA s7;refine ⟨_,Bd hs ls,rfl,hX.same S7,λH8 s8=>?_⟩;rw [show Bc (Bd hs ls)=true from ahE D.gh D.gl];refine ⟨_,_,rfl,?_⟩;have S8:=S7.aA s8;refine ⟨.ref ax,t,hs,ls,rfl,lat.ts S8.dH,D.gh,D.gl,.inl ⟨ss,m,rat.ts S8.dH,D.rows.1,D.rows.2,λH9 s9=>?_⟩⟩;rw [D.pl];refine ⟨_,_,rfl,?_⟩;exact qq H9 (S8.aA s9)
noncomputable def O5(K:bV):Sp:=λvs H Q _=>rz λ(a:au)(ns:List Int)=>jJ (vs=[.ref a]) (aV K H a (ns.map V.int)) (ns.length<=63) ((∀ n∈ns,IV n)) (∀ H',Q (.bl true) H')
variable{ns:List Int}
theorem amw{w:Int}:∃ z:Int,(jt (ns.map V.int) lo hi++[.int w])[0]?=some (.int z)/\(z∈ns\/z=w):=by cases e:jt (ns.map V.int) lo hi with| nil=>exact ⟨w,rfl,.inr rfl⟩| cons y ys =>have my:y∈ns.map V.int:=(by have:y∈jt (ns.map V.int) lo hi:=(by rw [e]; exact gU);exact K5 (xW this));obtain ⟨z,hz,rfl⟩:=cZ.mp my;exact ⟨z,rfl,.inl hz⟩
theorem FN:cW ["_law_script","_law_k","_law_ledger_here","_law_placing","_law_at","_law_cell"] ["_law_script"] (bw Qe):=dX
theorem an4(F:eY K "law" Qe f fd)(T:Txt mg t8 t6 tR tL)(ae9:Cl P w K mg base 14 "_law_ledger" ["_law_script","_law_k"] (RD K))(aoU:Cl P w K mg base 14 "_law_right" ["_law_cell","_law_ledger_here","_law_placing"] QV):bf P w K mg base bB 15 f fd ["_law_script"] (O5 K):=by refine F.ok FN (λvs H Q E h=>?_) (λcdv A outer s H vs Q E hr h=>?_);obtain ⟨a,ns,rfl,_⟩:=h;rfl;obtain ⟨a,ns,rfl,ha,hl,hb,q⟩:=h;refine ⟨_,(aP (lG lA rfl (ajC rfl T.range (aq aM (aq (bh (Mi rfl) rfl T.max JC (aq aM (aq (bh (aal rfl) rfl T.min WD (aq (bh jy rfl T.len gO (aq (pV 0) aD)) (aq aM aD))) aD))) (aq aM aD)))) (pY 1 FN) (aP (vY (pC ae9 hr (aq (pV 0) (aq (pV 1) aD))) (jG rfl (cI (pY 2 FN) (cI (pY 3 FN) jE)))) (aU (lG lA rfl (am8 rfl T.range (aq (bJ gj aM (pV 1)) (aq (bh (Mi rfl) rfl T.max JC (aq (bJ gj aM (pV 1)) (aq (bh (aal rfl) rfl T.min WD (aq (bJ gj aM (pV 1)) (aq (bh jy rfl T.len gO (aq (pV 0) aD)) aD))) aD))) aD))) (pY 4 FN) (aP (pZ 5 FN (vq mY (bJ yJ (jo Mq (pV 0) (iu (pV 4)) (iu (bJ gj (pV 4) aM))) (iU (aq (bJ gj (bJ Jd aM (pV 4)) aM) aD))) aM (λ_ _=>rfl))) (aU (cP (dg (dD (pC aoU hr (aq (bJ gj (pV 5) (bJ Jd aM (pV 4))) (aq (pV 2) (aq (pV 3) aD)))))) (aU (bx dG)) cN))))))) (aU (bx dG))),?_⟩;have dO:=cQ;have ln:(ns.map V.int).length<=63:=(by rw [aL]; exact hl);refine ⟨a,_,rfl,.inl ha,?_⟩;refine ⟨_,18,rfl,?_⟩;refine ⟨1,_,rfl,?_⟩;obtain ⟨mx,emx,mx1,mx2⟩:∃ mx:Int,mx=(if (if (18:Int)<((ns.map V.int).length:Int) then 18 else ((ns.map V.int).length:Int)) > 1 then (if (18:Int)<((ns.map V.int).length:Int) then 18 else ((ns.map V.int).length:Int)) else 1)/\1<=mx/\mx<=18:=⟨_,rfl,by split <;> omega,by split <;> (try split) <;> omega⟩;rw [<- emx];have en:uO 0 mx 6<=3:=(by unfold uO;rw [bI (by decide),bI (by omega)];omega);refine ⟨0,mx,6,rfl,⟨by decide,by decide,by omega,by omega,by decide,by decide⟩,ama (λi aj H'=>∃(o1 o2 o3 o4 o5:Option V),aj=[bY a,o1,o2,o3,o4,o5]/\aF H H') ⟨none,none,none,none,none,rfl,aF.refl H⟩ (λi aj H1 hi hz=>?_) (fun aj H1 hz=>?_)⟩;rotate_left;obtain ⟨o1,o2,o3,o4,o5,rfl,S1⟩:=hz;exact q H1;obtain ⟨o1,o2,o3,o4,o5,rfl,S1⟩:=hz;obtain ⟨k,ek,k0,k12⟩:∃ k:Int,k=0+(i:Int) * 6/\0<=k/\k<=12:=⟨_,rfl,by omega,by omega⟩;rw [<- ek];refine ⟨a,ns,k,rfl,Jm S1 ha,hb,hl,by omega,by omega,λr x t hs ls ss m H2 er lat rat D s2=>?_⟩;have S2:=S1.aA s2;refine ⟨r,_,rfl,aH.of er,rfl,_,_,rfl,_,_,rfl,rfl,?_⟩;refine ⟨a,_,rfl,.inl (Jm S2 ha),?_⟩;refine ⟨_,_,rfl,?_⟩;refine ⟨_,_,rfl,?_⟩;obtain ⟨my,emy,my2⟩:∃ my:Int,my=(if (if ((ns.map V.int).length:Int)<24+k then ((ns.map V.int).length:Int) else 24+k) > 20+k then (if ((ns.map V.int).length:Int)<24+k then ((ns.map V.int).length:Int) else 24+k) else 20+k)/\0<=my/\my<=63:=⟨_,rfl,by split <;> (try split) <;> omega,by split <;> (try split) <;> omega⟩;rw [<- emy];refine ⟨18+k,my,rfl,⟨by omega,by omega,by omega,by omega⟩,GK (λi aj H'=>∃(o4 o5:Option V),aj=[bY a,iJ k,some x,some t,o4,o5]/\aF H2 H') ⟨o4,o5,rfl,aF.refl H2⟩ (λj aj H3 hj hz=>?_) (fun aj H3 hz=>?_)⟩;rotate_left;obtain ⟨o4,o5,rfl,s3⟩:=hz;exact ⟨_,_,_,_,_,rfl,S2.aA s3⟩;obtain ⟨o4,o5,rfl,s3⟩:=hz;obtain ⟨at',eat,at0,at1⟩:∃ at':Int,at'=18+k+(j:Int)/\0<=at'/\at'<=63:=⟨_,rfl,by omega,by omega⟩;rw [<- eat];refine gV λU hU=>?_;have S3:=S2.aA s3;refine ⟨a,_,rfl,Jm S3 ha,λp1 f1=>?_⟩;have s4:aF H3 (upd H3 p1 (.lst (jt (ns.map V.int) (some at') (some (at'+1))))):=(aF.refl H3).upd f1;have e4:upd H3 p1 (.lst (jt (ns.map V.int) (some at') (some (at'+1)))) p1=some (.lst (jt (ns.map V.int) (some at') (some (at'+1)))):=aX;generalize upd H3 p1 (.lst (jt (ns.map V.int) (some at') (some (at'+1))))=H4 at s4 e4 |-;refine ⟨.inl ⟨by decide,by decide⟩,?_⟩;refine ⟨by show 1<=aO; omega,λp2 f2=>?_⟩;have s5:aF H4 (upd H4 p2 (.lst [.int (5099 * at'+7)])):=(aF.refl H4).upd f2;have e5:upd H4 p2 (.lst [.int (5099 * at'+7)]) p2=some (.lst [.int (5099 * at'+7)]):=aX;generalize upd H4 p2 (.lst [.int (5099 * at'+7)])=H5 at s5 e5 |-;have lc:=Nt (ns.map V.int) (some at') (some (at'+1));refine ⟨p1,p2,_,_,rfl,rfl,s5 _ _ e4,e5,by rw [Qx]; omega,λp3 f3=>?_⟩;have s6:aF H5 (upd H5 p3 (.lst (jt (ns.map V.int) (some at') (some (at'+1))++[.int (5099 * at'+7)]))):=(aF.refl H5).upd f3;have e6:upd H5 p3 (.lst (jt (ns.map V.int) (some at') (some (at'+1))++[.int (5099 * at'+7)])) p3=some (.lst (jt (ns.map V.int) (some at') (some (at'+1))++[.int (5099 * at'+7)])):=aX;generalize upd H5 p3 (.lst (jt (ns.map V.int) (some at') (some (at'+1))++[.int (5099 * at'+7)]))=H6 at s6 e6 |-;obtain ⟨z,hz,mz⟩:=amw (ns:=ns) (lo:=some at') (hi:=some (at'+1)) (w:=5099 * at'+7);refine qt e6 (i:=0) (v:=.int z) (oW (j:=0) hz) ?_;show U _ _;subst hU;have S6:=s4.aA (s5.aA s6);refine ⟨.inl ⟨by decide,by decide⟩,?_⟩;have bz:Cu z<=1048576:=(by rcases mz with mz | mz;exact hb z mz;rw [mz];exact jF (Gb (by omega) (by omega)) (by decide));have bc:Cu (z+23 * at')<=1500000:=(by have a:=QC bz (Gb (k:=23 * at') (by omega) (by omega));omega);have S36:=s3.aA S6;refine ⟨_,x,t,hs,ls,ss,m,rfl,bc,lat.ts S36.dH,rat.ts S36.dH,D,λH7 s7=>?_⟩;exact ⟨_,_,rfl,S36.aA s7⟩
theorem aeQ:cW ["thing","names"] ["thing"] (bw Ih):=dX
theorem aiv(F:eY K "are_houses" Ih f fd)(T:Txt mg t8 t6 tR tL)(afE:Cl P w K mg base 4 "is_house" ["thing"] (gQ jl))(T4:Cl P w K mg base 4 "row_names" ["houses"] LK)(Oq:Cl P w K mg base 4 "are_unlike" ["names"] K1):bf P w K mg base bB 5 f fd ["thing"] (gQ yg):=by refine F.ok aeQ (λvs H Q E h=>?_) (λcdv A outer s H vs Q E hr h=>?_);obtain ⟨x,d,rfl,_⟩:=h;rfl;obtain ⟨x,d,rfl,hd,q⟩:=h;have dO:=cQ;obtain ⟨_,⟨T',ty,kt⟩,_⟩:=hd.kind (K:=K);refine ⟨_,(aP (cP (jP (dg (dD (bh kO rfl T.gK gG (aq (pV 0) (aq (jV (v:=.ty "tuple") rfl T.tuple jA rfl) aD))))) (pw_or1 (dg (J3 oLe oLe aM (bh jy rfl T.len gO (aq (pV 0) aD)) (nM (v:=.int 6) rfl T.ZW ⟨_,rfl⟩))))) (aU (bx dG)) cN) (aP (cP (dg (dD (bh (pA rfl) rfl T.all mV (aq (iG (bN:=bw Ih) (own:=["house"]) (cap:=[]) (ix:=[]) rfl rfl fH (fY (pV 0)) (λb=>(pH 0 ["house"])) (λb=>fu) (λb=>(pC afE hr (aq (pV 0) aD)))) aD)))) (aU (bx dG)) cN) (aP (pZ 1 aeQ (pC T4 hr (aq (pV 0) aD))) (aU (bx (mZ (pC Oq hr (aq (iG (bN:=bw Ih) (own:=["house"]) (cap:=[]) (ix:=[]) rfl rfl fH (fY (pV 0)) (λb=>(pH 0 ["house"])) (λb=>fu) (λb=>(pX dY (pV 0) aM))) aD)) (mZ (pC Oq hr (aq (pV 1) aD)) (oF (jW oLe (bh jy rfl T.len gO (aq (pV 1) aD)) (nM (v:=.int 24) rfl T.ahn ⟨_,rfl⟩) (cX _)))))))))),?_⟩;refine ⟨_,_,_,_,rfl,ty,kt,?_⟩;cases d with| tup xs =>refine bU λcu aQ=>?_;obtain ⟨c,vs,aiO,hc,rB,r⟩:=hd.dW;subst aQ;subst aiO;have len:=r.len;have q:∀ H',aF H H'->Q (.bl (decide (1<=xs.length) && (decide (xs.length<=6) && (xs.all jl && (decide ((xs.map fX).map bK.name).Nodup && (decide (cG (xs.map fX)).Nodup && decide ((cG (xs.map fX)).length<=24))))))) H':=q;refine ⟨c,vs,rfl,.inr (aH.of hc),?_⟩;refine fQ (λz=>?_) (λz=>?_);have z1:1<=xs.length:=(by have:=dB z; omega);rw [cg z1,fJ] at q;by_cases z2:xs.length<=6;rw [cg z2,fJ] at q;refine fQ (λw=>by rw [cg (show (vs.length:Int)<=6 by omega)] at w; cases w) (λw=>?_);refine ⟨c,rfl,⟨_,aH.of hc⟩,λD hD=>j9 (xs:=vs) (ys:=(xs.map jl).map V.bl) hD (aH.of hc) (by omega) (by rw [aL,aL]; omega) (λi x H' hx s2 b R hR=>?_) (λH' s2 e=>?_)⟩;obtain ⟨y,hy,ya⟩:=r.get hx;exact ⟨x,y,rfl,ya.same s2,λcM s=>hR cM _ (by rw [bL,bL,hy]; rfl) s⟩;refine ⟨D,_,rfl,aV.of e,?_⟩;rw [xR];(cases ea:xs.all jl with| false=>rw [ea] at q; exact q H' s2| true =>rw [ea,fJ] at q;obtain ⟨pr,gd⟩:=Le r ea;have hc2:=s2 _ _ hc;have lh:(xs.map fX).length<=6:=(by rw [aL]; exact z2);refine ⟨.ref c,xs.map fX,rfl,⟨c,vs,rfl,hc2,j4 (λ_ _ z=>z.ts s2.dH) pr⟩,lh,gd,λl H2 hl el s3=>?_⟩;refine ⟨c,rfl,⟨_,aH.of (s3 _ _ hc2)⟩,λD2 hD2=>j9 (xs:=vs) (ys:=(xs.map fX).map λh=>V.str h.name) hD2 (aH.of (s3 _ _ hc2)) (by omega) (by rw [aL,aL]; omega) (λi x H3 hx s4 b R hR=>?_) (λH3 s4 e2=>?_)⟩;obtain ⟨h,hh',ha⟩:=iK pr hx;refine bU λcu aQ=>?_;obtain ⟨a1,b1,amk,g1,_⟩:=ha.ts ((s2.aA s3).aA s4).dH;subst aQ;subst amk;refine dI (aH.of g1) (i:=0) (v:=.str h.name) (by rfl) ?_;exact hR H3 _ (by rw [bL,hh']; rfl) (aF.refl _);refine ⟨D2,(xs.map fX).map bK.name,rfl,by rw [nA]; exact e2,by rw [aL]; omega,λH4 s5=>?_⟩;have S4:=(((s2.aA s3).aA s4).aA s5);cases en:decide ((xs.map fX).map bK.name).Nodup with| false=>rw [en] at q; exact q H4 S4| true =>rw [en,fJ] at q;have el4:=(s4.aA s5) _ _ el;have big:(cG (xs.map fX)).length<=625 * 6:=(by unfold cG;rw [Kq];have z:=Ka (l:=(xs.map fX).map cV) (n:=625) λq hq=>(by obtain ⟨k,hk,rfl⟩:=cZ.mp hq;have z1:=(gd k hk).len;show ((iT k).map dw).length<=625;rw [aL]; exact z1);rw [aL] at z;have:(xs.map fX).length * 625<=6 * 625:=Ny 625 lh;omega);refine ⟨l,cG (xs.map fX),rfl,el4,by omega,λH5 s6=>?_⟩;cases er:decide (cG (xs.map fX)).Nodup with| false=>rw [er] at q; exact q H5 (S4.aA s6)| true =>rw [er,fJ] at q;refine ⟨l,_,rfl,.inl (aV.of (s6 _ _ el4)),?_⟩;have e9:decide ((((cG (xs.map fX)).map V.str).length:Int)<=24)=decide ((cG (xs.map fX)).length<=24):=(by rw [aL,lY,decide_eq_true_iff,decide_eq_true_iff]; omega);show Q (.bl (decide ((((cG (xs.map fX)).map V.str).length:Int)<=24))) H5;rw [e9];exact q H5 (S4.aA s6));rw [fP z2] at q;refine fQ (λw=>q H (aF.refl H)) (λw=>?_);exact bO (by rw [fP (show ¬ (vs.length:Int)<=6 by omega)]; rfl) w;have z1:¬ 1<=xs.length:=λw=>z (cg (by omega));rw [fP z1] at q;exact q H (aF.refl H)| _=>exact q H (aF.refl H)
theorem Hr:cW ["thing","sent","taken","least","most"] ["thing"] (bw Ut):=dX
theorem alM(F:eY K "is_letter" Ut f fd)(zM:Cl P w K mg base 1 "has_parts" ["thing","many"] rK)(BR:Cl P w K mg base 1 "is_name" ["thing"] (uR K))(BP:Cl P w K mg base 1 "is_whole" ["thing"] (tY K)):bf P w K mg base bB 2 f fd ["thing"] (gQ lB):=by
 refine F.ok Hr (λvs H Q E h=>?_) (λcdv A outer s H vs Q E hr h=>?_)
 . obtain ⟨x,d,rfl,_⟩:=h;rfl
 . obtain ⟨x,d,rfl,hd,q⟩:=h;refine ⟨_,(aP (cP (dg (dD (pC zM hr (aq (pV 0) (aq aM aD))))) (aU (bx dG)) cN) (aP (vY (pV 0) (jG rfl (cI (pY 1 Hr) (cI (pY 2 Hr) (cI (pY 3 Hr) (cI (pY 4 Hr) jE)))))) (aP (cP (jP (dg (dD (pC BR hr (aq (pV 1) aD)))) (pw_or1 (dg (dD (pC BR hr (aq (pV 2) aD)))))) (aU (bx dG)) cN) (aP (cP (jP (dg (dD (pC BP hr (aq (pV 3) aD)))) (pw_or1 (gM oLt (pV 3) aM (cX _)))) (aU (bx dG)) cN) (aU (bx (Vv (jW Yk (pV 4) yI (cX _)) (oF (mZ (pC BP hr (aq (pV 4) aD)) (oF (jW oGe (pV 4) (pV 3) (cX _)))))))))))),?_⟩;refine ⟨x,d,4,rfl,hd,?_⟩
   have no:∀ d',oA d' 4=false->lB d'=false:=λd' h=>by
     cases d' with
     | tup xs =>
       match xs,h with
       | [],_=>rfl
       | [_],_=>rfl
       | [_,_],_=>rfl
       | [_,_,_],_=>rfl
       | [_,_,_,_],h=>cases h
       | _ :: _ :: _ :: _ :: _ :: _,_=>rfl
     | _=>rfl
   cases e:oA d 4 with
   | false =>
     have z:=q H (aF.refl H);rw [no d e] at z;exact z
   | true =>
     cases d with
     | tup xs =>
       refine bU λcu aQ=>?_
       obtain ⟨a,vs,alV,ha,rB,r⟩:=hd.dW;subst aQ;subst alV;refine bU λcu aQ=>?_
       obtain ⟨y1,y2,y3,y4,anu⟩:=Il (dB e);subst aQ;subst anu;refine bU λcu aQ=>?_
       obtain ⟨v1,v2,v3,v4,ae8,h1,h2,h3,h4⟩:=r.four;subst aQ;subst ae8;refine ⟨a,_,rfl,aH.of ha,rfl,_,_,rfl,_,_,rfl,_,_,rfl,_,_,rfl,rfl,?_⟩;refine bU λcu aQ=>?_
       obtain ⟨th1,_,_,n1⟩:=h1.kind (K:=K);subst aQ;refine ⟨_,rfl,th1,λH1 s1=>?_⟩;rw [n1];have q:∀ H',aF H H'->Q (.bl (lJ y1 && (lJ y2 && (gW y3 && (decide (1<=intD y3) && Hs (intD y3) y4))))) H':=q;cases e1:lJ y1 with
       | false=>rw [e1] at q; exact q H1 s1
       | true =>
         rw [e1,fJ] at q;refine bU λcu aQ=>?_
         obtain ⟨Aa,_,_,n2⟩:=(h2.same s1).kind (K:=K);subst aQ;refine ⟨_,rfl,Aa,λH2 s2=>?_⟩;rw [n2];have S:=s1.aA s2;cases e2:lJ y2 with
         | false=>rw [e2] at q; exact q H2 S
         | true =>
           rw [e2,fJ] at q;refine bU λcu aQ=>?_
           obtain ⟨th3,_,w3,_⟩:=(h3.same S).kind (K:=K);subst aQ;refine ⟨_,rfl,th3,?_⟩;rw [w3];cases e3:gW y3 with
           | false=>rw [e3] at q; exact q H2 S
           | true =>
             rw [e3,fJ] at q;cases h3 with
             | int i3 =>
               refine fQ (λz=>?_) (λz=>?_)
               . have z':decide (1<=intD (.int i3))=false:=fP (by have:=dB z; show ¬ (1:Int)<=i3; omega);rw [z',rY] at q;exact q H2 S
               . have z':decide (1<=intD (.int i3))=true:=cg (by
                   have:¬ i3<1:=λw=>z (cg w)
                   show (1:Int)<=i3; omega)
                 rw [z',fJ] at q;refine ⟨rfl,?_⟩;refine bU λcu aQ=>?_
                 obtain ⟨rC,_,w4,_⟩:=(h4.same S).kind (K:=K);subst aQ;cases h4 with
                 | non=>exact q H2 S
                 | int i4 =>
                   refine ⟨_,rfl,rC,?_⟩;exact q H2 S
                 | bl b4=>exact ⟨_,rfl,rC,q H2 S⟩
                 | str z4 hz4=>exact ⟨_,rfl,rC,q H2 S⟩
                 | tup g1 g2 g3=>exact ⟨_,rfl,rC,q H2 S⟩
                 | lst g1=>exact ⟨_,rfl,rC,q H2 S⟩
                 | uh g1=>exact ⟨_,rfl,rC,q H2 S⟩
             | _=>cases e3
     | _=>cases e
theorem Gv:cW ["thing","houses","owners","sent","taken","least","most"] ["thing","houses"] (bw Gs):=dX
theorem apg(F:eY K "are_letters" Gs f fd)(T:Txt mg t8 t6 tR tL)(anl:Cl P w K mg base 2 "is_letter" ["thing"] (gQ lB))(Ca:Cl P w K mg base 2 "rows_in" ["house"] Hf)(QF:Cl P w K mg base 2 "is_rising" ["values"] Pu):bf P w K mg base bB 3 f fd ["thing","houses"] Wa:=by refine F.ok Gv (λvs H Q E h=>?_) (λcdv A outer s H vs Q E hr h=>?_);obtain ⟨x,y,hs,d,rfl,_⟩:=h;rfl;obtain ⟨x,y,hs,da,rfl,hda,⟨d,ws,rfl,hd,ph⟩,gh,q⟩:=h;have dO:=cQ;have afn:=ph.length;have h6:=gh.hi;obtain ⟨_,⟨T',ty,kt⟩,_⟩:=hda.kind (K:=K);refine ⟨_,(aP (cP (jP (dg (dD (bh kO rfl T.gK gG (aq (pV 0) (aq (jV (v:=.ty "tuple") rfl T.tuple jA rfl) aD))))) (pw_or1 (gM wu (bh jy rfl T.len gO (aq (pV 0) aD)) (nM (v:=.int 24) rfl T.amE ⟨_,rfl⟩) (cX _)))) (aU (bx dG)) cN) (aP (cP (dg (dD (bh (pA rfl) rfl T.all mV (aq (iG (bN:=bw Gs) (own:=["letter"]) (cap:=[]) (ix:=[]) rfl rfl fH (fY (pV 0)) (λb=>(pH 0 ["letter"])) (λb=>fu) (λb=>(pC anl hr (aq (pV 0) aD)))) aD)))) (aU (bx dG)) cN) (aP (ag9 (i:=2) Gv.nd rfl rfl (bN:=bw Gs) (own:=["house","row","reading"]) (cap:=[]) (ix:=[]) rfl rfl fH (fY (pV 1)) (λb=>(pH 0 ["house","row","reading"])) (λb=>fu) (λb=>vR (pC Ca hr (aq (pV 0) aD))) (λb=>(jG rfl (cI (pH 1 ["house","row","reading"]) (cI (pH 2 ["house","row","reading"]) jE)))) (λb=>fu) (λb=>pV 1) (λb=>(pX dY (pV 0) aM))) (aP (lG lA rfl (fY (pV 0)) (jG rfl (cI (pY 3 Gv) (cI (pY 4 Gv) (cI (pY 5 Gv) (cI (pY 6 Gv) jE))))) (aU (cP (jP (Hg (Li (jk hr) (pV 3) (pV 2))) (pw_or (Hg (Li (jk hr) (pV 4) (pV 2))) (pw_or1 (gM aan (lN (jk hr) (pV 2) (pV 3) (λ_ _=>rfl)) (lN (jk hr) (pV 2) (pV 4) (λ_ _=>rfl)) (cX _))))) (aU (bx dG)) cN))) (aU (bx (pC QF hr (aq (iG (bN:=bw Gs) (own:=["letter"]) (cap:=[]) (ix:=[]) rfl rfl fH (fY (pV 0)) (λb=>(pH 0 ["letter"])) (λb=>fu) (λb=>(jo Zt (pV 0) kZ (iu aM)))) aD)))))))),?_⟩;refine ⟨_,_,_,_,rfl,ty,kt,?_⟩;cases da with| tup xs =>refine bU λcu aQ=>?_;obtain ⟨c,vs,ahh,hc,l25,r⟩:=hda.dW;subst aQ;subst ahh;have len:=r.len;have q:∀ H',aF H H'->Q (.bl (decide (xs.length<=24) && (xs.all lB && (xs.all (ux hs) && Ag (xs.map keyOf))))) H':=q;refine ⟨c,vs,rfl,.inr (aH.of hc),?_⟩;refine fQ (λz=>?_) (λz=>?_);rw [fP (show ¬ xs.length<=24 by have:=dB z; omega)] at q;exact q H (aF.refl H);rw [cg (show xs.length<=24 by have:¬ (24:Int)<(vs.length:Int):=λw=>z (cg w);omega),fJ] at q;refine ⟨c,rfl,⟨_,aH.of hc⟩,λD hD=>j9 (xs:=vs) (ys:=(xs.map lB).map V.bl) hD (aH.of hc) (by omega) (by rw [aL,aL]; omega) (λi x H' hx s2 b R hR=>?_) (λH1 s1 e=>?_)⟩;obtain ⟨y,hy,ya⟩:=r.get hx;exact ⟨x,y,rfl,ya.same s2,λcM s=>hR cM _ (by rw [bL,bL,hy]; rfl) s⟩;refine ⟨D,_,rfl,aV.of e,?_⟩;rw [xR];(cases ea:xs.all lB with| false=>rw [ea] at q; exact q H1 s1| true =>rw [ea,fJ] at q;have hc1:=s1 _ _ hc;have hd1:=s1 _ _ hd;refine ⟨d,rfl,⟨_,aH.of hd1⟩,λO hO=>⟨WS ws.length (PvH O hs H1),ws0 ⟨none,none,none,[],rfl,aX,dR _,λn=>rfl,(aF.refl H1).upd hO⟩,λb=>Jj (xs:=ws) _ (λi aj H' _ hz7=>by obtain ⟨_,_,_,_,_,_,_,_,G⟩:=hz7; exact aH.of (G _ _ hd1)) (fun aj H2 hz8=>?_) (λi x aj H' hx hi hz9=>?_)⟩⟩;refine bU λcu aQ=>?_;obtain ⟨_,_,_,kvs,_,eO,kl,ow,s2⟩:=hz8;subst aQ;rw [afn,lW] at kl ow;have hc2:=s2 _ _ hc1;have S2:aF H H2:=s1.aA s2;have Zy:∀(i:Nat)(y:Da),xs[i]?=some y->∃ s t l m,y=.tup [.str s,.str t,.int l,m]:=λi y hy=>Yu (fW.mp ea y (fG hy));refine ⟨c,rfl,⟨_,aH.of hc2⟩,rU (xs:=vs) (PvI c d O hs xs H2) ⟨rfl,rfl,none,none,none,none,rfl⟩ (λi aj H' _ hz7=>by obtain ⟨e',_⟩:=hz7; rw [e']; exact aH.of hc2) (λi x aj H' hx hz8=>?_) (fun aj H' hz9=>?_)⟩;refine bU λcu aQ=>?_;obtain ⟨e',al,o3,o4,o5,o6,eσ⟩:=hz8;subst aQ;have e2':=e'.symm;subst e2' eσ;obtain ⟨y,hy,ya⟩:=r.get hx;refine bU λcu aQ=>?_;obtain ⟨s,t,l,m,ai3⟩:=Zy i y hy;subst aQ;subst ai3;refine bU λcu aQ=>?_;obtain ⟨a1,us,ajN,g1,_,ru⟩:=(ya.same S2).dW;subst aQ;subst ajN;refine bU λcu aQ=>?_;obtain ⟨_,_,_,u4,anq,q1,q2,q3,q4⟩:=ru.four;subst aQ;subst anq;cases q1;cases q2;cases q3;have bad:ux hs (.tup [.str s,.str t,.int l,m])=false->Q (.bl false) H2:=λhb=>(by have w:=q H2 S2;have:xs.all (ux hs)=false:=(by rw [List.all_eq_false];exact ⟨_,fG hy,by rw [hb]; decide⟩);rw [this,rY] at w;exact w);have eo:ux hs (.tup [.str s,.str t,.int l,m])=(match oZ (cJ hs) s,oZ (cJ hs) t with | some a,some b=>!decide (a=b) | _,_=>false):=rfl;refine ⟨a1,_,rfl,aH.of g1,rfl,_,_,rfl,_,_,rfl,_,_,rfl,_,_,rfl,rfl,?_⟩;refine ⟨O,_,rfl,lO.k (k:=bR s) eO,_,rfl,?_⟩;rw [ow s];(cases e1:oZ (cJ hs) s with| none=>exact bad (by rw [eo,e1])| some n1 =>refine ⟨O,_,rfl,lO.k (k:=bR t) eO,_,rfl,?_⟩;rw [ow t];cases e2:oZ (cJ hs) t with| none=>exact bad (by rw [eo,e1,e2])| some n2 =>have w1:fO kvs (.inr s)=some (.str n1):=(by rw [ow s,e1]; rfl);have w2:fO kvs (.inr t)=some (.str n2):=(by rw [ow t,e2]; rfl);refine ⟨O,_,rfl,w1 ▸ lO.k (k:=bR s) eO,?_⟩;refine ⟨O,_,rfl,w2 ▸ lO.k (k:=bR t) eO,?_⟩;refine fQ (λz=>?_) (λz=>?_);refine bad ?_;rw [eo,e1,e2];show (!decide (n1=n2))=false;rw [z]; rfl;refine ⟨rfl,?_,_,_,_,_,rfl⟩;rw [fZ,hy,List.all_append,al,fJ];show (ux hs _ && true)=true;rw [eo,e1,e2,DR];show (!decide (n1=n2))=true;rw [(Bool.not_eq_true _).mp z]; rfl);refine bU λcu aQ=>?_;obtain ⟨e',al,o3,o4,o5,o6,eσ⟩:=hz9;subst aQ;have e2':=e'.symm;subst e2' eσ;rw [lF (by omega)] at al;rw [al,fJ] at q;refine ⟨c,rfl,⟨_,aH.of hc2⟩,λD2 hD2=>WL (xs:=vs) (PvJ D2 xs H2) ⟨[],⟨aX,aF.refl _⟩,(aF.refl H2).upd hD2,.nil⟩ (λi H' _ Tj=>by obtain ⟨_,_,s3,_⟩:=Tj; exact aH.of (s3 _ _ hc2)) (λH3 Td=>?_) (λi x H3 hx hi U8 b=>?_)⟩;refine bU λcu aQ=>?_;obtain ⟨as,G,s3,pa⟩:=Td;subst aQ;have e4:(xs.map keyOf).take vs.length=xs.map keyOf:=lF (by rw [aL]; omega);rw [e4] at pa;have l4:=pa.length;rw [aL] at l4;refine ⟨D2,_,_,rfl,G.at',by rw [aL]; omega,.inr ⟨as,xs.map keyOf,rfl,pa,rfl⟩,λH4 s4=>?_⟩;exact q H4 ((S2.aA s3).aA s4);refine bU λcu aQ=>?_;obtain ⟨as,G,s3,pa⟩:=U8;subst aQ;obtain ⟨y,hy,ya⟩:=r.get hx;refine bU λcu aQ=>?_;obtain ⟨s,t,l,m,aiS⟩:=Zy i y hy;subst aQ;subst aiS;refine bU λcu aQ=>?_;obtain ⟨a1,us,anJ,g1,_,ru⟩:=(ya.same (S2.aA s3)).dW;subst aQ;subst anJ;refine bU λcu aQ=>?_;obtain ⟨_,_,_,u4,alE,q1,q2,q3,q4⟩:=ru.four;subst aQ;subst alE;cases q1;cases q2;cases q3;have l4:=pa.length;rw [gR,aL] at l4;refine ⟨a1,_,rfl,aH.of g1,by show ¬ ((0:Nat)=0/\(2:Nat)=4); decide,λp hp=>?_⟩;have nD:D2≠p:=λz=>(by subst z; rw [G.at'] at hp; cases hp);refine ⟨as.map V.ref,by rw [aW nD]; exact G.at',by rw [aL]; omega,nx hi ⟨as++[p],?_,?_,?_⟩⟩;rw [jq]; exact ⟨aX,aF.refl _⟩;intro b' o' e';rw [aW (dN e' hD2)];exact ((aF.refl H3).upd hp) _ _ (s3 _ _ e');rw [fZ,bL,hy];refine Aw (j4 (λa k (z:H3 a=some (.tup ((kP k).map kV)))=>?_) pa) (.cons ?_ .nil);have na:a≠D2:=λy=>(by subst y; rw [G.at'] at z; cases z);rw [aW na,aW (dN z hp)]; exact z;rw [aW (bW nD),aX]; rfl;refine bU λcu aQ=>?_;obtain ⟨o1,o2,o3,kvs,e',eO,kl,ow,s2⟩:=hz9;subst aQ;subst e';obtain ⟨h,hh',ha⟩:=iK ph hx;have gh1:=gh.all h (fG hh');refine ⟨x,h,rfl,ha.ts (s1.aA s2).dH,gh1,λl zs H3 hl el s3 pz=>?_⟩;have nlO:l≠O:=λz=>(by subst z; rw [eO] at hl; cases hl);have nd:(cJ (hs.take i)++jz h).map dw |>.Nodup:=(by have z:=gh.rows;rw [<- CW] at z;have z2:cJ (hs.take (i+1))=cJ (hs.take i)++jz h:=(by unfold cJ;rw [fZ,hh',nJ];simp);rw [<- z2];have z3:(cJ hs)=cJ (hs.take (i+1))++cJ (hs.drop (i+1)):=(by unfold cJ;rw [<- nJ,qX]);rw [z3,jq] at z;exact (FQ.mp z).1);refine ⟨l,rfl,⟨_,aV.of el⟩,WS zs.length (PvK x O l hs h i zs H1 H3),ws0 ⟨o2,o3,kvs,rfl,s3 _ _ eO,by simpa using kl,by simpa using ow,s2.aA s3,el,jc.refl _⟩,abA (xs:=zs) _ (λj aj cM _ Qn=>by obtain ⟨_,_,_,_,_,_,_,_,e',_⟩:=Qn; exact aV.of e') (fun aj cM ⟨o2',o3',wB,e',eO',kl',ow',s',_,_⟩=>nxs hi ⟨_,_,_,wB,e',eO',?_,?_,s'⟩) (λj y aj cM hy hj Ub=>?_)⟩;have z2:cJ (hs.take (i+1))=cJ (hs.take i)++jz h:=(by unfold cJ;rw [fZ,hh',nJ];simp);rw [show (jz h).take zs.length=jz h from lF (by rw [pz.length]; unfold jz; rw [aL]; exact bG _)] at kl';rw [z2]; exact kl';have z2:cJ (hs.take (i+1))=cJ (hs.take i)++jz h:=(by unfold cJ;rw [fZ,hh',nJ];simp);rw [show (jz h).take zs.length=jz h from lF (by rw [pz.length]; unfold jz; rw [aL]; exact bG _)] at ow';rw [z2]; exact ow';refine bU λcu aQ=>?_;obtain ⟨o2',o3',wB,e',eO',kl',ow',s',el',t'⟩:=Ub;subst aQ;subst e';obtain ⟨rr,hrr,ra⟩:=iK pz hy;obtain ⟨ra1,rfl,ra2⟩:=ra.ts t';have hp:(jz h)[j]?=some (rr.1,h.name):=(by unfold jz; rw [bL,hrr]; rfl);refine bU λcu aQ=>?_;obtain ⟨xa,xb,ahY,xg,_⟩:=ha.ts (s1.aA s').dH;subst aQ;subst ahY;refine ⟨ra1,_,rfl,aH.of ra2,rfl,_,_,rfl,_,_,rfl,rfl,?_⟩;refine dI (aH.of xg) (i:=0) (v:=.str h.name) (by rfl) ?_;have ap:cJ (hs.take i)++(jz h).take (j+1)=(cJ (hs.take i)++(jz h).take j)++[(rr.1,h.name)]:=(by rw [fZ,hp,pQ]; rfl);have big:(cJ (hs.take i)++(jz h).take j).length<=24:=(by have z:=gh.few;rw [<- CW,aL] at z;have z2:(cJ hs)=cJ (hs.take i)++(jz h++cJ (hs.drop (i+1))):=(by unfold cJ;have e1:hs=hs.take i++(h :: hs.drop (i+1)):=(by obtain ⟨li,fi⟩:=jC.mp hh';rw [<- fi,vX,qX]);(conv=>lhs; rw [e1]);rw [nJ,Bq]);rw [z2,dZ,dZ] at z;rw [dZ,gR];omega);refine ⟨wB,bR rr.1,eO',rfl,by omega,nxs hj ⟨_,_,_,rfl,aX,?_,?_,?_,?_,t'.put eO' (λ_ z=>nomatch z)⟩⟩;have z:=yF wB (bR rr.1) (V.str h.name);rw [ap,dZ];exact jF z (GZ kl' 1);rw [ap];refine tG.put (p:=(rr.1,h.name)) ow' λp hp' z=>?_;have nd2:((cJ (hs.take i)++(jz h).take j)++[(rr.1,h.name)]).map dw |>.Nodup:=(by rw [<- ap];refine List.Sublist.nodup ?_ nd;exact (List.Sublist.append (List.Sublist.refl _) (Ea _ _)).map _);rw [jq] at nd2;exact (FQ.mp nd2).2.2 p.1 (mW hp') rr.1 (by simp) z;intro b' o' e';rw [aW (dN e' hO)]; exact s' _ _ e';rw [aW nlO]; exact el')| _=>exact q H (aF.refl H)
theorem ajI:cW ["thing"] ["thing"] (bw VN):=dX
theorem aeV(F:eY K "is_ledger" VN f fd)(zM:Cl P w K mg base 5 "has_parts" ["thing","many"] rK)(afQ:Cl P w K mg base 5 "are_houses" ["thing"] (gQ yg))(alR:Cl P w K mg base 5 "are_letters" ["thing","houses"] Wa):bf P w K mg base bB 6 f fd ["thing"] (gQ Bc):=by
 refine F.ok ajI (λvs H Q E h=>?_) (λcdv A outer s H vs Q E hr h=>?_)
 . obtain ⟨x,d,rfl,_⟩:=h;rfl
 . obtain ⟨x,d,rfl,hd,q⟩:=h;refine ⟨_,(aU (bx (mZ (pC zM hr (aq (pV 0) (aq aM aD))) (mZ (pC afQ hr (aq (pX dY (pV 0) aM) aD)) (oF (pC alR hr (aq (pX dY (pV 0) aM) (aq (pX dY (pV 0) aM) aD)))))))),?_⟩;refine ⟨x,d,2,rfl,hd,?_⟩
   have no:∀ d',oA d' 2=false->Bc d'=false:=λd' h=>by
     cases d' with
     | tup xs =>
       match xs,h with
       | [],_=>rfl
       | [_],_=>rfl
       | [_,_],h=>cases h
       | _ :: _ :: _ :: _,_=>rfl
     | _=>rfl
   cases e:oA d 2 with
   | false =>
     have z:=q H (aF.refl H);rw [no d e] at z;exact z
   | true =>
     cases d with
     | tup xs =>
       refine bU λcu aQ=>?_
       obtain ⟨a,vs,af7,ha,rB,r⟩:=hd.dW;subst aQ;subst af7;obtain ⟨y,z,rfl⟩:=len2 (dB e);refine bU λcu aQ=>?_
       obtain ⟨v1,v2,ank,h1,h2⟩:=r.two;subst aQ;subst ank;have q:∀ H',aF H H'->Q (.bl (yg y && Cg (Eu y) z)) H':=q;refine dI (aH.of ha) (i:=0) (v:=v1) (by rfl) ?_;refine ⟨v1,y,rfl,h1,λH1 s1=>?_⟩;cases e1:yg y with
       | false=>rw [e1] at q; exact q H1 s1
       | true =>
         rw [e1,fJ] at q;have ha1:=s1 _ _ ha;refine dI (aH.of ha1) (i:=1) (v:=v2) (by rfl) ?_;refine dI (aH.of ha1) (i:=0) (v:=v1) (by rfl) ?_
         have gh:vG H1 v1 (Eu y)/\tK (Eu y):=by
           cases y with
           | tup ys =>
             refine bU λcu aQ=>?_
             obtain ⟨c,ws,anr,hc,_,rr⟩:=(h1.same s1).dW;subst aQ;subst anr;simp only [yg,pF,decide_eq_true_iff] at e1;refine bU λcu aQ=>?_
             obtain ⟨w1,w2,w3,w4,w5,w6⟩:=e1;subst aQ;obtain ⟨p1,p2⟩:=Le rr w3;exact ⟨⟨c,ws,rfl,hc,p1⟩,by show 1<=(ys.map fX).length; rw [aL]; exact w1,by show (ys.map fX).length<=6; rw [aL]; exact w2,p2,w4,w5,w6⟩
           | _=>cases e1
         refine ⟨v2,v1,Eu y,z,rfl,h2.same s1,gh.1,gh.2,λH2 s2=>?_⟩;exact q H2 (s1.aA s2)
     | _=>cases e
theorem acE:∀{xs:List Z0}{x:Z0},x∈xs->Wu x<=ac5 xs
 | y :: xs,x,h=>by unfold ac5;rcases dU.mp h with z | z;rw [z]; omega;have:=acE z; omega
theorem akS(h:PySem.W.WData.layableAll [PySem.W.WData.list (ns.map aeJ)]=true):∀ n∈ns,IV n:=λn hn=>by
 have h1:=fW.mp h _ gU;unfold PySem.W.WData.layable at h1;have h2:=dB (cB.mp h1).2;unfold Wu at h2;have h3:=acE (mW (f:=aeJ) hn);unfold Wu at h3;have e:(2:Nat) ^ 20=1048576:=by decide
 rw [e] at h2;exact jF h3 h2
variable{l:ald}{loose:List Str}{XP:(Str->Option aB)->aY->Prop}{YP:fK->aY->Prop}{x:Str}
theorem ak2{k:Nat}{q:gk}{d:DefRec}{K:Params->bV}{CX:fK->wz}{sp:fK->Sp}(hn:l.most=some n)(hn2:n<=aO)(hdf:d.params.defaults=[])(hr:jD k callerA)(hY:∀(w:fK)(h:aY),YP w h->(K w.params).In h)(F:∀(w:fK)(mg:Str->Option aB)(fa:au)(h:aY),(K w.params).In h->h.Ns qU mg->mg d.name=some (.ref fa) -> ∃ fd:jU,(∀(s:aK)(u:aB),Df s fd ⟨[u],[]⟩ [(x,u)])/\∀ base:aY,(K w.params).In base->base.Ns qU mg->bf l.prog w (K w.params) mg base (CX w) k fa fd [x] (sp w))(hsp:∀(w:fK)(H:Hp)(a:au)(ns:List Int),ns.length<=n->(∀ m∈ns,IV m)->Only H->aV (K w.params) H a (ns.map V.int)->sp w [.ref a] H (λv _=>v=.bl true) λ_ _ _=>False)(hCX:∀(w:fK)(H:Hp)(s:aK)(e:aB)(s':aK),CX w [] H s (λ_ _ _=>False) e s'->False):PySem.W.WalkO q loose XP YP l.row.toRowW d [] (λf vs=>PySem.call f vs):=by intro w s₀ s₁ mg mb G Y fa o pm cd doc dV kV ho hd hcd hD hmg hg args vals as hpre hlay hrd hwl hlo;obtain rfl:dV=.none:=PySem.W.Dflts.none hD hdf;obtain rfl:kV=.none:=PySem.W.Dflts.noKw hD;obtain ⟨a,vs,ns,rfl,rfl,hobj,hints,hlen⟩:=Att.ako hn hpre hwl;have KX:=hY w _ Y;obtain ⟨fd,hb,hF⟩:=F w mg fa _ KX G.T.g hmg;have key:=apj KX G.T.g G.T.b G.T.builtins G.T.nolimit hg hobj hints (jF hlen hn2) hr hF hb (λH hO hS=>hsp w H a ns hlen (akS hlay) hO hS) λH e s'=>hCX w H s₁ e s';refine PySem.W.enter_call (wM key λr s' hq=>?_);obtain ⟨rfl,h2,h3,h4⟩:=hq;exact ⟨.inl ⟨.bool true,.bool true,[],rfl,λ_=>rfl,.bool true,Att.alK l _,λ_=>⟨yc,λ_ hm=>(nomatch hm)⟩⟩,h2,h3,h4⟩
theorem anB(x1:mC K (.ref C) "__getattribute__" = some (some (.builtin "BaseException.__getattribute__")))(x6:mC K (.ref C) "__getattr__" = some none)(x7:mC K (.ref C) "__class__" = some (some (.builtin "object.__class__")))(x8:M4 K C (.type "object")=some true)(x9:LQ K (.ref C) (.type "BaseException")=some true):wI K C=true:=by have x:(PySem.W.clsIn K C).isSome=true:=(by unfold M4 at x8;cases e:PySem.W.clsIn K C with| some c=>rfl| none=>rw [e] at x8; cases x8);unfold wI;rw [x1,x6,x7,x8,x9,x]; rfl
theorem ahC{a b:aB}(x3:LQ K b (.type "BaseException")=some true)(x10:(a == b)=false)(x4:ju K a b=some true):Km K a b=some true:=by unfold ju at x4;rw [aZ (by rw [x10]; exact iW)] at x4;unfold Km;rw [x3,bI (by rfl)]; exact x4
noncomputable def Gz(K:bV)(x:Str)(v:Option aB):Prop:=PySem.W.nsIn K qU x=some v
structure FA(K:bV)(x:Str)(st:cA)(f:au)(d:jU):Prop where
 a:Gz K x (some (.ref f))
 F:pG K x x st f d
structure FM(K:bV)(C:au)(x q:Str)(st:cA)(f:au)(d:jU):Prop where
 a:mC K (.ref C) x=some (some (.ref f))
 i:Pz K (.ref f)=true
 F:pG K x q st f d
theorem g8{h:aY}{v:aB}(X:K.In h)(G:h.Ns qU mg)(z:Gz K x (some v)):mg x=some v:=PySem.W.mg_of X G z
variable{st:cA}{ps:List Str}
theorem cF{h:aY}{k:Nat}{d:jU}{sp:Sp}(X:K.In h)(G:h.Ns qU mg)(F:FA K x st f d)(b:cj K d ps [])(a:bf P w K mg base bB k f d ps sp):Cl P w K mg base k x ps sp:=clM a (g8 X G F.a) F.F.kp b
theorem mK{h:aY}(X:K.In h)(G:h.Ns qU mg)(z:Gz K x none):mg x=none:=PySem.W.mg_none_of X G z
variable{q:Str}
theorem B1(F:pG K x q st f fd)(l:ps.length=1:=by rfl)(h:∀(kV doc pm:aB)(an:Option au)(cdv ct u0:aB),bindArgs (uN x q (BJ st) (wG st) (bw st) .none kV doc pm an cdv ct) ⟨[u0],[]⟩=pure (ps.zip [u0]):=by intros; rfl):cj K fd ps []:=F.binds λ_ _ _ _ _ _ us hl=>match us,hl.aA l with | [_],_=>h _ _ _ _ _ _ _
theorem B2(F:pG K x q st f fd)(l:ps.length=2:=by rfl)(h:∀(kV doc pm:aB)(an:Option au)(cdv ct u0 u1:aB),bindArgs (uN x q (BJ st) (wG st) (bw st) .none kV doc pm an cdv ct) ⟨[u0,u1],[]⟩=pure (ps.zip [u0,u1]):=by intros; rfl):cj K fd ps []:=F.binds λ_ _ _ _ _ _ us hl=>match us,hl.aA l with | [_,_],_=>h _ _ _ _ _ _ _ _
theorem B3(F:pG K x q st f fd)(l:ps.length=3:=by rfl)(h:∀(kV doc pm:aB)(an:Option au)(cdv ct u0 u1 u2:aB),bindArgs (uN x q (BJ st) (wG st) (bw st) .none kV doc pm an cdv ct) ⟨[u0,u1,u2],[]⟩=pure (ps.zip [u0,u1,u2]):=by intros; rfl):cj K fd ps []:=F.binds λ_ _ _ _ _ _ us hl=>match us,hl.aA l with | [_,_,_],_=>h _ _ _ _ _ _ _ _ _
theorem B4(F:pG K x q st f fd)(l:ps.length=4:=by rfl)(h:∀(kV doc pm:aB)(an:Option au)(cdv ct u0 u1 u2 u3:aB),bindArgs (uN x q (BJ st) (wG st) (bw st) .none kV doc pm an cdv ct) ⟨[u0,u1,u2,u3],[]⟩=pure (ps.zip [u0,u1,u2,u3]):=by intros; rfl):cj K fd ps []:=F.binds λ_ _ _ _ _ _ us hl=>match us,hl.aA l with | [_,_,_,_],_=>h _ _ _ _ _ _ _ _ _ _
theorem all_mk{h:aY}{fa cS f1 f2 f3 f4 f5 f6 f7 f8 f9 f10 f11 f12 f13 f14 f15 f16 f17 f18 f19 f20 f21 f22 f23 f24 f25 f26 f27 f28 f29 f30 f31 f32 f33 f34 f35 f36 f37 f38 f39 f40 f41 f42 f43 f44 f45 f46 f47 f48 f49 f50 f51 f52 f53 f54 f55 e0 e1 e2 e3 e4 e5 e6 e7 e8 e9 e10 e11 e12 e13 e14:au}(X:K.In h)(G:h.Ns qU mg)(hfa:mg "law" = some (.ref fa)){d1 d2 d3 d4 d5 d6 d7 d8 d9 d10 d11 d12 d13 d14 d15 d16 d17 d18 d19 d20 d21 d22 d23 d24 d25 d26 d27 d28 d29 d30 d31 d32 d33 d34 d35 d36 d37 d38 d39 d40 d41 d42 d43 d44 d45 d46 d47 d48 d49 d50 d51 d52 d53 d54 d55:jU}(aC:Gz K "Keeper" (some (.ref C)))(pS:Gz K "SkewError" (some (.ref cS)))(p0:Gz K "NoBound" (some (.ref e0)))(p1:Gz K "NoPlacing" (some (.ref e1)))(p2:Gz K "NoRow" (some (.ref e2)))(p3:Gz K "NoWord" (some (.ref e3)))(p4:Gz K "TooMany" (some (.ref e4)))(p5:Gz K "NoNumber" (some (.ref e5)))(p6:Gz K "NoOrder" (some (.ref e6)))(p7:Gz K "NoHouse" (some (.ref e7)))(p8:Gz K "NoRun" (some (.ref e8)))(p9:Gz K "NoReading" (some (.ref e9)))(p10:Gz K "NoLetter" (some (.ref e10)))(p11:Gz K "NoMerge" (some (.ref e11)))(p12:Gz K "NoText" (some (.ref e12)))(p13:Gz K "NoCall" (some (.ref e13)))(p14:Gz K "NoKept" (some (.ref e14)))(F1:FA K "is_whole" Uw f1 d1)(F2:FA K "is_name" Nz f2 d2)(F3:FA K "has_parts" Uk f3 d3)(F4:FA K "is_rising" M5 f4 d4)(F5:FA K "is_named_number" W6 f5 d5)(F6:FA K "is_clock" Lw f6 d6)(F7:FA K "is_run" Jw f7 d7)(F8:FA K "is_house" Lh f8 d8)(F9:FA K "rows_in" K8 f9 d9)(F10:FA K "row_names" K7 f10 d10)(F11:FA K "are_unlike" W9 f11 d11)(F12:FA K "are_houses" Ih f12 d12)(F13:FA K "is_letter" Ut f13 d13)(F14:FA K "are_letters" Gs f14 d14)(F15:FA K "is_ledger" VN f15 d15)(F16:FA K "rows_of" TV f16 d16)(F17:FA K "names_each_row" Ip f17 d17)(F18:FA K "keeps_drift" Lz f18 d18)(F19:FA K "neighbours_in" Nu f19 d19)(F20:FA K "keeps_house" GD f20 d20)(F21:FA K "keeps_letter" VD f21 d21)(F22:FA K "is_placing" GJ f22 d22)(F23:FA K "is_empty_house" Ry f23 d23)(F24:FA K "are_empty_houses" Ij f24 d24)(F25:FA K "runs_of" O4 f25 d25)(F26:FA K "put_down" GC f26 d26)(F27:FM K C "__init__" "Keeper.__init__" Ug f27 d27)(F28:FM K C "ledger" "Keeper.ledger" Ww f28 d28)(F29:FA K "_law_mixed" Qy f29 d29)(F30:FA K "_law_pack" Tr f30 d30)(F31:FA K "_law_take" Qo f31 d31)(F32:FA K "_law_names" Ge f32 d32)(F33:FA K "_law_house" Tc f33 d33)(F34:FA K "_law_letters" N7 f34 d34)(F35:FA K "_law_ledger" Ky f35 d35)(F36:FA K "_law_rows" MF f36 d36)(F37:FA K "_law_keeps" Vg f37 d37)(F38:FA K "_law_whole" Rx f38 d38)(F39:FA K "_law_name" Nk f39 d39)(F40:FA K "_law_sized" Vw f40 d40)(F41:FA K "_law_pairs_good" M8 f41 d41)(F42:FA K "_law_clock_good" MK f42 d42)(F43:FA K "_law_house_good" Np f43 d43)(F44:FA K "_law_letter_good" Q7 f44 d44)(F45:FA K "_law_ledger_good" Cy f45 d45)(F46:FA K "_law_clocks_good" JN f46 d46)(F47:FA K "_law_placing_good" O1 f47 d47)(F48:FA K "_law_small" Om f48 d48)(F49:FA K "_law_other" Wd f49 d49)(F50:FA K "_law_bent" Rr f50 d50)(F51:FA K "_law_is" sIs f51 d51)(F52:FA K "_law_sort" Qi f52 d52)(F53:FA K "_law_keeper_right" Ov f53 d53)(F54:FA K "_law_right" Nj f54 d54)(F55:FA K "law" Qe f55 d55)(pg:Jy K C Str.empty=true)(hd:Kc K C=true)(po:Ro K C=true)(sa:mC K (.ref C) "__setattr__" = some (some (.builtin "object.__setattr__")))(mk:Tn K C=true)(kc:nu K (.ref C)=true)(nH:mC K (.ref C) "houses" = some none)(nK:mC K (.ref C) "kept" = some none)(nL:mC K (.ref C) "letters" = some none)(nE:mC K (.ref C) "ends" = some none)(y1:Gz K "LONGEST_NAME" (some (.int 8 t8)))(y2:Gz K "MOST_HOUSES" (some (.int 6 t6)))(y3:Gz K "MOST_ROWS" (some (.int 24 tR)))(y4:Gz K "MOST_LETTERS" (some (.int 24 tL)))(z1:Gz K "isinstance" none)(z2:Gz K "int" none)(z3:Gz K "bool" none)(z4:Gz K "str" none)(z5:Gz K "tuple" none)(z6:Gz K "len" none)(z7:Gz K "all" none)(z8:Gz K "any" none)(z9:Gz K "zip" none)(z10:Gz K "set" none)(z11:Gz K "sorted" none)(z12:Gz K "divmod" none)(z13:Gz K "range" none)(z14:Gz K "max" none)(z15:Gz K "min" none)(z16:Gz K "list" none)(z17:Gz K "dict" none)(z18:Gz K "sum" none)(z19:Gz K "enumerate" none)(zV:Gz K "ValueError" none)(x3:LQ K (.ref cS) (.type "BaseException")=some true)(u1:mC K (.ref e7) "__getattribute__" = some (some (.builtin "BaseException.__getattribute__")))(u2:mC K (.ref e7) "__getattr__" = some none)(u3:mC K (.ref e7) "__class__" = some (some (.builtin "object.__class__")))(u4:M4 K e7 (.type "object")=some true)(u5:LQ K (.ref e7) (.type "BaseException")=some true)(u6:(cL e7 == cL cS)=false)(u7:ju K (.ref e7) (.ref cS)=some true)(u8:ju K (.ref e7) (.type "ValueError")=some true)(q0:ju K (.ref e7) (.ref e0)=some false)(q1:ju K (.ref e7) (.ref e1)=some false)(q2:ju K (.ref e7) (.ref e2)=some false)(q3:ju K (.ref e7) (.ref e3)=some false)(q4:ju K (.ref e7) (.ref e4)=some false)(q5:ju K (.ref e7) (.ref e5)=some false)(q6:ju K (.ref e7) (.ref e6)=some false)(q7:ju K (.ref e7) (.ref e7)=some true)(q8:ju K (.ref e7) (.ref e8)=some false)(q9:ju K (.ref e7) (.ref e9)=some false)(q10:ju K (.ref e7) (.ref e10)=some false)(q11:ju K (.ref e7) (.ref e11)=some false)(q12:ju K (.ref e7) (.ref e12)=some false)(q13:ju K (.ref e7) (.ref e13)=some false)(q14:ju K (.ref e7) (.ref e14)=some false)(u9:JT K e7 [.type "ValueError",.type "Exception",.type "BaseException",.type "object"] "ValueError.__new__" = true): ∃ fd:jU,(∀(s:aK)(v:aB),Df s fd ⟨[v],[]⟩ [("_law_script",v)])/\∀ base:aY,K.In base->base.Ns qU mg->bf l.prog w K mg base bB 15 fa fd ["_law_script"] (O5 K):=by have e:=hfa.symm.aA (g8 X G F55.a);cases e;have T:Txt mg t8 t6 tR tL:=⟨mK X G z1,mK X G z2,mK X G z3,mK X G z4,mK X G z5,mK X G z6,mK X G z7,mK X G z8,mK X G z9,mK X G z10,mK X G z11,mK X G z12,mK X G z13,mK X G z14,mK X G z15,mK X G z16,mK X G z17,mK X G z18,mK X G z19,g8 X G y1,g8 X G y2,g8 X G y3,g8 X G y4⟩;have TC:KCls K mg C:=⟨⟨pg,hd,po,sa⟩,nH,nK,nL,nE,g8 X G aC⟩;let c:Nat->au:=λk=>[e0,e1,e2,e3,e4,e5,e6,e7,e8,e9,e10,e11,e12,e13,e14].getD k e0;have M:Sorts mg c:=⟨g8 X G p0,g8 X G p1,g8 X G p2,g8 X G p3,g8 X G p4,g8 X G p5,g8 X G p6,g8 X G p7,g8 X G p8,g8 X G p9,g8 X G p10,g8 X G p11,g8 X G p12,g8 X G p13,g8 X G p14,mK X G zV,mK X G z18⟩;have so:Rt K c e7 7:=⟨anB u1 u2 u3 u4 u5,u8,λk hk=>match k,hk with | 0,_=>q0 | 1,_=>q1 | 2,_=>q2 | 3,_=>q3 | 4,_=>q4 | 5,_=>q5 | 6,_=>q6 | 7,_=>q7 | 8,_=>q8 | 9,_=>q9 | 10,_=>q10 | 11,_=>q11 | 12,_=>q12 | 13,_=>q13 | 14,_=>q14 | k+15,h=>bO h (by omega),by decide⟩;have b1:cj K d1 ["thing"] []:=B1 F1.F;have b2:cj K d2 ["thing"] []:=B1 F2.F;have b3:cj K d3 ["thing","many"] []:=B2 F3.F;have b4:cj K d4 ["values"] []:=B1 F4.F;have b5:cj K d5 ["thing"] []:=B1 F5.F;have b6:cj K d6 ["name","low","high","drift"] []:=B4 F6.F;have b7:cj K d7 ["thing"] []:=B1 F7.F;have b8:cj K d8 ["thing"] []:=B1 F8.F;have b9:cj K d9 ["house"] []:=B1 F9.F;have b10:cj K d10 ["houses"] []:=B1 F10.F;have b11:cj K d11 ["names"] []:=B1 F11.F;have b12:cj K d12 ["thing"] []:=B1 F12.F;have b13:cj K d13 ["thing"] []:=B1 F13.F;have b14:cj K d14 ["thing","houses"] []:=B2 F14.F;have b15:cj K d15 ["thing"] []:=B1 F15.F;have b16:cj K d16 ["ledger"] []:=B1 F16.F;have b17:cj K d17 ["ledger","thing"] []:=B2 F17.F;have b18:cj K d18 ["run","drift","moments"] []:=B3 F18.F;have b19:cj K d19 ["house"] []:=B1 F19.F;have b20:cj K d20 ["house","moments"] []:=B2 F20.F;have b21:cj K d21 ["letter","moments"] []:=B2 F21.F;have b22:cj K d22 ["ledger","thing"] []:=B2 F22.F;have b23:cj K d23 ["thing"] []:=B1 F23.F;have b24:cj K d24 ["thing"] []:=B1 F24.F;have b25:cj K d25 ["house","rows"] []:=B2 F25.F;have b26:cj K d26 ["houses","rows","letters"] []:=B3 F26.F;have b27:cj K d27 ["self","houses"] []:=B2 F27.F;have b28:cj K d28 ["self"] []:=B1 F28.F;have b29:cj K d29 ["_law_cell"] []:=B1 F29.F;have b30:cj K d30 ["_law_script","_law_k"] []:=B2 F30.F;have b31:cj K d31 ["_law_pack_here","_law_size"] []:=B2 F31.F;have b32:cj K d32 ["_law_pack_here","_law_amount"] []:=B2 F32.F;have b33:cj K d33 ["_law_pack_here","_law_name_here","_law_names_here","_law_room"] []:=B4 F33.F;have b34:cj K d34 ["_law_pack_here","_law_houses","_law_hidden"] []:=B3 F34.F;have b35:cj K d35 ["_law_script","_law_k"] []:=B2 F35.F;have b36:cj K d36 ["_law_ledger_here"] []:=B1 F36.F;have b37:cj K d37 ["_law_ledger_here","_law_instants"] []:=B2 F37.F;have b38:cj K d38 ["_law_thing"] []:=B1 F38.F;have b39:cj K d39 ["_law_thing"] []:=B1 F39.F;have b40:cj K d40 ["_law_thing","_law_size"] []:=B2 F40.F;have b41:cj K d41 ["_law_thing"] []:=B1 F41.F;have b42:cj K d42 ["_law_thing"] []:=B1 F42.F;have b43:cj K d43 ["_law_thing"] []:=B1 F43.F;have b44:cj K d44 ["_law_thing","_law_home"] []:=B2 F44.F;have b45:cj K d45 ["_law_thing"] []:=B1 F45.F;have b46:cj K d46 ["_law_thing"] []:=B1 F46.F;have b47:cj K d47 ["_law_ledger_here","_law_thing"] []:=B2 F47.F;have b48:cj K d48 ["_law_thing"] []:=B1 F48.F;have b49:cj K d49 ["_law_pack_here","_law_thing","_law_some"] []:=B3 F49.F;have b50:cj K d50 ["_law_pack_here","_law_thing","_law_some"] []:=B3 F50.F;have b51:cj K d51 ["_law_found","_law_due"] []:=B2 F51.F;have b52:cj K d52 ["_law_e"] []:=B1 F52.F;have b53:cj K d53 ["_law_thing"] []:=B1 F53.F;have b54:cj K d54 ["_law_cell","_law_ledger_here","_law_placing"] []:=B3 F54.F;have b55:cj K d55 ["_law_script"] []:=B1 F55.F;refine ⟨d55,λs v=>?_,λbase _ _=>?_⟩;obtain ⟨_,_,_,_,_,_,_,_,_,rfl,_⟩:=F55.F.ex;exact .of_eq rfl;have G1:bf l.prog w K mg base bB 1 f1 _ ["thing"] (tY K):=af0 F1.F T;have G2:bf l.prog w K mg base bB 1 f2 _ ["thing"] (uR K):=aov F2.F T;have G3:bf l.prog w K mg base bB 1 f3 _ ["thing","many"] rK:=akh F3.F T;have G4:bf l.prog w K mg base bB 1 f4 _ ["values"] Pu:=ajD F4.F T;have G5:bf l.prog w K mg base bB 2 f5 _ ["thing"] (gQ eU):=alO F5.F (cF X G F3 b3 G3) (cF X G F2 b2 G2) (cF X G F1 b1 G1);have G6:bf l.prog w K mg base bB 2 f6 _ ["name","low","high","drift"] MP:=ao2 F6.F T (cF X G F2 b2 G2) (cF X G F1 b1 G1);have G7:bf l.prog w K mg base bB 3 f7 _ ["thing"] (gQ nU):=ahr F7.F T (cF X G F5 b5 G5) (cF X G F4 b4 (G4.mono (by decide)));have G8:bf l.prog w K mg base bB 4 f8 _ ["thing"] (gQ jl):=ajn F8.F T (cF X G F3 b3 (G3.mono (by decide))) (cF X G F6 b6 (G6.mono (by decide))) (cF X G F7 b7 G7);have G9:bf l.prog w K mg base bB 1 f9 _ ["house"] Hf:=anj F9.F;have G10:bf l.prog w K mg base bB 2 f10 _ ["houses"] LK:=afb F10.F (cF X G F9 b9 G9);have G11:bf l.prog w K mg base bB 1 f11 _ ["names"] K1:=aph F11.F T;have G12:bf l.prog w K mg base bB 5 f12 _ ["thing"] (gQ yg):=aiv F12.F T (cF X G F8 b8 G8) (cF X G F10 b10 (G10.mono (by decide))) (cF X G F11 b11 (G11.mono (by decide)));have G13:bf l.prog w K mg base bB 2 f13 _ ["thing"] (gQ lB):=alM F13.F (cF X G F3 b3 G3) (cF X G F2 b2 G2) (cF X G F1 b1 G1);have G14:bf l.prog w K mg base bB 3 f14 _ ["thing","houses"] Wa:=apg F14.F T (cF X G F13 b13 G13) (cF X G F9 b9 (G9.mono (by decide))) (cF X G F4 b4 (G4.mono (by decide)));have G15:bf l.prog w K mg base bB 6 f15 _ ["thing"] (gQ Bc):=aeV F15.F (cF X G F3 b3 (G3.mono (by decide))) (cF X G F12 b12 G12) (cF X G F14 b14 (G14.mono (by decide)));have G16:bf l.prog w K mg base bB 3 f16 _ ["ledger"] Xp:=alg F16.F T (cF X G F10 b10 G10);have G17:bf l.prog w K mg base bB 4 f17 _ ["ledger","thing"] Rg:=alm F17.F T (cF X G F5 b5 (G5.mono (by decide))) (cF X G F16 b16 G16);have G18:bf l.prog w K mg base bB 1 f18 _ ["run","drift","moments"] Qf:=afj F18.F T;have G19:bf l.prog w K mg base bB 2 f19 _ ["house"] V9:=ajy F19.F T (cF X G F9 b9 G9);have G20:bf l.prog w K mg base bB 3 f20 _ ["house","moments"] Xb:=afW F20.F T (cF X G F9 b9 (G9.mono (by decide))) (cF X G F19 b19 G19) (cF X G F18 b18 (G18.mono (by decide)));have G21:bf l.prog w K mg base bB 1 f21 _ ["letter","moments"] QK:=apD F21.F;have G22:bf l.prog w K mg base bB 5 f22 _ ["ledger","thing"] Wi:=afv F22.F T (cF X G F17 b17 G17) (cF X G F20 b20 (G20.mono (by decide))) (cF X G F21 b21 (G21.mono (by decide)));have G23:bf l.prog w K mg base bB 3 f23 _ ["thing"] (gQ jg):=afq F23.F (cF X G F3 b3 (G3.mono (by decide))) (cF X G F6 b6 G6);have G24:bf l.prog w K mg base bB 4 f24 _ ["thing"] (gQ wH):=ahR F24.F T (cF X G F23 b23 G23) (cF X G F11 b11 (G11.mono (by decide)));have G25:bf l.prog w K mg base bB 1 f25 _ ["house","rows"] Ws:=afF F25.F T;have G26:bf l.prog w K mg base bB 2 f26 _ ["houses","rows","letters"] Vz:=amt F26.F T (cF X G F25 b25 G25);have G27:bf l.prog w K mg base (Af l.prog w) 5 f27 _ ["self","houses"] (Qw C e7):=amN F27.F T TC u9 (g8 X G p7) (cF X G F24 b24 G24);have G28:bf l.prog w K mg base bB 3 f28 _ ["self"] (Ti C):=anT F28.F TC (cF X G F26 b26 G26);have G29:bf l.prog w K mg base bB 1 f29 _ ["_law_cell"] Kf:=aeY F29.F;have G30:bf l.prog w K mg base bB 2 f30 _ ["_law_script","_law_k"] (Xh K):=aeW F30.F T (cF X G F29 b29 G29);have G31:bf l.prog w K mg base bB 1 f31 _ ["_law_pack_here","_law_size"] zO:=akr F31.F T;have G32:bf l.prog w K mg base bB 2 f32 _ ["_law_pack_here","_law_amount"] R5:=ajk F32.F T (cF X G F31 b31 G31);have G33:bf l.prog w K mg base bB 2 f33 _ ["_law_pack_here","_law_name_here","_law_names_here","_law_room"] PL:=apI F33.F T (cF X G F31 b31 G31);have G34:bf l.prog w K mg base bB 2 f34 _ ["_law_pack_here","_law_houses","_law_hidden"] Qa:=anx F34.F T (cF X G F31 b31 G31);have G35:bf l.prog w K mg base bB 3 f35 _ ["_law_script","_law_k"] (RD K):=alu F35.F T (cF X G F30 b30 G30) (cF X G F32 b32 G32) (cF X G F31 b31 (G31.mono (by decide))) (cF X G F33 b33 G33) (cF X G F34 b34 G34);have G36:bf l.prog w K mg base bB 1 f36 _ ["_law_ledger_here"] Ls:=afB F36.F T;have G37:bf l.prog w K mg base bB 1 f37 _ ["_law_ledger_here","_law_instants"] UW:=ao8 F37.F T;have G38:∀ hv,jT l.prog w K mg base hv 1 f38 _ ["_law_thing"] (tY K):=λhv=>anE F38.F T;have G39:∀ hv,jT l.prog w K mg base hv 1 f39 _ ["_law_thing"] (uR K):=λhv=>agj F39.F T;have G40:∀ hv,jT l.prog w K mg base hv 1 f40 _ ["_law_thing","_law_size"] rK:=λhv=>afD F40.F T;have G41:bf l.prog w K mg base bB 2 f41 _ ["_law_thing"] (gQ Fx):=agf F41.F T (cF X G F40 b40 (G40 none).ok) (cF X G F39 b39 (G39 none).ok) (cF X G F38 b38 (G38 none).ok);have G42:∀ hv,jT l.prog w K mg base hv 2 f42 _ ["_law_thing"] (gQ jg):=λhv=>apa F42.F T (G40 hv) (g8 X G F40.a) F40.F.kp b40 (G39 hv) (g8 X G F39.a) F39.F.kp b39 (G38 hv) (g8 X G F38.a) F38.F.kp b38;have G43:bf l.prog w K mg base bB 3 f43 _ ["_law_thing"] (gQ jl):=amO F43.F T (cF X G F40 b40 ((G40 none).ok.mono (by decide))) (cF X G F42 b42 (G42 none).ok) (cF X G F41 b41 G41);have G44:bf l.prog w K mg base bB 2 f44 _ ["_law_thing","_law_home"] Vb:=akd F44.F T (cF X G F40 b40 (G40 none).ok) (cF X G F39 b39 (G39 none).ok) (cF X G F38 b38 (G38 none).ok);have G45:bf l.prog w K mg base bB 4 f45 _ ["_law_thing"] U9:=aly F45.F T (cF X G F40 b40 ((G40 none).ok.mono (by decide))) (cF X G F43 b43 G43) (cF X G F36 b36 (G36.mono (by decide))) (cF X G F44 b44 (G44.mono (by decide)));have G46:∀ hv,jT l.prog w K mg base hv 3 f46 _ ["_law_thing"] (gQ wH):=λhv=>ao7 F46.F T (G42 hv) (g8 X G F42.a) F42.F.kp b42;have G47:bf l.prog w K mg base bB 3 f47 _ ["_law_ledger_here","_law_thing"] X4:=alp F47.F T (cF X G F41 b41 G41) (cF X G F36 b36 (G36.mono (by decide))) (cF X G F37 b37 (G37.mono (by decide)));have G48:bf l.prog w K mg base bB 9 f48 _ ["_law_thing"] (WX 8):=adQ F48.F T (g8 X G F48.a) F48.F.kp b48 8;have abe:bf l.prog w K mg base bB 2 f49 _ ["_law_pack_here","_law_thing","_law_some"] (Ez 0):=acF 0 F49.F T (cF X G F31 b31 G31) (cF X G F38 b38 (G38 none).ok);have ag4:bf l.prog w K mg base bB 2 f49 _ ["_law_pack_here","_law_thing","_law_some"] (Ez 1):=acF 1 F49.F T (cF X G F31 b31 G31) (cF X G F38 b38 (G38 none).ok);have aoY:bf l.prog w K mg base bB 12 f50 _ ["_law_pack_here","_law_thing","_law_some"] (Ie 0 9):=Tq 0 F50.F T G31 (g8 X G F31.a) F31.F.kp b31 abe (g8 X G F49.a) F49.F.kp b49 (g8 X G F50.a) F50.F.kp b50 9;have amH:bf l.prog w K mg base bB 12 f50 _ ["_law_pack_here","_law_thing","_law_some"] (Ie 1 9):=Tq 1 F50.F T G31 (g8 X G F31.a) F31.F.kp b31 ag4 (g8 X G F49.a) F49.F.kp b49 (g8 X G F50.a) F50.F.kp b50 9;have G51:bf l.prog w K mg base bB 1 f51 _ ["_law_found","_law_due"] V0:=anL F51.F T;have G52:∀ hv,jT l.prog w K mg base hv 1 f52 _ ["_law_e"] (Vq K c):=λhv=>aiC F52.F T M;have G53:bf l.prog w K mg base bB 7 f53 _ ["_law_thing"] Ur:=agc F53.F T TC ⟨mk,F27.a,F27.i,kc⟩ ⟨F28.a,F28.i,F28.F.kp⟩ (g8 X G pS) (ahC x3 u6 u7) so G27 b27 (G28.mono (by decide)) b28 (λhv=>(G52 hv).mono (by decide)) (g8 X G F52.a) F52.F.kp b52 (λhv=>(G46 hv).mono (by decide)) (g8 X G F46.a) F46.F.kp b46;have G54:bf l.prog w K mg base bB 14 f54 _ ["_law_cell","_law_ledger_here","_law_placing"] QV:=aiR F54.F T (cF X G F31 b31 (G31.mono (by decide))) (cF X G F29 b29 (G29.mono (by decide))) (cF X G F48 b48 (G48.mono (by decide))) (aoY.mono (by decide)) (amH.mono (by decide)) (g8 X G F50.a) F50.F.kp b50 (cF X G F49 b49 (abe.mono (by decide))) (cF X G F2 b2 (G2.mono (by decide))) (cF X G F39 b39 ((G39 none).ok.mono (by decide))) (cF X G F1 b1 (G1.mono (by decide))) (cF X G F38 b38 ((G38 none).ok.mono (by decide))) (cF X G F15 b15 (G15.mono (by decide))) (cF X G F45 b45 (G45.mono (by decide))) (cF X G F53 b53 (G53.mono (by decide))) (cF X G F22 b22 (G22.mono (by decide))) (cF X G F47 b47 (G47.mono (by decide))) (cF X G F51 b51 (G51.mono (by decide)));exact an4 F55.F T (cF X G F35 b35 (G35.mono (by decide))) (cF X G F54 b54 G54)
theorem walk{q:gk}{d:DefRec}{K:Params->bV}(hn:l.most=some 63)(hdf:d.params.defaults=[])(hY:∀(w:fK)(h:aY),YP w h->(K w.params).In h)(F:∀(w:fK)(mg:Str->Option aB)(fa:au)(h:aY),(K w.params).In h->h.Ns qU mg->mg d.name=some (.ref fa) ->
     ∃ fd:jU,(∀(s:aK)(u:aB),Df s fd ⟨[u],[]⟩ [("_law_script",u)])/\∀ base:aY,(K w.params).In base->base.Ns qU mg->bf l.prog w (K w.params) mg base bB 15 fa fd ["_law_script"] (O5 (K w.params))):
   PySem.W.WalkO q loose XP YP l.row.toRowW d [] (λf vs=>PySem.call f vs) :=
 ak2 (n:=63) (k:=15) (x:="_law_script") (CX:=λ_=>bB) (sp:=λw=>O5 (K w.params)) hn (by decide) hdf ⟨rfl,by decide,by decide⟩ hY F (λ_ _ a ns hl hb _ hS=>⟨a,ns,rfl,hS,hl,hb,λ_=>rfl⟩) λ_ _ _ _ _ z=>z
end VL
structure PySem.W.Fast:Prop where(tw9889654556651427738 tw6728072530028488373 tw7325355262058641878 tw12580479901109644835 tw7962649772734067101 tw4883847876327262737 tw12408996400252982992 tw16903237024732512062 tw12655986715127146185 tw12272305403696530909 tw6300080668061735876 tw17583336211064453340 tw4106089830957586392 tw16850773827148852694 tw3498498708111748264 tw12816812447116458915 tw8400413066659421676 tw761000170770555445 tw12144019804760672605 tw16497285604200087838 tw14785166682760304937 tw13551945666871536339 tw17537347877727129873 tw15574654001616095881 tw5145219858107251448 tw15199664942945811386 tw1053637040347473696 tw928045980993316146 tw14145980888410824864 tw4152939302474966869 tw14808550743265963672 tw7366298176215882471 tw13052395253202502824 tw1138954980931335095 tw4452542361942252921 tw7919548758237182101 tw10492532142763425247 tw8246170949009418320 tw17859828954346341827 tw13505525309098943246 tw8961220218323654888 tw9287549913250594090 tw919100257965529756 tw2799306347381804746 tw10572825055748034663 tw14809960672931079448 tw3010348519212020263 tw8798987529382857824 tw17525363509883893215 tw18132807303997986151 tw13398536675688496347 tw12380789218731936677 tw744989090855234964 tw2290032605289720441 tw5820687934869847307 tw14678687642424631589 tw5442146052391106210 tw6591099088488568431 tw11169623795239209391 tw12997939898037382117 tw14213260918035794520 tw7675611146623596559 tw11901134149982489248 tw18236364910957670901 tw638475434584980687 tw14064573470941198701 tw6796508750126248481 tw4059901408500043672 tw16431867953172847147 tw14613090141867344232 tw3182223960055872684 tw11666158727092710051 tw13336404265920145411 tw11532709165959284594 tw7661741454702235496 tw2591227463424352817 tw10223928236793403349 tw17606448261317640933 tw9513446933739010406 tw13311544992622937383 tw13190785049644306208 tw12752873134026929344 tw14450268345975129884 tw8316486151177098808 tw12987387587404826178 tw15120799655983954989 tw12328077707933693439 tw4907577434767494827 tw14612832632320652582 tw2740821360768578462 tw15127775426621974034 tw1515296210438236911 tw8922246457175602306 tw2031752937554180215 tw9881473135687051855 tw6227355519959877125 tw11440803313368406686 tw14494575729253717289 tw13217857960337175890 tw10056566990867121633 tw2434537714414315307 tw18158650748832136884 tw16576119488079513752 tw9754371258757774189 tw299102140826707432 tw3416243365149284181 tw7269505323189241897 tw16961183874844543126 tw12542913210815521938 tw17435425885892130118 tw9447672034759921305 tw6856961774378884069 tw12823475997058593842 tw7169810774936613516 tw4191260201217508024 tw9508713205883183927 tw11912347947226040490 tw14528757067091760579 tw11607205382370136100 tw10316226908778966921 tw6841938873728441924 tw6129238622289319881 tw868931535769210735 tw3737664961519846937 tw5056485656512305277 tw7574075108414219453 tw5478147189998219804 tw11076201477541022755 tw17301789650121259627 tw6302293986996237676 tw16824627675715569552 tw12052795272187193716 tw14258817217035750836 tw12883398482072866948 tw9388149105179432291 tw1594589711434887712 tw3814752151654318844 tw10938326206505136008 tw14616740475788966688 tw14090529294408348042 tw12774659041296601729 tw266976520118988336 tw11426765611173682398 tw11931483388246751671 tw14404718584162858439 tw8368620776258608493 tw5240525741501426287 tw9830437832681911701 tw13842866645198729122 tw4528993409663303563 tw11470452211288119070 tw10973661326899885118 tw8980388650952275761 tw16890432212506099735 tw15152020766100881366 tw15395854468067936987 tw7689044900836456864 tw5330141207936093211 tw1488295948477387455 tw4601972926756191595 tw14140445412901185153 tw9661355330123660839 tw3079494615284916106 tw4229671554863997671 tw17019063743099799342 tw14933402946308966619 tw8602079260053493881 tw15141683442471721241 tw12363860006162114671 tw8840639650322557833 tw8052485949406653194 tw1521121980578433252 tw12313079033318878952 tw13158349980109108926 tw2457163177580604724 tw1323527637951182766 tw6235811290900777158 tw6786316082391571013 tw13379328887429196621 tw16141348967271056688 tw15054389947400246489 tw12012714569798606603 tw12935509619678125475 tw11740830914888725808 tw2046287108113653545 tw7969938110892722789 tw17024611215623217690 tw14315382606049134434 tw836792390534859179 tw11837749222139350738 tw2623982902624685387 tw8821469035313591119 tw3854178446606452361 tw5718498461792421698 tw8555910202569144688 tw17327807964786785236 tw9623384264337982672 tw548434352582598745 tw10272466323358760695 tw9197685275397189218 tw11898502312264224664 tw1457634002145510710 tw5995506221120851272 tw18392651082613255565 tw7349328007561199224 tw4525231443138825367 tw7951831816500899082 tw3742090390151206168 tw16996428806322428769 tw2482665667149962005 tw8930678587329252850 tw5271382013447905262 tw9580821800360654565 tw13114658006055883472 tw5514296293156151819 tw18372847542178270511 tw13034130980844197704 tw6372979439766203165 tw9635317749842291853 tw14078814179964022188 tw9498404329390822558 tw16707441554900662463 tw12685392068469619135 tw8870011430502099057 tw14610353535326511785 tw8731741149797832335 tw11194062713314284662 tw17611842402737372162 tw15386160109681512955 tw11089746654692826259 tw13811550623957714027 tw2353567734527303699 tw12988614902161158528 tw7280403320083918342 tw14758951187524100472 tw14185612030663729530 tw15569504762683277252 tw11832591953345068535 tw17047078805152922249 tw7304717158810881748 tw13019076987510079109 tw7448513342772067470 tw15583241482887018465 tw18014914594130326519 tw9775120317106477160 tw133795337881735781 tw4759241437759083648 tw6602266629158870464 tw7063417918829179705 tw2444739334405847607 tw7718398865031177194 tw11246149197460567327 tw7760777890207868646 tw4594353238284480003 tw17815688043340167314 tw16948183264739645590 tw1143678021902801338 tw4838100990447701023 tw10822549890118233361 tw5795707798742749609 tw9761856214890911168 tw10540246795392370728 tw13922074515085469018 tw5561381041238945161 tw2247352139421917784 tw7590664301187056361 tw11673700287366130340 tw4854799434477206923 tw9838484717551199765 tw9811482727488160295 tw6475396983995694992 tw12406791321666977312 tw14978875449829343112 tw14594040119882985367 tw933085209237303764 tw14902521885777583987 tw15634012981279554647 tw16480914849031209651 tw11499793882217703024 tw4368675415193087710 tw9843428377351403668 tw117469057784208101 tw6990560907545502861 tw14919394952599106145 tw6223759962367872833 tw6406224851513314235 tw7853313762238411575 tw15272918713214384436 tw15701891902974198760 tw1891701147767772822 tw13007880492463664752 tw5272306673095955929 tw359638468218573020 tw16347609054286568125 tw17698821533564380232 tw998413386681757230 tw6887780719875164096 tw332419845011593001 tw12182364007122373741 tw10125960791193149845 tw7965008032723641400 tw4800349782796123740 tw15253149733236844830 tw6995310770332501571 tw16450900702930237529 tw2546191515420916341 tw17282096336884246931 tw16441888373931995040 tw7122385083084440119 tw10816711769215578646 tw3022498416604051810 tw1009071202794723758 tw3884097183581620986 tw2124246519677961895 tw1121373039845789605 tw9344487178725186284 tw13262474872564370444 tw8810854969962573231 tw4994198253122451920 tw15665455566296061933 tw8787595015268919567 tw6067692850362381428 tw1131763106647756003 tw1356809137768232226 tw16428469363215151030 tw269077603567379900 tw7141331785944884307 tw17109294527780587123 tw2677361143985281846 tw4341356433985320583 tw3927979419856958154 tw13763722945314852936 tw17797988710762443829 tw10759867455362859381 tw2866869331478532526 tw6988605437388628433 tw9185269676428145961 tw10176788617347758747 tw11866625814513914419 tw8973136106614420242 tw12343937210262703899 tw14812763168312561025 tw3173568537491701516 tw7172320003629378230 tw12994512402304150776 tw17662734464513199639 tw6767840590821403489 tw7651287937553317399 tw3197734538336596233 tw5702124255409449282 tw14347290830135512450 tw2122256194076113186 tw1040413086375559968 tw6467998961412152509 tw11786210739364772420 tw4297905606226405636 tw2334355894746744240 tw361330883302620412 tw14321108991911626904 tw6969568982961029077 tw13952514541679982844 tw223861706413028214 tw17437825779721784744 tw17325855235270305137 tw5565469179286522853 tw5363941325542451911 tw15230322091380015974 tw3574782733760006094 tw13146782367689180586 tw232359478658012001 tw12223124223088260203 tw14637194198799131793 tw8637978740612581566 tw10984552236987269358 tw4034944180436968428 tw11823104737242032185 tw4730971141042090208 tw4439022397430472495 tw9471261677348538713 tw4543636821190097280 tw1115166909482320203 tw6208635111021675502 tw4829518416095106945 tw10019463878909672131 tw8419711534743559331 tw4872249194915115654 tw12712157107109439097 tw14281901383378980226 tw6672411223788208609 tw1624471970928288270 tw4831521245020412075 tw2389552267625167042 tw13791546145664494379 tw15336288038937051665 tw5090520196867669928 tw8385031904531200134 tw5916084955503388360 tw16646775227739959545 tw13113198647832094354 tw10030534910561723206 tw7199085872539164645 tw4586253773050054325 tw14373451396185056040 tw12643641010336986163 tw13708758995433261984 tw6821532490138994501 tw11966372110834197896 tw14263273247825500766 tw15760727705100405557 tw6304530715223882976 tw12619237279155609932 tw11404345550183968347 tw3200723775551621501 tw12714304810499384831 tw2817889698529424137 tw1941812013482578944 tw1394530478643230739 tw10443217152927957440 tw17253887701721292224 tw6569084185386104026 tw17132548094186009712 tw15018553565260644841 tw13906494157230178838 tw7514374959489300450 tw15790239328147426072 tw8608522954755425905 tw17090759144436457234 tw3259330136670761717 tw1660654482095008086 tw2410333538143356239 tw10800103439881849877 tw11162953346032556864 tw13121356075975434721 tw9585599890335177019 tw18140467032644950309 tw10963473064984408409 tw14431142480232578722 tw10148054896794260911 tw260504353589603509 tw3853080129271094827 tw15271538593209208019 tw4542198126697601053 tw8081286778512865981 tw12488809813396971873 tw915371627649859515 tw8929001964276448654 tw14782094141316572153 tw8307527403190376922 tw7743757330712705527 tw10831416081140664221:True)
open PySem PySem.W PyProof.Rows
set_option maxRecDepth 100000 in
set_option maxHeartbeats 0 in
theorem PySem.Challenge.cw_skewbooks_k73_whole_things_put_otherwise_holds : PySem.Challenge.rw_skewbooks_k73_whole_things_put_otherwise.Holds := by
 w_on; o_law; k_head; (case hw=>w_witness2)
 k_fill
 refine VL.walk (l:=PySem.Challenge.rw_skewbooks_k73_whole_things_put_otherwise) rfl rfl (λw h Y=>PySem.W.kIn_of Y) ?F
 case F =>
   intro w mg fa h KX G hmg;apply VL.all_mk KX G hmg
   all_goals first | (unfold VL.Gz; k_is) | (apply VL.FA.mk; unfold VL.Gz; k_is; apply L2.JQ <;> k_is) | (apply VL.FM.mk; k_is; k_is; apply L2.JQ <;> k_is) | k_is | kit_is | k_exc | (apply L2.JQ <;> k_is) | (dsimp only; rfl) | rfl
