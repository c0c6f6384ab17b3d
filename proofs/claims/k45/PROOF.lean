import PyProof.Rows.All
import Wide.All
import OpenK.AllK
import Wide.FinOn
import Lean
import PyProof.EqAt
import PyProof.EqKinds
import PyProof.TupleCall
import PySem.Challenge.RW_skewbooks_k45_what_is_not_merged
import PyProof.P3In
import PyProof.Rows.All
set_option Elab.async false
set_option linter.all false
set_option maxRecDepth 100000
open PySem renaming wpAny_bind->aA,wpAny_pure->aO,Shared->aH,Value->aB,sizeLine->aL,Addr->au,wpAny->aF,Program->dX,sizeLine_eq->dZ,Paired->bw,model->aR,wpAny_newObj_type->jT,boot_len->iM,FuncData->oA,wpAny_holding->iR,starEach->dO,wpAny_call_entry->m5,World->cU,foldedSetIterable->n6,compareOp->gK,wpAny_callSpecial?_slot->wg,Around->iw,wpAny_mono->ju,wpAny_field->lU,Heap->bD,codeAny_builtin->sZ,wpAny_truthy_bool->vX,wpAny_standAt->qL,wpAny_seqItems->ud,wpAny_setField->uK,mem_of_lookup->Cw,wpAny_setState_of->Af,binaryOp->j6,mainGlobals->qT,codeAny_mono->uD,Builtin->jr,IsTupleKey->qG,wpAny_typeNameOfWhole_keyiter->Pk,codeAny->kI,wpAny_loadPart'->CJ,wpAny_ite_split->Dd,tupleKind_room_in1->GF,plainId_quiet->zK,builtinLookup_eq_fast->La,wpAny_pyIter_list->Ih,wpAny_typeNameOf_keyiter->Pq,wpAny_typeOf->Ab,wpAny_attempt->BJ,Stmt->cD,wpAny_pyNext_list_item->RJ,SetTable->oE,wpAny_setField_rec->Ks,wpAny_specialOf->FT,wpAny_rule->yx,PyData->lF,codeAny_call_builtin->O1,wpAny_isInstance->K7,wpAny_noted->Bk,wpAny_comprehension_free->S9,wpAny_execs_nil->Jk,wpAny_pyIter_tuple->QV,wpAny_passesOwn->KY,wpAny_Call_Name_kw->Ny,NameKind->uR,codeAny_of_tree->Jr,typeLookup_type->Kv,richCompare_meets_room->YG,wpAny_assign_Name->Qn,wpAny_dictEntries->Nz,isSubtype_type->Lp,swapsWith->zO,wpAny_pyNext_list_end->XM,exec_Assign_Name_used->YB,IsPair->oh,wpAny_notOrdered_dict->Xq,wpAny_askSetting->Ra,wpAny_pyIter_zip->N5,wpAny_forIn_list->NK,wpAny_updateSeq_pair->XD,wpAny_of_eq->Fy,wpAny_setEntries_of->Ve,wpAny_letOwnedTupleGo_zip->adR,wpAny_fieldsOf->Rb,isSubtype_stop->QG,wpAny_call->Gm,wpAny_sequenceKey->Wr,wpAny_getItem_list_slice->abg,wpAny_Call_method->Yh,DictEntry->Vj,wpAny_pyIter_slot->Wv,evalPart_none->Ot,wpAny_newList->Rp,wpAny_handled->Qx,wpAny_throw->Jt,wpAny_onRaise->Rh,wpAny_execs_cons->Ws,noFill_tuple_add->Xu,entryFor_of_tree->Ze,codeAny_compStart_list->adH,wpAny_isTrue_Compare1->ae2,call_meetsIn->Ob,weight_type_call_type->afK,wpAny_dictEpoch->YX,wpAny_isOneOf_keyiter->acn,wpAny_eqIsQuiet_tuple->aen,passOn->QX,GenState->GP,call_meets->JR,Result->xO,IsPart->wX,wpAny_runValue->Zm,intBits_le_64->Vo,seq_tuple_add->Tp,evalPart_some->Z4,wpAny_Assign_Name->afM,Keyword->Hu,wpAny_storeSet_of->adA,wpAny_setEpoch_of->ab6,concat_meets->Yt,seqIndex_neg->YJ,codeAny_loop->Z8,IsZip->ur,BindsTo->FJ,wpAny_Slice->Tf,seqIndex_of->W0,wpAny_letGo->Yn,storedH_new->Yz,wpAny_Name->W8,wpAny_load->Yo,typeIs_str->R6,typeIs_int->Vd,Model->Hw,ZipApart->Px,CmpOp->GX,Heap->adO
open List renaming length_map->aU,getElem?_eq_getElem->cT,length_append->cQ,mem_cons_of_mem->dD,mem_of_getElem?->dB,mem_cons_self->dg,getElem?_map->cX,take_add_one->dI,nodup_iff_pairwise_ne->iT,map_append->dJ,mem_map->cG,length_take->eY,mem_cons->dF,mem_map_of_mem->iz,size_toArray->gH,all_eq_true->fX,mem_singleton->gY,mem_append->fQ,take_length->gU,map_cons->eV,mem_append_right->jH,getElem?_eq_some_iff->mK,range->cY,pairwise_map->jc,mem_range->iJ,mem_flatMap->jR,length_cons->jY,take_of_length_le->oM,replicate->jF,append_assoc->oU,map_map->jM,flatMap_append->rM,length_drop->pJ,mem_of_mem_take->sX,filterMap_cons->uh,eq_nil_of_length_eq_zero->Bg,not_mem_nil->pL,flatten_cons->rO,length_range->rK,getElem?_append_right->Cv,getElem?_eq_none->yd,replicate_succ->wG,mem_append_left->yr,nodup_append->vA,getElem?_append_left->Dm,nodup_cons->uG,take_sublist->yS,mem_filter->xr,lookup_cons->yg,map_congr_left->CW,flatten_append->Bt,take_append_drop->Eh,append_nil->yJ,find?_eq_none->Bf,getElem?_set_ne->DK,getElem?_set_self->Hq,drop_of_length_le->HD,length->rJ,getElem_of_mem->Eo,length_set->Ad,length_filter_le->Gn,getElem_mem->CN,mem_iff_getElem->Im,getD->oV,pairwise_singleton->Jq,length_nil->Ci,length_reverse->Hv,any_eq_true->Ej,mem_flatten->Du,mem_filterMap->IV,length_replicate->Jj,all_eq_false->IK,getElem_inj->FQ,map_filterMap->Lz,find?_cons->FN,take_eq_take_iff->Oj,any_cons->Ea,getElem_take->Lr,getD_eq_getElem?_getD->Xk,pairwise_iff_getElem->Wf,mem_of_find?_eq_some->XJ,mem_or_eq_of_mem_set->VH,filter_cons->Kw,ext_getElem->Mi,getElem?_range->M6,sublist_append_left->aaj,getElem?_cons_zero->YC,pairwise_cons->QT,getElem_cons_drop->Ut,reverse_cons->Qv,getElem?_inj->Pn,drop_take->Lf,take_zero->Le,map->wO,map_nil->Gi,getElem?_toArray->Yy,mem_reverse->Nk,map_take->LR,filter_eq_self->Xf,perm_append_singleton->aeU,length_eraseIdx_of_lt->af9,perm_ext_iff_of_nodup->ad1,filterMap_map->W9,getElem?_drop->Zh,all_map->JG,forIn_nil->Q7,drop_zero->Pr,filterMap_cons_some->aaE,filterMap_filterMap->ada,drop_sublist->ZV,ext_getElem?->Ym,getElem?_cons_succ->aeg,cons_append->Xd,flatMap_def->RV,nil_sublist->Xy,range_succ_eq_map->acX,find?_cons_of_pos->agi,find?_cons_of_neg->aaX,of_mem_zip->ZS,forIn_cons->Zz,range_succ->V9,eq_nil_or_concat->abT,concat_eq_append->acD,pairwise_flatMap->aay,range_eq_range'->adt,pairwise_append->acR,length_take_le'->abf,nodup_nil->TQ,toList_toArray->ad0,zip_cons_cons->ad7,mem_range'_1->ach,find?_append->afS,flatMap_cons->aeO,filter_congr->aei,getElem?_set->ae6,foldl->Xa
open PySem.Heap renaming get?_push_of_some->cj,lt_size->bW,get?_push_size->fU,get?_update_self->vG,SameBut->mD,size_push->ql,get?_update_other->Ef,SameBut->SM,FlyingW->O5,get?_push_ne->abR,ExtBut->Vs,IsTuple->aaF
open PySem.W renaming Frag->cH,kitOne->kh,kia_one->xu,keepIn->vY,of_hideAll->GQ,fnOf->xP,findIn->Bl,hideAll->Dn,hideAll_get->Mr,excIn->Dg,kitAny->Ku,exmOne->MN,methodObj->Z5,mroIn->PL,subIn->Ox,cellsFrom_some->adn,instObj->ZW,OpenLaw->amG,hideAll_none->afL,lookIn->YF,codeIn->Yr,kdu_collect->aak,callWith_K->aga,kitx_list->aao,kitx_dict->adu,looks_findIn->Tq,kat_cons->QZ,WData->aax,kas_rev->Rw,Looks->Ay
open Nat renaming le_refl->bB,zero_le->cJ,ne_of_lt->dU,le_trans->gw,lt_of_lt_of_le->kO,lt_or_ge->qO,lt_irrefl->uL,le_of_lt->tH,le_add_right->Ao,lt_succ_of_lt->BP,min_eq_left->BK,ne_of_gt->yh,add_le_add_right->Jz,lt_succ_self->Gu,le_of_ble_eq_true->M7,le_of_lt_succ->Jd,mul_le_mul_right->NP,le_succ_of_le->Pj,succ_pos->Fg,mod_lt->Ec,add_comm->Ln,le_of_succ_le->Vc,min_le_right->YQ,le_of_not_lt->VP,succ_mul->Ng,lt_trans->RG,sub_zero->Qp,not_lt_zero->ZD,add_le_add_left->adM,le_succ->Qj,lt_of_le_of_lt->aeu,zero_add->Wd
open PySem.Value renaming ref->bI,none->fM,type->sG,builtin->DW,bool->xX,int->xH,notImplemented->Zd,str->DY
open Bool renaming false_ne_true->gO,eq_iff_iff->jP,and_eq_true_iff->pU,false_eq_true->Aa,and_eq_true->CZ,true_and->xQ,eq_false_iff->IW,false_xor->Ma,or_false->M8,beq_eq_decide_eq->aeI,and_false->aag,or_true->Wb
open PyProof.Rows renaming boot_tuple->jy,boot_isinstance->uF,boot_sorted->yQ,slot_tuple_getitem->Ip,boot_all->Bx,callWith_type1->Ms,boot_abs->JZ,boot_set->Y8,boot_int->Vn,assignInOrder_cons->Yg,StrsAre->wM,AllBare->yG,subscriptTail_builtinR->aaC,entry_list_sort->WX,boot_max->afk,Subscript_->Je,slot_list_sort->Zr,args_list_sort->Z0,sortedHeap_old->Tj,entry_tuple_getitem->abU,IsTup->qR,args_tuple_getitem->ad2,sortedHeap_at->ZP,listUpdate_at->Vl,assignInOrder_nil->adC,plain_sorted->RW,entry_sorted->YK,args_sorted1->Yd,kind_sorted->YZ,seqEpoch_at->XR,tail_any->QW,IntsAre->Od
open Array renaming length_toList->iZ,getD_eq_getD_getElem?->wU,getElem?_toList->uW,getElem?_eq_getElem->HF,mem_toList_iff->Kz,getElem?_eq_some_iff->WL,getElem?_eq_none->Td,getElem?_replicate->af7,mem_of_getElem?->abd,size_map->Va,forIn_toList->aeG,getD->Qh
open Prod renaming fst->cu,snd->iY,ext->wz
open Int renaming eq_ofNat_of_zero_le->nG,toNat_natCast->rT,zero_add->Bs,fmod_eq_emod_of_nonneg->abh,fdiv_eq_ediv_of_nonneg->acY,emod_nonneg->Xp,emod_lt_of_pos->af4,ediv_one->Uu
open PySem.PassesOwn renaming never->je
open Option.some renaming inj->jK
open PySem.SetTable renaming insertAt->lG,runEnd->jL,leap->pI,bits->qu,turns->wW,below->O7,toList_insertAt->aa8,grown->Ui,layClean->aaN,probe->af8
open Sum renaming inr->cB,inl->rD
open PySem.F renaming plainAttrs_list->uy,slot_list_append->zH,type_list_append->Aq,slot_dict_keyiterator_next->OJ,slot_tuple_iterator_next->Qt,slot_list_extend->Qa,type_list_extend->QM,plainAttrs_dict->NQ,slot_zip_next->QH,args_dict_keyiterator_next_1->acz,entry_dict_keyiterator_next->aes,args_tuple_add_2->Us,args_tuple_iterator_next_1->aek,entry_tuple_add->WD,entry_tuple_iterator_next->afm,slot_tuple_add->aaf,slot_dict_get->ZM,slot_dict_setdefault->aeV,slot_NoneType_hash->agl,plain_extend_loop->aft,slot_dict_update->aeN,args_dict_get_3->adL,entry_type_call->ac8,plain_list_iadd->aaP,args_zip_next_1->aa9,entry_dict_get->ad8,typeCall_set_1->acw,entry_set_init->aeE,slot_dict_iter->adI,entry_zip_next->abl,slot_dict_pop->ac0,plain_set_new->aby,slot_set_iter->abL
open PySem.NameKind renaming free->lJ,cell->wY
open PySem.Heap.SameBut renaming update->rQ,refl->Kr
open PySem.PyData renaming canLayAll0->qm,canLay0->pW,depthAll->sU,depth->rP,eqv->oW,eqvAll->Lh,str->Ie
open PyProof.Rows.F renaming plain_set_update_loop->Ew,entry_set_update_loop->Ru
open PySem.Builtin.SmallTypes renaming nextOf->Cm,ownedTupleIsFree->O2,ownedTupleHandOut->aa1
open PySem.Around renaming under_plainId->yq,under_plain->afj
open PySem.Builtin.Tuple renaming tupleExact->Bj,tupleItemsOf->Ux
open Ne renaming symm->gQ
open PySem.Builtin.Slice renaming slicePlaces->DQ,sliceApplied->QS,sliceAdjust->XF,sliceFields->aaz
open PySem.SeqAt renaming shaped->oY
open PySem.Obj renaming mapFields->tQ,mapSeq->qH,data_mapFields->Gf,isFreed_of_fields->Yl,putSet->Ly,data_mapDictKeys->ab9,cls_mapFields->adP
open Option renaming isSome_iff_exists->GD,map_eq_some_iff->Ho,map_some->Fv,isSome_map->Yv,isSome_some->adD
open Sum.inr renaming inj->rY
open False renaming elim->qp
open PySem.Str renaming ofString->wD,length->Br
open True renaming intro->rF
open PySem.Txt renaming slice->Cu,slice->BL,slice_le->Vp
open PySem.SetTable.layClean renaming free->Ky
open PySem.Calls renaming spliced_cons->Hr,evalArgs_plain->K6,callWith_builtin->QD,call_function_entry->Xw,spliced_nil->Np,Name_function_global->adb
open Or renaming inl->jh,inr->tO
open Classical renaming byContradiction->Nb,em->KC
open PySem.Builtin.List renaming listTooLong->Nq,listLengthHint->aaA,listExtendWith->afN,listSameRef->abw
open List.Pairwise renaming nil->JH
open List.Sublist renaming refl->Lj
open PySem.W.WData renaming weight->Zt,weightAll->ae4,int->aem
open PySem.Builtin.Frozenset renaming updateFrom->afC
open PySem.Builtin.Dict_items renaming ownsTuple->aaS
open PySem.Builtin.Str renaming strSliceIndices->ac6
open List.cons renaming injEq->Pa
open PySem.Builtin.Int renaming intBits->Uy
open PySem.Heap.IsSliceOf renaming new->Vi
open PySem.Code renaming quiet_builtin->aai,compLoop->OD
open PySem.Source renaming order->Jf
open PySem.SetFound renaming there->Nu
open PySem.Data renaming cell->Es,seq->Ko,fields->Yb
open PySem.AutoSeq1 renaming sub_tuple_tuple->ace
open PySem.SetTable.probe renaming go->VR
open PySem.Paired renaming length->Mx
open PySem.Shared renaming TypeIs->QC
open PySem.Builtin.Dict renaming updateFrom->abO,pairItems->ac9,showsAll->agn
open Sum.inl renaming inj->PB
open List.Perm renaming map->W7
open PySem.W.Looks renaming of_pure->Tw
open PySem.SetTable.below renaming go->ad5
open PySem.pickOrder renaming go->RP
open PySem.Walks renaming list->ZR
open LawfulMonad renaming bind_assoc->ZX
open Eq renaming symm->NT
theorem fj{p:Prop}[Decidable p](h:p):decide p=true:=decide_eq_true h
theorem iD{p:Prop}[Decidable p](h:¬ p):decide p=false:=decide_eq_false h
theorem iH{p:Prop}[Decidable p](h:decide p=true):p:=of_decide_eq_true h
variable{c:Prop}{aJ:Sort u}
theorem aV{h:Decidable c}(n:¬ c){t e:aJ}:ite c t e=e:=if_neg n
theorem bh{h:Decidable c}(n:c){t e:aJ}:ite c t e=t:=if_pos n
theorem fG{bO:Sort v}{a b:aJ}(f:aJ->bO)(h:a=b):f a=f b:=congrArg f h
def bK{a:Prop}{b:Sort v}(h:a)(n:¬ a):b:=absurd h n
theorem Eq.ao{a b c:aJ}(h:a=b)(g:b=c):a=c:=Eq.trans h g
theorem Iff.ao{a b:Prop}(h:a↔b)(g:b↔c):a↔c:=Iff.trans h g
variable{aJ:Type u}
theorem List.Sublist.ao{a b c:List aJ}(h:a.Sublist b)(g:b.Sublist c):a.Sublist c:=List.Sublist.trans h g
theorem List.Perm.ao{a b c:List aJ}(h:a.Perm b)(g:b.Perm c):a.Perm c:=List.Perm.trans h g
theorem PySem.Heap.UpToSlots.ao{a b c:adO}(x:a.UpToSlots b)(y:b.UpToSlots c):a.UpToSlots c:=PySem.Heap.UpToSlots.trans x y
theorem PySem.Heap.SameBut.ao{a:PySem.Addr}{h:adO}(x:SM a h h1)(y:SM a h1 h2):SM a h h2:=PySem.Heap.SameBut.trans x y
namespace L2
open PySem PySem.Spec PyProof.Rows
inductive v9{a b:Type}(p:a->b->Prop):Prop|mk x y(h:p x y)
inductive kJ{a b c:Type}(p:a->b->c->Prop):Prop|mk x y z(h:p x y z)
inductive mz{a b c d:Type}(p:a->b->c->d->Prop):Prop|mk x y z u(h:p x y z u)
inductive QX5{a b c d e:Type}(p:a->b->c->d->e->Prop):Prop|mk x y z u v(h:p x y z u v)
inductive QX6{a b c d e f:Type}(p:a->b->c->d->e->f->Prop):Prop|mk x y z u v w(h:p x y z u v w)
inductive QX7{a b c d e f g:Type}(p:a->b->c->d->e->f->g->Prop):Prop|mk x y z u v w r(h:p x y z u v w r)
inductive QX8{a b c d e f g i:Type}(p:a->b->c->d->e->f->g->i->Prop):Prop|mk x y z u v w r s(h:p x y z u v w r s)
inductive Za{a b c d e f g i j k:Type}(p:a->b->c->d->e->f->g->i->j->k->Prop):Prop|mk x y z u v w r s t x1(h:p x y z u v w r s t x1)
inductive aaw{a b c d e f g i j k l:Type}(p:a->b->c->d->e->f->g->i->j->k->l->Prop):Prop|mk x y z u v w r s t x1 x2(h:p x y z u v w r s t x1 x2)
inductive wB(a b c d:Prop):Prop|mk(_:a)(_:b)(_:c)(_:d)
inductive jt(a b c d e:Prop):Prop|mk(_:a)(_:b)(_:c)(_:d)(_:e)
inductive uf(a b c d e f:Prop):Prop|mk(_:a)(_:b)(_:c)(_:d)(_:e)(_:f)
inductive uV(a b c d e f g:Prop):Prop|mk(_:a)(_:b)(_:c)(_:d)(_:e)(_:f)(_:g)
inductive QA8(a b c d e f g i:Prop):Prop|mk(_:a)(_:b)(_:c)(_:d)(_:e)(_:f)(_:g)(_:i)
inductive QA9(a b c d e f g i j:Prop):Prop|mk(_:a)(_:b)(_:c)(_:d)(_:e)(_:f)(_:g)(_:i)(_:j)
inductive Wg(a b c d e f g i j k:Prop):Prop|mk(_:a)(_:b)(_:c)(_:d)(_:e)(_:f)(_:g)(_:i)(_:j)(_:k)
inductive ahE(a b c d e f g i j k l:Prop):Prop|mk(_:a)(_:b)(_:c)(_:d)(_:e)(_:f)(_:g)(_:i)(_:j)(_:k)(_:l)
inductive UL(a b c d e f g i j k l m:Prop):Prop|mk(_:a)(_:b)(_:c)(_:d)(_:e)(_:f)(_:g)(_:i)(_:j)(_:k)(_:l)(_:m)
abbrev Key:=Sum (Option Int) Str
def tE:Key->aB->Bool
 | .inl none,v=>match v with | .none=>true | _=>false
 | .inl (some k),v=>Value.isInt k v
 | .inr x,v=>Value.isStrOf x v
def anA(w:cU):Key->Int
 | .inl none=>0xFCA86420
 | .inl (some k)=>hashInt k
 | .inr x=>hashStr w x
theorem vC:∀{k:Key}{v:aB},tE k v=true->(∃ i t,k=rD (some i)/\v=xH i t)\/(∃ x t,k=cB x/\v=DY x t)\/(k=rD none/\v=fM)
 | .inl (some i),v,h=>by obtain ⟨t,e⟩:=Value.isInt_shape (k:=i) (v:=v) h;exact .inl ⟨i,t,rfl,e⟩
 | .inl none,v,h=>by cases v with| none=>exact .inr (.inr ⟨rfl,rfl⟩)| _=>cases h
 | .inr x,v,h=>by obtain ⟨t,e⟩:=Value.isStrOf_shape (x:=x) (v:=v) h;exact .inr (.inl ⟨x,t,rfl,e⟩)
theorem Ur(i:Int)(t:Tok):tE (.inl (some i)) (.int i t)=true:=by simp [tE,Value.isInt]
theorem aad(x:Str)(t:Tok):tE (.inr x) (.str x t)=true:=by simp [tE,Value.isStrOf]
theorem afi:tE (.inl none) .none=true:=rfl
theorem ahf(a b:Int):decide ((rD (some a):Key)=rD (some b))=(a == b):=by by_cases e:a=b;subst e; simp;have h:¬ (rD (some a):Key)=rD (some b):=λq=>e (jK (PB q));rw [iD h];exact (beq_eq_false_iff_ne.mpr e).symm
theorem aiN(a b:Str):decide ((cB a:Key)=cB b)=decide (a=b):=by by_cases e:a=b;subst e; simp;have h:¬ (cB a:Key)=cB b:=λq=>e (rY q);rw [iD h,iD e]
theorem aeB(a:Option Int)(b:Str):decide ((rD a:Key)=cB b)=false:=iD (λq=>nomatch q)
theorem abv(a:Str)(b:Option Int):decide ((cB a:Key)=rD b)=false:=iD (λq=>nomatch q)
theorem ah0(a:Int):decide ((rD (some a):Key)=rD none)=false:=iD (λq=>nomatch (PB q))
theorem aiQ(a:Int):decide ((rD none:Key)=rD (some a))=false:=iD (λq=>nomatch (PB q))
theorem ahI:decide ((rD none:Key)=rD none)=true:=fj rfl
variable{prog:dX}{w:cU}{A:iw}{E:aB->aH->Prop}{s:aH}
theorem amV{Q:Int->aH->Prop}(h:Q 0xFCA86420 { s with toks:=s.toks+1 }):aF (aR prog w) A (pyHash .none) Q E s:=by have hT:s.TypeIs .none "NoneType":=rfl;unfold pyHash;have hv:[fM].any Value.onHeap=false:=rfl;refine aA ?_;rw [cRoomFor,aV (by rw [hv]; exact gO)]; refine aO ?_;refine aA (FT hT PySem.F.slot_NoneType_hash.lookup ?_);show aF _ _ (if (some (DW "NoneType.__hash__") == some fM)=true then _ else _) Q E s;rw [aV (by decide)];refine aA (FT hT PySem.F.slot_NoneType_hash.lookup ?_);show aF _ _ (callSpecialIfBoundUnlessNone? .none "__hash__" _ >>= _) Q E s;refine aA (wpAny_callSpecialIfBoundUnlessNone?_slot hT agl (m5 agl hT PySem.F.entry_NoneType_hash (show aF _ _ (do ret (<- mkInt 0xFCA86420)) _ _ s from wpAny_ret_mkInt ?_) (PySem.F.args_NoneType_hash_1 _)));show aF _ _ (if (decide (-(2:Int) ^ 63<=0xFCA86420) && decide ((0xFCA86420:Int)<2 ^ 63))=true then _ else _) Q E _;rw [bh (by decide)];exact aO h
theorem al3{Q:Bool->aH->Prop}(h:Q true s):aF (aR prog w) A (eqBool .none .none) Q E s:=by have hb:(fM == fM)=true:=(by decide);unfold eqBool;rw [bh hb];exact aA (yx (aO h))
def eU(prog:dX)(w:cU):PySem.KeyKind prog w Key where
 is:=tE
 hash:=anA w
 inj:=λv a b ha hb=>by
   rcases vC ha with ⟨i,t,rfl,rfl⟩ | ⟨x,t,rfl,rfl⟩ | ⟨rfl,rfl⟩
   . rcases vC hb with ⟨j,u,rfl,e⟩ | ⟨y,u,rfl,e⟩ | ⟨rfl,e⟩
     . injection e with e1 _; rw [e1]
     . exact nomatch e
     . exact nomatch e
   . rcases vC hb with ⟨j,u,rfl,e⟩ | ⟨y,u,rfl,e⟩ | ⟨rfl,e⟩
     . exact nomatch e
     . injection e with e1 _; rw [e1]
     . exact nomatch e
   . rcases vC hb with ⟨j,u,rfl,e⟩ | ⟨y,u,rfl,e⟩ | ⟨rfl,e⟩
     . exact nomatch e
     . exact nomatch e
     . rfl
 byValue:=λk v h=>by
   rcases vC h with ⟨i,t,rfl,rfl⟩ | ⟨x,t,rfl,rfl⟩ | ⟨rfl,rfl⟩ <;> rfl
 pyHash:=λhv h=>by
   rcases vC hv with ⟨i,t,rfl,rfl⟩ | ⟨x,t,rfl,rfl⟩ | ⟨rfl,rfl⟩
   . exact wpAny_pyHash_int h
   . exact wpAny_pyHash_str h
   . exact amV h
 eqBool:=λhu hv h=>by
   rcases vC hu with ⟨i,t,rfl,rfl⟩ | ⟨x,t,rfl,rfl⟩ | ⟨rfl,rfl⟩
   . rcases vC hv with ⟨j,u,rfl,rfl⟩ | ⟨y,u,rfl,rfl⟩ | ⟨rfl,rfl⟩
     . rw [ahf] at h; exact wpAny_eqBool_int h
     . rw [aeB] at h; exact SeqAt.EqAt.int_str i t y u _ _ _ _ h
     . rw [ah0] at h; exact SeqAt.EqAt.int_none i t _ _ _ _ h
   . rcases vC hv with ⟨j,u,rfl,rfl⟩ | ⟨y,u,rfl,rfl⟩ | ⟨rfl,rfl⟩
     . rw [abv] at h; exact SeqAt.EqAt.str_int x t j u _ _ _ _ h
     . rw [aiN] at h; exact wpAny_eqBool_str h
     . rw [abv] at h; exact SeqAt.EqAt.str_none x t _ _ _ _ h
   . rcases vC hv with ⟨j,u,rfl,rfl⟩ | ⟨y,u,rfl,rfl⟩ | ⟨rfl,rfl⟩
     . rw [aiQ] at h; exact SeqAt.EqAt.none_int j u _ _ _ _ h
     . rw [aeB] at h; exact SeqAt.EqAt.none_str y u _ _ _ _ h
     . rw [ahI] at h; exact al3 h
 «strs»:=λk x t v h=>by
   rcases vC h with ⟨i,u,rfl,e⟩ | ⟨y,u,rfl,e⟩ | ⟨rfl,e⟩
   . exact nomatch e
   . injection e with e1 _
     subst e1;cases v <;> rfl
   . exact nomatch e
theorem aiU(prog:dX)(w:cU)(i:Int)(t:Tok):(eU prog w).is (.inl (some i)) (.int i t)=true:=Ur i t
theorem amj(prog:dX)(w:cU)(x:Str)(t:Tok):(eU prog w).is (.inr x) (.str x t)=true:=aad x t
theorem ajo(prog:dX)(w:cU):(eU prog w).is (.inl none) .none=true:=afi
inductive V where
 | non | bl (b:Bool) | int (i:Int) | str (x:Str) | wR (b:Array UInt8) | flt (b:UInt64) | ref (a:au) | ty (n:String)
 deriving DecidableEq
def cI:V->aB->Prop
 | .non,u=>u=fM
 | .bl b,u=>u=xX b
 | .int i,u=>∃ t,u=xH i t
 | .str x,u=>∃ t,u=DY x t
 | .wR b,u=>∃ t,u=Value.bytes b t
 | .flt b,u=>∃ t,u=Value.float b t
 | .ref a,u=>u=bI a
 | .ty n,u=>u=sG n
abbrev bY:List V->List aB->Prop:=bw cI
variable{xs:List V}{us:List aB}
theorem bY.length(r:bY xs us):xs.length=us.length:=Mx r
theorem bY.get:∀{xs:List V}{us:List aB}{i:Nat}{x:V},bY xs us->xs[i]?=some x->∃ u,us[i]?=some u/\cI x u
 | _,_,_,_,.nil,e=>by simp at e
 | _,_,0,_,.cons r _,e=>by simp at e; subst e; exact ⟨_,rfl,r⟩
 | _,_,i+1,x,.cons _ t,e=>by obtain ⟨u,h1,h2⟩:=bY.get (i:=i) (x:=x) t (by simpa using e);exact ⟨u,by simpa using h1,h2⟩
theorem bY.set{x:V}{u:aB}(r:cI x u):∀{xs:List V}{us:List aB}(i:Nat),bY xs us->bY (xs.set i x) (us.set i u)
 | _,_,_,.nil=>.nil
 | _,_,0,.cons _ t=>.cons r t
 | _,_,i+1,.cons q t=>.cons q (bY.set r i t)
theorem bY.append:∀{xs ys:List V}{us ws:List aB},bY xs us->bY ys ws->bY (xs++ys) (us++ws)
 | _,_,_,_,.nil,s=>s
 | _,_,_,_,.cons r t,s=>.cons r (bY.append t s)
theorem bY.take:∀{xs:List V}{us:List aB}(n:Nat),bY xs us->bY (xs.take n) (us.take n)
 | _,_,0,_=>.nil
 | _,_,_+1,.nil=>.nil
 | _,_,n+1,.cons r t=>.cons r (bY.take n t)
theorem bY.drop:∀{xs:List V}{us:List aB}(n:Nat),bY xs us->bY (xs.drop n) (us.drop n)
 | _,_,0,r=>r
 | _,_,_+1,.nil=>.nil
 | _,_,n+1,.cons _ t=>bY.drop n t
def sI:Option V->Option aB->Prop
 | some v,some u=>cI v u
 | none,none=>True
 | _,_=>False
def KV{κ:Type}:List (κ × V)->List (κ × aB)->Prop:=bw λ(p:κ × V)(q:κ × aB)=>p.1=q.1/\cI p.2 q.2
def kV:Key->V
 | .inl none=>.non
 | .inl (some i)=>.int i
 | .inr x=>.str x
inductive HO where
 /-- a list -/
 | lst (xs:List V)
 /-- a tuple (never changes) -/
 | tup (xs:List V)
 /-- a dict whose keys are ints and texts; one whose keys are tuples of ints and texts (the empty one is both) -/
 | dK (kvs:List (Key × V)) | dT (kvs:List (List Key × V))
 /-- a set of ints: its members,its size -/
 | set (S:Int->Bool) (n:Nat)
 /-- an instance of the class at C,its dict at dx,its attributes -/
 | ins (C dx:au) (fs:List (Str × V))
 /-- the dict of the instance at x -/
 | own (x:au)
 /-- the dict of an exception -/
 | xd (fs:List (Str × V))
 /-- a bound method,f of x -/
 | met (f x:au)
 /-- a range object lo,lo+1,.. below hi -/
 | rng (lo hi:Int)
 /-- a thing that is known to the object (the script; a dict while a loop walks it): read,never written while it is so -/
 | qP (o:Obj) (u:HO)
 /-- a code object's table -/
 | Cp (ps:Array aB)
 /-- any other thing,by what is true of its one object (a def of one's own: ap4 a S n:=HO.ext λh=>..) -/
 | ext (DG:bD->Prop)
abbrev Hp:=au->Option HO
def upd(H:Hp)(a:au)(o:HO):Hp:=λb=>if b=a then some o else H b
variable{H:Hp}{a:au}{o:HO}
theorem aZ:upd H a o a=some o:=by unfold upd; rw [bh rfl]
variable{b:au}
theorem bx(h:b≠a):upd H a o b=H b:=by unfold upd; rw [aV h]
variable{u:HO}
theorem ae3(h:H a=some o)(h':H b=some u)(d:o≠u):a≠b:=by intro e; subst e; rw [h] at h'; exact d (jK h')
theorem cg(h:H a=some o)(h':H b=none):a≠b:=by intro e; subst e; rw [h] at h'; cases h'
def wk(h:bD)(a:au)(items:Array aB):Prop:=∃ o,h.get? a=some o/\o.cls=.type "tuple"/\(∃ n,o.data=.seq items n)/\o.dict=none
variable{h:bD}{items:Array aB}
theorem wk.to(x:wk h a items):qR h a items:=let ⟨o,e,c,d,_⟩:=x; ⟨o,e,c,d⟩
theorem wk.new(h:bD)(items:Array aB):wk (h.push { cls:=.type "tuple",data:=.seq items }) h.objs.size items:=⟨_,fU _ rfl,rfl,⟨_,rfl⟩,rfl⟩
section
variable(P:dX)(w:cU)
def gV(H:Hp)(h:bD)(a:au):HO->Prop
 | .lst xs=>xs.length<=aL/\∃(its:List aB)(n:Nat),bY xs its/\h.get? a=some { cls:=.type "list",data:=.seq its.toArray n }
 | .tup xs=>xs.length<=aL/\∃ its:List aB,bY xs its/\wk h a its.toArray
 | .dK kvs=>kvs.length<=aL/\(a == sysModules)=false/\∃ vs,KV kvs vs/\h.DictOf (eU P w) a vs
 | .dT kvs=>kvs.length<=aL/\(a == sysModules)=false/\∃ xs:List (List Key × au × aB),
     bw (λ(p:List Key × V)(q:List Key × au × aB)=>p.1=q.1/\H q.2.1=some (.tup (p.1.map kV))/\cI p.2 q.2.2) kvs xs /\
     ∃ o es ep,h.get? a=some o/\o.ExactDict/\o.data=.dict es ep/\es.toList=xs.map (entryOfKey (tupleKind (eU P w)))/\(xs.map (·.1)).Nodup
 | .set S n=>h.SetOf (intKind P w) a S n
 | .ins C dx fs=>H dx=some (.own a)/\fs.length<=1000/\dx≠a/\h.get? a=some (ZW C dx) /\
     ∃ mA,h.Ns1 dx mA/\(∀ f,sI (fs.lookup f) (mA f))/\PySem.Within mA (fs.map (·.1))
 | .own _=>∃ o,h.get? a=some o
 | .xd fs=>∃ mA,h.Ns1 a mA/\∀ f,sI (fs.lookup f) (mA f)
 | .rng lo hi=>∃ t u v,h.get? a=some { cls:=.type "range",data:=.fields #[.int lo t,.int hi u,.int 1 v] }
 | .qP o u=>h.get? a=some o/\gV H h a u
 | .Cp ps=>h.get? a=some { cls:=.none,data:=.fields ps }
 | .met f x=>h.get? a=some (Z5 (.ref f) (.ref x))
 | .ext DG=>DG h/\(∃ o,h.get? a=some o)/\∀ h1 h2:bD,DG h1->(∀ o,h1.get? a=some o->h2.get? a=some o)->DG h2
def eG(H:Hp)(h:bD):Prop:=∀ a o,H a=some o->gV P w H h a o
end
variable{P:dX}
theorem gV.lt(x:gV P w H h a o):a<h.objs.size:=by cases o with| lst xs=>obtain ⟨_,_,_,_,e⟩:=x; exact bW e| tup xs=>obtain ⟨_,_,_,_,e,_⟩:=x; exact bW e| dK kvs=>obtain ⟨_,_,_,_,o,_,_,e,_⟩:=x; exact bW e| dT kvs=>obtain ⟨_,_,_,_,o,_,_,e,_⟩:=x; exact bW e| set S n=>obtain ⟨o,_,_,_,e,_⟩:=x; exact bW e| ins C dx fs=>obtain ⟨_,_,_,e,_⟩:=x; exact bW e| own y=>obtain ⟨_,e⟩:=x; exact bW e| xd fs=>obtain ⟨_,⟨_,_,_,e,_⟩,_⟩:=x; exact bW e| rng lo hi=>obtain ⟨_,_,_,e⟩:=x; exact bW e| qP ob u=>obtain ⟨e,_⟩:=x; exact bW e| Cp ps=>exact bW (show h.get? a=some _ from x)| met f y=>exact bW (show h.get? a=some _ from x)| ext DG=>obtain ⟨_,⟨_,e⟩,_⟩:=x; exact bW e
variable{aJ:Type}
theorem Paired.aae{bO:Type}{F G:aJ->bO->Prop}:∀{l₁:List aJ}{l₂:List bO},bw F l₁ l₂->(∀ a b,F a b->G a b)->bw G l₁ l₂
 | _,_,.nil,_=>.nil
 | _,_,.cons r t,f=>.cons (f _ _ r) (Paired.aae t f)
variable{H':Hp}{h':bD}
theorem gV.stay(x:gV P w H h a o)(k:∀ b u,(b=a\/H b=some (.own a))->h.get? b=some u->h'.get? b=some u)(ho:∀ b,H b=some (.own a)->H' b=some (.own a))(ht:∀ b xs,H b=some (.tup xs)->H' b=some (.tup xs)):gV P w H' h' a o:=by induction o with| lst xs=>obtain ⟨z,its,n,r,e⟩:=x; exact ⟨z,its,n,r,k _ _ (.inl rfl) e⟩| tup xs=>obtain ⟨z,its,r,ob,e,c⟩:=x; exact ⟨z,its,r,ob,k _ _ (.inl rfl) e,c⟩| dK kvs=>obtain ⟨z,y,vs,r,ob,es,ep,e,c⟩:=x; exact ⟨z,y,vs,r,ob,es,ep,k _ _ (.inl rfl) e,c⟩| dT kvs =>obtain ⟨z,y,xs,r,ob,es,ep,e,c⟩:=x;exact ⟨z,y,xs,Paired.aae r λp q z=>⟨z.1,ht _ _ z.2.1,z.2.2⟩,ob,es,ep,k _ _ (.inl rfl) e,c⟩| set S n=>obtain ⟨ob,es,ep,t,e,c⟩:=x; exact ⟨ob,es,ep,t,k _ _ (.inl rfl) e,c⟩| ins C dx fs =>obtain ⟨d,z,ne,e,mA,⟨od,es,ep,e2,c⟩,r⟩:=x;exact ⟨ho _ d,z,ne,k _ _ (.inl rfl) e,mA,⟨od,es,ep,k _ _ (.inr d) e2,c⟩,r⟩| own y=>obtain ⟨ob,e⟩:=x; exact ⟨ob,k _ _ (.inl rfl) e⟩| xd fs=>obtain ⟨mA,⟨od,es,ep,e,c⟩,r⟩:=x; exact ⟨mA,⟨od,es,ep,k _ _ (.inl rfl) e,c⟩,r⟩| rng lo hi=>obtain ⟨t,u,v,e⟩:=x; exact ⟨t,u,v,k _ _ (.inl rfl) e⟩| qP ob u ih=>obtain ⟨e,q⟩:=x; exact ⟨k _ _ (.inl rfl) e,ih q⟩| Cp ps =>have e:h.get? a=some { cls:=.none,data:=.fields ps }:=x;show h'.get? a=some { cls:=.none,data:=.fields ps };exact k a _ (.inl rfl) e| met f y =>have e:h.get? a=some (Z5 (.ref f) (.ref y)):=x;show h'.get? a=some (Z5 (.ref f) (.ref y));exact k a _ (.inl rfl) e| ext DG=>obtain ⟨p,⟨o,e⟩,st⟩:=x; exact ⟨st _ _ p λo q=>k _ _ (.inl rfl) q,⟨o,k _ _ (.inl rfl) e⟩,st⟩
theorem eG.lt(x:eG P w H h)(e:H a=some o):a<h.objs.size:=(x a o e).lt
theorem eG.fresh(x:eG P w H h)(e:h.objs.size<=a):H a=none:=by cases q:H a with| none=>rfl| some u=>exact bK (kO (x.lt q) e) (uL _)
theorem eG.kept(x:eG P w H h)(k:∀ b u,h.get? b=some u->h'.get? b=some u):eG P w H h':=λa o e =>
 (x a o e).stay (λb u _ q=>k b u q) (λ_ q=>q) λ_ _ q=>q
theorem eG.laid(x:eG P w H h)(k:∀ b u,h.get? b=some u->h'.get? b=some u)(hp:h.objs.size<=a)(new:gV P w (upd H a o) h' a o):eG P w (upd H a o) h':=λb u e=>by
 have hn:=x.fresh hp;by_cases hb:b=a
 . subst hb; rw [aZ] at e; cases e; exact new
 . rw [bx hb] at e;exact (x b u e).stay (λc v _ q=>k c v q) (λc q=>by rw [bx (cg q hn)]; exact q) λc xs q=>by rw [bx (cg q hn)]; exact q
def Rd(H:Hp)(a:au)(u:HO):Prop:=H a=some u\/∃ o,H a=some (.qP o u)
theorem Rd.ok(r:Rd H a u)(x:eG P w H h):gV P w H h a u:=by rcases r with r | ⟨o,r⟩;exact x a u r;obtain ⟨_,q⟩:=x a _ r;exact q
def Mut:Option HO->Prop
 | some (.lst _)=>True
 | some (.dK _)=>True
 | some (.dT _)=>True
 | some (.set _ _)=>True
 | some (.ins _ _ _)=>True
 | some (.ext _)=>True
 | _=>False
variable{x e:au}
theorem eG.write(ok:eG P w H h)(mu:Mut (H x))(he:e=x\/H e=some (.own x))(k:∀ b u,b≠e->h.get? b=some u->h'.get? b=some u)(heo:∃ u,h'.get? e=some u)(new:gV P w (upd H x o') h' x o'):eG P w (upd H x o') h':=λb u q=>by
 have aaH:∀ c y,H c=some (.own y)->c≠x:=λc y r z=>by subst z; rw [r] at mu; exact mu
 have apa:∀ c xs,H c=some (.tup xs)->c≠x:=λc xs r z=>by subst z; rw [r] at mu; exact mu
 by_cases hb:b=x
 . subst hb; rw [aZ] at q; cases q; exact new
 . rw [bx hb] at q;by_cases hbe:b=e
   . have q':H b=some (.own x):=by
       rcases he with z | z
       . exact bK (hbe.ao z) hb
       . rw [hbe]; exact z
     rw [q] at q'; cases q';obtain ⟨v,hv⟩:=heo;exact ⟨v,by rw [hbe]; exact hv⟩
   . refine (ok b u q).stay (λc v hc r=>k c v ?_ r) (λc r=>by rw [bx (aaH c b r)]; exact r) λc xs r=>by rw [bx (apa c xs r)]; exact r
     rcases hc with rfl | hc
     . exact hbe
     . rintro rfl;rcases he with z | z
       . exact aaH c b hc z
       . rw [hc] at z; cases z; exact hb rfl
structure Un(fs ex:List au)(H H':Hp)(h h':bD):Prop where
 keep:∀ b o,h.get? b=some o->H b=none->b ∉ fs->b ∉ ex->h'.get? b=some o
 slot:∀ b o,h.get? b=some o->H b=none->b∈fs->b ∉ ex->∃ sl,h'.get? b=some { o with slots:=sl }
 free:∀ b o,h.get? b=some o->H b=none->b ∉ ex->H' b=none
 there:∀ b o,h.get? b=some o->b ∉ ex->∃ o',h'.get? b=some o'
 aK:∀ b xs,H b=some (.tup xs)->H' b=some (.tup xs)
 qx:∀ b o u,H b=some (.qP o u)->H' b=some (.qP o u)
 sJ:∀ b ps,H b=some (.Cp ps)->∃ more,H' b=some (.Cp (ps++more))
variable{ex:List au}{H1:Hp}
theorem Un.any{fs:List au}{h1:bD}(u:Un fs ex H H1 h h1)(q:h.get? b=some ob)(n:H b=none)(hx:b ∉ ex):∃ sl,h1.get? b=some { ob with slots:=sl }:=by by_cases hb:b∈fs;exact u.slot b ob q n hb hx;exact ⟨ob.slots,u.keep b ob q n hb hx⟩
theorem Un.kept{fs:List au}(k:∀ b u,h.get? b=some u->h'.get? b=some u):Un fs ex H H h h' :=
 ⟨λb ob q _ _ _=>k b ob q,λb ob q _ _ _=>⟨ob.slots,k b ob q⟩,λ_ _ _ n _=>n,λb ob q _=>⟨ob,k b ob q⟩,λ_ _ q=>q,λ_ _ _ q=>q,λ_ ps q=>⟨#[],by rw [q]; simp⟩⟩
theorem Un.refl{fs:List au}:Un fs ex H H h h:=Un.kept λ_ _ q=>q
theorem Un.laid{fs:List au}(k:∀ b u,h.get? b=some u->h'.get? b=some u)(hp:h.objs.size<=a)(hn:H a=none):Un fs ex H (upd H a o) h h' where
 keep:=λb u q _ _ _=>k b u q
 slot:=λb u q _ _ _=>⟨u.slots,k b u q⟩
 free:=λb u q n _=>by rw [bx (dU (kO (bW q) hp))]; exact n
 there:=λb u q _=>⟨u,k b u q⟩
 aK:=λb xs q=>by rw [bx (cg q hn)]; exact q
 qx:=λb u xs q=>by rw [bx (cg q hn)]; exact q
 sJ:=λb ps q=>⟨#[],by rw [bx (cg q hn),q]; simp⟩
theorem Un.write{fs:List au}(mu:Mut (H x))(he:e=x\/H e=some (.own x))(k:∀ b u,b≠e->h.get? b=some u->h'.get? b=some u)(heo:∃ u,h'.get? e=some u):Un fs ex H (upd H x o) h h':=by have hx:∀ b,H b=none->b≠x:=λb n z=>(by subst z; rw [n] at mu; exact mu);have hb:∀ b,H b=none->b≠e:=λb n z=>(by subst z;rcases he with r | r;exact hx b n r;rw [n] at r; cases r);have hm:∀ b u,H b=some u->¬ Mut (some u)->b≠x:=λb u q nm z=>(by subst z; rw [q] at mu; exact nm mu);refine ⟨λb u q n _ _=>k b u (hb b n) q,λb u q n _ _=>⟨u.slots,k b u (hb b n) q⟩,λb u q n _=>by rw [bx (hx b n)]; exact n,λb u q _=>?_,λb xs q=>by rw [bx (hm b _ q λz=>z)]; exact q,λb u xs q=>by rw [bx (hm b _ q λz=>z)]; exact q,λb ps q=>⟨#[],by rw [bx (hm b _ q λz=>z),q]; simp⟩⟩;by_cases hbe:b=e;subst hbe; exact heo;exact ⟨u,k b u hbe q⟩
def trk(h:bD)(H:Hp):List au:=(cY h.objs.size).filter λa=>(H a).isSome
def zU(h:bD)(H:Hp):bD:=Dn h (trk h H)
theorem apB(h:bD)(H:Hp):(zU h H).objs.size=h.objs.size:=PySem.W.hideAll_size _ _
variable{o:Obj}
theorem agL(e:h.get? b=some o)(n:H b=none):(zU h H).get? b=some o :=
 Mr _ e λhm=>by
   have q:(H b).isSome=true:=(xr.mp hm).2;rw [n] at q; simp at q
theorem ai9(e:(zU h H).get? b=some o):h.get? b=some o/\H b=none:=by have e':h.get? b=some o:=GQ (trk h H) e;refine ⟨e',?_⟩;cases q:H b with| none=>rfl| some x =>have hm:b∈trk h H:=xr.mpr ⟨iJ.mpr (bW e'),by simp [q]⟩;have z:(zU h H).get? b=none:=afL (trk h H) hm;rw [z] at e; cases e
structure Mod(K:cH)(mg:Str->Option aB)(base:bD):Prop where
 kin:K.In base
 glob:base.Ns qT mg
 blt:∃ mb,base.Ns builtinsNs mb/\∀ x:Str,x≠"__name__"->mb x=bootBuiltins x
 nolimit:base.NoLimit
structure Cx where
 prog:dX
 w:cU
 K:cH
 mg:Str->Option aB
 base:bD
 A:iw
 N:List Str
 s₀:aH
 H₀:Hp
 env:Env
 outer:List Env
 stack:List Env
 ex:List au
 fn:Str->Bool
 calm:Bool
 pn:List (au × Obj)
 xe:aB->aH->Prop
def frs(l:List Env):List au:=l.filterMap (·.frame)
abbrev Cx.fs(X:Cx):List au:=frs X.outer
def Vis(sc:Scope)(x:Str):Prop:=sc.names.lookup x=some .local\/sc.names.lookup x=some .cell\/sc.names.lookup x=some .free
def Loc(sc:Scope)(x:Str):Prop:=sc.names.lookup x=some .local\/sc.names.lookup x=some .cell
def Look(env:Env)(h:bD)(m:Str->Option aB)(x:Str)(u:aB):Prop :=
 (env.kindOf x=some .local/\m x=some u)\/((env.kindOf x=some .cell\/env.kindOf x=some .free)/\∃ c,env.cells.lookup x=some c/\h.IsCell c (some u))
structure Cx.Ok(X:Cx):Prop where
 mod:Mod X.K X.mg X.base
 kind:X.env.scope.kind=.function
 glob:X.env.globals=qT
 blt:X.env.builtins=builtinsNs
 above:X.s₀.heap.objs.size<=X.env.locals
 inj:∀ x y c,X.env.cells.lookup x=some c->X.env.cells.lookup y=some c->x=y
 has:∀ x,(X.env.kindOf x=some .cell\/X.env.kindOf x=some .free)->∃ c,X.env.cells.lookup x=some c
 cab:∀ x c,X.fn x=true->X.env.cells.lookup x=some c->X.s₀.heap.objs.size<=c
 hd:X.calm=true->X.A.handled=none
 frames:X.A.frames=some X.stack
 stk:X.stack=X.outer\/(X.stack=X.env :: X.outer/\X.env.frame=some X.env.locals)
 zq:∀ b∈X.ex,b≠X.env.locals/\∀ x c,X.env.cells.lookup x=some c->c≠b
 bs:∀ b o,X.base.get? b=some o->X.s₀.heap.get? b=some o/\X.H₀ b=none
 zM:X.base.objs.size<=X.s₀.heap.objs.size
 Iw:∀ b o,X.base.get? b=some o->b ∉ X.ex
 BX:∀ b∈X.ex,b ∉ X.fs
 vR:X.s₀.heap.FunFrames X.base X.outer
 frf:∀ b∈X.fs,X.H₀ b=none
structure Inv(X:Cx)(ak:List (au × Obj))(aj:List (Option V))(H:Hp)(s:aH):Prop where
 ok:X.Ok
 os:s.os=X.s₀.os
 bare:yG s.gens
 base:Un X.fs X.ex X.H₀ H X.s₀.heap s.heap
 loc:∃ m,s.heap.Ns X.env.locals m/\∀(i:Nat)(x:Str)(v:V),X.N[i]?=some x->aj[i]?=some (some v)->Vis X.env.scope x->∃ u,cI v u/\Look X.env s.heap m x u
 cell:∀ x c,X.env.cells.lookup x=some c->∃ v,s.heap.IsCell c v
 free:H X.env.locals=none
 oO:∀ x c,X.env.cells.lookup x=some c->H c=none
 pin:∀ p∈X.pn++ak,s.heap.get? p.1=some p.2/\H p.1=none/\p.1≠X.env.locals/\p.1 ∉ X.fs/\∀ v,p.2.data≠.cell v
 hok:eG X.prog X.w H s.heap
 len:aj.length=X.N.length
variable{X:Cx}
theorem Cx.Ok.alF(ok:X.Ok)(e:X.base.get? b=some o):b ∉ X.fs:=λhb=>by
 have:=(ok.vR.mem hb).1;rw [e] at this; cases this
variable{ak:List (au × Obj)}{aj:List (Option V)}
theorem Inv.bs(I:Inv X ak aj H s):∀ b o,X.base.get? b=some o->s.heap.get? b=some o/\H b=none:=λb o e =>
 ⟨I.base.keep b o (I.ok.bs b o e).1 (I.ok.bs b o e).2 (I.ok.alF e) (I.ok.Iw b o e),I.base.free b o (I.ok.bs b o e).1 (I.ok.bs b o e).2 (I.ok.Iw b o e)⟩
theorem Inv.bk(I:Inv X ak aj H s):∀ b o,X.base.get? b=some o->s.heap.get? b=some o:=λb o e=>(I.bs b o e).1
theorem Inv.mod(I:Inv X ak aj H s):Mod X.K X.mg X.base:=I.ok.mod
theorem Inv.lO(I:Inv X ak aj H s):X.K.In s.heap:=I.ok.mod.kin.keeps I.bk
theorem Inv.lt(I:Inv X ak aj H s):X.env.locals<s.heap.objs.size:=let ⟨_,hn,_⟩:=I.loc; hn.lt
theorem Inv.sz(I:Inv X ak aj H s):X.s₀.heap.objs.size<=s.heap.objs.size:=gw I.ok.above (tH I.lt)
theorem Inv.apy(I:Inv X ak aj H s)(h:s.heap.objs.size<=a):a ∉ X.fs:=λhb=>by
 obtain ⟨_,o,ho,_⟩:=I.ok.vR.mem hb;exact bK (kO (bW ho) (gw I.sz h)) (uL _)
theorem Inv.zp(I:Inv X ak aj H s):∀ x c,X.env.cells.lookup x=some c->c≠X.env.locals:=λx c e z=>by
 obtain ⟨v,o,ho,hd⟩:=I.cell x c e;obtain ⟨m,⟨o',es,ep,ho',hd',_⟩,_⟩:=I.loc;rw [z,ho'] at ho; cases ho; rw [hd'] at hd; cases hd
theorem Inv.vR(I:Inv X ak aj H s):s.heap.FunFrames X.base X.outer:=by have all:∀(l:List Env),(∀ b∈frs l,b∈X.fs)->X.s₀.heap.FunFrames X.base l->s.heap.FunFrames X.base l:=(by intro l;induction l with| nil=>intro _ _; trivial| cons env r ih =>intro hs hl;obtain ⟨hk,⟨L,o,hf,hn,ho,hd⟩,hr⟩:=hl;have hL:L∈X.fs:=hs L (by unfold frs; rw [uh,hf]; exact dg);obtain ⟨sl,e⟩:=I.base.slot L o ho (I.ok.frf L hL) hL λz=>I.ok.BX L z hL;exact ⟨hk,⟨L,_,hf,hn,e,hd⟩,ih (λb hb=>hs b (by unfold frs; rw [uh,hf]; exact dD _ hb)) hr⟩);exact all X.outer (λ_ hb=>hb) I.ok.vR
theorem Inv.stack(I:Inv X ak aj H s):s.heap.FunFrames X.base X.stack:=by rcases I.ok.stk with e | ⟨e,hf⟩;rw [e]; exact I.vR;rw [e];obtain ⟨m,hn,_⟩:=I.loc;refine .cons (by rw [I.ok.kind]; decide) hf hn ?_ I.vR;exact Heap.get?_none_of_le (gw I.ok.zM I.ok.above)
theorem Inv.Om(I:Inv X ak aj H s):∀ b∈frs X.stack,b∈X.env.locals :: X.fs:=λb hb=>by
 rcases I.ok.stk with e | ⟨e,hf⟩
 . rw [e] at hb; exact dD _ hb
 . rw [e] at hb;unfold frs at hb;rw [uh,hf] at hb;exact hb
theorem Inv.PK(I:Inv X ak aj H s):∀ b∈frs X.stack,H b=none:=λb hb=>by
 rcases dF.mp (I.Om b hb) with e | hb
 . rw [e]; exact I.free
 . obtain ⟨_,o,ho,_⟩:=I.ok.vR.mem hb;exact I.base.free b o ho (I.ok.frf b hb) λz=>I.ok.BX b z hb
variable{g':Array GP}{t':Nat}{d':Drawn}{ch:List au}
theorem Inv.step(I:Inv X ak aj H s)(hch:∀ b∈ch,(b∈X.ex\/X.s₀.heap.objs.size<=b)/\b≠X.env.locals/\(∀ x c,X.env.cells.lookup x=some c->c≠b)/\∀ p∈X.pn++ak,p.1≠b)(keep:∀ b o,b≠X.env.locals->b ∉ X.fs->b ∉ ch->s.heap.get? b=some o->H b=none->h'.get? b=some o)(slot:∀ b o,b≠X.env.locals->b∈X.fs->b ∉ ch->s.heap.get? b=some o->H b=none->∃ sl,h'.get? b=some { o with slots:=sl })(free:∀ b o,b ∉ ch->s.heap.get? b=some o->H b=none->H' b=none)(there:∀ b o,b ∉ ch->s.heap.get? b=some o->∃ o',h'.get? b=some o')(aK:∀ b xs,H b=some (.tup xs)->H' b=some (.tup xs))(qx:∀ b o u,H b=some (.qP o u)->H' b=some (.qP o u))(sJ:∀ b ps,H b=some (.Cp ps)->∃ more,H' b=some (.Cp (ps++more)))(ns:∀ m,s.heap.Ns X.env.locals m->h'.Ns X.env.locals m)(hok:eG X.prog X.w H' h')(hg:yG g'): Inv X ak aj H' { s with heap:=h',gens:=g',drawn:=d',toks:=t' }:=by have neL:∀ b o,X.s₀.heap.get? b=some o->b≠X.env.locals:=λb o e=>dU (kO (bW e) I.ok.above);have neC:∀ b o,X.s₀.heap.get? b=some o->b ∉ X.ex->b ∉ ch:=λb o e hx hb=>(by rcases (hch b hb).1 with z | z;exact hx z;exact bK (kO (bW e) z) (uL _));have cellK:∀ x c,X.env.cells.lookup x=some c->∀ v,s.heap.IsCell c v->h'.IsCell c v:=λx c e v ⟨o,ho,hd⟩=>(by have nch:c ∉ ch:=λz=>(hch c z).2.2.1 x c e rfl;by_cases hc:c∈X.fs;obtain ⟨sl,q⟩:=slot c o (I.zp x c e) hc nch ho (I.oO x c e);exact ⟨_,q,hd⟩;exact ⟨o,keep c o (I.zp x c e) hc nch ho (I.oO x c e),hd⟩);refine ⟨I.ok,I.os,hg,⟨λb o e n hb hx=>?_,λb o e n hb hx=>?_,λb o e n hx=>?_,λb o e hx=>?_,λb xs e=>aK b xs (I.base.aK b xs e),λb o xs e=>qx b o xs (I.base.qx b o xs e),λb ps e=>?_⟩,?_,λx c e=>?_,?_,λx c e=>?_,λp hp=>?_,hok,I.len⟩;exact keep b o (neL b o e) hb (neC b o e hx) (I.base.keep b o e n hb hx) (I.base.free b o e n hx);obtain ⟨sl,e1⟩:=I.base.slot b o e n hb hx;obtain ⟨sl',e2⟩:=slot b _ (neL b o e) hb (neC b o e hx) e1 (I.base.free b o e n hx);exact ⟨sl',e2⟩;obtain ⟨o',e1⟩:=I.base.there b o e hx;exact free b o' (neC b o e hx) e1 (I.base.free b o e n hx);obtain ⟨o',e1⟩:=I.base.there b o e hx;exact there b o' (neC b o e hx) e1;obtain ⟨m1,e1⟩:=I.base.sJ b ps e;obtain ⟨m2,e2⟩:=sJ b _ e1;exact ⟨m1++m2,by rw [e2,Array.append_assoc]⟩;obtain ⟨m,hn,hl⟩:=I.loc;refine ⟨m,ns m hn,λi x v e1 e2 e3=>?_⟩;obtain ⟨u,r,l⟩:=hl i x v e1 e2 e3;refine ⟨u,r,?_⟩;rcases l with l | ⟨k,c,e,z⟩;exact .inl l;exact .inr ⟨k,c,e,cellK x c e _ z⟩;obtain ⟨v,z⟩:=I.cell x c e;exact ⟨v,cellK x c e v z⟩;obtain ⟨m,⟨o,_,_,ho,_⟩,_⟩:=I.loc;exact free _ o (λz=>(hch _ z).2.1 rfl) ho I.free;obtain ⟨v,o,ho,hd⟩:=I.cell x c e;exact free c o (λz=>(hch c z).2.2.1 x c e rfl) ho (I.oO x c e);obtain ⟨e,n,ne,nf,d⟩:=I.pin p hp;have nch:p.1 ∉ ch:=λz=>(hch p.1 z).2.2.2 p hp rfl;exact ⟨keep p.1 p.2 ne nf nch e n,free p.1 p.2 nch e n,ne,nf,d⟩
theorem Inv.un(I:Inv X ak aj H s)(u:Un X.fs [] H H' s.heap h')(hok:eG X.prog X.w H' h'):Inv X ak aj H' { s with heap:=h',toks:=t' }:=by obtain ⟨m,⟨o,es,ep,ho,r⟩,_⟩:=id I.loc;obtain ⟨sl,hL⟩:=u.any ho I.free (by simp);exact I.step (g':=s.gens) (d':=s.drawn) (ch:=[]) (λ_ z=>nomatch z) (λb o _ hb _ e n=>u.keep b o e n hb (by simp)) (λb o _ hb _ e n=>u.slot b o e n hb (by simp)) (λb o _ e n=>u.free b o e n (by simp)) (λb o _ e=>u.there b o e (by simp)) u.aK u.qx u.sJ (λm' hm=>by obtain ⟨o',es',ep',ho',r'⟩:=hm;rw [ho] at ho'; cases ho';exact ⟨_,es',ep',hL,r'⟩) hok I.bare
theorem Inv.call(I:Inv X ak aj H s)(u:Un (frs X.stack) ch H H' s.heap h')(hok:eG X.prog X.w H' h')(hg:yG g')(hch:∀ b∈ch,(b∈X.ex\/X.s₀.heap.objs.size<=b)/\b≠X.env.locals/\(∀ x c,X.env.cells.lookup x=some c->c≠b)/\∀ p∈X.pn++ak,p.1≠b): Inv X ak aj H' { s with heap:=h',gens:=g',drawn:=d',toks:=t' }:=by obtain ⟨m,⟨o,es,ep,ho,r⟩,_⟩:=id I.loc;obtain ⟨sl,hL⟩:=u.any ho I.free λz=>(hch _ z).2.1 rfl;exact I.step (ch:=ch) hch (λb o hL hb hc e n=>u.keep b o e n (λz=>(dF.mp (I.Om b z)).elim hL hb) hc) (λb o _ _ hc e n=>u.any e n hc) (λb o hc e n=>u.free b o e n hc) (λb o hc e=>u.there b o e hc) u.aK u.qx u.sJ (λm' hm=>by obtain ⟨o',es',ep',ho',r'⟩:=hm;rw [ho] at ho'; cases ho';exact ⟨_,es',ep',hL,r'⟩) hok hg
variable{it:au}
theorem Inv.turned(I:Inv X ak aj H s)(k:∀ b o,b≠it->s.heap.get? b=some o->h'.get? b=some o)(hn:H it=none)(hL:it≠X.env.locals)(h1:it∈X.ex\/X.s₀.heap.objs.size<=it)(h2:∀ x c,X.env.cells.lookup x=some c->c≠it)(h3:∀ p∈X.pn++ak,p.1≠it):Inv X ak aj H { s with heap:=h',toks:=t' }:=by have nit:∀ b u,H b=some u->b≠it:=λb u e z=>(by rw [z,hn] at e; cases e);refine I.step (g':=s.gens) (d':=s.drawn) (ch:=[it]) (λb hb=>?_) (λb o _ _ hc e _=>k b o (λz=>hc (by simp [z])) e) (λb o _ _ hc e _=>⟨o.slots,k b o (λz=>hc (by simp [z])) e⟩) (λ_ _ _ _ n=>n) (λb o hc e=>⟨o,k b o (λz=>hc (by simp [z])) e⟩) (λ_ _ e=>e) (λ_ _ _ e=>e) (λb ps e=>⟨#[],by rw [e]; simp⟩) (λm hm=>?_) (λb u e=>?_) I.bare;have e:b=it:=(by simpa using hb);subst e;exact ⟨h1,hL,h2,h3⟩;obtain ⟨o,es,ep,ho,r⟩:=hm;exact ⟨o,es,ep,k _ o (gQ hL) ho,r⟩;refine (I.hok b u e).stay (λc v hc q=>k c v ?_ q) (λ_ q=>q) λ_ _ q=>q;rcases hc with z | z;rw [z]; exact nit b u e;exact nit c _ z
theorem Inv.tok(I:Inv X ak aj H s)(t:Nat):Inv X ak aj H { s with toks:=t }:=I.un (h':=s.heap) (t':=t) Un.refl I.hok
theorem Inv.kept(I:Inv X ak aj H s)(k:∀ b u,s.heap.get? b=some u->h'.get? b=some u):Inv X ak aj H { s with heap:=h',toks:=t' }:=I.un (Un.kept k) (I.hok.kept k)
variable{o:HO}
theorem Inv.laid(I:Inv X ak aj H s)(k:∀ b u,s.heap.get? b=some u->h'.get? b=some u)(hp:s.heap.objs.size<=a)(new:gV X.prog X.w (upd H a o) h' a o):
   Inv X ak aj (upd H a o) { s with heap:=h',toks:=t' }:=I.un (Un.laid k hp (I.hok.fresh hp)) (I.hok.laid k hp new)
theorem Inv.write(I:Inv X ak aj H s)(mu:Mut (H x))(he:e=x\/H e=some (.own x))(k:∀ b u,b≠e->s.heap.get? b=some u->h'.get? b=some u)(heo:∃ u,h'.get? e=some u)(new:gV X.prog X.w (upd H x o) h' x o):Inv X ak aj (upd H x o) { s with heap:=h',toks:=t' }:=I.un (Un.write mu he k heo) (I.hok.write mu he k heo new)
theorem Inv.abP(I:Inv X ak aj H s)(h:∀ p∈Q8,s.heap.get? p.1=some p.2/\H p.1=none/\p.1≠X.env.locals/\p.1 ∉ X.fs/\∀ v,p.2.data≠.cell v):Inv X Q8 aj H s :=
 ⟨I.ok,I.os,I.bare,I.base,I.loc,I.cell,I.free,I.oO,λp hp=>(fQ.mp hp).elim (λz=>I.pin p (yr _ z)) (h p),I.hok,I.len⟩
variable{N:List Str}{i:Nat}{x:Str}
theorem XC(hN:N.Nodup){j:Nat}(a:N[i]?=some x)(b:N[j]?=some x):i=j:=by obtain ⟨h1,e1⟩:=mK.mp a;obtain ⟨h2,e2⟩:=mK.mp b;exact (FQ hN).mp (e1.ao e2.symm)
variable{M:Hw}{v:V}{u:aB}{Q:Unit->aH->Prop}
theorem Ql(I:Inv X ak aj H s)(hN:X.N.Nodup)(hi:X.N[i]?=some x)(hx:Loc X.env.scope x)(r:cI v u)(h:∀ s',Inv X ak (aj.set i (some v)) H s'->(∃ a,mD a s.heap s'.heap/\(a=X.env.locals\/X.env.cells.lookup x=some a))->Q () s')(hf:X.fn x=true\/X.env.scope.names.lookup x=some .local:=by first | exact .inl rfl | exact .inr rfl | assumption):aF M A (storeName X.env x u) Q E s:=by obtain ⟨m,hn,hl⟩:=id I.loc;have hcls:(X.env.scope.kind == .class || (X.env.scope.kind == .module && X.env.locals != X.env.globals))=false:=(by rw [I.ok.kind]; rfl);have Py:i<aj.length:=(by rw [I.len]; exact (mK.mp hi).1);have zp:=I.zp;have tracked:∀{a:au}{h':bD},(∃ o,s.heap.get? a=some o/\H a=none)->mD a s.heap h'->eG X.prog X.w H h':=λ{a h'} ha hs b ob e=>(by obtain ⟨_,_,hfree⟩:=ha;refine (I.hok b ob e).stay (λc w' hc q=>(hs.2 c ?_).ao q) (λ_ q=>q) λ_ _ q=>q;rintro rfl;rcases hc with rfl | hc;rw [hfree] at e; cases e;rw [hfree] at hc; cases hc);rcases hx with hk | hk;refine wpAny_storeName_local hk hn (λh' hn' hs=>?_) hcls;obtain ⟨oL,_,_,hoL,_⟩:=id hn;refine h _ ⟨I.ok,I.os,I.bare,⟨λb o e n hb hx=>?_,λb o e n hb hx=>?_,I.base.free,λb o e hx=>?_,I.base.aK,I.base.qx,I.base.sJ⟩,⟨_,hn',λj y v' e1 e2 e3=>?_⟩,λy c e=>?_,I.free,I.oO,λp hp=>?_,tracked ⟨oL,hoL,I.free⟩ hs,by simpa using I.len⟩ ⟨_,hs,.inl rfl⟩;exact (hs.2 b (dU (kO (bW e) I.ok.above))).ao (I.base.keep b o e n hb hx);obtain ⟨sl,e1⟩:=I.base.slot b o e n hb hx;exact ⟨sl,(hs.2 b (dU (kO (bW e) I.ok.above))).ao e1⟩;obtain ⟨o',e1⟩:=I.base.there b o e hx;exact ⟨o',(hs.2 b (dU (kO (bW e) I.ok.above))).ao e1⟩;by_cases hj:j=i;subst hj;rw [hi] at e1; cases e1;rw [Hq Py] at e2;cases e2;exact ⟨u,r,.inl ⟨hk,by simp⟩⟩;rw [DK (gQ hj)] at e2;obtain ⟨u',r',q⟩:=hl j y v' e1 e2 e3;refine ⟨u',r',?_⟩;rcases q with ⟨k,e⟩ | ⟨k,c,e,z⟩;refine .inl ⟨k,?_⟩;have:y≠x:=λe=>hj (XC hN e1 (e ▸ hi));simp [this,e];exact .inr ⟨k,c,e,z.sameBut hs (zp y c e)⟩;obtain ⟨w',z⟩:=I.cell y c e;exact ⟨w',z.sameBut hs (zp y c e)⟩;obtain ⟨e,n,ne,nf,d⟩:=I.pin p hp;exact ⟨(hs.2 p.1 ne).ao e,n,ne,nf,d⟩;have hfn:X.fn x=true:=(by rcases hf with z | z;exact z;rw [z] at hk; cases hk);obtain ⟨c,hc⟩:=I.ok.has x (.inl hk);obtain ⟨w',z⟩:=I.cell x c hc;refine wpAny_storeName_cell I.ok.kind hk hc z (λh' hc' hs=>?_);obtain ⟨oc,hoc,ag0⟩:=id z;refine h { s with heap:=h' } ⟨I.ok,I.os,I.bare,⟨λb o e n hb hx=>?_,λb o e n hb hx=>?_,I.base.free,λb o e hx=>?_,I.base.aK,I.base.qx,I.base.sJ⟩,⟨m,hn.sameBut hs (gQ (zp x c hc)),λj y v' e1 e2 e3=>?_⟩,λy c' e=>?_,I.free,I.oO,λp hp=>?_,tracked ⟨oc,hoc,I.oO x c hc⟩ hs,by simpa using I.len⟩ ⟨c,hs,.inr hc⟩;exact (hs.2 b (dU (kO (bW e) (I.ok.cab x c hfn hc)))).ao (I.base.keep b o e n hb hx);obtain ⟨sl,e1⟩:=I.base.slot b o e n hb hx;exact ⟨sl,(hs.2 b (dU (kO (bW e) (I.ok.cab x c hfn hc)))).ao e1⟩;obtain ⟨o',e1⟩:=I.base.there b o e hx;exact ⟨o',(hs.2 b (dU (kO (bW e) (I.ok.cab x c hfn hc)))).ao e1⟩;by_cases hj:j=i;subst hj;rw [hi] at e1; cases e1;rw [Hq Py] at e2;cases e2;exact ⟨u,r,.inr ⟨.inl hk,c,hc,hc'⟩⟩;rw [DK (gQ hj)] at e2;obtain ⟨u',r',q⟩:=hl j y v' e1 e2 e3;refine ⟨u',r',?_⟩;rcases q with q | ⟨k,c',e,z'⟩;exact .inl q;refine .inr ⟨k,c',e,z'.sameBut hs ?_⟩;rintro rfl;exact hj (XC hN e1 (I.ok.inj _ _ _ e hc ▸ hi));by_cases hcc:c'=c;subst hcc; exact ⟨_,hc'⟩;obtain ⟨w2,z2⟩:=I.cell y c' e;exact ⟨w2,z2.sameBut hs hcc⟩;obtain ⟨e,n,ne,nf,d⟩:=I.pin p hp;refine ⟨(hs.2 p.1 ?_).ao e,n,ne,nf,d⟩;intro q;rw [q,hoc] at e;have q':oc=p.2:=jK e;exact d w' (by rw [<- q']; exact ag0)
theorem Fl(I:Inv X ak aj H s)(hN:X.N.Nodup)(hi:X.N[i]?=some x)(hx:Loc X.env.scope x)(r:cI v u)(h:∀ s',Inv X ak (aj.set i (some v)) H s'->Q () s')(hf:X.fn x=true\/X.env.scope.names.lookup x=some .local:=by first | exact .inl rfl | exact .inr rfl | assumption):aF M A (storeName X.env x u) Q E s :=
 Ql I hN hi hx r (λs' I' _=>h s' I') hf
variable{s':aH}
theorem Inv.call'(I:Inv X ak aj H s)(ho:s'.os=s.os)(u:Un (frs X.stack) ch H H' s.heap s'.heap)(hok:eG X.prog X.w H' s'.heap)(hg:yG s'.gens)(hch:∀ b∈ch,(b∈X.ex\/X.s₀.heap.objs.size<=b)/\b≠X.env.locals/\(∀ x c,X.env.cells.lookup x=some c->c≠b)/\∀ p∈X.pn++ak,p.1≠b):Inv X ak aj H' s':=by obtain ⟨h',g',d',t',o'⟩:=s';have e:o'=s.os:=ho;subst e;exact I.call (g':=g') (t':=t') (d':=d') u hok hg hch
abbrev XK:=aB->Option au->Hp->Prop
abbrev St:=List (Option V)
abbrev VK:=V->Hp->Prop
abbrev TE:=St->Hp->VK->Prop
abbrev TT:=St->Hp->(Bool->Hp->Prop)->Prop
abbrev TA:=St->Hp->(List V->Hp->Prop)->Prop
structure Ends where
 nx:St->Hp->Prop
 rt:VK
 bk:St->Hp->Prop:=λ_ _=>False
 ct:St->Hp->Prop:=λ_ _=>False
abbrev TS:=Ends->St->Hp->Prop
inductive EP(X:Cx)(ak:List (au × Obj))(aj:St)(Q:VK)(u:aB)(s':aH):Prop|mk v H'(_:Inv X ak aj H' s')(_:cI v u)(_:Q v H')
def TP(X:Cx)(ak:List (au × Obj))(aj:St)(Q:Bool->Hp->Prop)(b:Bool)(s':aH):Prop:=∃ H',Inv X ak aj H' s'/\Q b H'
inductive AP(X:Cx)(ak:List (au × Obj))(aj:St)(Q:List V->Hp->Prop)(us:List aB)(s':aH):Prop|mk vs H'(_:Inv X ak aj H' s')(_:bY vs us)(_:Q vs H')
def SP(X:Cx)(ak:List (au × Obj))(D:Ends)(f:Flow)(s':aH):Prop :=
 match f with
 | .next=>∃ bJ H',Inv X ak bJ H' s'/\D.nx bJ H'
 | .brk=>∃ bJ H',Inv X ak bJ H' s'/\D.bk bJ H'
 | .cont=>∃ bJ H',Inv X ak bJ H' s'/\D.ct bJ H'
 | .ret u=>∃ v bJ H',Inv X ak bJ H' s'/\cI v u/\D.rt v H'
def PE(X:Cx)(e:Expr)(t:TE):Prop :=
 ∀(ak:List (au × Obj))(s:aH)(aj:St)(H:Hp)(Q:VK),Inv X ak aj H s->t aj H Q->aF (aR X.prog X.w) X.A (eval e X.env) (EP X ak aj Q) X.xe s
def PT(X:Cx)(e:Expr)(t:TT):Prop :=
 ∀(ak:List (au × Obj))(s:aH)(aj:St)(H:Hp)(Q:Bool->Hp->Prop),Inv X ak aj H s->t aj H Q->aF (aR X.prog X.w) X.A (isTrue e X.env (eval e X.env)) (TP X ak aj Q) X.xe s
def PW(X:Cx)(e:Expr)(t:TT):Prop :=
 ∀(whole:Sem aB)(ak:List (au × Obj))(s:aH)(aj:St)(H:Hp)(Q:Bool->Hp->Prop),Inv X ak aj H s->t aj H Q->aF (aR X.prog X.w) X.A (isTrue e X.env whole) (TP X ak aj Q) X.xe s
variable{e:Expr}
theorem PW.pt{t:TT}(h:PW X e t):PT X e t:=h _
def PA(X:Cx)(es:List Expr)(t:TA):Prop :=
 ∀(pos:Pos)(ak:List (au × Obj))(s:aH)(aj:St)(H:Hp)(Q:List V->Hp->Prop),Inv X ak aj H s->t aj H Q->aF (aR X.prog X.w) X.A (spliced (backTo pos (dO es X.env))) (AP X ak aj Q) X.xe s
def PS(X:Cx)(st:cD)(t:TS):Prop :=
 ∀(ak:List (au × Obj))(s:aH)(aj:St)(H:Hp)(D:Ends),Inv X ak aj H s->t D aj H->aF (aR X.prog X.w) X.A (exec st X.env) (SP X ak D) X.xe s
def qD(X:Cx)(st:List cD)(t:TS):Prop :=
 ∀(ak:List (au × Obj))(s:aH)(aj:St)(H:Hp)(D:Ends),Inv X ak aj H s->t D aj H->aF (aR X.prog X.w) X.A (execs st X.env) (SP X ak D) X.xe s
theorem bL{t:Sem aJ}{Q Q':aJ->aH->Prop}(h:aF M A t Q E s)(hQ:∀ a s,Q a s->Q' a s):aF M A t Q' E s:=ju h hQ λ_ _ x=>x
section
variable{X:Cx}
def ajp(i:Nat):TE:=fun aj H Q=>∃ v,aj[i]?=some (some v)/\Q v H
def tC(v:V):TE:=λ_ H Q=>Q v H
variable{pos:Pos}
theorem an2(hN:X.N[i]?=some x)(hv:Vis X.env.scope x)(hd:(x == ("__debug__" : Str))=false:=by decide)(hcd:(x == ("__classdict__" : Str))=false:=by decide):PE X (.Name x pos) (ajp i):=by intro ak s aj H Q I h;obtain ⟨v,e,h⟩:=h;obtain ⟨m,hn,hl⟩:=I.loc;obtain ⟨u,r,l⟩:=hl i x v hN e hv;have fin:EP X ak aj Q u s:=⟨v,H,I,r,h⟩;rcases l with ⟨hk,hm⟩ | ⟨hk,c,hc,hcell⟩;exact W8 (wpAny_loadName_local I.ok.kind hk hn hm fin) hd;rcases hk with hk | hk;exact W8 (wpAny_loadName_cell I.ok.kind hk hc hcell fin) hd;exact W8 (wpAny_loadName_free I.ok.kind hk hc hcell fin hcd) hd
theorem aQ{i j pos}:PE X (.Constant (.int i) j pos) (tC (.int i)):=λ_ _ _ H _ I h=>wpAny_Constant_int ⟨.int i,H,I.tok _,⟨_,rfl⟩,h⟩
theorem mF{b j pos}:PE X (.Constant (.bool b) j pos) (tC (.bl b)):=λ_ _ _ H _ I h=>Constant_bool ⟨.bl b,H,I,rfl,h⟩
theorem Et{j pos}:PE X (.Constant .none j pos) (tC .non):=λ_ _ _ H _ I h=>Constant_none ⟨.non,H,I,rfl,h⟩
theorem iU{x j pos}:PE X (.Constant (.str x) j pos) (tC (.str x)):=λ_ _ _ H _ I h=>Calls.Constant_str ⟨.str x,H,I.tok _,⟨_,rfl⟩,h⟩
def Gl(X:Cx)(x:Str):Prop:=X.env.kindOf x=some .globalImplicit
variable{aj:St}{Q:aB->aH->Prop}
theorem KQ(I:Inv X ak aj H s)(hg:Gl X x)(hm:X.mg x=some u)(h:Q u s)(hd:(x == ("__debug__" : Str))=false:=by decide):aF (aR X.prog X.w) X.A (eval (.Name x pos) X.env) Q E s :=
 adb I.ok.kind hg (Calls.loadGlobal_global (by rw [I.ok.glob]; exact I.mod.glob.keeps I.bk) hm h) hd
theorem Dl(I:Inv X ak aj H s)(hg:Gl X x)(hm:X.mg x=none)(hv:bootBuiltins x=some u)(h:Q u s)(hn:x≠"__name__":=by decide)(hd:(x == ("__debug__" : Str))=false:=by decide):aF (aR X.prog X.w) X.A (eval (.Name x pos) X.env) Q E s:=by obtain ⟨mb,h1,h2⟩:=I.mod.blt;exact adb I.ok.kind hg (Calls.loadGlobal_builtin (by rw [I.ok.glob]; exact I.mod.glob.keeps I.bk) hm (by rw [I.ok.blt]; exact h1.keeps I.bk) ((h2 x hn).ao hv) h) hd
theorem nY(hg:Gl X x)(hm:X.mg x=some u)(r:cI v u)(hd:(x == ("__debug__" : Str))=false:=by decide):PE X (.Name x pos) (tC v) :=
 λ_ _ _ H _ I h=>KQ I hg hm ⟨v,H,I,r,h⟩ hd
theorem Aj(hg:Gl X x)(hm:X.mg x=none)(hv:bootBuiltins x=some u)(r:cI v u)(hn:x≠"__name__":=by decide)(hd:(x == ("__debug__" : Str))=false:=by decide):PE X (.Name x pos) (tC v) :=
 λ_ _ _ H _ I h=>Dl I hg hm hv ⟨v,H,I,r,h⟩ hn hd
variable{a b:Expr}{ta tb:TE}{pos:Pos}
def PC(X:Cx)(op:GX)(a b:Expr)(t:TE):Prop :=
 ∀(ak:List (au × Obj))(s:aH)(aj:St)(H:Hp)(Q:VK),Inv X ak aj H s->t aj H Q ->
   aF (aR X.prog X.w) X.A (eval a X.env) (λv s₁=>aF (aR X.prog X.w) X.A (eval b X.env) (λu s₂=>aF (aR X.prog X.w) X.A (gK op v u) (EP X ak aj Q) X.xe s₂) X.xe s₁) X.xe s
def tB(t:TE):TT:=fun aj H Q=>t aj H λx H1=>∃ c,x=.bl c/\Q c H1
theorem Q0{op:GX}{t:TE}(h:PC X op a b t)(h1:behindInMarks op b=false:=by first | exact ap3 _ (by decide) (by decide) | rfl):PT X (.Compare a [op] [b] pos) (tB t):=by intro ak s aj H Q I hw;refine ae2 (bL (h ak s aj H _ I hw) λv s1 h1=>bL h1 λu s2 h2=>bL h2 λc s3 ⟨x,H1,I1,r1,q1⟩=>?_) h1;obtain ⟨d,rfl,q⟩:=q1;cases r1;exact vX ⟨H1,I1,q⟩
variable{tA vD:TT}{rest:List Expr}
def Wy(t u:TT):TT:=fun aj H Q=>t aj H λc H1=>if c=true then u aj H1 Q else Q false H1
def tOr(t u:TT):TT:=fun aj H Q=>t aj H λc H1=>if c=true then Q true H1 else u aj H1 Q
def aiM(t:TT):TT:=fun aj H Q=>t aj H λc H1=>Q (!c) H1
theorem pw_and1(ha:PT X a tA):PW X (.BoolOp .And [a] pos) tA:=by intro wh ak s aj H Q I h;refine isTrue_and (bL (ha ak s aj H Q I h) λc s1 e=>?_);cases c with| true=>exact isTrue_and_nil e| false=>exact e
theorem pw_or1(ha:PT X a tA):PW X (.BoolOp .Or [a] pos) tA:=by intro wh ak s aj H Q I h;refine isTrue_or (bL (ha ak s aj H Q I h) λc s1 e=>?_);cases c with| false=>exact isTrue_or_nil e| true=>exact e
theorem pw_and(ha:PT X a tA)(hb:PW X (.BoolOp .And (b :: rest) pos) vD):PW X (.BoolOp .And (a :: b :: rest) pos) (Wy tA vD):=by intro wh ak s aj H Q I h;refine isTrue_and (bL (ha ak s aj H _ I h) λc s1 ⟨H1,I1,q1⟩=>?_);cases c with| true=>exact hb wh ak s1 aj H1 Q I1 q1| false=>exact ⟨H1,I1,q1⟩
theorem pw_or(ha:PT X a tA)(hb:PW X (.BoolOp .Or (b :: rest) pos) vD):PW X (.BoolOp .Or (a :: b :: rest) pos) (tOr tA vD):=by intro wh ak s aj H Q I h;refine isTrue_or (bL (ha ak s aj H _ I h) λc s1 ⟨H1,I1,q1⟩=>?_);cases c with| true=>exact ⟨H1,I1,q1⟩| false=>exact hb wh ak s1 aj H1 Q I1 q1
theorem kZ(ha:PT X a tA):PT X (.UnaryOp .Not a pos) (aiM tA):=by intro ak s aj H Q I h;exact isTrue_not (ha ak s aj H (λc H1=>Q (!c) H1) I h)
theorem Ai{op}{t:TE}(h:PE X a t):PE X (.BoolOp op [a] pos) t:=λak s aj H Q I hw=>BoolOp_one (h ak s aj H Q I hw)
end
def aY(K:cH)(H:Hp)(a:au)(xs:List V):Prop :=
 Rd H a (.lst xs) \/
   ∃(o:Obj)(its:Array aB)(n:Nat),K.lookup a=some o/\o.cls=.type "list"/\o.dict=none/\o.data=.seq its n/\its.size<=aL/\bY xs its.toList
def aG(K:cH)(H:Hp)(a:au)(xs:List V):Prop :=
 Rd H a (.tup xs) \/
   ∃(o:Obj)(its:Array aB)(n:Nat),K.lookup a=some o/\o.cls=.type "tuple"/\o.data=.seq its n/\its.size<=aL/\bY xs its.toList
def aoS:aB->Option V
 | .none=>some .non
 | .bool b=>some (.bl b)
 | .int i _=>some (.int i)
 | .str x _=>some (.str x)
 | .bytes b _=>some (.wR b)
 | .float b _=>some (.flt b)
 | .ref a=>some (.ref a)
 | .type n=>some (.ty n)
 | _=>none
variable{x:V}
theorem cI.abs(r:cI x u):aoS u=some x:=by cases x with| non=>cases r; rfl| bl _=>cases r; rfl| int _=>obtain ⟨t,rfl⟩:=r; rfl| str _=>obtain ⟨t,rfl⟩:=r; rfl| wR _=>obtain ⟨t,rfl⟩:=r; rfl| flt _=>obtain ⟨t,rfl⟩:=r; rfl| ref _=>cases r; rfl| ty _=>cases r; rfl
variable{y:V}
theorem cI.inj(r:cI x u)(q:cI y u):x=y:=jK (r.abs.symm.ao q.abs)
theorem bY.inj:∀{xs ys:List V}{us:List aB},bY xs us->bY ys us->xs=ys
 | _,_,_,.nil,.nil=>rfl
 | _,_,_,.cons r t,.cons r' t'=>by rw [r.inj r',bY.inj t t']
variable{K:cH}
theorem aY.of(h:H a=some (.lst xs)):aY K H a xs:=.inl (.inl h)
theorem aG.of(h:H a=some (.tup xs)):aG K H a xs:=.inl (.inl h)
variable{aj:St}
theorem Inv.list(I:Inv X ak aj H s)(h:aY X.K H a xs):∃ its:List aB,bY xs its/\PlainL s.heap a its.toArray/\xs.length<=aL:=by rcases h with h | ⟨o,its,n,hk,hc,hd,hs,hz,r⟩;obtain ⟨z,its,n,r,e⟩:=h.ok I.hok;exact ⟨its,r,⟨_,n,e,rfl,rfl,rfl⟩,z⟩;refine ⟨its.toList,r,⟨o,n,I.lO a o hk,hc,hd,by simpa using hs⟩,?_⟩;have e:=r.length;simp only [iZ] at e;omega
theorem Inv.tuple(I:Inv X ak aj H s)(h:aG X.K H a xs):∃ its:List aB,bY xs its/\qR s.heap a its.toArray/\xs.length<=aL:=by rcases h with h | ⟨o,its,n,hk,hc,hs,hz,r⟩;obtain ⟨z,its,r,p⟩:=h.ok I.hok;exact ⟨its,r,p.to,z⟩;refine ⟨its.toList,r,⟨o,I.lO a o hk,hc,n,by simpa using hs⟩,?_⟩;have e:=r.length;simp only [iZ] at e;omega
variable{ys:List V}
theorem Inv.anz(I:Inv X ak aj H s)(h:aY X.K H a xs)(h':aY X.K H a ys):xs=ys:=by obtain ⟨its,r,⟨o,n,e,_,_,d⟩,_⟩:=I.list h;obtain ⟨its',r',⟨o',n',e',_,_,d'⟩,_⟩:=I.list h';rw [e] at e'; cases e';rw [d] at d';injection d' with d1 _;have:its=its':=(by simpa using fG Array.toList d1);subst this;exact r.inj r'
theorem Inv.ank(I:Inv X ak aj H s)(h:aG X.K H a xs)(h':aG X.K H a ys):xs=ys:=by obtain ⟨its,r,⟨o,e,_,n,d⟩,_⟩:=I.tuple h;obtain ⟨its',r',⟨o',e',_,n',d'⟩,_⟩:=I.tuple h';rw [e] at e'; cases e';rw [d] at d';injection d' with d1 _;have:its=its':=(by simpa using fG Array.toList d1);subst this;exact r.inj r'
abbrev Cx.wish(X:Cx)(E:aB->aH->Prop):Cx:={ X with xe:=E }
abbrev Cx.nox(X:Cx):Cx:=X.wish λ_ _=>False
theorem Cx.Ok.wish(ok:X.Ok)(E:aB->aH->Prop):(X.wish E).Ok :=
 ⟨ok.mod,ok.kind,ok.glob,ok.blt,ok.above,ok.inj,ok.has,ok.cab,ok.hd,ok.frames,ok.stk,ok.zq,ok.bs,ok.zM,ok.Iw,ok.BX,ok.vR,ok.frf⟩
theorem Cx.Ok.wj(ok:(X.wish E).Ok):X.Ok :=
 ⟨ok.mod,ok.kind,ok.glob,ok.blt,ok.above,ok.inj,ok.has,ok.cab,ok.hd,ok.frames,ok.stk,ok.zq,ok.bs,ok.zM,ok.Iw,ok.BX,ok.vR,ok.frf⟩
theorem Inv.wish(I:Inv X ak aj H s)(E:aB->aH->Prop):Inv (X.wish E) ak aj H s:=⟨I.ok.wish E,I.os,I.bare,I.base,I.loc,I.cell,I.free,I.oO,I.pin,I.hok,I.len⟩
theorem Inv.wj(I:Inv (X.wish E) ak aj H s):Inv X ak aj H s:=⟨I.ok.wj,I.os,I.bare,I.base,I.loc,I.cell,I.free,I.oO,I.pin,I.hok,I.len⟩
variable{D:Ends}
theorem SP.wj{f:Flow}(h:SP (X.wish E) ak D f s'):SP X ak D f s':=by cases f with| next=>obtain ⟨bJ,H',I,q⟩:=h; exact ⟨bJ,H',I.wj,q⟩| brk=>obtain ⟨bJ,H',I,q⟩:=h; exact ⟨bJ,H',I.wj,q⟩| cont=>obtain ⟨bJ,H',I,q⟩:=h; exact ⟨bJ,H',I.wj,q⟩| ret u=>obtain ⟨v,bJ,H',I,r,q⟩:=h; exact ⟨v,bJ,H',I.wj,r,q⟩
theorem qD.nox{st:List cD}{t:TS}(h:qD X.nox st t):qD X st t:=λak s aj H D I hw =>
 ju (h ak s aj H D (I.wish _) hw) (λ_ _ q=>q.wj) λ_ _ z=>qp z
section
variable{X:Cx}{st:cD}{rest:List cD}{t u:TS}{e:Expr}{te:TE}{pos:Pos}
def agt:TS:=λD aj H=>D.nx aj H
def Ez(t u:TS):TS:=λD aj H=>t { D with nx:=u D } aj H
theorem gC:qD X [] agt:=λ_ _ aj H _ I h=>Jk ⟨aj,H,I,h⟩
theorem bf(h1:PS X st t)(h2:qD X rest u):qD X (st :: rest) (Ez t u):=by intro ak s aj H D I h;refine Ws (bL (h1 ak s aj H { D with nx:=u D } I h) λf s1 q=>?_);cases f with| next =>obtain ⟨bJ,H',I',q⟩:=q;exact h2 ak s1 bJ H' D I' q| ret v=>exact q| brk=>exact q| cont=>exact q
theorem bC(h1:PS X st t):qD X [st] t:=by intro ak s aj H D I h;refine Ws (bL (h1 ak s aj H D I h) λf s1 q=>?_);cases f with| next=>exact Jk q| ret v=>exact q| brk=>exact q| cont=>exact q
theorem Inv.quiet(I:Inv X ak aj H s):interactive X.env=false:=by simp [interactive,I.ok.kind]
def aos(te:TE):TS:=λD aj H=>te aj H λ_ H1=>D.nx aj H1
theorem sW(he:PE X e te)(hs:zO e none pos.line X.env=pure false:=by rfl):PS X (.Expr e pos) (aos te):=by intro ak s aj H D I h;exact wpAny_Expr_any (bL (he ak s aj H _ I h) λv s1 ⟨x,H1,I1,r1,q1⟩=>⟨aj,H1,I1,q1⟩) I.quiet hs
def aeA(te:TE):TS:=λD aj H=>te aj H D.rt
theorem cO(he:PE X e te):PS X (.Return (some e) pos) (aeA te):=by intro ak s aj H D I h;exact wpAny_Return_some (bL (he ak s aj H _ I h) λv s1 ⟨x,H1,I1,r1,q1⟩=>⟨x,aj,H1,I1,r1,q1⟩)
def Er(c:TT)(t u:TS):TS:=λD aj H=>c aj H λb H1=>if b=true then t D aj H1 else u D aj H1
theorem gD{c:Expr}{a b:List cD}(hc:PT X c tc)(ha:qD X a t)(hb:qD X b u):PS X (.If c a b pos) (Er tc t u):=by intro ak s aj H D I h;refine wpAny_If (bL (hc ak s aj H _ I h) λd s1 ⟨H1,I1,q1⟩=>?_);cases d with| true=>exact ha ak s1 aj H1 D I1 q1| false=>exact hb ak s1 aj H1 D I1 q1
end
abbrev TG:=V->St->Hp->(St->Hp->Prop)->Prop
abbrev wQ:=List V->St->Hp->(St->Hp->Prop)->Prop
def PG(X:Cx)(target:Expr)(t:TG):Prop :=
 ∀(ak:List (au × Obj))(s:aH)(aj:St)(H:Hp)(v:V)(u:aB)(Q:St->Hp->Prop),Inv X ak aj H s->cI v u->t v aj H Q ->
   aF (aR X.prog X.w) X.A (assign target X.env u) (λ_ s'=>∃ bJ H',Inv X ak bJ H' s'/\Q bJ H') X.xe s
def PGs(X:Cx)(ts:List Expr)(t:wQ):Prop :=
 ∀(ak:List (au × Obj))(s:aH)(aj:St)(H:Hp)(vs:List V)(us:List aB)(Q:St->Hp->Prop),Inv X ak aj H s->bY vs us->t vs aj H Q ->
   aF (aR X.prog X.w) X.A (assignInOrder ((assignEach ts X.env).map (·.2)) us) (λ_ s'=>∃ bJ H',Inv X ak bJ H' s'/\Q bJ H') X.xe s
abbrev UW:=V->V->V->Hp->(Hp->Prop)->Prop
def Zj(X:Cx)(t:UW):Prop :=
 ∀(ak:List (au × Obj))(s:aH)(aj:St)(H:Hp)(o i v:V)(ov iv u:aB)(Q:Hp->Prop),Inv X ak aj H s->cI o ov->cI i iv->cI v u->t o i v H Q ->
   aF (aR X.prog X.w) X.A (setItem ov iv u) (λ_ s'=>∃ H',Inv X ak aj H' s'/\Q H') X.xe s
def wN(i:Nat):TG:=λv aj H Q=>Q (aj.set i (some v)) H
variable{x:Str}{pos:Pos}
theorem Wt(hN:X.N.Nodup)(hi:X.N[i]?=some x)(hx:Loc X.env.scope x)(hf:X.fn x=true\/X.env.scope.names.lookup x=some .local:=by first | exact .inl rfl | exact .inr rfl | assumption):PG X (.Name x pos) (wN i):=by intro ak s aj H v u Q I r h;exact Qn (Fl I hN hi hx r (λs' I'=>⟨_,H,I',h⟩) hf)
def adW:wQ:=λvs aj H Q=>vs=[]/\Q aj H
inductive aeJ(t:TG)(u:wQ)(vs:List V)(aj:St)(H:Hp)(Q:St->Hp->Prop):Prop|mk v r(_:vs=v :: r)(_:t v aj H fun bJ H'=>u r bJ H' Q)
theorem jV:PGs X [] adW:=by intro ak s aj H vs us Q I r h;obtain ⟨e,h⟩:=h;subst e;cases r;exact adC ⟨aj,H,I,h⟩
variable{es:List Expr}
theorem cZ{t:TG}{u:wQ}(h1:PG X e t)(h2:PGs X es u)(hs:(assignEach (e :: es) X.env).map (·.2)=assign e X.env :: (assignEach es X.env).map (·.2):=by rfl):PGs X (e :: es) (aeJ t u):=by intro ak s aj H vs us Q I r h;obtain ⟨v,vr,e1,h⟩:=h;subst e1;cases r with| cons r rr =>rw [hs];refine Yg (bL (h1 ak s aj H _ _ _ I r h) λ_ s1 ⟨ahV,H1,I1,q1⟩=>?_);exact h2 ak s1 ahV H1 _ _ Q I1 rr q1
inductive afZ(K:cH)(n:Nat)(t:wQ)(v:V)(aj:St)(H:Hp)(Q:St->Hp->Prop):Prop|mk a xs(_:v=.ref a)(_:aG K H a xs)(_:xs.length=n)(_:t xs aj H Q)
theorem j8{k:Nat}{t:wQ}{n:Nat}(hc:X.calm=true)(h:PGs X es t)(hn:(assignEach es X.env).length=n:=by rfl)(hst:(assignEach es X.env).findIdx? (·.1)=none:=by rfl):PG X (.Tuple es k pos) (afZ X.K n t):=by intro ak s aj H v u Q I r hw;obtain ⟨a,xs,e1,hq,hl,hw⟩:=hw;subst e1;cases r;obtain ⟨its,rv,ht,hz⟩:=I.tuple hq;refine assign_Tuple_tuple (I.ok.hd hc) ht (by simp [hn,<- hl,rv.length]) hst λh' hx=>?_;have I1:Inv X ak aj H { s with heap:=h' }:=I.kept (t':=s.toks) λb o e=>hx b o (dU (bW e)) e;exact h ak _ aj H xs _ Q I1 (by simpa using rv) hw
def ajZ(to ti:TE)(t:UW):TG:=λv aj H Q=>to aj H λo H1=>ti aj H1 λi H2=>t o i v H2 λH3=>Q aj H3
theorem aeb{o i:Expr}{to:TE}{t:UW}(ho:PE X o to)(hi:PE X i ti)(hs:Zj X t)(ha:∀ v,assign (.Subscript o i pos) X.env v=(do
     let ov <- holding [v] (eval o X.env)
     let iv <- holding [v,ov] (eval i X.env)
     standAt pos
     holding [v,ov,iv] (setItem ov iv v)
     release [v,ov,iv] []):=by intro _; rfl):PG X (.Subscript o i pos) (ajZ to ti t):=by
 intro ak s aj H v u Q I r h;rw [ha];refine aA (iR (bL (ho ak s aj H _ I h) λov s1 ⟨x,H1,I1,r1,q1⟩=>?_));refine aA (iR (bL (hi ak s1 aj H1 _ I1 q1) λiv s2 ⟨y,H2,I2,r2,q2⟩=>?_));refine aA (qL (aA (iR (bL (hs ak s2 aj H2 x y v ov iv u _ I2 r1 r2 r q2) λ_ s3 ⟨H3,I3,q3⟩=>?_))));exact wpAny_release ⟨aj,H3,I3,q3⟩
def yZ(te:TE)(g:TG):TS:=λD aj H=>te aj H λx H1=>g x aj H1 D.nx
variable{tg:Expr}{te:TE}{g:TG}
theorem Ed(he:PE X e te)(hg:PG X tg g)(hs:swapsWithSole [tg] e pos.line X.env=pure false:=by rfl)(hw:swappedStores [tg] e X.env=pure none:=by rfl)(h1:(assignEach [tg] X.env).map (·.2)=[assign tg X.env]:=by rfl):PS X (.Assign [tg] e pos) (yZ te g):=by
 intro ak s aj H D I h;refine wpAny_Assign_stores (bL (he ak s aj H _ I h) λv s1 ⟨x,H1,I1,r1,q1⟩=>?_) hs hw;rw [h1];exact bL (hg ak s1 aj H1 x v _ I1 r1 q1) λ_ s2 q=>q
variable{pos':Pos}
theorem acA(hN:X.N.Nodup)(hi:X.N[i]?=some x)(hx:Loc X.env.scope x)(he:PE X e te)(hs:zO e (some (.Name x pos')) pos.line X.env=pure false:=by rfl)(hf:X.fn x=true\/X.env.scope.names.lookup x=some .local:=by first | exact .inl rfl | exact .inr rfl | assumption):
   PS X (.Assign [.Name x pos'] e pos) (yZ te (wN i)):=by
 intro ak s aj H D I h;refine afM (bL (he ak s aj H _ I h) λv s1 ⟨y,H1,I1,r1,q1⟩=>?_) hs;exact Fl I1 hN hi hx r1 (λs2 I2=>⟨_,H1,I2,q1⟩) hf
structure It where
 go:Nat->Hp->Prop
 zP:Nat->Hp->V->Hp->Prop
 stop:Nat->Hp->Prop
def jA(X:Cx)(ak:List (au × Obj))(H:Hp)(b:au):Prop :=
 H b=none/\b≠X.env.locals/\b ∉ X.fs/\(b∈X.ex\/X.s₀.heap.objs.size<=b)/\(∀ x c,X.env.cells.lookup x=some c->c≠b)/\∀ p∈X.pn++ak,p.1≠b
theorem Inv.zQ(I:Inv X ak aj H s)(hb:s.heap.objs.size<=b)(hn:H' b=none):jA X ak H' b:=by refine ⟨hn,yh (kO I.lt hb),I.apy hb,.inr (gw I.sz hb),λx c e z=>?_,λp hp z=>?_⟩;obtain ⟨v,q⟩:=I.cell x c e;exact bK (kO q.lt (by rw [z]; exact hb)) (uL _);exact bK (kO (bW (I.pin p hp).1) (by rw [z]; exact hb)) (uL _)
structure Turn(P:dX)(w:cU)(K:cH)(tg:Expr)(J:It)(fp:List au)(it:au)(tn:Nat->bD->Prop):Prop where
 mem:it∈fp
 obj:∀ i h,tn i h->∀ b∈fp,∃ o,h.get? b=some o/\∀ v,o.data≠.cell v
 keep:∀ i h h',tn i h->(∀ b∈fp,∀ o,h.get? b=some o->h'.get? b=some o)->tn i h'
 item:∀(X:Cx),X.prog=P->X.w=w->X.K=K->X.calm=true->∀(i:Nat)(ak:List (au × Obj))(s:aH)(aj:St)(H:Hp)(E:aB->aH->Prop),Inv X ak aj H s->(∀ b∈fp,jA X ak H b)->tn i s.heap->J.go i H ->
   aF (aR P w) X.A (pyNext (.ref it)) (λr s1=>∃ u,r=some u /\
     aF (aR P w) X.A (letOwnedTupleGo tg (.ref it) u) (λ_ s2=>v9 λx H'=>jt (Inv X ak aj H' s2) (cI x u) (J.zP i H x H') (tn (i+1) s2.heap) (∀ b∈fp,H' b=none)) E s1) E s
 done:∀(X:Cx),X.prog=P->X.w=w->X.K=K->X.calm=true->∀(i:Nat)(ak:List (au × Obj))(s:aH)(aj:St)(H:Hp)(E:aB->aH->Prop),Inv X ak aj H s->(∀ b∈fp,jA X ak H b)->tn i s.heap->J.stop i H ->
   aF (aR P w) X.A (pyNext (.ref it)) (λr s1=>r=none/\Inv X ak aj H s1) E s
 self:∀(A:iw)(i:Nat)(s:aH)(Q:aB->aH->Prop)(E:aB->aH->Prop),tn i s.heap->Q (.ref it) s->aF (aR P w) A (pyIter (.ref it)) Q E s
abbrev TI:=St->Hp->(It->Hp->Prop)->Prop
inductive PIE(X:Cx)(ak:List (au × Obj))(aj:St)(tg:Expr)(R:It->Hp->Prop)(itv:aB)(s2:aH):Prop|mk (it:au) (fp:List au) (tn:Nat->bD->Prop) (J:It) (H':Hp)(_:itv=.ref it)(_:Inv X ak aj H' s2)(_:Turn X.prog X.w X.K tg J fp it tn)(_:tn 0 s2.heap)(_:(∀ b∈fp,jA X ak H' b))(_:R J H')
def PI(X:Cx)(tg iter:Expr)(wi:TI):Prop :=
 ∀(ak:List (au × Obj))(s:aH)(aj:St)(H:Hp)(R:It->Hp->Prop),Inv X ak aj H s->wi aj H R ->
   aF (aR X.prog X.w) X.A (eval iter X.env) (λv s1=>aF (aR X.prog X.w) X.A (pyIter v) (PIE X ak aj tg R) X.xe s1) X.xe s
variable{o:Obj}
theorem JT{n:String}(ho:s.heap.get? it=some o)(hc:o.cls=.type n)(hd:o.data=.fields vs)(hn:["enumerate","zip","dict_itemiterator","dict_reverseitemiterator","odict_iterator","itertools.zip_longest","itertools.pairwise"].contains n=false)(hQ:Q () s):aF M A (letOwnedTupleGo tg (.ref it) u) Q E s:=by
 unfold letOwnedTupleGo
 cases tg <;> first
   | exact aO hQ
   | (cases u <;> first
       | exact aO hQ
       | (refine aA (Yo ho ?_)
          rw [hc,hd];show aF M A (if (["enumerate","zip","dict_itemiterator","dict_reverseitemiterator","odict_iterator","itertools.zip_longest","itertools.pairwise"].contains n && vs[0]? == some (rawInt _))=true then _ else _) Q E s;rw [aV (by intro h; rw [hn,Bool.false_and] at h; cases h)]
          exact aO hQ))
def BZ(K:cH)(a:au):It :=
 ⟨λi H=>∃ xs x,aY K H a xs/\xs[i]?=some x,λi H x H'=>H'=H/\∀ xs,aY K H a xs->xs[i]?=some x,λi H=>∃ xs,aY K H a xs/\xs.length<=i⟩
def xY(K:cH)(a:au):It :=
 ⟨λi H=>∃ xs x,aG K H a xs/\xs[i]?=some x,λi H x H'=>H'=H/\∀ xs,aG K H a xs->xs[i]?=some x,λi H=>∃ xs,aG K H a xs/\xs.length<=i⟩
def Aw(lo:Int)(n:Nat):It:=⟨λi _=>i<n,λi H x H'=>H'=H/\x=.int (lo+i),λi _=>n<=i⟩
theorem agU(a it:au):Turn P w K tg (BZ K a) [it] it (λi h=>h.IsListIter it a i) where
 mem:=by simp
 obj:=λi h st b hb=>by
   have e:b=it:=by simpa using hb
   subst e;obtain ⟨o,e,c,d⟩:=st;exact ⟨o,e,λv z=>by rw [d] at z; cases z⟩
 keep:=λi h h' st k=>st.at λo e=>k it (by simp) o e
 item:=by
   intro X hP hw hK hc i ak s aj H E I hf st hg;subst hP hw hK;obtain ⟨xs,x,hq,hx⟩:=hg;obtain ⟨its,rv,p,hz⟩:=I.list hq;obtain ⟨u,hu,ru⟩:=rv.get hx;obtain ⟨f0,f1,f2,f3,f4,f5⟩:=hf it (by simp);refine RJ st p.isList (x:=u) (by simpa using hu) λh' st' sb=>?_
   have I1:Inv X ak aj H { s with heap:=h' }:=I.turned (t':=s.toks) (λb o hb e=>(sb.2 b hb).ao e) f0 f1 f3 f4 f5;obtain ⟨o,e,c,d⟩:=id st';exact ⟨u,rfl,JT (s:={ s with heap:=h' }) e c d (by decide) ⟨x,H,I1,ru,⟨rfl,λys hy=>by rw [I.anz hy hq]; exact hx⟩,st',λb hb=>(hf b hb).1⟩⟩
 done:=by
   intro X hP hw hK hc i ak s aj H E I hf st hg;subst hP hw hK;obtain ⟨xs,hq,hx⟩:=hg;obtain ⟨its,rv,p,hz⟩:=I.list hq;obtain ⟨f0,f1,f2,f3,f4,f5⟩:=hf it (by simp);have hl:=rv.length;exact XM (I.ok.hd hc) st p.isList (by simp; omega) λh' eb=>⟨rfl,I.turned (t':=s.toks) (λb o hb e=>eb b o hb e) f0 f1 f3 f4 f5⟩
 self:=λ_ _ _ _ _ st h=>wpAny_pyIter_listiter st h
theorem ahK(a it:au):Turn P w K tg (xY K a) [it] it (λi h=>h.IsTupleIter it a i) where
 mem:=by simp
 obj:=λi h st b hb=>by
   have e:b=it:=by simpa using hb
   subst e;obtain ⟨o,e,c,d⟩:=st;exact ⟨o,e,λv z=>by rw [d] at z; cases z⟩
 keep:=λi h h' st k=>st.at λo e=>k it (by simp) o e
 item:=by
   intro X hP hw hK hc i ak s aj H E I hf st hg;subst hP hw hK;obtain ⟨xs,x,hq,hx⟩:=hg;obtain ⟨its,rv,p,hz⟩:=I.tuple hq;obtain ⟨u,hu,ru⟩:=rv.get hx;obtain ⟨f0,f1,f2,f3,f4,f5⟩:=hf it (by simp);refine wpAny_pyNext_tuple_item st (show s.heap.IsTuple a its.toArray from p) (x:=u) (by simpa using hu) λh' st' sb=>?_
   have I1:Inv X ak aj H { s with heap:=h' }:=I.turned (t':=s.toks) (λb o hb e=>(sb.2 b hb).ao e) f0 f1 f3 f4 f5;obtain ⟨o,e,c,d⟩:=id st';exact ⟨u,rfl,JT (s:={ s with heap:=h' }) e c d (by decide) ⟨x,H,I1,ru,⟨rfl,λys hy=>by rw [I.ank hy hq]; exact hx⟩,st',λb hb=>(hf b hb).1⟩⟩
 done:=by
   intro X hP hw hK hc i ak s aj H E I hf st hg;subst hP hw hK;obtain ⟨xs,hq,hx⟩:=hg;obtain ⟨its,rv,p,hz⟩:=I.tuple hq;obtain ⟨f0,f1,f2,f3,f4,f5⟩:=hf it (by simp);have hl:=rv.length;exact wpAny_pyNext_tuple_end (I.ok.hd hc) st (show s.heap.IsTuple a its.toArray from p) (by simp; omega) λh' eb=>⟨rfl,I.turned (t':=s.toks) (λb o hb e=>eb b o hb e) f0 f1 f3 f4 f5⟩
 self:=λ_ _ _ _ _ st h=>wpAny_pyIter_tupleiter st h
theorem ahg(it:au)(lo:Int)(n:Nat):Turn P w K tg (Aw lo n) [it] it (λi h=>IsRangeIter h it (lo+(i:Nat) * 1) ((n:Int)-(i:Nat)) 1) where
 mem:=by simp
 obj:=λi h st b hb=>by
   have e:b=it:=by simpa using hb
   subst e
   exact ⟨_,st,λv z=>by
     have z':Yb _=Es v:=z
     cases z'⟩
 keep:=λi h h' st k=>k it (by simp) _ st
 item:=by
   intro X hP hw hK hc i ak s aj H E I hf st hg;subst hP hw hK;obtain ⟨f0,f1,f2,f3,f4,f5⟩:=hf it (by simp);have W:=Walks.range (prog:=X.prog) (w:=X.w) (I.ok.hd hc) it lo 1 n;refine W.item i s _ _ hg st λv h' tk hv st' kk=>?_
   obtain ⟨t,rfl⟩:=hv;have I1:Inv X ak aj H { s with heap:=h',toks:=tk }:=I.turned (λb o hb e=>kk b o (by simpa using hb) e) f0 f1 f3 f4 f5;refine ⟨_,rfl,JT (s:={ s with heap:=h',toks:=tk }) (n:="range_iterator") st' rfl rfl (by decide) ⟨.int (lo+i),H,I1,⟨t,?_⟩,⟨rfl,rfl⟩,st',λb hb=>(hf b hb).1⟩⟩;rw [Int.mul_one]
 done:=by
   intro X hP hw hK hc i ak s aj H E I hf st hg;subst hP hw hK;obtain ⟨f0,f1,f2,f3,f4,f5⟩:=hf it (by simp);exact wpAny_pyNext_range_end (I.ok.hd hc) st (by have:n<=i:=hg; omega) λh' eb=>⟨rfl,I.turned (t':=s.toks) (λb o hb e=>eb b o hb e) f0 f1 f3 f4 f5⟩
 self:=λ_ _ _ _ _ st h=>wpAny_pyIter_rangeiter st h
inductive amH(K:cH)(x:V)(H:Hp)(R:It->Hp->Prop):Prop|mk a(_:x=.ref a)(_:∃ xs,aY K H a xs)(_:R (BZ K a) H)
def akz(K:cH)(tl:TE):TI:=fun aj H R=>tl aj H λx H1=>amH K x H1 R
inductive apt(K:cH)(x:V)(H:Hp)(R:It->Hp->Prop):Prop|mk a(_:x=.ref a)(_:∃ xs,aG K H a xs)(_:R (xY K a) H)
def aeW(K:cH)(tl:TE):TI:=fun aj H R=>tl aj H λx H1=>apt K x H1 R
variable{l:Expr}{tl:TE}
theorem uI(hl:PE X l tl):PI X tg l (akz X.K tl):=by intro ak s aj H R I h;refine bL (hl ak s aj H _ I h) λv s1 ⟨x,H1,I1,r1,q1⟩=>?_;obtain ⟨a,e,⟨xs,hq⟩,q⟩:=q1;subst e;cases r1;obtain ⟨its,rv,p,hz⟩:=I1.list hq;refine Ih p.isList ?_;refine ⟨s1.heap.objs.size,[s1.heap.objs.size],_,_,H1,rfl,I1.kept (t':=s1.toks) λb o e=>cj _ e,agU a _,⟨_,fU _ rfl,rfl,rfl⟩,λb hb=>?_,q⟩;have e:b=s1.heap.objs.size:=(by simpa using hb);subst e;exact I1.zQ (bB _) (I1.hok.fresh (bB _))
theorem gj(hl:PE X l tl):PI X tg l (aeW X.K tl):=by intro ak s aj H R I h;refine bL (hl ak s aj H _ I h) λv s1 ⟨x,H1,I1,r1,q1⟩=>?_;obtain ⟨a,e,⟨xs,hq⟩,q⟩:=q1;subst e;cases r1;obtain ⟨its,rv,p,hz⟩:=I1.tuple hq;refine QV (show s1.heap.IsTuple a its.toArray from p) ?_;refine ⟨s1.heap.objs.size,[s1.heap.objs.size],_,_,H1,rfl,I1.kept (t':=s1.toks) λb o e=>cj _ e,ahK a _,⟨_,fU _ rfl,rfl,rfl⟩,λb hb=>?_,q⟩;have e:b=s1.heap.objs.size:=(by simpa using hb);subst e;exact I1.zQ (bB _) (I1.hok.fresh (bB _))
theorem afY{R:It->Hp->Prop}{lo hi:Int}{t u v:Tok}{tk:Nat}(I:Inv X ak aj H s)(h1:-(2 ^ 62)<=lo)(h2:lo<2 ^ 62)(h3:-(2 ^ 62)<=hi)(h4:hi<2 ^ 62)(q:R (Aw lo (hi-lo).toNat) H):aF (aR X.prog X.w) X.A (pyIter (.ref s.heap.objs.size)) (PIE X ak aj tg R) E { s with heap:=s.heap.push { cls:=.type "range",data:=.fields #[.int lo t,.int hi u,.int 1 v] },toks:=tk }:=by refine wpAny_pyIter_range (IsRange.new ..) (small_one h1 h2 h3 h4) ?_;have I1:Inv X ak aj H { s with heap:=s.heap.push { cls:=.type "range",data:=.fields #[.int lo t,.int hi u,.int 1 v] },toks:=tk }:=I.kept λb o e=>cj _ e;refine ⟨(s.heap.push { cls:=.type "range",data:=.fields #[.int lo t,.int hi u,.int 1 v] }).objs.size,[(s.heap.push { cls:=.type "range",data:=.fields #[.int lo t,.int hi u,.int 1 v] }).objs.size],_,_,H,rfl,I1.kept (t':=tk) λb o e=>cj _ e,ahg _ lo (hi-lo).toNat,?_,λb hb=>?_,q⟩;have e1:lo+((0:Nat):Int) * 1=lo:=(by simp);have e2:(((hi-lo).toNat:Nat):Int)-((0:Nat):Int)=Builtin.Range.rangeSize lo hi 1:=(by rw [rangeSize_one]; split <;> omega);show IsRangeIter _ _ (lo+((0:Nat):Int) * 1) ((((hi-lo).toNat:Nat):Int)-((0:Nat):Int)) 1;rw [e1,e2];exact fU _ rfl;have e:b=(s.heap.push { cls:=.type "range",data:=.fields #[.int lo t,.int hi u,.int 1 v] }).objs.size:=(by simpa using hb);subst e;exact I1.zQ (bB _) (I1.hok.fresh (bB _))
inductive akX(vs:List V)(H:Hp)(R:It->Hp->Prop):Prop|mk (j:Int)(_:vs=[.int j])(_:-(2 ^ 62)<=j)(_:j<2 ^ 62)(_:R (Aw 0 j.toNat) H)
def ah6(ta:TA):TI:=fun aj H R=>ta aj H λvs H1=>akX vs H1 R
def aoq(ta:TA):TI:=fun aj H R=>ta aj H λvs H1=>∃ i j:Int,vs=[.int i,.int j]/\(-(2 ^ 62)<=i/\i<2 ^ 62/\-(2 ^ 62)<=j/\j<2 ^ 62)/\R (Aw i (j-i).toNat) H1
variable{a:Expr}{ta:TA}{p:Pos}
theorem uO(hg:Gl X "range")(hm:X.mg "range" = none)(ha:PA X [a] ta)(hs:dO [a] X.env=[(false,eval a X.env)]:=by rfl):PI X tg (.Call (.Name "range" p) [a] [] pos) (ah6 ta):=by intro ak s aj H R I h;refine Call_ (Dl I hg hm boot_range (Ms (bL (ha pos ak s aj H _ I h) λus s1 ⟨vs,H1,I1,r1,q1⟩=>?_) hs rfl));obtain ⟨j,e,q1,q2,q⟩:=q1;subst e;cases r1 with| cons r rr =>cases rr;obtain ⟨t,rfl⟩:=r;exact call_range_1 (afY I1 (by omega) (by omega) q1 q2 (by simpa using q))
theorem aaY{b:Expr}(hg:Gl X "range")(hm:X.mg "range" = none)(ha:PA X [a,b] ta)(hs:dO [a,b] X.env=[(false,eval a X.env),(false,eval b X.env)]:=by rfl)(hs2:dO [b] X.env=[(false,eval b X.env)]:=by rfl):
   PI X tg (.Call (.Name "range" p) [a,b] [] pos) (aoq ta):=by
 intro ak s aj H R I h;refine Call_ (Dl I hg hm boot_range (Ms (bL (ha pos ak s aj H _ I h) λus s1 ⟨vs,H1,I1,r1,q1⟩=>?_) (by rw [hs,hs2]) (by rw [hs2]; rfl)));obtain ⟨i,j,e,⟨q1,q2,q3,q4⟩,q⟩:=q1;subst e;cases r1 with
 | cons r rr =>
   cases rr with
   | cons r' rr =>
     cases rr;obtain ⟨t,rfl⟩:=r;obtain ⟨t',rfl⟩:=r';exact call_range_2 (afY I1 q1 q2 q3 q4 q)
def ale(wi:TI)(g:TG)(tb:TS):TS:=λD aj H=>wi aj H λJ H1=>∃ W:Nat->Nat->St->Hp->Prop,(∃ m,W 0 m aj H1)/\∀ i m aj H,W i m aj H ->
 (J.stop i H/\D.nx aj H)\/(J.go i H/\∃ N:St->Hp->Prop,(∀ bJ H',N bJ H'->∃ m',m'<m/\W (i+1) m' bJ H')/\∀ x H',J.zP i H x H'->g x aj H' fun dY H2=>tb { D with nx:=N,ct:=N,bk:=D.nx } dY H2)
def DX(fp:List au)(h:bD):List (au × Obj):=fp.filterMap λb=>(h.get? b).map λo=>(b,o)
variable{fp:List au}
theorem Bo(hb:b∈fp)(e:h.get? b=some o):(b,o)∈DX fp h:=IV.mpr ⟨b,hb,by rw [e]; rfl⟩
theorem ajv{p:au × Obj}(hp:p∈DX fp h):p.1∈fp/\h.get? p.1=some p.2:=by obtain ⟨b,hb,e⟩:=IV.mp hp;cases q:h.get? b with| none=>rw [q] at e; cases e| some o =>rw [q] at e;have e':(b,o)=p:=jK e;subst e';exact ⟨hb,q⟩
theorem Inv.pinned(I:Inv X ak aj H s)(hf:∀ b∈fp,jA X ak H b)(ho:∀ b∈fp,∃ o,s.heap.get? b=some o/\∀ v,o.data≠.cell v):Inv X (ak++DX fp s.heap) aj H s :=
 I.abP λp hp=>(fQ.mp hp).elim (λz=>I.pin p (jH _ z)) λz=>by
   obtain ⟨hb,e⟩:=ajv z;obtain ⟨f0,f1,f2,_⟩:=hf p.1 hb;obtain ⟨o,e',d⟩:=ho p.1 hb;rw [e] at e'; cases e';exact ⟨e,f0,f1,f2,d⟩
theorem Inv.Iv{pl:List (au × Obj)}(I:Inv X (ak++pl) aj H s):Inv X ak aj H s:=I.abP λp hp=>I.pin p (jH _ (yr _ hp))
variable{body:List cD}{tb:TS}
theorem jd{iter:Expr}(hp:PassesOwn (aR X.prog X.w) X.A X.env X.xe)(hc:X.calm=true)(hi:PI X tg iter wi)(hg:PG X tg g)(hb:qD X body tb)(hs:∀ x,n6 iter X.env x=pure x:=by intro _; rfl):PS X (.For tg iter body [] pos) (ale wi g tb):=by intro ak s aj H D I h;refine wpAny_For (bL (hi ak s aj H _ I h) λv s1 h1=>bL h1 λitv s2 h2=>?_) hs;obtain ⟨it,fp,tn,J,H2,e,I2,T,st2,f2,W,⟨m0,w0⟩,turn⟩:=h2;subst e;have stat:∀{H':Hp},(∀ b∈fp,H' b=none)->∀ b∈fp,jA X ak H' b:=λhn b hb=>⟨hn b hb,(f2 b hb).2⟩;refine codeAny_forLoop_any (λn s'=>∃ i bJ H',Inv X ak bJ H' s'/\tn i s'.heap/\(∀ b∈fp,H' b=none)/\W i n bJ H') ?_ m0 ⟨0,aj,H2,I2,st2,λb hb=>(f2 b hb).1,w0⟩;rintro n s3 ⟨i,zG,H3,I3,st3,zY,w3⟩;rcases turn i n zG H3 w3 with ⟨stop,qn⟩ | ⟨go,N,hN,step⟩;refine KY hp (bL (T.done X rfl rfl rfl hc i ak s3 zG H3 X.xe I3 (stat zY) st3 stop) λr s4 ⟨hr,I4⟩=>?_);subst hr;exact Jk ⟨zG,H3,I4,qn⟩;refine KY hp (bL (T.item X rfl rfl rfl hc i ak s3 zG H3 X.xe I3 (stat zY) st3 go) λr s4 ⟨u,hr,h4⟩=>?_);subst hr;refine KY hp (bL h4 λ_ s5 ⟨x,H5,I5,r5,y5,st5,fr5⟩=>?_);have I5':=I5.pinned (stat fr5) (T.obj _ _ st5);refine KY hp (bL (hg _ s5 zG H5 x u _ I5' r5 (step x H5 y5)) λ_ s6 ⟨afz,H6,I6,q6⟩=>?_);refine KY hp (bL (hb _ s6 afz H6 _ I6 q6) λf s7 q7=>?_);have again:∀{lH:St}{H7:Hp},Inv X (ak++DX fp s5.heap) lH H7 s7->N lH H7->∃ m,m<n/\∃ i bJ H',Inv X ak bJ H' s7/\tn i s7.heap/\(∀ b∈fp,H' b=none)/\W i m bJ H':=λ{lH H7} I7 n7=>(by obtain ⟨m',hm,w7⟩:=hN lH H7 n7;refine ⟨m',hm,i+1,lH,H7,I7.Iv,T.keep _ _ _ st5 λb hb o e=>(I7.pin (b,o) (jH _ (jH _ (Bo hb e)))).1,λb hb=>?_,w7⟩;obtain ⟨o,e,d⟩:=T.obj _ _ st5 b hb;exact (I7.pin (b,o) (jH _ (jH _ (Bo hb e)))).2.1);cases f with| next=>obtain ⟨lH,H7,I7,n7⟩:=q7; exact again I7 n7| cont=>obtain ⟨lH,H7,I7,n7⟩:=q7; exact again I7 n7| brk=>obtain ⟨lH,H7,I7,q7⟩:=q7; exact ⟨lH,H7,I7.Iv,q7⟩| ret v=>obtain ⟨x7,lH,H7,I7,r7,q7⟩:=q7; exact ⟨x7,lH,H7,I7.Iv,r7,q7⟩
variable{a:au}
theorem Te(Pv:Nat->St->Hp->Prop)(h0:Pv 0 aj H)(hl:∀ i aj H,i<=xs.length->Pv i aj H->aY K H a xs)(hs:∀ i x aj H,xs[i]?=some x->Pv i aj H->g x aj H fun dY H2=>tb { D with nx:=Pv (i+1),ct:=Pv (i+1),bk:=D.nx } dY H2)(hd:∀ aj H,Pv xs.length aj H->D.nx aj H): ∃ W:Nat->Nat->St->Hp->Prop,(∃ m,W 0 m aj H)/\∀ i m aj H,W i m aj H -> ((BZ K a).stop i H/\D.nx aj H)\/((BZ K a).go i H/\∃ N:St->Hp->Prop,(∀ bJ H',N bJ H'->∃ m',m'<m/\W (i+1) m' bJ H')/\∀ x H',(BZ K a).zP i H x H'->g x aj H' fun dY H2=>tb { D with nx:=N,ct:=N,bk:=D.nx } dY H2):=by refine ⟨λi m aj H=>m=xs.length-i/\i<=xs.length/\Pv i aj H,⟨xs.length,by simp,cJ _,h0⟩,?_⟩;rintro i m aj H ⟨rfl,hi,p⟩;have q:=hl i aj H hi p;by_cases hlt:i<xs.length;refine .inr ⟨⟨xs,xs[i],q,by simp [hlt]⟩,Pv (i+1),fun bJ H' p'=>⟨xs.length-(i+1),by omega,rfl,hlt,p'⟩,λx H' y=>?_⟩;obtain ⟨e,y⟩:=y;subst e;exact hs i x aj _ (y xs q) p;have e:i=xs.length:=(by omega);subst e;exact .inl ⟨⟨xs,q,bB _⟩,hd aj H p⟩
theorem nu(Pv:Nat->St->Hp->Prop)(h0:Pv 0 aj H)(hl:∀ i aj H,i<=xs.length->Pv i aj H->aG K H a xs)(hs:∀ i x aj H,xs[i]?=some x->Pv i aj H->g x aj H fun dY H2=>tb { D with nx:=Pv (i+1),ct:=Pv (i+1),bk:=D.nx } dY H2)(hd:∀ aj H,Pv xs.length aj H->D.nx aj H): ∃ W:Nat->Nat->St->Hp->Prop,(∃ m,W 0 m aj H)/\∀ i m aj H,W i m aj H -> ((xY K a).stop i H/\D.nx aj H)\/((xY K a).go i H/\∃ N:St->Hp->Prop,(∀ bJ H',N bJ H'->∃ m',m'<m/\W (i+1) m' bJ H')/\∀ x H',(xY K a).zP i H x H'->g x aj H' fun dY H2=>tb { D with nx:=N,ct:=N,bk:=D.nx } dY H2):=by refine ⟨λi m aj H=>m=xs.length-i/\i<=xs.length/\Pv i aj H,⟨xs.length,by simp,cJ _,h0⟩,?_⟩;rintro i m aj H ⟨rfl,hi,p⟩;have q:=hl i aj H hi p;by_cases hlt:i<xs.length;refine .inr ⟨⟨xs,xs[i],q,by simp [hlt]⟩,Pv (i+1),fun bJ H' p'=>⟨xs.length-(i+1),by omega,rfl,hlt,p'⟩,λx H' y=>?_⟩;obtain ⟨e,y⟩:=y;subst e;exact hs i x aj _ (y xs q) p;have e:i=xs.length:=(by omega);subst e;exact .inl ⟨⟨xs,q,bB _⟩,hd aj H p⟩
variable{n:Nat}
theorem zA{lo:Int}(Pv:Nat->St->Hp->Prop)(h0:Pv 0 aj H)(hs:∀ i aj H,i<n->Pv i aj H->g (.int (lo+i)) aj H fun dY H2=>tb { D with nx:=Pv (i+1),ct:=Pv (i+1),bk:=D.nx } dY H2)(hd:∀ aj H,Pv n aj H->D.nx aj H): ∃ W:Nat->Nat->St->Hp->Prop,(∃ m,W 0 m aj H)/\∀ i m aj H,W i m aj H -> ((Aw lo n).stop i H/\D.nx aj H)\/((Aw lo n).go i H/\∃ N:St->Hp->Prop,(∀ bJ H',N bJ H'->∃ m',m'<m/\W (i+1) m' bJ H')/\∀ x H',(Aw lo n).zP i H x H'->g x aj H' fun dY H2=>tb { D with nx:=N,ct:=N,bk:=D.nx } dY H2):=by refine ⟨λi m aj H=>m=n-i/\i<=n/\Pv i aj H,⟨n,by simp,cJ _,h0⟩,?_⟩;rintro i m aj H ⟨rfl,hi,p⟩;by_cases hlt:i<n;refine .inr ⟨hlt,Pv (i+1),fun bJ H' p'=>⟨n-(i+1),by omega,rfl,hlt,p'⟩,λx H' y=>?_⟩;obtain ⟨e,y⟩:=y;subst e y;exact hs i aj _ hlt p;have e:i=n:=(by omega);subst e;exact .inl ⟨bB _,hd aj H p⟩
abbrev R2:=V->V->Hp->VK->Prop
def cP(X:Cx)(f:aB->aB->Sem aB)(r:R2):Prop :=
 ∀(ak:List (au × Obj))(s:aH)(aj:St)(H:Hp)(x y:V)(v u:aB)(Q:VK),Inv X ak aj H s->cI x v->cI y u->r x y H Q ->
   aF (aR X.prog X.w) X.A (f v u) (EP X ak aj Q) X.xe s
def UnR(X:Cx)(f:aB->Sem aB)(r:V->Hp->VK->Prop):Prop :=
 ∀(ak:List (au × Obj))(s:aH)(aj:St)(H:Hp)(x:V)(v:aB)(Q:VK),Inv X ak aj H s->cI x v->r x H Q ->
   aF (aR X.prog X.w) X.A (f v) (EP X ak aj Q) X.xe s
def jz(X:Cx)(f:aB)(r:List V->Hp->VK->Prop):Prop :=
 ∀(ak:List (au × Obj))(s:aH)(aj:St)(H:Hp)(xs:List V)(us:List aB)(Q:VK),Inv X ak aj H s->bY xs us->r xs H Q ->
   aF (aR X.prog X.w) X.A (call f us) (EP X ak aj Q) X.xe s
def BW(r:R2)(ta tb:TE):TE:=fun aj H Q=>ta aj H λx H1=>tb aj H1 λy H2=>r x y H2 Q
def tUn(r:V->Hp->VK->Prop)(ta:TE):TE:=fun aj H Q=>ta aj H λx H1=>r x H1 Q
def rI(C:Int->Int->Prop)(g:Int->Int->V):R2:=λx y H Q=>∃ i j,x=.int i/\y=.int j/\C i j/\Q (g i j) H
def wJ(g:Int->Int->V):R2:=λx y H Q=>∃ i j,x=.int i/\y=.int j/\Q (g i j) H
variable{f:aB->aB->Sem aB}{a b:Expr}{ta tb:TE}
theorem R0(ha:PE X a ta)(hb:PE X b tb){R:V->V->Hp->Prop}(I:Inv X ak aj H s)(h:ta aj H λx H1=>tb aj H1 λy H2=>R x y H2){Q:aB->aH->Prop}(hf:∀ v u s2 x y H2,Inv X ak aj H2 s2->cI x v->cI y u->R x y H2->aF (aR X.prog X.w) X.A (f v u) Q X.xe s2): aF (aR X.prog X.w) X.A (eval a X.env) (λv s₁=>aF (aR X.prog X.w) X.A (eval b X.env) (λu s₂=>aF (aR X.prog X.w) X.A (f v u) Q X.xe s₂) X.xe s₁) X.xe s:=by refine bL (ha ak s aj H _ I h) λv s1 ⟨x,H1,I1,r1,q1⟩=>?_;refine bL (hb ak s1 aj H1 _ I1 q1) λu s2 ⟨y,H2,I2,r2,q2⟩=>?_;exact hf v u s2 x y H2 I2 r1 r2 q2
theorem cC{op:Operator}{r:R2}(ho:cP X (j6 op) r)(ha:PE X a ta)(hb:PE X b tb):PE X (.BinOp a op b pos) (BW r ta tb):=by intro ak s aj H Q I h;exact wpAny_BinOp (R0 ha hb I h λv u s2 x y H2 I2 rx ry q=>ho ak s2 aj H2 x y v u Q I2 rx ry q)
theorem Jx{op:UnaryOp}{r:V->Hp->VK->Prop}(ho:UnR X (unaryOp op) r)(ha:PE X a ta):PE X (.UnaryOp op a pos) (tUn r ta):=by intro ak s aj H Q I h;exact UnaryOp_ (bL (ha ak s aj H _ I h) λv s1 ⟨x,H1,I1,r1,q1⟩=>ho ak s1 aj H1 x v Q I1 r1 q1)
variable{g:Int->Int->Int}
theorem opI{C:Int->Int->Prop}(rule:∀(i j:Int)(t u:Tok)(s:aH)(Q:aB->aH->Prop)(E:aB->aH->Prop),C i j->Q (.int (g i j) s.toks) { s with toks:=s.toks+1 }->aF (aR X.prog X.w) X.A (f (.int i t) (.int j u)) Q E s): cP X f (rI C λi j=>.int (g i j)):=by intro ak s aj H x y v u Q I rx ry h;obtain ⟨i,j,rfl,rfl,hc,q⟩:=h;obtain ⟨t,rfl⟩:=rx;obtain ⟨t',rfl⟩:=ry;exact rule i j t t' s _ _ hc ⟨.int (g i j),H,I.tok _,⟨_,rfl⟩,q⟩
theorem afv(rule:∀(i j:Int)(t u:Tok)(s:aH)(Q:aB->aH->Prop)(E:aB->aH->Prop),Q (.int (g i j) s.toks) { s with toks:=s.toks+1 }->aF (aR X.prog X.w) X.A (f (.int i t) (.int j u)) Q E s): cP X f (wJ λi j=>.int (g i j)):=by intro ak s aj H x y v u Q I rx ry h;obtain ⟨i,j,rfl,rfl,q⟩:=h;obtain ⟨t,rfl⟩:=rx;obtain ⟨t',rfl⟩:=ry;exact rule i j t t' s _ _ ⟨.int (g i j),H,I.tok _,⟨_,rfl⟩,q⟩
theorem Ge{g:Int->Int->Bool}(rule:∀(i j:Int)(t u:Tok)(s:aH)(Q:aB->aH->Prop)(E:aB->aH->Prop),Q (.bool (g i j)) s->aF (aR X.prog X.w) X.A (f (.int i t) (.int j u)) Q E s): cP X f (wJ λi j=>.bl (g i j)):=by intro ak s aj H x y v u Q I rx ry h;obtain ⟨i,j,rfl,rfl,q⟩:=h;obtain ⟨t,rfl⟩:=rx;obtain ⟨t',rfl⟩:=ry;exact rule i j t t' s _ _ ⟨.bl (g i j),H,I,rfl,q⟩
def ahO(i j:Int):Prop:=0<j/\j<1073741824
def agb(i j:Int):Prop:=0<=j/\j<=1000000/\i.natAbs<2 ^ 64
def Pg(i j:Int):Prop:=(-(2 ^ 64)<i/\i<2 ^ 64)\/(-(2 ^ 64)<j/\j<2 ^ 64)
variable{i j:Int}
theorem Pg.ok(h:Pg i j):IntMulOk i j:=by rcases h with ⟨h1,h2⟩ | ⟨h1,h2⟩;exact .of_left (Vo h1 h2);exact .of_right (Vo h1 h2)
theorem an4:cP X (j6 .Add) (wJ λi j=>.int (i+j)):=afv λ_ _ _ _ _ _ _ q=>add_int q
theorem aiW:cP X (j6 .Sub) (wJ λi j=>.int (i-j)):=afv λ_ _ _ _ _ _ _ q=>sub_int q
theorem aks:cP X (j6 .Mult) (rI Pg λi j=>.int (i * j)):=opI λ_ _ _ _ _ _ _ hc q=>mul_int q hc.ok
theorem aiE:cP X (j6 .Mod) (rI (λ_ j=>0<j) λi j=>.int (i % j)):=opI λi j _ _ _ _ _ hc q=>by
 have h1:(0:Int)<j:=hc;exact mod_int' (by omega) (by rw [abh i (by omega)]; exact q)
theorem ao3:cP X (j6 .Pow) (rI agb λi j=>.int (i ^ j.toNat)):=opI λ_ _ _ _ _ _ _ hc q=>pow_int_small hc.1 hc.2.1 hc.2.2 q
def aeP:V->V->Bool
 | .non,.non=>true | .non,.int _=>true | .int _,.non=>true | .non,.bl _=>true | .bl _,.non=>true | .non,.str _=>true | .str _,.non=>true
 | .int _,.int _=>true | .bl _,.bl _=>true | .str _,.str _=>true | .wR _,.wR _=>true
 | .int _,.str _=>true | .str _,.int _=>true | .bl _,.str _=>true | .str _,.bl _=>true
 | _,_=>false
def rEq:R2:=λx y H Q=>aeP x y=true/\Q (.bl (decide (x=y))) H
def rNe:R2:=λx y H Q=>aeP x y=true/\Q (.bl (!decide (x=y))) H
theorem afr:decide (V.int i=V.int j)=(i == j):=by rw [jP];simp
theorem abK{i j:Bool}:decide (V.bl i=V.bl j)=(i == j):=by rw [jP];simp
theorem adq{i j:Str}:decide (V.str i=V.str j)=(i == j):=by rw [jP];simp
theorem aaV{i j:Array UInt8}:decide (V.wR i=V.wR j)=(i.toList == j.toList):=by rw [jP];cases i;cases j;simp
variable{Q:VK}
theorem iW{k k':Bool}(I:Inv X ak aj H s)(q:Q (.bl k) H)(e:k=k'):EP X ak aj Q (.bool k') s:=by subst e;exact ⟨.bl k,H,I,rfl,q⟩
theorem ajF:cP X (gK .Eq) rEq:=by intro ak s aj H x y v u Q I rx ry h;obtain ⟨hs,q⟩:=h;cases x with| non =>cases rx;(cases y with| non=>cases ry; exact PySem.EqNone.eq_none_none (iW I q (by simp))| bl j=>cases ry; exact PySem.EqNone.eq_none_bool (iW I q (by simp))| int j=>obtain ⟨t',rfl⟩:=ry; exact PySem.EqNone.eq_none_int (iW I q (by simp))| str j=>obtain ⟨t',rfl⟩:=ry; exact PySem.EqNone.eq_none_str (iW I q (by simp))| _=>exact bK (show false=true from hs) gO)| bl i =>cases rx;(cases y with| non=>cases ry; exact PySem.EqNone.eq_bool_none (iW I q (by simp))| bl j=>cases ry; exact eq_bool (iW I q abK)| str j=>obtain ⟨t',rfl⟩:=ry; exact PySem.EqMixed.eq_bool_str (iW I q (by simp))| _=>exact bK (show false=true from hs) gO)| int i =>obtain ⟨t,rfl⟩:=rx;(cases y with| non=>cases ry; exact PySem.EqNone.eq_int_none (iW I q (by simp))| int j=>obtain ⟨t',rfl⟩:=ry; exact eq_int (iW I q afr)| str j=>obtain ⟨t',rfl⟩:=ry; exact PySem.EqMixed.eq_int_str (iW I q (by simp))| _=>exact bK (show false=true from hs) gO)| str i =>obtain ⟨t,rfl⟩:=rx;(cases y with| non=>cases ry; exact PySem.EqNone.eq_str_none (iW I q (by simp))| bl j=>cases ry; exact PySem.EqMixed.eq_str_bool (iW I q (by simp))| int j=>obtain ⟨t',rfl⟩:=ry; exact PySem.EqMixed.eq_str_int (iW I q (by simp))| str j=>obtain ⟨t',rfl⟩:=ry; exact eq_str (iW I q adq)| _=>exact bK (show false=true from hs) gO)| wR i =>obtain ⟨t,rfl⟩:=rx;(cases y with| wR j=>obtain ⟨t',rfl⟩:=ry; exact PySem.W.eq_bytes (iW I q aaV)| _=>exact bK (show false=true from hs) gO)| _=>cases y <;> exact bK (show false=true from hs) gO
theorem ajc:cP X (gK .NotEq) rNe:=by intro ak s aj H x y v u Q I rx ry h;obtain ⟨hs,q⟩:=h;cases x with| non =>cases rx;(cases y with| non=>cases ry; exact PySem.EqNone.ne_none_none (iW I q (by simp))| bl j=>cases ry; exact PySem.EqNone.ne_none_bool (iW I q (by simp))| int j=>obtain ⟨t',rfl⟩:=ry; exact PySem.EqNone.ne_none_int (iW I q (by simp))| str j=>obtain ⟨t',rfl⟩:=ry; exact PySem.EqNone.ne_none_str (iW I q (by simp))| _=>exact bK (show false=true from hs) gO)| bl i =>cases rx;(cases y with| non=>cases ry; exact PySem.EqNone.ne_bool_none (iW I q (by simp))| bl j=>cases ry; exact ne_bool (iW I q (fG not abK))| str j=>obtain ⟨t',rfl⟩:=ry; exact PySem.EqMixed.ne_bool_str (iW I q (by simp))| _=>exact bK (show false=true from hs) gO)| int i =>obtain ⟨t,rfl⟩:=rx;(cases y with| non=>cases ry; exact PySem.EqNone.ne_int_none (iW I q (by simp))| int j=>obtain ⟨t',rfl⟩:=ry; exact ne_int (iW I q (fG not afr))| str j=>obtain ⟨t',rfl⟩:=ry; exact PySem.EqMixed.ne_int_str (iW I q (by simp))| _=>exact bK (show false=true from hs) gO)| str i =>obtain ⟨t,rfl⟩:=rx;(cases y with| non=>cases ry; exact PySem.EqNone.ne_str_none (iW I q (by simp))| bl j=>cases ry; exact PySem.EqMixed.ne_str_bool (iW I q (by simp))| int j=>obtain ⟨t',rfl⟩:=ry; exact PySem.EqMixed.ne_str_int (iW I q (by simp))| str j=>obtain ⟨t',rfl⟩:=ry; exact ne_str (iW I q (fG not adq))| _=>exact bK (show false=true from hs) gO)| wR i =>obtain ⟨t,rfl⟩:=rx;(cases y with| wR j=>obtain ⟨t',rfl⟩:=ry; exact PySem.W.ne_bytes (iW I q (fG not aaV))| _=>exact bK (show false=true from hs) gO)| _=>cases y <;> exact bK (show false=true from hs) gO
theorem aeS:cP X (gK .Lt) (wJ λi j=>.bl (decide (i<j))):=Ge λ_ _ _ _ _ _ _ q=>lt_int q
theorem akI:cP X (gK .LtE) (wJ λi j=>.bl (decide (i<=j))):=Ge λ_ _ _ _ _ _ _ q=>le_int q
theorem ai4:cP X (gK .Gt) (wJ λi j=>.bl (decide (j<i))):=Ge λ_ _ _ _ _ _ _ q=>gt_int q
theorem akb:cP X (gK .GtE) (wJ λi j=>.bl (decide (j<=i))):=Ge λ_ _ _ _ _ _ _ q=>ge_int q
theorem akt:cP X (gK .Is) (λx y H Q=>y=.non/\Q (.bl (decide (x=.non))) H):=by
 intro ak s aj H x y v u Q I rx ry h;obtain ⟨rfl,q⟩:=h;cases ry;refine is_none_gen (iW I q ?_)
 cases x <;> first
   | (cases rx; rfl)
   | (obtain ⟨t,rfl⟩:=rx; rfl)
variable{op:GX}
theorem cV(b:Expr)(h:op≠.In:=by decide)(h2:op≠.NotIn:=by decide):behindInMarks op b=false:=by have e1:(op == CmpOp.In)=false:=(by cases op <;> first | rfl | exact bK rfl h);have e2:(op == CmpOp.NotIn)=false:=(by cases op <;> first | rfl | exact bK rfl h2);cases b <;> simp [behindInMarks,e1,e2]
theorem rW{r:R2}(ho:cP X (gK op) r)(ha:PE X a ta)(hb:PE X b tb)(hm:behindInMarks op b=false):PE X (.Compare a [op] [b] pos) (BW r ta tb):=by intro ak s aj H Q I h;exact wpAny_Compare1 (R0 ha hb I h λv u s2 x y H2 I2 rx ry q=>ho ak s2 aj H2 x y v u Q I2 rx ry q) hm
theorem GR:(aL:Nat)<2 ^ 63:=by rw [dZ]; decide
theorem ak6:cP X (j6 .Add) (λx y H Q=>∃ i j,x=.str i/\y=.str j/\i.length+j.length<=aL/\Q (.str (i++j)) H):=by intro ak s aj H x y v u Q I rx ry h;obtain ⟨i,j,rfl,rfl,hz,q⟩:=h;obtain ⟨t,rfl⟩:=rx;obtain ⟨t',rfl⟩:=ry;exact add_str (λt' tk=>⟨.str (i++j),H,I.tok _,⟨_,rfl⟩,q⟩) hz
variable{x:V}
theorem nM(r:bY [x] us):∃ u,us=[u]/\cI x u:=by cases r with| cons r1 r2=>cases r2; exact ⟨_,rfl,r1⟩
theorem rR(r:bY [x,y] us):∃ u w',us=[u,w']/\cI x u/\cI y w':=by cases r with| cons r1 r2 =>cases r2 with| cons r3 r4=>cases r4; exact ⟨_,_,rfl,r1,r3⟩
theorem Jh:jz X (.builtin "abs") (λxs H Q=>∃ i,xs=[.int i]/\Q (.int (if i<0 then -i else i)) H):=by intro ak s aj H xs us Q I r h;obtain ⟨i,rfl,q⟩:=h;obtain ⟨u,rfl,t,rfl⟩:=nM r;exact call_abs_int λu tk=>⟨.int (if i<0 then -i else i),H,I.tok _,⟨_,rfl⟩,q⟩
theorem aaq(hc:X.calm=true):jz X (.builtin "max") (λxs H Q=>∃ i j,xs=[.int i,.int j]/\Q (.int (if j > i then j else i)) H):=by intro ak s aj H xs us Q I r h;obtain ⟨i,j,rfl,q⟩:=h;obtain ⟨u,w',rfl,⟨t,rfl⟩,⟨t',rfl⟩⟩:=rR r;refine max_two_ints (I.ok.hd hc) λh' tk k=>⟨_,H,I.kept k,?_,q⟩;by_cases hj:j > i;rw [bh hj,bh hj]; exact ⟨_,rfl⟩;rw [aV hj,aV hj]; exact ⟨_,rfl⟩
theorem ajA(hc:X.calm=true):jz X (.builtin "min") (λxs H Q=>∃ i j,xs=[.int i,.int j]/\Q (.int (if j<i then j else i)) H):=by intro ak s aj H xs us Q I r h;obtain ⟨i,j,rfl,q⟩:=h;obtain ⟨u,w',rfl,⟨t,rfl⟩,⟨t',rfl⟩⟩:=rR r;refine min_two_ints (I.ok.hd hc) λh' tk k=>⟨_,H,I.kept k,?_,q⟩;by_cases hj:j<i;rw [bh hj,bh hj]; exact ⟨_,rfl⟩;rw [aV hj,aV hj]; exact ⟨_,rfl⟩
theorem aaR:jz X (.type "int") (λxs H Q=>(∃ i,xs=[.int i]/\Q (.int i) H)\/∃ k,xs=[.bl k]/\Q (.int (if k then 1 else 0)) H):=by intro ak s aj H xs us Q I r h;rcases h with ⟨i,rfl,q⟩ | ⟨k,rfl,q⟩;obtain ⟨u,rfl,t,rfl⟩:=nM r;exact call_int_int ⟨.int i,H,I,⟨_,rfl⟩,q⟩;obtain ⟨u,rfl,r1⟩:=nM r;cases r1;exact call_int_bool ⟨.int (if k then 1 else 0),H,I.tok _,⟨_,rfl⟩,q⟩
theorem aiZ:jz X (.builtin "divmod") (λxs H Q=>∃ i j,xs=[.int i,.int j]/\ahO i j/\∀ p,H p=none->Q (.ref p) (upd H p (.tup [.int (i / j),.int (i % j)]))):=by intro ak s aj H xs us Q I r h;obtain ⟨i,j,rfl,⟨h1,h2⟩,q⟩:=h;obtain ⟨u,w',rfl,⟨t,rfl⟩,⟨t',rfl⟩⟩:=rR r;refine divmod_int (by omega) ?_ (.inl (PyProof.noPylong_small (by omega)));rw [acY i (by omega),abh i (by omega)];have hn:H s.heap.objs.size=none:=I.hok.fresh (bB _);refine ⟨.ref s.heap.objs.size,_,?_,rfl,q _ hn⟩;refine I.laid (λb o e=>cj _ e) (bB _) ⟨by simp only [jY,Ci]; rw [dZ]; decide,[.int (i / j) s.toks,.int (i % j) (s.toks+1)],.cons ⟨_,rfl⟩ (.cons ⟨_,rfl⟩ .nil),?_⟩;exact ⟨_,fU s.heap rfl,rfl,⟨0,rfl⟩,rfl⟩
structure T8(h:bD)(x dx C:au)(mA:Str->Option aB):Prop where
 obj:h.get? x=some (ZW C dx)
 ns:h.Ns1 dx mA
 ne:dx≠x
variable{dx:au}{mA:Str->Option aB}
theorem amZ(n:h.Ns1 dx mA):∃ od,h.get? dx=some od/\∀ name,YF name od=some (mA name):=by obtain ⟨o,es,ep,ho,hd,hk,_,hm⟩:=n;refine ⟨o,ho,λname=>?_⟩;have e:=hm name;unfold nsFind findBy at e;rw [<- Array.find?_toList] at e;unfold YF;rw [hd];dsimp only;split;rename_i y q;rw [q] at e;exact fG some e;rename_i q;rw [q] at e;have a:es.toList.any (·.refKey)=false:=(by rw [List.any_eq_false];intro y hy;obtain ⟨z,t,hkey⟩:=hk y (Kz.mp hy);simp [DictEntry.refKey,hkey]);have a':¬ es.toList.any (·.refKey)=true:=(by rw [a]; exact gO);rw [aV a'];exact fG some e
variable{C:au}
theorem T8.look{x:au}(I:T8 h x dx C mA):∃ od,PySem.W.InstAt h x (ZW C dx) C (some od)/\∀ name,YF name od=some (mA name) :=
 let ⟨od,ho,hl⟩:=amZ I.ns
 ⟨od,⟨I.obj,rfl,rfl,ho⟩,hl⟩
theorem sI.some_of{o:Option aB}(r:sI (some v) o):∃ u,o=some u/\cI v u:=by cases o with| none=>exact (show False from r).elim| some u=>exact ⟨u,rfl,r⟩
variable{a:au}
theorem aiT{fs:List (Str × V)}(hok:eG P w H h)(e:H a=some (.ins C dx fs)):∃ mA,T8 h a dx C mA/\(∀ f,sI (fs.lookup f) (mA f))/\PySem.Within mA (fs.map (·.1))/\fs.length<=1000/\H dx=some (.own a):=by obtain ⟨d,z,ne,ob,mA,n,r,q⟩:=(show gV P w H h a (.ins C dx fs) from hok a _ e);exact ⟨mA,⟨ob,n,ne⟩,r,q,z,d⟩
structure Cls(K:cH)(C:au):Prop where
 pg:PySem.W.plainGet K C Str.empty=true
 hd:PySem.W.hasDictIn K C=true
 po:PySem.W.plainOver K C=true
 sa:Bl K (.ref C) "__setattr__" = some (some (.builtin "object.__setattr__"))
theorem Cls.get(c:Cls K C)(f:Str):PySem.W.plainGet K C f=true:=c.pg
section
variable{X:Cx}{ak:List (au × Obj)}{aj:St}{H:Hp}{s:aH}{A:iw}{E:aB->aH->Prop}{Q:aB->aH->Prop}{c:aB}{b:Bool}
inductive tX(K:cH)(H:Hp):V->aB->Prop where
 | non:tX K H .non (.type "NoneType")
 | bl (x:Bool):tX K H (.bl x) (.type "bool")
 | int (i:Int):tX K H (.int i) (.type "int")
 | str (x:Str):tX K H (.str x) (.type "str")
 | flt (x:UInt64):tX K H (.flt x) (.type "float")
 | lst {a:au} {xs:List V} (e:H a=some (.lst xs)):tX K H (.ref a) (.type "list")
 | qP {a:au} {o:Obj} {xs:List V} (e:H a=some (.qP o (.lst xs))):tX K H (.ref a) (.type "list")
 | tup {a:au} {xs:List V} (e:H a=some (.tup xs)):tX K H (.ref a) (.type "tuple")
 | dK {a:au} {kvs:List (Key × V)} (e:H a=some (.dK kvs)):tX K H (.ref a) (.type "dict")
 | dT {a:au} {kvs:List (List Key × V)} (e:H a=some (.dT kvs)):tX K H (.ref a) (.type "dict")
 | ins {a C dx:au} {fs:List (Str × V)} (e:H a=some (.ins C dx fs)) (cl:Cls K C) (ha:Bl K (.ref C) "__class__" = some (some (.builtin "object.__class__")))
     (hn:PySem.W.specialIn K (.builtin "object.__class__") "__get__" = some (some (.builtin "getset_descriptor.__get__"))) (htk:PySem.W.takesIn K (.builtin "object.__class__")=some true)
     (hm:PL K C (.type "object")=some true):tX K H (.ref a) (.ref C)
theorem anJ{t:aB}(I:Inv X ak aj H s)(rx:cI x u)(ty:tX X.K H x t)(e:kh X.K t c=some b)(h:∀ tk,Q (.bool b) { s with toks:=tk }): aF (aR X.prog X.w) A (call (.builtin "isinstance") [u,c]) Q E s:=by cases ty with| non=>cases (show u=fM from rx); exact xu PySem.W.kitx_none I.lO rF e (λz=>nomatch z) h| bl y=>cases (show u=xX y from rx); exact xu PySem.W.kitx_bool I.lO rF e (λz=>nomatch z) h| int i=>obtain ⟨t,q⟩:=(show ∃ t,u=xH i t from rx); cases q; exact xu PySem.W.kitx_int I.lO rF e (λz=>nomatch z) h| str y=>obtain ⟨t,q⟩:=(show ∃ t,u=DY y t from rx); cases q; exact xu PySem.W.kitx_str I.lO rF e (λz=>nomatch z) h| flt y=>obtain ⟨t,q⟩:=(show ∃ t,u=Value.float y t from rx); cases q; exact xu PySem.W.kitx_float I.lO rF e (λz=>nomatch z) h| @lst a xs ea =>cases (show u=bI a from rx);obtain ⟨_,_,n,_,h1⟩:=(show gV X.prog X.w H s.heap a (.lst xs) from I.hok a _ ea);exact xu aao I.lO ⟨_,h1,rfl⟩ e (λz=>nomatch z) h| @qP a ob xs ea =>cases (show u=bI a from rx);obtain ⟨_,_,_,n,_,h1⟩:=(show gV X.prog X.w H s.heap a (.qP ob (.lst xs)) from I.hok a _ ea);exact xu aao I.lO ⟨_,h1,rfl⟩ e (λz=>nomatch z) h| @tup a xs ea =>cases (show u=bI a from rx);obtain ⟨_,_,_,p⟩:=(show gV X.prog X.w H s.heap a (.tup xs) from I.hok a _ ea);obtain ⟨o,h1,h2,_⟩:=p;exact xu PySem.W.kitx_tuple I.lO ⟨o,h1,h2⟩ e (λz=>nomatch z) h| @dK a kvs ea =>cases (show u=bI a from rx);obtain ⟨_,_,vs,_,p⟩:=(show gV X.prog X.w H s.heap a (.dK kvs) from I.hok a _ ea);obtain ⟨o,es,ep,h1,h2,_⟩:=p;exact xu adu I.lO ⟨o,h1,h2.1⟩ e (λz=>nomatch z) h| @dT a kvs ea =>cases (show u=bI a from rx);obtain ⟨_,_,xs,_,o,es,ep,h1,h2,_⟩:=(show gV X.prog X.w H s.heap a (.dT kvs) from I.hok a _ ea);exact xu adu I.lO ⟨o,h1,h2.1⟩ e (λz=>nomatch z) h| @ins a C dx fs ea cl ha hn htk hm =>cases (show u=bI a from rx);obtain ⟨mA,O,_⟩:=aiT I.hok ea;obtain ⟨od,J,_⟩:=O.look;exact xu (PySem.W.kitx_own (cl.get _) cl.hd ha hn htk hm) I.lO J e (λz=>nomatch z) h
end
structure jU(k:Nat)(A:iw):Prop where
 hd:A.handled=none
 dp:A.depth+3 * k+5<recursionLimit
 un:A.units+16 * k+200<cLine
variable{j:Nat}
theorem jU.mono{k:Nat}(r:jU k A)(h:j<=k):jU j A:=⟨r.hd,by have:=r.dp; omega,by have:=r.un; omega⟩
theorem jU.deeper{k:Nat}(r:jU (k+1) A)(env:Env):jU k (A.deeper env) :=
 ⟨r.hd,by have:=r.dp; show A.depth+1+3 * k+5<_; omega,by have:=r.un; show A.units+3+16 * k+200<_; omega⟩
theorem jU.depth{k:Nat}(r:jU k A):A.depth<recursionLimit:=by have:=r.dp; omega
theorem jU.units{k:Nat}(r:jU k A):A.units+64<cLine:=by have:=r.un; omega
theorem jU.Lq{k:Nat}(r:jU k A):A.units<cLine:=by have:=r.un; omega
def W6:TA:=λ_ H Q=>Q [] H
def aah(ta:TE)(tr:TA):TA:=fun aj H Q=>ta aj H λx H1=>tr aj H1 λxs H2=>Q (x :: xs) H2
section
variable{X:Cx}{e:Expr}{es:List Expr}{te:TE}{t:TA}{pos:Pos}
theorem aC:PA X [] W6:=λ_ _ _ _ H Q I h=>Np ⟨[],H,I,.nil,h⟩
theorem aq(ha:PE X e te)(hr:PA X es t)(hs:dO (e :: es) X.env=(false,eval e X.env) :: dO es X.env:=by rfl):PA X (e :: es) (aah te t):=by intro pos ak s aj H Q I h;rw [hs];show aF _ _ (spliced ((false,eval e X.env) :: backTo pos (dO es X.env))) _ _ s;refine Hr (bL (ha ak s aj H _ I h) λu s1 ⟨x,H1,I1,r1,q1⟩=>?_);exact bL (hr pos ak s1 aj H1 _ I1 q1) λus s2 ⟨xs,H2,I2,r2,q2⟩=>⟨x :: xs,H2,I2,.cons r1 r2,q2⟩
def aea(t:TA):TE:=fun aj H Q=>t aj H λxs H1=>xs.length<=aL/\∀ p,H1 p=none->Q (.ref p) (upd H1 p (.tup xs))
def Xb(t:TA):TE:=fun aj H Q=>t aj H λxs H1=>xs.length<=aL/\∀ p,H1 p=none->Q (.ref p) (upd H1 p (.lst xs))
theorem fJ{x1}(h:PA X es t):PE X (.Tuple es x1 pos) (aea t):=by intro ak s aj H Q I hq;refine wpAny_Tuple_spliced (bL (h pos ak s aj H _ I hq) λus s1 ⟨xs,H1,I1,r,z,q⟩=>⟨by rw [<- r.length]; exact z,?_⟩);have hf:H1 s1.heap.objs.size=none:=I1.hok.fresh (bB _);refine ⟨.ref s1.heap.objs.size,upd H1 s1.heap.objs.size (.tup xs),I1.laid (t':=s1.toks) (λb u e=>cj _ e) (bB _) ?_,rfl,q _ hf⟩;exact ⟨z,us,r,⟨_,fU _ rfl,rfl,⟨_,rfl⟩,rfl⟩⟩
theorem iu(h:PA X es t):PE X (.List es pos) (Xb t):=by intro ak s aj H Q I hq;refine wpAny_List_spliced (bL (h pos ak s aj H _ I hq) λus s1 ⟨xs,H1,I1,r,z,q⟩=>⟨by rw [<- r.length]; exact z,?_⟩);have hf:H1 s1.heap.objs.size=none:=I1.hok.fresh (bB _);refine ⟨.ref s1.heap.objs.size,upd H1 s1.heap.objs.size (.lst xs),I1.laid (t':=s1.toks) (λb u e=>cj _ e) (bB _) ?_,rfl,q _ hf⟩;exact ⟨z,us,0,r,fU _ rfl⟩
end
abbrev Sp:=List V->Hp->VK->XK->Prop
abbrev zF:=List Env->Hp->aH->XK->aB->aH->Prop
structure RB(P:dX)(w:cU)(K:cH)(mg:Str->Option aB)(base:bD)(A:iw)(outer:List Env)(s:aH)(H:Hp):Prop where
 frames:A.frames=some outer
 mod:Mod K mg base
 bs:∀ b o,base.get? b=some o->s.heap.get? b=some o/\H b=none
 zM:base.objs.size<=s.heap.objs.size
 vR:s.heap.FunFrames base outer
 frf:∀ b∈frs outer,H b=none
 hok:eG P w H s.heap
 bare:yG s.gens
def CE(outer:List Env)(P:dX)(w:cU)(H:Hp)(s:aH)(Q:VK)(u:aB)(s':aH):Prop:=v9 λv H'=>uf (s'.os=s.os) (yG s'.gens) (Un (frs outer) [] H H' s.heap s'.heap) (eG P w H' s'.heap) (cI v u) (Q v H')
def CR(CX:zF)(outer:List Env)(P:dX)(w:cU)(H:Hp)(s:aH)(Q:VK)(E:XK)(r:xO)(s':aH):Prop :=
 match r with
 | .ok (.ret u)=>CE outer P w H s Q u s'
 | .ok _=>False
 | .error e=>CX outer H s E e s'
structure bM(P:dX)(w:cU)(K:cH)(mg:Str->Option aB)(base:bD)(CX:zF)(k:Nat)(f:au)(fd:oA)(ps:List Str)(sp:Sp):Prop where
 len:∀ vs H Q E,sp vs H Q E->vs.length=ps.length
 run:∀(A:iw)(outer:List Env)(s:aH)(H:Hp)(args:Args)(us:List aB)(vs:List V)(Q:VK)(E:XK),jU k A->RB P w K mg base A outer s H->FJ s fd args (ps.zip us)->bY vs us->sp vs H Q E ->
   kI (aR P w) A (.call (.ref f) args) (CR CX outer P w H s Q E) s
variable{mg:Str->Option aB}{base:bD}{CX:zF}{f:au}{fd:oA}{ps:List Str}{sp:Sp}
theorem bM.mono{k:Nat}(F:bM P w K mg base CX j f fd ps sp)(h:j<=k):
   bM P w K mg base CX k f fd ps sp:=⟨F.len,λA outer s H args us vs Q E hr=>F.run A outer s H args us vs Q E (hr.mono h)⟩
theorem Inv.env0(I:Inv X ak aj H s):RB X.prog X.w X.K X.mg X.base X.A X.stack s H :=
 ⟨I.ok.frames,I.ok.mod,I.bs,gw I.ok.zM I.sz,I.stack,I.PK,I.hok,I.bare⟩
theorem Inv.after(I:Inv X ak aj H s)(h:CE X.stack X.prog X.w H s Q u s'):EP X ak aj Q u s':=by obtain ⟨v,H',os,bare,un,hok,r,q⟩:=h;obtain ⟨hh,g,d,t,os'⟩:=s';obtain rfl:os'=s.os:=os;exact ⟨v,H',I.call (h':=hh) (g':=g) (d':=d) (t':=t) (ch:=[]) un hok bare (λb z=>bK z (by simp)),r,q⟩
def Nh(sp:Sp)(oJ:List V)(E:XK)(t:TA):TE:=fun aj H Q=>t aj H λvs H1=>sp (vs++oJ) H1 Q E
def dw(K:cH)(fd:oA)(ps:List Str)(ds:List aB):Prop :=
 ∀(s:aH)(us:List aB),K.In s.heap->(us++ds).length=ps.length->FJ s fd ⟨us,[]⟩ (ps.zip (us++ds))
theorem dw.all(h:∀ us:List aB,us.length=ps.length->bindArgs fd ⟨us,[]⟩=pure (ps.zip us)):dw K fd ps []:=λs us _ hl=>by
 rw [yJ] at hl |-;exact .of_eq (h us hl)
def Passes(CX:zF)(X:Cx)(E:XK):Prop:=∀(ak:List (au × Obj))(aj:St)(H:Hp)(s:aH)(e:aB)(s':aH),Inv X ak aj H s->CX X.stack H s E e s'->X.xe e s'
variable{vs oJ:List V}{ds:List aB}{E:XK}
theorem ajS{k:Nat}(F:bM X.prog X.w X.K X.mg X.base CX k f fd ps sp)(hr:jU k X.A)(hb:dw X.K fd ps ds)(hd:bY oJ ds)(hx:Passes CX X E)(I:Inv X ak aj H s)(r:bY vs us)(h:sp (vs++oJ) H Q E):aF (aR X.prog X.w) X.A (call (.ref f) us) (EP X ak aj Q) X.xe s:=by have r2:bY (vs++oJ) (us++ds):=r.append hd;have hl:(us++ds).length=ps.length:=(by rw [<- r2.length]; exact F.len _ _ _ _ h);refine Gm (uD (F.run X.A X.stack s H ⟨us,[]⟩ (us++ds) (vs++oJ) Q E hr I.env0 (hb s us I.lO hl) r2 h) λr s' hq=>?_);cases r with| error e=>exact hx ak aj H s e s' I hq| ok fl =>cases fl with| ret u=>exact I.after hq| next=>exact qp hq| brk=>exact qp hq| cont=>exact qp hq
variable{x:Str}
theorem JQ{k:Nat}{t:TA}(F:bM X.prog X.w X.K X.mg X.base CX k f fd ps sp)(hr:jU k X.A)(hg:Gl X x)(hm:X.mg x=some (.ref f))(hk:vY X.K (.ref f)=true)(hb:dw X.K fd ps ds)(hd:bY oJ ds)(hx:Passes CX X E)(ha:PA X (e :: es) t)(hdb:(x == ("__debug__" : Str))=false:=by decide)(he:dO (e :: es) X.env=(false,eval e X.env) :: dO es X.env:=by rfl)(hpl:(backTo pos (dO es X.env)).any (·.1)=false:=by rfl):
   PE X (.Call (.Name x p) (e :: es) [] pos) (Nh sp oJ E t):=by
 intro ak s aj H Q I h;refine Ny (KQ I hg hm ?_ hdb);refine aga (h₀:=X.base) I.ok.mod.kin hk (bL (ha pos ak s aj H _ I h) λus s1 ⟨vs,H1,I1,r,q⟩=>⟨I1.lO,?_⟩) he hpl;exact ajS F hr hb hd hx I1 r q
structure fB(N P:List Str)(sc:Scope):Prop where
 kind:sc.kind=.function
 co:sc.isCoroutine=false
 gen:sc.isGenerator=false
 nd:N.Nodup
 pre:N.take P.length=P
 par:∀ x∈P,sc.names.lookup x=some .local\/sc.names.lookup x=some .cell
 aij:∀ y∈sc.names,y.2≠.free
variable{sc:Scope}
theorem gA{P:List Str}(a:sc.kind=.function:=by rfl)(b:sc.isCoroutine=false:=by rfl)(c:sc.isGenerator=false:=by rfl)(d:N.Nodup:=by decide +kernel)(e:N.take P.length=P:=by rfl)(f:∀ x∈P,sc.names.lookup x=some .local\/sc.names.lookup x=some .cell:=by decide +kernel)(g:∀ y∈sc.names,y.2≠.free:=by decide +kernel):fB N P sc:=⟨a,b,c,d,e,f,g⟩
theorem acT{kindOf:Str->Option uR}{x:Str}:∀{binds:List (Str × aB)}{m:Str->Option aB},(∀ v,(x,v) ∉ binds)->bindL kindOf binds m x=m x
 | [],_,_=>rfl
 | (n,v) :: r,m,h=>by unfold bindL;rw [acT λw hw=>h w (dD _ hw)];split;have:x≠n:=(by rintro rfl; exact h v dg);simp [this];rfl
theorem abn{kindOf:Str->Option uR}{x:Str}:∀{binds:List (Str × aB)}{m:Str->Option aB},(∀ v,(x,v) ∉ binds)->bindC kindOf binds m x=m x
 | [],_,_=>rfl
 | (n,v) :: r,m,h=>by unfold bindC;rw [abn λw hw=>h w (dD _ hw)];split;rfl;have:x≠n:=(by rintro rfl; exact h v dg);simp [this]
theorem afJ{kindOf:Str->Option uR}{x:Str}{v:aB}:∀{P:List Str}{vs:List aB}{i:Nat}{m:Str->Option aB},P.Nodup->P[i]?=some x->vs[i]?=some v->kindOf x=some .local ->
   bindL kindOf (P.zip vs) m x=some v
 | [],_,_,_,_,h,_,_=>by simp at h
 | _ :: _,[],_,_,_,_,h,_=>by simp at h
 | p :: P,w :: vs,0,m,nd,h1,h2,hk=>by simp at h1 h2; subst h1; subst h2;show bindL kindOf ((p,w) :: P.zip vs) m p=_;unfold bindL;rw [acT λv hv=>(uG.mp nd).1 (ZS hv).1,bh hk];simp
 | p :: P,w :: vs,i+1,m,nd,h1,h2,hk=>by show bindL kindOf ((p,w) :: P.zip vs) m x=_;unfold bindL;exact afJ (i:=i) (uG.mp nd).2 (by simpa using h1) (by simpa using h2) hk
theorem abb{kindOf:Str->Option uR}{x:Str}{v:aB}:∀{P:List Str}{vs:List aB}{i:Nat}{m:Str->Option aB},P.Nodup->P[i]?=some x->vs[i]?=some v->kindOf x≠some .local ->
   bindC kindOf (P.zip vs) m x=some v
 | [],_,_,_,_,h,_,_=>by simp at h
 | _ :: _,[],_,_,_,_,h,_=>by simp at h
 | p :: P,w :: vs,0,m,nd,h1,h2,hk=>by simp at h1 h2; subst h1; subst h2;show bindC kindOf ((p,w) :: P.zip vs) m p=_;unfold bindC;rw [abn λv hv=>(uG.mp nd).1 (ZS hv).1,aV hk];simp
 | p :: P,w :: vs,i+1,m,nd,h1,h2,hk=>by show bindC kindOf ((p,w) :: P.zip vs) m x=_;unfold bindC;exact abb (i:=i) (uG.mp nd).2 (by simpa using h1) (by simpa using h2) hk
def start(N:List Str)(vs:List V):St:=vs.map some++jF (N.length-vs.length) none
def wK(CX:zF)(P:dX)(w:cU)(K:cH)(mg:Str->Option aB)(base:bD)(N:List Str)(qual:Str)(scope:Scope)(f:au)(cd:aB)(A:iw)(outer:List Env)(s:aH)(H:Hp)(E:XK):Cx where
 prog:=P
 w:=w
 K:=K
 mg:=mg
 base:=base
 A:=A.deeper (envOfC qual scope s.heap.objs.size f cd)
 N:=N
 s₀:=s
 H₀:=H
 env:=envOfC qual scope s.heap.objs.size f cd
 outer:=outer
 stack:=envOfC qual scope s.heap.objs.size f cd :: outer
 ex:=[]
 calm:=true
 fn:=λ_=>true
 pn:=[]
 xe:=λe s'=>aF (aR P w) (A.deeper (envOfC qual scope s.heap.objs.size f cd)) (leaving (envOfC qual scope s.heap.objs.size f cd) e) (λ_ s''=>CX outer H s E e s'') (λe' s''=>CX outer H s E e' s'') s'
theorem Uq(h:sc.names.lookup x=some .cell):∃ c,(cellsFrom n sc.names []).lookup x=some c:=by have q:=adn sc.names n [] (.inl h);exact GD.mp q
variable{qual:Str}{scope:Scope}
theorem aja{cd:aB}{outer:List Env}{s1:aH}(S:fB N ps scope)(hd:A.handled=none)(e0:RB P w K mg base A outer s H)(hl:vs.length=ps.length)(r:bY vs us)(x:InCallC s s.heap.objs.size (bindL (envOfC qual scope s.heap.objs.size f cd).kindOf (ps.zip us) λ_=>none) (cellsFrom (s.heap.objs.size+1) scope.names []) (bindC (envOfC qual scope s.heap.objs.size f cd).kindOf (ps.zip us) λ_=>none) s1): Inv (wK CX P w K mg base N qual scope f cd A outer s H E) [] (start N vs) H s1:=by have hpl:ps.length<=N.length:=(by have:=fG rJ S.pre; rw [eY] at this; omega);obtain ⟨h1,tk,rfl,hk⟩:=x.done;have noA:∀ b:au,b ∉ (wK CX P w K mg base N qual scope f cd A outer s H E).ex:=λb z=>bK (show b∈([]:List au) from z) (by simp);refine ⟨⟨e0.mod,S.kind,rfl,rfl,bB _,λy z c h1 h2=>?_,λy hy=>?_,λy c _ h=>?_,λ_=>hd,Around.frames_deeper e0.frames,.inr ⟨rfl,rfl⟩,λb z=>bK z (noA b),e0.bs,e0.zM,λb _ _=>noA b,λb z=>bK z (noA b),e0.vR,e0.frf⟩,rfl,e0.bare,Un.kept hk,⟨_,x.toInCall.ns,λi y v h1 h2 h3=>?_⟩,λy c h=>⟨_,x.cell y c h⟩,e0.hok.fresh (bB _),λy c h=>?_,λp hp=>bK (show p∈([]:List (au × Obj)) from hp) (by simp),e0.hok.kept hk,?_⟩;exact name_of_addr x.apart (Cw h1) (Cw h2);have hy:scope.names.lookup y=some .cell\/scope.names.lookup y=some .free:=hy;rcases hy with hy | hy;exact Uq hy;exact bK rfl (S.aij _ (Cw hy));exact tH (x.above y c (Cw h));have hi:i<vs.length:=(by unfold start at h2;by_cases hi:i<vs.length;exact hi;rw [Cv (by simpa using hi)] at h2;rw [List.getElem?_replicate] at h2;split at h2 <;> cases h2);have ha:vs[i]?=some v:=(by unfold start at h2;rw [Dm (by simpa using hi),cX] at h2;cases e:vs[i]? with| none=>rw [e] at h2; cases h2| some a=>rw [e] at h2; cases h2; rfl);obtain ⟨u,hu,rv⟩:=r.get ha;have hp:ps[i]?=some y:=(by rw [<- S.pre,List.getElem?_take_of_lt (by omega)]; exact h1);have ndP:ps.Nodup:=(by rw [<- S.pre]; exact S.nd.sublist (yS _ _));refine ⟨u,rv,?_⟩;rcases S.par y (dB hp) with k | k;exact .inl ⟨k,afJ ndP hp hu k⟩;obtain ⟨c,e⟩:=Uq (n:=s.heap.objs.size+1) k;refine .inr ⟨.inl k,c,e,?_⟩;have q:=x.cell y c e;rw [abb ndP hp hu (by show scope.names.lookup y≠_; rw [k]; decide)] at q;exact q;exact e0.hok.fresh (tH (x.above y c (Cw h)));unfold start;show _=N.length;rw [cQ,aU,Jj];omega
variable{doc pm cdv ct oc:aB}{an od:Option au}{osl:Array (Option aB)}
theorem adU{k:Nat}{name:Str}{kV:aB}(lk:K.lookup f=some ⟨oc,od,.func (xP name qual params body scope dV kV doc pm an cdv ct),osl⟩)(hcd:Yr K cdv qual=true)(S:fB N ps scope)(len:∀ vs H Q E,sp vs H Q E->vs.length=ps.length)(hbody:∀(A:iw)(outer:List Env)(s:aH)(H:Hp)(vs:List V)(Q:VK)(E:XK),jU k (A.deeper (envOfC qual scope s.heap.objs.size f cdv))->sp vs H Q E -> ∃ t,qD (wK CX P w K mg base N qual scope f cdv A outer s H E) body t/\t { nx:=λ_ H'=>Q .non H',rt:=Q } (start N vs) H): bM P w K mg base CX (k+1) f (xP name qual params body scope dV kV doc pm an cdv ct) ps sp:=by refine ⟨len,λA outer s H args us vs Q E hr e0 hb r hsp=>?_⟩;have hl:=len _ _ _ _ hsp;have KX:K.In s.heap:=e0.mod.kin.keeps λb o e=>(e0.bs b o e).1;have lim:s.heap.NoLimit:=e0.mod.nolimit.keeps λb o e=>(e0.bs b o e).1;have hkind:∀ y∈ps.zip us,scope.names.lookup y.1=some .local\/(scope.names.lookup y.1=some .cell/\((cellsFrom (s.heap.objs.size+1) scope.names []).lookup y.1).isSome=true):=λ⟨n,v⟩ hy=>(by rcases S.par n (ZS hy).1 with q | q;exact .inl q;exact .inr ⟨q,adn _ _ _ (.inl q)⟩);refine codeAny_call_function hr.depth (KX _ _ lk) rfl S.co S.gen rfl (PySem.W.codeRec_of KX hcd) (hb _ _ _ _ ?_);refine wpAny_newFunctionEnv_cells S.kind hkind λenv he s1 x=>?_;subst he;refine ⟨lim.keeps x.toInCall.keep,codeAny_func ?_⟩;obtain ⟨t,ht,hq⟩:=hbody A outer s H vs Q E (hr.deeper _) hsp;have I:Inv (wK CX P w K mg base N qual scope f cdv A outer s H E) [] (start N vs) H s1:=aja S hr.hd e0 hl r x;refine ju (ht [] s1 (start N vs) H _ I hq) (λfl s' hs=>?_) λe s' hs=>hs;have fin:∀{bJ:St}{H':Hp}{v:V}{u:aB},Inv (wK CX P w K mg base N qual scope f cdv A outer s H E) [] bJ H' s'->cI v u->Q v H'->CE outer P w H s Q u s' := λ{bJ H' v u} J rv q=>⟨v,H',J.os,J.bare,J.base,J.hok,rv,q⟩;cases fl with| ret u =>obtain ⟨v,bJ,H',J,rv,q⟩:=hs;exact fin J rv q| next =>obtain ⟨bJ,H',J,q⟩:=hs;exact fin (v:=V.non) (u:=fM) J rfl q| brk =>obtain ⟨_,_,_,q⟩:=hs;exact qp q| cont =>obtain ⟨_,_,_,q⟩:=hs;exact qp q
section
variable{X:Cx}{x:Str}{p pos:Pos}{e:Expr}{es:List Expr}{t:TA}{id T:String}{r:List V->Hp->VK->Prop}
def tCB(r:List V->Hp->VK->Prop)(t:TA):TE:=fun aj H Q=>t aj H λvs H1=>r vs H1 Q
theorem cR(hc:jz X (.builtin id) r)(hg:Gl X x)(hm:X.mg x=none)(hv:bootBuiltins x=some (.builtin id))(ha:PA X (e :: es) t)(hn:x≠"__name__":=by decide)(hdb:(x == ("__debug__" : Str))=false:=by decide)(he:dO (e :: es) X.env=(false,eval e X.env) :: dO es X.env:=by rfl)(hpl:(backTo pos (dO es X.env)).any (·.1)=false:=by rfl):PE X (.Call (.Name x p) (e :: es) [] pos) (tCB r t):=by
 intro ak s aj H Q I h;refine Ny (Dl I hg hm hv ?_ hn hdb);exact PyProof.Rows.callWith_builtin1 (bL (ha pos ak s aj H _ I h) λus s1 ⟨vs,H1,I1,r1,q1⟩=>hc ak s1 aj H1 vs us Q I1 r1 q1) he hpl
theorem jx(hc:jz X (.type T) r)(hg:Gl X x)(hm:X.mg x=none)(hv:bootBuiltins x=some (.type T))(ha:PA X (e :: es) t)(hn:x≠"__name__":=by decide)(hdb:(x == ("__debug__" : Str))=false:=by decide)(he:dO (e :: es) X.env=(false,eval e X.env) :: dO es X.env:=by rfl)(hpl:(backTo pos (dO es X.env)).any (·.1)=false:=by rfl):PE X (.Call (.Name x p) (e :: es) [] pos) (tCB r t):=by
 intro ak s aj H Q I h;refine Ny (Dl I hg hm hv ?_ hn hdb);exact Ms (bL (ha pos ak s aj H _ I h) λus s1 ⟨vs,H1,I1,r1,q1⟩=>hc ak s1 aj H1 vs us Q I1 r1 q1) he hpl
end
namespace HT
open PySem PyProof.Rows
section
open PySem.SeqAt
open PySem.AutoSeq1 (wpAny_loadPart')
open PySem.MeetsSeq PySem.MeetsSeq2 PySem.MeetsSeq3
end
variable{E:aB->aH->Prop}
theorem alq{t b:au}{vs ws:List aB}{Q:aB->aH->Prop}(ht:qR s.heap t vs.toArray)(hb:qR s.heap b ws.toArray)(hv:vs≠[])(h1:ws=[]->Q (.ref t) s)(h2:ws≠[]->Q (.ref s.heap.objs.size) { s with heap:=s.heap.push { cls:=.type "tuple",data:=.seq (vs++ws).toArray } })(hsz:vs.length+ws.length<=aL):aF (aR prog w) A (j6 .Add (.ref t) (.ref b)) Q E s:=by obtain ⟨⟨cls,dd,data,sl⟩,ho,hc,n,hd⟩:=id ht;obtain ⟨⟨cls2,dd2,data2,sl2⟩,ho2,hc2,n2,hd2⟩:=id hb;simp only at hc hd hc2 hd2;subst hc hd hc2 hd2;have e:vs.toArray++ws.toArray=(vs++ws).toArray:=(by simp);by_cases hw:ws=[];exact Yt ⟨_,ho,rfl⟩ ⟨_,ho2,rfl⟩ Xu Tp aaf WD (Us _ _) (tuple_addW1 t b vs.toArray ws.toArray n n2 dd dd2 sl sl2 (by simpa using hv) (by simp [hw])) ⟨ho,ho2,h1 hw⟩;refine Yt ⟨_,ho,rfl⟩ ⟨_,ho2,rfl⟩ Xu Tp aaf WD (Us _ _) (tuple_addW2 t b vs.toArray ws.toArray n n2 dd dd2 sl sl2 (by simpa using hv) (by simpa using hw) (by rw [gH,gH]; exact hsz)) ⟨ho,ho2,?_⟩;rw [e];exact h2 hw
def cA(n d:Nat):Option Int->Nat
 | none=>d
 | some v=>if v<0 then (v+(n:Int)).toNat else min v.toNat n
theorem Q6(n d:Nat):cA n d none=d:=rfl
theorem wA(n d k:Nat):cA n d (some (k:Int))=min k n:=by show (if (k:Int)<0 then ((k:Int)+(n:Int)).toNat else min (k:Int).toNat n)=min k n;rw [aV (by omega),rT]
theorem alV(n d:Nat)(hd:d<=n)(o:Option Int):cA n d o<=n:=by cases o with| none=>exact hd| some v =>show (if v<0 then (v+(n:Int)).toNat else min v.toNat n)<=n;by_cases hv:v<0;rw [bh hv]; omega;rw [aV hv]; exact YQ _ _
theorem acr(v:Int)(n d:Nat):(if v<0 then max (v+(n:Int)) 0 else min v (n:Int))=((cA n d (some v):Nat):Int):=by show (if v<0 then max (v+(n:Int)) 0 else min v (n:Int))=(((if v<0 then (v+(n:Int)).toNat else min v.toNat n):Nat):Int);by_cases hv:v<0;simp only [bh hv]; omega;simp only [aV hv]; omega
theorem aiq(lo hi:Option Int)(n:Nat):XF lo hi 1 (n:Int)=(((cA n 0 lo:Nat):Int),((cA n n hi:Nat):Int)):=by have h1:¬ ((1:Int)<0):=(by omega);unfold XF;simp only [h1,if_false];refine wz ?_ ?_;(cases lo with| none=>rfl| some v=>exact acr v n 0);cases hi with| none=>rfl| some v=>exact acr v n n
theorem akC(i j:Nat):DQ (i:Int) (j:Int) 1=j-i:=by unfold DQ;have h1:(1:Int) > 0:=(by omega);simp only [h1,if_true,Uu];split <;> omega
theorem Mj{v:aB}{o:Option Int}{Q:Option Int->aH->Prop}(p:wX v o)(h:Q o s):aF (aR prog w) A (Builtin.Slice.slicePartIndex v) Q E s:=by cases p with| none=>exact slicePart_none h| int i t=>exact slicePart_int h
variable{sl:au}{vl vu:aB}
theorem abS{lo hi:Option Int}{Q:Int × Int × Nat->aH->Prop}(hs:s.heap.IsSliceOf sl vl vu .none)(pl:wX vl lo)(pu:wX vu hi)(h:Q (((cA n 0 lo:Nat):Int),1,cA n n hi-cA n 0 lo) s):aF (aR prog w) A (QS (.ref sl) (pure (n:Int))) Q E s:=by obtain ⟨os,hos,hcs,hds⟩:=id hs;unfold QS aaz;refine aA (aA (lU hos hds (x:=vl) rfl (aA (lU hos hds (x:=vu) rfl (aA (lU hos hds (x:=.none) rfl (aO ?_)))))));refine aA (slicePart_none ?_);show aF _ _ (if ((1:Int) == 0)=true then _ else _) _ _ s;rw [aV (by decide)];refine aA (Mj pl (aA (Mj pu (aA (aO ?_)))));show aF _ _ (match XF lo hi 1 (n:Int) with | (lo,hi)=>pure (lo,(1:Int),DQ lo hi 1)) _ _ s;rw [aiq lo hi n];show aF _ _ (pure (((cA n 0 lo:Nat):Int),(1:Int),DQ ((cA n 0 lo:Nat):Int) ((cA n n hi:Nat):Int) 1)) _ _ s;rw [akC];exact aO h
theorem alR(xs:Array aB)(i k:Nat):((cY k).filterMap λ(m:Nat)=>xs[((i:Int)+(m:Int) * 1).toNat]?).toArray=((xs.toList.drop i).take k).toArray:=by have e:(λ(m:Nat)=>xs[((i:Int)+(m:Int) * 1).toNat]?)=λm=>xs[i+m]?:=(by funext m;have:((i:Int)+(m:Int) * 1).toNat=i+m:=(by omega);rw [this]);rw [e];have:=pick_run xs i k;rw [W9] at this;have e2:((λx=>xs[x]?)∘λx=>i+x)=λm=>xs[i+m]?:=rfl;rw [e2] at this;rw [this]
theorem amE{t:au}{lo hi:Option Int}{Q:aB->aH->Prop}(ht:qR s.heap t items)(hs:s.heap.IsSliceOf sl vl vu .none)(pl:wX vl lo)(pu:wX vu hi)(hw:¬ (cA items.size 0 lo=0/\cA items.size items.size hi=items.size))(h:Q (.ref s.heap.objs.size) { s with heap:=s.heap.push { cls:=.type "tuple",data:=.seq ((items.toList.drop (cA items.size 0 lo)).take (cA items.size items.size hi-cA items.size 0 lo)).toArray } })(hsz:items.size<=aL):aF (aR prog w) A (getItem (.ref t) (.ref sl)) Q E s:=by
 have Rj:sizeOk (.seq ((items.toList.drop (cA items.size 0 lo)).take (cA items.size items.size hi-cA items.size 0 lo)).toArray):=by
   show ((items.toList.drop (cA items.size 0 lo)).take (cA items.size items.size hi-cA items.size 0 lo)).toArray.size<=aL;rw [gH,eY,pJ,iZ];omega
 have hj:cA items.size items.size hi<=items.size:=alV _ _ (bB _) hi;obtain ⟨os,hos,hcs,hds⟩:=id hs;have hTs:s.TypeIs (.ref sl) "slice":=⟨os,hos,hcs⟩;unfold getItem
 try with_reducible refine iR ?_
 first | refine aA (aO ?_) | skip
 refine aA (Wr ht.typeIs (by decide) ?_)
 refine aA (wg (name:=wD "__getitem__") ht.typeIs Ip
   (m5 Ip ht.typeIs abU ?_ (ad2 _ _)))
 show aF _ _ (Ux (.ref t) >>= _) _ _ s;refine aA (tupleItemsOf_ ht ?_);refine aA (Ab hTs ?_);rw [bh (by decide)];refine aA (abS hs pl pu ?_)
 have hno:¬ ((((cA items.size 0 lo:Nat):Int) == 0 && (1:Int) == 1 && (cA items.size items.size hi-cA items.size 0 lo) == items.size)=true):=by
   intro q;rw [CZ,CZ] at q;have q1:((cA items.size 0 lo:Nat):Int)=0:=eq_of_beq q.1.1;have q2:cA items.size items.size hi-cA items.size 0 lo=items.size:=eq_of_beq q.2;exact hw ⟨by omega,by omega⟩
 show aF _ _ (if (((cA items.size 0 lo:Nat):Int) == 0 && (1:Int) == 1 && (cA items.size items.size hi-cA items.size 0 lo) == items.size)=true then _ else _) _ _ s;rw [aV hno,alR]
 first
   | exact aA (m:=Bj _) (jT (aO ⟨_,rfl,aO h⟩) Rj)
   | exact aA (m:=Bj _) (jT (aA (aO (aO ⟨_,rfl,aO h⟩))) Rj)
   | exact aA (aA (m:=Bj _) (jT (aO (aO ⟨_,rfl,aO h⟩)) Rj))
   | exact aA (aA (m:=Bj _) (jT (aO ⟨_,rfl,aO h⟩) Rj))
end HT
abbrev TO:=St->Hp->(Option Int->Hp->Prop)->Prop
def PO(X:Cx)(e:Option Expr)(t:TO):Prop :=
 ∀(ak:List (au × Obj))(s:aH)(aj:St)(H:Hp)(Q:Option Int->Hp->Prop),Inv X ak aj H s->t aj H Q ->
   aF (aR X.prog X.w) X.A (evalPart e X.env) (λu s'=>∃ o H',Inv X ak aj H' s'/\wX u o/\Q o H') X.xe s
def aed:TO:=λ_ H Q=>Q none H
section
variable{X:Cx}{e:Expr}{te:TE}{lo hi:Option Expr}{tl th:TO}{pos p2:Pos}
theorem mC:PO X none aed:=by intro ak s aj H Q I h;rw [Ot];exact aO ⟨none,H,I,.none,h⟩
def SlR(X:Cx)(r:V->Option Int->Option Int->Hp->VK->Prop):Prop :=
 ∀(ak:List (au × Obj))(s:aH)(aj:St)(H:Hp)(x:V)(v vl vu:aB)(lo hi:Option Int)(sl:au)(Q:VK),Inv X ak aj H s->cI x v->s.heap.IsSliceOf sl vl vu .none->wX vl lo->wX vu hi->r x lo hi H Q ->
   ∃ T id,typeLookup (.type T) "__getitem__" = pure (some (.builtin id))/\s.TypeIs v T/\aF (aR X.prog X.w) X.A (getItem v (.ref sl)) (EP X ak aj Q) X.xe s
def tSl(r:V->Option Int->Option Int->Hp->VK->Prop)(te:TE)(tl th:TO):TE:=fun aj H Q=>te aj H λx H1=>tl aj H1 λl H2=>th aj H2 λu H3=>r x l u H3 Q
theorem jZ{r:V->Option Int->Option Int->Hp->VK->Prop}(hr:SlR X r)(he:PE X e te)(hl:PO X lo tl)(hu:PO X hi th):PE X (.Subscript e (.Slice lo hi none p2) pos) (tSl r te tl th):=by intro ak s aj H Q I h;refine Je (bL (he ak s aj H _ I h) λv s1 ⟨x,H1,I1,r1,q1⟩=>?_);refine Tf (bL (hl ak s1 aj H1 _ I1 q1) λvl s2 ⟨l,H2,I2,pl,q2⟩=>bL (hu ak s2 aj H2 _ I2 q2) λvu s3 ⟨u,H3,I3,pu,q3⟩=>?_);rw [Ot];refine aO ?_;have I4:Inv X ak aj H3 { s3 with heap:=s3.heap.push { cls:=.type "slice",data:=.fields #[vl,vu,.none] } }:=I3.kept (t':=s3.toks) λb ob q=>cj _ q;obtain ⟨T,id,hT,ht,hg⟩:=hr ak { s3 with heap:=s3.heap.push { cls:=.type "slice",data:=.fields #[vl,vu,.none] } } aj H3 x v vl vu l u s3.heap.objs.size Q I4 r1 (Vi ..) pl pu q3;show aF (aR X.prog X.w) X.A (subscriptTail e (.Slice lo hi none p2) v (.ref s3.heap.objs.size)) (EP X ak aj Q) X.xe { s3 with heap:=s3.heap.push { cls:=.type "slice",data:=.fields #[vl,vu,.none] } };exact QW (ops:=[.ref s3.heap.objs.size,v]) ht hT hg (by with_unfolding_all rfl)
def lE(xs:List V)(lo hi:Option Int):List V:=(xs.drop (HT.cA xs.length 0 lo)).take (HT.cA xs.length xs.length hi-HT.cA xs.length 0 lo)
theorem Xo(xs:List V)(lo hi:Option Int):(lE xs lo hi).length<=xs.length:=by unfold lE;rw [eY,pJ];omega
def aiG(K:cH):V->Option Int->Option Int->Hp->VK->Prop:=λx lo hi H Q=>∃ a xs,x=.ref a/\aG K H a xs /\
 ¬ (HT.cA xs.length 0 lo=0/\HT.cA xs.length xs.length hi=xs.length)/\∀ p,H p=none->Q (.ref p) (upd H p (.tup (lE xs lo hi)))
theorem adT:SlR X (aiG X.K):=by intro ak s aj H x v vl vu lo hi sl Q I rx hs pl pu h;obtain ⟨a,xs,rfl,hx,hw,q⟩:=h;cases rx;obtain ⟨its,r,ht,hz⟩:=I.tuple hx;have hlen:its.toArray.size=xs.length:=(by rw [gH]; exact r.length.symm);refine ⟨"tuple",_,PyProof.Rows.slot_tuple_getitem.lookup,ht.typeIs,?_⟩;refine HT.amE ht hs pl pu (by rw [hlen]; exact hw) ?_ (by rw [hlen]; exact hz);rw [hlen];refine ⟨.ref s.heap.objs.size,_,I.laid (t':=s.toks) (o:=.tup (lE xs lo hi)) (λb ob q=>cj _ q) (bB _) ?_,rfl,q _ (I.hok.fresh (bB _))⟩;exact ⟨gw (Xo xs lo hi) hz,_,(r.drop (HT.cA xs.length 0 lo)).take (HT.cA xs.length xs.length hi-HT.cA xs.length 0 lo),wk.new _ _⟩
def anN(K:cH):R2:=λx y H Q=>∃ a b xs ys,x=.ref a/\y=.ref b/\aG K H a xs/\aG K H b ys/\xs≠[]/\xs.length+ys.length<=aL /\
 (ys=[]->Q (.ref a) H)/\(ys≠[]->∀ p,H p=none->Q (.ref p) (upd H p (.tup (xs++ys))))
theorem bY.Az(r:bY xs us):us=[]↔xs=[]:=by cases r with| nil=>simp| cons _ _=>simp
theorem akU:cP X (j6 .Add) (anN X.K):=by intro ak s aj H x y v u Q I rx ry h;obtain ⟨a,b,xs,ys,rfl,rfl,ha,hb,hx,hz,q1,q2⟩:=h;cases rx;cases ry;obtain ⟨its,r1,p1,_⟩:=I.tuple ha;obtain ⟨its2,r2,p2,_⟩:=I.tuple hb;refine HT.alq p1 p2 (λz=>hx (r1.Az.mp z)) (λz=>⟨.ref a,H,I,rfl,q1 (r2.Az.mp z)⟩) (λz=>?_) (by rw [<- r1.length,<- r2.length]; exact hz);refine ⟨.ref s.heap.objs.size,_,I.laid (t':=s.toks) (o:=.tup (xs++ys)) (λb ob q=>cj _ q) (bB _) ?_,rfl,q2 (λw=>z (r2.Az.mpr w)) _ (I.hok.fresh (bB _))⟩;exact ⟨by rw [cQ]; exact hz,_,r1.append r2,wk.new _ _⟩
end
def vZ(n:Nat)(i:Int):Option Nat:=if 0<=i then (if i<n then some i.toNat else none) else if -(n:Int)<=i then some (i+n).toNat else none
def mH{aJ:Type}(xs:List aJ)(i:Int):Option aJ:=(vZ xs.length i).bind λj=>xs[j]?
theorem abW(h:vZ n i=some j):seqIndex? i n=some j/\j<n/\-(n:Int)<=i/\i<n:=by unfold vZ at h;by_cases h0:0<=i;rw [bh h0] at h;by_cases h1:i<n;rw [bh h1] at h;have e:i.toNat=j:=jK h;exact ⟨by rw [W0 h0 h1,e],by omega,by omega,h1⟩;rw [aV h1] at h; cases h;rw [aV h0] at h;by_cases h1:-(n:Int)<=i;rw [bh h1] at h;have e:(i+n).toNat=j:=jK h;exact ⟨by rw [YJ (by omega) h1,e],by omega,h1,by omega⟩;rw [aV h1] at h; cases h
theorem Tn{xs:List aJ}{v:aJ}(h:mH xs i=some v):∃ j,seqIndex? i xs.length=some j/\xs[j]?=some v/\j<xs.length/\-(xs.length:Int)<=i/\i<xs.length:=by unfold mH at h;cases e:vZ xs.length i with| none=>rw [e] at h; cases h| some j =>rw [e] at h;obtain ⟨h1,h2,h3,h4⟩:=abW e;exact ⟨j,h1,h,h2,h3,h4⟩
theorem j9{xs:List aJ}{v:aJ}(h:xs[j]?=some v):mH xs (j:Int)=some v:=by have hj:j<xs.length:=(mK.mp h).1;have e:vZ xs.length (j:Int)=some j:=(by unfold vZ;rw [bh (by omega),bh (by omega)]; simp);unfold mH; rw [e]; exact h
def VG(b:Expr):Prop:=∀ o i,subscripted b false o i=operate [o,i] (getItem o i)
def xV(X:Cx)(r:R2):Prop :=
 ∀(value slice:Expr)(ak:List (au × Obj))(s:aH)(aj:St)(H:Hp)(x y:V)(v u:aB)(Q:VK),Inv X ak aj H s->cI x v->cI y u->r x y H Q ->
   subscripted slice false v u=operate [v,u] (getItem v u)->aF (aR X.prog X.w) X.A (subscriptTail value slice v u) (EP X ak aj Q) X.xe s
def MtR(X:Cx)(id:String)(r:V->List V->Hp->VK->Prop):Prop :=
 ∀(ak:List (au × Obj))(s:aH)(aj:St)(H:Hp)(x:V)(xs:List V)(v:aB)(us:List aB)(Q:VK),Inv X ak aj H s->cI x v->bY xs us->r x xs H Q ->
   aF (aR X.prog X.w) X.A (call (.builtin id) (v :: us)) (EP X ak aj Q) X.xe s
section
variable{X:Cx}{a b:Expr}{ta tb:TE}{pos:Pos}
theorem Cg{r:R2}(hr:xV X r)(ha:PE X a ta)(hb:PE X b tb)(hs:VG b):PE X (.Subscript a b pos) (BW r ta tb):=by intro ak s aj H Q I h;exact Je (R0 ha hb I h λv u s2 x y H2 I2 rx ry q=>hr a b ak s2 aj H2 x y v u Q I2 rx ry q (hs _ _))
def afH(K:cH):R2:=λx y H Q=>mz λp xs i v=>jt (x=.ref p) (y=.int i) (aY K H p xs) (mH xs i=some v) (Q v H)
def acI(K:cH):R2:=λx y H Q=>mz λp xs i v=>jt (x=.ref p) (y=.int i) (aG K H p xs) (mH xs i=some v) (Q v H)
def acC:R2:=λx y H Q=>kJ λz i c=>jt (x=.str z) (y=.int i) (z.length<=aL) (mH z.cps.toList i=some c) (Q (.str ⟨#[c]⟩) H)
theorem al9:xV X (afH X.K):=by intro value slice ak s aj H x y v u Q I rx ry h hs;obtain ⟨p,xs,i,z,rfl,rfl,hq,he,q⟩:=h;cases rx;obtain ⟨t,rfl⟩:=ry;obtain ⟨its,r,pl,hz⟩:=I.list hq;obtain ⟨j,h1,h2,h3,h4,h5⟩:=Tn he;obtain ⟨w,ew,rC⟩:=r.get h2;have hl:=r.length;have hn:=GR;have fin:EP X ak aj Q w s:=⟨z,H,I,rC,q⟩;by_cases h0:0<=i;have hj:i.toNat=j:=(by rw [W0 h0 h5] at h1;exact jK h1);exact item_listR pl.isList h0 (by omega) (by rw [hj]; simpa using ew) fin hs;have hj:(i+(its.toArray.size:Int)).toNat=j:=(by rw [YJ (by omega) h4] at h1;rw [gH,<- hl];exact jK h1);exact aaC (x:=w) pl.isList.typeIs slot_list_getitem.lookup (wpAny_getItem_list_neg (Q:=λr s'=>r=w/\EP X ak aj Q r s') pl.isList (by omega) (by rw [gH] <;> omega) (by omega) (by rw [hj]; simpa using ew) ⟨rfl,fin⟩) hs
theorem ak9:xV X (acI X.K):=by intro value slice ak s aj H x y v u Q I rx ry h hs;obtain ⟨p,xs,i,z,rfl,rfl,hq,he,q⟩:=h;cases rx;obtain ⟨t,rfl⟩:=ry;obtain ⟨its,r,pl,hz⟩:=I.tuple hq;obtain ⟨j,h1,h2,h3,h4,h5⟩:=Tn he;obtain ⟨w,ew,rC⟩:=r.get h2;have hl:=r.length;have hn:=GR;have fin:EP X ak aj Q w s:=⟨z,H,I,rC,q⟩;exact aaC (x:=w) pl.typeIs slot_tuple_getitem.lookup (getItem_tuple (j:=j) (Q:=λr s'=>r=w/\EP X ak aj Q r s') pl (by omega) (by omega) (by rw [gH,<- hl]; exact h1) (by simpa using ew) ⟨rfl,fin⟩) hs
theorem aoc:xV X acC:=by intro value slice ak s aj H x y v u Q I rx ry h hs;obtain ⟨z,i,c,rfl,rfl,hz,he,q⟩:=h;obtain ⟨t,rfl⟩:=rx;obtain ⟨t',rfl⟩:=ry;obtain ⟨j,h1,h2,h3,h4,h5⟩:=Tn he;have hl:z.cps.toList.length=z.length:=(by simp [Br]);rw [hl] at h1 h4 h5;have hn:=GR;exact QW (R6 s z t) slot_str_getitem.lookup (getItem_str (c:=c) (by have e1:decide (i < -(2 ^ 63:Int))=false:=iD (by omega);have e2:decide (i ≥ 2 ^ 63)=false:=iD (by omega);rw [e1,e2,M8]) (by rw [h1]; simpa using h2) ⟨.str ⟨#[c]⟩,H,I.tok _,⟨_,rfl⟩,q⟩) hs
theorem ai0(its:List aB)(n j:Nat)(u:aB):qH (·.setIfInBounds j u) { cls:=.type "list",data:=.seq its.toArray n }={ cls:=.type "list",data:=.seq (its.set j u).toArray n }:=by simp [qH]
variable{p:au}
theorem Inv.lst(I:Inv X ak aj H s)(h:H p=some (.lst xs)): ∃(its:List aB)(n:Nat),bY xs its/\s.heap.get? p=some { cls:=.type "list",data:=.seq its.toArray n }/\xs.length<=aL:=by obtain ⟨z,its,n,r,e⟩:=I.hok p _ h;exact ⟨its,n,r,e,z⟩
theorem Inv.alc{its its':List aB}{n':Nat}{f:Obj->Obj}(I:Inv X ak aj H s)(h:H p=some (.lst xs))(ho:s.heap.get? p=some { cls:=.type "list",data:=.seq its.toArray n })(hf:f { cls:=.type "list",data:=.seq its.toArray n }={ cls:=.type "list",data:=.seq its'.toArray n' })(r:bY ys its')(hz:ys.length<=aL)(t:Nat): Inv X ak aj (upd H p (.lst ys)) { s with heap:=s.heap.update p f,toks:=t }:=by have e:(s.heap.update p f).get? p=some { cls:=.type "list",data:=.seq its'.toArray n' }:=(by rw [vG f ho (by rw [hf] <;> rfl),hf]);refine I.write (x:=p) (e:=p) (by rw [h]; trivial) (.inl rfl) (λb u hb q=>(Ef _ _ (gQ hb)).ao q) ⟨_,e⟩ ?_;exact ⟨hz,its',n',r,e⟩
def adf:V->V->V->Hp->(Hp->Prop)->Prop:=λo i v H Q=>mz λp xs k j=>jt (o=.ref p) (i=.int k) (H p=some (.lst xs)) (vZ xs.length k=some j) (Q (upd H p (.lst (xs.set j v))))
theorem set_list:Zj X adf:=by intro ak s aj H o i v ov iv u Q I ro ri rv h;obtain ⟨p,xs,k,j,rfl,rfl,hp,hj,q⟩:=h;cases ro;obtain ⟨t,rfl⟩:=ri;obtain ⟨its,n,r,ho,hz⟩:=I.lst hp;obtain ⟨h1,h2,h3,h4⟩:=abW hj;have hl:=r.length;have hn:=GR;have I':Inv X ak aj (upd H p (.lst (xs.set j v))) { s with heap:=s.heap.update p (qH (·.setIfInBounds j u)) } := I.alc hp ho (ai0 its n j u) (r.set rv j) (by rw [Ad]; exact hz) s.toks;by_cases h0:0<=k;have hk:k.toNat=j:=(by rw [W0 h0 h4] at h1;exact jK h1);exact PySem.W.ki_setAt ho h0 (by omega) (by rw [gH,<- hl]; exact h4) (by rw [hk]; exact ⟨_,I',q⟩);have hk:(k+(its.toArray.size:Int)).toNat=j:=(by rw [YJ (by omega) h3] at h1;rw [gH,<- hl];exact jK h1);exact PySem.W.ki_setBack ho (by omega) (by rw [gH,<- hl]; exact h3) (by omega) (by rw [hk]; exact ⟨_,I',q⟩)
theorem alm(lo hi:Option Int)(n:Nat):(sliceBounds lo hi none n).1=((HT.cA n 0 lo:Nat):Int)/\(sliceBounds lo hi none n).2.1=((HT.cA n n hi:Nat):Int)/\(sliceBounds lo hi none n).2.2=1:=by refine ⟨?_,?_,rfl⟩;(cases lo with| none=>simp [sliceBounds,HT.cA]| some i =>simp only [sliceBounds,HT.cA,Option.getD_none,show (1:Int) > 0 by decide,if_true];by_cases h:i<0;simp only [h,if_true] <;> omega;simp only [h,if_false] <;> omega);cases hi with| none=>simp [sliceBounds,HT.cA]| some i =>simp only [sliceBounds,HT.cA,Option.getD_none,show (1:Int) > 0 by decide,if_true];by_cases h:i<0;simp only [h,if_true] <;> omega;simp only [h,if_false] <;> omega
theorem ahT(its:List aB)(lo hi:Option Int):slicePick its.toArray lo hi none=((its.drop (HT.cA its.length 0 lo)).take (HT.cA its.length its.length hi-HT.cA its.length 0 lo)).toArray:=by obtain ⟨h1,h2,h3⟩:=alm lo hi its.toArray.size;unfold slicePick;rw [h1,h2,h3];simp only [sliceRange_one,pick_run,gH] <;> rfl
def aog(K:cH):V->Option Int->Option Int->Hp->VK->Prop:=λx lo hi H Q=>∃ a xs,x=.ref a/\aY K H a xs/\∀ p,H p=none->Q (.ref p) (upd H p (.lst (lE xs lo hi)))
theorem Gp:SlR X (aog X.K):=by intro ak s aj H x v vl vu lo hi sl Q I rx hs pl pu h;obtain ⟨a,xs,rfl,hx,q⟩:=h;cases rx;obtain ⟨its,r,ht,hz⟩:=I.list hx;have hlen:=r.length;refine ⟨"list",_,slot_list_getitem.lookup,ht.isList.typeIs,?_⟩;refine abg ht.isList hs pl pu .none (by simp) ?_ (by rw [gH] <;> omega);rw [ahT,<- hlen];refine ⟨.ref s.heap.objs.size,_,I.laid (t':=s.toks) (o:=.lst (lE xs lo hi)) (λb ob q=>cj _ q) (bB _) ?_,rfl,q _ (I.hok.fresh (bB _))⟩;exact ⟨gw (Xo xs lo hi) hz,_,0,(r.drop (HT.cA xs.length 0 lo)).take (HT.cA xs.length xs.length hi-HT.cA xs.length 0 lo),fU _ rfl⟩
inductive SqQ(K:cH)(xs:List V)(H:Hp)(k:au->List V->Prop):Prop|mk p ys(_:xs=[.ref p])(_:aY K H p ys\/aG K H p ys)(_:k p ys)
inductive ajJ(K:cH)(xs:List V)(H:Hp)(Q:VK):Prop|mk p ys(_:xs=[.ref p])(_:(aY K H p ys/\∀ l,H l=none->Q (.ref l) (upd H l (.tup ys)))\/(aG K H p ys/\Q (.ref p) H))
theorem jC:jz X (.builtin "len") (λxs H Q=>SqQ X.K xs H λ_ ys=>Q (.int ys.length) H):=by intro ak s aj H xs us Q I r h;obtain ⟨p,ys,rfl,hq,q⟩:=h;obtain ⟨u,rfl,rx⟩:=nM r;cases rx;have hn:=GR;rcases hq with hq | hq;obtain ⟨its,r',pl,hz⟩:=I.list hq;have hlen:=r'.length;exact Calls.call_len_list pl.isList (by simp only [gH] <;> omega) ⟨.int ys.length,H,I.tok _,⟨s.toks+1,by rw [gH,hlen]⟩,q⟩;obtain ⟨its,r',pl,hz⟩:=I.tuple hq;have hlen:=r'.length;exact len_tuple pl (by simp only [gH] <;> omega) ⟨.int ys.length,H,I.tok _,⟨s.toks+1,by rw [gH,hlen]⟩,q⟩
theorem anj:jz X (.builtin "len") (λxs H Q=>∃ z,xs=[.str z]/\z.length<=aL/\Q (.int z.length) H):=by intro ak s aj H xs us Q I r h;obtain ⟨z,rfl,hz,q⟩:=h;obtain ⟨u,rfl,t,rfl⟩:=nM r;have hn:=GR;exact len_str (by omega) ⟨.int z.length,H,I.tok _,⟨_,rfl⟩,q⟩
theorem agZ:jz X (.type "list") (λxs H Q=>SqQ X.K xs H λ_ ys=>∀ l,H l=none->Q (.ref l) (upd H l (.lst ys))):=by intro ak s aj H xs us Q I r h;obtain ⟨p,ys,rfl,hq,q⟩:=h;obtain ⟨u,rfl,rx⟩:=nM r;cases rx;have fin:∀(its:List aB),bY ys its->ys.length<=aL->∀(h':bD)(c':Nat),(∀ b o',s.heap.get? b=some o'->h'.get? b=some o') -> h'.get? s.heap.objs.size=some { cls:=.type "list",dict:=none,data:=.seq its.toArray c',slots:=#[] }->EP X ak aj Q (.ref s.heap.objs.size) { s with heap:=h' }:=λits r' hz h' c' kp e => ⟨.ref s.heap.objs.size,_,I.laid (t':=s.toks) kp (bB _) (show gV X.prog X.w _ h' _ (.lst ys) from ⟨hz,its,c',r',e⟩),rfl,q _ (I.hok.fresh (bB _))⟩;rcases hq with hq | hq;obtain ⟨its,r',pl,hz⟩:=I.list hq;have hlen:=r'.length;obtain ⟨o,ho,hc,n,hd⟩:=pl.isList;exact call_list_seq p (.inl rfl) ho hc hd (λh' c' kp e=>fin its r' hz h' c' kp e) (by simp only [gH] <;> omega);obtain ⟨its,r',pl,hz⟩:=I.tuple hq;have hlen:=r'.length;obtain ⟨o,ho,hc,n,hd⟩:=pl;exact call_list_seq p (.inr rfl) ho hc hd (λh' c' kp e=>fin its r' hz h' c' kp e) (by simp only [gH] <;> omega)
theorem kE:jz X (.type "tuple") (ajJ X.K):=by intro ak s aj H xs us Q I r h;obtain ⟨p,ys,rfl,h⟩:=h;obtain ⟨u,rfl,rx⟩:=nM r;cases rx;rcases h with ⟨hq,q⟩ | ⟨hq,q⟩;obtain ⟨its,r',pl,hz⟩:=I.list hq;have hlen:=r'.length;refine call_tuple_list pl.isList (λh' kp=>?_) (by simp only [gH] <;> omega);have I1:Inv X ak aj H { s with heap:=h' }:=I.kept (t':=s.toks) kp;have I2:Inv X ak aj (upd H h'.objs.size (.tup ys)) { s with heap:=h'.push { cls:=.type "tuple",data:=.seq its.toArray } } := I1.laid (t':=s.toks) (λb o e=>cj _ e) (bB _) (show gV X.prog X.w _ _ _ (.tup ys) from ⟨hz,its,r',wk.new _ _⟩);exact ⟨.ref h'.objs.size,_,I2,rfl,q _ (I1.hok.fresh (bB _))⟩;obtain ⟨its,r',pl,hz⟩:=I.tuple hq;exact call_tuple_same pl ⟨.ref p,H,I,rfl,q⟩
def tyV(K:cH)(T:String)(x:V)(H:Hp):Prop:=match x with
 | .str _=>T = "str"
 | .int _=>T = "int"
 | .ref p=>(T = "list"/\∃ xs,aY K H p xs)\/(T = "tuple"/\∃ o,K.lookup p=some o/\o.cls=.type "tuple"/\o.dict=none) \/
     (T = "dict"/\((∃ kvs,H p=some (.dK kvs))\/∃ kvs,H p=some (.dT kvs)))\/(T = "set"/\∃ S n,H p=some (.set S n))
 | _=>False
theorem alG{T:String}{x:V}{v:aB}(I:Inv X ak aj H s)(r:cI x v)(ty:tyV X.K T x H): s.TypeIs v T/\∀ a,v=.ref a->∃ ob,s.heap.get? a=some ob/\ob.dict=none:=by cases x with| str z =>obtain ⟨t,rfl⟩:=r;cases (show T = "str" from ty);exact ⟨R6 s z t,λ_ e=>nomatch e⟩| int i =>obtain ⟨t,rfl⟩:=r;cases (show T = "int" from ty);exact ⟨Vd s i t,λ_ e=>nomatch e⟩| ref p =>cases r;rcases ty with ⟨rfl,xs,hq⟩ | ⟨rfl,o,hk,hc,hd⟩ | ⟨rfl,hk⟩ | ⟨rfl,S,n,hk⟩;obtain ⟨its,_,pl,_⟩:=I.list hq;refine ⟨pl.isList.typeIs,λa e=>?_⟩;cases e;obtain ⟨o,n,e,c,hd,_⟩:=pl;exact ⟨o,e,hd⟩;refine ⟨⟨o,I.lO p o hk,hc⟩,λa e=>?_⟩;cases e;exact ⟨o,I.lO _ o hk,hd⟩;have z:∃ o,s.heap.get? p=some o/\o.ExactDict:=(by rcases hk with ⟨kvs,hk⟩ | ⟨kvs,hk⟩;obtain ⟨_,_,_,_,o,_,_,e,ex,_⟩:=I.hok p _ hk;exact ⟨o,e,ex⟩;obtain ⟨_,_,_,_,o,_,_,e,ex,_⟩:=I.hok p _ hk;exact ⟨o,e,ex⟩);obtain ⟨o,e,ex⟩:=z;refine ⟨⟨o,e,ex.1⟩,λa e2=>?_⟩;cases e2;exact ⟨o,e,ex.2.1⟩;obtain ⟨o,_,_,_,e,ex,_⟩:=I.hok p _ hk;refine ⟨⟨o,e,ex.1⟩,λa e2=>?_⟩;cases e2;exact ⟨o,e,ex.2.1⟩| _=>exact qp ty
def tBM(K:cH)(T:String)(r:V->List V->Hp->VK->Prop)(to:TE)(t:TA):TE:=fun aj H Q=>to aj H λx H1=>tyV K T x H1/\t aj H1 λxs H2=>r x xs H2 Q
variable{o e:Expr}{es:List Expr}{to:TE}{t:TA}{name:Str}{apos cpos:Pos}{T id:String}{r:V->List V->Hp->VK->Prop}
theorem rN(pa:PlainAttrs T)(slot:Slot T name id)(hty:typeOf (.builtin id)=pure (.type "method_descriptor"))(hm:MtR X id r)(ho:PE X o to)(ha:PA X (e :: es) t)(hbase:attributeBase o name X.env (eval o X.env)=eval o X.env:=by rfl)(hfew:((backTo cpos (dO (e :: es) X.env)).all (λx=>!x.1) && (backToKw cpos (keywordEach [] X.env)).all (λx=>x.1.isSome)
     && decide ((e :: es).length+([]:List Hu).length+(if ([]:List Hu).isEmpty then 0 else 1)<30))=true:=by rfl)(hline:(apos.endLine == cpos.line)=true:=by rfl)(hs:dO (e :: es) X.env=(false,eval e X.env) :: dO es X.env:=by rfl)(hplain:(backTo cpos (dO es X.env)).any (·.1)=false:=by rfl):
   PE X (.Call (.Attribute o name apos) (e :: es) [] cpos) (tBM X.K T r to t):=by
 intro ak s aj H Q I h;refine wpAny_Call_method_late hbase hfew hline rfl (bL (ho ak s aj H _ I h) λv s1 ⟨x,H1,I1,r1,ty,q1⟩=>?_);obtain ⟨h1,h2⟩:=alG I1 r1 ty;refine ⟨T,id,pa,slot,hty,h1,h2,?_⟩;have hA:=ha cpos ak s1 aj H1 _ I1 q1;rw [hs] at hA |-;refine QD (by show (false || (backTo cpos (dO es X.env)).any (·.1))=false; rw [hplain] <;> rfl) (K6 ?_);exact bL hA λus s2 ⟨vs,H2,I2,r2,q2⟩=>hm ak s2 aj H2 x vs v us Q I2 r1 r2 q2
end
def MtM(X:Cx)(id:String)(r:V->List V->Hp->VK->Prop):Prop :=
 ∀(ak:List (au × Obj))(s:aH)(aj:St)(H:Hp)(x:V)(xs:List V)(v:aB)(us:List aB)(Q:VK),Inv X ak aj H s->cI x v->bY xs us->r x xs H Q ->
   aF (aR X.prog X.w) X.A (call (.builtin id) (v :: us)) (EP X ak aj Q) X.xe s
theorem bY.one:∀{x:V}{us:List aB},bY [x] us->∃ u,us=[u]/\cI x u
 | _,_,.cons r .nil=>⟨_,rfl,r⟩
theorem bY.rep(h:bY xs us):∀ k:Nat,bY (jF k xs).flatten (jF k us).flatten
 | 0=>.nil
 | k+1=>by rw [wG,wG,rO,rO];exact bY.append h (bY.rep h k)
theorem foldl_rep(its:List aB):∀(k:Nat)(acc:List aB),
   Xa (λx1 x2=>x1++x2) acc.toArray (jF k its.toArray)=(acc++(jF k its).flatten).toArray
 | 0,acc=>by simp
 | k+1,acc=>by have e:acc.toArray++its.toArray=(acc++its).toArray:=(by simp);have e2:(acc++its)++(jF k its).flatten=acc++(jF (k+1) its).flatten:=(by rw [wG,rO,oU]);rw [<- e2,<- foldl_rep its k (acc++its),<- e,wG,List.foldl_cons]
variable{its:List aB}{l:au}
theorem Inv.abH{its':List aB}{f:Array aB->Array aB}(I:Inv X ak aj H s)(hH:H l=some (.lst xs))(e:s.heap.get? l=some { cls:=.type "list",data:=.seq its.toArray n })(hf:f its.toArray=its'.toArray)(hv:bY ys its')(hz:ys.length<=aL): Inv X ak aj (upd H l (.lst ys)) { s with heap:=s.heap.update l (qH f),toks:=t' }:=by have q:=PySem.IsL.update e f;rw [hf] at q;refine I.write (x:=l) (e:=l) (by rw [hH]; exact trivial) (.inl rfl) (λb' u hb hu=>(Ef s.heap (qH f) (gQ hb)).ao hu) ⟨_,q⟩ ?_;exact ⟨hz,its',_,hv,q⟩
theorem Inv.JV(I:Inv X ak aj H s)(hv:bY ys its)(hz:ys.length<=aL):
   Inv X ak aj (upd H s.heap.objs.size (.lst ys)) { s with heap:=s.heap.push { cls:=.type "list",data:=.seq its.toArray },toks:=t' } :=
 I.laid (λ_ _ q=>cj _ q) (bB _) ⟨hz,its,0,hv,fU _ rfl⟩
theorem Inv.fresh(I:Inv X ak aj H s):H s.heap.objs.size=none:=I.hok.fresh (bB _)
theorem Inv.Ds(I:Inv X ak aj H s)(hH:H l=some (.lst xs)):xs.length<=aL/\∃(its:List aB)(n:Nat),bY xs its/\xs.length=its.length/\s.heap.get? l=some { cls:=.type "list",data:=.seq its.toArray n }:=by obtain ⟨z,its,n,r,e⟩:=I.hok l _ hH;exact ⟨z,its,n,r,r.length,e⟩
theorem ae7(h:n<=aL):Nq n=false:=by unfold Nq;exact iD (by omega)
inductive aiK(x:V)(vs:List V)(H:Hp)(Q:VK):Prop|mk l xs y(_:x=.ref l)(_:vs=[y])(_:H l=some (.lst xs))(_:xs.length<aL)(_:Q .non (upd H l (.lst (xs++[y]))))
theorem uN:MtM X "list.append" aiK:=by intro ak s aj H x vs v us Q I rx rv h;obtain ⟨l,xs,y,rfl,rfl,hH,hz,q⟩:=h;cases rx;obtain ⟨u,rfl,ru⟩:=rv.one;obtain ⟨z,its,n,r,hl,e⟩:=I.Ds hH;refine JR F.slot_list_append ⟨_,e,rfl⟩ F.entry_list_append (F.args_list_append_2 _ _) (PySem.list_append l its.toArray n u (by rw [gH]; omega)) ⟨e,?_⟩;refine ⟨.non,_,I.abH (its':=its++[u]) hH e (by simp) (r.append (.cons ru .nil)) ?_,rfl,q⟩;rw [cQ,List.length_singleton];omega
inductive apO(x:V)(vs:List V)(H:Hp)(Q:VK):Prop|mk l b xs zs(_:x=.ref l)(_:vs=[.ref b])(_:H l=some (.lst xs))(_:H b=some (.lst zs))(_:xs.length+zs.length<=aL)(_:Q .non (upd H l (.lst (xs++zs))))
theorem Rr:MtM X "list.extend" apO:=by intro ak s aj H x vs v us Q I rx rv h;obtain ⟨l,b,xs,zs,rfl,rfl,hH,hB,hz,q⟩:=h;cases rx;obtain ⟨u,rfl,ru⟩:=rv.one;cases ru;obtain ⟨z,its,n,r,hl,e⟩:=I.Ds hH;obtain ⟨z2,its2,n2,r2,hl2,e2⟩:=I.Ds hB;have hsz:its.toArray.size+its2.toArray.size<=aL:=(by rw [gH,gH]; omega);have Um:¬ (!its.toArray.isEmpty && Nq (its.toArray.size+its2.toArray.size))=true:=(by rw [ae7 hsz,aag];exact gO);refine JR F.slot_list_extend ⟨_,e,rfl⟩ F.entry_list_extend (F.args_list_extend_2 _ _) (AutoSeq1.list_extend_list_list_0 l its.toArray n b its2.toArray n2 Um (by rw [gH]; omega) (by omega)) ⟨e,e2,?_⟩;refine ⟨.non,_,I.abH (its':=its++its2) hH e (by simp) (r.append r2) ?_,rfl,q⟩;rw [cQ];omega
inductive akc(x y:V)(H:Hp)(Q:VK):Prop|mk l b xs zs(_:x=.ref l)(_:y=.ref b)(_:H l=some (.lst xs))(_:H b=some (.lst zs))(_:xs.length+zs.length<=aL)(_:∀ p,H p=none->Q (.ref p) (upd H p (.lst (xs++zs))))
theorem adY:cP X (j6 .Add) akc:=by intro ak s aj H x y v u Q I rx ry h;obtain ⟨l,b,xs,zs,rfl,rfl,hH,hB,hz,q⟩:=h;cases rx;cases ry;obtain ⟨z,its,n,r,hl,e⟩:=I.Ds hH;obtain ⟨z2,its2,n2,r2,hl2,e2⟩:=I.Ds hB;refine PySem.P.add_list e e2 ?_ (by rw [gH,gH]; omega);have ea:its.toArray++its2.toArray=(its++its2).toArray:=(by simp);rw [ea];exact ⟨.ref _,_,I.JV (t':=s.toks) (r.append r2) (by rw [cQ]; omega),rfl,q _ I.fresh⟩
inductive aiu(x y:V)(H:Hp)(Q:VK):Prop|mk l k xs(_:x=.ref l)(_:y=.int k)(_:H l=some (.lst xs))(_:-(2 ^ 63)<=k)(_:k<2 ^ 63)(_:xs.length * k.toNat<=aL)(_:∀ p,H p=none->Q (.ref p) (upd H p (.lst (jF k.toNat xs).flatten)))
theorem len_rep(xs:List aJ)(k:Nat):(jF k xs).flatten.length=k * xs.length:=by induction k with| zero=>simp| succ k ih=>rw [wG,rO,cQ,ih,Ng,Ln]
theorem ape:cP X (j6 .Mult) aiu:=by intro ak s aj H x y v u Q I rx ry h;obtain ⟨l,k,xs,rfl,rfl,hH,h1,h2,hz,q⟩:=h;cases rx;obtain ⟨t,rfl⟩:=ry;obtain ⟨z,its,n,r,hl,e⟩:=I.Ds hH;have hlen:its.toArray.size * k.toNat<=aL:=(by rw [gH,<- hl]; exact hz);have hcap:¬ its.toArray.size * k.toNat > (2 ^ 63-1) / 8:=(by have:(aL:Nat)<=(2 ^ 63-1) / 8:=(by decide);omega);have hfit:¬ (!Builtin.List.listFitsIndex k)=true:=(by rw [fitsIndex_both h1 h2];exact gO);have Um:¬ Nq (its.toArray.size * k.toNat)=true:=(by rw [ae7 hlen];exact gO);have hnew:Xa (λx1 x2=>x1++x2) #[] (jF (if its.toArray.isEmpty=true then 0 else k.toNat) its.toArray)=(jF k.toNat its).flatten.toArray:=(by have f0:∀ m:Nat,Xa (λx1 x2=>x1++x2) #[] (jF m its.toArray)=(jF m its).flatten.toArray:=λm=>(by have:=foldl_rep its m [];rw [List.nil_append] at this;exact this);rw [f0];cases its with| nil=>simp| cons a r'=>rw [aV (by simp)]);refine wpAny_binaryOp_repeat_ref (T:="list") (U:="int") (by decide) ⟨_,e,rfl⟩ (λs'=>Vd s' k t) noFill_list_mul F.fills_int_mul F.slot_int_rmul repeat_list F.slot_int_index.lookup (JR F.slot_int_rmul (Vd s k t) F.entry_int_rmul (F.args_int_rmul_2 _ _) (int___rmul___int_list k t l its.toArray n) ⟨e,rfl,⟨_,e,rfl⟩,JR F.slot_list_mul ⟨_,e,rfl⟩ F.entry_list_mul (F.args_list_mul_2 _ _) (AutoListH.list___mul___list_int_3 l its.toArray n k t hfit hcap Um) ⟨e,?_⟩⟩);rw [hnew];exact ⟨.ref _,_,I.JV (t':=s.toks) (r.rep k.toNat) (by rw [len_rep,Nat.mul_comm]; exact hz),rfl,q _ I.fresh⟩
section
variable{κ:Type}[DecidableEq κ]
def dW(kvs:List (κ × V))(k:κ):Option V:=(kvs.find? λkv=>decide (kv.1=k)).map (·.2)
def dH(kvs:List (κ × V))(k:κ)(v:V):List (κ × V) :=
 if (kvs.any λkv=>decide (kv.1=k))=true then kvs.map (λkv=>if kv.1=k then (kv.1,v) else kv) else kvs++[(k,v)]
def lY(kvs:List (κ × V))(k:κ):List (κ × V):=kvs.filter λkv=>decide (kv.1≠k)
theorem su{p:κ × V}{r:List (κ × V)}{k:κ}(e:p.1=k):dW (p :: r) k=some p.2:=by simp [dW,FN,e]
theorem sy{p:κ × V}{r:List (κ × V)}{k:κ}(e:¬ p.1=k):dW (p :: r) k=dW r k:=by simp [dW,FN,e]
theorem Gy(k:κ):∀ kvs:List (κ × V),(kvs.any λkv=>decide (kv.1=k))=(dW kvs k).isSome
 | []=>rfl
 | p :: r=>by rw [Ea];by_cases e:p.1=k;simp only [su e,fj e,Bool.true_or,adD];rw [sy e,iD e,Bool.false_or]; exact Gy k r
theorem afh(k j:κ)(y:V):∀ kvs:List (κ × V),dW (kvs.map λkv=>if kv.1=k then (kv.1,y) else kv) j=(dW kvs j).map λx=>if j=k then y else x
 | []=>rfl
 | p :: r=>by have ih:=afh k j y r;rw [eV];by_cases h:p.1=k;rw [bh h];by_cases e:p.1=j;rw [su (p:=(p.1,y)) e,su e,Fv,bh (e.symm.ao h)];rw [sy (p:=(p.1,y)) e,sy e,ih];rw [aV h];by_cases e:p.1=j;rw [su (p:=p) e,su e,Fv,aV (λz=>h (e.ao z))];rw [sy (p:=p) e,sy e,ih]
theorem afR(k j:κ)(y:V):∀ kvs:List (κ × V),dW kvs k=none->dW (kvs++[(k,y)]) j=if j=k then some y else dW kvs j
 | [],_=>by by_cases e:k=j;rw [bh e.symm]; exact su (p:=(k,y)) e;rw [aV (λz=>e z.symm)]; exact sy (p:=(k,y)) e
 | p :: r,hn=>by rw [Xd];have hk:¬ p.1=k:=λz=>(by rw [su z] at hn; cases hn);rw [sy hk] at hn;have ih:=afR k j y r hn;by_cases e:p.1=j;rw [su e,su e,aV (λz=>hk (e.ao z))];rw [sy e,sy e,ih]
theorem Wa(kvs:List (κ × V))(k j:κ)(y:V):dW (dH kvs k y) j=if j=k then some y else dW kvs j:=by unfold dH;by_cases a:(kvs.any λkv=>decide (kv.1=k))=true;rw [bh a,afh];rw [Gy] at a;by_cases e:j=k;obtain ⟨x,hx⟩:=GD.mp a;rw [bh e,e,hx,Fv,bh rfl];rw [aV e];(cases dW kvs j with| none=>rfl| some x=>rw [Fv,aV e]);rw [aV a];refine afR k j y kvs ?_;rw [Gy] at a;cases q:dW kvs k with| none=>rfl| some x=>rw [q] at a; exact (a rfl).elim
theorem yM(kvs:List (κ × V))(k:κ)(v:V):(dH kvs k v).length<=kvs.length+1:=by unfold dH;split;rw [aU]; omega;rw [cQ,jY,Ci]; omega
theorem Bm{kvs:List (κ × V)}{k:κ}(v:V)(h:dW kvs k=none):dH kvs k v=kvs++[(k,v)]:=by unfold dH;rw [Gy,h];exact aV (by decide)
variable{o:Option V}{u:Option aB}
theorem sI.KJ(r:sI o u):o.isSome=u.isSome:=by
 cases o with
 | none=>cases u with
   | none=>rfl
   | some _=>exact (show False from r).elim
 | some _=>cases u with
   | none=>exact (show False from r).elim
   | some _=>rfl
theorem sI.getD{d:V}{d':aB}(r:sI o u)(rd:cI d d'):cI (o.getD d) (u.getD d'):=by
 cases o with
 | none=>cases u with
   | none=>exact rd
   | some _=>exact (show False from r).elim
 | some _=>cases u with
   | none=>exact (show False from r).elim
   | some _=>exact r
theorem KV.val{kvs:List (κ × V)}{vs:List (κ × aB)}(r:KV kvs vs)(k:κ):sI (dW kvs k) (valueAt vs k):=by unfold KV at r;induction r with| nil=>exact rF| @cons p q ps qs h t ih =>obtain ⟨h1,h2⟩:=h;by_cases e:p.1=k;have e':q.1=k:=h1.symm.ao e;have b:valueAt (q :: qs) k=some q.2:=(by simp [valueAt,FN,e']);rw [su e,b]; exact h2;have e':¬ q.1=k:=λz=>e (h1.ao z);have b:valueAt (q :: qs) k=valueAt qs k:=(by simp [valueAt,FN,e']);rw [sy e,b]; exact ih
theorem KV.any{kvs:List (κ × V)}{vs:List (κ × aB)}(r:KV kvs vs)(k:κ):(kvs.any λkv=>decide (kv.1=k))=vs.any λkv=>decide (kv.1=k):=by unfold KV at r;induction r with| nil=>rfl| cons h t ih=>rw [Ea,Ea,ih,h.1]
variable{u:aB}
theorem KV.repl{kvs:List (κ × V)}{vs:List (κ × aB)}(r:KV kvs vs)(k:κ)(ry:cI y u): KV (kvs.map λkv=>if kv.1=k then (kv.1,y) else kv) (vs.map λkv=>if kv.1=k then (kv.1,u) else kv):=by unfold KV at r |-;induction r with| nil=>exact .nil| @cons p q ps qs h t ih =>rw [eV,eV];refine .cons ?_ ih;obtain ⟨h1,h2⟩:=h;by_cases e:p.1=k;rw [bh e,bh (h1.symm.ao e)]; exact ⟨h1,ry⟩;rw [aV e,aV (λz=>e (h1.ao z))]; exact ⟨h1,h2⟩
theorem KV.put{kvs:List (κ × V)}{vs:List (κ × aB)}(r:KV kvs vs)(k:κ)(ry:cI y u):KV (dH kvs k y) (stored vs k u):=by unfold dH stored;rw [r.any k];by_cases e:(vs.any λkv=>decide (kv.1=k))=true;rw [bh e,bh e]; exact r.repl k ry;rw [aV e,aV e]; exact Paired.snoc r ⟨rfl,ry⟩
theorem KV.drop{kvs:List (κ × V)}{vs:List (κ × aB)}(r:KV kvs vs)(k:κ):KV (lY kvs k) (without vs k):=by unfold KV at r |-;unfold lY without;induction r with| nil=>exact .nil| @cons p q ps qs h t ih =>obtain ⟨h1,h2⟩:=h;rw [Kw,Kw];by_cases e:p.1=k;have a:¬ decide (p.1≠k)=true:=(by simp [e]);have b:¬ decide (q.1≠k)=true:=(by simp [h1.symm.ao e]);rw [aV a,aV b]; exact ih;have e':¬ q.1=k:=λz=>e (h1.ao z);have a:decide (p.1≠k)=true:=(by simp [e]);have b:decide (q.1≠k)=true:=(by simp [e']);rw [bh a,bh b]; exact .cons ⟨h1,h2⟩ ih
theorem KV.keys{kvs:List (κ × V)}{vs:List (κ × aB)}(r:KV kvs vs):kvs.map (·.1)=vs.map (·.1):=by unfold KV at r;induction r with| nil=>rfl| cons h t ih=>rw [eV,eV,ih,h.1]
theorem KV.length{kvs:List (κ × V)}{vs:List (κ × aB)}(r:KV kvs vs):kvs.length=vs.length:=Mx r
theorem ajQ(kvs:List (κ × V))(k:κ):(lY kvs k).length<=kvs.length:=Gn _ _
end
theorem yH{k:Key}(r:cI (kV k) u):(eU P w).is k u=true:=by
 cases k with
 | inl i=>cases i with
   | none=>cases (show u=fM from r); exact ajo P w
   | some i=>obtain ⟨t,e⟩:=(show ∃ t,u=xH i t from r); subst e; exact aiU P w i t
 | inr x=>obtain ⟨t,e⟩:=(show ∃ t,u=DY x t from r); subst e; exact amj P w x t
theorem aa4{P:dX}{w:cU}:∀{ks:List Key}{us:List aB},bY (ks.map kV) us->ItemsAre (eU P w) ks us
 | [],_,r=>by rw [Gi] at r; cases r; exact .nil
 | k :: ks,_,r=>by rw [eV] at r;cases r with| cons h t=>exact .cons (yH h) (aa4 t)
abbrev KT(H:Hp):List (List Key × V)->List (List Key × au × aB)->Prop:=bw λp q=>p.1=q.1/\H q.2.1=some (.tup (p.1.map kV))/\cI p.2 q.2.2
variable{kvs:List (List Key × V)}{xs:List (List Key × au × aB)}
theorem KT.val(r:KT H kvs xs)(k:List Key):sI (dW kvs k) ((atKey xs k).map (·.2)):=by induction r with| nil=>exact rF| @cons p q ps qs h t ih =>obtain ⟨h1,_,h2⟩:=h;by_cases e:p.1=k;have e':q.1=k:=h1.symm.ao e;have b:atKey (q :: qs) k=some q.2:=(by simp [atKey,FN,e']);rw [su e,b]; exact h2;have e':¬ q.1=k:=λz=>e (h1.ao z);have b:atKey (q :: qs) k=atKey qs k:=(by simp [atKey,FN,e']);rw [sy e,b]; exact ih
theorem KT.repl(r:KT H kvs xs)(k:List Key)(ry:cI y u): KT H (kvs.map λkv=>if kv.1=k then (kv.1,y) else kv) (xs.map (putAt k u)):=by induction r with| nil=>exact .nil| @cons p q ps qs h t ih =>rw [eV,eV];refine .cons ?_ ih;obtain ⟨h1,h2,h3⟩:=h;unfold putAt;by_cases e:p.1=k;rw [bh e,bh (h1.symm.ao e)]; exact ⟨h1,h2,ry⟩;rw [aV e,aV (λz=>e (h1.ao z))]; exact ⟨h1,h2,h3⟩
variable{b:au}
theorem KT.put(r:KT H kvs xs)(k:List Key)(hb:H b=some (.tup (k.map kV)))(ry:cI y u): KT H (dH kvs k y) (storedH xs k b u):=by have e:(kvs.any λkv=>decide (kv.1=k))=(atKey xs k).isSome:=(by rw [Gy,(r.val k).KJ,Yv]);unfold dH storedH;rw [e];by_cases q:(atKey xs k).isSome=true;rw [bh q,bh q]; exact r.repl k ry;rw [aV q,aV q]; exact Paired.snoc r ⟨rfl,hb,ry⟩
theorem KT.keeps(r:KT H kvs xs)(ht:∀ b ys,H b=some (.tup ys)->H' b=some (.tup ys)):KT H' kvs xs :=
 Paired.aae r λ_ _ z=>⟨z.1,ht _ _ z.2.1,z.2.2⟩
theorem afB{u:HO}(ok:eG P w H h)(e:Rd H a u):gV P w H h a u:=e.ok ok
variable{kvs:List (Key × V)}
theorem Bq(ok:eG P w H h)(e:Rd H a (.dK kvs)):kvs.length<=aL/\(a == sysModules)=false/\∃ vs,KV kvs vs/\h.DictOf (eU P w) a vs :=
 show gV P w H h a (.dK kvs) from afB ok e
theorem Gs(ok:eG P w H h)(e:H a=some (.dK kvs)):kvs.length<=aL/\(a == sysModules)=false/\∃ vs,KV kvs vs/\h.DictOf (eU P w) a vs:=Bq ok (.inl e)
theorem yE{ks:List Key}(ok:eG P w H h)(e:H a=some (.tup (ks.map kV))):(tupleKind (eU P w)).is h ks a:=by obtain ⟨_,its,r,o,h1,h2,⟨n,h3⟩,_⟩:=(show gV P w H h a (.tup (ks.map kV)) from ok a _ e);exact ⟨o,its.toArray,n,h1,h2,h3,by simpa using aa4 r⟩
variable{kvs:List (List Key × V)}
theorem Dj(ok:eG P w H h)(e:Rd H a (.dT kvs)):kvs.length<=aL/\(a == sysModules)=false /\ ∃ xs,KT H kvs xs/\h.DictOfH (tupleKind (eU P w)) a xs:=by obtain ⟨z,y,xs,r,o,es,ep,h1,h2,h3,h4,h5⟩:=(show gV P w H h a (.dT kvs) from afB ok e);refine ⟨z,y,xs,r,o,es,ep,h1,h2,h3,h4,λx hx=>?_,h5⟩;have all:∀{l:List (List Key × V)}{m:List (List Key × au × aB)},KT H l m->∀ x∈m,(tupleKind (eU P w)).is h x.1 x.2.1:=(by intro l m q;induction q with| nil=>intro x hx; exact nomatch hx| @cons p q ps qs hq t ih =>intro x hx;rcases dF.mp hx with e | hx;subst e;exact yE ok (by rw [<- hq.1]; exact hq.2.1);exact ih x hx);exact all r x hx
theorem afy(ok:eG P w H h)(e:H a=some (.dT kvs)):kvs.length<=aL/\(a == sysModules)=false /\
   ∃ xs,KT H kvs xs/\h.DictOfH (tupleKind (eU P w)) a xs:=Dj ok (.inl e)
def ji(H:Hp)(a:au)(y:V)(r:Option V):Prop :=
 (∃ kvs k,Rd H a (.dK kvs)/\y=kV k/\r=dW kvs k)\/∃ kvs k b,Rd H a (.dT kvs)/\y=.ref b/\H b=some (.tup (k.map kV))/\r=dW kvs k
def wV(H:Hp)(a:au)(y v:V)(H':Hp):Prop :=
 (∃ kvs k,H a=some (.dK kvs)/\y=kV k/\kvs.length<aL/\H'=upd H a (.dK (dH kvs k v))) \/
 ∃ kvs k b,H a=some (.dT kvs)/\y=.ref b/\H b=some (.tup (k.map kV))/\kvs.length<aL/\H'=upd H a (.dT (dH kvs k v))
theorem ji.k{H:Hp}{a:au}{kvs:List (Key × V)}{k:Key}(e:H a=some (.dK kvs)):ji H a (kV k) (dW kvs k):=.inl ⟨kvs,k,.inl e,rfl,rfl⟩
theorem ji.t{k:List Key}(e:H a=some (.dT kvs))(eb:H b=some (.tup (k.map kV))):ji H a (.ref b) (dW kvs k):=.inr ⟨kvs,k,b,.inl e,rfl,eb,rfl⟩
theorem wV.k{H:Hp}{a:au}{kvs:List (Key × V)}{k:Key}{v:V}(e:H a=some (.dK kvs))(hl:kvs.length<aL):wV H a (kV k) v (upd H a (.dK (dH kvs k v))):=.inl ⟨kvs,k,e,rfl,hl,rfl⟩
theorem wV.t{k:List Key}(e:H a=some (.dT kvs))(eb:H b=some (.tup (k.map kV)))(hl:kvs.length<aL):
   wV H a (.ref b) v (upd H a (.dT (dH kvs k v))):=.inr ⟨kvs,k,b,e,rfl,eb,hl,rfl⟩
theorem Inv.big(I:Inv X ak aj H s):sysModules<s.heap.objs.size:=by have h:qT<s.heap.objs.size:=(I.mod.glob.keeps I.bk).lt;exact RG (by decide) h
variable{Q E:aB->aH->Prop}
theorem anS(hu:A.units+1<cLine)(I:Inv X ak aj H s)(g:ji H a y (some v))(ry:cI y u)(h:∀ w' s',Inv X ak aj H s'->cI v w'->Q w' s'): aF (aR X.prog X.w) A (getItem (.ref a) u) Q E s:=by rcases g with ⟨kvs,k,e,ey,l⟩ | ⟨kvs,k,b,e,ey,eb,l⟩;subst ey;obtain ⟨z,hd,vs,rel,dd⟩:=Bq I.hok e;obtain ⟨w',hw,rC⟩:=sI.some_of (v:=v) (o:=valueAt vs k) (by rw [l]; exact rel.val k);exact wpAny_getItem_of (yH ry) dd.mapOf hw (h w' _ (I.tok _) rC);subst ey;cases (show u=bI b from ry);obtain ⟨z,hd,xs,rel,dd⟩:=Dj I.hok e;obtain ⟨w',hw,rC⟩:=sI.some_of (v:=v) (o:=(atKey xs k).map (·.2)) (by rw [l]; exact rel.val k);obtain ⟨p,hp,hp2⟩:=Ho.mp hw;refine wpAny_getItem_heap (GF hu) (yE I.hok eb) dd hp ?_;rw [hp2];exact h w' _ (I.tok _) rC
variable{o:Option V}
theorem alT(hu:A.units+1<cLine)(I:Inv X ak aj H s)(g:ji H a y o)(ry:cI y u)(h:∀ s',Inv X ak aj H s'->Q (.bool o.isSome) s'): aF (aR X.prog X.w) A (gK .In u (.ref a)) Q E s:=by rcases g with ⟨kvs,k,e,ey,l⟩ | ⟨kvs,k,b,e,ey,eb,l⟩;subst ey;obtain ⟨z,hd,vs,rel,dd⟩:=Bq I.hok e;refine wpAny_in_of (yH ry) hd dd.mapOf ?_;rw [<- (rel.val k).KJ,<- l];exact h _ (I.tok _);subst ey;cases (show u=bI b from ry);obtain ⟨z,hd,xs,rel,dd⟩:=Dj I.hok e;refine wpAny_in_heap (GF hu) (yE I.hok eb) hd dd ?_;have q:=(rel.val k).KJ;rw [Yv] at q;rw [<- q,<- l];exact h _ (I.tok _)
theorem anx(hu:A.units+1<cLine)(I:Inv X ak aj H s)(g:ji H a y o)(ry:cI y u)(h:∀ s',Inv X ak aj H s'->Q (.bool (!o.isSome)) s'): aF (aR X.prog X.w) A (gK .NotIn u (.ref a)) Q E s:=by rcases g with ⟨kvs,k,e,ey,l⟩ | ⟨kvs,k,b,e,ey,eb,l⟩;subst ey;obtain ⟨z,hd,vs,rel,dd⟩:=Bq I.hok e;refine wpAny_notIn_of (yH ry) hd dd.mapOf ?_;rw [<- (rel.val k).KJ,<- l];exact h _ (I.tok _);subst ey;cases (show u=bI b from ry);obtain ⟨z,hd,xs,rel,dd⟩:=Dj I.hok e;refine wpAny_notIn_heap (GF hu) (yE I.hok eb) hd dd ?_;have q:=(rel.val k).KJ;rw [Yv] at q;rw [<- q,<- l];exact h _ (I.tok _)
theorem El(I:Inv X ak aj H s)(mu:Mut (H a))(hs:mD a s.heap h')(he:∃ q,h'.get? a=some q)(new:gV X.prog X.w (upd H a ob) h' a ob):
   Inv X ak aj (upd H a ob) { s with heap:=h',toks:=t' } :=
 I.write (x:=a) (e:=a) mu (.inl rfl) (λb q hb z=>(hs.2 b hb).ao z) he new
variable{kvs:List (Key × V)}
theorem Jo{vs:List (Key × aB)}(z:kvs.length<=aL)(hd:(a == sysModules)=false)(rel:KV kvs vs)(dd:h'.DictOf (eU P w) a vs):
   gV P w H' h' a (.dK kvs):=⟨z,hd,vs,rel,dd⟩
variable{r:aB}
theorem apC{Q:Unit->aH->Prop}(hu:A.units+1<cLine)(I:Inv X ak aj H s)(g:wV H a y v H')(ry:cI y u)(rv:cI v r)(h:∀ s',Inv X ak aj H' s'->Q () s'): aF (aR X.prog X.w) A (setItem (.ref a) u r) Q E s:=by rcases g with ⟨kvs,k,e,ey,l,eH⟩ | ⟨kvs,k,b,e,ey,eb,l,eH⟩;subst ey eH;obtain ⟨z,hd,vs,rel,dd⟩:=Gs I.hok e;have hz:vs.length<=aL:=(by rw [<- rel.length]; exact z);have hl:(dH kvs k v).length<=aL:=(by have:=yM kvs k v; omega);refine wpAny_setItem_pairs (hsz:=hz) (yH ry) dd λh' vV hs=>h _ ?_;have he:∃ q,h'.get? a=some q:=let ⟨q,_,_,hq,_⟩:=vV; ⟨q,hq⟩;exact El I (by rw [e]; exact rF) hs he (Jo hl hd (rel.put k rv) vV);subst ey eH;cases (show u=bI b from ry);obtain ⟨z,hd,xs,rel,dd⟩:=afy I.hok e;have hz:xs.length<=aL:=(by rw [<- Mx rel]; exact z);have hl:(dH kvs k v).length<=aL:=(by have:=yM kvs k v; omega);refine wpAny_setItem_heap (hsz:=hz) (GF hu) (yE I.hok eb) dd λh' vV hs=>h _ ?_;obtain ⟨q,es,ep,hq,h2,h3,h4,_,h5⟩:=vV;refine El I (by rw [e]; exact rF) hs ⟨q,hq⟩ ⟨hl,hd,_,(rel.put k eb rv).keeps λc ys ec=>?_,q,es,ep,hq,h2,h3,h4,h5⟩;rw [bx (ae3 ec e (λz=>nomatch z))];exact ec
theorem aoT{k:Key}{more:List aB}(I:Inv X ak aj H s)(e:H a=some (.dK kvs))(ry:cI (kV k) u)(l:dW kvs k=some v)(hm:more=[]\/∃ x,more=[x])(h:∀ w' s',Inv X ak aj (upd H a (.dK (lY kvs k))) s'->cI v w'->Q w' s'):aF (aR X.prog X.w) A (call (.builtin "dict.pop") (.ref a :: u :: more)) Q E s:=by
 obtain ⟨z,hd,vs,rel,dd⟩:=Gs I.hok e;obtain ⟨w',hw,rC⟩:=sI.some_of (v:=v) (o:=valueAt vs k) (by rw [<- l]; exact rel.val k)
 have hp:(keyPart u).isSome=true:=by
   cases k with
   | inl i=>cases i with
     | none=>cases (show u=fM from ry); rfl
     | some i=>obtain ⟨t,q⟩:=(show ∃ t,u=xH i t from ry); subst q; rfl
   | inr x=>obtain ⟨t,q⟩:=(show ∃ t,u=DY x t from ry); subst q; rfl
 have ha:argsOk "dict.pop" ⟨.ref a :: u :: more,[]⟩:=by
   rcases hm with q | ⟨x,q⟩
   . subst q; exact PySem.F.args_dict_pop_2 _ _
   . subst q; exact PySem.F.args_dict_pop_3 _ _ _
 refine Ob ac0 dd.typeIs PySem.F.entry_dict_pop ha (meets_dict_pop_there (eU X.prog X.w) a (yH ry) more hm hp)
   ⟨vs,w',dd,by rw [<- rel.length]; exact z,hw,λh' vV hs=>h w' _ ?_ rC⟩
 have he:∃ q,h'.get? a=some q:=let ⟨q,_,_,hq,_⟩:=vV; ⟨q,hq⟩
 exact El I (by rw [e]; exact rF) hs he (Jo (gw (ajQ kvs k) z) hd (rel.drop k) vV)
theorem aik(I:Inv X ak aj H s)(e:Rd H a (.dK kvs))(h:∀ t s',Inv X ak aj H s'->Q (.int kvs.length t) s'):aF (aR X.prog X.w) A (call (.builtin "len") [.ref a]) Q E s:=by obtain ⟨z,hd,vs,rel,dd⟩:=Bq I.hok e;refine call_len_dict hd dd (by rw [<- rel.length]; rw [dZ] at z; omega) ?_;rw [<- rel.length];exact h _ _ (I.tok _)
def aa6(i:Expr):Prop:=∀ ov iv,subscripted i false ov iv=operate [ov,iv] (getItem ov iv)
variable{value:Expr}
theorem apA{env:Env}{slice:Expr}{T id:String}(hl:typeLookup (.type T) "__getitem__" = pure (some (.builtin id)))(hs:aa6 slice)(h:aF (aR prog w) A (eval value env) (λo s₁=>aF (aR prog w) A (eval slice env) (λi s₂=>s₂.TypeIs o T/\aF (aR prog w) A (getItem o i) Q E s₂) E s₁) E s):
   aF (aR prog w) A (eval (.Subscript value slice pos) env) Q E s:=by
 refine Je (ju h (λo s₁ h₁=>ju h₁ (λi s₂ h₂=>?_) λ_ _ x=>x) λ_ _ x=>x);obtain ⟨hT,h₂⟩:=h₂;unfold subscriptTail;refine aA ?_;rw [getitemInPython_of_ne hT.not_modules];refine aA (FT hT hl ?_)
 have fin:aF (aR prog w) A (subscripted slice false o i) (λr s₃=>aF (aR prog w) A (letTemporaryGo value o r >>= λ_=>pure r) Q E s₃) E s₂:=by
   rw [hs o i];exact wpAny_operating (ju h₂ (λr s₃ h₃=>aA (wpAny_letTemporaryGo (aO h₃))) λ_ _ x=>x)
 first
   | exact aO (aA fin)
   | exact aA (aO (aA fin))
   | exact aA fin
theorem akn(I:Inv X ak aj H s)(g:ji H a y o):s.TypeIs (.ref a) "dict":=by rcases g with ⟨kvs,k,e,_,_⟩ | ⟨kvs,k,b,e,_,_,_⟩;obtain ⟨_,_,vs,_,dd⟩:=Bq I.hok e;exact dd.typeIs;obtain ⟨_,_,xs,_,dd⟩:=Dj I.hok e;exact dd.typeIs
inductive anf(x y:V)(H:Hp)(Q:VK):Prop|mk a v(_:x=.ref a)(_:ji H a y (some v))(_:Q v H)
def ao2(td ty:TE):TE:=fun aj H Q=>td aj H λx H1=>ty aj H1 λy H2=>anf x y H2 Q
def amC(ty td:TE):TE:=fun aj H Q=>ty aj H λy H1=>td aj H1 λx H2=>∃ a o,x=.ref a/\ji H2 a y o/\Q (.bl o.isSome) H2
def al8(ty td:TE):TE:=fun aj H Q=>ty aj H λy H1=>td aj H1 λx H2=>∃ a o,x=.ref a/\ji H2 a y o/\Q (.bl (!o.isSome)) H2
def ahh(td ty tv:TE):TS:=λD aj H=>tv aj H λv H1=>td aj H1 λx H2=>ty aj H2 λy H3=>∃ a H4,x=.ref a/\wV H3 a y v H4/\D.nx aj H4
variable{o i:Expr}{td ty:TE}
theorem vo(hu:X.A.units+1<cLine)(ho:PE X o td)(hi:PE X i ty)(hs:aa6 i):PE X (.Subscript o i pos) (ao2 td ty):=by intro ak s aj H Q I h;refine apA PySem.F.slot_dict_getitem.lookup hs (bL (ho ak s aj H _ I h) λu s1 ⟨x,H1,I1,rx,q1⟩=>bL (hi ak s1 aj H1 _ I1 q1) λiv s2 ⟨y,H2,I2,ry,a,v,ex,g,q2⟩=>?_);subst ex;obtain rfl:u=bI a:=rx;exact ⟨akn I2 g,anS hu I2 g ry λw' s3 I3 rC=>⟨v,H2,I3,rC,q2⟩⟩
theorem agc(hu:X.A.units+1<cLine)(hi:PE X i ty)(ho:PE X o td):PC X .In i o (amC ty td):=by intro ak s aj H Q I h;refine bL (hi ak s aj H _ I h) λiv s1 ⟨y,H1,I1,ry,q1⟩=>bL (ho ak s1 aj H1 _ I1 q1) λu s2 ⟨x,H2,I2,rx,a,ov,ex,g,q2⟩=>?_;subst ex;obtain rfl:u=bI a:=rx;exact alT hu I2 g ry λs3 I3=>⟨.bl ov.isSome,H2,I3,rfl,q2⟩
theorem aey(hu:X.A.units+1<cLine)(hi:PE X i ty)(ho:PE X o td):PC X .NotIn i o (al8 ty td):=by intro ak s aj H Q I h;refine bL (hi ak s aj H _ I h) λiv s1 ⟨y,H1,I1,ry,q1⟩=>bL (ho ak s1 aj H1 _ I1 q1) λu s2 ⟨x,H2,I2,rx,a,ov,ex,g,q2⟩=>?_;subst ex;obtain rfl:u=bI a:=rx;exact anx hu I2 g ry λs3 I3=>⟨.bl (!ov.isSome),H2,I3,rfl,q2⟩
theorem KH(hu:X.A.units+1<cLine)(ho:PE X o td)(hi:PE X i ty)(hv:PE X value tv)(hs:zO value (some (.Subscript o i pos')) pos.line X.env=pure false): PS X (.Assign [.Subscript o i pos'] value pos) (ahh td ty tv):=by intro ak s aj H D I h;refine wpAny_Assign_Subscript (bL (hv ak s aj H _ I h) λr s1 ⟨v,H1,I1,rv,q1⟩=>bL (ho ak s1 aj H1 _ I1 q1) λu s2 ⟨x,H2,I2,rx,q2⟩=>bL (hi ak s2 aj H2 _ I2 q2) λiv s3 ⟨y,H3,I3,ry,a,H4,ex,g,q3⟩=>?_) hs;subst ex;obtain rfl:u=bI a:=rx;exact apC hu I3 g ry rv λs4 I4=>⟨aj,H4,I4,q3⟩
theorem afu(h:bD)(hb:sysModules<h.objs.size):gV P w H (h.push { cls:=.type "dict",data:=.dict #[] }) h.objs.size (.dK []) :=
 ⟨cJ _,beq_eq_false_iff_ne.mpr (gQ (dU hb)),[],.nil,Heap.DictOf.new h⟩
theorem apE(h:bD)(hb:sysModules<h.objs.size):gV P w H (h.push { cls:=.type "dict",data:=.dict #[] }) h.objs.size (.dT []) :=
 ⟨cJ _,beq_eq_false_iff_ne.mpr (gQ (dU hb)),[],.nil,_,#[],0,fU _ rfl,⟨rfl,rfl,rfl⟩,rfl,rfl,TQ⟩
def aph:TE:=λ_ H Q=>∀ p,H p=none->Q (.ref p) (upd H p (.dK []))
def amr:TE:=λ_ H Q=>∀ p,H p=none->Q (.ref p) (upd H p (.dT []))
theorem Lw:PE X (.Dict [] [] pos) aph:=λak s aj H Q I h =>
 wpAny_Dict_empty ⟨.ref s.heap.objs.size,_,I.laid (a:=s.heap.objs.size) (o:=.dK []) (t':=s.toks) (λ_ _ q=>cj _ q) (bB _) (afu s.heap I.big),rfl,h _ (I.hok.fresh (bB _))⟩
theorem aeT:PE X (.Dict [] [] pos) amr:=λak s aj H Q I h =>
 wpAny_Dict_empty ⟨.ref s.heap.objs.size,_,I.laid (a:=s.heap.objs.size) (o:=.dT []) (t':=s.toks) (λ_ _ q=>cj _ q) (bB _) (apE s.heap I.big),rfl,h _ (I.hok.fresh (bB _))⟩
def tU(kvs more:List (Key × V)):List (Key × V):=more.foldl (λacc kv=>dH acc kv.1 kv.2) kvs
theorem KV.merge:∀{more:List (Key × V)}{rs:List (Key × aB)}{kvs:List (Key × V)}{vs:List (Key × aB)},KV more rs->KV kvs vs->KV (tU kvs more) (merged vs rs):=by intro more rs kvs vs r;unfold KV at r;induction r generalizing kvs vs with| nil=>intro q; exact q| @cons p q ps qs h t ih =>intro r0;have e:KV (dH kvs p.1 p.2) (stored vs q.1 q.2):=(by have:=r0.put p.1 h.2;rw [<- h.1]; exact this);exact ih e
theorem abu:∀(more kvs:List (Key × V)),(tU kvs more).length<=kvs.length+more.length
 | [],kvs=>by show kvs.length<=kvs.length+0; omega
 | p :: r,kvs=>by have h1:=abu r (dH kvs p.1 p.2);have h2:=yM kvs p.1 p.2;show (tU (dH kvs p.1 p.2) r).length<=_;rw [jY]; omega
structure M1(X:Cx)(o:Expr)(m:Str)(apos:Pos)(e:Expr)(cpos:Pos):Prop where
 base:attributeBase o m X.env (eval o X.env)=eval o X.env
 few:((backTo cpos (dO [e] X.env)).all (λx=>!x.1) && (backToKw cpos (keywordEach [] X.env)).all (λx=>x.1.isSome)
   && decide (([e]:List Expr).length+([]:List Hu).length+(if ([]:List Hu).isEmpty then 0 else 1)<30))=true
 line:(apos.endLine == cpos.line)=true
 trees:backTo cpos (dO [e] X.env)=[(false,eval e X.env)]
structure M2(X:Cx)(o:Expr)(m:Str)(apos:Pos)(e f:Expr)(cpos:Pos):Prop where
 base:attributeBase o m X.env (eval o X.env)=eval o X.env
 few:((backTo cpos (dO [e,f] X.env)).all (λx=>!x.1) && (backToKw cpos (keywordEach [] X.env)).all (λx=>x.1.isSome)
   && decide (([e,f]:List Expr).length+([]:List Hu).length+(if ([]:List Hu).isEmpty then 0 else 1)<30))=true
 line:(apos.endLine == cpos.line)=true
 trees:backTo cpos (dO [e,f] X.env)=[(false,eval e X.env),(false,eval f X.env)]
def IsD(H:Hp)(a:au):Prop:=(∃ kvs,Rd H a (.dK kvs))\/∃ kvs,Rd H a (.dT kvs)
theorem TJ(I:Inv X ak aj H s)(d:IsD H a): s.TypeIs (.ref a) "dict"/\(∀ b,bI a=.ref b->∃ ob,s.heap.get? b=some ob/\ob.dict=none)/\(a == sysModules)=false:=by rcases d with ⟨kvs,e⟩ | ⟨kvs,e⟩;obtain ⟨_,hd,vs,_,dd⟩:=Bq I.hok e;refine ⟨dd.typeIs,λb q=>?_,hd⟩;cases q;obtain ⟨ob,_,_,h1,h2,_⟩:=dd;exact ⟨ob,h1,h2.2.1⟩;obtain ⟨_,hd,xs,_,dd⟩:=Dj I.hok e;refine ⟨dd.typeIs,λb q=>?_,hd⟩;cases q;obtain ⟨ob,_,_,h1,h2,_⟩:=dd;exact ⟨ob,h1,h2.2.1⟩
theorem amb{d:V}{o:Option V}(hu:A.units+1<cLine)(I:Inv X ak aj H s)(g:ji H a y o)(ry:cI y u)(rd:cI d r)(h:∀ w' s',Inv X ak aj H s'->cI (o.getD d) w'->Q w' s'): aF (aR X.prog X.w) A (call (.builtin "dict.get") [.ref a,u,r]) Q E s:=by rcases g with ⟨kvs,k,e,ey,l⟩ | ⟨kvs,k,b,e,ey,eb,l⟩;subst ey;obtain ⟨z,hd,vs,rel,dd⟩:=Bq I.hok e;refine Ob ZM dd.typeIs ad8 (adL _ _ _) (meets_dict_get_default (eU X.prog X.w) a (yH ry) hd r) ⟨_,dd.mapOf,h _ _ (I.tok _) ?_⟩;rw [l];exact (rel.val k).getD rd;subst ey;cases (show u=bI b from ry);obtain ⟨z,hd,xs,rel,dd⟩:=Dj I.hok e;refine Ob ZM dd.typeIs ad8 (adL _ _ _) (meetsH_dict_get_default (tupleKind (eU X.prog X.w)) a b hd r) ⟨GF hu,k,xs,yE I.hok eb,dd,h _ _ (I.tok _) ?_⟩;rw [l];exact (rel.val k).getD rd
def anl(td ty tx:TE):TE:=fun aj H Q=>td aj H λx H1=>∃ a,x=.ref a/\IsD H1 a/\ty aj H1 λy H2=>tx aj H2 λz H3=>∃ o,ji H3 a y o/\Q (o.getD z) H3
def aiB(td ty:TE):TE:=fun aj H Q=>td aj H λx H1=>∃ a,x=.ref a/\IsD H1 a/\ty aj H1 λy H2=>kJ λkvs k v=>wB (H2 a=some (.dK kvs)) (y=kV k) (dW kvs k=some v) (Q v (upd H2 a (.dK (lY kvs k))))
variable{apos cpos:Pos}
theorem aln{f:Expr}(hu:X.A.units+1<cLine)(ho:PE X o td)(he:PE X e ty)(hf:PE X f tx)(m:M2 X o "get" apos e f cpos):PE X (.Call (.Attribute o "get" apos) [e,f] [] cpos) (anl td ty tx):=by intro ak s aj H Q I h;refine Yh m.base m.few m.line NQ ZM PySem.F.type_dict_get (bL (ho ak s aj H _ I h) λu s1 ⟨x,H1,I1,rx,a,ex,d,q1⟩=>?_);subst ex;obtain rfl:u=bI a:=rx;obtain ⟨t1,t2,_⟩:=TJ I1 d;refine ⟨t1,t2,?_⟩;rw [m.trees];refine QD rfl (K6 (Hr (bL (he ak s1 aj H1 _ I1 q1) λiv s2 ⟨y,H2,I2,ry,q2⟩ => Hr (bL (hf ak s2 aj H2 _ I2 q2) λfv s3 ⟨z,H3,I3,rz,ov,g,q3⟩=>Np ?_))));exact amb hu I3 g ry rz λw' s4 I4 rC=>⟨_,H3,I4,rC,q3⟩
theorem ajd(ho:PE X o td)(he:PE X e ty)(m:M1 X o "pop" apos e cpos):PE X (.Call (.Attribute o "pop" apos) [e] [] cpos) (aiB td ty):=by intro ak s aj H Q I h;refine Yh m.base m.few m.line NQ ac0 PySem.F.type_dict_pop (bL (ho ak s aj H _ I h) λu s1 ⟨x,H1,I1,rx,a,ex,d,q1⟩=>?_);subst ex;obtain rfl:u=bI a:=rx;obtain ⟨t1,t2,_⟩:=TJ I1 d;refine ⟨t1,t2,?_⟩;rw [m.trees];refine QD rfl (K6 (Hr (bL (he ak s1 aj H1 _ I1 q1) λiv s2 ⟨y,H2,I2,ry,kvs,k,v,ea,ey,l,q2⟩=>Np ?_)));subst ey;exact aoT I2 ea ry l (.inl rfl) λw' s3 I3 rC=>⟨v,_,I3,rC,q2⟩
namespace Att
open PySem PySem.W PySem.Calls PyProof.Rows
variable{P:Params}
theorem aou:∀(ns:List Int)(vs:List aB),WellAll P h vs (ns.map WData.int)->Od vs ns:=by intro ns;induction ns with| nil =>intro vs w;rw [Gi] at w;cases w;exact .nil| cons n ns ih =>intro vs w;rw [eV] at w;cases w with| cons a b =>cases a;exact .cons _ _ (ih _ b)
theorem alv{l:OpenLaw}(hn:l.most=some n){args:List WData}{vals:List aB}(hpre:l.row.toRowW.claim.pre args=true)(hwl:WellAll P h vals args):
   ∃ a vs ns,vals=[bI a]/\args=[WData.list (ns.map WData.int)]/\h.get? a=some { cls:=.type "list",data:=.seq vs.toArray }/\Od vs ns/\ns.length<=n:=by
 have hsh:WShape.hasAll [] args [.list .int]=true:=(pre_splitW hpre).1;have hc:l.pre.holds [] { args:=args }=true:=(pre_splitW hpre).2;obtain ⟨d,r,rfl,h1,h2⟩:=hasAllW_cons hsh;obtain rfl:=hasAllW_nil h2;obtain ⟨xs,rfl,h3⟩:=hasW_list h1;obtain ⟨ns,rfl⟩:=items_int h3
 have hlen:ns.length<=n:=by
   unfold OpenLaw.pre at hc
   have h4:(WTm.not (.lt (.lit (.int (n:Int))) (.len (.arg 0)))).holds [] { args:=[.list (ns.map .int)] }=true:=by
     have h4:=(holds_andW hc).1;rw [hn] at h4;exact h4
   have h5:=condW_of h4 (w_not (w_lt w_lit (w_len_list (w_arg rfl))));rw [aU] at h5;refine VP λq=>?_
   have q':(n:Int)<((ns.length:Nat):Int):=by omega
   first
     | (rw [fj q'] at h5; exact bK h5 (by decide))
     | (simp at h5; omega)
 cases hwl with
 | cons w1 w2 =>
   cases w2;cases w1 with
   | list ho hall=>exact ⟨_,_,ns,rfl,rfl,ho,aou ns _ hall,hlen⟩
theorem apz(l:OpenLaw)(args:List WData):l.row.toRowW.claim.post args (.bool true) args=true :=
 postW_of (r:=l.row.toRowW) (X:=(true == true))
   (show WShape.has [] (.bool true) .bool=true by first | rfl | decide | simp [WShape.has,WShape.arms,WShape.armsAll])
   (show (WTm.eq .res (.lit (.bool true))).value [] { args:=args,res:=some (.bool true),after:=args }=some (.bool (true == true)) from w_eq_bool (w_res rfl) w_lit) rfl
end Att
theorem afQ:∀{vs:List aB}{ns:List Int},Od vs ns->bY (ns.map V.int) vs
 | _,_,.nil=>.nil
 | _,_,.cons n t h=>.cons ⟨t,rfl⟩ (afQ h)
def Only(H:Hp):Prop:=∀ b,H b=none\/∃ o xs,H b=some (.qP o (.lst xs))
theorem aom{mb:Str->Option aB}{k:Nat}{s₁:aH}{vs:List aB}{ns:List Int}(KX:K.In s₁.heap)(hns:s₁.heap.Ns qT mg)(hb:s₁.heap.Ns builtinsNs mb)(hbb:∀ x:Str,x≠"__name__"->mb x=bootBuiltins x)(hlim:s₁.heap.NoLimit)(hg:s₁.gens=#[])(ha:s₁.heap.get? a=some { cls:=.type "list",data:=.seq vs.toArray })(hi:Od vs ns)(hl:ns.length<=aL)(hr:jU k callerA)(F:∀ base:bD,K.In base->base.Ns qT mg->bM P w K mg base CX k fa fd [x] sp)(hbind:∀(s:aH)(u:aB),FJ s fd ⟨[u],[]⟩ [(x,u)])(hsp:∀ H:Hp,Only H->aY K H a (ns.map V.int)->sp [.ref a] H (λv _=>v=.bl true) λ_ _ _=>False)(hCX:∀ H e s',CX [] H s₁ (λ_ _ _=>False) e s'->False): kI (aR P w) callerA (.call (.ref fa) ⟨[.ref a],[]⟩) (λr s'=>r=.ok (.ret (.bool true))/\OldK s₁.heap s'.heap/\s'.os=s₁.os/\yG s'.gens) s₁:=by have rv:=afQ hi;have lenV:=hi.length;have core:∀ H:Hp,Only H->aY K H a (ns.map V.int)->eG P w H s₁.heap->(∀ b,H b≠none->b=a)->(H a≠none->K.lookup a=none) -> kI (aR P w) callerA (.call (.ref fa) ⟨[.ref a],[]⟩) (λr s'=>r=.ok (.ret (.bool true))/\OldK s₁.heap s'.heap/\s'.os=s₁.os/\yG s'.gens) s₁:=(by intro H hO hS hok hA hK;have ae5:∀{b:au}{o:Obj},s₁.heap.get? b=some o->H b=none->(zU s₁.heap H).get? b=some o:=λe n=>agL e n;have noA:∀{b:au}{o:Obj}{es:Array Vj}{ep:Nat},s₁.heap.get? b=some o->o.data=.dict es ep->H b=none:=λ{b o es ep} e d=>(by cases q:H b with| none=>rfl| some u =>have e':b=a:=hA b (by rw [q]; simp);subst e';rw [ha] at e; cases e;have d':Ko vs.toArray _=Data.dict es ep:=d;cases d');have nsK:∀{b:au}{m:Str->Option aB},s₁.heap.Ns b m->(zU s₁.heap H).Ns b m:=λ{b m} ⟨o,es,ep,e,d,r⟩=>⟨o,es,ep,ae5 e (noA e d),d,r⟩;have hKb:K.In (zU s₁.heap H):=λb o e=>ae5 (KX b o e) (by cases q:H b with| none=>rfl| some u =>have e':b=a:=hA b (by rw [q]; simp);subst e';rw [hK (by rw [q]; simp)] at e; cases e);have hM:Mod K mg (zU s₁.heap H):=⟨hKb,nsK hns,⟨mb,nsK hb,hbb⟩,let ⟨mc,h1,h2⟩:=hlim; ⟨mc,nsK h1,h2⟩⟩;have e0:RB P w K mg (zU s₁.heap H) callerA [] s₁ H:=⟨rfl,hM,λb o e=>ai9 e,Nat.le_of_eq (apB _ _),trivial,λb hb=>bK (show b∈([]:List au) from hb) (by simp),hok,.of_eq hg⟩;refine uD ((F _ hKb (nsK hns)).run callerA [] s₁ H ⟨[.ref a],[]⟩ [.ref a] [.ref a] _ _ hr e0 (hbind s₁ (.ref a)) (.cons rfl .nil) (hsp H hO hS)) λr s' h=>?_;cases r with| error e=>exact (hCX H e s' h).elim| ok fl =>cases fl with| next=>exact qp h| brk=>exact qp h| cont=>exact qp h| ret u =>obtain ⟨v,H',os,bare,un,hok',r',q⟩:=h;have q':v=.bl true:=q;subst q';obtain rfl:u=xX true:=r';refine ⟨rfl,OldK.of_keep λb o e=>?_,os,bare⟩;cases q:H b with| none=>exact un.keep b o e q (by intro z; exact bK (show b∈([]:List au) from z) (by simp)) (by simp)| some u =>rcases hO b with z | ⟨ob,xs,z⟩;rw [q] at z; cases z;have z2:=un.qx b ob _ z;obtain ⟨e1,_⟩:=hok b _ z;obtain ⟨e2,_⟩:=hok' b _ z2;rw [e] at e1; cases e1;exact e2);cases hk:K.lookup a with| some o =>have e:=KX a o hk;rw [ha] at e;cases e;refine core (λ_=>none) (λ_=>.inl rfl) (.inr ⟨_,vs.toArray,_,hk,rfl,rfl,rfl,by rw [gH,lenV]; exact hl,by simpa using rv⟩) (λb u z=>by have z':(none:Option HO)=some u:=z; cases z') (λb z=>bK rfl z) λz=>bK rfl z| none =>refine core (λb=>if b=a then some (.qP { cls:=.type "list",data:=.seq vs.toArray } (.lst (ns.map V.int))) else none) (λb=>?_) (.inl (.inr ⟨{ cls:=.type "list",data:=.seq vs.toArray },bh rfl⟩)) (λb u z=>?_) (λb z=>?_) λ_=>hk;by_cases hb:b=a;exact .inr ⟨_,_,bh hb⟩;exact .inl (aV hb);by_cases hb:b=a;have z':=(bh hb).symm.ao z;cases z';subst hb;exact ⟨ha,by rw [aU]; exact hl,vs,_,rv,ha⟩;have z':=(aV hb).symm.ao z;cases z';by_cases hb:b=a;exact hb;exact bK (aV hb) z
def Bh(s:cD):Arguments:=match s with
 | .FunctionDef _ a _ _ _ _ _ _ _ _=>a
 | _=>{ posonlyargs:=[],args:=[],vararg:=none,kwonlyargs:=[],kw_defaults:=[],kwarg:=none,defaults:=[] }
def yC(s:cD):List cD:=match s with
 | .FunctionDef _ _ b _ _ _ _ _ _ _=>b
 | _=>[]
def bN(s:cD):Scope:=match s with
 | .FunctionDef _ _ _ _ _ _ sc _ _ _=>sc
 | _=>{ kind:=.function,names:=[],isGenerator:=false,isCoroutine:=false }
abbrev bR:zF:=λ_ _ _ _ _ _=>False
abbrev E0:XK:=λ_ _ _=>False
theorem ah1:Passes bR X E0:=λ_ _ _ _ _ _ _ h=>h.elim
structure tG(K:cH)(x qual:Str)(st:cD)(f:au)(fd:oA):Prop where
 ex:∃(oc:aB)(od:Option au)(kV doc pm:aB)(an:Option au)(cdv ct:aB)(osl:Array (Option aB)),
   fd=xP x qual (Bh st) (yC st) (bN st) .none kV doc pm an cdv ct/\K.lookup f=some ⟨oc,od,.func fd,osl⟩/\Yr K cdv qual=true
 kp:vY K (.ref f)=true
theorem tG.ok{st:cD}{k:Nat}(F:tG K x qual st f fd)(S:fB N ps (bN st))(len:∀ vs H Q E,sp vs H Q E->vs.length=ps.length)(hbody:∀(cdv:aB)(A:iw)(outer:List Env)(s:aH)(H:Hp)(vs:List V)(Q:VK)(E:XK),jU k (A.deeper (envOfC qual (bN st) s.heap.objs.size f cdv))->sp vs H Q E -> ∃ t,qD (wK bR P w K mg base N qual (bN st) f cdv A outer s H E).nox (yC st) t/\t { nx:=λ_ H'=>Q .non H',rt:=Q } (start N vs) H):bM P w K mg base bR (k+1) f fd ps sp:=by obtain ⟨oc,od,kV,doc,pm,an,cdv,ct,osl,rfl,lk,hcd⟩:=F.ex;refine adU lk hcd S len λA outer s H vs Q E hr hsp=>?_;obtain ⟨t,h,q⟩:=hbody cdv A outer s H vs Q E hr hsp;exact ⟨t,h.nox,q⟩
theorem tG.binds{st:cD}(F:tG K x qual st f fd)(h:∀(kV doc pm:aB)(an:Option au)(cdv ct:aB)(us:List aB),us.length=ps.length->bindArgs (xP x qual (Bh st) (yC st) (bN st) .none kV doc pm an cdv ct) ⟨us,[]⟩=pure (ps.zip us)):dw K fd ps []:=by obtain ⟨oc,od,kV,doc,pm,an,cdv,ct,osl,rfl,lk,hcd⟩:=F.ex;exact .all (h kV doc pm an cdv ct)
theorem RN{st:cD}{kV:aB}(l:K.lookup f=some ⟨oc,od,.func (xP x qual (Bh st) (yC st) (bN st) .none kV doc pm an cdv ct),osl⟩)(c:Yr K cdv qual=true)(k:vY K (.ref f)=true):tG K x qual st f (xP x qual (Bh st) (yC st) (bN st) .none kV doc pm an cdv ct):=⟨⟨oc,od,kV,doc,pm,an,cdv,ct,osl,rfl,l,c⟩,k⟩
theorem kY{k:Nat}(hr:jU k A):A.units+1<cLine:=aeu (adM (by decide:1<=64) _) hr.units
theorem gB{c A B:Prop}[Decidable c](h1:c->A)(h2:¬ c->B):if c then A else B:=by by_cases h:c;rw [bh h];exact h1 h;rw [aV h];exact h2 h
def aD(H H':Hp):Prop:=∀ b o,H b=some o->H' b=some o
theorem aD.refl(H:Hp):aD H H:=λ_ _ h=>h
theorem aD.ao(a:aD H H1)(b:aD H1 H2):aD H H2:=λc o h=>b c o (a c o h)
theorem V8:jz X (.builtin "len") (λxs H Q=>∃ a kvs,xs=[V.ref a]/\H a=some (.dK kvs)/\Q (.int kvs.length) H):=by intro ak s aj H xs us Q I r h;obtain ⟨a,kvs,rfl,ha,q⟩:=h;obtain ⟨u,rfl,ru⟩:=nM r;cases ru;exact aik I (.inl ha) λt s' I'=>⟨.int kvs.length,H,I',⟨t,rfl⟩,q⟩
section
variable{κ:Type}[DecidableEq κ]
theorem aoA{kvs:List (κ × V)}{k:κ}(h:dW kvs k=some v):k∈kvs.map (·.1):=by have q:(kvs.any λkv=>decide (kv.1=k))=true:=(by rw [Gy,h];all_goals rfl);obtain ⟨p,hp,e⟩:=Ej.mp q;exact cG.mpr ⟨p,hp,iH e⟩
theorem ao7{p:κ × V}{r:List (κ × V)}{k:κ}(e:p.1=k):lY (p :: r) k=lY r k:=by unfold lY;rw [Kw,aV (by simp [e])]
theorem akg{p:κ × V}{r:List (κ × V)}{k:κ}(e:¬ p.1=k):lY (p :: r) k=p :: lY r k:=by unfold lY;rw [Kw,bh (by simp [e])]
end
end L2
set_option maxHeartbeats 4000000
namespace L2
open PySem PySem.Spec PyProof.Rows
def K8(scope sc:Scope):Scope :=
 { scope with names:=scope.names.map λ(n,k)=>if (k == .free && sc.kind == .function && sc.names.lookup n == some .cell) then (n,.cell) else (n,k) }
structure BI where
 cells:List (Str × au)
 C:au
 s:aH
 H:Hp
 fp:List au
 ak:List (au × Obj)
def uc(scope:Scope)(cells:List (Str × au))(C:au)(env:Env):Env :=
 { scope:=K8 scope env.scope,locals:=C,globals:=env.globals,cells:=cells,qual:=env.qual,func:=none,code:=env.code,frame:=env.frame,builtins:=env.builtins }
def blk(X:Cx)(scope:Scope)(N:List Str)(b:BI):Cx where
 prog:=X.prog
 w:=X.w
 K:=X.K
 mg:=X.mg
 base:=X.base
 A:=X.A
 N:=N
 s₀:=b.s
 H₀:=b.H
 env:=uc scope b.cells b.C X.env
 outer:=X.stack
 stack:=X.stack
 ex:=b.fp
 fn:=λx=>scope.names.lookup x == some .cell
 calm:=X.calm
 pn:=X.pn++b.ak
 xe:=λ_ _=>False
def pG(env:Env):List (Str × uR)->List (Str × au)->List (Str × au)
 | [],acc=>acc
 | (n,k) :: r,acc=>if k == .free then pG env r ((n,(env.cells.lookup n).getD 0) :: acc) else pG env r acc
theorem UG(env:Env)(f:Str × uR->List (Str × au)->Sem (ForInStep (List (Str × au))))(hf:∀ n k cs,f (n,k) cs=if k == .free then (cellOf env n >>= λa=>pure (.yield ((n,a) :: cs))) else pure (.yield cs)):
   ∀(names:List (Str × uR))(acc:List (Str × au)),(∀ y∈names,y.2=.free->∃ c,env.cells.lookup y.1=some c)->forIn names acc f=(pure (pG env names acc):Sem _)
 | [],acc,_=>by rw [Q7]; rfl
 | (n,k) :: r,acc,h=>by rw [Zz,hf];have hr:∀ y∈r,y.2=.free->∃ c,env.cells.lookup y.1=some c:=λy hy=>h y (dD _ hy);cases hk:k == lJ with| true =>obtain ⟨c,hc⟩:=h (n,k) dg (beq_iff_eq.mp hk);have e1:cellOf env n=pure c:=(by unfold cellOf; rw [show env.cells.lookup n=some c from hc]);have e2:pG env ((n,k) :: r) acc=pG env r ((n,c) :: acc):=(by show (if (k == lJ)=true then _ else _)=_;rw [bh hk,show env.cells.lookup n=some c from hc]; rfl);rw [e2,bh rfl,e1];exact UG env f hf r ((n,c) :: acc) hr| false =>have e2:pG env ((n,k) :: r) acc=pG env r acc:=(by show (if (k == lJ)=true then _ else _)=_;rw [aV (by rw [hk]; exact gO)]);rw [e2,aV gO];exact UG env f hf r acc hr
variable{scope:Scope}{env:Env}
theorem Vq(h:∀ y∈scope.names,y.2=.free->∃ c,env.cells.lookup y.1=some c):closureFor scope env=pure (pG env scope.names []):=by simp only [closureFor];rw [UG env _ (λn k cs=>by cases hk:k == lJ <;> simp [hk]) scope.names [] h];rfl
theorem Rk{env:Env}{x:Str}{c:au}:∀(names:List (Str × uR))(acc:List (Str × au)),(pG env names acc).lookup x=some c->acc.lookup x=some c\/((x,lJ)∈names/\c=(env.cells.lookup x).getD 0)
 | [],_,h=>.inl h
 | (n,k) :: r,acc,h=>by unfold pG at h;by_cases hk:(k == lJ)=true;rw [bh hk] at h;rcases Rk r _ h with z | ⟨z,e⟩;rw [yg] at z;(cases hx:x == n with| true =>rw [hx] at z;have e1:x=n:=beq_iff_eq.mp hx;have e2:k=lJ:=beq_iff_eq.mp hk;exact .inr ⟨by rw [e1,e2]; exact dg,by rw [e1]; exact (jK z).symm⟩| false=>rw [hx] at z; exact .inl z);exact .inr ⟨dD _ z,e⟩;rw [aV hk] at h;rcases Rk r _ h with z | ⟨z,e⟩;exact .inl z;exact .inr ⟨dD _ z,e⟩
theorem Zv{env:Env}{x:Str}:∀(names:List (Str × uR))(acc:List (Str × au)),((x,lJ)∈names\/∃ c,acc.lookup x=some c)->∃ c,(pG env names acc).lookup x=some c
 | [],_,h=>h.elim (λz=>nomatch z) λz=>z
 | (n,k) :: r,acc,h=>by unfold pG;by_cases hk:(k == lJ)=true;rw [bh hk];refine Zv r _ ?_;by_cases hx:x=n;exact .inr ⟨_,by rw [yg,beq_iff_eq.mpr hx]⟩;rcases h with z | ⟨c,z⟩;rcases dF.mp z with e | z;exact bK (fG cu e) hx;exact .inl z;exact .inr ⟨c,by rw [yg,beq_eq_false_iff_ne.mpr hx]; exact z⟩;rw [aV hk];refine Zv r _ ?_;rcases h with z | z;rcases dF.mp z with e | z;have e2:lJ=k:=fG iY e;exact bK (beq_iff_eq.mpr e2.symm) hk;exact .inl z;exact .inr z
theorem FZ:∀(names:List (Str × uR))(n:Nat)(acc:List (Str × au)),cellsFrom n names acc=cellsFrom n names []++acc
 | [],_,_=>rfl
 | (x,k) :: r,n,acc=>by unfold cellsFrom;split;rw [FZ r (n+1) ((x,n) :: acc),FZ r (n+1) [(x,n)],oU]; rfl;exact FZ r n acc
theorem QB{x:Str}{c:au}:∀(names:List (Str × uR))(n:Nat)(acc:List (Str × au)),(x,c)∈cellsFrom n names acc->(x,c)∈acc\/(x,wY)∈names
 | [],_,_,h=>.inl h
 | (y,k) :: r,n,acc,h=>by unfold cellsFrom at h;split at h;rename_i hk;rcases QB r _ _ h with z | z;rcases dF.mp z with e | z;have e1:x=y:=fG cu e;rw [e1,<- beq_iff_eq.mp hk]; exact .inr dg;exact .inl z;exact .inr (dD _ z);rcases QB r _ _ h with z | z;exact .inl z;exact .inr (dD _ z)
theorem lookup_append{aJ:Type}{x:Str}:∀(l m:List (Str × aJ)),(l++m).lookup x=match l.lookup x with | some c=>some c | none=>m.lookup x
 | [],m=>rfl
 | (y,c) :: l,m=>by rw [Xd,yg,yg];cases x == y with| true=>rfl| false=>exact lookup_append l m
theorem acv{aJ:Type}{x:Str}:∀{l:List (Str × aJ)},(∀ c,(x,c) ∉ l)->l.lookup x=none
 | [],_=>rfl
 | (y,c) :: l,h=>by rw [yg];have hx:x≠y:=λe=>h c (by rw [e]; exact dg);rw [beq_eq_false_iff_ne.mpr hx];exact acv λc hc=>h c (dD _ hc)
theorem af6{sc:Scope}{x:Str}:∀(names:List (Str × uR)),(names.map λ(n,k)=>if (k == lJ && sc.kind == .function && sc.names.lookup n == some .cell) then (n,wY) else (n,k)).lookup x =
   (names.lookup x).map λk=>if (k == lJ && sc.kind == .function && sc.names.lookup x == some .cell) then wY else k
 | []=>rfl
 | (n,k) :: r=>by have ih:=af6 (sc:=sc) (x:=x) r;rw [eV];by_cases hc:(k == lJ && sc.kind == .function && sc.names.lookup n == some .cell)=true;show List.lookup x ((if (k == lJ && sc.kind == .function && sc.names.lookup n == some .cell)=true then (n,wY) else (n,k)) :: _)=_;rw [bh hc,yg,yg];(cases hx:x == n with| true =>have e:x=n:=beq_iff_eq.mp hx;subst e;show some wY=some (if (k == lJ && sc.kind == .function && sc.names.lookup x == some .cell)=true then wY else k);rw [bh hc]| false=>exact ih);show List.lookup x ((if (k == lJ && sc.kind == .function && sc.names.lookup n == some .cell)=true then (n,wY) else (n,k)) :: _)=_;rw [aV hc,yg,yg];cases hx:x == n with| true =>have e:x=n:=beq_iff_eq.mp hx;subst e;show some k=some (if (k == lJ && sc.kind == .function && sc.names.lookup x == some .cell)=true then wY else k);rw [aV hc]| false=>exact ih
variable{s:aH}
theorem VF{M:Hw}{A:iw}{E:aB->aH->Prop}{cl:List (Str × au)}{qual:Str}{Q:Env->aH->Prop}(hQ:Q (newEnv scope s.heap.objs.size globals (cellsFrom (s.heap.objs.size+1) scope.names cl) qual none .none (some env) builtinsNs) { s with heap:=pushCells (s.heap.push { cls:=.type "dict",data:=.dict #[] }) scope.names }): aF M A (newFunctionEnv scope globals cl [] qual none .none (some env)) Q E s:=by simp only [newFunctionEnv,adD,if_true];refine aA (wpAny_alloc ?_);refine aA (wpAny_layCells _ (λname kind cells=>by cases hkc:kind == wY <;> simp [hkc]) _ _ _ _ ?_);rw [show ({ s with heap:=s.heap.push { cls:=.type "dict",data:=.dict #[] } }:aH).heap.objs.size=s.heap.objs.size+1 from ql ..];simp only [Q7];exact aA (aO (aO hQ))
structure m6(bQ scope:Scope)(N' own cp:List Str)(ixs:List Nat):Prop where
 kind:scope.kind=.function
 nm:∀ y∈scope.names,scope.names.lookup y.1=some y.2
 free:∀ y∈scope.names,y.2=.free->bQ.names.lookup y.1=some .cell\/bQ.names.lookup y.1=some .free
 cap:∀ x∈cp,scope.names.lookup x=some .free
 ix:ixs.map (λi=>N'[i]?)=cp.map some
 nd:(own++cp).Nodup
variable{bQ:Scope}{N' own:List Str}
theorem gP{cp:List Str}{ixs:List Nat}(a:scope.kind=.function:=by rfl)(b:∀ y∈scope.names,scope.names.lookup y.1=some y.2:=by decide +kernel)(c:∀ y∈scope.names,y.2=.free->bQ.names.lookup y.1=some .cell\/bQ.names.lookup y.1=some .free:=by decide +kernel)(d:∀ x∈cp,scope.names.lookup x=some .free:=by decide +kernel)(e:ixs.map (λi=>N'[i]?)=cp.map some:=by rfl)(f:(own++cp).Nodup:=by decide +kernel):m6 bQ scope N' own cp ixs:=⟨a,b,c,d,e,f⟩
def nq(own:List Str)(ix:List Nat)(aj:St):St:=own.map (λ_=>none)++ix.map λi=>(aj[i]?).getD none
section
variable{X:Cx}{ak:List (au × Obj)}{aj:St}{H:Hp}{s:aH}
abbrev zB(s:aH)(scope:Scope):bD:=pushCells (s.heap.push { cls:=.type "dict",data:=.dict #[] }) scope.names
abbrev qX(X:Cx)(s:aH)(scope:Scope):List (Str × au):=cellsFrom (s.heap.objs.size+1) scope.names (pG X.env scope.names [])
abbrev gb(X:Cx)(ak:List (au × Obj))(s:aH)(H:Hp)(scope:Scope)(fp:List au):BI:=⟨qX X s scope,s.heap.objs.size,s,H,fp,ak⟩
theorem Rt(s:aH)(scope:Scope)(b:au)(o:Obj)(e:s.heap.get? b=some o):(zB s scope).get? b=some o:=pushCells_keeps _ _ b o (cj _ e)
theorem aap(s:aH)(scope:Scope):CellsOk (zB s scope) (s.heap.objs.size+1) (cellsFrom (s.heap.objs.size+1) scope.names []):=by have ok:=cellsFrom_ok scope.names (s.heap.push { cls:=.type "dict",data:=.dict #[] }) (s.heap.objs.size+1) [] ⟨λ_ _ hm=>(nomatch hm),JH⟩ (by rw [ql]; exact bB _);rw [ql] at ok;exact ok
variable{cap:List Str}{ix:List Nat}{x:Str}
theorem Fj(S:m6 bQ scope N' own cap ix)(hX:X.env.scope=bQ)(I:Inv X ak aj H s){c:au}(h:(qX X s scope).lookup x=some c): ((x,c)∈cellsFrom (s.heap.objs.size+1) scope.names []/\s.heap.objs.size+1<=c/\scope.names.lookup x=some .cell)\/(X.env.cells.lookup x=some c/\scope.names.lookup x=some .free):=by have h':(cellsFrom (s.heap.objs.size+1) scope.names (pG X.env scope.names [])).lookup x=some c:=h;rw [FZ,lookup_append] at h';cases e:(cellsFrom (s.heap.objs.size+1) scope.names []).lookup x with| some c' =>rw [e] at h';cases h';have m:=Cw e;refine .inl ⟨m,((aap s scope).empty _ _ m).2,?_⟩;rcases QB _ _ _ m with z | z;exact nomatch z;exact S.nm _ z| none =>rw [e] at h';rcases Rk _ _ h' with z | ⟨z,ec⟩;exact nomatch z;have hf:=S.free _ z rfl;rw [<- hX] at hf;obtain ⟨c',e'⟩:=I.ok.has x hf;rw [e'] at ec;exact .inr ⟨by rw [e',ec]; rfl,S.nm _ z⟩
theorem abz(S:m6 bQ scope N' own cap ix)(hX:X.env.scope=bQ)(I:Inv X ak aj H s)(hx:scope.names.lookup x=some .free): ∃ c,X.env.cells.lookup x=some c/\(qX X s scope).lookup x=some c:=by have m:=Cw hx;have hf:=S.free _ m rfl;rw [<- hX] at hf;obtain ⟨c,e⟩:=I.ok.has x hf;refine ⟨c,e,?_⟩;have n1:(cellsFrom (s.heap.objs.size+1) scope.names []).lookup x=none:=acv λc' hc'=>(by rcases QB _ _ _ hc' with z | z;exact nomatch z;have:=S.nm _ z;rw [hx] at this;cases this);obtain ⟨c',e'⟩:=Zv (env:=X.env) (x:=x) scope.names [] (.inl m);show (cellsFrom (s.heap.objs.size+1) scope.names (pG X.env scope.names [])).lookup x=some c;rw [FZ,lookup_append,n1];show (pG X.env scope.names []).lookup x=some c;rcases Rk _ _ e' with z | ⟨_,z⟩;exact nomatch z;rw [e',z,e]; rfl
theorem kindB{sc:Scope}:(K8 scope sc).names.lookup x=(scope.names.lookup x).map λk=>if (k == lJ && sc.kind == .function && sc.names.lookup x == some .cell) then wY else k:=af6 scope.names
variable{h':bD}
theorem afP(S:m6 bQ scope X.N own cap ix)(hX:X.env.scope=bQ)(I:Inv X ak aj H s){m:Str->Option aB}(keep:∀ x c v,X.env.cells.lookup x=some c->s.heap.IsCell c v->h'.IsCell c v)(i:Nat)(x:Str)(v:V)(e1:(own++cap)[i]?=some x)(e2:(nq own ix aj)[i]?=some (some v)):∃ u,cI v u/\Look (uc scope (qX X s scope) s.heap.objs.size X.env) h' m x u:=by have hi:¬ i<own.length:=λhi=>(by unfold nq at e2;rw [Dm (by simpa using hi),cX] at e2;cases q:own[i]? with| none=>rw [q] at e2; cases e2| some y=>rw [q] at e2; cases e2);have e1':cap[i-own.length]?=some x:=(by rw [Cv (by omega)] at e1;exact e1);have e2':∃ k,ix[i-own.length]?=some k/\aj[k]?=some (some v):=(by unfold nq at e2;rw [Cv (by simpa using VP hi),cX,aU] at e2;cases q:ix[i-own.length]? with| none=>rw [q] at e2; cases e2| some k =>rw [q] at e2;have e3:(aj[k]?).getD none=some v:=jK e2;cases q2:aj[k]? with| none=>rw [q2] at e3; cases e3| some z =>rw [q2] at e3;exact ⟨k,rfl,by rw [q2,show z=some v from e3]⟩);obtain ⟨k,hk,hv⟩:=e2';have hN:X.N[k]?=some x:=(by have z:=fG (λl=>l[i-own.length]?) S.ix;simp only [cX] at z;rw [hk,e1'] at z;exact jK z);have hx:=S.cap x (dB e1');have m':=Cw hx;have hf:=S.free _ m' rfl;rw [<- hX] at hf;obtain ⟨m0,_,hl⟩:=I.loc;obtain ⟨u,r,l⟩:=hl k x v hN hv (hf.elim (λz=>.inr (.inl z)) λz=>.inr (.inr z));refine ⟨u,r,?_⟩;have l':∃ c,X.env.cells.lookup x=some c/\s.heap.IsCell c (some u):=(by rcases l with ⟨z,_⟩ | ⟨_,c,z,q⟩;rcases hf with y | y;rw [show X.env.kindOf x=some .cell from y] at z; cases z;rw [show X.env.kindOf x=some .free from y] at z; cases z;exact ⟨c,z,q⟩);obtain ⟨c,ec,hc⟩:=l';obtain ⟨c',ec',eb⟩:=abz S hX I hx;rw [ec] at ec';cases ec';refine .inr ⟨?_,c,eb,keep x c _ ec hc⟩;have kb:(uc scope (qX X s scope) s.heap.objs.size X.env).kindOf x=some (if (lJ == lJ && X.env.scope.kind == .function && X.env.scope.names.lookup x == some .cell) then wY else lJ):=(by show (K8 scope X.env.scope).names.lookup x=_;rw [kindB,hx]; rfl);rw [kb];by_cases q:(lJ == lJ && X.env.scope.kind == .function && X.env.scope.names.lookup x == some .cell)=true;rw [bh q]; exact .inl rfl;rw [aV q]; exact .inr rfl
variable{fp:List au}
theorem SX(S:m6 bQ scope X.N own cap ix)(hX:X.env.scope=bQ)(I:Inv X ak aj H s)(hf:∀ b∈fp,jA X ak H b)(ho:∀ b∈fp,∃ o,s.heap.get? b=some o): Inv (blk X scope (own++cap) (gb X ak s H scope fp)) [] (nq own ix aj) H { s with heap:=zB s scope }:=by have kp:=Rt s scope;have own1:=aap s scope;have ltC:∀ x c,X.env.cells.lookup x=some c->c<s.heap.objs.size:=λx c e=>(by obtain ⟨v,o,e',_⟩:=I.cell x c e;exact bW e');have uE:∀ b∈fp,b<s.heap.objs.size:=λb hb=>let ⟨_,e⟩:=ho b hb; bW e;have aaZ:∀ b,b≠X.env.locals->b ∉ X.fs->b ∉ frs X.stack:=λb h1 h2 hb=>(by rcases dF.mp (I.Om b hb) with e | e;exact h1 e;exact h2 e);refine ⟨⟨I.ok.mod,S.kind,I.ok.glob,I.ok.blt,bB _,λx y c h1 h2=>?_,λx hx=>?_,λx c hx h=>?_,I.ok.hd,I.ok.frames,.inl rfl,λb hb=>⟨?_,λx c h=>?_⟩,I.bs,gw I.ok.zM I.sz,λb o e hb=>?_,λb hb=>?_,I.stack,I.PK⟩,rfl,I.bare,Un.kept kp,⟨λ_=>none,?_,λi x v e1 e2 _=>afP S hX I (λx c v _ hc=>hc.keeps kp) i x v e1 e2⟩,λx c h=>?_,I.hok.fresh (bB _),λx c h=>?_,λp hp=>?_,I.hok.kept kp,?_⟩;rcases Fj S hX I h1 with ⟨m1,l1,_⟩ | ⟨m1,_⟩ <;> rcases Fj S hX I h2 with ⟨m2,l2,_⟩ | ⟨m2,_⟩;exact name_of_addr own1.apart m1 m2;exact bK (kO (ltC _ _ m2) (Vc l1)) (uL _);exact bK (kO (ltC _ _ m1) (Vc l2)) (uL _);exact I.ok.inj x y c m1 m2;have hx':(K8 scope X.env.scope).names.lookup x=some .cell\/(K8 scope X.env.scope).names.lookup x=some .free:=hx;rw [kindB] at hx';(cases q:scope.names.lookup x with| none=>rw [q] at hx'; rcases hx' with z | z <;> cases z| some k =>rw [q] at hx';cases k with| free=>obtain ⟨c,_,e⟩:=abz S hX I q; exact ⟨c,e⟩| cell =>obtain ⟨c,e⟩:=Uq (sc:=scope) (n:=s.heap.objs.size+1) q;refine ⟨c,?_⟩;show (cellsFrom (s.heap.objs.size+1) scope.names (pG X.env scope.names [])).lookup x=some c;rw [FZ,lookup_append,e]| _=>rcases hx' with z | z <;> cases z);have hx':(scope.names.lookup x == some .cell)=true:=hx;rcases Fj S hX I h with ⟨_,l1,_⟩ | ⟨_,z⟩;show s.heap.objs.size<=c; omega;rw [z] at hx'; exact bK hx' (by decide);exact dU (uE b hb);rcases Fj S hX I h with ⟨_,l1,_⟩ | ⟨z,_⟩;intro z; rw [z] at l1; exact bK (kO (uE b hb) (Vc l1)) (uL _);exact (hf b hb).2.2.2.2.1 x c z;rcases (hf b hb).2.2.2.1 with z | z;exact I.ok.Iw b o e z;exact bK (kO (kO (bW e) I.ok.zM) z) (uL _);exact aaZ b (hf b hb).2.1 (hf b hb).2.2.1;exact (Heap.Ns.new s.heap (.type "dict")).keeps (pushCells_keeps _ _);rcases Fj S hX I h with ⟨m1,_,_⟩ | ⟨z,_⟩;exact ⟨none,(own1.empty _ _ m1).1⟩;obtain ⟨v,q⟩:=I.cell x c z;exact ⟨v,q.keeps kp⟩;rcases Fj S hX I h with ⟨_,l1,_⟩ | ⟨z,_⟩;exact I.hok.fresh (by omega);exact I.oO x c z;have hp':p∈X.pn++ak:=(by rcases fQ.mp hp with z | z;exact z;exact nomatch z);obtain ⟨e,n,ne,nf,d⟩:=I.pin p hp';exact ⟨kp _ _ e,n,dU (bW e),aaZ _ ne nf,d⟩;unfold nq;show (own.map (λ_=>(none:Option V))++ix.map λi=>(aj[i]?).getD none).length=(own++cap).length;have z:=fG rJ S.ix;rw [aU,aU] at z;rw [cQ,cQ,aU,aU,z]
variable{bJ:St}{H':Hp}{s':aH}
theorem acJ(S:m6 bQ scope X.N own cap ix)(hX:X.env.scope=bQ)(I:Inv X ak aj H s)(hf:∀ b∈fp,jA X ak H b)(J:Inv (blk X scope (own++cap) (gb X ak s H scope fp)) pl bJ H' s'):Inv (blk X scope (own++cap) (gb X ak s H scope fp)) pl (nq own ix aj) H' s':=by obtain ⟨m,hn,_⟩:=id J.loc;refine ⟨J.ok,J.os,J.bare,J.base,⟨m,hn,λi x v e1 e2 _=>afP S hX I (λx c v ec hc=>?_) i x v e1 e2⟩,J.cell,J.free,J.oO,J.pin,J.hok,?_⟩;obtain ⟨o,e,d⟩:=hc;obtain ⟨sl,e'⟩:=J.base.any e (I.oO x c ec) λhb=>(hf c hb).2.2.2.2.1 x c ec rfl;exact ⟨_,e',d⟩;have z:=fG rJ S.ix;rw [aU,aU] at z;show (nq own ix aj).length=(own++cap).length;unfold nq;rw [cQ,cQ,aU,aU,z]
theorem Lg(I:Inv X ak aj H s)(hf:∀ b∈fp,jA X ak H b)(J:Inv (blk X scope (own++cap) (gb X ak s H scope fp)) [] bJ H' s')(hs:mD s.heap.objs.size s'.heap h'):Inv X ak aj H' { s' with heap:=h' }:=by have I1:Inv X ak aj H' s':=I.call' (ch:=fp) J.os J.base J.hok J.bare λb hb=>⟨(hf b hb).2.2.2.1,(hf b hb).2.1,(hf b hb).2.2.2.2.1,(hf b hb).2.2.2.2.2⟩;have n1:s.heap.objs.size≠X.env.locals:=yh I.lt;refine I1.turned (it:=s.heap.objs.size) (t':=s'.toks) (λb o hb e=>(hs.2 b hb).ao e) J.free n1 (.inr I.sz) (λx c e z=>?_) λp hp z=>?_;obtain ⟨v,o,e',_⟩:=I.cell x c e;exact bK z (dU (bW e'));exact bK z (dU (bW (I.pin p hp).1))
end
def mQ(X:Cx)(ifs:List Expr)(t:TT):Prop :=
 ∀(ak:List (au × Obj))(s:aH)(aj:St)(H:Hp)(Q:Bool->Hp->Prop),Inv X ak aj H s->t aj H Q ->
   aF (aR X.prog X.w) X.A (forIn ifs true λc r=>if r=true then do let ok <- isTrue c X.env (eval c X.env); pure (ForInStep.yield ok) else pure (ForInStep.yield r)) (TP X ak aj Q) X.xe s
def DR:TT:=λ_ H Q=>Q true H
variable{X:Cx}
theorem ig:mQ X [] DR:=λ_ _ _ H _ I h=>wpAny_tests_nil ⟨H,I,h⟩
theorem Lx{c:Expr}{t:TT}(h:PT X c t):mQ X [c] t:=λak s aj H Q I hq=>wpAny_tests_one (h ak s aj H Q I hq)
def vN(J:It)(g:TG)(tt:TT)(act:St->Hp->(Hp->Prop)->Prop)(lN:St)(End:Hp->Prop)(W:Nat->Nat->Hp->Prop):Prop :=
 ∀ i m H,W i m H->(J.stop i H/\End H)\/(J.go i H/\∀ x H',J.zP i H x H'->g x lN H' fun dY H2=>tt dY H2 λb H3 =>
   if b=true then act dY H3 λH4=>∃ m',m'<m/\W (i+1) m' H4 else ∃ m',m'<m/\W (i+1) m' H3)
def oR(D:au)(te:TE):St->Hp->(Hp->Prop)->Prop:=fun aj H R=>te aj H λy H4=>∃ zs,H4 D=some (.lst zs)/\zs.length<aL/\R (upd H4 D (.lst (zs++[y])))
def HJ(own:List Str)(ix:List Nat)(wi:TI)(g:BI->TG)(tt:BI->TT)(te:BI->TE):TE:=fun aj H Q=>wi aj H λJ H1=>∀ D,H1 D=none ->
 ∃ W:Nat->Nat->Hp->Prop,(∃ m,W 0 m (upd H1 D (.lst [])))/\∀ b,vN J (g b) (tt b) (oR D (te b)) (nq own ix aj) (λH'=>Q (.ref D) H') W
variable{ak:List (au × Obj)}{aj:St}{H:Hp}{tg iter elt:Expr}{ifs:List Expr}{pos:Pos}{cap:List Str}{ix:List Nat}{g:BI->TG}{tt:BI->TT}{te:BI->TE}
theorem ao6{fp:List au}{it D:au}{tn:Nat->bD->Prop}{End:Hp->Prop}{W:Nat->Nat->Hp->Prop}{m0:Nat}{s4:aH}(S:m6 bQ scope X.N own cap ix)(hX:X.env.scope=bQ)(I:Inv X ak aj H s)(hf:∀ b∈fp,jA X ak H b)(hc:X.calm=true)(T:Turn X.prog X.w X.K tg J fp it tn)(hg:PG (blk X scope (own++cap) (gb X ak s H scope fp)) tg (g (gb X ak s H scope fp)))(ht:mQ (blk X scope (own++cap) (gb X ak s H scope fp)) ifs (tt (gb X ak s H scope fp)))(he:PE (blk X scope (own++cap) (gb X ak s H scope fp)) elt (te (gb X ak s H scope fp)))(hW:vN J (g (gb X ak s H scope fp)) (tt (gb X ak s H scope fp)) (oR D (te (gb X ak s H scope fp))) (nq own ix aj) End W)(I4:Inv (blk X scope (own++cap) (gb X ak s H scope fp)) [] (nq own ix aj) H s4)(uJ:tn 0 s4.heap)(w0:W 0 m0 H): kI (aR X.prog X.w) X.A (.compLoop (.ListComp elt [⟨tg,iter,ifs,0⟩] scope pos) 0 (.ref it) (.ref D) (uc scope (qX X s scope) s.heap.objs.size X.env)) (λr s'=>∃ H' bJ,r=.ok .next/\Inv (blk X scope (own++cap) (gb X ak s H scope fp)) [] bJ H' s'/\End H') s4:=by have stat:∀{H':Hp}{pl:List (au × Obj)},(∀ b∈fp,H' b=none)->(∀ p∈pl,p.1 ∉ fp)->∀ b∈fp,jA (blk X scope (own++cap) (gb X ak s H scope fp)) [] H' b:=λhn _ b hb=>(by refine ⟨hn b hb,(I4.ok.zq b hb).1,I4.ok.BX b hb,.inl hb,(I4.ok.zq b hb).2,λp hp=>?_⟩;have hp':p∈X.pn++ak:=(by rcases fQ.mp hp with z | z;exact z;exact nomatch z);exact (hf b hb).2.2.2.2.2 p hp');refine Z8 rfl (λn s'=>∃ i H',Inv (blk X scope (own++cap) (gb X ak s H scope fp)) [] (nq own ix aj) H' s'/\tn i s'.heap/\(∀ b∈fp,H' b=none)/\W i n H') ?_ m0 ⟨0,H,I4,uJ,λb hb=>(hf b hb).1,w0⟩;rintro n s3 ⟨i,H3,I3,st3,zY,w3⟩;show aF _ X.A ((compTurn (.ListComp elt [⟨tg,iter,ifs,0⟩] scope pos) 0 (.ref it) (.ref D) (uc scope (qX X s scope) s.heap.objs.size X.env)).onRaise (λx=>do noteFrame x (uc scope (qX X s scope) s.heap.objs.size X.env); theTreesLotGoes x)) _ _ s3;refine Bk ?_;rw [compTurn_list];have st0:=stat (pl:=[]) zY (λ_ z=>nomatch z);rcases hW i n H3 w3 with ⟨stop,qe⟩ | ⟨go,step⟩;refine aA (qL (aA (bL (T.done (blk X scope (own++cap) (gb X ak s H scope fp)) rfl rfl rfl hc i [] s3 _ H3 _ I3 st0 st3 stop) λr s5 ⟨hr,I5⟩=>?_)));subst hr;exact aO ⟨H3,_,rfl,I5,qe⟩;refine aA (qL (aA (bL (T.item (blk X scope (own++cap) (gb X ak s H scope fp)) rfl rfl rfl hc i [] s3 _ H3 _ I3 st0 st3 go) λr s5 ⟨u,hr,h5⟩=>?_)));subst hr;refine aA (bL h5 λ_ s6 ⟨x,H6,I6,r6,y6,rH,fr6⟩=>?_);have I6':=I6.pinned (stat (pl:=[]) fr6 (λ_ z=>nomatch z)) (T.obj _ _ rH);refine aA (ju (hg _ s6 _ H6 x u _ I6' r6 (step x H6 y6)) (λ_ s7 ⟨lH,H7,I7,q7⟩=>?_) λ_ _ f=>f.elim);refine aA (ju (ht _ s7 lH H7 _ I7 q7) (λok s8 ⟨H8,I8,q8⟩=>?_) λ_ _ f=>f.elim);have again:∀{vQ:St}{H9:Hp}{s9:aH}{m':Nat},Inv (blk X scope (own++cap) (gb X ak s H scope fp)) ([]++DX fp s6.heap) vQ H9 s9->m'<n->W (i+1) m' H9 -> ∃ m,m<n/\∃ i H',Inv (blk X scope (own++cap) (gb X ak s H scope fp)) [] (nq own ix aj) H' s9/\tn i s9.heap/\(∀ b∈fp,H' b=none)/\W i m H':=λ{vQ H9 s9 m'} I9 hm w9=>(by refine ⟨m',hm,i+1,H9,acJ S hX I hf I9.Iv,T.keep _ _ _ rH λb hb o e=>(I9.pin (b,o) (jH _ (jH _ (Bo hb e)))).1,λb hb=>?_,w9⟩;obtain ⟨o,e,d⟩:=T.obj _ _ rH b hb;exact (I9.pin (b,o) (jH _ (jH _ (Bo hb e)))).2.1);cases ok with| false =>obtain ⟨m',hm,w9⟩:=q8;exact aO ⟨rfl,again I8 hm w9⟩| true =>refine aA (aA (ju (he _ s8 lH H8 _ I8 q8) (λy s9 ⟨v,H9,I9,r9,zs,hD,hz,m',hm,w9⟩=>?_) λ_ _ f=>f.elim));refine aA (ju (uN (X:=blk X scope (own++cap) (gb X ak s H scope fp)) _ s9 lH H9 (.ref D) [v] (.ref D) [y] (λ_ H'=>∃ m',m'<n/\W (i+1) m' H') I9 rfl (.cons r9 .nil) ⟨D,zs,v,rfl,rfl,hD,hz,m',hm,w9⟩) (λ_ pB ⟨_,ou,I10,_,m'',hm',w10⟩=>?_) λ_ _ f=>f.elim);exact aO (aO ⟨rfl,again I10 hm' w10⟩)
variable{wi:TI}
theorem abY{Q:VK}{use:Option (aB->Sem Unit)}{Q':aB->aH->Prop}(hc:X.calm=true)(hX:X.env.scope=bQ)(S:m6 bQ scope X.N own cap ix)(hi:PI X tg iter wi)(hg:∀ b,PG (blk X scope (own++cap) b) tg (g b))(ht:∀ b,mQ (blk X scope (own++cap) b) ifs (tt b))(he:∀ b,PE (blk X scope (own++cap) b) elt (te b))(hs:∀ x,n6 iter X.env x=pure x)(I:Inv X ak aj H s)(h:HJ own ix wi g tt te aj H Q)(out:∀(D C:au)(H':Hp)(s':aH),Q (.ref D) H'->(∃ m,s'.heap.Ns C m)->jA X ak H' C->(∀ h',mD C s'.heap h'->Inv X ak aj H' { s' with heap:=h' }) -> compPost (aR X.prog X.w) X.A X.xe use Q' (.ref D) C (.ok .next) s'): aF (aR X.prog X.w) X.A (comprehension (.ListComp elt [⟨tg,iter,ifs,0⟩] scope pos) scope X.env (firstIterPos [⟨tg,iter,ifs,0⟩] pos) (newList []) false (eval iter X.env) use) Q' X.xe s:=by have hclos:=Vq (scope:=scope) (env:=X.env) λy hy hk=>(by have hf:=S.free y hy hk;rw [<- hX] at hf;exact I.ok.has y.1 hf);refine S9 (use:=use) rfl hs hclos S.kind (λy hy hk=>by rw [S.nm y hy,hk]) (bL (hi ak s aj H _ I h) λv s1 h1=>bL h1 λitv s2 h2=>?_);obtain ⟨it,fp,tn,J,H2,e,I2,T,st2,f2,hR⟩:=h2;subst e;refine jT ?_;obtain ⟨W,⟨m0,w0⟩,hW⟩:=hR s2.heap.objs.size I2.fresh;have I3:Inv X ak aj (upd H2 s2.heap.objs.size (.lst [])) { s2 with heap:=s2.heap.push { cls:=.type "list",data:=.seq ([]:List aB).toArray } }:=I2.JV (t':=s2.toks) (its:=[]) .nil (cJ _);have uE:∀ b∈fp,b<s2.heap.objs.size:=λb hb=>let ⟨_,e,_⟩:=T.obj _ _ st2 b hb; bW e;have f3:∀ b∈fp,jA X ak (upd H2 s2.heap.objs.size (.lst [])) b:=λb hb=>⟨by rw [bx (dU (uE b hb))]; exact (f2 b hb).1,(f2 b hb).2⟩;have st3:tn 0 (s2.heap.push { cls:=.type "list",data:=.seq ([]:List aB).toArray }):=T.keep _ _ _ st2 λb hb o e=>cj _ e;generalize hs3:({ s2 with heap:=s2.heap.push { cls:=.type "list",data:=.seq ([]:List aB).toArray } }:aH)=s3 at I3;have CK:tn 0 s3.heap:=(by rw [<- hs3]; exact st3);have ob3:∀ b∈fp,∃ o,s3.heap.get? b=some o:=λb hb=>let ⟨o,e,_⟩:=T.obj _ _ CK b hb; ⟨o,e⟩;have I4:=SX S hX I3 f3 ob3;have uJ:tn 0 (zB s3 scope):=T.keep _ _ _ CK λb _ o e=>Rt s3 scope b o e;refine VF ?_;have loop:=ao6 (iter:=iter) (pos:=pos) S hX I3 f3 hc T (hg _) (ht _) (he _) (hW _) I4 uJ w0;have fin:kI (aR X.prog X.w) X.A (.compLoop (.ListComp elt [⟨tg,iter,ifs,0⟩] scope pos) 0 (.ref it) (.ref s2.heap.objs.size) (uc scope (qX X s3 scope) s3.heap.objs.size X.env)) (compPost (aR X.prog X.w) X.A X.xe use Q' (.ref s2.heap.objs.size) s3.heap.objs.size) { s3 with heap:=zB s3 scope }:=uD loop λr s' ⟨H',bJ,hr,J',q⟩=>(by subst hr;exact out _ _ H' s' q (let ⟨m,hn,_⟩:=J'.loc; ⟨m,hn⟩) (I3.zQ (bB _) J'.free) λh' hh=>Lg I3 f3 J' hh);exact adH fin (T.self _ 0 _ _ _ uJ fin)
theorem jg(hc:X.calm=true)(hX:X.env.scope=bQ)(S:m6 bQ scope X.N own cap ix)(hi:PI X tg iter wi)(hg:∀ b,PG (blk X scope (own++cap) b) tg (g b))(ht:∀ b,mQ (blk X scope (own++cap) b) ifs (tt b))(he:∀ b,PE (blk X scope (own++cap) b) elt (te b))(hs:∀ x,n6 iter X.env x=pure x:=by intro _; rfl):
   PE X (.ListComp elt [⟨tg,iter,ifs,0⟩] scope pos) (HJ own ix wi g tt te):=by
 intro ak s aj H Q I h;rw [eval_ListComp];refine abY (use:=none) hc hX S hi hg ht he hs I h λD C H' s' q hn _ hI=>?_
 obtain ⟨m,hn⟩:=hn;exact ⟨m,hn,λh' hh=>⟨.ref D,H',hI h' hh,rfl,q⟩⟩
theorem afo{i:Nat}{x:Str}{pos' spos:Pos}(hN:X.N.Nodup)(hx1:X.N[i]?=some x)(hx:X.env.scope.names.lookup x=some .local)(hc:X.calm=true)(hX:X.env.scope=bQ)(S:m6 bQ scope X.N own cap ix)(hi:PI X tg iter wi)(hg:∀ b,PG (blk X scope (own++cap) b) tg (g b))(ht:∀ b,mQ (blk X scope (own++cap) b) ifs (tt b))(he:∀ b,PE (blk X scope (own++cap) b) elt (te b))(hs:∀ x,n6 iter X.env x=pure x:=by intro _; rfl)(hsw:zO (.ListComp elt [⟨tg,iter,ifs,0⟩] scope pos) (some (.Name x pos')) spos.line X.env=pure true:=by rfl):
   PS X (.Assign [.Name x pos'] (.ListComp elt [⟨tg,iter,ifs,0⟩] scope pos) spos) (yZ (HJ own ix wi g tt te) (wN i)):=by
 intro ak s aj H D I h;rw [YB _ _ _ _ hsw];refine aA (qL (aA ?_));show aF _ X.A (do let _ <- comprehension (.ListComp elt [⟨tg,iter,ifs,0⟩] scope pos) scope X.env _ (newList []) false (eval iter X.env) (some (assign (.Name x pos') X.env))) _ _ s;refine aA (ju (abY (use:=some (assign (.Name x pos') X.env)) (Q':=λ_ s'=>SP X ak D .next s') hc hX S hi hg ht he hs I h λD1 C H' s' q hn fC hI=>?_) (λ_ s' hq=>aO (aO hq)) λ_ _ e=>e);obtain ⟨m,hn⟩:=hn
 have I0:Inv X ak aj H' s':=by
   have z:=hI s'.heap (Kr ..);exact z
 show aF _ X.A (assign (.Name x pos') X.env (.ref D1)) _ _ _;refine Qn (Ql I0 hN hx1 (.inl hx) (show cI (.ref D1) (.ref D1) from rfl) (λs2 I2 ⟨a,sb,ha⟩=>?_) (.inr hx))
 have na:C≠a:=by
   rcases ha with e | e
   . rw [e]; exact fC.2.1
   . intro z; exact fC.2.2.2.2.1 x a e z.symm
 refine ⟨m,hn.sameBut sb na,λh' hh=>?_⟩;refine ⟨_,H',?_,q⟩;exact I2.turned (it:=C) (t':=s2.toks) (λb o hb e=>(hh.2 b hb).ao e) fC.1 fC.2.1 fC.2.2.2.1 fC.2.2.2.2.1 fC.2.2.2.2.2
def Its(x:Str):It:=⟨λi _=>i<x.cps.size,λi H v H'=>H'=H/\∃ c,x.cps[i]?=some c/\v=.str ⟨#[c]⟩,λi _=>x.cps.size<=i⟩
variable{P:dX}{w:cU}{K:cH}
theorem al0(it:au)(x:Str)(t:Tok):Turn P w K tg (Its x) [it] it (λi h=>h.IsStrIter it "str_ascii_iterator" x t i) where
 mem:=by simp
 obj:=λi h st b hb=>by
   have e:b=it:=by simpa using hb
   subst e;obtain ⟨o,e,c,d⟩:=st;exact ⟨o,e,λv z=>by rw [d] at z; cases z⟩
 keep:=λi h h' st k=>let ⟨o,e,r⟩:=st; ⟨o,k it (by simp) o e,r⟩
 item:=by
   intro X hP hw hK hc i ak s aj H E I hf st hg;subst hP hw hK;have hg':i<x.cps.size:=hg;obtain ⟨f0,f1,f2,f3,f4,f5⟩:=hf it (by simp);refine wpAny_pyNext_ascii_item st (c:=x.cps[i]) (by simp [hg']) λh' st' sb=>?_
   have I1:Inv X ak aj H { s with heap:=h',toks:=s.toks+1 }:=I.turned (λb o hb e=>(sb.2 b hb).ao e) f0 f1 f3 f4 f5;obtain ⟨o,e,c,d⟩:=id st';exact ⟨_,rfl,JT (s:={ s with heap:=h',toks:=s.toks+1 }) e c d (by decide) ⟨.str ⟨#[x.cps[i]]⟩,H,I1,⟨_,rfl⟩,⟨rfl,_,by simp [hg'],rfl⟩,st',λb hb=>(hf b hb).1⟩⟩
 done:=by
   intro X hP hw hK hc i ak s aj H E I hf st hg;subst hP hw hK;have hg':x.cps.size<=i:=hg;obtain ⟨f0,f1,f2,f3,f4,f5⟩:=hf it (by simp);exact wpAny_pyNext_ascii_end (I.ok.hd hc) st (by simp [hg']) λh' eb=>⟨rfl,I.turned (t':=s.toks) (λb o hb e=>eb b o hb e) f0 f1 f3 f4 f5⟩
 self:=λ_ _ _ _ _ st h=>wpAny_pyIter_striter_ascii st h
theorem anH(it:au)(x:Str)(t:Tok):Turn P w K tg (Its x) [it] it (λi h=>h.IsStrIter it "str_iterator" x t i) where
 mem:=by simp
 obj:=λi h st b hb=>by
   have e:b=it:=by simpa using hb
   subst e;obtain ⟨o,e,c,d⟩:=st;exact ⟨o,e,λv z=>by rw [d] at z; cases z⟩
 keep:=λi h h' st k=>let ⟨o,e,r⟩:=st; ⟨o,k it (by simp) o e,r⟩
 item:=by
   intro X hP hw hK hc i ak s aj H E I hf st hg;subst hP hw hK;have hg':i<x.cps.size:=hg;obtain ⟨f0,f1,f2,f3,f4,f5⟩:=hf it (by simp);refine wpAny_pyNext_wide_item st (c:=x.cps[i]) (by simp [hg']) λh' st' sb=>?_
   have I1:Inv X ak aj H { s with heap:=h',toks:=s.toks+1 }:=I.turned (λb o hb e=>(sb.2 b hb).ao e) f0 f1 f3 f4 f5;obtain ⟨o,e,c,d⟩:=id st';exact ⟨_,rfl,JT (s:={ s with heap:=h',toks:=s.toks+1 }) e c d (by decide) ⟨.str ⟨#[x.cps[i]]⟩,H,I1,⟨_,rfl⟩,⟨rfl,_,by simp [hg'],rfl⟩,st',λb hb=>(hf b hb).1⟩⟩
 done:=by
   intro X hP hw hK hc i ak s aj H E I hf st hg;subst hP hw hK;have hg':x.cps.size<=i:=hg;obtain ⟨f0,f1,f2,f3,f4,f5⟩:=hf it (by simp);exact wpAny_pyNext_wide_end (I.ok.hd hc) st (by simp [hg']) λh' eb=>⟨rfl,I.turned (t':=s.toks) (λb o hb e=>eb b o hb e) f0 f1 f3 f4 f5⟩
 self:=λ_ _ _ _ _ st h=>wpAny_pyIter_striter_wide st h
def ami(tl:TE):TI:=fun aj H R=>tl aj H λx H1=>∃ z,x=.str z/\R (Its z) H1
theorem aiL{l:Expr}{tl:TE}(hl:PE X l tl):PI X tg l (ami tl):=by intro ak s aj H R I h;refine bL (hl ak s aj H _ I h) λv s1 ⟨x,H1,I1,r1,q1⟩=>?_;obtain ⟨z,e,q⟩:=q1;subst e;obtain ⟨t,rfl⟩:=r1;have fp:∀ b∈[s1.heap.objs.size],jA X ak H1 b:=λb hb=>(by have e:b=s1.heap.objs.size:=(by simpa using hb);subst e;exact I1.zQ (bB _) (I1.hok.fresh (bB _)));cases ha:z.cps.all (·<128);exact wpAny_pyIter_wide ha ⟨s1.heap.objs.size,[s1.heap.objs.size],_,_,H1,rfl,I1.kept (t':=s1.toks) λb o e=>cj _ e,anH _ z t,⟨_,fU _ rfl,rfl,rfl⟩,fp,q⟩;exact wpAny_pyIter_ascii ha ⟨s1.heap.objs.size,[s1.heap.objs.size],_,_,H1,rfl,I1.kept (t':=s1.toks) λb o e=>cj _ e,al0 _ z t,⟨_,fU _ rfl,rfl,rfl⟩,fp,q⟩
theorem ah8:cP X (gK .LtE) (λx y H Q=>∃ i j,x=.str i/\y=.str j/\Q (.bl (!decide (j.cps.toList<i.cps.toList))) H):=by intro ak s aj H x y v u Q I rx ry h;obtain ⟨i,j,rfl,rfl,q⟩:=h;obtain ⟨t,rfl⟩:=rx;obtain ⟨t',rfl⟩:=ry;exact PySem.P.le_str ⟨.bl _,H,I,rfl,q⟩
theorem agp{v:aB}{o:Option Int}(p:wX v o):∃ l:Option (Int × Tok),v=partValue l/\l.map (·.1)=o:=by cases p with| none=>exact ⟨none,rfl,rfl⟩| int i t=>exact ⟨some (i,t),rfl,rfl⟩
theorem ak1:SlR X (λx lo hi H Q=>∃ z,x=.str z/\z.length<=aL/\Q (.str (BL z lo hi)) H):=by intro ak s aj H x v vl vu lo hi sl Q I rx hs pl pu h;obtain ⟨z,rfl,hz,q⟩:=h;obtain ⟨t,rfl⟩:=rx;obtain ⟨l,e1,f1⟩:=agp pl;obtain ⟨u,e2,f2⟩:=agp pu;subst e1 e2 f1 f2;refine ⟨"str",_,F.slot_str_getitem.lookup,R6 _ _ _,wpAny_getItem_str_slice (l:=l) (u:=u) (st:=none) hs rfl ?_⟩;exact post_val_or_str ⟨gw (Txt.slice_le z _ _) hz,λt' k=>⟨.str (BL z _ _),H,I.tok k,⟨t',rfl⟩,q⟩⟩
theorem aa0:∀{ys:List Str}{us:List aB},bY (ys.map V.str) us->wM us ys:=by intro ys;induction ys with| nil=>intro us r; rw [Gi] at r; cases r; exact .nil| cons y ys ih =>intro us r;rw [eV] at r;cases r with| cons r1 r2 =>obtain ⟨t,e⟩:=r1;subst e;exact .cons y t (ih r2)
theorem agd:∀{bs:List Bool}{us:List aB},bY (bs.map V.bl) us->LSm.BoolsAre us bs:=by intro bs;induction bs with| nil=>intro us r; rw [Gi] at r; cases r; exact .nil| cons b bs ih =>intro us r;rw [eV] at r;cases r with| cons r1 r2 =>have e:_=xX b:=r1;subst e;exact .cons b (ih r2)
theorem Bp(hc:X.calm=true):jz X (.builtin "all") (λxs H Q=>∃(p:au)(bs:List Bool),xs=[.ref p]/\aY X.K H p (bs.map V.bl)/\Q (.bl (bs.all id)) H):=by intro ak s aj H xs us Q I r h;obtain ⟨p,bs,rfl,hq,q⟩:=h;obtain ⟨u,rfl,ru⟩:=nM r;cases ru;obtain ⟨its,rv,pl,_⟩:=I.list hq;have hb:=agd rv;have hl:=pl.isList;have hlt:p<s.heap.objs.size:=(by obtain ⟨_,e,_⟩:=hl; exact bW e);refine call_all_walk (Ih hl ?_);refine ⟨s.heap.objs.size,[s.heap.objs.size,p],[s.heap.objs.size],its.toArray.size,_,_,λi=>(bs[i]?).getD true,rfl,ZR (A:=X.A.in1) (I.ok.hd hc) _ p (dU hlt) its.toArray,⟨⟨_,fU _ rfl,rfl,rfl⟩,hl.push _⟩,λi v s' Q' E' hP hQ=>?_,λh' tk hk=>?_⟩;obtain ⟨b,e,rfl⟩:=hb.get i v (by simpa using hP);simp only [e,Option.getD_some] at hQ;exact vX hQ;have e:((cY its.toArray.size).all λi=>(bs[i]?).getD true)=bs.all id:=(by rw [gH,hb.length]; exact LSm.range_all bs);rw [e];exact ⟨.bl _,H,I.kept (LSm.kept_iter hk),rfl,q⟩
theorem CQ:jz X (.builtin "isinstance") (λxs H Q=>mz λx n t b=>wB (xs=[x,.ty n]) (tX X.K H x t) (kh X.K t (.type n)=some b) (Q (.bl b) H)):=by intro ak s aj H xs us Q I r h;obtain ⟨x,n,t,b,rfl,ty,e,q⟩:=h;obtain ⟨u,w',rfl,rx,ry⟩:=rR r;have ry':w'=sG n:=ry;subst ry';exact anJ I rx ty e λtk=>⟨.bl b,H,I.tok tk,rfl,q⟩
mutual
inductive Dp(K:cH)(H:Hp):V->lF->Prop
 | non:Dp K H .non .none
 | bl (b:Bool):Dp K H (.bl b) (.bool b)
 | int (i:Int):Dp K H (.int i) (.int i)
 | str (x:Str):Dp K H (.str x) (.str x)
 | lst {a:au} {xs:List V} {ds:List lF}:aY K H a xs->uZ K H xs ds->Dp K H (.ref a) (.list ds)
 | tup {a:au} {xs:List V} {ds:List lF}:aG K H a xs->uZ K H xs ds->Dp K H (.ref a) (.tuple ds)
inductive uZ(K:cH)(H:Hp):List V->List lF->Prop
 | nil:uZ K H [] []
 | cons {x:V} {xs:List V} {d:lF} {ds:List lF}:Dp K H x d->uZ K H xs ds->uZ K H (x :: xs) (d :: ds)
end
mutual
theorem Dp.reads{ak:List (au × Obj)}{aj:St}{H:Hp}{s:aH}(I:Inv X ak aj H s):∀{x:V}{d:lF}{u:aB},Dp X.K H x d->cI x u->∃ as,Reads s.heap u d as
 | _,_,_,.non,r=>by cases (show _=fM from r); exact ⟨_,.none⟩
 | _,_,_,.bl b,r=>by cases (show _=xX b from r); exact ⟨_,.bool b⟩
 | _,_,_,.int i,r=>by obtain ⟨t,rfl⟩:=(show ∃ t,_=xH i t from r); exact ⟨_,.int i t⟩
 | _,_,_,.str x,r=>by obtain ⟨t,rfl⟩:=(show ∃ t,_=DY x t from r); exact ⟨_,.str x t⟩
 | _,_,_,.lst (a:=a) hq h,r=>by cases (show _=bI a from r);obtain ⟨its,rv,pl,_⟩:=I.list hq;obtain ⟨as,q⟩:=uZ.reads I h rv;obtain ⟨o,ho,hc,n,hd⟩:=pl.isList;exact ⟨_,.list ho hc hd (by simpa using q)⟩
 | _,_,_,.tup (a:=a) hq h,r=>by cases (show _=bI a from r);obtain ⟨its,rv,pl,_⟩:=I.tuple hq;obtain ⟨as,q⟩:=uZ.reads I h rv;obtain ⟨o,ho,hc,n,hd⟩:=pl;exact ⟨_,.tuple ho hc hd (by simpa using q)⟩
theorem uZ.reads{ak:List (au × Obj)}{aj:St}{H:Hp}{s:aH}(I:Inv X ak aj H s):∀{xs:List V}{ds:List lF}{us:List aB},uZ X.K H xs ds->bY xs us->∃ as,ReadsAll s.heap us ds as
 | _,_,_,.nil,r=>by cases r; exact ⟨_,.nil⟩
 | _,_,_,.cons h1 h2,r=>by cases r with| cons r1 r2 =>obtain ⟨as,q1⟩:=Dp.reads I h1 r1;obtain ⟨bs,q2⟩:=uZ.reads I h2 r2;exact ⟨_,.cons q1 q2⟩
end
def aer(K:cH):R2:=λx y H Q=>v9 λd e=>jt (Dp K H x d) (Dp K H y e) (oY d=true) (oY e=true) (Q (.bl (oW d e)) H)
def adF(K:cH):R2:=λx y H Q=>v9 λd e=>jt (Dp K H x d) (Dp K H y e) (oY d=true) (oY e=true) (Q (.bl (!PyData.eqv d e)) H)
theorem HN(hu:X.A.units+64<cLine):cP X (gK .Eq) (aer X.K):=by intro ak s aj H x y v u Q I rx ry h;obtain ⟨d,e,hd,he,sd,se,q⟩:=h;obtain ⟨as,ra⟩:=hd.reads I rx;obtain ⟨bs,rb⟩:=he.reads I ry;exact eq_dataH ra rb sd se hu ⟨.bl _,H,I,rfl,q⟩
theorem Ca(hu:X.A.units+64<cLine):cP X (gK .NotEq) (adF X.K):=by intro ak s aj H x y v u Q I rx ry h;obtain ⟨d,e,hd,he,sd,se,q⟩:=h;obtain ⟨as,ra⟩:=hd.reads I rx;obtain ⟨bs,rb⟩:=he.reads I ry;exact ne_dataH ra rb sd se hu ⟨.bl _,H,I,rfl,q⟩
end L2
namespace L2
open PySem PySem.Spec PyProof.Rows
section
variable{X:Cx}{a b c:Expr}{ta tb tc:TE}{pos:Pos}
def tV(i:Nat):TE:=fun aj H Q=>match aj[i]? with
 | some (some v)=>Q v H
 | _=>False
theorem pV(i:Nat){x:Str}(hN:X.N[i]?=some x:=by rfl)(hv:Vis X.env.scope x:=by first | exact jh rfl | exact tO (jh rfl) | exact tO (tO rfl))(hd:(x == ("__debug__" : Str))=false:=by decide)(hcd:(x == ("__classdict__" : Str))=false:=by decide):PE X (.Name x pos) (tV i):=by
 intro ak s aj H Q I h;refine an2 hN hv hd hcd ak s aj H Q I ?_;unfold tV at h;cases e:aj[i]? with
 | none=>rw [e] at h; exact h.elim
 | some o =>
   rw [e] at h;cases o with
   | none=>exact h.elim
   | some v=>exact ⟨v,e,h⟩
def fI(g:Int->Int->V):R2:=λx y H Q=>match x,y with
 | .int i,.int j=>Q (g i j) H
 | _,_=>False
def vB(C:Int->Int->Prop)(g:Int->Int->V):R2:=λx y H Q=>match x,y with
 | .int i,.int j=>C i j/\Q (g i j) H
 | _,_=>False
variable{f:aB->aB->Sem aB}{g:Int->Int->V}
theorem cP.fI(h:cP X f (wJ g)):cP X f (fI g):=by intro ak s aj H x y v u Q I rx ry q;refine h ak s aj H x y v u Q I rx ry ?_;cases x <;> cases y <;> first | exact ⟨_,_,rfl,rfl,q⟩ | exact (show False from q).elim
theorem cP.vB{C:Int->Int->Prop}(h:cP X f (rI C g)):cP X f (vB C g):=by intro ak s aj H x y v u Q I rx ry q;refine h ak s aj H x y v u Q I rx ry ?_;cases x <;> cases y <;> first | exact ⟨_,_,rfl,rfl,q.1,q.2⟩ | exact (show False from q).elim
theorem gM:cP X (j6 .Add) (fI λi j=>.int (i+j)):=an4.fI
theorem zL:cP X (j6 .Sub) (fI λi j=>.int (i-j)):=aiW.fI
theorem Qd:cP X (j6 .Mult) (vB Pg λi j=>.int (i * j)):=aks.vB
theorem oMod:cP X (j6 .Mod) (vB (λ_ j=>0<j) λi j=>.int (i % j)):=aiE.vB
def aaL(_ j:Int):Prop:=0<j/\j<4611686018427387904
theorem apj:cP X (j6 .FloorDiv) (rI aaL λi j=>.int (i / j)):=opI λi j _ _ _ _ _ hc q=>by
 have h1:(0:Int)<j:=hc.1;have h2:j<4611686018427387904:=hc.2;refine floordiv_int (by omega) (by rw [acY i (by omega)]; exact q) (.inl (PyProof.noPylong_of_log2 ?_));have h3:j.natAbs≠0:=by omega
 have h4:j.natAbs<2 ^ 62:=by omega
 have:=(Nat.log2_lt h3).mpr h4;omega
theorem oDiv:cP X (j6 .FloorDiv) (vB aaL λi j=>.int (i / j)):=apj.vB
theorem anr:cP X (j6 .Pow) (vB agb λi j=>.int (i ^ j.toNat)):=ao3.vB
theorem oLt:cP X (gK .Lt) (fI λi j=>.bl (decide (i<j))):=aeS.fI
theorem oLe:cP X (gK .LtE) (fI λi j=>.bl (decide (i<=j))):=akI.fI
theorem yX:cP X (gK .Gt) (fI λi j=>.bl (decide (j<i))):=ai4.fI
theorem oGe:cP X (gK .GtE) (fI λi j=>.bl (decide (j<=i))):=akb.fI
theorem aj8:cP X (gK .Eq) (wJ λi j=>.bl (decide (i=j))):=Ge λ_ _ _ _ _ _ _ q=>eq_int (by rw [aeI]; exact q)
theorem alQ:cP X (gK .NotEq) (wJ λi j=>.bl (!decide (i=j))):=Ge λ_ _ _ _ _ _ _ q=>ne_int (by rw [bne,aeI]; exact q)
theorem oEq:cP X (gK .Eq) (fI λi j=>.bl (decide (i=j))):=aj8.fI
theorem oNe:cP X (gK .NotEq) (fI λi j=>.bl (!decide (i=j))):=alQ.fI
theorem JD:UnR X (unaryOp .USub) (λx H Q=>match x with | .int i=>Q (.int (-i)) H | _=>False):=by intro ak s aj H x v Q I rx h;cases x with| int i=>obtain ⟨t,rfl⟩:=rx; exact neg_int ⟨.int (-i),H,I.tok _,⟨_,rfl⟩,h⟩| _=>exact (show False from h).elim
def fS(g:Str->Str->V):R2:=λx y H Q=>match x,y with
 | .str i,.str j=>Q (g i j) H
 | _,_=>False
theorem aaW:cP X (gK .LtE) (fS λi j=>.bl (!decide (j.cps.toList<i.cps.toList))):=by intro ak s aj H x y v u Q I rx ry q;refine ah8 ak s aj H x y v u Q I rx ry ?_;cases x <;> cases y <;> first | exact ⟨_,_,rfl,rfl,q⟩ | exact (show False from q).elim
def am4:R2:=λx y H Q=>match x,y with
 | .str i,.str j=>i.length+j.length<=aL/\Q (.str (i++j)) H
 | _,_=>False
theorem Ij:cP X (j6 .Add) am4:=by intro ak s aj H x y v u Q I rx ry q;refine ak6 ak s aj H x y v u Q I rx ry ?_;cases x <;> cases y <;> first | exact ⟨_,_,rfl,rfl,q.1,q.2⟩ | exact (show False from q).elim
def bF(Q:Bool->Hp->Prop):VK:=λx H=>match x with
 | .bl k=>Q k H
 | _=>False
def tF(t:TE):TT:=fun aj H Q=>t aj H (bF Q)
theorem Bb{Q:Bool->Hp->Prop}{x:V}{H:Hp}(h:bF Q x H):∃ k,x=.bl k/\Q k H:=by cases x with| bl k=>exact ⟨k,rfl,h⟩| _=>exact (show False from h).elim
variable{op:GX}{r:R2}
theorem gF(ho:cP X (gK op) r)(ha:PE X a ta)(hb:PE X b tb)(hm:behindInMarks op b=false):PT X (.Compare a [op] [b] pos) (tF (BW r ta tb)):=by intro ak s aj H Q I h;refine ae2 (bL (ha ak s aj H _ I h) λv s1 ⟨x,H1,I1,r1,q1⟩=>bL (hb ak s1 aj H1 _ I1 q1) λu s2 ⟨y,H2,I2,r2,q2⟩ => bL (ho ak s2 aj H2 x y v u _ I2 r1 r2 q2) λc s3 ⟨z,H3,I3,r3,q3⟩=>?_) hm;obtain ⟨k,e,q⟩:=Bb q3;subst e;cases r3;exact vX ⟨H3,I3,q⟩
theorem jO{e:Expr}{t:TE}(h:PE X e t)(he:∀ whole,isTrue e X.env whole=(do let v <- whole; standAt e.pos; holding [v] (truthy v)):=by intro _; rfl):PT X e (tF t):=by
 intro ak s aj H Q I hw;refine isTrue_plain (bL (h ak s aj H _ I hw) λv s1 ⟨x,H1,I1,r1,q1⟩=>?_) (he _);obtain ⟨d,rfl,q⟩:=Bb q1;cases r1;exact vX ⟨H1,I1,q⟩
def aci(r r':R2)(ta tb tc:TE):TE:=fun aj H Q=>ta aj H λx H1=>tb aj H1 λy H2=>r x y H2 (bF λk H3=>if k=true then tc aj H3 λw' H4=>r' y w' H4 Q else Q (.bl false) H3)
variable{op':GX}{r':R2}
theorem anU(ho:cP X (gK op) r)(ho':cP X (gK op') r')(ha:PE X a ta)(hb:PE X b tb)(hc:PE X c tc)(hm:lastMarks [op,op'] [b,c]=false:=by with_unfolding_all rfl):PE X (.Compare a [op,op'] [b,c] pos) (aci r r' ta tb tc):=by intro ak s aj H Q I h;refine Compare_chain (bL (ha ak s aj H _ I h) λv s1 ⟨x,H1,I1,r1,q1⟩=>chain_link (bL (hb ak s1 aj H1 _ I1 q1) λu s2 ⟨y,H2,I2,r2,q2⟩ => bL (ho ak s2 aj H2 x y v u _ I2 r1 r2 q2) λd s3 ⟨z,H3,I3,r3,q3⟩=>?_)) hm;obtain ⟨k,e,q3⟩:=Bb q3;subst e;cases r3;refine vX ?_;cases k with| false=>exact ite_ff ⟨.bl false,H3,I3,rfl,q3⟩| true=>exact ite_tt (chain_last (bL (hc ak s3 aj H3 _ I3 q3) λw' s4 ⟨z',H4,I4,r4,q4⟩=>ho' ak s4 aj H4 y z' u w' Q I4 r2 r4 q4))
theorem agh(ho:cP X (gK op) r)(ho':cP X (gK op') r')(ha:PE X a ta)(hb:PE X b tb)(hc:PE X c tc)(hm:lastMarks [op,op'] [b,c]=false:=by with_unfolding_all rfl):PT X (.Compare a [op,op'] [b,c] pos) (tF (aci r r' ta tb tc)):=by intro ak s aj H Q I h;refine isTrue_chain (bL (ha ak s aj H _ I h) λv s1 ⟨x,H1,I1,r1,q1⟩=>test_link (bL (hb ak s1 aj H1 _ I1 q1) λu s2 ⟨y,H2,I2,r2,q2⟩ => bL (ho ak s2 aj H2 x y v u _ I2 r1 r2 q2) λd s3 ⟨z,H3,I3,r3,q3⟩=>?_)) hm;obtain ⟨k,e,q3⟩:=Bb q3;subst e;cases r3;refine vX ?_;cases k with| false=>exact ite_ff ⟨H3,I3,q3⟩| true =>refine ite_tt (test_last (bL (hc ak s3 aj H3 _ I3 q3) λw' s4 ⟨z',H4,I4,r4,q4⟩=>bL (ho' ak s4 aj H4 y z' u w' _ I4 r2 r4 q4) λd' s5 ⟨z2,H5,I5,r5,q5⟩=>?_));obtain ⟨k2,e2,q5⟩:=Bb q5;subst e2;cases r5;exact vX ⟨H5,I5,q5⟩
variable{rest:List Expr}
def alH(ta tb:TE):TE:=fun aj H Q=>ta aj H (bF λc H1=>if c=true then tb aj H1 Q else Q (.bl false) H1)
def anw(ta tb:TE):TE:=fun aj H Q=>ta aj H (bF λc H1=>if c=true then Q (.bl true) H1 else tb aj H1 Q)
def ajM(ta:TE):TE:=fun aj H Q=>ta aj H (bF λc H1=>Q (.bl (!c)) H1)
theorem xG(ha:PE X a ta)(hb:PE X (.BoolOp .And (b :: rest) pos) tb):PE X (.BoolOp .And (a :: b :: rest) pos) (alH ta tb):=by intro ak s aj H Q I h;refine BoolOp_and (bL (ha ak s aj H _ I h) λv s1 ⟨x,H1,I1,r1,q1⟩=>?_);obtain ⟨c,rfl,q1⟩:=Bb q1;cases r1;refine vX ?_;cases c with| true=>exact hb ak s1 aj H1 Q I1 q1| false=>exact ⟨.bl false,H1,I1,rfl,q1⟩
theorem alp(ha:PE X a ta)(hb:PE X (.BoolOp .Or (b :: rest) pos) tb):PE X (.BoolOp .Or (a :: b :: rest) pos) (anw ta tb):=by intro ak s aj H Q I h;refine BoolOp_or (bL (ha ak s aj H _ I h) λv s1 ⟨x,H1,I1,r1,q1⟩=>?_);obtain ⟨c,rfl,q1⟩:=Bb q1;cases r1;refine vX ?_;cases c with| false=>exact hb ak s1 aj H1 Q I1 q1| true=>exact ⟨.bl true,H1,I1,rfl,q1⟩
theorem agJ(ha:PE X a ta):PE X (.UnaryOp .Not a pos) (ajM ta):=by intro ak s aj H Q I h;refine UnaryOp_ (bL (ha ak s aj H _ I h) λv s1 ⟨x,H1,I1,r1,q1⟩=>?_);obtain ⟨c,rfl,q1⟩:=Bb q1;cases r1;exact not_of (vX ⟨.bl (!c),H1,I1,rfl,q1⟩)
end
def Nx(n i:Nat)(Pv:Nat->Hp->Prop)(H:Hp):Prop:=∃ m',m'<n-i/\(m'=n-(i+1)/\i+1<=n/\Pv (i+1) H)
variable{n i:Nat}{H:Hp}
theorem nx{Pv:Nat->Hp->Prop}(hi:i<n)(h:Pv (i+1) H):Nx n i Pv H:=⟨n-(i+1),by omega,rfl,hi,h⟩
variable{J:It}{g:BI->TG}{tt:BI->TT}{te:BI->TE}{lN:St}{D:au}{End:Hp->Prop}{H1:Hp}
theorem Iz(n:Nat)(Pv:Nat->Hp->Prop)(h0:Pv 0 (upd H1 D (.lst [])))(stop:∀ H,Pv n H->J.stop n H/\End H)(turn:∀ i H,i<n->Pv i H->J.go i H/\∀ x H',J.zP i H x H'->∀ b,g b x lN H' fun dY H2=>tt b dY H2 λc H3=>if c=true then oR D (te b) dY H3 (Nx n i Pv) else Nx n i Pv H3): ∃ W:Nat->Nat->Hp->Prop,(∃ m,W 0 m (upd H1 D (.lst [])))/\∀ b,vN J (g b) (tt b) (oR D (te b)) lN End W:=by refine ⟨λi m H=>m=n-i/\i<=n/\Pv i H,⟨n,rfl,cJ _,h0⟩,λb i m H ⟨hm,hi,p⟩=>?_⟩;subst hm;by_cases hlt:i<n;exact .inr ⟨(turn i H hlt p).1,λx H' y=>(turn i H hlt p).2 x H' y b⟩;have e:i=n:=(by omega);subst e;exact .inl (stop H p)
variable{z:Str}
theorem alu(Pv:Nat->Hp->Prop)(h0:Pv 0 (upd H1 D (.lst [])))(stop:∀ H,Pv z.cps.size H->End H)(turn:∀ i c H,z.cps[i]?=some c->i<z.cps.size->Pv i H->∀ b,g b (.str ⟨#[c]⟩) lN H fun dY H2=>tt b dY H2 λc H3=>if c=true then oR D (te b) dY H3 (Nx z.cps.size i Pv) else Nx z.cps.size i Pv H3):
   ∃ W:Nat->Nat->Hp->Prop,(∃ m,W 0 m (upd H1 D (.lst [])))/\∀ b,vN (Its z) (g b) (tt b) (oR D (te b)) lN End W :=
 Iz z.cps.size Pv h0 (λH p=>⟨bB _,stop H p⟩) λi H hi p=>⟨hi,λx H' ⟨e,c,hc,hx⟩ b=>by subst e hx; exact turn i c _ hc hi p b⟩
variable{K:cH}{a:au}{xs:List V}
theorem Ke(Pv:Nat->Hp->Prop)(h0:Pv 0 (upd H1 D (.lst [])))(hl:∀ i H,i<=xs.length->Pv i H->aY K H a xs)(stop:∀ H,Pv xs.length H->End H)(turn:∀ i x H,xs[i]?=some x->i<xs.length->Pv i H->∀ b,g b x lN H fun dY H2=>tt b dY H2 λc H3=>if c=true then oR D (te b) dY H3 (Nx xs.length i Pv) else Nx xs.length i Pv H3):
   ∃ W:Nat->Nat->Hp->Prop,(∃ m,W 0 m (upd H1 D (.lst [])))/\∀ b,vN (BZ K a) (g b) (tt b) (oR D (te b)) lN End W :=
 Iz xs.length Pv h0 (λH p=>⟨⟨xs,hl _ H (bB _) p,bB _⟩,stop H p⟩) λi H hi p =>
   ⟨⟨xs,xs[i],hl i H (tH hi) p,by simp [hi]⟩,λx H' ⟨e,y⟩ b=>by subst e; exact turn i x _ (y xs (hl i _ (tH hi) p)) hi p b⟩
theorem Ce(Pv:Nat->Hp->Prop)(h0:Pv 0 (upd H1 D (.lst [])))(hl:∀ i H,i<=xs.length->Pv i H->aG K H a xs)(stop:∀ H,Pv xs.length H->End H)(turn:∀ i x H,xs[i]?=some x->i<xs.length->Pv i H->∀ b,g b x lN H fun dY H2=>tt b dY H2 λc H3=>if c=true then oR D (te b) dY H3 (Nx xs.length i Pv) else Nx xs.length i Pv H3):
   ∃ W:Nat->Nat->Hp->Prop,(∃ m,W 0 m (upd H1 D (.lst [])))/\∀ b,vN (xY K a) (g b) (tt b) (oR D (te b)) lN End W :=
 Iz xs.length Pv h0 (λH p=>⟨⟨xs,hl _ H (bB _) p,bB _⟩,stop H p⟩) λi H hi p =>
   ⟨⟨xs,xs[i],hl i H (tH hi) p,by simp [hi]⟩,λx H' ⟨e,y⟩ b=>by subst e; exact turn i x _ (y xs (hl i _ (tH hi) p)) hi p b⟩
theorem JL{lo:Int}(Pv:Nat->Hp->Prop)(h0:Pv 0 (upd H1 D (.lst [])))(stop:∀ H,Pv n H->End H)(turn:∀ i H,i<n->Pv i H->∀ b,g b (.int (lo+i)) lN H fun dY H2=>tt b dY H2 λc H3=>if c=true then oR D (te b) dY H3 (Nx n i Pv) else Nx n i Pv H3):
   ∃ W:Nat->Nat->Hp->Prop,(∃ m,W 0 m (upd H1 D (.lst [])))/\∀ b,vN (Aw lo n) (g b) (tt b) (oR D (te b)) lN End W :=
 Iz n Pv h0 (λH p=>⟨bB _,stop H p⟩) λi H hi p=>⟨hi,λx H' ⟨e,hx⟩ b=>by subst e hx; exact turn i _ hi p b⟩
structure cW(H1 H:Hp)(D:au)(ys:List V):Prop where
 at':H D=some (.lst ys)
 same:aD H1 H
theorem cW.start(h:H1 D=none):cW H1 (upd H1 D (.lst [])) D []:=⟨aZ,λb o e=>by rw [bx (cg e h)]; exact e⟩
theorem cW.put{ys:List V}(h:H1 D=none)(G:cW H1 H D ys)(y:V):cW H1 (upd H D (.lst (ys++[y]))) D (ys++[y]):=⟨aZ,λb o e=>by rw [bx (cg e h)]; exact G.same b o e⟩
variable{p:au}{o:HO}
theorem aD.upd(s:aD H H1)(h:H1 p=none):aD H (upd H1 p o):=λb u e=>by rw [bx (cg (s b u e) h)]; exact s b u e
variable{H':Hp}
theorem aD.tup(e:aD H H')(h:aG K H a xs):aG K H' a xs:=by rcases h with (h | ⟨o,h⟩) | h;exact .inl (.inl (e _ _ h));exact .inl (.inr ⟨o,e _ _ h⟩);exact .inr h
variable{X:Cx}{a b:Expr}{tA vD:TT}{rest:List Expr}{pos:Pos}
theorem uo(ha:PT X a tA)(hb:PW X (.BoolOp .Or (b :: rest) pos) vD):PT X (.BoolOp .Or (a :: b :: rest) pos) (tOr tA vD):=(pw_or ha hb).pt
theorem zR(ha:PT X a tA)(hb:PW X (.BoolOp .And (b :: rest) pos) vD):PT X (.BoolOp .And (a :: b :: rest) pos) (Wy tA vD):=(pw_and ha hb).pt
theorem lt1{a b:Nat}:([a]<[b])↔a<b:=by simp [List.cons_lt_cons_iff]
variable{aJ bO:Type}
theorem alD{f:aJ->bO}{l:List aJ}{c:aJ}(h:l[i]?=some c):(l.take (i+1)).map f=(l.take i).map f++[f c]:=by rw [dI,h,dJ]; rfl
theorem yw{f:aJ->bO}{l:List aJ}(h:l.length<=n):(l.take n).map f=l.map f:=by rw [oM h]
theorem aoL{f:aJ->bO}{l:List aJ}{m:Nat}(h:i<m)(hm:m<=aL):((l.take i).map f).length<aL:=by rw [aU,eY]; omega
variable{c:Nat}
theorem afx(h:z.cps[i]?=some c):z.cps.toList[i]?=some c:=by simpa using h
def aW(p:au)(H H':Hp):Prop:=∀ b o,b≠p->H b=some o->H' b=some o
theorem aW.of(s:aD H H'):aW p H H':=λb o _ e=>s b o e
theorem aW.ao(a:aW p H H1)(b:aW p H1 H2):aW p H H2:=λc o n e=>b c o n (a c o n e)
theorem aW.upd(a:aW p H H1):aW p H (upd H1 p o):=λc u n e=>by rw [bx n]; exact a c u n e
theorem aW.new{q:au}(a:aW p H H1)(h:H1 q=none):aW p H (L2.upd H1 q o):=λc u n e=>by rw [bx (cg (a c u n e) h)]; exact a c u n e
structure IxA(K:cH)(x y:V)(H:Hp)(Q:VK):Prop where
 h:afH K x y H Q
theorem mJ:xV X (IxA X.K):=λa b ak s aj H x y v u Q I rx ry h hs=>al9 a b ak s aj H x y v u Q I rx ry h.h hs
variable{i:Int}{v:V}{Q:VK}
theorem m7(h:H p=some (.lst xs))(e:mH xs i=some v)(q:Q v H):IxA K (.ref p) (.int i) H Q:=⟨p,xs,i,v,rfl,rfl,aY.of h,e,q⟩
theorem amf(h:aY K H p xs)(e:mH xs i=some v)(q:Q v H):IxA K (.ref p) (.int i) H Q:=⟨p,xs,i,v,rfl,rfl,h,e,q⟩
structure IxT(K:cH)(x y:V)(H:Hp)(Q:VK):Prop where
 h:acI K x y H Q
theorem cM:xV X (IxT X.K):=λa b ak s aj H x y v u Q I rx ry h hs=>ak9 a b ak s aj H x y v u Q I rx ry h.h hs
theorem cL(h:aG K H p xs)(e:mH xs i=some v)(q:Q v H):IxT K (.ref p) (.int i) H Q:=⟨p,xs,i,v,rfl,rfl,h,e,q⟩
structure IxS(x y:V)(H:Hp)(Q:VK):Prop where
 h:acC x y H Q
theorem Gq:xV X IxS:=λa b ak s aj H x y v u Q I rx ry h hs=>aoc a b ak s aj H x y v u Q I rx ry h.h hs
theorem Gj(hz:z.length<=aL)(e:mH z.cps.toList i=some c)(q:Q (.str ⟨#[c]⟩) H):IxS (.str z) (.int i) H Q:=⟨z,i,c,rfl,rfl,hz,e,q⟩
structure aaU(o i v:V)(H:Hp)(Q:Hp->Prop):Prop where
 h:adf o i v H Q
theorem aaD:Zj X aaU:=λak s aj H o i v ov iv u Q I ro ri rv h=>set_list ak s aj H o i v ov iv u Q I ro ri rv h.h
theorem setAt{j:Nat}{Q:Hp->Prop}(h:H p=some (.lst xs))(e:vZ xs.length i=some j)(q:Q (upd H p (.lst (xs.set j v)))):aaU (.ref p) (.int i) v H Q:=⟨p,xs,i,j,rfl,rfl,h,e,q⟩
def LK(z:Str)(lo hi:Option Int):Str:=⟨((z.cps.toList.drop (HT.cA z.length 0 lo)).take (HT.cA z.length z.length hi-HT.cA z.length 0 lo)).toArray⟩
theorem aoJ(lo hi:Option Int)(n:Nat):ac6 lo hi 1 n=(cY (HT.cA n n hi-HT.cA n 0 lo)).map (HT.cA n 0 lo+·):=by have a:∀(v:Option Int)(d:Nat),d<=n->(match v with | none=>(d:Int) | some i=>(let i:=if i<0 then i+(n:Int) else i; max 0 (min i (n:Int))))=((HT.cA n d v:Nat):Int):=λv d hd=>(by cases v with| none=>rfl| some i =>show max 0 (min (if i<0 then i+(n:Int) else i) (n:Int))=((if i<0 then (i+(n:Int)).toNat else min i.toNat n:Nat):Int);by_cases h:i<0;rw [bh h,bh h]; omega;rw [aV h,aV h]; omega);rw [<- sliceRange_one];unfold ac6;have h1:=a lo 0 (cJ _);have h2:=a hi n (bB _);simp only [show (1:Int) > 0 by decide,if_true] at h1 h2 |-;rw [<- h1,<- h2];rfl
theorem Xv(z:Str)(lo hi:Option Int):BL z lo hi=LK z lo hi:=by unfold BL LK;rw [aoJ,pick_run];split;rename_i h;have e:HT.cA z.length z.length hi-HT.cA z.length 0 lo=z.length:=(by simpa using h);have b:HT.cA z.length z.length hi<=z.length:=(by unfold HT.cA;cases hi with| none=>exact bB _| some v=>simp only; split <;> omega);by_cases h0:z.length=0;have e0:z.cps.toList=[]:=(by apply Bg;simpa [Br] using h0);(cases z with| mk cps =>have e1:cps=#[]:=(by simpa using e0);subst e1;simp);have e1:HT.cA z.length 0 lo=0:=(by omega);rw [e1,Qp,show HT.cA z.length z.length hi=z.length by omega,Pr,oM (by simp [Br])];rfl
theorem an6(z:Str)(k:Nat):BL z none (some (k:Int))=⟨(z.cps.toList.take k).toArray⟩:=by rw [Xv];unfold LK;rw [HT.Q6,HT.wA,Pr,Qp];congr 2;rw [Oj];simp [Br];try omega
theorem aob(z:Str)(i k:Nat):BL z (some (i:Int)) (some (k:Int))=⟨((z.cps.toList.take k).drop i).toArray⟩:=by rw [Xv];unfold LK;rw [HT.wA,HT.wA,Lf];have el:z.cps.toList.length=z.length:=(by simp [Br]);congr 1;by_cases h:i<=z.length;rw [BK h];congr 1;rw [Oj,pJ,el];omega;rw [HD (show z.cps.toList.length<=min i z.length by omega),HD (show z.cps.toList.length<=i by omega)];simp
def afq(t:TE):TO:=fun aj H Q=>t aj H λx H1=>match x with
 | .int i=>Q (some i) H1
 | _=>False
variable{e:Expr}{te:TE}
theorem jk(h:PE X e te):PO X (some e) (afq te):=by intro ak s aj H Q I hw;rw [Z4];refine bL (h ak s aj H _ I hw) λu s1 ⟨x,H1,I1,r1,q1⟩=>?_;cases x with| int i=>obtain ⟨t,rfl⟩:=r1; exact ⟨some i,H1,I1,.int i t,q1⟩| _=>exact (show False from q1).elim
structure SlS(x:V)(lo hi:Option Int)(H:Hp)(Q:VK):Prop where
 h:∃ z,x=.str z/\z.length<=aL/\Q (.str (BL z lo hi)) H
theorem Oo:SlR X SlS:=λak s aj H x v vl vu lo hi sl Q I rx hs pl pu h=>ak1 ak s aj H x v vl vu lo hi sl Q I rx hs pl pu h.h
theorem Oc{lo hi:Option Int}(hz:z.length<=aL)(q:Q (.str (BL z lo hi)) H):SlS (.str z) lo hi H Q:=⟨z,rfl,hz,q⟩
theorem app_list(a b:Str):(a++b).cps.toList=a.cps.toList++b.cps.toList:=by show (a.cps++b.cps).toList=_;simp
theorem len_list(a:Str):a.cps.toList.length=a.length:=by simp [Br]
abbrev ug:=St->Hp->(St->Hp->Prop)->Prop
def CT(J:It)(g:TG)(tt:TT)(act:ug)(End:St->Hp->Prop)(W:Nat->Nat->St->Hp->Prop):Prop :=
 ∀ i m aj H,W i m aj H->(J.stop i H/\End aj H)\/(J.go i H/\∀ x H',J.zP i H x H'->g x aj H' fun dY H2=>tt dY H2 λb H3 =>
   if b=true then act dY H3 fun al7 H4=>∃ m',m'<m/\W (i+1) m' al7 H4 else ∃ m',m'<m/\W (i+1) m' dY H3)
def Cd(X:Cx)(tail:Sem Unit)(act:ug):Prop :=
 ∀(ak:List (au × Obj))(s:aH)(aj:St)(H:Hp)(R:St->Hp->Prop),Inv X ak aj H s->act aj H R ->
   aF (aR X.prog X.w) X.A tail (λ_ s'=>∃ bJ H',Inv X ak bJ H' s'/\R bJ H') (λ_ _=>False) s
def Bd(p:Pos)(tg:Expr)(ifs:List Expr)(env:Env)(it:aB)(tail:Sem Unit)(c:Code):Sem Fin:=do
 standAt p
 match <- pyNext it with
 | none=>pure (.done .next)
 | some v =>
   letOwnedTupleGo tg it v
   assign tg env v
   let mut ok:=true
   for c in ifs do
     if ok then ok <- isTrue c env (eval c env)
   if ok then tail
   again c
variable{acc:aB}{p:Pos}{tg:Expr}{ifs:List Expr}{tail:Sem Unit}{fp:List au}{g:TG}{tt:TT}{act:ug}{ak:List (au × Obj)}{aj:St}{s:aH}
theorem abG{depth:Nat}{it:au}{tn:Nat->bD->Prop}{End:St->Hp->Prop}{W:Nat->Nat->St->Hp->Prop}{m0:Nat}(hq:(OD e depth (.ref it) acc X.env).quiet=true)(hden:∀(Q:Fin->aH->Prop)(E:aB->aH->Prop)(s:aH),aF (aR X.prog X.w) X.A (Bd p tg ifs X.env (.ref it) tail (.compLoop e depth (.ref it) acc X.env)) Q (notedBy (aR X.prog X.w) X.A X.env E) s -> aF (aR X.prog X.w) (X.A.under (.compLoop e depth (.ref it) acc X.env)) ((aR X.prog X.w).den (.compLoop e depth (.ref it) acc X.env)) Q E s)(mU:∀ v s,X.xe v s->False)(hc:X.calm=true)(T:Turn X.prog X.w X.K tg J fp it tn)(hf:∀ b∈fp,jA X ak H b)(I:Inv X ak aj H s)(st:tn 0 s.heap)(hg:PG X tg g)(ht:mQ X ifs tt)(ha:Cd X tail act)(hW:CT J g tt act End W)(w0:W 0 m0 aj H): kI (aR X.prog X.w) X.A (.compLoop e depth (.ref it) acc X.env) (λr s'=>∃ bJ H',r=.ok .next/\Inv X ak bJ H' s'/\End bJ H') s:=by have stat:∀{H':Hp},(∀ b∈fp,H' b=none)->∀ b∈fp,jA X ak H' b:=λhn b hb=>⟨hn b hb,(hf b hb).2⟩;refine Z8 hq (λn s'=>∃ i bJ H',Inv X ak bJ H' s'/\tn i s'.heap/\(∀ b∈fp,H' b=none)/\W i n bJ H') ?_ m0 ⟨0,aj,H,I,st,λb hb=>(hf b hb).1,w0⟩;rintro n s3 ⟨i,zG,H3,I3,st3,zY,w3⟩;refine hden _ _ _ ?_;unfold Bd;rcases hW i n zG H3 w3 with ⟨stop,qe⟩ | ⟨go,step⟩;refine aA (qL (aA (bL (T.done X rfl rfl rfl hc i ak s3 _ H3 _ I3 (stat zY) st3 stop) λr s5 ⟨hr,I5⟩=>?_)));subst hr;exact aO ⟨zG,H3,rfl,I5,qe⟩;refine aA (qL (aA (bL (T.item X rfl rfl rfl hc i ak s3 _ H3 _ I3 (stat zY) st3 go) λr s5 ⟨u,hr,h5⟩=>?_)));subst hr;refine aA (bL h5 λ_ s6 ⟨x,H6,I6,r6,y6,rH,fr6⟩=>?_);have I6':=I6.pinned (stat fr6) (T.obj _ _ rH);refine aA (ju (hg _ s6 _ H6 x u _ I6' r6 (step x H6 y6)) (λ_ s7 ⟨lH,H7,I7,q7⟩=>?_) λv s' f=>(mU v s' f).elim);refine aA (ju (ht _ s7 lH H7 _ I7 q7) (λok s8 ⟨H8,I8,q8⟩=>?_) λv s' f=>(mU v s' f).elim);have again:∀{vQ:St}{H9:Hp}{s9:aH}{m':Nat},Inv X (ak++DX fp s6.heap) vQ H9 s9->m'<n->W (i+1) m' vQ H9 -> ∃ m,m<n/\∃ i bJ H',Inv X ak bJ H' s9/\tn i s9.heap/\(∀ b∈fp,H' b=none)/\W i m bJ H':=λ{vQ H9 s9 m'} I9 hm w9=>(by refine ⟨m',hm,i+1,vQ,H9,I9.Iv,T.keep _ _ _ rH λb hb o e=>(I9.pin (b,o) (jH _ (jH _ (Bo hb e)))).1,λb hb=>?_,w9⟩;obtain ⟨o,e,d⟩:=T.obj _ _ rH b hb;exact (I9.pin (b,o) (jH _ (jH _ (Bo hb e)))).2.1);cases ok with| false =>obtain ⟨m',hm,w9⟩:=q8;exact aO ⟨rfl,again I8 hm w9⟩| true =>refine aA (ju (ha _ s8 lH H8 _ I8 q8) (λ_ s9 ⟨vQ,H9,I9,m',hm,w9⟩=>?_) λ_ _ f=>f.elim);exact aO ⟨rfl,again I9 hm w9⟩
def abm(D:au)(te:TE):ug:=fun aj H R=>te aj H λy H4=>∃ zs,H4 D=some (.lst zs)/\zs.length<aL/\R aj (upd H4 D (.lst (zs++[y])))
def aIn(wi:TI)(g:TG)(tt:TT)(act:ug):ug:=fun aj H R=>wi aj H λJ H1=>∃ W:Nat->Nat->St->Hp->Prop,(∃ m,W 0 m aj H1)/\CT J g tt act R W
section
variable{X:Cx}{elt kx vx iter tg:Expr}{te tk tv:TE}{D:au}{wi:TI}{g:TG}{tt:TT}{act:ug}{ifs:List Expr}{scope:Scope}{pos:Pos}
theorem aiY(mU:∀ v s,X.xe v s->False)(he:PE X elt te):Cd X (do let _ <- call (.builtin "list.append") [.ref D,<- eval elt X.env]) (abm D te):=by
 intro ak s aj H R I h;refine aA (ju (he _ s aj H _ I h) (λy s9 ⟨v,H9,I9,r9,zs,hD,hz,w9⟩=>?_) λv s' f=>(mU v s' f).elim);refine aA (ju (uN (X:=X) _ s9 aj H9 (.ref D) [v] (.ref D) [y] (λ_ H'=>R aj H') I9 rfl (.cons r9 .nil) ⟨D,zs,v,rfl,rfl,hD,hz,w9⟩) (λ_ pB ⟨_,ou,I10,_,q⟩=>?_) λv s' f=>(mU v s' f).elim);exact aO ⟨aj,ou,I10,q⟩
theorem ahY{a:au}{y:V}{u r:aB}{A:iw}{E:aB->aH->Prop}{Q:Unit->aH->Prop}(I:Inv X ak aj H s){kvs:List (Key × V)}{k:Key}(e:H a=some (.dK kvs))(ey:y=kV k)(l:kvs.length<aL)(eH:H'=upd H a (.dK (dH kvs k v)))(ry:cI y u)(rv:cI v r)(h:∀ s',Inv X ak aj H' s'->Q () s'):aF (aR X.prog X.w) A (dictSet a u r) Q E s:=by subst ey eH;obtain ⟨z,hd,vs,rel,dd⟩:=Gs I.hok e;have hz:vs.length<=aL:=(by rw [<- rel.length]; exact z);have hl:(dH kvs k v).length<=aL:=(by have:=yM kvs k v; omega);refine wpAny_dictSet_pairs (hsz:=hz) (yH ry) dd λh' vV hs=>h _ ?_;have he:∃ q,h'.get? a=some q:=let ⟨q,_,_,hq,_⟩:=vV; ⟨q,hq⟩;exact El I (by rw [e]; exact rF) hs he (Jo hl hd (rel.put k rv) vV)
def Tg(D:au)(tk tv:TE):ug:=fun aj H R=>tk aj H λk H1=>tv aj H1 λv H2=>∃ kvs kk,H2 D=some (.dK kvs)/\k=kV kk/\kvs.length<aL/\R aj (upd H2 D (.dK (dH kvs kk v)))
theorem aeF(mU:∀ v s,X.xe v s->False)(hk:PE X kx tk)(hv:PE X vx tv):Cd X (do
   let kv <- eval kx X.env
   let vv <- holding [kv] (eval vx X.env)
   standAt { kx.pos with endLine:=vx.pos.endLine,endCol:=vx.pos.endCol }
   holding [kv,vv] (dictSet D kv vv)) (Tg D tk tv):=by
 intro ak s aj H R I h;refine aA (ju (hk _ s aj H _ I h) (λy s1 ⟨k,H1,I1,r1,q1⟩=>?_) λv s' f=>(mU v s' f).elim);refine aA (iR (ju (hv _ s1 aj H1 _ I1 q1) (λz s2 ⟨v,H2,I2,r2,kvs,kk,hD,ek,hl,q⟩=>?_) λv s' f=>(mU v s' f).elim));refine aA (qL (iR ?_));exact ahY I2 hD ek hl rfl r1 r2 λs' I'=>⟨aj,_,I',q⟩
end
theorem abJ{iter:Expr}{wi:TI}(hq:∀ it,(OD e 1 (.ref it) acc X.env).quiet=true)(hden:∀(it:au)(Q:Fin->aH->Prop)(E:aB->aH->Prop)(s:aH),aF (aR X.prog X.w) X.A (Bd p tg ifs X.env (.ref it) tail (.compLoop e 1 (.ref it) acc X.env)) Q (notedBy (aR X.prog X.w) X.A X.env E) s ->
     aF (aR X.prog X.w) (X.A.under (.compLoop e 1 (.ref it) acc X.env)) ((aR X.prog X.w).den (.compLoop e 1 (.ref it) acc X.env)) Q E s)(hst:∀(it:au)(R:xO->aH->Prop)(s:aH),kI (aR X.prog X.w) X.A (.compLoop e 1 (.ref it) acc X.env) R s ->
     (∀ Q E,Q (.ref it) s->aF (aR X.prog X.w) X.A (pyIter (.ref it)) Q E s)->kI (aR X.prog X.w) X.A (.compStart e 1 (.ref it) acc X.env) R s)(mU:∀ v s,X.xe v s->False)(hc:X.calm=true)(hi:PI X tg iter wi)(hg:PG X tg g)(ht:mQ X ifs tt)(ha:Cd X tail act)(hs:∀ x,n6 iter X.env x=pure x:=by intro _; rfl):
   Cd X (do
     let x <- eval iter X.env
     standAt iter.pos
     let x <- n6 iter X.env x
     let _ <- runOwn (.compStart e 1 (<- holding [x] (pyIter x)) acc X.env) X.env) (aIn wi g tt act):=by
 intro ak s aj H R I h;refine aA (ju (hi ak s aj H _ I h) (λv s1 h1=>?_) λv s' f=>(mU v s' f).elim);refine aA (qL (aA ?_));rw [hs];refine aO (aA (iR (ju h1 (λitv s2 h2=>?_) λv s' f=>(mU v s' f).elim)));obtain ⟨it,fp,tn,J,H2,rfl,I2,T,st2,f2,W,⟨m0,w0⟩,hW⟩:=h2;have loop:=abG (p:=p) (hq it) (hden it) mU hc T f2 I2 st2 hg ht ha hW w0;refine aA (wpAny_runOwn (uD (hst it _ _ loop λQ E q=>T.self _ 0 _ _ _ st2 q) λr s' ⟨bJ,H',hr,I',q⟩=>?_));subst hr;exact aO ⟨bJ,H',I',q⟩
def Pu(own:List Str)(ix:List Nat)(o0:HO)(wi:TI)(g:BI->TG)(tt:BI->TT)(act:BI->au->ug):TE:=fun aj H Q=>wi aj H λJ H1=>∀ D,H1 D=none ->
 ∃ W:Nat->Nat->St->Hp->Prop,(∃ m,W 0 m (nq own ix aj) (upd H1 D o0))/\∀ b,CT J (g b) (tt b) (act b D) (λ_ H'=>Q (.ref D) H') W
def acu(own:List Str)(ix:List Nat)(o0:au->HO)(wi:TI)(g:BI->TG)(tt:BI->TT)(act:BI->au->ug):TE:=fun aj H Q=>wi aj H λJ H1=>∀ D,H1 D=none ->
 ∃ W:Nat->Nat->St->Hp->Prop,(∃ m,W 0 m (nq own ix aj) (upd H1 D (o0 D)))/\∀ b,CT J (g b) (tt b) (act b D) (λ_ H'=>Q (.ref D) H') W
section
variable{X:Cx}{e tg iter:Expr}{ifs:List Expr}{gs:List Comprehension}{scope bQ:Scope}{pos:Pos}{own cap:List Str}{ix:List Nat}{wi:TI}{g:BI->TG}{tt:BI->TT}{act:BI->au->ug}{tail:au->Env->Sem Unit}{newAcc:Sem aB}{ob:Obj}{o0:HO}{p:Pos}
structure CV(X:Cx)(e:Expr)(depth:Nat)(p:Pos)(tg:Expr)(ifs:List Expr)(tail:au->Env->Sem Unit):Prop where
 hq:∀ it D env,(OD e depth (.ref it) (.ref D) env).quiet=true
 hden:∀(it D:au)(env:Env)(Q:Fin->aH->Prop)(E:aB->aH->Prop)(s:aH),aF (aR X.prog X.w) X.A (Bd p tg ifs env (.ref it) (tail D env) (.compLoop e depth (.ref it) (.ref D) env)) Q (notedBy (aR X.prog X.w) X.A env E) s ->
     aF (aR X.prog X.w) (X.A.under (.compLoop e depth (.ref it) (.ref D) env)) ((aR X.prog X.w).den (.compLoop e depth (.ref it) (.ref D) env)) Q E s
 hst:∀(it D:au)(env:Env)(R:xO->aH->Prop)(s:aH),kI (aR X.prog X.w) X.A (.compLoop e depth (.ref it) (.ref D) env) R s ->
     (∀ Q E,Q (.ref it) s->aF (aR X.prog X.w) X.A (pyIter (.ref it)) Q E s)->kI (aR X.prog X.w) X.A (.compStart e depth (.ref it) (.ref D) env) R s
variable{use:Option (aB->Sem Unit)}{Q':aB->aH->Prop}
theorem acF{o0:au->HO}(hcl:clausesOf e=⟨tg,iter,ifs,0⟩ :: gs)(C0:CV X e 0 p tg ifs tail)(hnew:∀(ak:List (au × Obj))(aj:St)(H:Hp)(s:aH)(Q:aB->aH->Prop)(E:aB->aH->Prop),Inv X ak aj H s->(Inv X ak aj (upd H s.heap.objs.size (o0 s.heap.objs.size)) { s with heap:=s.heap.push ob }->Q (.ref s.heap.objs.size) { s with heap:=s.heap.push ob })->aF (aR X.prog X.w) X.A newAcc Q E s)(hc:X.calm=true)(hX:X.env.scope=bQ)(S:m6 bQ scope X.N own cap ix)(hi:PI X tg iter wi)(hg:∀ b,PG (blk X scope (own++cap) b) tg (g b))(ht:∀ b,mQ (blk X scope (own++cap) b) ifs (tt b))(ha:∀ b D,Cd (blk X scope (own++cap) b) (tail D (blk X scope (own++cap) b).env) (act b D))(hs:∀ x,n6 iter X.env x=pure x)(I:Inv X ak aj H s)(h:acu own ix o0 wi g tt act aj H Q)(out:∀(D C:au)(H':Hp)(s':aH),Q (.ref D) H'->(∃ m,s'.heap.Ns C m)->jA X ak H' C->(∀ h',mD C s'.heap h'->Inv X ak aj H' { s' with heap:=h' }) -> compPost (aR X.prog X.w) X.A X.xe use Q' (.ref D) C (.ok .next) s'): aF (aR X.prog X.w) X.A (comprehension e scope X.env pos newAcc false (eval iter X.env) use) Q' X.xe s:=by have hclos:=Vq (scope:=scope) (env:=X.env) λy hy hk=>(by have hf:=S.free y hy hk;rw [<- hX] at hf;exact I.ok.has y.1 hf);refine S9 (use:=use) hcl hs hclos S.kind (λy hy hk=>by rw [S.nm y hy,hk]) (bL (hi ak s aj H _ I h) λv s1 h1=>bL h1 λitv s2 h2=>?_);obtain ⟨it,fp,tn,J,H2,e1,I2,T,st2,f2,hR⟩:=h2;subst e1;refine hnew _ _ _ _ _ _ I2 λI3=>?_;obtain ⟨W,⟨m0,w0⟩,hW⟩:=hR s2.heap.objs.size I2.fresh;have uE:∀ b∈fp,b<s2.heap.objs.size:=λb hb=>let ⟨_,e,_⟩:=T.obj _ _ st2 b hb; bW e;have f3:∀ b∈fp,jA X ak (upd H2 s2.heap.objs.size (o0 s2.heap.objs.size)) b:=λb hb=>⟨by rw [bx (dU (uE b hb))]; exact (f2 b hb).1,(f2 b hb).2⟩;have st3:tn 0 (s2.heap.push ob):=T.keep _ _ _ st2 λb hb o e=>cj _ e;generalize hs3:({ s2 with heap:=s2.heap.push ob }:aH)=s3 at I3;have CK:tn 0 s3.heap:=(by rw [<- hs3]; exact st3);have ob3:∀ b∈fp,∃ o,s3.heap.get? b=some o:=λb hb=>let ⟨o,e,_⟩:=T.obj _ _ CK b hb; ⟨o,e⟩;have I4:=SX S hX I3 f3 ob3;have uJ:tn 0 (zB s3 scope):=T.keep _ _ _ CK λb _ o e=>Rt s3 scope b o e;refine VF ?_;have f4:∀ b∈fp,jA (blk X scope (own++cap) (gb X ak s3 (upd H2 s2.heap.objs.size (o0 s2.heap.objs.size)) scope fp)) [] (upd H2 s2.heap.objs.size (o0 s2.heap.objs.size)) b:=λb hb=>(by refine ⟨(f3 b hb).1,(I4.ok.zq b hb).1,I4.ok.BX b hb,.inl hb,(I4.ok.zq b hb).2,λp hp=>?_⟩;have hp':p∈X.pn++ak:=(by rcases fQ.mp hp with z | z;exact z;exact nomatch z);exact (f3 b hb).2.2.2.2.2 p hp');have loop:=abG (X:=blk X scope (own++cap) (gb X ak s3 (upd H2 s2.heap.objs.size (o0 s2.heap.objs.size)) scope fp)) (e:=e) (depth:=0) (acc:=.ref s2.heap.objs.size) (C0.hq _ _ _) (C0.hden _ _ _) (λ_ _ f=>f) hc T f4 I4 uJ (hg _) (ht _) (ha _ _) (hW _) w0;have fin:kI (aR X.prog X.w) X.A (.compLoop e 0 (.ref it) (.ref s2.heap.objs.size) (uc scope (qX X s3 scope) s3.heap.objs.size X.env)) (compPost (aR X.prog X.w) X.A X.xe use Q' (.ref s2.heap.objs.size) s3.heap.objs.size) { s3 with heap:=zB s3 scope }:=uD loop λr s' ⟨bJ,H',hr,J',q⟩=>(by subst hr;exact out _ _ H' s' q (let ⟨m,hn,_⟩:=J'.loc; ⟨m,hn⟩) (I3.zQ (bB _) J'.free) λh' hh=>Lg I3 f3 J' hh);exact C0.hst _ _ _ _ _ fin λQ E q=>T.self _ 0 _ _ _ uJ q
theorem Xi(hcl:clausesOf e=⟨tg,iter,ifs,0⟩ :: gs)(C0:CV X e 0 p tg ifs tail)(hnew:∀(ak:List (au × Obj))(aj:St)(H:Hp)(s:aH)(Q:aB->aH->Prop)(E:aB->aH->Prop),Inv X ak aj H s->(Inv X ak aj (upd H s.heap.objs.size o0) { s with heap:=s.heap.push ob }->Q (.ref s.heap.objs.size) { s with heap:=s.heap.push ob })->aF (aR X.prog X.w) X.A newAcc Q E s)(hc:X.calm=true)(hX:X.env.scope=bQ)(S:m6 bQ scope X.N own cap ix)(hi:PI X tg iter wi)(hg:∀ b,PG (blk X scope (own++cap) b) tg (g b))(ht:∀ b,mQ (blk X scope (own++cap) b) ifs (tt b))(ha:∀ b D,Cd (blk X scope (own++cap) b) (tail D (blk X scope (own++cap) b).env) (act b D))(hs:∀ x,n6 iter X.env x=pure x)(I:Inv X ak aj H s)(h:Pu own ix o0 wi g tt act aj H Q)(out:∀(D C:au)(H':Hp)(s':aH),Q (.ref D) H'->(∃ m,s'.heap.Ns C m)->jA X ak H' C->(∀ h',mD C s'.heap h'->Inv X ak aj H' { s' with heap:=h' }) ->
     compPost (aR X.prog X.w) X.A X.xe use Q' (.ref D) C (.ok .next) s'):
   aF (aR X.prog X.w) X.A (comprehension e scope X.env pos newAcc false (eval iter X.env) use) Q' X.xe s :=
 acF (o0:=λ_=>o0) hcl C0 hnew hc hX S hi hg ht ha hs I h out
end
section
variable{X:Cx}{elt kx vx tg iter jG iter1:Expr}{ifs jW:List Expr}{scope:Scope}{pos:Pos}
def amx(elt:Expr)(D:au)(env:Env):Sem Unit:=do let _ <- call (.builtin "list.append") [.ref D,<- eval elt env]
def tailD(kx vx:Expr)(D:au)(env:Env):Sem Unit:=do
   let kv <- eval kx env
   let vv <- holding [kv] (eval vx env)
   standAt { kx.pos with endLine:=vx.pos.endLine,endCol:=vx.pos.endCol }
   holding [kv,vv] (dictSet D kv vv)
def Ft(e iter:Expr)(D:au)(env:Env):Sem Unit:=do
     let x <- eval iter env
     standAt iter.pos
     let x <- n6 iter env x
     let _ <- runOwn (.compStart e 1 (<- holding [x] (pyIter x)) (.ref D) env) env
theorem apG(it:aB)(D:au)(env:Env):compTurn (.ListComp elt [⟨tg,iter,ifs,0⟩,⟨jG,iter1,jW,0⟩] scope pos) 0 it (.ref D) env=Bd iter.pos tg ifs env it (Ft (.ListComp elt [⟨tg,iter,ifs,0⟩,⟨jG,iter1,jW,0⟩] scope pos) iter1 D env) (.compLoop (.ListComp elt [⟨tg,iter,ifs,0⟩,⟨jG,iter1,jW,0⟩] scope pos) 0 it (.ref D) env):=by unfold compTurn Bd Ft;simp only [YC,aeg,bne_self_eq_false,Aa,if_false,ZX,pure_bind];rfl
theorem akJ(it:aB)(D:au)(env:Env):compTurn (.DictComp kx vx [⟨tg,iter,ifs,0⟩,⟨jG,iter1,jW,0⟩] scope pos) 0 it (.ref D) env=Bd iter.pos tg ifs env it (Ft (.DictComp kx vx [⟨tg,iter,ifs,0⟩,⟨jG,iter1,jW,0⟩] scope pos) iter1 D env) (.compLoop (.DictComp kx vx [⟨tg,iter,ifs,0⟩,⟨jG,iter1,jW,0⟩] scope pos) 0 it (.ref D) env):=by unfold compTurn Bd Ft;simp only [YC,aeg,bne_self_eq_false,Aa,if_false,ZX,pure_bind];rfl
theorem Gx{d:Nat}{gl:Comprehension}{it:aB}{env:Env}{R:xO->aH->Prop}(hf:(Code.compStart e d it acc env).isFrame=false)(hg:(clausesOf e)[d]?=some gl)(ha:gl.is_async=0)(hu:∀ A:iw,A.under (.compStart e d it acc env)=A)(hq:(OD e d it acc env).quiet=true)(hd:(aR X.prog X.w).den (.compStart e d it acc env)=(compStart e d it acc env).onRaise (λx=>do noteFrame x env; standAt theWindowsPlace))(h0:kI (aR X.prog X.w) X.A (.compLoop e d it acc env) R s)(h:∀ Q E,Q it s->aF (aR X.prog X.w) X.A (pyIter it) Q E s):kI (aR X.prog X.w) X.A (.compStart e d it acc env) R s:=by refine Jr ?_;rw [hu,hd];refine wpAny_notedAt ?_;unfold compStart;rw [hg];simp only [Option.elim_some,ha];refine aA (Ra (wpAny_ite ?_));split;exact aO (And.intro hq h0);refine aA (yx (aA (qL (aA (h _ _ ?_)))));exact aO (And.intro hq h0)
theorem akq:CV X (.ListComp elt [⟨tg,iter,ifs,0⟩,⟨jG,iter1,jW,0⟩] scope pos) 0 iter.pos tg ifs (Ft (.ListComp elt [⟨tg,iter,ifs,0⟩,⟨jG,iter1,jW,0⟩] scope pos) iter1) where
 hq:=λ_ _ _=>rfl
 hden:=λit D env Q E s h=>by
   show aF _ X.A ((compTurn (.ListComp elt [⟨tg,iter,ifs,0⟩,⟨jG,iter1,jW,0⟩] scope pos) 0 (.ref it) (.ref D) env).onRaise (λx=>do noteFrame x env; theTreesLotGoes x)) _ _ s;exact Bk (by rw [apG]; exact h)
 hst:=λit D env R s h0 h=>Gx rfl rfl rfl (λ_=>rfl) rfl rfl h0 h
theorem Xg:CV X (.ListComp elt [⟨tg,iter,ifs,0⟩,⟨jG,iter1,jW,0⟩] scope pos) 1 iter1.pos jG jW (amx elt) where
 hq:=λ_ _ _=>rfl
 hden:=λit D env Q E s h=>by
   show aF _ X.A ((compTurn (.ListComp elt [⟨tg,iter,ifs,0⟩,⟨jG,iter1,jW,0⟩] scope pos) 1 (.ref it) (.ref D) env).onRaise (λx=>do noteFrame x env; theTreesLotGoes x)) _ _ s;exact Bk h
 hst:=λit D env R s h0 h=>Gx rfl rfl rfl (λ_=>rfl) rfl rfl h0 h
theorem alB:CV X (.DictComp kx vx [⟨tg,iter,ifs,0⟩,⟨jG,iter1,jW,0⟩] scope pos) 0 iter.pos tg ifs (Ft (.DictComp kx vx [⟨tg,iter,ifs,0⟩,⟨jG,iter1,jW,0⟩] scope pos) iter1) where
 hq:=λ_ _ _=>rfl
 hden:=λit D env Q E s h=>by
   show aF _ X.A ((compTurn (.DictComp kx vx [⟨tg,iter,ifs,0⟩,⟨jG,iter1,jW,0⟩] scope pos) 0 (.ref it) (.ref D) env).onRaise (λx=>do noteFrame x env; theTreesLotGoes x)) _ _ s;exact Bk (by rw [akJ]; exact h)
 hst:=λit D env R s h0 h=>Gx rfl rfl rfl (λ_=>rfl) rfl rfl h0 h
theorem Zc:CV X (.DictComp kx vx [⟨tg,iter,ifs,0⟩,⟨jG,iter1,jW,0⟩] scope pos) 1 iter1.pos jG jW (tailD kx vx) where
 hq:=λ_ _ _=>rfl
 hden:=λit D env Q E s h=>by
   show aF _ X.A ((compTurn (.DictComp kx vx [⟨tg,iter,ifs,0⟩,⟨jG,iter1,jW,0⟩] scope pos) 1 (.ref it) (.ref D) env).onRaise (λx=>do noteFrame x env; theTreesLotGoes x)) _ _ s;exact Bk h
 hst:=λit D env R s h0 h=>Gx rfl rfl rfl (λ_=>rfl) rfl rfl h0 h
variable{Q E:aB->aH->Prop}
theorem ahb(I:Inv X ak aj H s)(h:Inv X ak aj (upd H s.heap.objs.size (.lst [])) { s with heap:=s.heap.push { cls:=.type "list",data:=.seq ([]:List aB).toArray } }->Q (.ref s.heap.objs.size) { s with heap:=s.heap.push { cls:=.type "list",data:=.seq ([]:List aB).toArray } }):aF (aR X.prog X.w) X.A (newList []) Q E s :=
 jT (h (I.JV (t':=s.toks) (its:=[]) .nil (cJ _)))
theorem aal(I:Inv X ak aj H s)(h:Inv X ak aj (upd H s.heap.objs.size (.dK [])) { s with heap:=s.heap.push { cls:=.type "dict",data:=.dict #[] } }->Q (.ref s.heap.objs.size) { s with heap:=s.heap.push { cls:=.type "dict",data:=.dict #[] } }):aF (aR X.prog X.w) X.A newDict Q E s :=
 jT (h (I.laid (a:=s.heap.objs.size) (o:=.dK []) (t':=s.toks) (λ_ _ q=>cj _ q) (bB _) (afu s.heap I.big)))
end
section
variable{X:Cx}{elt kx vx tg iter jG iter1:Expr}{ifs jW:List Expr}{scope bQ:Scope}{pos:Pos}{own cap:List Str}{ix:List Nat}{wi:TI}{g g1:BI->TG}{tt Cq:BI->TT}{te tk tv:BI->TE}{Dc:BI->TI}
abbrev ao1(own:List Str)(ix:List Nat)(wi:TI)(g:BI->TG)(tt:BI->TT)(Dc:BI->TI)(g1:BI->TG)(Cq:BI->TT)(te:BI->TE):TE:=Pu own ix (.lst []) wi g tt λb D=>aIn (Dc b) (g1 b) (Cq b) (abm D (te b))
abbrev agI(own:List Str)(ix:List Nat)(wi:TI)(g:BI->TG)(tt:BI->TT)(Dc:BI->TI)(g1:BI->TG)(Cq:BI->TT)(tk tv:BI->TE):TE:=Pu own ix (.dK []) wi g tt λb D=>aIn (Dc b) (g1 b) (Cq b) (Tg D (tk b) (tv b))
theorem aa7(hc:X.calm=true)(hX:X.env.scope=bQ)(S:m6 bQ scope X.N own cap ix)(hi:PI X tg iter wi)(hg:∀ b,PG (blk X scope (own++cap) b) tg (g b))(ht:∀ b,mQ (blk X scope (own++cap) b) ifs (tt b))(hi1:∀ b,PI (blk X scope (own++cap) b) jG iter1 (Dc b))(hg1:∀ b,PG (blk X scope (own++cap) b) jG (g1 b))(ht1:∀ b,mQ (blk X scope (own++cap) b) jW (Cq b))(he:∀ b,PE (blk X scope (own++cap) b) elt (te b))(hs:∀ x,n6 iter X.env x=pure x:=by intro _; rfl)(hs1:∀ env x,n6 iter1 env x=pure x:=by intro _ _; rfl):
   PE X (.ListComp elt [⟨tg,iter,ifs,0⟩,⟨jG,iter1,jW,0⟩] scope pos) (ao1 own ix wi g tt Dc g1 Cq te):=by
 intro ak s aj H Q I h;rw [eval_ListComp];refine Xi (use:=none) rfl akq (λ_ _ _ _ _ _=>ahb) hc hX S hi hg ht (λb D=>abJ (acc:=.ref D) (λit=>(Xg (X:=blk X scope (own++cap) b)).hq it D _) (λit=>(Xg (X:=blk X scope (own++cap) b)).hden it D _) (λit=>(Xg (X:=blk X scope (own++cap) b)).hst it D _) (λ_ _ f=>f) hc (hi1 b) (hg1 b) (ht1 b) (aiY (λ_ _ f=>f) (he b)) (hs1 _)) hs I h λD C H' s' q hn _ hI=>?_
 obtain ⟨m,hn⟩:=hn;exact ⟨m,hn,λh' hh=>⟨.ref D,H',hI h' hh,rfl,q⟩⟩
theorem ajU{i:Nat}{x:Str}{pos' spos:Pos}(hN:X.N.Nodup)(hx1:X.N[i]?=some x)(hx:X.env.scope.names.lookup x=some .local)(hc:X.calm=true)(hX:X.env.scope=bQ)(S:m6 bQ scope X.N own cap ix)(hi:PI X tg iter wi)(hg:∀ b,PG (blk X scope (own++cap) b) tg (g b))(ht:∀ b,mQ (blk X scope (own++cap) b) ifs (tt b))(hi1:∀ b,PI (blk X scope (own++cap) b) jG iter1 (Dc b))(hg1:∀ b,PG (blk X scope (own++cap) b) jG (g1 b))(ht1:∀ b,mQ (blk X scope (own++cap) b) jW (Cq b))(hk:∀ b,PE (blk X scope (own++cap) b) kx (tk b))(hv:∀ b,PE (blk X scope (own++cap) b) vx (tv b))(hs:∀ x,n6 iter X.env x=pure x:=by intro _; rfl)(hs1:∀ env x,n6 iter1 env x=pure x:=by intro _ _; rfl)(hsw:zO (.DictComp kx vx [⟨tg,iter,ifs,0⟩,⟨jG,iter1,jW,0⟩] scope pos) (some (.Name x pos')) spos.line X.env=pure true:=by rfl):
   PS X (.Assign [.Name x pos'] (.DictComp kx vx [⟨tg,iter,ifs,0⟩,⟨jG,iter1,jW,0⟩] scope pos) spos) (yZ (agI own ix wi g tt Dc g1 Cq tk tv) (wN i)):=by
 intro ak s aj H D I h;rw [YB _ _ _ _ hsw];refine aA (qL (aA ?_));show aF _ X.A (do let _ <- comprehension (.DictComp kx vx [⟨tg,iter,ifs,0⟩,⟨jG,iter1,jW,0⟩] scope pos) scope X.env _ newDict false (eval iter X.env) (some (assign (.Name x pos') X.env))) _ _ s
 refine aA (ju (Xi (use:=some (assign (.Name x pos') X.env)) (Q:=λv H1=>wN i v aj H1 D.nx) (Q':=λ_ s'=>SP X ak D .next s') rfl alB (λ_ _ _ _ _ _=>aal) hc hX S hi hg ht
   (λb D=>abJ (acc:=.ref D) (λit=>(Zc (X:=blk X scope (own++cap) b)).hq it D _) (λit=>(Zc (X:=blk X scope (own++cap) b)).hden it D _) (λit=>(Zc (X:=blk X scope (own++cap) b)).hst it D _) (λ_ _ f=>f) hc (hi1 b) (hg1 b) (ht1 b) (aeF (λ_ _ f=>f) (hk b) (hv b)) (hs1 _)) hs I h λD1 C H' s' q hn fC hI=>?_) (λ_ s' hq=>aO (aO hq)) λ_ _ e=>e)
 obtain ⟨m,hn⟩:=hn
 have I0:Inv X ak aj H' s':=by
   have z:=hI s'.heap (Kr ..);exact z
 show aF _ X.A (assign (.Name x pos') X.env (.ref D1)) _ _ _;refine Qn (Ql I0 hN hx1 (.inl hx) (show cI (.ref D1) (.ref D1) from rfl) (λs2 I2 ⟨a,sb,ha⟩=>?_) (.inr hx))
 have na:C≠a:=by
   rcases ha with e | e
   . rw [e]; exact fC.2.1
   . intro z; exact fC.2.2.2.2.1 x a e z.symm
 refine ⟨m,hn.sameBut sb na,λh' hh=>?_⟩;refine ⟨_,H',?_,q⟩;exact I2.turned (it:=C) (t':=s2.toks) (λb o hb e=>(hh.2 b hb).ao e) fC.1 fC.2.1 fC.2.2.2.1 fC.2.2.2.2.1 fC.2.2.2.2.2
end
theorem Inv.RM{h':bD}{t':Nat}{its:List au}(I:Inv X ak aj H s)(k:∀ b o,b ∉ its->s.heap.get? b=some o->h'.get? b=some o)(hf:∀ b∈its,jA X ak H b):Inv X ak aj H { s with heap:=h',toks:=t' }:=by have nit:∀ b u,H b=some u->b ∉ its:=λb u e z=>(by rw [(hf b z).1] at e; cases e);refine I.step (g':=s.gens) (d':=s.drawn) (ch:=its) (λb hb=>⟨(hf b hb).2.2.2.1,(hf b hb).2.1,(hf b hb).2.2.2.2.1,(hf b hb).2.2.2.2.2⟩) (λb o _ _ hc e _=>k b o hc e) (λb o _ _ hc e _=>⟨o.slots,k b o hc e⟩) (λ_ _ _ _ n=>n) (λb o hc e=>⟨o,k b o hc e⟩) (λ_ _ e=>e) (λ_ _ _ e=>e) (λb ps e=>⟨#[],by rw [e]; simp⟩) (λm hm=>?_) (λb u e=>?_) I.bare;obtain ⟨o,es,ep,ho,r⟩:=hm;exact ⟨o,es,ep,k _ o (λz=>(hf _ z).2.1 rfl) ho,r⟩;refine (I.hok b u e).stay (λc v hc q=>k c v ?_ q) (λ_ q=>q) λ_ _ q=>q;rcases hc with z | z;rw [z]; exact nit b u e;exact nit c _ z
def Itz(K:cH)(a b:au)(xs ys:List V):It :=
 ⟨λi H=>aY K H a xs/\aY K H b ys/\i<xs.length/\i<ys.length,λi H v H'=>∃ T x y,H T=none/\v=.ref T/\xs[i]?=some x/\ys[i]?=some y/\H'=upd H T (.tup [x,y]),λi H=>aY K H a xs/\aY K H b ys/\(xs.length<=i\/ys.length<=i)⟩
def aoE(z TI TO i1 i2 a b:au)(i:Nat)(h:bD):Prop:=ur h z TI TO .none/\oh h TI (.ref i1) (.ref i2)/\(∃ p q,oh h TO p q)/\h.IsListIter i1 a i/\h.IsListIter i2 b i
variable{w:cU}{elts:List Expr}
theorem ahk{P:dX}{k:Nat}(z TI TO i1 i2 a b:au)(D:Px z TI TO i1 i2 a b)(xs ys:List V):
   Turn P w K (.Tuple elts k pos) (Itz K a b xs ys) [z,TI,TO,i1,i2] z (aoE z TI TO i1 i2 a b) where
 mem:=by simp
 obj:=λi h st c hc=>by
   obtain ⟨hz,hTI,⟨p,q,hTO⟩,⟨o1,e1,c1,d1⟩,⟨o2,e2,c2,d2⟩⟩:=st;simp only [dF,pL,or_false] at hc;rcases hc with rfl | rfl | rfl | rfl | rfl
   . exact ⟨_,hz,λv z=>by cases (show Yb _=Es v from z)⟩
   . exact ⟨_,hTI,λv z=>by cases (show Ko _ _=Es v from z)⟩
   . exact ⟨_,hTO,λv z=>by cases (show Ko _ _=Es v from z)⟩
   . exact ⟨o1,e1,λv z=>by rw [d1] at z; cases z⟩
   . exact ⟨o2,e2,λv z=>by rw [d2] at z; cases z⟩
 keep:=λi h h' st k=>by
   obtain ⟨hz,hTI,⟨p,q,hTO⟩,h1,h2⟩:=st;exact ⟨k z (by simp) _ hz,k TI (by simp) _ hTI,⟨p,q,k TO (by simp) _ hTO⟩,h1.at λo e=>k i1 (by simp) o e,h2.at λo e=>k i2 (by simp) o e⟩
 item:=by
   intro X hP hw hK hc i ak s aj H E I hf st hg;subst hP hw hK;obtain ⟨hq1,hq2,l1,l2⟩:=hg;obtain ⟨hz,hTI,⟨p,q,hTO⟩,h1,h2⟩:=st;obtain ⟨Jl,za,tu,_⟩:=I.list hq1;obtain ⟨its2,zj,qt,_⟩:=I.list hq2;have x1:xs[i]?=some xs[i]:=cT l1;have y1:ys[i]?=some ys[i]:=cT l2;obtain ⟨u,hu,ru⟩:=za.get x1;obtain ⟨u2,hu2,ru2⟩:=zj.get y1;refine wpAny_pyNext_zip_item D hz hTI hTO h1 h2 tu.isList qt.isList (x:=u) (y:=u2) (by simpa using hu) (by simpa using hu2) λh' a1 a2 a3 a4 a5 a6 a7=>?_
   refine ⟨_,rfl,adR a1 λh2' b1 b2=>?_⟩
   have kk:∀ c o,c ∉ [z,TI,TO,i1,i2]->s.heap.get? c=some o->h2'.get? c=some o:=λc o hc e=>by
     simp only [dF,pL,or_false,not_or] at hc;exact (b2.2 c hc.1).ao (a7 c o hc.1 hc.2.2.1 hc.2.2.2.1 hc.2.2.2.2 e)
   have ltz:z<s.heap.objs.size:=bW hz;have nz:s.heap.objs.size≠z:=yh ltz;have eT:h2'.get? s.heap.objs.size=some { cls:=.type "tuple",data:=.seq #[u,u2] }:=(b2.2 _ nz).ao a5;have fresh:H s.heap.objs.size=none:=I.hok.fresh (bB _)
   have uE:∀ c∈[z,TI,TO,i1,i2],c<s.heap.objs.size:=λc hc=>by
     simp only [dF,pL,or_false] at hc;obtain ⟨o1,e1,_⟩:=h1;obtain ⟨o2,e2,_⟩:=h2;rcases hc with rfl | rfl | rfl | rfl | rfl
     . exact ltz
     . exact bW hTI
     . exact bW hTO
     . exact bW e1
     . exact bW e2
   have I1:Inv X ak aj (upd H s.heap.objs.size (.tup [xs[i],ys[i]])) { s with heap:=s.heap.push { cls:=.type "tuple",data:=.seq #[u,u2] } } :=
     I.laid (t':=s.toks) (λ_ _ e=>cj _ e) (bB _) ⟨by show 2<=aL; rw [dZ]; decide,[u,u2],.cons ru (.cons ru2 .nil),wk.new _ _⟩
   have hf1:∀ c∈[z,TI,TO,i1,i2],jA X ak (upd H s.heap.objs.size (.tup [xs[i],ys[i]])) c:=λc hc=>⟨by rw [bx (dU (uE c hc))]; exact (hf c hc).1,(hf c hc).2⟩
   have I2:Inv X ak aj (upd H s.heap.objs.size (.tup [xs[i],ys[i]])) { s with heap:=h2' }:=I1.RM (t':=s.toks) (λc o hc e=>by
     by_cases ec:c=s.heap.objs.size
     . subst ec;have e':(s.heap.push { cls:=.type "tuple",data:=.seq #[u,u2] }).get? s.heap.objs.size=some o:=e;rw [fU _ rfl] at e';cases e';exact eT
     . have e':(s.heap.push { cls:=.type "tuple",data:=.seq #[u,u2] }).get? c=some o:=e;rw [abR _ _ _ ec] at e'
       exact kk c o hc e') hf1
   refine ⟨.ref s.heap.objs.size,_,I2,rfl,⟨_,_,_,fresh,rfl,x1,y1,rfl⟩,⟨b1,?_,⟨u,u2,?_⟩,?_,?_⟩,λc hc=>(hf1 c hc).1⟩
   . exact (b2.2 _ D.TIz).ao (a7 TI _ D.TIz D.TITO D.TIi1 D.TIi2 hTI)
   . exact (b2.2 _ D.TOz).ao a2
   . exact a3.at λo e=>(b2.2 _ D.i1z).ao e
   . exact a4.at λo e=>(b2.2 _ D.i2z).ao e
 done:=by
   intro X hP hw hK hc i ak s aj H E I hf st hg;subst hP hw hK;obtain ⟨hq1,hq2,hl⟩:=hg;obtain ⟨hz,hTI,⟨p,q,hTO⟩,h1,h2⟩:=st;obtain ⟨Jl,za,tu,_⟩:=I.list hq1;obtain ⟨its2,zj,qt,_⟩:=I.list hq2;have e1:=za.length;have e2:=zj.length;refine wpAny_pyNext_zip_end (I.ok.hd hc) D hz hTI hTO h1 h2 tu.isList qt.isList (by rcases hl with hl | hl <;> first | (left; simp; omega) | (right; simp; omega)) λh' kk=>⟨rfl,I.RM (t':=s.toks) (λc o hc e=>?_) hf⟩
   simp only [dF,pL,or_false,not_or] at hc;exact kk c o hc.1 hc.2.2.1 hc.2.2.2.1 hc.2.2.2.2 e
 self:=λ_ _ _ _ _ st h=>N5 st.1 h
def ajm(K:cH)(ta:TA):TI:=fun aj H R=>ta aj H λvs H1=>mz λa b xs ys=>wB (vs=[.ref a,.ref b]) (aY K H1 a xs) (aY K H1 b ys) (R (Itz K a b xs ys) H1)
theorem aiP{ta:TA}{k:Nat}(hg:Gl X "zip")(hm:X.mg "zip" = none)(ha:PA X [a,b] ta)(hs:dO [a,b] X.env=[(false,eval a X.env),(false,eval b X.env)]:=by rfl)(hs2:dO [b] X.env=[(false,eval b X.env)]:=by rfl):
   PI X (.Tuple elts k tp) (.Call (.Name "zip" p) [a,b] [] pos) (ajm X.K ta):=by
 intro ak s aj H R I h;refine Call_ (Dl I hg hm (show bootBuiltins "zip" = some (.type "zip") by decide +kernel) (Ms (bL (ha pos ak s aj H _ I h) λus s1 ⟨vs,H1,I1,r1,q1⟩=>?_) (by rw [hs,hs2]) (by rw [hs2]; rfl)));obtain ⟨l1,l2,xs,ys,e,hq1,hq2,q⟩:=q1;subst e;obtain ⟨u,u',rfl,r,r'⟩:=rR r1;cases (show u=bI l1 from r);cases (show u'=bI l2 from r');obtain ⟨Jl,za,tu,_⟩:=I1.list hq1;obtain ⟨its2,zj,qt,_⟩:=I1.list hq2;have a1:l1<s1.heap.objs.size:=by obtain ⟨_,e,_⟩:=tu.isList; exact bW e
 have a2:l2<s1.heap.objs.size:=by obtain ⟨_,e,_⟩:=qt.isList; exact bW e
 refine call_zip_2 tu.isList qt.isList λh' hz hTI hTO hi1 hi2 _ hk=>N5 hz ?_
 refine ⟨_,_,_,_,H1,rfl,I1.kept (t':=s1.toks) hk,ahk _ _ _ _ _ l1 l2 (zipApart_new a1 a2) xs ys,⟨hz,hTI,⟨_,_,hTO⟩,hi1,hi2⟩,λc hc=>?_,q⟩
 have le:s1.heap.objs.size<=c:=by
   simp only [dF,pL,or_false] at hc;rcases hc with rfl | rfl | rfl | rfl | rfl
   . exact Ao _ 4
   . exact Ao _ 2
   . exact Ao _ 3
   . exact bB _
   . exact Ao _ 1
 exact I1.zQ le (I1.hok.fresh le)
def kW(ks:List Key)(k:Key):Bool:=ks.any λx=>decide (x=k)
variable{ks:List Key}
theorem aeC{k:Key}:kW ks k=true↔k∈ks:=by unfold kW;rw [Ej];constructor;rintro ⟨x,h,e⟩;rw [<- iH e]; exact h;exact λh=>⟨k,h,fj rfl⟩
theorem ajY(ks:List Key)(k k':Key):kW (ks++[k]) k'=(kW ks k' || decide (k'=k)):=by unfold kW;rw [List.any_append,Ea,List.any_nil,M8];congr 1;rw [jP,decide_eq_true_iff,decide_eq_true_iff];exact ⟨NT,NT⟩
def fO(ks:List Key):Nat->List Key
 | 0=>[]
 | i+1=>match ks[i]? with
   | some k=>if kW (fO ks i) k=true then fO ks i else fO ks i++[k]
   | none=>fO ks i
variable{i:Nat}
theorem M4{k:Key}(h:ks[i]?=some k):fO ks (i+1)=if kW (fO ks i) k=true then fO ks i else fO ks i++[k]:=by show (match ks[i]? with | some k=>_ | none=>_)=_;rw [h]
theorem Rx(ks:List Key):∀ i,(fO ks i).length<=i
 | 0=>bB _
 | i+1=>by have:=Rx ks i;unfold fO;split;split;omega;rw [cQ]; simp; omega;omega
theorem aee{ks:List Key}(h:ks.Nodup):∀ i,i<=ks.length->fO ks i=ks.take i
 | 0,_=>rfl
 | i+1,hi=>by have hi':i<ks.length:=hi;have ek:ks[i]?=some ks[i]:=cT hi';have e:=aee h i (tH hi');rw [M4 ek,e,aV,dI,ek];rfl;intro z;have z':=aeC.mp z;obtain ⟨j,hj,ej⟩:=Im.mp z';rw [eY] at hj;rw [Lr] at ej;have:=(FQ (i:=j) (j:=i) (h₀:=by omega) (h₁:=hi') h).mp ej;omega
abbrev kj(led:Bool):Obj:={ cls:=.type "set",dict:=none,data:=.set #[] 0 (.fresh 0 0 led) }
variable{prog:dX}{A:iw}
theorem setLoop{R:xO->aH->Prop}{wr:List au}{G:Array GP->Array GP->Prop}{P:Nat->aB->Prop}{St:Nat->aH->Prop}(W:WalksS prog w A.in1 I fp wr G ks.length P St)(Z:au)(nZ:Z ∉ fp)(isK:∀ i v,P i v->∃ k,ks[i]?=some k/\(eU prog w).is k v=true/\v.scannable=true)(few:ks.length+1<scanBound): ∀(j i:Nat)(s:aH),ks.length-i=j->i<=ks.length->St i s->s.heap.SetOf (eU prog w) Z (kW (fO ks i)) (fO ks i).length -> (∀ s',Moved (Z :: wr) G s s'->s'.heap.SetOf (eU prog w) Z (kW (fO ks ks.length)) (fO ks ks.length).length->R (.ok (.ret .none)) s') -> kI (aR prog w) A (.builtin "set.update.loop" ⟨[.ref Z,.ref I],[]⟩) R s:=by have nW:Z ∉ wr:=λz=>nZ (W.sub _ z);have sub:∀ b∈wr,b∈Z :: wr:=λb z=>dD _ z;intro j;induction j with| zero =>intro i s ej ei st zS out;have ei':i=ks.length:=(by omega);subst ei';refine sZ Ru ?_;rw [yq Ew _];show aF _ A.in1 (pyNext (.ref I) >>= _) _ _ s;refine aA (W.done s _ _ st λs' mv=>?_);show aF _ A.in1 (ret fM) _ _ s';obtain ⟨o,es,ep,t,ho,rest⟩:=zS;exact aO (out s' (mv.mono sub) ⟨o,es,ep,t,mv.heap Z _ nW ho,rest⟩)| succ j ih =>intro i s ej ei st zS out;have lt:i<ks.length:=(by omega);refine sZ Ru ?_;rw [yq Ew _];show aF _ A.in1 (pyNext (.ref I) >>= _) _ _ s;refine aA (W.item i s _ _ lt st λv s' pv st' mv=>?_);obtain ⟨k,ek,hk,sc⟩:=isK i v pv;have zS':s'.heap.SetOf (eU prog w) Z (kW (fO ks i)) (fO ks i).length:=let ⟨o,es,ep,t,ho,rest⟩:=zS; ⟨o,es,ep,t,mv.heap Z _ nW ho,rest⟩;show aF _ A.in1 (holding [v] (setAdd Z v) >>= _) _ _ s';refine aA (iR ?_);unfold setAdd;refine iR ?_;refine aA ((eU prog w).pyHash hk ?_);have le:=Rx ks i;refine wpAny_setAddHashed_of (knd:=eU prog w) (s:={ s' with toks:=s'.toks+1 }) hk sc zS' (by omega) λh2 sb zS2=>?_;have zS3:h2.SetOf (eU prog w) Z (kW (fO ks (i+1))) (fO ks (i+1)).length:=(by have Ib:h2.SetOf (eU prog w) Z (λk'=>kW (fO ks i) k' || decide (k'=k)) (if kW (fO ks i) k=true then (fO ks i).length else (fO ks i).length+1):=zS2;rw [M4 ek];cases q:kW (fO ks i) k with| true =>rw [q,bh rfl] at Ib;rw [bh rfl];have ef:(λk'=>kW (fO ks i) k' || decide (k'=k))=kW (fO ks i):=funext λk'=>(by by_cases z:k'=k;subst z; rw [q]; rfl;rw [iD z,M8]);rw [ef] at Ib;exact Ib| false =>rw [q,aV gO] at Ib;rw [aV gO,cQ];have ef:(λk'=>kW (fO ks i) k' || decide (k'=k))=kW (fO ks i++[k]):=funext λk'=>(ajY _ _ _).symm;rw [ef] at Ib;exact Ib);refine aO ⟨zK Ew _,ih (i+1) _ (by omega) lt (W.frame _ s' _ _ st' (Qj _) λb hb o e=>?_) zS3 λs'' mv2 z2=>?_⟩;rw [sb.2 b (λz:b=Z=>nZ (by rw [<- z]; exact hb))]; exact e;refine out s'' (Moved.trans W.gtrans ((mv.mono sub).then_heap (Qj _) λb o hb e=>?_) mv2) z2;rw [sb.2 b (λz:b=Z=>hb (by rw [z]; exact dg))]; exact e
variable{items:Array aB}{E:aB->aH->Prop}
theorem aj9{l:au}{Q:aB->aH->Prop}(hh:A.handled=none)(hl:s.heap.IsList l items)(hz:items.size=ks.length)(isK:∀(i:Nat)(v:aB),items[i]?=some v->∃ k,ks[i]?=some k/\(eU prog w).is k v=true/\v.scannable=true)(few:ks.length+1<scanBound)(h:∀(h':bD)(tk:Nat),h'.SetOf (eU prog w) s.heap.objs.size (kW (fO ks ks.length)) (fO ks ks.length).length->(∀ b o,s.heap.get? b=some o->h'.get? b=some o)->Q (.ref s.heap.objs.size) { s with heap:=h',toks:=tk }): aF (aR prog w) A (call (.type "set") [.ref l]) Q E s:=by obtain ⟨cm,tm,hmro⟩:=PySem.F.called_set.mro;have made:=PySem.F.called_set.made;have akB:=PySem.F.called_set.sub;refine Gm (Jr ?_);show aF _ _ (callAny (.type "set") _) _ _ _;refine aO ⟨aai _ (by decide +kernel),sZ ac8 ?_⟩;rw [afj (afK "set" [.ref l] []) rfl];have c1:=PySem.F.called_set.notType;have c2:=PySem.F.called_set.canCreate;have c3:=acw (.ref l);(repeat (any_goals (first | assumption | wp_step)));generalize hN:s.heap.objs.size=N at h;refine uD (code_set_new_1 (.ref l) (E:=E) (Q₁:=λob s1=>∃ led:Bool,ob=.ref s.heap.objs.size/\s1={ s with heap:=s.heap.push (kj led) }) λled=>⟨led,rfl,rfl⟩) λr s1 hr=>?_;cases r with| error e=>exact hr| ok fl =>cases fl with| ret ob =>obtain ⟨led,rfl,rfl⟩:=hr;have gS:(s.heap.push (kj led)).get? s.heap.objs.size=some (kj led):=fU _ rfl;have hT:QC { s with heap:=s.heap.push (kj led) } (.ref s.heap.objs.size) "set":=⟨_,gS,rfl⟩;have li:=PySem.F.called_set.init.lookup;have bi:=PySem.F.called_set.init.bind (.ref s.heap.objs.size);(repeat (any_goals (first | assumption | wp_step)));refine uD (O1 (R:=wants (λr s2=>r=.none/\∃ h' tk,s2={ s with heap:=h',toks:=tk }/\h'.SetOf (eU prog w) s.heap.objs.size (kW (fO ks ks.length)) (fO ks ks.length).length/\(∀ b o,s.heap.get? b=some o->h'.get? b=some o)) E) PySem.F.called_set.init.plain aeE (check_set_init_1 hT ?_)) λr2 s2 hr2=>?_;obtain ⟨ol,gl,cl,nl,dl⟩:=hl;obtain ⟨oc,od,oa,os⟩:=ol;simp only at cl dl;subst cl dl;have gl':(s.heap.push (kj led)).get? l=some { cls:=.type "list",dict:=od,data:=.seq items nl,slots:=os }:=cj _ gl;have t1:=PySem.F.sub_list_set;have t2:=PySem.F.sub_list_frozenset;have t3:(sG "list" == sG "dict")=false:=(by decide);have lst:(s.heap.push (kj led)).IsList l items:=⟨_,gl',rfl,nl,rfl⟩;unfold jr.«set.__init__» noKeywords afC;generalize hPI:pyIter=PI;wp_walk;subst hPI;refine Ih lst ?_;refine (aA (Zm ?_));have lS:l<s.heap.objs.size:=bW gl;have h3:A.in1.in1.in1.handled=none:=(by simp [hh]);have sz:(s.heap.push (kj led)).objs.size=s.heap.objs.size+1:=ql ..;have n1:l≠(s.heap.push (kj led)).objs.size:=(by rw [sz]; exact dU (BP lS));have n2:s.heap.objs.size ∉ [(s.heap.push (kj led)).objs.size,l]:=(by rw [sz];intro z;rcases dF.mp z with z | z;exact bK z (dU (Gu _));exact bK (gY.mp z) (yh lS));have W:=(ZR (prog:=prog) (w:=w) h3 _ l n1 items).toS;rw [hz] at W;refine setLoop W s.heap.objs.size n2 isK few (ks.length-0) 0 _ rfl (cJ _) ⟨⟨_,fU _ rfl,rfl,rfl⟩,lst.push _⟩ ?_ λs' mv z=>?_;have g2:((s.heap.push (kj led)).push { cls:=.type "list_iterator",data:=.fields #[.ref l,.int 0 0] }).get? s.heap.objs.size=some (kj led):=cj _ gS;exact ⟨_,#[],0,_,g2,⟨rfl,rfl,rfl⟩,rfl,λe he=>by simp at he,λk=>by simp [fO,kW],by decide,rfl,rfl⟩;obtain ⟨h',g',d',tk',os'⟩:=s';obtain rfl:g'=s.gens:=mv.gens;obtain rfl:d'=s.drawn:=mv.drawn;obtain rfl:os'=s.os:=mv.os;show aF _ _ _ _ _ _;refine aO ?_;show aF _ _ (ret fM) _ _ _;refine aO ⟨rfl,h',tk',rfl,z,λb o e=>?_⟩;have lb:b<s.heap.objs.size:=bW e;refine mv.heap b o (λz=>?_) (cj _ (cj _ e));rcases dF.mp z with z | z;exact bK z (dU lb);exact bK (gY.mp z) (by rw [sz]; exact dU (BP lb));(cases r2 with| error e=>exact hr2| ok lX =>cases lX with| ret r =>obtain ⟨rfl,h',tk,rfl,zS,kk⟩:=hr2;(repeat (any_goals (first | assumption | wp_step)));subst hN;exact h _ _ zS kk| _=>exact hr2.elim)| _=>exact hr.elim
theorem agk(c:Nat):∀(n:Nat)(a:Array Nat),(jF n (#[c]:Array Nat)).foldl (·++·) a=a++(jF n c).toArray
 | 0,a=>by simp
 | n+1,a=>by rw [wG,List.foldl_cons,agk c n,wG];apply Array.ext';simp
theorem apn:cP X (j6 .Mult) (λx y H Q=>v9 λ(c:Nat)(n:Int)=>jt (x=.str ⟨#[c]⟩) (y=.int n) (1<=n) (n<=1000) (Q (.str ⟨(jF n.toNat c).toArray⟩) H)):=by intro ak s aj H x y v u Q I rx ry h;obtain ⟨c,n,rfl,rfl,h1,h2,q⟩:=h;obtain ⟨t,rfl⟩:=rx;obtain ⟨t',rfl⟩:=ry;have n1:¬ n<1:=(by omega);have l1:(⟨#[c]⟩:Str).length=1:=rfl;refine PySem.P.mul_str (by rw [iD (by omega),iD (by omega)]; rfl) (λ_ _ z=>?_) (λ_ _=>?_) ?_;rw [l1] at z;have:(1:Int)<=(2 ^ 63-1) / n:=(by rw [Int.le_ediv_iff_mul_le (by omega)];omega);have z':((1:Nat):Int) > (2 ^ 63-1) / n:=z;omega;rw [l1,Nat.one_mul];show decide (n.toNat > aL)=false;rw [decide_eq_false_iff_not,dZ];omega;rw [aV n1];by_cases e1:n=1;subst e1;rw [bh (by simp)];exact ⟨.str ⟨#[c]⟩,H,I,⟨t,rfl⟩,q⟩;rw [aV (by intro z;rw [Bool.or_eq_true] at z;rcases z with z | z;exact e1 (beq_iff_eq.mp z);rw [l1] at z; exact bK z (by decide)),agk];have e2:(#[]:Array Nat)++(jF n.toNat c).toArray=(jF n.toNat c).toArray:=(by simp);rw [e2];refine ⟨?_,?_⟩;show (jF n.toNat c).toArray.size<=aL;rw [gH,Jj,dZ]; omega;exact ⟨.str _,H,I.tok _,⟨_,rfl⟩,q⟩
theorem anR(n:Nat):DQ ((n:Int)-1) (-1) (-1)=n:=by unfold DQ;rw [aV (by decide)];show (if (n:Int)-1 > -1 then ((n:Int)-1 - -1-1) / (- -1)+1 else 0).toNat=n;rw [show (- -1:Int)=1 by decide,Uu];split <;> omega
variable{sl:au}
theorem aht{t:Tok}{Q:Int × Int × Nat->aH->Prop}(hs:s.heap.IsSliceOf sl .none .none (.int (-1) t))(h:Q ((n:Int)-1,-1,n) s):aF (aR prog w) A (QS (.ref sl) (pure (n:Int))) Q E s:=by obtain ⟨o,g,c,d⟩:=hs;unfold QS aaz;refine aA (aA (lU g d (x:=.none) rfl (aA (lU g d (x:=.none) rfl (aA (lU g d (x:=.int (-1) t) rfl (aO ?_)))))));refine aA (HT.Mj (.int (-1) t) ?_);show aF _ _ (if ((-1:Int) == 0)=true then _ else _) _ _ s;rw [aV (by decide)];refine aA (HT.Mj .none (aA (HT.Mj .none (aA (aO ?_)))));show aF _ _ (pure ((n:Int)-1,(-1:Int),DQ ((n:Int)-1) (-1) (-1))) _ _ s;rw [anR];exact aO h
theorem aex(xs:Array aB):((cY xs.size).filterMap λ(m:Nat)=>xs[((xs.size:Int)-1+(m:Int) * (-1)).toNat]?)=xs.toList.reverse:=by have e:∀ m,m<xs.size->xs[((xs.size:Int)-1+(m:Int) * (-1)).toNat]?=xs.toList.reverse[m]?:=λm hm=>(by rw [List.getElem?_reverse (by simpa using hm),uW,iZ];congr 1;omega);have e2:((cY xs.size).filterMap λ(m:Nat)=>xs[((xs.size:Int)-1+(m:Int) * (-1)).toNat]?)=(cY xs.toList.reverse.length).filterMap λm=>xs.toList.reverse[m]?:=(by rw [Hv,iZ];have e3:∀ l:List Nat,(∀ m∈l,m<xs.size)->(l.filterMap λ(m:Nat)=>xs[((xs.size:Int)-1+(m:Int) * (-1)).toNat]?)=l.filterMap λm=>xs.toList.reverse[m]?:=(by intro l;induction l with| nil=>intro _; rfl| cons x l ih =>intro h;rw [uh,uh,e x (h x dg),ih λm hm=>h m (dD _ hm)]);exact e3 _ λm hm=>iJ.mp hm);rw [e2];generalize xs.toList.reverse=l;induction l with| nil=>rfl| cons x l ih =>rw [jY,acX,uh];simp only [YC];rw [W9];congr 1
variable{Q:aB->aH->Prop}
theorem aio{t:au}{tk:Tok}(ht:qR s.heap t items)(hs:s.heap.IsSliceOf sl .none .none (.int (-1) tk))(h:Q (.ref s.heap.objs.size) { s with heap:=s.heap.push { cls:=.type "tuple",data:=.seq items.toList.reverse.toArray } })(hz:items.size<=aL):aF (aR prog w) A (getItem (.ref t) (.ref sl)) Q E s:=by
 have fits:sizeOk (.seq items.toList.reverse.toArray):=by
   show items.toList.reverse.toArray.size<=aL;rw [gH,Hv,iZ]; exact hz
 obtain ⟨os,g,c,d⟩:=id hs;have hT:s.TypeIs (.ref sl) "slice":=⟨os,g,c⟩;unfold getItem
 try with_reducible refine iR ?_
 first | refine aA (aO ?_) | skip
 refine aA (Wr ht.typeIs (by decide) (aA (wg (name:=wD "__getitem__") ht.typeIs Ip (m5 Ip ht.typeIs PyProof.Rows.entry_tuple_getitem ?_ (PyProof.Rows.args_tuple_getitem _ _)))));show aF _ _ (Ux (.ref t) >>= _) _ _ s;refine aA (PyProof.Rows.tupleItemsOf_ ht (aA (Ab hT ?_)));rw [bh (by decide)];refine aA (aht hs ?_)
 have no:¬ (((items.size:Int)-1 == 0 && (-1:Int) == 1 && items.size == items.size)=true):=by
   intro q;rw [CZ,CZ] at q;exact bK q.1.2 (by decide)
 show aF _ _ (if ((items.size:Int)-1 == 0 && (-1:Int) == 1 && items.size == items.size)=true then _ else _) _ _ s;rw [aV no,aex]
 first
   | exact aA (m:=Bj _) (jT (aO ⟨_,rfl,aO h⟩) fits)
   | exact aA (m:=Bj _) (jT (aA (aO (aO ⟨_,rfl,aO h⟩))) fits)
   | exact aA (aA (m:=Bj _) (jT (aO (aO ⟨_,rfl,aO h⟩)) fits))
   | exact aA (aA (m:=Bj _) (jT (aO ⟨_,rfl,aO h⟩) fits))
theorem afE:∀{xs:List V}{us:List aB},bY xs us->bY xs.reverse us.reverse:=by intro xs us r;induction r with| nil=>exact .nil| cons r _ ih =>rw [Qv,Qv];exact ih.append (.cons r .nil)
def ae1(K:cH)(te:TE):TE:=fun aj H Q=>te aj H λx H1=>∃ a xs,x=.ref a/\aG K H1 a xs/\∀ p,H1 p=none->Q (.ref p) (upd H1 p (.tup xs.reverse))
theorem anb{k:Nat}{p2:Pos}(he:PE X e te):PE X (.Subscript e (.Slice none none (some (.UnaryOp .USub (.Constant (.int 1) k p1) p2)) p3) pos) (ae1 X.K te):=by intro ak s aj H Q I h;refine Je (bL (he ak s aj H _ I h) λv s1 ⟨x,H1,I1,r1,q1⟩=>?_);obtain ⟨a,xs,rfl,hq,q⟩:=q1;cases (show v=bI a from r1);refine Tf ?_;rw [Ot];refine aO ?_;refine aO ?_;rw [Z4];have pm:PE X (.UnaryOp .USub (.Constant (.int 1) k p1) p2) (tUn _ (tC (.int 1))):=Jx JD aQ;refine bL (pm ak s1 aj H1 (λz H2=>z=.int (-1)/\H2=H1) I1 ⟨rfl,rfl⟩) λu s2 ⟨z,H2,I2,r2,ez,eH⟩=>?_;subst ez;obtain rfl:H1=H2:=eH.symm;obtain ⟨t,rfl⟩:=r2;obtain ⟨its,rv,ht,hz⟩:=I2.tuple hq;have hlen:its.toArray.size=xs.length:=(by rw [gH]; exact rv.length.symm);have I3:Inv X ak aj H1 { s2 with heap:=s2.heap.push { cls:=.type "slice",data:=.fields #[.none,.none,.int (-1) t] } }:=I2.kept (t':=s2.toks) λb ob q=>cj _ q;obtain ⟨its,rv,ht,hz⟩:=I3.tuple hq;show aF (aR X.prog X.w) X.A (subscriptTail e (.Slice none none (some (.UnaryOp .USub (.Constant (.int 1) k p1) p2)) p3) (.ref a) (.ref s2.heap.objs.size)) (EP X ak aj Q) X.xe { s2 with heap:=s2.heap.push { cls:=.type "slice",data:=.fields #[.none,.none,.int (-1) t] } };refine QW (ops:=[.ref a,.ref s2.heap.objs.size]) ht.typeIs PyProof.Rows.slot_tuple_getitem.lookup (aio ht (Vi ..) ?_ (by rw [gH,<- rv.length]; exact hz)) (by with_unfolding_all rfl);refine ⟨.ref (s2.heap.push { cls:=.type "slice",data:=.fields #[.none,.none,.int (-1) t] }).objs.size,_,I3.laid (t':=s2.toks) (o:=.tup xs.reverse) (λb ob q=>cj _ q) (bB _) ?_,rfl,q _ (I3.hok.fresh (bB _))⟩;exact ⟨by rw [Hv]; exact hz,_,afE rv,wk.new _ _⟩
def Ji(P:dX)(w:cU)(p:au)(ks:List Key):bD->Prop:=λh=>h.SetOf (eU P w) p (kW (fO ks ks.length)) (fO ks ks.length).length
theorem aie:∀{ks:List Key}{us:List aB},bY (ks.map kV) us->∀(i:Nat)(v:aB),us[i]?=some v->∃ k,ks[i]?=some k/\(eU X.prog X.w).is k v=true/\v.scannable=true:=by
 intro ks us r i v e
 obtain ⟨k,ek⟩:∃ k,ks[i]?=some k:=by
   have hl:=r.length;rw [aU] at hl
   have:i<us.length:=by
     rcases qO i us.length with z | z
     . exact z
     . rw [yd z] at e; cases e
   exact ⟨ks[i],cT (by omega)⟩
 obtain ⟨u,eu,ru⟩:=r.get (i:=i) (x:=kV k) (by rw [cX,ek]; rfl);rw [e] at eu;cases eu;refine ⟨k,ek,yH ru,?_⟩;cases k with
 | inl j=>cases j with
   | none=>cases (show v=fM from ru); rfl
   | some j=>obtain ⟨t,rfl⟩:=(show ∃ t,v=xH j t from ru); rfl
 | inr x=>obtain ⟨t,rfl⟩:=(show ∃ t,v=DY x t from ru); rfl
theorem alX(hc:X.calm=true):jz X (.type "set") (λxs H Q=>∃ p ks,xs=[.ref p]/\aY X.K H p (ks.map kV)/\ks.length<4000/\∀ l,H l=none->Q (.ref l) (upd H l (.ext (Ji X.prog X.w l ks)))):=by intro ak s aj H xs us Q I r h;obtain ⟨p,ks,rfl,hq,h40,q⟩:=h;obtain ⟨u,rfl,ru⟩:=nM r;cases ru;obtain ⟨its,rv,pl,_⟩:=I.list hq;have hlen:its.length=ks.length:=(by rw [<- rv.length,aU]);refine aj9 (I.ok.hd hc) pl.isList (by rw [gH]; exact hlen) (λi v e=>aie (X:=X) rv i v (by simpa using e)) (by unfold scanBound; omega) λh' tk zS kk=>?_;refine ⟨.ref s.heap.objs.size,_,I.laid (t':=tk) (o:=.ext (Ji X.prog X.w s.heap.objs.size ks)) kk (bB _) ⟨zS,?_,?_⟩,rfl,q _ (I.hok.fresh (bB _))⟩;obtain ⟨o,_,_,_,e,_⟩:=zS;exact ⟨o,e⟩;intro h1 h2 z k;obtain ⟨o,es,ep,t,e,rest⟩:=z;exact ⟨o,es,ep,t,k o e,rest⟩
theorem ait:jz X (.builtin "len") (λxs H Q=>∃ p ks,xs=[.ref p]/\H p=some (.ext (Ji X.prog X.w p ks))/\Q (.int (fO ks ks.length).length) H):=by intro ak s aj H xs us Q I r h;obtain ⟨p,ks,rfl,hp,q⟩:=h;obtain ⟨u,rfl,ru⟩:=nM r;cases ru;obtain ⟨⟨o,es,ep,t,ho,hex,hd,hel,hmem,hb,hf,hn⟩,_⟩:=(show gV X.prog X.w H s.heap p (.ext (Ji X.prog X.w p ks)) from I.hok p _ hp);refine call_len_set ho hex hd hf (by unfold scanBound at hb; omega) ?_;exact ⟨.int (fO ks ks.length).length,H,I.tok _,⟨_,by rw [hn]⟩,q⟩
theorem ak8:MtM X "dict.update" (λx xs H Q=>mz λa b kvs more=>uV (x=.ref a) (xs=[.ref b]) (a≠b) (H a=some (.dK kvs)) (H b=some (.dK more)) (kvs.length+more.length<=aL) (Q .non (upd H a (.dK (tU kvs more))))):=by intro ak s aj H x xs v us Q I rx rs h;obtain ⟨a,b,kvs,more,rfl,rfl,ne,ha,hb,hz,q⟩:=h;cases (show v=bI a from rx);obtain ⟨u,rfl,ru⟩:=nM rs;cases ru;obtain ⟨z1,d1,vs1,Yp,dd1⟩:=Gs I.hok ha;obtain ⟨z2,d2,vs2,Tc,dd2⟩:=Gs I.hok hb;refine Ob aeN dd1.typeIs PySem.F.entry_dict_update (PySem.F.args_dict_update_2 _ _) (meets_dict_update (eU X.prog X.w) a b ne d2) ⟨vs1,vs2,dd1,dd2,by rw [<- Yp.length,<- Tc.length]; exact hz,λh' m1 m2 sb=>?_⟩;have he:∃ q,h'.get? a=some q:=let ⟨q,_,_,hq,_⟩:=m1; ⟨q,hq⟩;have hl:(tU kvs more).length<=aL:=(by refine gw ?_ hz;clear hz q Tc dd2 m1 m2 hb z2 ha Yp dd1 z1;induction more generalizing kvs with| nil=>exact bB _| cons p r ih =>have h1:=ih (kvs:=dH kvs p.1 p.2);have h2:=yM kvs p.1 p.2;show (tU (dH kvs p.1 p.2) r).length<=_;rw [jY];omega);exact ⟨.non,_,El I (by rw [ha]; exact rF) sb he (Jo hl d1 (Tc.merge Yp) m1),rfl,q⟩
theorem ajl{x:aB}{ss:List Str}(h64:ss.length<64)(col:∀(R:List aB->aH->Prop),(∀(h':bD)(tk:Nat)(vs:List aB),(∀ b o,s.heap.get? b=some o->h'.get? b=some o)->wM vs ss->R vs { s with heap:=h',toks:=tk })->aF (aR prog w) A.in1 (collect x) R E s)(h:∀(h1 h':bD)(tk:Nat)(out:List aB)(ss':List Str)(n:Nat),(∀ b o,s.heap.get? b=some o->h1.get? b=some o)->(∀ b o,h1.get? b=some o->h'.get? b=some o)->h'.get? h1.objs.size=some (seqObj "list" out.toArray n)->wM out ss'->ss'.Perm ss->sortedS ss'=true->Q (.ref h1.objs.size) { s with heap:=h',toks:=tk }): aF (aR prog w) A (call (.builtin "sorted") [x]) Q E s:=by refine Xw YZ RW YK (Yd _) ?_;unfold jr.«sorted»;refine aA (m:=checkCount "sorted" 1 1 _) (aO ?_);refine aA (col _ λh' tk vs kk hS=>?_);have hl:vs.length=ss.length:=(by rw [<- hS.strs,aU]);have fW:=dZ;refine aA (Rp ?_ (by omega));have g0:(h'.push (seqObj "list" vs.toArray 0)).get? h'.objs.size=some (seqObj "list" vs.toArray 0):=fU _ rfl;refine aA (iR (m5 Zr (s:={ s with heap:=h'.push (seqObj "list" vs.toArray 0),toks:=tk }) ⟨_,g0,rfl⟩ WX (list_sort_treeK (s:={ s with heap:=h'.push (seqObj "list" vs.toArray 0),toks:=tk }) strKind_oneLt g0 hS.keysOf (λv₁ v₂ rest e=>keyKind_strs (by rw [<- e]; exact hS)) (by omega) λst' p1 p2=>⟨_,rfl,?_⟩) (Z0 _)));obtain ⟨ss',q1,q2,q3⟩:=sorted_out_str hS p1 p2;obtain ⟨n,hn⟩:=ZP (vs:=vs) (out:=(arrOf st').map (·.2)) g0;refine aO ⟨_,rfl,h h' _ tk ((arrOf st').map (·.2)).toList ss' n kk (λb o e1=>?_) (by rw [Array.toArray_toList]; exact hn) q1 q2 q3⟩;have lt:b<h'.objs.size:=bW e1;show (sortedHeap (h'.push (seqObj "list" vs.toArray 0)) h'.objs.size vs _).get? b=some o;rw [Tj (dU lt) (by rw [ql]; exact BP lt)];exact cj _ e1
theorem ahn:∀{ss:List Str}{us:List aB},wM us ss->bY (ss.map V.str) us:=by intro ss us h;induction h with| nil=>exact .nil| cons x t _ ih=>exact .cons ⟨t,rfl⟩ ih
theorem adv:∀{ss:List Str}{us:List aB},us.length=ss.length->(∀(i:Nat)(v:aB),us[i]?=some v->∃ x t,ss[i]?=some x/\v=.str x t)->wM us ss
 | [],[],_,_=>.nil
 | x :: ss,u :: us,hl,h=>by obtain ⟨y,t,e,rfl⟩:=h 0 u rfl;cases (show some x=some y from e);exact .cons x t (adv (by simpa using hl) λi v e=>h (i+1) v (by simpa using e))
 | [],_ :: _,hl,_=>by simp at hl
 | _ :: _,[],hl,_=>by simp at hl
theorem Y6(hc:X.calm=true):jz X (.builtin "sorted") (λxs H Q=>kJ λp kvs ss=>jt (xs=[.ref p]) (H p=some (.dK kvs)) (kvs.map (·.1)=ss.map cB) (ss.length<64) (∀ l ss',H l=none->ss'.Perm ss->sortedS ss'=true->Q (.ref l) (upd H l (.lst (ss'.map V.str))))):=by intro ak s aj H xs us Q I r h;obtain ⟨p,kvs,ss,rfl,hp,hk,h64,q⟩:=h;obtain ⟨u,rfl,ru⟩:=nM r;cases ru;obtain ⟨z,d,vs,rel,dd⟩:=Gs I.hok hp;have hl:kvs.length=ss.length:=(by have:=fG rJ hk; simpa using this);have hvl:vs.length=ss.length:=(by rw [<- rel.length]; exact hl);have fW:=dZ;obtain ⟨ep,hat⟩:=dd.dictAt;refine ajl h64 (λR hR=>aak (A:=X.A.in1) (PySem.W.kdl_dict (knd:=eU X.prog X.w) (kvs:=vs) (ep:=ep) d) (by simpa using I.ok.hd hc) hat (by omega) λh' tk acc kk hacc=>hR h' tk acc.toList kk ?_) λh1 h' tk out ss' n k1 k2 ho hS hp2 hs=>?_;refine adv (by rw [iZ]; exact hacc.1.ao hvl) λi v e=>?_;obtain ⟨k,x,ek,hk'⟩:=hacc.2 i v (by simpa using e);have ek2:(kvs.map (·.1))[i]?=some k:=(by rw [rel.keys,cX,ek]; rfl);rw [hk,cX] at ek2;(cases es:ss[i]? with| none=>rw [es] at ek2; cases ek2| some y =>rw [es] at ek2;cases (show some (cB y:Key)=some k from ek2);rcases vC (show tE (cB y) v=true from hk') with ⟨j,t,e1,e2⟩ | ⟨x',t,e1,e2⟩ | ⟨e1,e2⟩;cases e1;cases e1;exact ⟨y,t,rfl,e2⟩;cases e1);have I1:Inv X ak aj H { s with heap:=h1,toks:=tk }:=I.kept k1;have hl':ss'.length=ss.length:=hp2.length_eq;exact ⟨.ref h1.objs.size,_,I1.laid (t':=tk) (o:=.lst (ss'.map V.str)) k2 (bB _) ⟨by rw [aU]; omega,out,n,ahn hS,ho⟩,rfl,q _ _ (I1.hok.fresh (bB _)) hp2 hs⟩
def Dz(h:bD)(d:au)(es:Array Vj)(ep:Nat):Prop:=∃ o,h.get? d=some o/\o.ExactDict/\o.data=.dict es ep
variable{d:au}{es:Array Vj}{ep:Nat}
theorem Dz.typ(R:Dz s.heap d es ep):s.TypeIs (.ref d) "dict":=let ⟨o,e,x,_⟩:=R; ⟨o,e,x.1⟩
theorem amJ(nS:(d == sysModules)=false)(R:Dz s.heap d es ep)(q:Q (.ref s.heap.objs.size) { s with heap:=s.heap.push { cls:=.type "dict_keyiterator",data:=.fields #[.ref d,.int 0 0,.int es.size 0,.int ep 0] } }):aF (aR prog w) A (pyIter (.ref d)) Q E s:=by have T:=R.typ;obtain ⟨o,e,_,dat⟩:=R;refine Wv T adI (m5 adI T PySem.F.entry_dict_iter ?_ (PySem.F.args_dict_iter_1 _));unfold jr.«dict.__iter__»;refine aA ?_;unfold Builtin.Dict.dictSlotNone;refine aA (Xq T ?_);show aF _ _ (pure (bI d)) _ _ s;refine aO ?_;show aF _ _ (agn d >>= _) _ _ s;unfold agn;rw [aV (by rw [nS]; exact gO)];refine aA (aO (aA (Nz e dat (aA (YX e dat ?_)))));refine aA (jT (aO ⟨_,rfl,"dict_keyiterator",_,⟨_,fU _ rfl,rfl⟩,PySem.F.slot_dict_keyiterator_next.lookup,?_⟩));simpa [rawInt] using q
variable{it:au}{Q:Option aB->aH->Prop}
theorem amn(K:s.heap.IsKeyIter it d i es.size ep)(R:Dz s.heap d es ep)(lt:i<es.size)(q:∀ h',h'.IsKeyIter it d (i+1) es.size ep->mD it s.heap h'->Q (some es[i].key) { s with heap:=h' }):aF (aR prog w) A (pyNext (.ref it)) Q E s:=by obtain ⟨o,e,c,dt⟩:=id K;obtain ⟨od,e2,_,dd⟩:=R;unfold pyNext;refine aA (BJ (wg (name:=wD "__next__") K.typeIs OJ (m5 OJ K.typeIs aes ?_ (acz _))));refine aA (aO (aA (aA ?_)));(first | refine aA (Pk K.typeIs (aO ?_)) | refine aA (Pq K.typeIs (aO ?_)));refine aA (Rb e dt ?_);have own:aaS "dict_keyiterator" = false:=(by decide);simp only [own,Aa,if_false];show aF _ _ (if (bI d == fM)=true then _ else _) _ _ s;rw [aV (show ¬ ((bI d == fM)=true) from gO)];refine aA (aO (aA (Nz e2 dd ?_)));rw [aV (by simp)];refine aA (aO (aA (YX e2 dd ?_)));rw [aV (by simp)];refine aO ?_;simp only [show ¬ ((i:Int)<0) from by omega,if_false,rT,HF lt];refine aA ?_;(first | refine aA (Pk K.typeIs (aO ?_)) | refine aA (Pq K.typeIs (aO ?_)));refine aA (acn K.typeIs ?_);show aF _ _ (setField (.ref it) 1 (rawInt ((i:Int)+1)) >>= _) _ _ s;refine aA (uK e dt (by simp) ?_);have K':(s.heap.update it (tQ (·.setIfInBounds 1 (rawInt ((i:Int)+1))))).IsKeyIter it d (i+1) es.size ep:=⟨_,vG _ e (Yl (Gf dt _)),(adP ..).ao c,by rw [Gf dt]; simp [rawInt]⟩;refine aA (iR (aA (acn (s:={ s with heap:=s.heap.update it (tQ (·.setIfInBounds 1 (rawInt ((i:Int)+1)))) }) K'.typeIs ?_)));show aF _ _ (pure es[i].key) _ _ _;exact aO (aO ⟨_,rfl,aO (q _ K' (rQ ..))⟩)
theorem aoR(hh:A.handled=none)(K:s.heap.IsKeyIter it d es.size es.size ep)(R:Dz s.heap d es ep)(q:∀ h',Vs it s.heap h'->Q none { s with heap:=h' }): aF (aR prog w) A (pyNext (.ref it)) Q E s:=by obtain ⟨o,e,c,dt⟩:=id K;obtain ⟨od,e2,_,dd⟩:=R;unfold pyNext;refine aA (BJ (wg (name:=wD "__next__") K.typeIs OJ (m5 OJ K.typeIs aes ?_ (acz _))));refine aA (aO (aA (aA ?_)));(first | refine aA (Pk K.typeIs (aO ?_)) | refine aA (Pq K.typeIs (aO ?_)));refine aA (Rb e dt ?_);have own:aaS "dict_keyiterator" = false:=(by decide);simp only [own,Aa,if_false];show aF _ _ (if (bI d == fM)=true then _ else _) _ _ s;rw [aV (show ¬ ((bI d == fM)=true) from gO)];refine aA (aO (aA (Nz e2 dd ?_)));rw [aV (by simp)];refine aA (aO (aA (YX e2 dd ?_)));rw [aV (by simp)];refine aO ?_;simp only [show ¬ ((es.size:Int)<0) from by omega,if_false,rT,Td (bB es.size)];refine aA ?_;(first | refine aA (Pk K.typeIs (aO ?_)) | refine aA (Pq K.typeIs (aO ?_)));show aF _ _ (setField (.ref it) 0 .none >>= _) _ _ s;refine aA (uK e dt (by simp) ?_);show aF _ _ (newExc (.type "StopIteration") [] >>= _) _ _ _;refine aA ?_;simp only [newExc,newTuple];refine aA (jT ?_ (by size_fits));refine aA (m:=firstArgMember _ _) (Fy (a:=fM) (by first | rfl | (simp only [firstArgMember]; rfl)) (jT ?_ (by size_fits)));simp only [raiseNew];refine aA (Qx ?_);rw [show A.in1.handled=none from hh];refine (aA (aO (Jt ?_)));refine (aA (K7 (T:="StopIteration") (b:=true) ⟨_,fU _ rfl,rfl⟩ QG ?_));exact aO (q _ (((rQ ..).extBut.push _).push _))
theorem ams(nS:(d == sysModules)=false):PySem.W.KdlSrc prog w "dict" d d es.size (λi v=>∃ e,es[i]?=some e/\v=e.key) (λh=>Dz h d es ep) where
 type:=λ_ R=>R.typ
 there:=λ_ R=>let ⟨_,e,_⟩:=R; ⟨bW e,bW e⟩
 keep:=λ_ _ R hk=>let ⟨o,e,r⟩:=R; ⟨o,hk d (.inl rfl) o e,r⟩
 notList:=by decide
 notTuple:=by decide
 hint:=λ_ _ _ _ R q=>PySem.W.kdl_hint_dict R.typ q
 iter:=λA s hh R=>by
   have lt:d<s.heap.objs.size:=let ⟨_,e,_⟩:=R; bW e
   have ne:d≠s.heap.objs.size:=dU lt;refine ⟨_,λi h=>h.IsKeyIter s.heap.objs.size d i es.size ep/\Dz h d es ep,(λ_ _ q=>amJ nS R q),⟨λb hb=>by simp at hb; simp [hb],λi h h' st hk=>?_,λi s' Q E hi st q=>?_,λs' Q E st q=>?_,λi s' Q E st q=>wpAny_pyIter_keyiter st.1 q⟩,⟨⟨_,fU _ rfl,rfl,rfl⟩,let ⟨o,e,r⟩:=R; ⟨o,cj _ e,r⟩⟩⟩
   . obtain ⟨⟨o,e,r⟩,⟨o2,e2,r2⟩⟩:=st;exact ⟨⟨o,hk _ (by simp) o e,r⟩,⟨o2,hk d (by simp) o2 e2,r2⟩⟩
   . refine amn st.1 st.2 hi λh' K' sb=>?_
     exact q _ h' s'.toks ⟨es[i],by simp [hi],rfl⟩ ⟨K',let ⟨o,e,r⟩:=st.2; ⟨o,sb.extBut d o ne e,r⟩⟩ λb o hb e=>sb.extBut b o (λz=>hb (by simp [z])) e
   . exact aoR hh st.1 st.2 λh' he=>q h' s'.toks λb o hb e=>he b o (λz=>hb (by simp [z])) e
end L2
namespace L2
open PySem PySem.Spec PyProof.Rows PySem.W
def lQ{aJ:Type}(n:Nat)(lt:Nat->Nat->Bool):KasT aJ->Option aJ
 | .ret a=>some a
 | .ask i j k=>if i<n/\j<n then lQ n lt (k (lt i j)) else none
theorem afU{aJ:Type}{n:Nat}{lt:Nat->Nat->Bool}{ask:Nat->Nat->(Bool->aH->Prop)->aH->Prop}{s:aH}(ha:∀ i j C,i<n->j<n->C (lt i j) s->ask i j C s):∀(t:KasT aJ)(a:aJ)(Q:aJ->aH->Prop),lQ n lt t=some a->Q a s->t.kasWp ask Q s
 | .ret b,a,Q,h,q=>by cases (show some b=some a from h);exact q
 | .ask i j k,a,Q,h,q=>by have h':(if i<n/\j<n then lQ n lt (k (lt i j)) else none)=some a:=h;by_cases c:i<n/\j<n;rw [bh c] at h';exact ha i j _ c.1 c.2 (afU ha (k (lt i j)) a Q h' q);rw [aV c] at h'; cases h'
structure Strict{κ:Type}(lt:κ->κ->Bool):Prop where
 qg:∀ a,lt a a=false
 ao:∀ a b c,lt a b=true->lt b c=true->lt a c=true
 tot:∀ a b,a≠b->lt a b=true\/lt b a=true
section
variable{κ:Type}{lt:κ->κ->Bool}(S:Strict lt)
include S
omit S in
end
def slt(a b:Str):Bool:=decide (a.cps.toList<b.cps.toList)
theorem aoB{a b:Str}(h:a.cps.toList=b.cps.toList):a=b:=by cases a; cases b;congr 1;exact Array.toList_inj.mp h
theorem Mp:Strict slt where
 qg:=λa=>iD (List.lt_irrefl _)
 ao:=λa b c h1 h2=>fj (List.lt_trans (iH h1) (iH h2))
 tot:=λa b h=>by
   rcases KC (a.cps.toList<b.cps.toList) with q | q
   . exact .inl (fj q)
   . rcases KC (b.cps.toList<a.cps.toList) with q2 | q2
     . exact .inr (fj q2)
     . exact bK (aoB (List.le_antisymm q2 q)) h
def jE(a b:Str × Str):Bool:=if a.1=b.1 then (if a.2=b.2 then false else slt a.2 b.2) else slt a.1 b.1
theorem Kc:Strict jE where
 qg:=λa=>by unfold jE; simp
 ao:=λa b c h1 h2=>by
   unfold jE at h1 h2 |-;have T:=Mp.ao;have R:=Mp.qg;by_cases e1:a.1=b.1
   . rw [bh e1] at h1;by_cases e2:b.1=c.1
     . rw [bh e2] at h2;rw [bh (e1.ao e2)];by_cases f1:a.2=b.2
       . rw [bh f1] at h1; cases h1
       . rw [aV f1] at h1;by_cases f2:b.2=c.2
         . rw [bh f2] at h2; cases h2
         . rw [aV f2] at h2;have h3:=T _ _ _ h1 h2;rw [aV (λz=>by rw [z,R] at h3; cases h3)];exact h3
     . rw [aV e2] at h2;rw [aV (λz=>e2 (e1.symm.ao z)),e1];exact h2
   . rw [aV e1] at h1;by_cases e2:b.1=c.1
     . rw [aV (λz=>e1 (z.ao e2.symm)),<- e2];exact h1
     . rw [aV e2] at h2;have h3:=T _ _ _ h1 h2;rw [aV (λz=>by rw [z,R] at h3; cases h3)];exact h3
 tot:=λa b h=>by
   unfold jE;by_cases e:a.1=b.1
   . have f:a.2≠b.2:=λz=>h (wz e z)
     rw [bh e,aV f,bh e.symm,aV (gQ f)];exact Mp.tot _ _ f
   . rw [aV e,aV (gQ e)];exact Mp.tot _ _ e
def kP(k:Str × Str):List Key:=[cB k.1,cB k.2]
theorem WK{a b:Str × Str}(h:kP a=kP b):a=b:=by unfold kP at h;injection h with h1 h2;injection h2 with h2 _;exact wz (rY h1) (rY h2)
theorem aeL{aJ bO:Type}{F:aJ->bO->Prop}:∀{l₁:List aJ}{l₂:List bO},bw F l₁ l₂->∀{i:Nat}{b:bO},l₂[i]?=some b->∃ a,l₁[i]?=some a/\F a b
 | _,_,.nil,i,b,e=>by simp at e
 | _,_,.cons h r,i,b,e=>by cases i with| zero=>cases (show some _=some b from e); exact ⟨_,rfl,h⟩| succ i=>exact aeL r (by simpa using e)
theorem afa{H:Hp}:∀{kvs:List (List Key × V)}{xs:List (List Key × au × aB)},bw (λ(p:List Key × V)(q:List Key × au × aB)=>p.1=q.1/\H q.2.1=some (.tup (p.1.map kV))/\cI p.2 q.2.2) kvs xs->kvs.map (·.1)=xs.map (·.1)
 | _,_,.nil=>rfl
 | _,_,.cons h r=>by rw [eV,eV,h.1,afa r]
end L2
namespace L2
open PySem PySem.Spec PyProof.Rows
def LC:List Str->List Str->Bool
 | [],[]=>false
 | [],_ :: _=>true
 | _ :: _,[]=>false
 | x :: xs,y :: ys=>if x=y then LC xs ys else slt x y
section
open PySem.SeqAt
open PySem.AutoSeq1 (wpAny_loadPart')
open PySem.MeetsSeq PySem.MeetsSeq2 PySem.MeetsSeq3
theorem amm(l b:au)(xs ys:Array aB)(n n2:Nat)(dd dd2:Option au)(sl sl2:Array (Option aB))(ss tt:List Str)(hi:wM xs.toList ss)(hj:wM ys.toList tt):
   Meets (jr.«tuple.__lt__» ⟨[.ref l,.ref b],[]⟩)
     (λ_ R s=>s.heap.get? l=some { cls:=.type "tuple",dict:=dd,data:=.seq xs n,slots:=sl }/\s.heap.get? b=some { cls:=.type "tuple",dict:=dd2,data:=.seq ys n2,slots:=sl2 }/\R (.ok (.ret (.bool (LC ss tt)))) s) :=
 .of_wp λprog w A R s h=>by
   obtain ⟨hp,g,d,tk,os⟩:=s;obtain ⟨hl,hb,h⟩:=h;have f2:=ace;have z1:xs.size=ss.length:=by rw [<- iZ,<- hi.strs,aU]
   have z2:ys.size=tt.length:=by rw [<- iZ,<- hj.strs,aU]
   wp_walk using CJ hl,CJ hb,NK _ (λrest b s'=>b.1=none/\s'=⟨hp,g,d,tk,os⟩/\∃(vs ws:List aB)(ss' tt':List Str),rest=vs.zip ws/\wM vs ss'/\wM ws tt'/\ss'.length+ys.size=tt'.length+xs.size/\R (.ok (.ret (.bool (LC ss' tt')))) ⟨hp,g,d,tk,os⟩) _
   case turn =>
     rintro ⟨y,x⟩ rest b s' ⟨hb',rfl,vs,ws,ss',tt',hz,hv,hw,len,hR⟩;cases hv with
     | nil=>rw [List.zip_nil_left] at hz; cases hz
     | cons a t hv' =>
       cases hw with
       | nil=>rw [List.zip_nil_right] at hz; cases hz
       | cons c u hw' =>
         rw [ad7] at hz;injection hz with q1 q2
         injection q1 with q3 q4
         subst q3 q4;have hR':R (.ok (.ret (.bool (if a=c then LC _ _ else slt a c)))) ⟨hp,g,d,tk,os⟩:=hR;simp only [jY] at len;obtain ⟨e,he,hiff⟩:∃ e,SeqAt.EqAt A.in1 ⟨hp,g,d,tk,os⟩ (.str a t) (.str c u) e/\(e=true↔a=c):=⟨(a == c),SeqAt.EqAt.str_str a t c u,by simp⟩;refine aA (he prog w _ _ ?_);cases e with
         | true =>
           rw [bh (hiff.mp rfl)] at hR'
           wp_walk
           exact ⟨rfl,rfl,_,_,_,_,q2,hv',hw',by omega,hR'⟩
         | false =>
           rw [aV (λq=>bK (hiff.mpr q) gO)] at hR';have hri:∀(E:aB->aH->Prop)(Q:aB->aH->Prop),Q (.bool (slt a c)) ⟨hp,g,d,tk,os⟩->aF (aR prog w) A.in1 (richCompare .Lt (.str a t) (.str c u)) Q E ⟨hp,g,d,tk,os⟩:=λE Q h=>PySem.P.lt_str h
           wp_walk using hri
           exact ⟨_,rfl,by simpa using hR'⟩
   case fin =>
     rintro ⟨b1,b2⟩ s' ⟨hb',rfl,vs,ws,ss',tt',hz,hv,hw,len,hR⟩;simp only at hb';subst hb'
     have e:LC ss' tt'=decide (xs.size<ys.size):=by
       cases hv with
       | nil =>
         cases hw with
         | nil=>simp only [Ci] at len; exact (iD (by omega)).symm
         | cons c u _=>simp only [Ci,jY] at len; exact (fj (by omega)).symm
       | cons a t _ =>
         cases hw with
         | nil=>simp only [Ci,jY] at len; exact (iD (by omega)).symm
         | cons c u _=>rw [ad7] at hz; cases hz
     rw [e] at hR
     wp_walk
     exact ⟨_,rfl,by simpa [Builtin.Tuple.tupleCompareSizes] using hR⟩
   case h=>exact ⟨rfl,rfl,xs.toList,ys.toList,ss,tt,rfl,hi,hj,by omega,h⟩
end
def acQ(K:cH):R2:=λx y H Q=>(∃ i j,x=.int i/\y=.int j/\Q (.bl (decide (i<j))) H)\/∃ a b k k',x=.ref a/\y=.ref b/\aG K H a ((kP k).map kV)/\aG K H b ((kP k').map kV)/\Q (.bl (jE k k')) H
variable{X:Cx}
theorem agO(hu:X.A.units<cLine):cP X (gK .Lt) (acQ X.K):=by intro ak s aj H x y v u Q I rx ry h;rcases h with ⟨i,j,rfl,rfl,q⟩ | ⟨a,b,k,k',rfl,rfl,ha,hb,q⟩;exact aeS ak s aj H _ _ v u Q I rx ry ⟨i,j,rfl,rfl,q⟩;cases (show v=bI a from rx);cases (show u=bI b from ry);obtain ⟨its,r1,p1,_⟩:=I.tuple ha;obtain ⟨its2,r2,p2,_⟩:=I.tuple hb;have i1:wM its.toArray.toList [k.1,k.2]:=aa0 (ys:=[k.1,k.2]) (by have r':bY [V.str k.1,V.str k.2] its:=r1; simpa using r');have i2:wM its2.toArray.toList [k'.1,k'.2]:=aa0 (ys:=[k'.1,k'.2]) (by have r':bY [V.str k'.1,V.str k'.2] its2:=r2; simpa using r');obtain ⟨⟨cls,dd,data,sl⟩,g1,c1,n1,d1⟩:=id p1;obtain ⟨⟨cls2,dd2,data2,sl2⟩,g2,c2,n2,d2⟩:=id p2;simp only at c1 d1 c2 d2;subst c1 d1 c2 d2;refine YG (op:=.Lt) ⟨_,g1,rfl⟩ ⟨_,g2,rfl⟩ PySem.F.slot_tuple_lt PySem.F.entry_tuple_lt (PySem.F.args_tuple_lt_2 _ _) (amm a b its.toArray its2.toArray n1 n2 dd dd2 sl sl2 _ _ i1 i2) ⟨g1,g2,show xX (jE k k')≠Zd/\EP X ak aj Q (.bool (jE k k')) s from ⟨(λx=>nomatch x),⟨.bl (jE k k'),H,I,rfl,q⟩⟩⟩ hu
def cN(H H':Hp):Prop:=∀ b xs,H b=some (.tup xs)->H' b=some (.tup xs)
theorem cN.refl(H:Hp):cN H H:=λ_ _ h=>h
variable{H H1:Hp}
theorem cN.ao(a:cN H H1)(b:cN H1 H2):cN H H2:=λc o h=>b c o (a c o h)
variable{H':Hp}
theorem aD.aK(s:aD H H'):cN H H':=λb _ e=>s b _ e
variable{p:au}{o:HO}
theorem cN.new(s:cN H H1)(h:H1 p=none):cN H (upd H1 p o):=λb u e=>by rw [bx (cg (s b u e) h)]; exact s b u e
theorem cN.put{u:HO}(s:cN H H1)(h:H1 p=some u)(nt:∀ xs,u≠.tup xs):cN H (upd H1 p o):=λb xs e=>by
 have e1:=s b xs e;have ne:b≠p:=λz=>by subst z; rw [h] at e1; exact nt xs (jK e1)
 rw [bx ne]; exact e1
variable{D:au}{ys:List V}
theorem cW.more(G:cW H1 H D ys)(s:aD H H'):cW H1 H' D ys:=⟨s _ _ G.at',G.same.ao s⟩
theorem dM{aJ bO:Type}{F:aJ->bO->Prop}:∀{l₁:List aJ}{l₂:List bO},bw F l₁ l₂->∀{i:Nat}{a:aJ},l₁[i]?=some a->∃ b,l₂[i]?=some b/\F a b
 | _,_,.nil,i,b,e=>by simp at e
 | _,_,.cons h r,i,b,e=>by cases i with| zero=>cases (show some _=some b from e); exact ⟨_,rfl,h⟩| succ i=>exact dM r (by simpa using e)
theorem bG{aJ bO:Type}{F G:aJ->bO->Prop}(f:∀ a b,F a b->G a b):∀{l₁:List aJ}{l₂:List bO},bw F l₁ l₂->bw G l₁ l₂
 | _,_,.nil=>.nil
 | _,_,.cons h r=>.cons (f _ _ h) (bG f r)
theorem fY{aJ bO:Type}{F:aJ->bO->Prop}:∀{l₁ m₁:List aJ}{l₂ m₂:List bO},bw F l₁ l₂->bw F m₁ m₂->bw F (l₁++m₁) (l₂++m₂)
 | _,_,_,_,.nil,q=>q
 | _,_,_,_,.cons h r,q=>.cons h (fY r q)
theorem Zg{aJ bO:Type}{F:aJ->bO->Prop}:∀{l₁:List aJ}{l₂:List bO},bw F l₁ l₂->bw F l₁.reverse l₂.reverse
 | _,_,.nil=>.nil
 | _,_,.cons h r=>by rw [Qv,Qv]; exact fY (Zg r) (.cons h .nil)
theorem Mv{aJ bO:Type}{F:aJ->bO->Prop}:∀{l₁:List aJ}{l₂:List bO}(n:Nat),bw F l₁ l₂->bw F (l₁.take n) (l₂.take n)
 | _,_,0,_=>by rw [Le,Le]; exact .nil
 | _,_,n+1,.nil=>.nil
 | _,_,n+1,.cons h r=>.cons h (Mv n r)
variable{K:cH}{a:au}{xs:List V}
theorem DN{g:BI->TG}{te:BI->TE}{lN:St}{End:Hp->Prop}(hD:H1 D=none)(hT:aG K H1 a xs)(hz:xs.length<=aL)(hl:ys.length=xs.length)(turn:∀(i:Nat)(x:V)(H':Hp),xs[i]?=some x->aD H1 H'->∀ b (R:VK),(∀ bZ y,ys[i]?=some y->aD H' bZ->R y bZ)->g b x lN H' fun dY H2=>te b dY H2 R)(fin:∀ H',aD H1 H'->H' D=some (.lst ys)->End H'):
   ∃ W:Nat->Nat->Hp->Prop,(∃ m,W 0 m (upd H1 D (.lst [])))/\∀ b,vN (xY K a) (g b) (DR) (oR D (te b)) lN End W :=
 Ce (xs:=xs) (λi H'=>cW H1 H' D (ys.take i)) (cW.start hD) (λi H' _ G=>G.same.tup hT) (λH' G=>fin H' G.same (by have e:=G.at'; rw [<- hl,gU] at e; exact e)) (λi x H' hx hi G b =>
   turn i x H' hx G.same b _ λbZ y hy s=>⟨_,(G.more s).at',by rw [eY]; omega,nx hi (by
     show cW H1 _ D (ys.take (i+1));rw [dI,hy]
     exact (G.more s).put hD _)⟩)
def NxS(n i:Nat)(Pv:Nat->St->Hp->Prop)(aj:St)(H:Hp):Prop:=∃ m',m'<n-i/\(m'=n-(i+1)/\i+1<=n/\Pv (i+1) aj H)
variable{n i:Nat}{Pv:Nat->St->Hp->Prop}{aj:St}
theorem nxs(hi:i<n)(h:Pv (i+1) aj H):NxS n i Pv aj H:=⟨n-(i+1),by omega,rfl,hi,h⟩
def WS(n:Nat)(Pv:Nat->St->Hp->Prop):Nat->Nat->St->Hp->Prop:=λi m aj H=>m=n-i/\i<=n/\Pv i aj H
variable{g:TG}{act:ug}{End:St->Hp->Prop}
theorem abN{J:It}(n:Nat)(Pv:Nat->St->Hp->Prop)(stop:∀ aj H,Pv n aj H->J.stop n H/\End aj H)(turn:∀ i aj H,i<n->Pv i aj H->J.go i H/\∀ x H',J.zP i H x H'->g x aj H' fun dY H2=>act dY H2 (NxS n i Pv)):CT J g DR act End (WS n Pv):=by intro i m aj H ⟨hm,hi,p⟩;subst hm;by_cases hlt:i<n;exact .inr ⟨(turn i aj H hlt p).1,λx H' y=>(turn i aj H hlt p).2 x H' y⟩;have e:i=n:=(by omega);subst e;exact .inl (stop aj H p)
theorem Ik(Pv:Nat->St->Hp->Prop)(hl:∀ i aj H,i<=xs.length->Pv i aj H->aG K H a xs)(stop:∀ aj H,Pv xs.length aj H->End aj H)(turn:∀ i x aj H,xs[i]?=some x->i<xs.length->Pv i aj H->g x aj H fun dY H2=>act dY H2 (NxS xs.length i Pv)):CT (xY K a) g DR act End (WS xs.length Pv) :=
 abN xs.length Pv (fun aj H p=>⟨⟨xs,hl _ aj H (bB _) p,bB _⟩,stop aj H p⟩) λi aj H hi p =>
   ⟨⟨xs,xs[i],hl i aj H (tH hi) p,by simp [hi]⟩,λx H' ⟨e,y⟩=>by subst e; exact turn i x aj _ (y xs (hl i aj _ (tH hi) p)) hi p⟩
theorem acO(Pv:Nat->St->Hp->Prop)(hl:∀ i aj H,i<=xs.length->Pv i aj H->aY K H a xs)(stop:∀ aj H,Pv xs.length aj H->End aj H)(turn:∀ i x aj H,xs[i]?=some x->i<xs.length->Pv i aj H->g x aj H fun dY H2=>act dY H2 (NxS xs.length i Pv)):CT (BZ K a) g DR act End (WS xs.length Pv) :=
 abN xs.length Pv (fun aj H p=>⟨⟨xs,hl _ aj H (bB _) p,bB _⟩,stop aj H p⟩) λi aj H hi p =>
   ⟨⟨xs,xs[i],hl i aj H (tH hi) p,by simp [hi]⟩,λx H' ⟨e,y⟩=>by subst e; exact turn i x aj _ (y xs (hl i aj _ (tH hi) p)) hi p⟩
theorem CP(h:Pv 0 aj H):∃ m,WS n Pv 0 m aj H:=⟨n,rfl,cJ _,h⟩
namespace HT
open PySem PySem.Spec PyProof.Rows
variable{Q:aB->aH->Prop}{prog:dX}{w:cU}{A:iw}{E:aB->aH->Prop}{s:aH}
theorem ag8{t b:au}{ws:List aB}(ht:qR s.heap t (#[]:Array aB))(hb:qR s.heap b ws.toArray)(h1:Q (.ref b) s):aF (aR prog w) A (j6 .Add (.ref t) (.ref b)) Q E s:=by obtain ⟨⟨cls,dd,data,sl⟩,ho,hc,n,hd⟩:=id ht;obtain ⟨⟨cls2,dd2,data2,sl2⟩,ho2,hc2,n2,hd2⟩:=id hb;simp only at hc hd hc2 hd2;subst hc hd hc2 hd2;exact Yt ⟨_,ho,rfl⟩ ⟨_,ho2,rfl⟩ Xu Tp aaf WD (Us _ _) (tuple_addW0 t b #[] ws.toArray n n2 dd dd2 sl sl2 (by simp)) ⟨ho,ho2,h1⟩
theorem ajr{t sl:au}{items:Array aB}{vl vu:aB}{lo hi:Option Int}(ht:qR s.heap t items)(hs:s.heap.IsSliceOf sl vl vu .none)(pl:wX vl lo)(pu:wX vu hi)(hw:cA items.size 0 lo=0/\cA items.size items.size hi=items.size)(h:Q (.ref t) s):aF (aR prog w) A (getItem (.ref t) (.ref sl)) Q E s:=by obtain ⟨os,hos,hcs,hds⟩:=id hs;have hTs:s.TypeIs (.ref sl) "slice":=⟨os,hos,hcs⟩;unfold getItem;(try with_reducible refine iR ?_);(first | refine aA (aO ?_) | skip);refine aA (Wr ht.typeIs (by decide) ?_);refine aA (wg (name:=wD "__getitem__") ht.typeIs Ip (m5 Ip ht.typeIs abU ?_ (ad2 _ _)));show aF _ _ (Ux (.ref t) >>= _) _ _ s;refine aA (tupleItemsOf_ ht ?_);refine aA (Ab hTs ?_);rw [bh (by decide)];refine aA (abS hs pl pu ?_);have hyes:((((cA items.size 0 lo:Nat):Int) == 0 && (1:Int) == 1 && (cA items.size items.size hi-cA items.size 0 lo) == items.size)=true):=(by rw [hw.1,hw.2]; simp);show aF _ _ (if (((cA items.size 0 lo:Nat):Int) == 0 && (1:Int) == 1 && (cA items.size items.size hi-cA items.size 0 lo) == items.size)=true then _ else _) _ _ s;rw [bh hyes];unfold Builtin.Tuple.tupleIsExact;refine aA ?_;refine aA (Ab ht.typeIs ?_);refine aO ?_;rw [bh (by decide)];refine aA (yx ?_);exact aO ⟨_,rfl,aO h⟩
end HT
inductive agM(x y:V)(H:Hp)(Q:VK):Prop|mk a b xs ys(_:x=.ref a)(_:y=.ref b)(_:H a=some (.tup xs))(_:H b=some (.tup ys))(_:xs.length+ys.length<=aL)(_:∀ p H',H' p=some (.tup (xs++ys))->aD H H'->Q (.ref p) H')
theorem pA:cP X (j6 .Add) agM:=by intro ak s aj H x y v u Q I rx ry h;obtain ⟨a,b,xs,ys,rfl,rfl,ha,hb,hz,q⟩:=h;by_cases hx:xs=[];subst hx;cases rx;cases ry;obtain ⟨its,r1,p1,_⟩:=I.tuple (aG.of ha);obtain ⟨its2,r2,p2,_⟩:=I.tuple (aG.of hb);have e:its=[]:=r1.Az.mpr rfl;subst e;exact HT.ag8 p1 p2 ⟨.ref b,H,I,rfl,q b H hb (aD.refl H)⟩;refine akU ak s aj H _ _ v u Q I rx ry ⟨a,b,xs,ys,rfl,rfl,aG.of ha,aG.of hb,hx,hz,λe=>?_,λ_ p hp=>q p _ aZ ((aD.refl H).upd hp)⟩;subst e;exact q a H (by rw [yJ]; exact ha) (aD.refl H)
inductive SlA(x:V)(lo hi:Option Int)(H:Hp)(Q:VK):Prop|mk a xs(_:x=.ref a)(_:H a=some (.tup xs))(_:∀ p H',H' p=some (.tup (lE xs lo hi))->aD H H'->Q (.ref p) H')
theorem mZ:SlR X SlA:=by intro ak s aj H x v vl vu lo hi sl Q I rx hs pl pu h;obtain ⟨a,xs,rfl,ha,q⟩:=h;by_cases hw:HT.cA xs.length 0 lo=0/\HT.cA xs.length xs.length hi=xs.length;cases rx;obtain ⟨its,r,ht,hz⟩:=I.tuple (aG.of ha);have hlen:its.toArray.size=xs.length:=(by rw [gH]; exact r.length.symm);refine ⟨"tuple",_,PyProof.Rows.slot_tuple_getitem.lookup,ht.typeIs,?_⟩;refine HT.ajr ht hs pl pu (by rw [hlen]; exact hw) ⟨.ref a,H,I,rfl,q a H ?_ (aD.refl H)⟩;rw [ha];unfold lE;rw [hw.1,hw.2,Pr,Qp,gU];exact adT ak s aj H _ v vl vu lo hi sl Q I rx hs pl pu ⟨a,xs,rfl,aG.of ha,hw,λp hp=>q p _ aZ ((aD.refl H).upd hp)⟩
namespace HT
open PySem PySem.Spec PyProof.Rows
end HT
namespace HT
open PySem PySem.Spec PyProof.Rows
theorem ajC(l b:au)(items:Array aB)(n n2:Nat)(dd dd2:Option au)(sl sl2:Array (Option aB)):
   Meets (jr.«tuple.__ne__» ⟨[.ref l,.ref b],[]⟩) (λ_ R s=>s.heap.get? l=some { cls:=.type "tuple",dict:=dd,data:=.seq items n,slots:=sl }/\s.heap.get? b=some { cls:=.type "tuple",dict:=dd2,data:=.seq #[] n2,slots:=sl2 }/\R (.ok (.ret (xX (!items.isEmpty)))) s) :=
 .of_wp λprog w A R s h=>by
   obtain ⟨hp,g,d,tk,os⟩:=s; obtain ⟨hl,hb,h⟩:=h; have f2:=ace;obtain ⟨items⟩:=items;cases items with
   | nil =>
     wp_walk using CJ hl,CJ hb
     exact ⟨_,rfl,h⟩
   | cons x xs =>
     wp_walk using CJ hl,CJ hb
     exact ⟨_,rfl,h⟩
theorem ah3(l b:au)(x:aB)(xs:List aB)(n n2:Nat)(dd dd2:Option au)(sl sl2:Array (Option aB)):
   Meets (jr.«list.__ne__» ⟨[.ref l,.ref b],[]⟩) (λ_ R s=>s.heap.get? l=some { cls:=.type "list",dict:=dd,data:=.seq ⟨x :: xs⟩ n,slots:=sl }/\s.heap.get? b=some { cls:=.type "list",dict:=dd2,data:=.seq #[] n2,slots:=sl2 }/\R (.ok (.ret (xX true))) s) :=
 .of_wp λprog w A R s h=>by
   obtain ⟨hp,g,d,tk,os⟩:=s; obtain ⟨hl,hb,h⟩:=h; have f2:=AutoSeq1.sub_list_list
   wp_walk using CJ hl,CJ hb
   exact ⟨_,rfl,h⟩
variable{b:au}{Q:aB->aH->Prop}{prog:dX}{w:cU}{A:iw}{E:aB->aH->Prop}{s:aH}
theorem akA{t:au}{items:Array aB}(ht:qR s.heap t items)(hb:qR s.heap b (#[]:Array aB))(hu:A.units<cLine)(h:Q (.bool (!items.isEmpty)) s):aF (aR prog w) A (gK .NotEq (.ref t) (.ref b)) Q E s:=by obtain ⟨⟨cls,dd,data,sl⟩,ho,hc,n,hd⟩:=id ht;obtain ⟨⟨cls2,dd2,data2,sl2⟩,ho2,hc2,n2,hd2⟩:=id hb;simp only at hc hd hc2 hd2;subst hc hd hc2 hd2;exact YG (op:=.NotEq) ⟨_,ho,rfl⟩ ⟨_,ho2,rfl⟩ PySem.F.slot_tuple_ne PySem.F.entry_tuple_ne (PySem.F.args_tuple_ne_2 _ _) (ajC t b items n n2 dd dd2 sl sl2) ⟨ho,ho2,show xX (!items.isEmpty)≠Zd/\Q (.bool (!items.isEmpty)) s from ⟨(λx=>nomatch x),h⟩⟩ hu
theorem aoN{t:au}{x:aB}{xs:List aB}(ht:s.heap.IsList t ⟨x :: xs⟩)(hb:s.heap.IsList b (#[]:Array aB))(hu:A.units<cLine)(h:Q (.bool true) s):aF (aR prog w) A (gK .NotEq (.ref t) (.ref b)) Q E s:=by obtain ⟨⟨cls,dd,data,sl⟩,ho,hc,n,hd⟩:=id ht;obtain ⟨⟨cls2,dd2,data2,sl2⟩,ho2,hc2,n2,hd2⟩:=id hb;simp only at hc hd hc2 hd2;subst hc hd hc2 hd2;exact YG (op:=.NotEq) ⟨_,ho,rfl⟩ ⟨_,ho2,rfl⟩ PySem.F.slot_list_ne PySem.F.entry_list_ne (PySem.F.args_list_ne_2 _ _) (ah3 t b x xs n n2 dd dd2 sl sl2) ⟨ho,ho2,show xX true≠Zd/\Q (.bool true) s from ⟨(λx=>nomatch x),h⟩⟩ hu
end HT
structure NeT(x y:V)(H:Hp)(Q:VK):Prop where
 h:∃ a b xs,x=.ref a/\y=.ref b/\H a=some (.tup xs)/\H b=some (.tup [])/\Q (.bl (!xs.isEmpty)) H
theorem Ow(hu:X.A.units<cLine):cP X (gK .NotEq) NeT:=by intro ak s aj H x y v u Q I rx ry ⟨h⟩;obtain ⟨a,b,xs,rfl,rfl,ha,hb,q⟩:=h;cases rx;cases ry;obtain ⟨its,r1,p1,_⟩:=I.tuple (aG.of ha);obtain ⟨its2,r2,p2,_⟩:=I.tuple (aG.of hb);have e:its2=[]:=r2.Az.mpr rfl;subst e;refine HT.akA p1 p2 hu ⟨.bl (!xs.isEmpty),H,I,?_,q⟩;have e2:its.toArray.isEmpty=xs.isEmpty:=(by have:=r1.Az;cases xs <;> cases its <;> simp_all);rw [e2];rfl
structure NeL(x y:V)(H:Hp)(Q:VK):Prop where
 h:∃ a b xs,x=.ref a/\y=.ref b/\H a=some (.lst xs)/\H b=some (.lst [])/\Q (.bl (!xs.isEmpty)) H
theorem ana(hu:X.A.units+64<cLine):cP X (gK .NotEq) NeL:=by intro ak s aj H x y v u Q I rx ry ⟨h⟩;obtain ⟨a,b,xs,rfl,rfl,ha,hb,q⟩:=h;cases xs with| nil=>exact Ca hu ak s aj H _ _ v u Q I rx ry ⟨.list [],.list [],.lst (aY.of ha) .nil,.lst (aY.of hb) .nil,rfl,rfl,q⟩| cons y ys =>cases rx;cases ry;obtain ⟨its,r1,p1,_⟩:=I.list (aY.of ha);obtain ⟨its2,r2,p2,_⟩:=I.list (aY.of hb);have e:its2=[]:=r2.Az.mpr rfl;subst e;cases r1 with| cons r3 r4=>exact HT.aoN p1.isList p2.isList (by omega) ⟨.bl true,H,I,rfl,q⟩
structure SE(X:Cx)(e:Expr)(t:TE):Prop where
 h:PE X e t
structure SA(X:Cx)(es:List Expr)(t:TA):Prop where
 h:PA X es t
structure SS(X:Cx)(s:cD)(t:TS):Prop where
 h:PS X s t
structure SSs(X:Cx)(s:List cD)(t:TS):Prop where
 h:qD X s t
structure SI(X:Cx)(tg it:Expr)(t:TI):Prop where
 h:PI X tg it t
structure ST(X:Cx)(e:Expr)(t:TT):Prop where
 h:PT X e t
structure SW(X:Cx)(e:Expr)(t:TT):Prop where
 h:PW X e t
structure SG(X:Cx)(e:Expr)(t:TG):Prop where
 h:PG X e t
structure SGs(X:Cx)(e:List Expr)(t:wQ):Prop where
 h:PGs X e t
structure SO(X:Cx)(e:Option Expr)(t:TO):Prop where
 h:PO X e t
structure SIf(X:Cx)(e:List Expr)(t:TT):Prop where
 h:mQ X e t
structure RO(X:Cx)(f:aB->aB->Sem aB)(r:R2):Prop where
 h:cP X f r
structure RU(X:Cx)(f:aB->Sem aB)(r:V->Hp->VK->Prop):Prop where
 h:UnR X f r
structure RC(X:Cx)(f:aB)(r:List V->Hp->VK->Prop):Prop where
 h:jz X f r
structure RX(X:Cx)(r:R2):Prop where
 h:xV X r
structure RL(X:Cx)(r:V->Option Int->Option Int->Hp->VK->Prop):Prop where
 h:SlR X r
theorem iQ:SA X [] W6:=⟨aC⟩
variable{e:Expr}{es:List Expr}{te:TE}
theorem dR{t:TA}(ha:SE X e te)(hr:SA X es t)(hs:dO (e :: es) X.env=(false,eval e X.env) :: dO es X.env:=by rfl):SA X (e :: es) (aah te t):=⟨aq ha.h hr.h hs⟩
variable{pos:Pos}{x:Str}{scope:Scope}
theorem qV(i:Nat)(hN:X.N[i]?=some x:=by rfl)(hv:Vis X.env.scope x:=by first | exact jh rfl | exact tO (jh rfl) | exact tO (tO rfl))(hd:(x == ("__debug__" : Str))=false:=by decide)(hcd:(x == ("__classdict__" : Str))=false:=by decide):SE X (.Name x pos) (tV i):=⟨pV i hN hv hd hcd⟩
theorem pN{t:TA}{x1}(h:SA X es t):SE X (.Tuple es x1 pos) (aea t):=⟨fJ h.h⟩
theorem ama{t:TA}(h:SA X es t):SE X (.List es pos) (Xb t):=⟨iu h.h⟩
theorem jB{i j}:SE X (.Constant (.int i) j pos) (tC (.int i)):=⟨aQ⟩
theorem afV{x j}:SE X (.Constant (.str x) j pos) (tC (.str x)):=⟨iU⟩
theorem ahU{j}:SE X (.Constant .none j pos) (tC .non):=⟨Et⟩
variable{a b:Expr}{ta tb:TE}
theorem qw{op:Operator}{r:R2}(ho:RO X (j6 op) r)(ha:SE X a ta)(hb:SE X b tb):SE X (.BinOp a op b pos) (BW r ta tb):=⟨cC ho.h ha.h hb.h⟩
theorem aia{op:UnaryOp}{r:V->Hp->VK->Prop}(ho:RU X (unaryOp op) r)(ha:SE X a ta):SE X (.UnaryOp op a pos) (tUn r ta):=⟨Jx ho.h ha.h⟩
theorem yD{r:R2}(hr:RX X r)(ha:SE X a ta)(hb:SE X b tb)(hs:VG b):SE X (.Subscript a b pos) (BW r ta tb):=⟨Cg hr.h ha.h hb.h hs⟩
theorem Em:SO X none aed:=⟨mC⟩
theorem qoI(h:SE X e te):SO X (some e) (afq te):=⟨jk h.h⟩
variable{p2:Pos}
theorem Di{lo hi:Option Expr}{tl th:TO}{r:V->Option Int->Option Int->Hp->VK->Prop}(hr:RL X r)(he:SE X e te)(hl:SO X lo tl)(hu:SO X hi th):SE X (.Subscript e (.Slice lo hi none p2) pos) (tSl r te tl th):=⟨jZ hr.h he.h hl.h hu.h⟩
theorem agH{k:Nat}(he:SE X e te):SE X (.Subscript e (.Slice none none (some (.UnaryOp .USub (.Constant (.int 1) k p1) p2)) p3) pos) (ae1 X.K te):=⟨anb he.h⟩
variable{p:Pos}
theorem apZ{t:TA}{CX:zF}{k:Nat}{f:au}{fd:oA}{ps:List Str}{sp:Sp}{ds:List aB}{oJ:List V}{E:XK}(F:bM X.prog X.w X.K X.mg X.base CX k f fd ps sp)(hr:jU k X.A)(hg:Gl X x)(hm:X.mg x=some (.ref f))(hk:vY X.K (.ref f)=true)(hb:dw X.K fd ps ds)(hd:bY oJ ds)(hx:Passes CX X E)(ha:SA X (e :: es) t)(hdb:(x == ("__debug__" : Str))=false:=by decide)(he:dO (e :: es) X.env=(false,eval e X.env) :: dO es X.env:=by rfl)(hpl:(backTo pos (dO es X.env)).any (·.1)=false:=by rfl):
   SE X (.Call (.Name x p) (e :: es) [] pos) (Nh sp oJ E t):=⟨JQ F hr hg hm hk hb hd hx ha.h hdb he hpl⟩
variable{r:List V->Hp->VK->Prop}
theorem Dq{t:TA}{id:String}(hc:RC X (.builtin id) r)(hg:Gl X x)(hm:X.mg x=none)(hv:bootBuiltins x=some (.builtin id))(ha:SA X (e :: es) t)(hn:x≠"__name__":=by decide)(hdb:(x == ("__debug__" : Str))=false:=by decide)(he:dO (e :: es) X.env=(false,eval e X.env) :: dO es X.env:=by rfl)(hpl:(backTo pos (dO es X.env)).any (·.1)=false:=by rfl):SE X (.Call (.Name x p) (e :: es) [] pos) (tCB r t):=⟨cR hc.h hg hm hv ha.h hn hdb he hpl⟩
theorem Tr{t:TA}{T:String}(hc:RC X (.type T) r)(hg:Gl X x)(hm:X.mg x=none)(hv:bootBuiltins x=some (.type T))(ha:SA X (e :: es) t)(hn:x≠"__name__":=by decide)(hdb:(x == ("__debug__" : Str))=false:=by decide)(he:dO (e :: es) X.env=(false,eval e X.env) :: dO es X.env:=by rfl)(hpl:(backTo pos (dO es X.env)).any (·.1)=false:=by rfl):SE X (.Call (.Name x p) (e :: es) [] pos) (tCB r t):=⟨jx hc.h hg hm hv ha.h hn hdb he hpl⟩
variable{tg:Expr}
theorem WT{elt iter:Expr}{bQ:Scope}{own cap:List Str}{ix:List Nat}{wi:TI}{g:BI->TG}{tt:BI->TT}{tf:BI->TE}{ifs:List Expr}(hc:X.calm=true)(hX:X.env.scope=bQ)(S:m6 bQ scope X.N own cap ix)(hi:SI X tg iter wi)(hg:∀ b,SG (blk X scope (own++cap) b) tg (g b))(ht:∀ b,SIf (blk X scope (own++cap) b) ifs (tt b))(he:∀ b,SE (blk X scope (own++cap) b) elt (tf b))(hs:∀ x,n6 iter X.env x=pure x:=by intro _; rfl):
   SE X (.ListComp elt [⟨tg,iter,ifs,0⟩] scope pos) (HJ own ix wi g tt tf):=⟨jg hc hX S hi.h (λb=>(hg b).h) (λb=>(ht b).h) (λb=>(he b).h) hs⟩
theorem aoy:SIf X [] DR:=⟨ig⟩
theorem R8{l:Expr}{tl:TE}(hl:SE X l tl):SI X tg l (aeW X.K tl):=⟨gj hl.h⟩
theorem qZ{op:GX}{r:R2}(ho:RO X (gK op) r)(ha:SE X a ta)(hb:SE X b tb)(hm:behindInMarks op b=false):ST X (.Compare a [op] [b] pos) (tF (BW r ta tb)):=⟨gF ho.h ha.h hb.h hm⟩
variable{tA:TT}
theorem Ol(ha:ST X a tA):SW X (.BoolOp .And [a] pos) tA:=⟨pw_and1 ha.h⟩
theorem Qs{rest':List Expr}{vD:TT}(ha:ST X a tA)(hb:SW X (.BoolOp .And (b :: rest') pos) vD):ST X (.BoolOp .And (a :: b :: rest') pos) (Wy tA vD):=⟨zR ha.h hb.h⟩
theorem qM(hN:X.N.Nodup)(hi:X.N[i]?=some x)(hx:Loc X.env.scope x)(hf:X.fn x=true\/X.env.scope.names.lookup x=some .local:=by first | exact .inl rfl | exact .inr rfl | assumption):SG X (.Name x pos) (wN i):=⟨Wt hN hi hx hf⟩
theorem Qm:SGs X [] adW:=⟨jV⟩
theorem um{t:TG}{u:wQ}(h1:SG X e t)(h2:SGs X es u)(hs:(assignEach (e :: es) X.env).map (·.2)=assign e X.env :: (assignEach es X.env).map (·.2):=by rfl):SGs X (e :: es) (aeJ t u):=⟨cZ h1.h h2.h hs⟩
theorem MP{k:Nat}{t:wQ}(hc:X.calm=true)(h:SGs X es t)(hn:(assignEach es X.env).length=n:=by rfl)(hst:(assignEach es X.env).findIdx? (·.1)=none:=by rfl):SG X (.Tuple es k pos) (afZ X.K n t):=⟨j8 hc h.h hn hst⟩
theorem Ah:SSs X [] agt:=⟨gC⟩
variable{u:TS}
theorem nU{st:cD}{rest:List cD}{t:TS}(h1:SS X st t)(h2:SSs X rest u):SSs X (st :: rest) (Ez t u):=⟨bf h1.h h2.h⟩
theorem yN{st:cD}{t:TS}(h1:SS X st t):SSs X [st] t:=⟨bC h1.h⟩
theorem qz{pos':Pos}(hN:X.N.Nodup)(hi:X.N[i]?=some x)(hx:Loc X.env.scope x)(he:SE X e te)(hs:zO e (some (.Name x pos')) pos.line X.env=pure false:=by rfl)(hf:X.fn x=true\/X.env.scope.names.lookup x=some .local:=by first | exact .inl rfl | exact .inr rfl | assumption):
   SS X (.Assign [.Name x pos'] e pos) (yZ te (wN i)):=⟨acA hN hi hx he.h hs hf⟩
theorem YD(he:SE X e te)(hg:SG X tg g)(hs:swapsWithSole [tg] e pos.line X.env=pure false:=by rfl)(hw:swappedStores [tg] e X.env=pure none:=by rfl)(h1:(assignEach [tg] X.env).map (·.2)=[assign tg X.env]:=by rfl):SS X (.Assign [tg] e pos) (yZ te g):=⟨Ed he.h hg.h hs hw h1⟩
theorem adZ(he:SE X e te):SS X (.Return (some e) pos) (aeA te):=⟨cO he.h⟩
theorem Ak{c:Expr}{bs cs:List cD}{tc:TT}{t:TS}(hc:ST X c tc)(ha:SSs X bs t)(hb:SSs X cs u):SS X (.If c bs cs pos) (Er tc t u):=⟨gD hc.h ha.h hb.h⟩
theorem range_any(bs:List Bool):((cY bs.length).any λi=>(bs[i]?).getD false)=bs.any id:=by have key:∀(l:List Bool)(k:Nat),((cY l.length).any λi=>(l[i]?).getD false)=l.any id:=λl _=>(by induction l with| nil=>rfl| cons b l ih =>rw [jY,acX,Ea,List.any_map,Ea];congr 1);exact key bs 0
theorem am8(hc:X.calm=true):jz X (.builtin "any") (λxs H Q=>∃(p:au)(bs:List Bool),xs=[.ref p]/\aY X.K H p (bs.map V.bl)/\Q (.bl (bs.any id)) H):=by intro ak s aj H xs us Q I r h;obtain ⟨p,bs,rfl,hq,q⟩:=h;obtain ⟨u,rfl,ru⟩:=nM r;cases ru;obtain ⟨its,rv,pl,_⟩:=I.list hq;have hb:=agd rv;have hl:=pl.isList;have hlt:p<s.heap.objs.size:=(by obtain ⟨_,e,_⟩:=hl; exact bW e);refine call_any_walk (Ih hl ?_);refine ⟨s.heap.objs.size,[s.heap.objs.size,p],[s.heap.objs.size],its.toArray.size,_,_,λi=>(bs[i]?).getD false,rfl,ZR (A:=X.A.in1) (I.ok.hd hc) _ p (dU hlt) its.toArray,⟨⟨_,fU _ rfl,rfl,rfl⟩,hl.push _⟩,λi v s' Q' E' hP hQ=>?_,λh' tk hk=>?_⟩;obtain ⟨b,e,rfl⟩:=hb.get i v (by simpa using hP);simp only [e,Option.getD_some] at hQ;exact vX hQ;have e:((cY its.toArray.size).any λi=>(bs[i]?).getD false)=bs.any id:=(by rw [gH,hb.length]; exact range_any bs);rw [e];exact ⟨.bl _,H,I.kept (LSm.kept_iter hk),rfl,q⟩
theorem abB:∀ Ts:List au,bY (Ts.map V.ref) (Ts.map bI)
 | []=>.nil
 | _ :: t=>.cons rfl (abB t)
section
variable{X:Cx}{elt kx vx tg iter:Expr}{ifs:List Expr}{scope bQ:Scope}{pos:Pos}{own cap:List Str}{ix:List Nat}{wi:TI}{g:BI->TG}{tt:BI->TT}{tk tv:BI->TE}
theorem aof:CV X (.DictComp kx vx [⟨tg,iter,ifs,0⟩] scope pos) 0 iter.pos tg ifs (tailD kx vx) where
 hq:=λ_ _ _=>rfl
 hden:=λit D env Q E s h=>by
   show aF _ X.A ((compTurn (.DictComp kx vx [⟨tg,iter,ifs,0⟩] scope pos) 0 (.ref it) (.ref D) env).onRaise (λx=>do noteFrame x env; theTreesLotGoes x)) _ _ s;exact Bk h
 hst:=λit D env R s h0 h=>Gx rfl rfl rfl (λ_=>rfl) rfl rfl h0 h
abbrev aib(own:List Str)(ix:List Nat)(wi:TI)(g:BI->TG)(tt:BI->TT)(tk tv:BI->TE):TE:=Pu own ix (.dK []) wi g tt λb D=>Tg D (tk b) (tv b)
theorem ajN(hc:X.calm=true)(hX:X.env.scope=bQ)(S:m6 bQ scope X.N own cap ix)(hi:PI X tg iter wi)(hg:∀ b,PG (blk X scope (own++cap) b) tg (g b))(ht:∀ b,mQ (blk X scope (own++cap) b) ifs (tt b))(hk:∀ b,PE (blk X scope (own++cap) b) kx (tk b))(hv:∀ b,PE (blk X scope (own++cap) b) vx (tv b))(hs:∀ x,n6 iter X.env x=pure x:=by intro _; rfl):
   PE X (.DictComp kx vx [⟨tg,iter,ifs,0⟩] scope pos) (aib own ix wi g tt tk tv):=by
 intro ak s aj H Q I h;show aF _ X.A (comprehension (.DictComp kx vx [⟨tg,iter,ifs,0⟩] scope pos) scope X.env _ newDict false (eval iter X.env)) _ _ s;refine Xi (use:=none) rfl aof (λ_ _ _ _ _ _=>aal) hc hX S hi hg ht (λb D=>aeF (λ_ _ f=>f) (hk b) (hv b)) hs I h λD C H' s' q hn _ hI=>?_
 obtain ⟨m,hn⟩:=hn;exact ⟨m,hn,λh' hh=>⟨.ref D,H',hI h' hh,rfl,q⟩⟩
end
theorem Zu:mroOf (.type "dict")=pure [.type "dict",.type "object"]:=by rw [mroOf_type]; kernel_rfl
theorem amX:typeLookup (.type "dict") "__new__" = pure (some (.builtin "dict.__new__")):=by rw [Kv,La]; kernel_rfl
theorem ail:TypeCalled "dict" "dict.__new__" "dict.__init__" :=
 ⟨by decide +kernel,by decide +kernel,⟨_,_,Zu⟩,madeBy_type Zu amX (by decide +kernel),by decide +kernel,by rw [Lp]; kernel_rfl,PySem.F.slot_dict_init⟩
theorem aoC(a:aB):checkTypeCall "dict" ⟨[a],[]⟩=pure ():=by kernel_rfl
theorem akh(a:aB):checkBuiltinCall "dict.__new__" ⟨[.type "dict",a],[]⟩=pure ():=by kernel_rfl
theorem akG:entryFor table "dict.__new__" = some jr.«dict.__new__»:=Ze (by kernel_rfl)
theorem abe:plainId "dict.__new__" = true:=by decide +kernel
theorem adz:entryFor table "dict.update.loop" = some jr.«dict.update.loop»:=Ze (by kernel_rfl)
theorem N7:plainId "dict.update.loop" = true:=by decide +kernel
theorem ag3:isSubtype (.type "dict") (.type "dict")=pure true:=by rw [Lp]; kernel_rfl
section
variable{prog:dX}{w:cU}{A:iw}{E:aB->aH->Prop}{s:aH}
theorem aoW(a:aB){Q₁:aB->aH->Prop}(h:Q₁ (.ref s.heap.objs.size) { s with heap:=s.heap.push { cls:=.type "dict",data:=.dict #[] } }): kI (aR prog w) A (.call (.builtin "dict.__new__") ⟨[.type "dict",a],[]⟩) (wants Q₁ E) s:=by refine Jr ?_;show aF _ A.in1 (do checkBuiltinCall "dict.__new__" ⟨[.type "dict",a],[]⟩; again (.builtin "dict.__new__" ⟨[.type "dict",a],[]⟩)) _ _ s;refine aA (Fy (akh a) (aO ⟨zK abe _,sZ akG ?_⟩));rw [yq abe _];have hsub:=ag3;have hmro:=Zu;have hty:∀ s:aH,s.TypeIs (.type "dict") "type":=λ_=>rfl;obtain ⟨hp,g,d,tk,os⟩:=s;unfold jr.«dict.__new__»;repeat (any_goals (first | assumption | wp_step))
theorem ai5:typeLookup (.type "list") "keys" = pure none:=by rw [Kv,La]; kernel_rfl
set_option maxRecDepth 8000 in
theorem agE{a:au}{o:Obj}{xs:Array aB}{k:Nat}{Q:Option aB->aH->Prop}(hx:s.heap.get? a=some o)(hc:o.cls=.type "list")(hdat:o.data=.seq xs k)(hd:o.dict=none)(hA:A.handled=none)(h:∀ h' tk e,Heap.NewExcOf s.heap h' e "AttributeError"->Q none { s with heap:=h',toks:=tk }): aF (aR prog w) A (getAttr? (.ref a) "keys") Q E s:=by obtain ⟨c,dct,dat,sl⟩:=o;simp only at hc hdat hd;subst hc hdat hd;obtain ⟨hp,g,d,tk,os⟩:=s;have hT:∀ tk',(⟨hp,g,d,tk',os⟩:aH).TypeIs (.ref a) "list":=λ_=>⟨_,hx,rfl⟩;have f1:=sub_AttributeError;have f3:=F.slot_list_getattribute.lookup;have f4:=F.slot_list_getattribute.bind (.ref a);have f5:=am_list_getattr_none;unfold getAttr? getAttrBy? getAttrBy;(repeat (any_goals (first | assumption | exact hT _ | ((with_reducible show aF _ _ (call (DW "list.__getattribute__") _ _) _ _ _); refine JR F.slot_list_getattribute (hT _) am_entry_list_getattribute (F.args_list_getattribute_2 _ _) (meets_getattribute_miss_list a xs k sl "keys" _ ai5 (by decide +kernel) (by size_fits)) ⟨hx,hA,λh' tk' e hx'=>?_⟩) | wp_step)));obtain ⟨t',u',he⟩:=hx'.there;show aF _ _ (getattributeRaised _ _ _ _ _ _ _) _ _ _;unfold getattributeRaised;(repeat (any_goals (first | assumption | wp_step)));exact h _ _ _ hx'.of
theorem IsTup.pairItems{T:au}{x y:aB}{Q:List aB->aH->Prop}(h:qR s.heap T #[x,y])(q:Q [x,y] s):aF (aR prog w) A (ac9 (.ref T)) Q E s:=by obtain ⟨o,e,c,n,d⟩:=h;unfold ac9;refine aA (Ab (T:="tuple") ⟨o,e,c⟩ ?_);rw [bh (by decide)];exact aA (ud e d (aO q))
variable{K:Type}[DecidableEq K](knd:KeyKind prog w K)
theorem ahR{R:xO->aH->Prop}{d it l:au}{items:Array aB}{kvs:List (K × aB)}(hh:A.in1.handled=none)(n1:d≠it)(n2:d≠l)(n3:it≠l)(hb:kvs.length<=aL)(hn:items.size=kvs.length): ∀(k i:Nat)(s:aH),kvs.length-i=k->i<=kvs.length->s.heap.DictOf knd d (merged [] (kvs.take i))->s.heap.IsListIter it l i->s.heap.IsList l items -> (∀(j:Nat)(kv:K × aB),kvs[j]?=some kv->∃ T key,items[j]?=some (.ref T)/\qR s.heap T #[key,kv.2]/\knd.is kv.1 key=true/\T≠d/\T≠it) -> (∀(h':bD)(tk:Nat),h'.DictOf knd d (merged [] kvs)->(∀ b o,b≠d->b≠it->s.heap.get? b=some o->h'.get? b=some o)->R (.ok (.ret .none)) { s with heap:=h',toks:=tk }) -> kI (aR prog w) A (.builtin "dict.update.loop" ⟨[.ref d,.ref it,rawInt i,.none],[]⟩) R s:=by intro k;induction k with| zero =>intro i s hk hi hd hit hl ht hR;have hin:i=kvs.length:=(by omega);refine sZ adz ?_;rw [yq N7 _];show aF _ A.in1 (pyNext (.ref it) >>= _) _ _ s;refine aA (XM hh hit hl (Td (by omega)) λh' eb=>?_);show aF _ A.in1 (Builtin.Dict.addKeywords d [] >>= λ_=>ret fM) _ _ _;refine aA (aO (aO (hR h' s.toks ?_ λb o _ b2 e=>eb b o b2 e)));rw [hin,gU] at hd;obtain ⟨o,es,ep,ho,r⟩:=hd;exact ⟨o,es,ep,eb _ _ n1 ho,r⟩| succ k ih =>intro i s hk hi hd hit hl ht hR;have hlt:i<kvs.length:=(by omega);obtain ⟨kv,hkv⟩:∃ kv,kvs[i]?=some kv:=⟨kvs[i],cT hlt⟩;obtain ⟨T,key,hx,hT,hkey,t1,t2⟩:=ht i kv hkv;refine sZ adz ?_;rw [yq N7 _];show aF _ A.in1 (pyNext (.ref it) >>= _) _ _ s;refine aA (RJ hit hl hx λh' g1 sb=>?_);have hT':qR h' T #[key,kv.2]:=(by obtain ⟨o,e,r⟩:=hT; exact ⟨o,(sb.2 T t2).ao e,r⟩);have hd':h'.DictOf knd d (merged [] (kvs.take i)):=(by obtain ⟨o,es,ep,ho,r⟩:=hd; exact ⟨o,es,ep,(sb.2 d n1).ao ho,r⟩);refine aA (iR (aA (wpAny_tryCatch (IsTup.pairItems hT' ?_))));show aF _ A.in1 (holding [key,kv.2] (dictSet d key kv.2)) _ _ _;refine iR ?_;unfold dictSet;refine iR (aA (knd.pyHash hkey ?_));have hlm:(merged [] (kvs.take i)).length<=aL:=(by have z:=merged_length_le ([]:List (K × aB)) (kvs.take i);rw [Ci,eY] at z;omega);refine wpAny_dictSetHashed_pairs (s:={ s with heap:=h',toks:=s.toks+1 }) (hsz:=hlm) hkey hd' λh2 hd2 vp=>?_;show aF _ A.in1 (again (.builtin "dict.update.loop" ⟨[.ref d,.ref it,rawInt ((i:Int)+1),.none],[]⟩)) _ _ _;have kk:∀ b o,b≠d->b≠it->s.heap.get? b=some o->h2.get? b=some o:=λb o b1 b2 e=>(vp.2 b b1).ao ((sb.2 b b2).ao e);refine aO ⟨zK N7 _,ih (i+1) _ (by omega) hlt (by rw [merged_take_succ [] kvs i kv hkv]; exact hd2) (g1.at λo e=>(vp.2 it (gQ n1)).ao e) (hl.at λo e=>kk _ o (gQ n2) (gQ n3) e) (λj kv2 hj=>?_) λh3 tk hd3 k3=>?_⟩;obtain ⟨T2,key2,a1,⟨o,a2,a2'⟩,a3,a4,a5⟩:=ht j kv2 hj;exact ⟨T2,key2,a1,⟨o,kk _ _ a4 a5 a2,a2'⟩,a3,a4,a5⟩;exact hR h3 tk hd3 λb o b1 b2 e=>k3 b o b1 b2 (kk b o b1 b2 e)
end
theorem adV{P:dX}{w:cU}{H:Hp}{h:bD}(ok:eG P w H h):∀(ps:List (au × Key × V))(its:List aB),bY (ps.map λp=>V.ref p.1) its->(∀ p∈ps,H p.1=some (.tup [kV p.2.1,p.2.2])) ->
   ∃ vs:List (Key × aB),KV (ps.map (·.2)) vs/\∀(j:Nat)(kv:Key × aB),vs[j]?=some kv->∃ T key,its[j]?=some (.ref T)/\qR h T #[key,kv.2]/\(eU P w).is kv.1 key=true
 | [],_,.nil,_=>⟨[],.nil,λj kv e=>by simp at e⟩
 | p :: ps,u :: us,.cons ru rv,hp=>by obtain ⟨vs,r,hv⟩:=adV ok ps us rv λq hq=>hp q (dD _ hq);cases (show u=bI p.1 from ru);obtain ⟨_,its,r2,ob⟩:=(show gV P w H h p.1 (.tup [kV p.2.1,p.2.2]) from ok _ _ (hp p dg));obtain ⟨k,v,rfl,rk,rw⟩:=rR r2;refine ⟨(p.2.1,v) :: vs,.cons ⟨rfl,rw⟩ r,λj kv e=>?_⟩;cases j with| zero =>cases (show some (p.2.1,v)=some kv from e);exact ⟨p.1,k,rfl,ob.to,yH rk⟩| succ j=>exact hv j kv (by simpa using e)
theorem apo(hc:X.calm=true):jz X (.type "dict") (λxs H Q=>∃(l:au)(ps:List (au × Key × V)),xs=[.ref l]/\H l=some (.lst (ps.map λp=>.ref p.1))/\(∀ p∈ps,H p.1=some (.tup [kV p.2.1,p.2.2]))/\∀ d,H d=none->Q (.ref d) (upd H d (.dK (tU [] (ps.map (·.2)))))):=by intro ak s aj H xs us Q I r h;obtain ⟨l,ps,rfl,hl,hp,q⟩:=h;obtain ⟨u,rfl,ru⟩:=nM r;cases ru;obtain ⟨zl,its,n,rv,ln,el⟩:=I.Ds hl;obtain ⟨vs,rel,hv⟩:=adV I.hok ps its rv hp;have lvs:vs.length=its.length:=(by have z:=rel.length; rw [aU] at z; rw [aU] at ln; omega);rw [ln] at zl;have ll:l<s.heap.objs.size:=bW el;refine callType_codes (Q₁:=λobj s₁=>obj=.ref s.heap.objs.size/\s₁={ s with heap:=s.heap.push { cls:=.type "dict",data:=.dict #[] } }) ail (aoC _) PySem.F.entry_dict_init (aoW _ ⟨rfl,rfl⟩) λobj s₁ h₁=>?_;obtain ⟨rfl,rfl⟩:=h₁;have up:∀ c o,s.heap.get? c=some o->(s.heap.push { cls:=.type "dict",data:=.dict #[] }).get? c=some o:=λc o e=>cj _ e;have dS:(s.heap.push { cls:=.type "dict",data:=.dict #[] }).DictOf (eU X.prog X.w) s.heap.objs.size []:=Heap.DictOf.new _;refine ⟨⟨_,fU _ rfl,rfl⟩,PySem.F.args_dict_init_2 _ _,?_⟩;unfold jr.«dict.__init__»;refine aA ?_;unfold Builtin.Dict.selfAndRest;refine aA (Xq (Heap.DictOf.typeIs (s:={ s with heap:=s.heap.push { cls:=.type "dict",data:=.dict #[] } }) dS) ?_);refine aO ?_;show aF _ _ (abO "dict.__init__" s.heap.objs.size (.ref l) [] .none) _ _ _;unfold abO;refine aA (Ab (T:="list") ⟨_,up _ _ el,rfl⟩ ?_);rw [bh (by decide)];refine aA (agE (A:=X.A.in1.in1) (up _ _ el) rfl rfl rfl (I.ok.hd hc) λh1 tk e ne=>?_);rw [bh (show (none:Option aB).isNone=true from rfl)];refine aA (yx ?_);have k1:∀ c o,s.heap.get? c=some o->h1.get? c=some o:=λc o q=>ne.keeps c o (up c o q);have sz1:s.heap.objs.size<h1.objs.size:=(by obtain ⟨o,_,_,e,_⟩:=dS; exact bW (ne.keeps _ _ e));have hl1:h1.IsList l its.toArray:=⟨_,k1 _ _ el,rfl,n,rfl⟩;refine aA (Ih (s:={ s with heap:=h1,toks:=tk }) hl1 ?_);have k2:∀ c o,h1.get? c=some o->(h1.push { cls:=.type "list_iterator",data:=.fields #[.ref l,.int 0 0] }).get? c=some o:=λc o q=>cj _ q;refine aO ⟨zK N7 _,?_⟩;have dz:∀ c,c<s.heap.objs.size->c≠s.heap.objs.size/\c≠h1.objs.size:=λc hc=>⟨dU hc,dU (RG hc sz1)⟩;refine ahR (A:=X.A.in1) (eU X.prog X.w) (d:=s.heap.objs.size) (it:=h1.objs.size) (l:=l) (items:=its.toArray) (kvs:=vs) (I.ok.hd hc) (dU sz1) (gQ (dz l ll).1) (gQ (dz l ll).2) (by omega) (by simp only [gH]; omega) _ 0 _ rfl (cJ _) (by rw [Le]; exact (dS.keep ne.keeps).keep k2) ⟨_,fU _ rfl,rfl,rfl⟩ (hl1.at λo q=>k2 _ o q) (λj kv hj=>?_) λh3 tk3 hd3 k3=>⟨rfl,?_⟩;obtain ⟨T,key,a1,⟨o,a2,a2'⟩,a3⟩:=hv j kv hj;have lt:=bW a2;exact ⟨T,key,by simpa using a1,⟨o,k2 _ _ (k1 _ _ a2),a2'⟩,a3,(dz T lt).1,(dz T lt).2⟩;have kk:∀ c o,s.heap.get? c=some o->h3.get? c=some o:=λc o e=>k3 c o (dz c (bW e)).1 (dz c (bW e)).2 (k2 _ _ (k1 _ _ e));have rm:KV (tU [] (ps.map (·.2))) (merged [] vs):=rel.merge .nil;have zm:(tU [] (ps.map (·.2))).length<=aL:=(by have z:=abu (ps.map (·.2)) [];rw [Ci,aU] at z;rw [aU] at ln;omega);exact ⟨.ref s.heap.objs.size,_,I.laid (t':=tk3) kk (bB _) (Jo zm (beq_eq_false_iff_ne.mpr (gQ (dU I.big))) rm hd3),rfl,q _ (I.hok.fresh (bB _))⟩
namespace HT
open PySem PySem.Spec PyProof.Rows
end HT
section
variable{prog:dX}{w:cU}{A:iw}{E:aB->aH->Prop}{s:aH}
variable{K:Type}[DecidableEq K](knd:KeyKind prog w K)
end
namespace HT
open PySem PySem.Spec PyProof.Rows
end HT
end L2
namespace TP
open PySem PySem.Builtin PySem.Builtin.Str
end TP
namespace L2
open PySem PySem.Spec PyProof.Rows PySem.W
namespace SA
structure SO(N:Nat)(lt:Nat->Nat->Bool):Prop where
 ap0:∀ i j,i<N->j<N->lt i j=true->lt j i=false
 ao:∀ i j k,i<N->j<N->k<N->lt i j=true->lt j k=true->lt i k=true
 tot:∀ i j,i<N->j<N->i≠j->lt i j=true\/lt j i=true
def Gd(N:Nat)(p:Array Nat):Prop:=p.toList.Perm (cY N)
theorem Il{aJ bO:Type}{N:Nat}{lt:Nat->Nat->Bool}{f:aJ->KasT bO}:∀ t:KasT aJ,lQ N lt (t.bind f)=(lQ N lt t).bind λa=>lQ N lt (f a)
 | .ret _=>rfl
 | .ask i j k=>by show (if i<N/\j<N then lQ N lt ((k (lt i j)).bind f) else none)=(if i<N/\j<N then lQ N lt (k (lt i j)) else none).bind _;by_cases c:i<N/\j<N;rw [bh c,bh c]; exact Il _;rw [aV c,aV c]; rfl
section
variable{N:Nat}{lt:Nat->Nat->Bool}{p:Array Nat}
variable{i j:Nat}
theorem Kf{aJ:Type}{k:Bool->KasT aJ}(hi:i<N)(hj:j<N):lQ N lt (.ask i j k)=lQ N lt (k (lt i j)):=by show (if i<N/\j<N then lQ N lt (k (lt i j)) else none)=_;rw [bh ⟨hi,hj⟩]
theorem Gd.size(g:Gd N p):p.size=N:=by have:=g.length_eq;rw [iZ,rK] at this;exact this
theorem getD_some(h:i<p.size):p[i]?=some (p.getD i 0):=by simp [Qh,h]
variable{q:Array Nat}
theorem Nr(h:q[i]?=p[j]?):q.getD i 0=p.getD j 0:=by rw [wU,wU,h]
theorem Gd.lo(g:Gd N p)(h:i<N):p.getD i 0<N:=by have e:=getD_some (p:=p) (by rw [g.size]; exact h);have m:p.getD i 0∈p.toList:=Kz.mpr (abd e);exact iJ.mp (g.mem_iff.mp m)
theorem Gd.ne(g:Gd N p)(hi:i<N)(hj:j<N)(h:i≠j):p.getD i 0≠p.getD j 0:=λe=>by
 have nd:p.toList.Nodup:=g.nodup_iff.mpr List.nodup_range;have hi':i<p.toList.length:=by rw [iZ,g.size]; exact hi
 have hj':j<p.toList.length:=by rw [iZ,g.size]; exact hj
 have e1:p.toList[i]=p.toList[j]:=by
   have a:=getD_some (p:=p) (i:=i) (by rw [g.size]; exact hi);have b:=getD_some (p:=p) (i:=j) (by rw [g.size]; exact hj);rw [<- uW] at a b;rw [cT hi'] at a;rw [cT hj'] at b;rw [jK a,jK b,e]
 exact h ((FQ nd).mp e1)
theorem Gd.of(g:Gd N p)(h:q.Perm p):Gd N q:=(Array.perm_iff_toList_perm.mp h).ao g
def xK(lt:Nat->Nat->Bool)(p:Array Nat)(m:Nat):Prop:=∀ i j,i<j->j<m->lt (p.getD i 0) (p.getD j 0)=true
def Dsc(lt:Nat->Nat->Bool)(p:Array Nat)(m:Nat):Prop:=∀ i j,i<j->j<m->lt (p.getD j 0) (p.getD i 0)=true
variable(S:SO N lt)
include S
theorem other(g:Gd N p)(hi:i<N)(hj:j<N)(h:i≠j)(n:lt (p.getD i 0) (p.getD j 0)=false):lt (p.getD j 0) (p.getD i 0)=true:=by rcases S.tot _ _ (g.lo hi) (g.lo hj) (g.ne hi hj h) with z | z;rw [n] at z; cases z;exact z
variable{n:Nat}
theorem ajn(g:Gd N p)(h1:1<=n)(hn:n<N)(a:xK lt p n)(l:lt (p.getD (n-1) 0) (p.getD n 0)=true):xK lt p (n+1):=λi j ij hj=>by
 by_cases c:j<n
 . exact a i j ij c
 . obtain rfl:j=n:=by omega
   by_cases c2:i=j-1
   . rw [c2]; exact l
   . exact S.ao _ _ _ (g.lo (by omega)) (g.lo (by omega)) (g.lo hn) (a i (j-1) (by omega) (by omega)) l
theorem anC(g:Gd N p)(h1:1<=n)(hn:n<N)(a:Dsc lt p n)(l:lt (p.getD n 0) (p.getD (n-1) 0)=true):Dsc lt p (n+1):=λi j ij hj=>by
 by_cases c:j<n
 . exact a i j ij c
 . obtain rfl:j=n:=by omega
   by_cases c2:i=j-1
   . rw [c2]; exact l
   . exact S.ao _ _ _ (g.lo hn) (g.lo (by omega)) (g.lo (by omega)) l (a i (j-1) (by omega) (by omega))
theorem Yu(g:Gd N p):∀(f n:Nat),1<=n->n+f<=N->xK lt p n->∃ m,lQ N lt (kas_asc p f n)=some m/\n<=m/\m<=n+f/\xK lt p m/\(m<n+f->lt (p.getD m 0) (p.getD (m-1) 0)=true)
 | 0,n,_,_,a=>⟨n,rfl,bB _,bB _,a,λh=>bK h (by omega)⟩
 | f+1,n,h1,h2,a=>by unfold kas_asc;rw [Kf (g.lo (by omega)) (g.lo (by omega))];cases c:lt (p.getD n 0) (p.getD (n-1) 0) with| true=>exact ⟨n,rfl,bB _,by omega,a,λ_=>c⟩| false =>obtain ⟨m,r,m1,m2,m3,m4⟩:=Yu g f (n+1) (by omega) (by omega) (ajn S g h1 (by omega) a (other S g (by omega) (by omega) (by omega) c));exact ⟨m,r,by omega,by omega,m3,λh=>m4 (by omega)⟩
theorem aat(g:Gd N p):∀(f n:Nat),1<=n->n+f<=N->Dsc lt p n->∃ m,lQ N lt (kas_desc f p n 0)=some (p,m,0)/\n<=m/\m<=n+f/\Dsc lt p m
 | 0,n,_,_,a=>⟨n,rfl,bB _,bB _,a⟩
 | f+1,n,h1,h2,a=>by unfold kas_desc;rw [Kf (g.lo (by omega)) (g.lo (by omega))];cases c:lt (p.getD n 0) (p.getD (n-1) 0) with| true =>obtain ⟨m,r,m1,m2,m3⟩:=aat g f (n+1) (by omega) (by omega) (anC S g h1 (by omega) a c);exact ⟨m,r,by omega,by omega,m3⟩| false =>show ∃ m,lQ N lt (.ask (p.getD (n-1) 0) (p.getD n 0) _)=_/\_;rw [Kf (g.lo (by omega)) (g.lo (by omega)),other S g (by omega) (by omega) (by omega) c];exact ⟨n,rfl,bB _,by omega,a⟩
omit S in
theorem ag6(g:Gd N p)(hn:n<=N)(a:Dsc lt p n):Gd N (Rw p 0 n)/\xK lt (Rw p 0 n) n:=by refine ⟨g.of (mirror_perm _ _ _ _),λi j ij hj=>?_⟩;have e:∀ k,k<n->(Rw p 0 n).getD k 0=p.getD (n-1-k) 0:=λk hk=>Nr (by unfold Rw;rw [getElem?_mirror_all (by rw [g.size]; exact hn)];rw [bh ⟨cJ _,hk⟩,show 0+n-1-k=n-1-k by omega]);rw [e i (by omega),e j hj];exact a _ _ (by omega) (by omega)
theorem aj5(g:Gd N p)(h2:2<=N):∃ m p',lQ N lt (kas_count N p)=some (m,p')/\1<=m/\m<=N/\Gd N p'/\xK lt p' m:=by unfold kas_count;rw [Il];obtain ⟨m,r,m1,m2,m3,m4⟩:=Yu S g (N-1) 1 (bB _) (by omega) (λi j ij hj=>bK ij (by omega));rw [r];show ∃ _ _,lQ N lt (if (m == N)=true then _ else _)=_/\_;by_cases c:m=N;rw [bh (beq_iff_eq.mpr c)];exact ⟨m,p,rfl,m1,by omega,g,m3⟩;rw [aV (λz=>c (beq_iff_eq.mp z))];by_cases c1:m > 1;rw [bh c1,Kf (g.lo (by omega)) (g.lo (by omega)),m3 0 (m-1) (by omega) (by omega)];exact ⟨m,p,rfl,m1,by omega,g,m3⟩;rw [aV c1];obtain rfl:m=1:=(by omega);unfold kas_descPart;rw [Il];have d2:Dsc lt p 2:=λi j ij hj=>(by obtain rfl:j=1:=(by omega);obtain rfl:i=0:=(by omega);exact m4 (by omega));obtain ⟨q,rq,q1,q2,q3⟩:=aat S g (N-2) 2 (by omega) (by omega) d2;rw [show N-(1+1)=N-2 by omega,rq];show ∃ _ _,lQ N lt (kas_tail3 q N p)=_/\_;unfold kas_tail3;obtain ⟨g',a'⟩:=ag6 g (by omega) q3;obtain ⟨k,rk',k1,k2,k3,_⟩:=Yu S g' (N-q) q (by omega) (by omega) a';rw [Il,rk'];exact ⟨k,_,rfl,by omega,by omega,g',k3⟩
theorem RT(g:Gd N p){k:Nat}(hk:k<N)(a:xK lt p k):∀(f l r:Nat),l<=r->r<=k->r-l<=f->(∀ i,i<l->lt (p.getD i 0) (p.getD k 0)=true)->(∀ i,r<=i->i<k->lt (p.getD k 0) (p.getD i 0)=true) ->
   ∃ m,lQ N lt (kas_place p k f l r)=some m/\m<=k/\(∀ i,i<m->lt (p.getD i 0) (p.getD k 0)=true)/\∀ i,m<=i->i<k->lt (p.getD k 0) (p.getD i 0)=true
 | 0,l,r,h1,h2,h3,lo,hi=>⟨l,rfl,by omega,lo,λi a b=>hi i (by omega) b⟩
 | f+1,l,r,h1,h2,h3,lo,hi=>by unfold kas_place;by_cases c:l ≥ r;rw [bh c];exact ⟨l,rfl,by omega,lo,λi a b=>hi i (by omega) b⟩;rw [aV c,Kf (g.lo hk) (g.lo (by omega))];cases d:lt (p.getD k 0) (p.getD ((l+r) / 2) 0) with| true =>refine RT g hk a f l ((l+r) / 2) (by omega) (by omega) (by omega) lo λi h4 h5=>?_;by_cases e:i=(l+r) / 2;rw [e]; exact d;exact S.ao _ _ _ (g.lo hk) (g.lo (by omega)) (g.lo (by omega)) d (a _ _ (by omega) h5)| false =>refine RT g hk a f ((l+r) / 2+1) r (by omega) h2 (by omega) (λi h4=>?_) hi;have z:=other S g hk (by omega) (by omega) d;by_cases e:i=(l+r) / 2;rw [e]; exact z;exact S.ao _ _ _ (g.lo (by omega)) (g.lo (by omega)) (g.lo hk) (a _ _ (by omega) (by omega)) z
theorem adx:∀(f:Nat){p:Array Nat}{k:Nat},Gd N p->1<=k->k+f=N->xK lt p k->∃ p',lQ N lt (kas_bin f p k)=some p'/\Gd N p'/\xK lt p' N
 | 0,p,k,g,_,e,a=>⟨p,rfl,g,by rw [<- e]; exact a⟩
 | f+1,p,k,g,h1,e,a=>by unfold kas_bin;rw [Il];obtain ⟨m,r,m1,lo,hi⟩:=RT S g (k:=k) (by omega) a k 0 k (cJ _) (bB _) (by omega) (λi h=>bK h (by omega)) (λi h h'=>bK h (by omega));rw [r];have g':Gd N (bubble p k (k-m)):=g.of (bubble_perm _ _ _);refine adx f g' (by omega) (by omega) λi j ij hj=>?_;have v:∀ t,(bubble p k (k-m)).getD t 0=if t=m then p.getD k 0 else if m<t/\t<=k then p.getD (t-1) 0 else p.getD t 0:=λt=>(by have z:=getElem?_bubble (xs:=p) (src:=k) (by rw [g.size]; omega) (k-m) (by omega) t;rw [show k-(k-m)=m by omega] at z;by_cases c:t=m;rw [bh c] at z |-; exact Nr z;rw [aV c] at z |-;by_cases c2:m<t/\t<=k;rw [bh c2] at z |-; exact Nr z;rw [aV c2] at z |-; exact Nr z);rw [v i,v j];by_cases c:i=m;rw [bh c,aV (by omega),bh (by omega)];exact hi _ (by omega) (by omega);rw [aV c];by_cases c2:m<i/\i<=k;rw [bh c2,aV (by omega),bh (by omega)];exact a _ _ (by omega) (by omega);rw [aV c2];by_cases c3:j=m;rw [bh c3]; exact lo _ (by omega);rw [aV c3];by_cases c4:m<j/\j<=k;rw [bh c4]; exact a _ _ (by omega) (by omega);rw [aV c4]; exact a _ _ ij (by omega)
theorem agC(h2:2<=N):∃ p,lQ N lt (kas_sort N)=some p/\Gd N p/\xK lt p N:=by unfold kas_sort;rw [Il];obtain ⟨m,p',r,m1,m2,g,a⟩:=aj5 S (p:=(cY N).toArray) (by show ((cY N).toArray.toList).Perm _; rw [ad0]) h2;rw [r];show ∃ p,lQ N lt (if m<N then kas_bin (N-max m 1) p' (max m 1) else .ret p')=some p/\_;rw [show max m 1=m by omega];by_cases c:m<N;rw [bh c];exact adx S (N-m) g m1 (by omega) a;rw [aV c];obtain rfl:m=N:=(by omega);exact ⟨p',rfl,g,a⟩
end
end SA
theorem ano{κ:Type}{lt:κ->κ->Bool}(S:Strict lt){ks:List κ}(hn:ks.Nodup)(h2:2<=ks.length)(d:κ): ∃ p:Array Nat,lQ ks.length (λi j=>lt (ks.getD i d) (ks.getD j d)) (kas_sort ks.length)=some p/\(p.toList.map λi=>ks.getD i d).Perm ks/\(p.toList.map λi=>ks.getD i d).Pairwise (λa b=>lt a b=true)/\p.toList.Perm (cY ks.length):=by have so:SA.SO ks.length (λi j=>lt (ks.getD i d) (ks.getD j d)):=(by refine ⟨λi j _ _ h=>?_,λi j k _ _ _ h1 h2=>S.ao _ _ _ h1 h2,λi j hi hj ne=>S.tot _ _ λe=>ne ?_⟩;(cases c:lt (ks.getD j d) (ks.getD i d) with| false=>rfl| true=>have z:=S.ao _ _ _ h c; rw [S.qg] at z; cases z);simp only [oV,cT hi,cT hj,Option.getD_some] at e;exact (FQ hn).mp e);obtain ⟨p,r,g,a⟩:=SA.agC so h2;have all:((cY ks.length).map λi=>ks.getD i d)=ks:=(by apply Mi;simp;intro i h1 h2;simp [oV,h2]);refine ⟨p,r,?_,?_,g⟩;have z:=W7 (λi=>ks.getD i d) g;rw [all] at z;exact z;rw [jc,Wf];intro i j hi hj ij;have sz:=g.size;rw [iZ] at hi hj;have z:=a i j ij (by omega);have ei:p.getD i 0=p.toList[i]'(by rw [iZ]; exact hi):=(by simp [Qh,hi]);have ej:p.getD j 0=p.toList[j]'(by rw [iZ]; exact hj):=(by simp [Qh,hj]);rw [ei,ej] at z;exact z
structure Kd(aJ:Type) where
 key:aJ->Key
 val:aJ->aB->Prop
 lt:aJ->aJ->Bool
 ty:String
 inj:∀ a b,key a=key b->a=b
 strict:Strict lt
 is:∀ x v,val x v->tE (key x) v=true
 first:∀(prog:dX)(w:cU)(A:iw)(E:aB->aH->Prop)(s:aH)(x y:aJ)(v u:aB)(Q:Bool->aH->Prop),val x v->val y u->Q (lt x y) s->aF (aR prog w) A (oneLt' true v u) Q E s
 next:∀(prog:dX)(w:cU)(A:iw)(E:aB->aH->Prop)(s:aH)(x y:aJ)(v u:aB)(Q:Bool->aH->Prop),val x v->val y u->Q (lt x y) s->aF (aR prog w) A (oneLt' false v u) Q E s
 V7:(sG ty != sG "tuple")=true
 same:(sG ty == sG ty)=true
 vv:aJ->V
 rel:∀ x u,cI (vv x) u->val x u
 looks:∀(M:Hw)(h:bD)(x:aJ)(v:aB),val x v->Ay M h (typeOf v) (.type ty)
def kdS:Kd Str where
 key:=cB
 val x v:=∃ t,v=.str x t
 lt:=slt
 ty:="str"
 inj:=λ_ _ h=>rY h
 strict:=Mp
 is:=λx v ⟨t,e⟩=>by rw [e]; exact aad x t
 first:=λ_ _ _ _ _ _ _ _ _ _ ⟨_,e⟩ ⟨_,e'⟩ q=>by rw [e,e']; exact oneLt_str q
 next:=λ_ _ _ _ _ _ _ _ _ _ ⟨_,e⟩ ⟨_,e'⟩ q=>by rw [e,e']; exact kat_one _ _ (PySem.P.lt_str q)
 V7:=rfl
 same:=rfl
 vv:=V.str
 rel:=λ_ _ h=>h
 looks:=λ_ _ _ _ ⟨_,e⟩=>by rw [e]; exact .now
def vK:Kd Int where
 key i:=rD (some i)
 val x v:=∃ t,v=.int x t
 lt i j:=decide (i<j)
 ty:="int"
 inj:=λ_ _ h=>jK (PB h)
 strict:=⟨λa=>iD (by omega),λa b c h1 h2=>fj (by have:=iH h1; have:=iH h2; omega),λa b h=>by
   rcases Int.lt_or_gt_of_ne h with z | z
   . exact .inl (fj z)
   . exact .inr (fj z)⟩
 is:=λx v ⟨t,e⟩=>by rw [e]; exact Ur x t
 first:=λ_ _ _ _ _ _ _ _ _ _ ⟨_,e⟩ ⟨_,e'⟩ q=>by rw [e,e']; exact oneLt_int q
 next:=λ_ _ _ _ _ _ _ _ _ _ ⟨_,e⟩ ⟨_,e'⟩ q=>by rw [e,e']; exact kat_one _ _ (PySem.P.lt_int q)
 V7:=rfl
 same:=rfl
 vv:=V.int
 rel:=λ_ _ h=>h
 looks:=λ_ _ _ _ ⟨_,e⟩=>by rw [e]; exact .now
section
variable{aJ bO:Type}[DecidableEq aJ][DecidableEq bO][Inhabited aJ][Inhabited bO](K1:Kd aJ)(K2:Kd bO)
def oZ(a b:aJ × bO):Bool:=if a.1=b.1 then (if a.2=b.2 then false else K2.lt a.2 b.2) else K1.lt a.1 b.1
omit [Inhabited aJ] [Inhabited bO] in
theorem KR:Strict (oZ K1 K2) where
 qg:=λa=>by unfold oZ; rw [bh rfl,bh rfl]
 ao:=λa b c h1 h2=>by
   unfold oZ at h1 h2 |-;by_cases e1:a.1=b.1
   . rw [bh e1] at h1;by_cases f1:a.2=b.2
     . rw [bh f1] at h1; cases h1
     . rw [aV f1] at h1;by_cases e2:b.1=c.1
       . rw [bh e2] at h2;by_cases f2:b.2=c.2
         . rw [bh f2] at h2; cases h2
         . rw [aV f2] at h2;have z:=K2.strict.ao _ _ _ h1 h2;rw [bh (e1.ao e2),aV (λy=>by rw [y,K2.strict.qg] at z; cases z)];exact z
       . rw [aV e2] at h2;rw [e1,aV e2]; exact h2
   . rw [aV e1] at h1;by_cases e2:b.1=c.1
     . rw [<- e2,aV e1]; exact h1
     . rw [aV e2] at h2;have z:=K1.strict.ao _ _ _ h1 h2;rw [aV (λy=>by rw [y,K1.strict.qg] at z; cases z)];exact z
 tot:=λa b h=>by
   unfold oZ;by_cases e:a.1=b.1
   . have f:a.2≠b.2:=λz=>h (wz e z)
     rw [bh e,aV f,bh e.symm,aV (gQ f)];exact K2.strict.tot _ _ f
   . rw [aV e,aV (gQ e)];exact K1.strict.tot _ _ e
omit [DecidableEq aJ] [DecidableEq bO] [Inhabited aJ] [Inhabited bO]
def Mg(h:bD)(a:au)(v:aB)(k:aJ × bO):Prop:=QX6 λb o m v1 v2 rest=>QA8 (v=.ref b) (b≠a) (h.get? b=some o) (o.cls=.type "tuple") (o.data=.seq (v1 :: v2 :: rest:List aB).toArray m) (K1.val k.1 v1) (K2.val k.2 v2) (∀ u∈rest,∃ q:Key,tE q u=true)
inductive m8(h:bD)(a:au):List aB->List (aJ × bO)->Prop
 | nil:m8 h a [] []
 | cons {v:aB} {vs:List aB} {k:aJ × bO} {ks:List (aJ × bO)}:Mg K1 K2 h a v k->m8 h a vs ks->m8 h a (v :: vs) (k :: ks)
variable{K1 K2}
variable{h:bD}{a:au}{vs:List aB}
theorem m8.len{ks:List (aJ × bO)}(p:m8 K1 K2 h a vs ks):vs.length=ks.length:=by induction p with| nil=>rfl| cons _ _ ih=>rw [jY,jY,ih]
theorem m8.get[Inhabited aJ][Inhabited bO]{h:bD}{a:au}{vs:List aB}{ks:List (aJ × bO)}(p:m8 K1 K2 h a vs ks):∀ i,i<ks.length->Mg K1 K2 h a (vs.getD i fM) (ks.getD i (default,default)):=by induction p with| nil=>intro i hi; exact bK hi (ZD _)| cons q _ ih =>intro i hi;cases i with| zero=>exact q| succ i=>exact ih i (by simpa using hi)
theorem m8.keep{h':bD}{ks:List (aJ × bO)}(p:m8 K1 K2 h a vs ks)(k:∀ b o,b≠a->h.get? b=some o->h'.get? b=some o):m8 K1 K2 h' a vs ks:=by induction p with| nil=>exact .nil| cons q _ ih =>obtain ⟨b,o,m,v1,v2,rest,e,nb,g,r1,r2,r3,r4,r5⟩:=q;exact .cons ⟨b,o,m,v1,v2,rest,e,nb,k b o nb g,r1,r2,r3,r4,r5⟩ ih
theorem m8.of[Inhabited aJ][Inhabited bO]{h:bD}{a:au}:∀{vs:List aB}{ks:List (aJ × bO)},vs.length=ks.length->(∀ i,i<ks.length->Mg K1 K2 h a (vs.getD i fM) (ks.getD i (default,default)))->m8 K1 K2 h a vs ks
 | [],[],_,_=>.nil
 | v :: vs,k :: ks,hl,f=>.cons (f 0 (Fg _)) (m8.of (by simpa using hl) λi hi=>f (i+1) (Nat.succ_lt_succ hi))
 | [],_ :: _,hl,_=>by simp at hl
 | _ :: _,[],hl,_=>by simp at hl
end
section
variable{aJ bO:Type}[DecidableEq aJ][DecidableEq bO][Inhabited aJ][Inhabited bO]{K1:Kd aJ}{K2:Kd bO}
variable{prog:dX}{w:cU}{A:iw}{E:aB->aH->Prop}{s:aH}
omit [DecidableEq aJ] [DecidableEq bO] [Inhabited aJ] [Inhabited bO] in
theorem af2{b fin:Bool}{Q:Bool->aH->Prop}(q:Q fin s):∀(rest:List aB)(i:Nat),(∀ u∈rest,∃ q:Key,tE q u=true)->KatLex prog w A b fin Q (rest.zip rest) i s
 | [],_,_=>kat_nil q
 | u :: r,i,h=>by obtain ⟨k,hk⟩:=h u dg;refine QZ ((eU prog w).eqBool (show (eU prog w).is k u=true from hk) (show (eU prog w).is k u=true from hk) ?_);rw [fj rfl];exact kat_yes (af2 q r (i+1) λv hv=>h v (dD _ hv))
variable{a:au}
omit [Inhabited aJ] [Inhabited bO] in
theorem alr{v:aB}{k:aJ × bO}{Q:Bool->aH->Prop}(p:Mg K1 K2 s.heap a v k)(p':Mg K1 K2 s.heap a v' k')(hd:k=k'->v=v')(q:Q (oZ K1 K2 k k') s):aF (aR prog w) A (keyLt' (tuples' true) v v') Q E s:=by obtain ⟨b,o,m,v1,v2,rest,rfl,_,g,c,d,h1,h2,h3⟩:=p;obtain ⟨b',o',m',u1,u2,rest',rfl,_,g',c',d',h1',h2',h3'⟩:=p';unfold oZ at q;have k1:(eU prog w).is (K1.key k.1) v1=true:=K1.is _ _ h1;have k2:(eU prog w).is (K2.key k.2) v2=true:=K2.is _ _ h2;have k1':(eU prog w).is (K1.key k'.1) u1=true:=K1.is _ _ h1';have k2':(eU prog w).is (K2.key k'.2) u2=true:=K2.is _ _ h2';by_cases e:k.1=k'.1;rw [bh e] at q;by_cases f:k.2=k'.2;rw [bh f] at q;have eb:b=b':=Value.ref.inj (hd (wz e f));subst eb;rw [g] at g';cases g';refine kat_lt g d g d ?_;show KatLex prog w A true (decide (_<_)) Q ((v1 :: v2 :: rest).zip (v1 :: v2 :: rest)) 0 s;rw [iD (uL _)];refine af2 q _ 0 λu hu=>?_;rcases dF.mp hu with rfl | hu;exact ⟨_,K1.is _ _ h1⟩;rcases dF.mp hu with rfl | hu;exact ⟨_,K2.is _ _ h2⟩;exact h3 u hu;rw [aV f] at q;refine kat_lt g d g' d' ?_;show KatLex prog w A true (decide (_<_)) Q ((v1,u1) :: (v2,u2) :: rest.zip rest') 0 s;refine QZ ((eU prog w).eqBool k1 k1' ?_);rw [show decide (K1.key k.1=K1.key k'.1)=true from fj (by rw [e])];refine kat_yes (QZ ((eU prog w).eqBool k2 k2' ?_));rw [show decide (K2.key k.2=K2.key k'.2)=false from iD (λz=>f (K2.inj _ _ z))];refine kat_no ?_;show aF _ A (oneLt' false _ _) Q _ s;exact K2.next _ _ _ _ _ _ _ _ _ _ h2 h2' q;rw [aV e] at q;refine kat_lt g d g' d' ?_;show KatLex prog w A true (decide (_<_)) Q ((v1,u1) :: (v2,u2) :: rest.zip rest') 0 s;refine QZ ((eU prog w).eqBool k1 k1' ?_);rw [show decide (K1.key k.1=K1.key k'.1)=false from iD (λz=>e (K1.inj _ _ z))];refine kat_no ?_;show aF _ A (oneLt' true _ _) Q _ s;exact K1.first _ _ _ _ _ _ _ _ _ _ h1 h1' q
variable{vs:List aB}
omit [DecidableEq aJ] [DecidableEq bO] [Inhabited aJ] [Inhabited bO] in
theorem aj3{h:bD}{ks:List (aJ × bO)}(p:m8 K1 K2 h a vs ks):∃ fs,KatTups h vs fs/\fs.length=ks.length/\∀ v∈fs,∃ x,K1.val x v:=by induction p with| nil=>exact ⟨[],.nil,rfl,λv h=>by cases h⟩| cons q _ ih =>obtain ⟨fs,h1,h2,h3⟩:=ih;obtain ⟨b,o,m,v1,v2,rest,rfl,_,g,c,d,hv,_⟩:=q;refine ⟨v1 :: fs,.cons g c d (by rfl) h1,by rw [jY,jY,h2],λv hv'=>?_⟩;rcases dF.mp hv' with e | e;rw [e]; exact ⟨_,hv⟩;exact h3 v e
theorem aif{γ:Type}[Inhabited γ]{ks:List γ}(hn:ks.Nodup){i j:Nat}{d:γ}(hi:i<ks.length)(hj:j<ks.length)(e:ks.getD i d=ks.getD j d):i=j:=by simp only [oV,cT hi,cT hj,Option.getD_some] at e;exact (FQ hn).mp e
theorem afI{ks:List (aJ × bO)}{n:Nat}{P:Fin->aH->Prop}(ho:s.heap.get? a=some (seqObj "list" vs.toArray n))(hp:m8 K1 K2 s.heap a vs ks)(hn:ks.Nodup)(h6:ks.length<64)(h:∀(l:List Nat),l.Perm (cY ks.length)->(l.map λi=>ks.getD i (default,default)).Perm ks->(l.map λi=>ks.getD i (default,default)).Pairwise (λx y=>oZ K1 K2 x y=true)->P (.done (.ret .none)) { s with heap:=sortedHeap s.heap a vs (l.map λi=>vs.getD i fM).toArray }):
   aF (aR prog w) A (jr.«list.sort» ⟨[.ref a],[]⟩) P E s:=by
 have fW:=dZ;have len:=hp.len;rw [list_sort_plain];have la:a<s.heap.objs.size:=bW ho;refine aA (listItems_at ho rfl (aA (Vl ho rfl ?_ (by rw [gH]; omega) (cJ _))));obtain ⟨e1,g1⟩:∃ e1,(s.heap.update a (qH λ_=>#[])).get? a=some (seqObj "list" #[] e1):=⟨_,get?_update_seq ho (λ_=>#[])⟩;refine aA (XR g1 rfl (aA (wpAny_newTuple ?_ (by simp; omega))));refine aA (Rp ?_ (cJ _));refine iR ?_;have g6:(((s.heap.update a (qH λ_=>#[])).push (seqObj "tuple" vs.toArray 0)).push (seqObj "list" #[] 0)).get? a=some (seqObj "list" #[] e1):=cj _ (cj _ g1)
 have kk:∀ b o,b≠a->s.heap.get? b=some o->(((s.heap.update a (qH λ_=>#[])).push (seqObj "tuple" vs.toArray 0)).push (seqObj "list" #[] 0)).get? b=some o:=λb o nb e =>
   cj _ (cj _ (((rQ s.heap a _).2 b nb).ao e))
 show aF (aR prog w) A _ P E { s with heap:=((s.heap.update a (qH λ_=>#[])).push (seqObj "tuple" vs.toArray 0)).push (seqObj "list" #[] 0) };dsimp only;have sz:vs.toArray.size=vs.length:=by simp
 by_cases c2:vs.toArray.size<2
 . rw [bh c2,bh c2];refine aA (aO ?_);rw [StateT.run_pure];refine aA (aO ?_);dsimp only;refine aA (XR g6 rfl ?_)
   have em:((vs.toArray.zip vs.toArray).map (·.2))=vs.toArray:=by
     apply Array.toList_inj.mp;rw [Array.toList_map,Array.toList_zip];exact List.map_snd_zip (bB _)
   refine aA (Vl g6 rfl ?_ (cJ _) (by show ((vs.toArray.zip vs.toArray).map (·.2)).size<=_; rw [em,sz]; omega));simp only [bne_self_eq_false,Aa,if_false];refine aO ?_;show P _ { s with heap:=sortedHeap s.heap a vs ((vs.toArray.zip vs.toArray).map (·.2)) };rw [em]
   have all:∀{aJ:Type}(xs:List aJ)(d:aJ),((cY xs.length).map λi=>xs.getD i d)=xs:=λxs d=>by
     apply Mi
     . simp
     . intro i h1 h2;simp [oV,h2]
   have fin:=h (cY ks.length) (List.Perm.refl _) (by rw [all]) (by
     rw [all]
     match ks,len with
     | [],_=>exact JH
     | [_],_=>exact Jq _ _
     | _ :: _ :: _,len=>rw [sz,len,jY,jY] at c2; omega)
   rw [<- len,all] at fin;exact fin
 . rw [aV c2,aV c2];have p6:=hp.keep kk;obtain ⟨fs,t1,t2,t3⟩:=aj3 p6;obtain ⟨p,r1,r2,r3,r4⟩:=ano (KR K1 K2) hn (by omega) (default,default);refine aA (kat_kind (T:=.type K1.ty) t1 (by omega) (λv hv=>?_) K1.same ?_)
   . obtain ⟨x,hx⟩:=t3 v hv;exact K1.looks _ _ _ _ hx
   . rw [K1.V7]
     refine aA (ju (kat_run (ks:=vs) (vs:=vs) (κ:=tuples' true) (Q:=λst' s'=>s'={ s with heap:=((s.heap.update a (qH λ_=>#[])).push (seqObj "tuple" vs.toArray 0)).push (seqObj "list" #[] 0) }/\arrOf st'=p.map (kas_item (vs.toArray.zip vs.toArray))/\failedOf st'=none/\p.size=vs.length)
       (G:=λp' s'=>p'=p/\s'={ s with heap:=((s.heap.update a (qH λ_=>#[])).push (seqObj "tuple" vs.toArray 0)).push (seqObj "list" #[] 0) }) rfl (by omega) (by omega) (λp' st' s' q1 q2 q3 ⟨q4,q5⟩=>by subst q4; exact ⟨q5,q2,q3,q1⟩)
       (afU (n:=ks.length) (lt:=λi j=>oZ K1 K2 (ks.getD i (default,default)) (ks.getD j (default,default))) (λi j C hi hj hC=>alr (p6.get i hi) (p6.get j hj) (λek=>by rw [aif hn hi hj ek]) hC) _ p _ (by rw [len]; exact r1) ⟨rfl,rfl⟩)) ?_ λ_ _ e=>e)
     rintro ⟨⟨⟩,st'⟩ s' ⟨rfl,har,hf,hsz⟩;dsimp only;have em:=kat_snds (vs:=vs) rfl har;refine aA (XR g6 rfl ?_);have psz:p.toList.length=vs.length:=by rw [iZ]; exact hsz
     refine aA (Vl g6 rfl ?_ (cJ _) (by rw [em,gH,aU,psz]; omega));rw [hf];simp only [bne_self_eq_false,Aa,if_false];refine aO ?_;show P _ { s with heap:=sortedHeap s.heap a vs ((arrOf st').map (·.2)) };rw [em];exact h p.toList r4 r2 r3
theorem acG{x:aB}{ks:List (aJ × bO)}{T:List aB->Prop}{Q:aB->aH->Prop}(hn:ks.Nodup)(h6:ks.length<64)(col:∀(R:List aB->aH->Prop),(∀(h':bD)(tk:Nat)(vs:List aB),(∀ b o,s.heap.get? b=some o->h'.get? b=some o)->m8 K1 K2 h' h'.objs.size vs ks->T vs->R vs { s with heap:=h',toks:=tk })->aF (aR prog w) A.in1 (collect x) R E s)(h:∀(h1 h':bD)(tk:Nat)(vs:List aB)(l:List Nat)(n:Nat),(∀ b o,s.heap.get? b=some o->h1.get? b=some o)->(∀ b o,h1.get? b=some o->h'.get? b=some o)->T vs->vs.length=ks.length->h'.get? h1.objs.size=some (seqObj "list" (l.map λi=>vs.getD i fM).toArray n) -> l.Perm (cY ks.length)->(l.map λi=>ks.getD i (default,default)).Perm ks->(l.map λi=>ks.getD i (default,default)).Pairwise (λx y=>oZ K1 K2 x y=true)->Q (.ref h1.objs.size) { s with heap:=h',toks:=tk }): aF (aR prog w) A (call (.builtin "sorted") [x]) Q E s:=by refine (Xw YZ RW YK (Yd _) ?_);unfold jr.«sorted»;refine (aA (m:=checkCount "sorted" 1 1 _) (aO ?_));refine aA (col _ λh' tk vs kk hS hT=>?_);have hl:=hS.len;have fW:=dZ;refine aA (Rp ?_ (by omega));have g0:(h'.push (seqObj "list" vs.toArray 0)).get? h'.objs.size=some (seqObj "list" vs.toArray 0):=fU _ rfl;refine aA (iR (m5 Zr (s:={ s with heap:=h'.push (seqObj "list" vs.toArray 0),toks:=tk }) ⟨_,g0,rfl⟩ WX (afI (s:={ s with heap:=h'.push (seqObj "list" vs.toArray 0),toks:=tk }) g0 (hS.keep λb o _ e=>cj _ e) hn h6 λl l1 l2 l3=>⟨_,rfl,?_⟩) (Z0 _)));obtain ⟨n,gn⟩:=ZP (vs:=vs) (out:=(l.map λi=>vs.getD i fM).toArray) g0;refine aO ⟨_,rfl,h h' _ tk vs l n kk (λb o e1=>?_) hT hl gn l1 l2 l3⟩;have lt:b<h'.objs.size:=bW e1;show (sortedHeap (h'.push (seqObj "list" vs.toArray 0)) h'.objs.size vs _).get? b=some o;rw [Tj (dU lt) (by rw [ql]; exact BP lt)];exact cj _ e1
def Nv:V->Bool
 | .int _=>true | .str _=>true | .non=>true | _=>false
theorem ani{v:V}{u:aB}(h:Nv v=true)(r:cI v u):∃ q:Key,tE q u=true:=by (cases v <;> first | (cases h; done) | skip);cases r; exact ⟨.inl none,afi⟩;obtain ⟨t,rfl⟩:=r; exact ⟨_,Ur _ t⟩;obtain ⟨t,rfl⟩:=r; exact ⟨_,aad _ t⟩
theorem ZL:∀{as:List au}{us:List aB},bY (as.map V.ref) us->us=as.map bI
 | [],_,.nil=>rfl
 | a :: as,_,.cons h r=>by cases h; rw [ZL r]; rfl
theorem Tv:∀{vs:List V}{us:List aB},bY vs us->(∀ v∈vs,Nv v=true)->∀ u∈us,∃ q:Key,tE q u=true
 | _,_,.nil,_,u,hu=>by cases hu
 | _,_,.cons h r,f,u,hu=>by rcases dF.mp hu with e | e;rw [e]; exact ani (f _ dg) h;exact Tv r (λv hv=>f v (dD _ hv)) u e
theorem ade{X:Cx}:jz X (.builtin "sorted") (λxs H Q=>∃(p:au)(ts:List (au × (aJ × bO))),xs=[.ref p]/\(aY X.K H p ((ts.map (·.1)).map V.ref)\/aG X.K H p ((ts.map (·.1)).map V.ref))/\(∀ t∈ts,∃ rest:List V,H t.1=some (.tup (K1.vv t.2.1 :: K2.vv t.2.2 :: rest))/\∀ v∈rest,Nv v=true)/\(ts.map (·.2)).Nodup/\ts.length<64 /\ ∀(l:au)(ts':List (au × (aJ × bO))),H l=none->ts'.Perm ts->ts'.Pairwise (λa b=>oZ K1 K2 a.2 b.2=true)->Q (.ref l) (upd H l (.lst ((ts'.map (·.1)).map V.ref)))):=by intro ak s aj H xs us Q I r h;obtain ⟨p,ts,rfl,hp,hT,hn,h64,q⟩:=h;obtain ⟨u,rfl,ru⟩:=nM r;cases ru;obtain ⟨its,rv,Ty,hTy,o,n,g1,g2,g3⟩:∃ its:List aB,bY ((ts.map (·.1)).map V.ref) its/\∃ Ty:String,(Ty = "list"\/Ty = "tuple")/\∃ o n,s.heap.get? p=some o/\o.cls=.type Ty/\o.data=.seq its.toArray n:=(by rcases hp with hp | hp;obtain ⟨its,rv,⟨o,n,g1,g2,_,g3⟩,_⟩:=I.list hp;exact ⟨its,rv,_,.inl rfl,o,n,g1,g2,g3⟩;obtain ⟨its,rv,⟨o,g1,g2,n,g3⟩,_⟩:=I.tuple hp;exact ⟨its,rv,_,.inr rfl,o,n,g1,g2,g3⟩);have ei:=ZL rv;subst ei;have fW:=dZ;have at':∀ i,i<ts.length->((ts.map (·.1)).map bI).getD i fM=.ref (ts.getD i (0,default,default)).1/\(ts.map (·.2)).getD i (default,default)=(ts.getD i (0,default,default)).2:=λi hi=>(by simp [oV,cX,cT hi]);refine acG (K1:=K1) (K2:=K2) (ks:=ts.map (·.2)) (T:=λvs=>vs=(ts.map (·.1)).map bI) hn (by rw [aU]; exact h64) (λR hR=>wpAny_collect_seq p hTy g1 g2 g3 (λh' kk=>?_) (by rw [gH,aU,aU]; omega)) λh1 h' tk vs l n k1 k2 hT' hvl ho l1 l2 l3=>?_;refine hR h' s.toks ((ts.map (·.1)).map bI) kk (m8.of (by simp) λi hi=>?_) rfl;rw [aU] at hi;rw [(at' i hi).1,(at' i hi).2];have hm:ts.getD i (0,default,default)∈ts:=(by simp only [oV,cT hi,Option.getD_some];exact CN hi);obtain ⟨rest,et,pr⟩:=hT _ hm;obtain ⟨_,its,rv,ob,e1,e2,⟨m,e3⟩,_⟩:=(show gV X.prog X.w H s.heap _ (.tup _) from I.hok _ _ et);have g:=kk _ _ e1;(cases rv with| cons r1 rv =>cases rv with| cons r2 rv=>exact ⟨_,ob,m,_,_,_,rfl,dU (bW g),g,e2,e3,K1.rel _ _ r1,K2.rel _ _ r2,Tv rv pr⟩);have I1:Inv X ak aj H { s with heap:=h1,toks:=tk }:=I.kept k1;rw [aU] at l1;have lb:∀ i∈l,i<ts.length:=λi hi=>iJ.mp (l1.mem_iff.mp hi);have eo:(l.map λi=>vs.getD i fM)=((l.map λi=>ts.getD i (0,default,default)).map (·.1)).map bI:=(by have z:(l.map λi=>vs.getD i fM)=l.map λi=>bI (ts.getD i (0,default,default)).1:=CW λi hi=>(by rw [hT']; exact (at' i (lb i hi)).1);rw [z,jM,jM];rfl);rw [eo] at ho;have ek:(l.map λi=>(ts.map (·.2)).getD i (default,default))=(l.map λi=>ts.getD i (0,default,default)).map (·.2):=(by rw [jM];exact CW λi hi=>(at' i (lb i hi)).2);have pm:(l.map λi=>ts.getD i (0,default,default)).Perm ts:=(by have z:=W7 (λi=>ts.getD i (0,default,default)) l1;have all:((cY ts.length).map λi=>ts.getD i (0,default,default))=ts:=(by apply Mi;simp;intro i h1 h2;simp [oV,h2]);rw [all] at z;exact z);rw [ek,jc] at l3;have lt':=pm.length_eq;refine ⟨.ref h1.objs.size,_,I1.laid (t':=tk) (o:=.lst (((l.map λi=>ts.getD i (0,default,default)).map (·.1)).map V.ref)) k2 (bB _) ⟨by rw [aU,aU]; omega,((l.map λi=>ts.getD i (0,default,default)).map (·.1)).map bI,n,?_,ho⟩,rfl,q _ _ (I1.hok.fresh (bB _)) pm l3⟩;generalize ((l.map λi=>ts.getD i (0,default,default)).map (·.1))=ys;induction ys with| nil=>exact .nil| cons y ys ih=>exact .cons rfl ih
end
theorem acN{X:Cx}(hc:X.calm=true):jz X (.builtin "sorted") (λxs H Q=>∃(p:au)(kvs:List (List Key × V))(ks:List (Str × Str)),xs=[.ref p]/\H p=some (.dT kvs)/\kvs.map (·.1)=ks.map kP/\ks.length<64 /\ ∀(l:au)(as:List au)(ks':List (Str × Str)),H l=none->ks'.Perm ks->ks'.Pairwise (λx y=>jE x y=true)->as.length=ks'.length->(∀(i:Nat)(a:au)(k:Str × Str),as[i]?=some a->ks'[i]?=some k->H a=some (.tup ((kP k).map kV)))->Q (.ref l) (upd H l (.lst (as.map V.ref)))):=by intro ak s aj H xs us Q I r h;obtain ⟨p,kvs,ks,rfl,hp,hk,h6,q⟩:=h;obtain ⟨u,rfl,ru⟩:=nM r;cases ru;obtain ⟨z,d,xs,rel,o,es,ep,g1,g2,g3,g4,g5⟩:=(show gV X.prog X.w H s.heap p (.dT kvs) from I.hok p _ hp);have hkx:xs.map (·.1)=ks.map kP:=(by rw [<- hk];exact (afa rel).symm);have hn:ks.Nodup:=(by rw [hkx] at g5;rw [iT] at g5 |-;rw [jc] at g5;exact g5.imp λ{a b} h e=>h (by rw [e]));have hxl:xs.length=ks.length:=(by have:=fG rJ hkx; simpa using this);have agG:es.size=ks.length:=(by rw [<- iZ,g4,aU,hxl]);have fW:=dZ;have fact:∀ i,i<ks.length->(es[i]?).map (·.key)=some (bI (xs.map (·.2.1))[i]!)/\H (xs.map (·.2.1))[i]! = some (.tup ((kP (ks.getD i (default,default))).map kV)):=λi hi=>(by have ex:xs[i]?=some xs[i]:=cT (by omega);obtain ⟨kv,ekv,e1,e2,_⟩:=aeL rel ex;have ea:(xs.map (·.2.1))[i]! = xs[i].2.1:=(by rw [List.getElem!_eq_getElem?_getD,cX,ex]; rfl);rw [ea];refine ⟨?_,?_⟩;rw [<- uW,g4,cX,ex]; rfl;rw [e1] at e2;have e3:(xs.map (·.1))[i]?=some xs[i].1:=(by rw [cX,ex]; rfl);rw [hkx,cX,cT hi] at e3;have e4:kP ks[i]=xs[i].1:=jK e3;have e5:ks.getD i (default,default)=ks[i]:=(by simp [oV,hi]);rw [e5,e4]; exact e2);refine acG (K1:=kdS) (K2:=kdS) (T:=λvs=>∀ i,i<ks.length->vs.getD i fM=.ref (xs.map (·.2.1))[i]!) hn h6 (λR hR=>aak (A:=X.A.in1) (ams (es:=es) (ep:=ep) d) (by simpa using I.ok.hd hc) ⟨o,g1,g2,g3⟩ (by omega) λh' tk acc kk hacc=>?_) λh1 h' tk vs l n k1 k2 hT hvl ho l1 l2 l3=>?_;have al:acc.toList.length=ks.length:=(by rw [iZ]; exact hacc.1.ao agG);have at':∀ i,i<ks.length->acc.toList.getD i fM=.ref (xs.map (·.2.1))[i]!:=λi hi=>(by have e1:acc.toList[i]?=some acc.toList[i]:=cT (by omega);obtain ⟨e,ee,ev⟩:=hacc.2 i acc.toList[i] (by rw [<- uW]; exact e1);have f:=(fact i hi).1;rw [ee] at f;have f':e.key=bI (xs.map (·.2.1))[i]!:=jK f;simp only [oV,e1,Option.getD_some];rw [ev,f']);refine hR h' tk acc.toList kk (m8.of al λi hi=>?_) at';rw [at' i hi];obtain ⟨_,its,rv,ob,e1,e2,⟨m,e3⟩,_⟩:=(show gV X.prog X.w H s.heap _ (.tup ((kP (ks.getD i (default,default))).map kV)) from I.hok _ _ (fact i hi).2);have g:=kk _ _ e1;obtain ⟨v1,v2,rfl,r1,r2⟩:=rR (show bY [V.str _,V.str _] its from rv);obtain ⟨t1,rfl⟩:=r1;obtain ⟨t2,rfl⟩:=r2;exact ⟨_,ob,m,_,_,[],rfl,dU (bW g),g,e2,e3,⟨t1,rfl⟩,⟨t2,rfl⟩,λu hu=>by cases hu⟩;have I1:Inv X ak aj H { s with heap:=h1,toks:=tk }:=I.kept k1;have l1:∀ i∈l,i<ks.length:=λi hi=>iJ.mp (l1.mem_iff.mp hi);have l3:(l.map λi=>ks.getD i (default,default)).Pairwise (λx y=>jE x y=true):=l3;have ll:l.length=ks.length:=(by have:=l2.length_eq; simpa using this);have eo:(l.map λi=>vs.getD i fM)=(l.map λi=>(xs.map (·.2.1))[i]!).map bI:=(by rw [jM];exact CW λi hi=>hT i (l1 i hi));refine ⟨.ref h1.objs.size,_,I1.laid (t':=tk) (o:=.lst ((l.map λi=>(xs.map (·.2.1))[i]!).map V.ref)) k2 (bB _) ⟨by rw [aU,aU]; omega,(l.map λi=>(xs.map (·.2.1))[i]!).map bI,n,?_,by rw [<- eo]; exact ho⟩,rfl,q _ _ _ (I1.hok.fresh (bB _)) l2 l3 (by simp) λj a k ea ek=>?_⟩;generalize (l.map λi=>(xs.map (·.2.1))[i]!)=ys;(induction ys with| nil=>exact .nil| cons y ys ih=>exact .cons rfl ih);rw [cX] at ea ek;cases ej:l[j]? with| none=>rw [ej] at ea; cases ea| some i =>rw [ej] at ea ek;cases (show some _=some a from ea);cases (show some _=some k from ek);exact (fact i (l1 i (dB ej))).2
namespace ST
abbrev Pb:=SetTable.Probe
def oK(m:Nat)(p:Pb):Pb:=if p.more > 0 then { p with j:=p.j+1,more:=p.more-1 } else { p with j:=(pI m p.i p.perturb).1,more:=jL m (pI m p.i p.perturb).1-(pI m p.i p.perturb).1,i:=(pI m p.i p.perturb).1,perturb:=(pI m p.i p.perturb).2 }
theorem adl(t:oE)(p:Pb):t.advance p=oK t.mask p:=rfl
def sq(m:Nat)(p:Pb):Nat->Pb
 | 0=>p
 | n+1=>oK m (sq m p n)
theorem Ey(m:Nat)(p:Pb)(a:Nat):∀ b,sq m p (a+b)=sq m (sq m p a) b
 | 0=>rfl
 | b+1=>by show oK m (sq m p (a+b))=oK m (sq m (sq m p a) b); rw [Ey m p a b]
def at0(m i q:Nat):Pb:={ j:=i,more:=jL m i-i,i:=i,perturb:=q,dummy:=none }
def st(m:Nat)(h:Int):Pb:=at0 m (qu h % (m+1)) (qu h)
theorem aiX(t:oE)(h:Int):t.probeStart h=st t.mask h:=rfl
def lp(m i q:Nat):Nat->Nat × Nat
 | 0=>(i,q)
 | n+1=>pI m (lp m i q n).1 (lp m i q n).2
theorem ad3(m i q:Nat):∀ n,lp m i q (n+1)=lp m (pI m i q).1 (pI m i q).2 n
 | 0=>rfl
 | n+1=>by show pI m (lp m i q (n+1)).1 (lp m i q (n+1)).2=pI m _ _; rw [ad3 m i q n]
theorem Nj(m i q a:Nat):∀ b,lp m i q (a+b)=lp m (lp m i q a).1 (lp m i q a).2 b
 | 0=>rfl
 | b+1=>by show pI m (lp m i q (a+b)).1 (lp m i q (a+b)).2=pI m _ _; rw [Nj m i q a b]
theorem agK(m i:Nat):jL m i-i<=9:=by unfold jL; split <;> omega
theorem Rc(m i q:Nat):∀ r,r<=jL m i-i->sq m (at0 m i q) r={ j:=i+r,more:=jL m i-i-r,i:=i,perturb:=q,dummy:=none }
 | 0,_=>rfl
 | r+1,h=>by show oK m (sq m (at0 m i q) r)=_;rw [Rc m i q r (by omega)];unfold oK;rw [bh (show jL m i-i-r > 0 by omega)];congr 1
theorem Zf(m i q:Nat):sq m (at0 m i q) (jL m i-i+1)=at0 m (pI m i q).1 (pI m i q).2:=by show oK m (sq m (at0 m i q) (jL m i-i))=_;rw [Rc m i q _ (bB _)];unfold oK;rw [aV (show ¬ jL m i-i-(jL m i-i) > 0 by omega)];rfl
theorem aan(m i q:Nat):∀ n,∃ c,c<=10 * n/\sq m (at0 m i q) c=at0 m (lp m i q n).1 (lp m i q n).2
 | 0=>⟨0,bB _,rfl⟩
 | n+1=>by obtain ⟨c,hc,e⟩:=aan m i q n;have r9:=agK m (lp m i q n).1;refine ⟨c+(jL m (lp m i q n).1-(lp m i q n).1+1),by omega,?_⟩;rw [Ey,e,Zf];rfl
theorem aaJ(m i q:Nat):∀ n,(lp m i q n).2=q / 32 ^ n
 | 0=>by show q=_; simp
 | n+1=>by show (lp m i q n).2 / 32=_;rw [aaJ m i q n,Nat.div_div_eq_div_mul,Nat.pow_succ]
theorem ado(h:Int):qu h<2 ^ 64:=by unfold qu;have a:0<=h % (2 ^ 64:Int):=Xp _ (by decide);have b:h % (2 ^ 64:Int)<2 ^ 64:=af4 _ (by decide);omega
theorem anV(m i q:Nat)(hi:i<=m):∀ n,(lp m i q n).1<=m
 | 0=>hi
 | n+1=>by show (_ % (m+1))<=m;exact Jd (Ec _ (Fg _))
def vM(m:Nat):Bool:=(cY (m+1)).all λi=>(cY (m+1)).all λj=>(cY (m+1)).any λn=>(lp m i 0 n).1 == j
theorem ajG:vM 7=true:=by decide +kernel
theorem ala:vM 31=true:=by decide +kernel
def orb(m:Nat):Bool:=(cY (m+1)).all (λj=>(cY (m+1)).any λn=>(lp m 0 0 n).1 == j) && (lp m 0 0 (m+1)).1 == 0
theorem Yi(m i:Nat):∀ n,(lp m i 0 n).2=0
 | 0=>rfl
 | n+1=>by show (pI m (lp m i 0 n).1 (lp m i 0 n).2).2=0;rw [Yi m i n]; rfl
variable{m:Nat}
theorem apx(h:orb m=true):vM m=true:=by obtain ⟨h1,h2⟩:=pU.mp h;have at':∀ j,j<=m->∃ n,n<=m/\(lp m 0 0 n).1=j:=λj hj=>(by obtain ⟨n,hn,e⟩:=Ej.mp (fX.mp h1 j (iJ.mpr (by omega)));exact ⟨n,by have:=iJ.mp hn; omega,beq_iff_eq.mp e⟩);have zero:lp m 0 0 (m+1)=(0,0):=wz (beq_iff_eq.mp h2) (Yi m 0 _);have on:∀ a b,lp m (lp m 0 0 a).1 0 b=lp m 0 0 (a+b):=λa b=>(by rw [Nj,Yi m 0 a]);refine fX.mpr λi hi=>fX.mpr λj hj=>Ej.mpr ?_;obtain ⟨a,ha,ea⟩:=at' i (by have:=iJ.mp hi; omega);obtain ⟨b,hb,eb⟩:=at' j (by have:=iJ.mp hj; omega);rw [<- ea];by_cases z:a<=b;refine ⟨b-a,iJ.mpr (by omega),beq_iff_eq.mpr ?_⟩;rw [on,show a+(b-a)=b by omega]; exact eb;refine ⟨m+1-a+b,iJ.mpr (by omega),beq_iff_eq.mpr ?_⟩;rw [on,show a+(m+1-a+b)=(m+1)+b by omega,Nj,zero]; exact eb
theorem alz:vM 127=true:=apx (by decide +kernel)
variable{i j:Nat}
theorem ahX(c:vM m=true)(hi:i<=m)(hj:j<=m):∃ n,n<=m/\(lp m i 0 n).1=j:=by have a:=fX.mp (fX.mp c i (iJ.mpr (by omega))) j (iJ.mpr (by omega));obtain ⟨n,hn,e⟩:=Ej.mp a;exact ⟨n,by have:=iJ.mp hn; omega,beq_iff_eq.mp e⟩
theorem acE(c:vM m=true){q:Nat}(hq:q<2 ^ 64)(hi:i<=m)(hj:j<=m):∃ n,n<=13+m/\(lp m i q n).1=j:=by have z:(lp m i q 13).2=0:=(by rw [aaJ];exact Nat.div_eq_of_lt (kO hq (by decide)));obtain ⟨n,hn,e⟩:=ahX c (anV m i q hi 13) hj;exact ⟨13+n,by omega,by rw [Nj,z]; exact e⟩
theorem meets(c:vM m=true)(h:Int)(hj:j<=m):∃ n,n<10 * wW m/\(sq m (st m h) n).j=j:=by obtain ⟨n,hn,e⟩:=acE (i:=qu h % (m+1)) c (ado h) (Jd (Ec _ (Fg _))) hj;obtain ⟨c,hc,e2⟩:=aan m (qu h % (m+1)) (qu h) n;exact ⟨c,by unfold wW; omega,by unfold st; rw [e2]; exact e⟩
theorem apU(h:i<=m):jL m i<=m:=by unfold jL; split <;> omega
theorem JB(m:Nat)(h:Int)(n:Nat):(sq m (st m h) n).j<=m:=by have key:∀ n,(sq m (st m h) n).j+(sq m (st m h) n).more<=m:=(by have go:∀ i,i<=m->i+(jL m i-i)<=m:=λi hi=>(by have:=apU hi; omega);intro n;induction n with| zero=>exact go _ (Jd (Ec _ (Fg _)))| succ n ih =>show (oK m (sq m (st m h) n)).j+(oK m (sq m (st m h) n)).more<=m;unfold oK;split;show _+1+(_-1)<=m; omega;exact go _ (Jd (Ec _ (Fg _))));have:=key n; omega
theorem least{p:Nat->Prop}(hd:∀ n,p n\/¬ p n):∀ n,p n->∃ k,k<=n/\p k/\∀ l,l<k->¬ p l:=by intro n;induction n using Nat.strongRecOn with| ind n ih =>intro hn;rcases KC (∃ l,l<n/\p l) with ⟨l,hl,pl⟩ | z;obtain ⟨k,hk,r⟩:=ih l hl pl;exact ⟨k,by omega,r⟩;exact ⟨n,bB _,hn,λl hl pl=>z ⟨l,hl,pl⟩⟩
section
variable{aJ:Type}
def fm(m:Nat)(f:Nat->Option aJ):List aJ:=(cY (m+1)).filterMap f
theorem fmc{bO:Type}{f g:aJ->Option bO}:∀{l:List aJ},(∀ x∈l,f x=g x)->l.filterMap f=l.filterMap g
 | [],_=>rfl
 | x :: l,h=>by rw [uh,uh,h x dg,fmc λy hy=>h y (dD _ hy)]
def put(f:Nat->Option aJ)(j:Nat)(x:aJ):Nat->Option aJ:=λi=>if i=j then some x else f i
def lo(f:Nat->Option aJ)(j:Nat):List aJ:=(cY j).filterMap f
def hi(m:Nat)(f:Nat->Option aJ)(j:Nat):List aJ:=(List.range' (j+1) (m-j)).filterMap f
theorem amB(h:j<=m):cY (m+1)=cY j++j :: List.range' (j+1) (m-j):=by rw [adt,adt,show m+1=j+(m-j+1) by omega,<- List.range'_append_1,List.range'_succ,Wd]
theorem Mh(f:Nat->Option aJ)(h:j<=m):fm m f=lo f j++((f j).toList++hi m f j):=by unfold fm lo hi;rw [amB h,List.filterMap_append,uh];cases f j <;> rfl
theorem apJ{f:Nat->Option aJ}{x:aJ}:lo (put f j x) j=lo f j:=by unfold lo;refine fmc λi hi=>?_;unfold put;rw [aV (by have:=iJ.mp hi; omega)]
theorem aiw{f:Nat->Option aJ}{x:aJ}:hi m (put f j x) j=hi m f j:=by unfold hi;refine fmc λi hi=>?_;unfold put;rw [aV (by have:=(ach.mp hi).1; omega)]
theorem K9{f:Nat->Option aJ}{x:aJ}(h:j<=m)(n:f j=none):fm m (put f j x)=lo f j++x :: hi m f j/\fm m f=lo f j++hi m f j:=by rw [Mh (put f j x) h,Mh f h,apJ,aiw,n];refine ⟨?_,rfl⟩;show _++((if j=j then some x else f j).toList++_)=_;rw [bh rfl]; rfl
theorem acf{f:Nat->Option aJ}{x:aJ}(h:j<=m)(n:f j=none):(fm m (put f j x)).Perm (x :: fm m f):=by obtain ⟨a,b⟩:=K9 (x:=x) h n;rw [a,b];exact List.perm_middle
theorem aav{f:Nat->Option aJ}(h:(fm m f).length<=m):∃ j,j<=m/\f j=none:=by rcases KC (∃ j,j<=m/\f j=none) with z | z;exact z;exfalso;have all:∀ j,j<=m->(f j).isSome=true:=λj hj=>(by cases e:f j with| none=>exact bK ⟨j,hj,e⟩ z| some _=>rfl);have len:∀ l:List Nat,(∀ j∈l,j<=m)->(l.filterMap f).length=l.length:=(by intro l;induction l with| nil=>intro _; rfl| cons j l ih =>intro hl;obtain ⟨x,e⟩:=GD.mp (all j (hl j dg));rw [aaE e,jY,jY,ih λi hi=>hl i (dD _ hi)]);have:=len (cY (m+1)) (λj hj=>by have:=iJ.mp hj; omega);rw [rK] at this;unfold fm at h;omega
theorem Bw{f:Nat->Option aJ}{x:aJ}:x∈fm m f↔∃ j,j<=m/\f j=some x:=by unfold fm;rw [IV];constructor;rintro ⟨j,hj,e⟩; exact ⟨j,by have:=iJ.mp hj; omega,e⟩;rintro ⟨j,hj,e⟩; exact ⟨j,iJ.mpr (by omega),e⟩
theorem Li{bO:Type}(g:aJ->bO)(f:Nat->Option aJ)(m:Nat):(fm m f).map g=fm m λj=>(f j).map g:=by unfold fm; rw [Lz]
def jf(f:Nat->Option aJ):Nat->Option Nat:=λj=>if (f j).isSome then some j else none
theorem Hy(f:Nat->Option aJ)(l:List Nat):(l.filterMap (jf f)).length=(l.filterMap f).length:=by induction l with| nil=>rfl| cons j l ih =>have e:jf f j=if (f j).isSome then some j else none:=rfl;rw [uh,uh,e];cases f j with| none=>simpa using ih| some _=>simpa using ih
theorem ak0{f:Nat->Option aJ}{x:aJ}:jf (put f j x)=put (jf f) j j:=by funext i;unfold jf put;by_cases e:i=j;subst e; simp;simp [e]
end
theorem ZK(xs:Array Nat)(j c:Nat)(hp:∀ k,k<xs.size->(xs.getD k j<j↔k<c)):∀ f lo hi,lo<=c->c<=hi->hi<=xs.size->hi-lo<=f->ad5 xs j f lo hi=c
 | 0,lo,hi,h1,h2,h3,h4=>by show lo=c; omega
 | f+1,lo,hi,h1,h2,h3,h4=>by unfold ad5;by_cases e:lo<hi;rw [bh e];have e1:(lo+hi) / 2<hi:=(by omega);have e0:lo<=(lo+hi) / 2:=(by omega);have p:=hp ((lo+hi) / 2) (by omega);dsimp only;by_cases q:xs.getD ((lo+hi) / 2) j<j;rw [bh q];have:=p.mp q;exact ZK xs j c hp f _ _ (by omega) h2 h3 (by omega);rw [aV q];have:¬ (lo+hi) / 2<c:=λz=>q (p.mpr z);exact ZK xs j c hp f _ _ h1 (by omega) (by omega) (by omega);rw [aV e]; omega
theorem below_app{l1 l2:List Nat}(h1:∀ x∈l1,x<j)(h2:∀ x∈l2,j<=x){xs:Array Nat}(e:xs.toList=l1++l2):O7 xs j=l1.length:=by have sz:xs.size=l1.length+l2.length:=(by rw [<- iZ,e,cQ]);unfold O7;refine ZK xs j l1.length (λk hk=>?_) _ _ _ (cJ _) (by omega) (bB _) (by omega);have g:xs.getD k j=(l1++l2).getD k j:=(by rw [<- e,wU,Xk,uW]);rw [g];constructor;intro lt;rcases qO k l1.length with z | z;exact z;exfalso;have hk2:k-l1.length<l2.length:=(by omega);rw [Xk,Cv z,cT hk2,Option.getD_some] at lt;have:=h2 _ (CN hk2);omega;intro lt;rw [Xk,Dm lt,cT lt,Option.getD_some];exact h1 _ (CN lt)
variable{x:Nat}{aJ:Type}{f:Nat->Option aJ}
theorem amS(h:x∈lo (jf f) j):x<j:=by obtain ⟨i,hi,e⟩:=IV.mp h;unfold jf at e;split at e;cases e; exact iJ.mp hi;cases e
theorem aml(h:x∈hi m (jf f) j):j<x:=by obtain ⟨i,hi,e⟩:=IV.mp h;unfold jf at e;split at e;cases e; have:=(ach.mp hi).1; omega;cases e
theorem ael{t:oE}(hp:t.place.toList=fm m (jf f))(hj:j<=m):O7 t.place j=(lo f j).length:=by rw [Mh _ hj] at hp;rw [below_app (l1:=lo (jf f) j) (λx hx=>amS hx) (λx hx=>?_) hp];exact Hy f _;rcases fQ.mp hx with z | z;unfold jf at z;split at z;simp at z; omega;simp at z;have:=aml z; omega
theorem aoV{t:oE}(hp:t.place.toList=fm m (jf f))(hd:t.dummies=#[])(hj:j<=m)(n:f j=none):t.slot j=.empty:=by unfold SetTable.slot;dsimp only;have nin:∀ i,t.place[i]?≠some j:=λi e=>(by have z:j∈t.place.toList:=Kz.mpr (abd e);rw [hp] at z;obtain ⟨i,_,e⟩:=Bw.mp z;unfold jf at e;split at e;cases e;rename_i h;rw [n] at h; cases h;cases e);rw [aV (by simpa using nin _),hd];rw [aV];unfold SetTable.has;simp
theorem acg{t:oE}(hp:t.place.toList=fm m (jf f))(hj:j<=m){x:aJ}(e:f j=some x):t.slot j=.live (lo f j).length:=by unfold SetTable.slot;dsimp only;have b:=ael hp hj;have g:t.place[(lo f j).length]?=some j:=(by rw [<- uW,hp,Mh _ hj,Cv (show (lo (jf f) j).length<=(lo f j).length from Nat.le_of_eq (Hy f (cY j)))];have z:(lo f j).length-(lo (jf f) j).length=0:=(by have:=Hy f (cY j);unfold lo; omega);rw [z];unfold jf;rw [e]; rfl);rw [b,g,bh (by simp)]
theorem ajT{xs:Array aJ}(hx:xs.toList=fm m f)(hj:j<=m){x:aJ}(e:f j=some x):xs[(lo f j).length]?=some x:=by rw [<- uW,hx,Mh _ hj,Cv (bB _),Nat.sub_self,e];rfl
theorem aoj{t:oE}(hp:t.place.toList=fm m (jf f))(hd:t.dummies=#[])(hj:j<=m)(n:f j=none)(x:aJ): t.put j=({ t with place:=lG t.place (lo f j).length j },(lo f j).length)/\(lG t.place (lo f j).length j).toList=fm m (jf (put f j x)):=by have b:=ael hp hj;have no:jf f j=none:=(by unfold jf; rw [n]; rfl);refine ⟨?_,?_⟩;unfold SetTable.put;dsimp only;rw [b,hd,aV];unfold SetTable.has;simp;rw [aa8,hp,ak0,(K9 (x:=j) hj no).1,(K9 (x:=j) hj no).2];have l:(lo f j).length=(lo (jf f) j).length:=(Hy f _).symm;rw [l];simp
theorem aii{xs:Array aJ}(hx:xs.toList=fm m f)(hj:j<=m)(n:f j=none)(x:aJ):(lG xs (lo f j).length x).toList=fm m (put f j x):=by rw [aa8,hx,(K9 (x:=x) hj n).1,(K9 (x:=x) hj n).2];simp
end ST
namespace ST
section
variable{κ:Type}{hs:κ->Int}{f:Nat->Option (κ × au)}{m:Nat}{t:oE}{es:Array (Int × aB)}
def ent(hs:κ->Int)(x:κ × au):Int × aB:=(hs x.1,.ref x.2)
def Reach(hs:κ->Int)(m:Nat)(f:Nat->Option (κ × au)):Prop:=∀ j x,j<=m->f j=some x->∃ n,(sq m (st m (hs x.1)) n).j=j/\∀ l,l<n->(f (sq m (st m (hs x.1)) l).j).isSome=true
structure Tb(hs:κ->Int)(m:Nat)(f:Nat->Option (κ × au))(t:oE)(es:Array (Int × aB)):Prop where
 mask:t.mask=m
 cy:vM m=true
 odd:m % 2=1
 dum:t.dummies=#[]
 place:t.place.toList=fm m (jf f)
 ents:es.toList=fm m λj=>(f j).map (ent hs)
 reach:Reach hs m f
 room:(fm m f).length * 5<m * 3
theorem Tb.size(T:Tb hs m f t es):es.size=(fm m f).length:=by rw [<- iZ,T.ents,<- Li,aU]
theorem Tb.alU(T:Tb hs m f t es):t.place.size=(fm m f).length:=by rw [<- iZ,T.place]; exact Hy f _
variable{n:Nat}
theorem fits_of(hd:t.dummies=#[])(hp:t.place.size=n)(hm:n<=t.mask):t.fits n=true:=by unfold SetTable.fits SetTable.fill;rw [hd];simp only [CZ,beq_iff_eq,decide_eq_true_eq];exact ⟨hp,by show t.place.size+0<=t.mask; omega⟩
theorem Tb.fits(T:Tb hs m f t es):t.fits es.size=true:=fits_of T.dum (by rw [T.alU,T.size]) (by rw [T.size,T.mask]; have:=T.room; omega)
theorem Tb.free(T:Tb hs m f t es)(h:Int):∃ N,N<10 * wW m/\f (sq m (st m h) N).j=none/\∀ l,l<N->∃ x,f (sq m (st m h) l).j=some x:=by obtain ⟨j,hj,e⟩:=aav (f:=f) (m:=m) (by have:=T.room; omega);obtain ⟨n,hn,e2⟩:=meets T.cy h hj;obtain ⟨N,hN,p,q⟩:=least (p:=λn=>f (sq m (st m h) n).j=none) (λn=>KC _) n (by rw [e2]; exact e);refine ⟨N,by omega,p,λl hl=>?_⟩;cases z:f (sq m (st m h) l).j with| none=>exact bK z (q l hl)| some x=>exact ⟨x,rfl⟩
variable{b:au}{j N:Nat}
theorem Tb.found(T:Tb hs m f t es){k:κ}(hj:j<=m)(e:f j=some (k,b))(hN:f (sq m (st m (hs k)) N).j=none):∃ n,n<N/\f (sq m (st m (hs k)) n).j=some (k,b):=by obtain ⟨n,en,all⟩:=T.reach j _ hj e;refine ⟨n,?_,by rw [en]; exact e⟩;rcases Nat.lt_trichotomy n N with z | z | z;exact z;subst z;rw [en,e] at hN; cases hN;have:=all N z;rw [hN] at this; cases this
theorem Reach.more{k:κ}(R:Reach hs m f)(n:f j=none)(eN:(sq m (st m (hs k)) N).j=j)(all:∀ l,l<N->∃ x,f (sq m (st m (hs k)) l).j=some x):Reach hs m (put f j (k,b)):=by have up:∀ i,(f i).isSome=true->(put f j (k,b) i).isSome=true:=λi h=>(by unfold put; split;rfl;exact h);intro i x hi e;unfold put at e;split at e;cases e;rename_i eij;exact ⟨N,eN.ao eij.symm,λl hl=>up _ (by obtain ⟨x,e⟩:=all l hl; rw [e]; rfl)⟩;obtain ⟨n,en,al⟩:=R i x hi e;exact ⟨n,en,λl hl=>up _ (al l hl)⟩
theorem aiA{hashAt:Nat->Int}{h:Int}{p:Pb}(hm:t.mask=m)(hp:t.place.toList=fm m (jf f))(hd:t.dummies=#[])(hin:∀ n,(sq m p n).j<=m): ∀(F:Nat)(N:Nat),N<F->f (sq m p N).j=none->(∀ l,l<N->∃ x,f (sq m p l).j=some x) -> (VR t hashAt h F p=some (.empty (sq m p N).j p.dummy)/\∀ l,l<N->hashAt (lo f (sq m p l).j).length≠h) \/ ∃ n,n<N/\VR t hashAt h F p=some (.candidate (sq m p n).j (lo f (sq m p n).j).length (sq m p (n+1)))/\hashAt (lo f (sq m p n).j).length=h/\∀ l,l<n->hashAt (lo f (sq m p l).j).length≠h:=by intro F;induction F generalizing p with| zero=>intro N hN; omega| succ F ih =>intro N hN e all;unfold VR;by_cases z:N=0;subst z;rw [show t.slot p.j=.empty from aoV hp hd (hin 0) e];exact .inl ⟨rfl,λl hl=>by omega⟩;obtain ⟨x,ex⟩:=all 0 (by omega);rw [show t.slot p.j=.live (lo f p.j).length from acg hp (hin 0) ex];dsimp only;by_cases q:hashAt (lo f p.j).length=h;refine .inr ⟨0,by omega,?_,q,λl hl=>by omega⟩;rw [bh (beq_iff_eq.mpr q),adl,hm];rfl;rw [aV (by rw [beq_iff_eq]; exact q),adl,hm];have sh:∀ n,sq m (oK m p) n=sq m p (n+1):=λn=>(by rw [Ln,Ey]; rfl);have sh0:(oK m p).dummy=p.dummy:=(by unfold oK; split <;> rfl);have key:=ih (p:=oK m p) (λn=>by rw [sh]; exact hin _) (N-1) (by omega) (by rw [sh,show N-1+1=N by omega]; exact e) (λl hl=>by rw [sh]; exact all _ (by omega));have ahead:∀{c:Nat},(∀ l,l<c->hashAt (lo f (sq m (oK m p) l).j).length≠h)->∀ l,l<c+1->hashAt (lo f (sq m p l).j).length≠h:=λ{c} a l hl=>(by cases l with| zero=>exact q| succ l=>have:=a l (by omega); rw [sh] at this; exact this);rcases key with ⟨k1,k2⟩ | ⟨n,hn,k1,k2,k3⟩;refine .inl ⟨?_,λl hl=>ahead k2 l (by omega)⟩;rw [k1,sh,show N-1+1=N by omega,sh0];refine .inr ⟨n+1,by omega,?_,?_,ahead k3⟩;rw [k1,sh,sh];rw [<- sh]; exact k2
theorem ab4{own:Array (Option Nat)}:∀(F i q:Nat),(∃ d,d<F/\(own.getD (lp m i q d).1 (some 0))=none) ->
   ∃ j n,Ky m own F i q=some j/\(sq m (at0 m i q) n).j=j/\own.getD j (some 0)=none/\∀ l,l<n->(own.getD (sq m (at0 m i q) l).j (some 0)).isSome=true
 | 0,i,q,h=>by obtain ⟨d,hd,_⟩:=h; omega
 | F+1,i,q,h=>by unfold Ky;cases e:(cY (jL m i+1-i)).find? λk=>(own.getD (i+k) (some 0)).isNone with| some k =>obtain ⟨hk,as,bs,eab,ha⟩:=List.find?_eq_some_iff_append.mp e;have hk2:own.getD (i+k) (some 0)=none:=(by simpa using hk);have aiy:as.length=k/\k<jL m i+1-i:=(by have g:(cY (jL m i+1-i))[as.length]?=some k:=(by rw [eab]; simp);obtain ⟨h1,h2⟩:=mK.mp g;rw [List.getElem_range] at h2;rw [rK] at h1;omega);have pos:∀ r,r<=k->(sq m (at0 m i q) r).j=i+r:=λr hr=>(by rw [Rc m i q r (by have:=aiy.2; omega)]);refine ⟨i+k,k,rfl,pos k (bB _),hk2,λl hl=>?_⟩;rw [pos l (by omega)];have mem:l∈as:=(by have g:(cY (jL m i+1-i))[l]?=some l:=(by rw [M6 (by omega)]);rw [eab,Dm (by omega)] at g;exact dB g);have:=ha l mem;(cases z:own.getD (i+l) (some 0) with| none=>rw [z] at this; simp at this| some _=>rfl)| none =>have no:=Bf.mp e;have pos:∀ r,r<=jL m i-i->(own.getD (i+r) (some 0)).isSome=true:=λr hr=>(by have ge:i<=jL m i:=(by unfold jL; split <;> omega);have:=no r (iJ.mpr (by omega));cases z:own.getD (i+r) (some 0) with| none=>rw [z] at this; simp at this| some _=>rfl);obtain ⟨d,hd,ed⟩:=h;have d1:d≠0:=λz=>(by subst z;have:=pos 0 (cJ _);have ed':own.getD i (some 0)=none:=ed;rw [Nat.add_zero,ed'] at this; cases this);obtain ⟨d',rfl⟩:∃ d',d=d'+1:=⟨d-1,by omega⟩;rw [ad3] at ed;obtain ⟨j,n,k1,k2,k3,k4⟩:=ab4 F (pI m i q).1 (pI m i q).2 ⟨d',by omega,ed⟩;refine ⟨j,jL m i-i+1+n,k1,by rw [Ey,Zf]; exact k2,k3,λl hl=>?_⟩;rcases qO l (jL m i-i+1) with z | z;rw [Rc m i q l (by omega)]; exact pos l (by omega);rw [show l=jL m i-i+1+(l-(jL m i-i+1)) by omega,Ey,Zf];exact k4 _ (by omega)
structure Laid(m:Nat)(hash:Array Int)(own:Array (Option Nat))(k:Nat):Prop where
 size:own.size=m+1
 perm:(fm m λj=>own.getD j none).Perm (cY k)
 reach:∀ j i,j<=m->own.getD j none=some i->∃ n,(sq m (st m (hash.getD i 0)) n).j=j/\∀ l,l<n->(own.getD (sq m (st m (hash.getD i 0)) l).j none).isSome=true
variable{own:Array (Option Nat)}
theorem amu{d d':Option Nat}(h:j<own.size):own.getD j d=own.getD j d':=by simp [Qh,h]
variable{hash:Array Int}
theorem Laid.more{k:Nat}(c:vM m=true)(L:Laid m hash own k)(hk:k<=m): ∃ j,Ky m own (wW m) (qu (hash.getD k 0) % (m+1)) (qu (hash.getD k 0))=some j/\Laid m hash (own.setIfInBounds j (some k)) (k+1):=by have sw:∀{j},j<=m->own.getD j (some 0)=own.getD j none:=λhj=>amu (by rw [L.size]; omega);obtain ⟨j0,hj0,e0⟩:=aav (f:=λj=>own.getD j none) (m:=m) (by rw [L.perm.length_eq,rK]; exact hk);obtain ⟨d,hd,ed⟩:=acE (i:=qu (hash.getD k 0) % (m+1)) c (ado (hash.getD k 0)) (Jd (Ec _ (Fg _))) hj0;obtain ⟨j,n,f1,f2,f3,f4⟩:=ab4 (m:=m) (own:=own) (wW m) (qu (hash.getD k 0) % (m+1)) (qu (hash.getD k 0)) ⟨d,by unfold wW; omega,by rw [ed,sw hj0]; exact e0⟩;have hj:j<=m:=(by rw [<- f2]; exact JB m (hash.getD k 0) n);have g:∀ i,(own.setIfInBounds j (some k)).getD i none=put (λj=>own.getD j none) j k i:=λi=>(by unfold put;have hs:j<own.size:=(by rw [L.size]; omega);rw [wU,Array.getElem?_setIfInBounds];by_cases e:i=j;subst e; rw [bh rfl,bh rfl,bh hs]; rfl;rw [aV (gQ e),aV e,<- wU]);have gf:(λi=>(own.setIfInBounds j (some k)).getD i none)=put (λj=>own.getD j none) j k:=funext g;have n0:own.getD j none=none:=(by rw [<- sw hj]; exact f3);refine ⟨j,f1,by rw [Array.size_setIfInBounds]; exact L.size,?_,?_⟩;rw [gf,V9];exact (acf hj n0).ao ((L.perm.cons k).ao (aeU k _).symm);intro i x hi e;have up:∀ i,(own.getD i none).isSome=true->((own.setIfInBounds j (some k)).getD i none).isSome=true:=λi h=>(by rw [g]; unfold put; split;rfl;exact h);rw [g] at e;unfold put at e;split at e;cases e;rename_i eij;exact ⟨n,f2.ao eij.symm,λl hl=>up _ (by rw [<- sw (JB m (hash.getD k 0) l)]; exact f4 l hl)⟩;obtain ⟨n,en,al⟩:=L.reach i x hi e;exact ⟨n,en,λl hl=>up _ (al l hl)⟩
theorem aox(c:vM m=true)(hk:hash.size<=m+1):∃ own,aaN m hash=some own/\Laid m hash own hash.size:=by
 unfold aaN
 have key:∀ k,k<=hash.size->∃ own,(hash.toList.take k).foldl (λacc h=>(do
   let (owner,k) <- acc
   let j <- Ky m owner (wW m) (qu h % (m+1)) (qu h)
   pure (owner.setIfInBounds j (some k),k+1))) (some (Array.replicate (m+1) none,0))=some (own,k)/\Laid m hash own k:=by
   intro k
   induction k with
   | zero =>
     intro _;refine ⟨_,rfl,by simp,?_,λj i _ e=>?_⟩
     . have:(fm m λj=>(Array.replicate (m+1) (none:Option Nat)).getD j none)=[]:=by
         unfold fm;rw [List.filterMap_eq_nil_iff];intro j hj;rw [wU,af7];split <;> rfl
       rw [this]; exact .refl _
     . rw [wU,af7] at e;split at e <;> cases e
   | succ k ih =>
     intro h;obtain ⟨own,e,L⟩:=ih (by omega);have gk:hash.toList[k]?=some (hash.getD k 0):=by rw [uW,wU,HF (by omega)]; rfl
     obtain ⟨j,ej,L2⟩:=L.more c (by omega);refine ⟨_,?_,L2⟩;rw [dI,gk,List.foldl_append,e];show ((Ky m own (wW m) (qu (hash.getD k 0) % (m+1)) (qu (hash.getD k 0))).bind λj=>some (own.setIfInBounds j (some k),k+1))=_;rw [ej]; rfl
 obtain ⟨own,e,L⟩:=key hash.size (bB _);rw [<- iZ,gU] at e;refine ⟨own,?_,L⟩;rw [<- Array.foldl_toList];have e':=e;rw [iZ] at e';rw [e'];rfl
theorem anF{fg mv:Nat}{led plain:Bool}(hx:es.toList=fm n λj=>(f j).map (ent hs))(c:vM m=true)(od:m % 2=1)(hk:(fm n f).length * 5<m * 3): ∃ t' order f',SetTable.laid m fg mv led plain (es.map (·.1))=some (t',order)/\t'.led=led/\t'.plain=plain/\t'.moves=mv/\Tb hs m f' t' (order.filterMap (es[·]?))/\(fm m f').Perm (fm n f):=by have hz:es.size=(fm n f).length:=(by rw [<- iZ,hx,<- Li,aU]);obtain ⟨own,e,L⟩:=aox (m:=m) (hash:=es.map (·.1)) c (by rw [Va,hz]; omega);have esz:es.toList.length=(fm n f).length:=(by rw [iZ]; exact hz);have hget:∀ i:Nat,es[i]?=((fm n f)[i]?).map (ent hs):=λi=>(by rw [<- uW,hx,<- Li,cX]);have lt:∀ j i,j<=m->own.getD j none=some i->i<(fm n f).length:=λj i hj e=>(by have:=L.perm.mem_iff.mp (Bw.mpr ⟨j,hj,e⟩);rw [Va,hz] at this;exact iJ.mp this);have f'e:∀ j i,j<=m->own.getD j none=some i->∃ x,(fm n f)[i]?=some x:=λj i hj e=>⟨_,cT (lt j i hj e)⟩;have ag2:((cY (m+1)).filterMap λj=>(own.getD j none).map (j,·)).map (·.1)=fm m (jf λj=>(own.getD j none).bind λi=>(fm n f)[i]?):=(by rw [Lz];refine fmc λj hj=>?_;have hj':j<=m:=(by have:=iJ.mp hj; omega);unfold jf;dsimp only;rcases Option.eq_none_or_eq_some (own.getD j none) with q | ⟨i,q⟩;rw [aV (by rw [q]; exact gO),q]; rfl;obtain ⟨x,ex⟩:=f'e j i hj' q;rw [bh (by rw [q]; show ((fm n f)[i]?).isSome=true; rw [ex]; rfl),q]; rfl);have aoX:((cY (m+1)).filterMap λj=>(own.getD j none).map (j,·)).map (·.2)=fm m λj=>own.getD j none:=(by rw [Lz];refine fmc λj hj=>?_;cases own.getD j none <;> rfl);have perm:(fm m λj=>(own.getD j none).bind λi=>(fm n f)[i]?).Perm (fm n f):=(by have z:(fm m λj=>(own.getD j none).bind λi=>(fm n f)[i]?)=(fm m λj=>own.getD j none).filterMap λi=>(fm n f)[i]?:=(by unfold fm; rw [ada]);rw [z];refine (L.perm.filterMap _).ao ?_;rw [Va,hz,List.filterMap_getElem?_range_length]);refine ⟨_,_,λj=>(own.getD j none).bind λi=>(fm n f)[i]?,by unfold SetTable.laid; rw [e]; rfl,rfl,rfl,rfl,⟨rfl,c,od,rfl,?_,?_,?_,by rw [perm.length_eq]; exact hk⟩,perm⟩;rw [<- ag2];rw [Array.toList_filterMap,ad0,aoX];unfold fm;rw [ada];refine fmc λj _=>?_;(cases own.getD j none with| none=>rfl| some i=>show es[i]?=((fm n f)[i]?).map _; rw [hget]);intro j x hj e;dsimp only at e;cases q:own.getD j none with| none=>rw [q] at e; cases e| some i =>rw [q] at e;have ex:(fm n f)[i]?=some x:=e;have hh:(es.map (·.1)).getD i 0=hs x.1:=(by rw [wU,Array.getElem?_map,hget,ex]; rfl);obtain ⟨n1,en,al⟩:=L.reach j i hj q;rw [hh] at en al;refine ⟨n1,en,λl hl=>?_⟩;obtain ⟨i',ei'⟩:=GD.mp (al l hl);obtain ⟨x',ex'⟩:=f'e _ i' (JB m (hs x.1) l) ei';dsimp only;rw [ei'];show ((fm n f)[i']?).isSome=true;rw [ex']; rfl
end
end ST
namespace ST
theorem aaB(m:Nat)(h:Int):∀ n,(sq m (st m h) n).dummy=none
 | 0=>rfl
 | n+1=>by show (oK m (sq m (st m h) n)).dummy=none;unfold oK;split <;> exact aaB m h n
section
variable{prog:dX}{w:cU}{K:Type}[DecidableEq K]{knd:KeyKind prog w K}{A:iw}{E:aB->aH->Prop}{s:aH}
abbrev tk(knd:KeyKind prog w K):HeapKind prog w (List K):=tupleKind knd
variable{Q:Bool->aH->Prop}
theorem aew{k:List K}{a:au}(hk:qG knd s.heap k a)(h:Q false s):aF (aR prog w) A (ofAClassStatement 8 (.ref a)) Q E s:=by have hT:=hk.typeIs;obtain ⟨o,items,n,ho,_,hd,hi⟩:=hk;unfold ofAClassStatement;refine aA (Ab hT ?_);dsimp only;rw [bh (by decide)];refine aA (aO ?_);rw [aV (by decide)];refine aA (ud ho hd ?_);dsimp only;refine aA ?_;show aF _ _ (forIn items _ _) _ _ s;rw [<- aeG];refine NK _ (λrest r s'=>r.1=none/\s'=s/\∀ v∈rest,carriedByValue v=true) _ ?_ ?_ _ _ ⟨rfl,rfl,hi.byValue⟩;rintro v rest r s' ⟨hr,rfl,hall⟩;have e:ofAClassStatement 7 v=pure false:=(by have:=hall v dg;unfold ofAClassStatement;cases v <;> first | rfl | cases this);rw [e];refine aA (aO ?_);simp only [Aa,if_false];exact aO ⟨rfl,rfl,λu hu'=>hall u (dD _ hu')⟩;rintro ⟨r1,r2⟩ s' ⟨hr,rfl,_⟩;simp only at hr;subst hr;exact aO h
theorem aoe{k:List K}{b:au}{l:List aB}(hk:qG knd s.heap k b)(hl:∀ v∈l,∃ k' b',v=bI b'/\qG knd s.heap k' b')(h:Q false s):aF (aR prog w) A (searchCouldBeSeen (.ref b) l) Q E s:=by unfold searchCouldBeSeen;refine aA ?_;refine NK _ (λrest r s'=>r.1=none/\s'=s/\∀ v∈rest,∃ k' b',v=bI b'/\qG knd s.heap k' b') _ ?_ ?_ _ _ ⟨rfl,rfl,hl⟩;rintro v rest r s' ⟨hr,rfl,hall⟩;obtain ⟨k',b',rfl,hk'⟩:=hall v dg;have nx:∀ u∈rest,∃ k' b',u=bI b'/\qG knd s'.heap k' b':=λu hu=>hall u (dD _ hu);dsimp only;refine Dd (λ_=>aO ⟨rfl,rfl,nx⟩) (λ_=>?_);refine aA (aen hk ?_);rw [aV (by decide)];refine aA (aen hk' ?_);rw [aV (by decide)];refine aA (aew hk ?_);rw [aV (by decide)];refine aA (aew hk' ?_);rw [aV (by decide)];exact aO ⟨rfl,rfl,nx⟩;rintro ⟨r1,r2⟩ s' ⟨hr,rfl,_⟩;simp only at hr;subst hr;exact aO h
variable{a b:au}{o:Obj}{es:Array (Int × aB)}{ep:Nat}{t:oE}{m:Nat}{f:Nat->Option (List K × au)}{k:List K}
theorem apv{Q:SetFound->aH->Prop}(hr:A.units<cLine)(hk:qG knd s.heap k b)(ho:s.heap.get? a=some o)(hd:o.data=.set es ep t)(T:Tb (tk knd).hash m f t es)(hf:∀ j x,j<=m->f j=some x->qG knd s.heap x.1 x.2){N:Nat}(hN:N<10 * wW m)(eN:f (sq m (st m ((tk knd).hash k)) N).j=none)(aN:∀ l,l<N->∃ x,f (sq m (st m ((tk knd).hash k)) l).j=some x)(h1:(∃ j b',j<=m/\f j=some (k,b'))->Q (.there none) s)(h2:(∀ j b',j<=m->f j≠some (k,b'))->Q (.free (sq m (st m ((tk knd).hash k)) N).j false) s):
   ∀(d n0 F:Nat)(sd:Option Pb),N-n0=d->n0<=N->d<F->sd.getD (st m ((tk knd).hash k))=sq m (st m ((tk knd).hash k)) n0->(∀ l,l<n0->∀ b',f (sq m (st m ((tk knd).hash k)) l).j≠some (k,b')) ->
     aF (aR prog w) A (setSearchFrom a (.ref b) ((tk knd).hash k) true F sd) Q E s:=by
 intro d
 induction d using Nat.strongRecOn with
 | ind d ih =>
   intro n0 F sd ed hn0 hF esd no;obtain ⟨F,rfl⟩:∃ F',F=F'+1:=⟨F-1,by omega⟩;have S:∀ n,sq m (sq m (st m ((tk knd).hash k)) n0) n=sq m (st m ((tk knd).hash k)) (n0+n):=λn=>(Ey _ _ _ _).symm
   have IN:∀ n,(sq m (st m ((tk knd).hash k)) n).j<=m:=JB m _;unfold setSearchFrom;refine aA (Af ho hd T.fits ?_);dsimp only;rw [aV (by unfold SetTable.gaveWay; rw [T.mask]; have:=T.odd; simp [this])]
   have pe:=aiA (t:=t) (f:=f) (h:=(tk knd).hash k) (p:=sq m (st m ((tk knd).hash k)) n0) (hashAt:=λi=>(es[i]?.map (·.1)).getD 0) T.mask T.place T.dum (λn=>by rw [S]; exact IN _) (10 * wW m) (N-n0) (by omega)
     (by rw [S,show n0+(N-n0)=N by omega]; exact eN) (λl hl=>by rw [S]; exact aN _ (by omega))
   have hsh:∀ n,n<N->∃ x,f (sq m (st m ((tk knd).hash k)) n).j=some x/\es[(lo f (sq m (st m ((tk knd).hash k)) n).j).length]?=some (ent (tk knd).hash x):=λn hn=>by
     obtain ⟨x,ex⟩:=aN n hn
     have z:(lo f (sq m (st m ((tk knd).hash k)) n).j).length=(lo (λj=>(f j).map (ent (tk knd).hash)) (sq m (st m ((tk knd).hash k)) n).j).length:=by
       unfold lo; rw [<- Lz,aU]
     exact ⟨x,ex,by rw [z]; exact ajT T.ents (IN n) (by rw [ex]; rfl)⟩
   have nok:∀ n,n<N->(es[(lo f (sq m (st m ((tk knd).hash k)) n).j).length]?.map (·.1)).getD 0≠(tk knd).hash k->∀ b',f (sq m (st m ((tk knd).hash k)) n).j≠some (k,b'):=λn hn z b' e=>by
     obtain ⟨x,ex,ee⟩:=hsh n hn;rw [e] at ex; cases ex;rw [ee] at z;exact z rfl
   rw [show (sd.getD (t.probeStart ((tk knd).hash k)))=sq m (st m ((tk knd).hash k)) n0 from by rw [aiX,T.mask]; exact esd];rcases pe with ⟨p1,p2⟩ | ⟨n,hn,p1,p2,p3⟩
   . have p1':t.probe (λi=>(es[i]?.map (·.1)).getD 0) ((tk knd).hash k) (sq m (st m ((tk knd).hash k)) n0)=some (.empty (sq m (st m ((tk knd).hash k)) N).j none):=by
       unfold af8;rw [T.mask,p1,S,show n0+(N-n0)=N by omega,aaB]
     erw [p1'];refine aO (h2 λj b' hj e=>?_);obtain ⟨l,hl,el⟩:=T.found hj e eN;rcases qO l n0 with z | z
     . exact no l z b' el
     . have q:=p2 (l-n0) (by omega);rw [S,show n0+(l-n0)=l by omega] at q;exact nok l hl q b' el
   . have p1':t.probe (λi=>(es[i]?.map (·.1)).getD 0) ((tk knd).hash k) (sq m (st m ((tk knd).hash k)) n0)=some (.candidate (sq m (st m ((tk knd).hash k)) (n0+n)).j (lo f (sq m (st m ((tk knd).hash k)) (n0+n)).j).length (sq m (st m ((tk knd).hash k)) (n0+n+1))):=by
       unfold af8;rw [T.mask,p1,S,S];rfl
     erw [p1'];dsimp only;obtain ⟨x,ex,ee⟩:=hsh (n0+n) (by omega);obtain ⟨k',b'⟩:=x;have hk':=hf _ _ (IN _) ex
     have rest:aF (aR prog w) A (match es[(lo f (sq m (st m ((tk knd).hash k)) (n0+n)).j).length]? with
         | some (_,y)=>do
           let equal <- holding [y] (eqBool y (bI b))
           let (es',_,t') <- setState a
           if (true && equal)=true then pure (Nu none) else
             match t'.sameMemory t.moves t.mask with
             | some ao8 =>
               match if ao8=true then t'.slot (sq m (st m ((tk knd).hash k)) (n0+n)).j else SetTable.Slot.empty with
               | .live i' =>
                 match es'[i']? with
                 | some (_,y')=>do
                   let __do_lift <- isSame y' y
                   let still <- pure (if __do_lift=true then some i' else none)
                   match still with
                   | none=>do
                     rule "set.search.anew"
                     setSearchFrom a (bI b) ((tk knd).hash k) true F none
                   | some i'=>if equal=true then pure (Nu (some i')) else setSearchFrom a (bI b) ((tk knd).hash k) true F (some (sq m (st m ((tk knd).hash k)) (n0+n+1)))
                 | none=>do
                   let still <- pure none
                   match still with
                   | none=>do
                     rule "set.search.anew"
                     setSearchFrom a (bI b) ((tk knd).hash k) true F none
                   | some i'=>if equal=true then pure (Nu (some i')) else setSearchFrom a (bI b) ((tk knd).hash k) true F (some (sq m (st m ((tk knd).hash k)) (n0+n+1)))
               | _=>do
                 let still <- pure none
                 match still with
                 | none=>do
                   rule "set.search.anew"
                   setSearchFrom a (bI b) ((tk knd).hash k) true F none
                 | some i'=>if equal=true then pure (Nu (some i')) else setSearchFrom a (bI b) ((tk knd).hash k) true F (some (sq m (st m ((tk knd).hash k)) (n0+n+1)))
             | _=>unsupported "set.changed-during-lookup:is-the-new-block-at-the-old-address"
         | _=>unsupported "internal:set-entry") Q E s:=by
       rw [ee];dsimp only [ent];refine aA (iR ((tk knd).eqBool hr hk' hk ?_));refine aA (Af ho hd T.fits ?_);dsimp only;by_cases e:k'=k
       . rw [bh (by rw [fj e]; rfl)];exact aO (h1 ⟨_,b',IN _,by rw [ex,e]⟩)
       . rw [aV (by rw [iD e]; decide)];rw [show t.sameMemory t.moves t.mask=some true from by unfold SetTable.sameMemory; simp];dsimp only;rw [bh rfl,acg T.place (IN _) ex];dsimp only;rw [ee];dsimp only [ent];refine aA (wpAny_isSame_ref_self (aA (aO ?_)));rw [bh rfl];dsimp only;rw [aV (by rw [iD e]; decide)];refine ih (N-(n0+n+1)) (by omega) (n0+n+1) F _ rfl (by omega) (by omega) rfl λl hl b2=>?_
         rcases qO l n0 with z | z
         . exact no l z b2
         . rcases qO l (n0+n) with z2 | z2
           . have q:=p3 (l-n0) (by omega);rw [S,show n0+(l-n0)=l by omega] at q;exact nok l (by omega) q b2
           . have:l=n0+n:=by omega
             rw [this,ex];intro q;cases q;exact e rfl
     cases t.led with
     | true=>exact rest
     | false =>
       refine aA (aoe hk (λv hv=>?_) ?_)
       . obtain ⟨e,he,rfl⟩:=cG.mp hv;have he2:e∈es:=(Array.mem_filter.mp (Kz.mp he)).1;have he3:e∈es.toList:=Kz.mpr he2;rw [T.ents] at he3;obtain ⟨j,hj,ej⟩:=Bw.mp he3;obtain ⟨x,ex2,rfl⟩:=Ho.mp ej;exact ⟨x.1,x.2,rfl,hf _ _ hj ex2⟩
       . exact rest
end
end ST
namespace ST
section
variable{prog:dX}{w:cU}{K:Type}[DecidableEq K]{knd:KeyKind prog w K}{A:iw}{E:aB->aH->Prop}{s:aH}
variable{a:au}{Q:Bool->aH->Prop}
theorem apH{k:List K}(hk:qG knd s.heap k a)(h:∀ b,Q b s):aF (aR prog w) A (hashByValue 8 (.ref a)) Q E s:=by have hT:=hk.typeIs;obtain ⟨o,items,n,ho,_,hd,hi⟩:=hk;unfold hashByValue;refine aA (FT hT PySem.F.slot_tuple_hash.lookup ?_);dsimp only;refine aA (ud ho hd ?_);rw [Option.getD_some];refine aA ?_;show aF _ _ (forIn items _ _) _ _ s;rw [<- aeG];refine NK _ (λrest r s'=>s'=s/\∀ v∈rest,carriedByValue v=true) _ ?_ ?_ _ _ ⟨rfl,hi.byValue⟩;rintro v rest r s' ⟨rfl,hall⟩;have e:∃ b,hashByValue 7 v=pure b:=(by have:=hall v dg;unfold hashByValue;cases v <;> first | exact ⟨_,rfl⟩ | cases this);obtain ⟨b,e⟩:=e;rw [e];refine aA (aO ?_);(cases b with| true =>rw [aV (by decide)];exact aO ⟨rfl,λu hu'=>hall u (dD _ hu')⟩| false =>rw [bh (by decide)];exact aO (aO (h _)));rintro ⟨r1,r2⟩ s' ⟨rfl,_⟩;cases r1 with| none=>exact aO (h _)| some b=>exact aO (h _)
def SetT(knd:KeyKind prog w K)(G:List K × au->Prop)(h:bD)(a:au)(ks:List (List K)):Prop:=QX6 λo es ep t m f=>QA9 (h.get? a=some o) (o.ExactSet) (o.data=.set es ep t) (Tb (tk knd).hash m f t es) ((m=7\/m=31\/m=127)) (t.led=!(w.params.followText "set-order")) ((∀ j x,j<=m->f j=some x->qG knd h x.1 x.2/\G x)) (((fm m f).map (·.1)).Perm ks) (ks.Nodup)
variable{G:List K × au->Prop}{h:bD}{ks:List (List K)}
theorem SetT.mono{G':List K × au->Prop}(z:SetT knd G h a ks)(g:∀ x,G x->G' x):SetT knd G' h a ks:=by obtain ⟨o,es,ep,t,m,f,ho,hx,hd,T,hm,hl,hf,r,r'⟩:=z;exact ⟨o,es,ep,t,m,f,ho,hx,hd,T,hm,hl,λj x hj e=>⟨(hf j x hj e).1,g _ (hf j x hj e).2⟩,r,r'⟩
variable{b:au}{o:Obj}
theorem tup_ne{k:List K}(ho:h.get? a=some o)(hx:o.ExactSet)(hk:qG knd h k b):b≠a:=λe=>by
 obtain ⟨o',_,_,ho',hc,_⟩:=hk;subst e;rw [ho] at ho'; cases ho';rw [hx.1] at hc;exact bK (Value.type.inj hc) (by decide)
theorem afd{h':bD}{k:List K}(sb:mD a h h')(n:b≠a)(hk:qG knd h k b):qG knd h' k b:=by obtain ⟨o',its,n',ho',r⟩:=hk;exact ⟨o',its,n',(sb.2 b n).ao ho',r⟩
theorem ad4{es:Array (Int × aB)}{ep:Nat}{t t':oE}(ho:h.get? a=some o)(hd:o.data=.set es ep t): (h.update a (Ly es' t')).get? a=some { o with data:=.set es' (ep+1) t' }/\mD a h (h.update a (Ly es' t')):=by have:=vG (Ly es' t') ho (by rw [putSet_of es' t' hd]; rfl);rw [putSet_of es' t' hd] at this;exact ⟨this,Heap.size_update _ _ _,λb n=>Ef _ _ (gQ n)⟩
theorem an9{k:List K}(hr:A.units<cLine)(Z:SetT knd G s.heap a ks)(hk:qG knd s.heap k b)(nb:G (k,b))(few:ks.length<=60)(q:∀ h' r,mD a s.heap h'->SetT knd G h' a (if k∈ks then ks else ks++[k])->Q r { s with heap:=h' }):aF (aR prog w) A (setAddHashed a (.ref b) ((tk knd).hash k)) Q E s:=by
 obtain ⟨o,es,ep,t,m,f,ho,hx,hd,T,hm,hl,hf,pk,nd⟩:=id Z;unfold setAddHashed setAddHashedIn;refine iR (aA (Af ho hd T.fits ?_));dsimp only;rw [aV (by unfold byScan; simp [Value.scannable])];obtain ⟨N,hN,eN,aN⟩:=T.free ((tk knd).hash k);have IN:=JB m ((tk knd).hash k) N
 have afO:k∈ks↔∃ j b',j<=m/\f j=some (k,b'):=by
   rw [<- pk.mem_iff,cG];constructor
   . rintro ⟨⟨k',b'⟩,hx,rfl⟩;obtain ⟨j,hj,e⟩:=Bw.mp hx;exact ⟨j,b',hj,e⟩
   . rintro ⟨j,b',hj,e⟩;exact ⟨(k,b'),Bw.mpr ⟨j,hj,e⟩,rfl⟩
 unfold setSearch;refine aA (apv hr hk ho hd T (λj x hj e=>(hf j x hj e).1) hN eN aN (λe=>?_) (λne=>?_) N 0 100000 none rfl (cJ _) ?_ rfl (λl hl=>bK hl (ZD _)))
 . have z:=q s.heap false ⟨rfl,λ_ _=>rfl⟩;rw [bh (afO.mpr e)] at z;exact aO (z Z)
 . have nk:k ∉ ks:=λz=>by
     obtain ⟨j,b',hj,e⟩:=afO.mp z;exact ne j b' hj e
   rw [aV nk] at q;dsimp only;refine aA (Af ho hd T.fits ?_);have PP:=aoj T.place T.dum IN eN (k,b);generalize ej:(sq m (st m ((tk knd).hash k)) N).j=j at eN IN PP;rw [PP.1];dsimp only;have bne:b≠a:=tup_ne ho hx hk
   have em:∀ i,(put f j (k,b) i).map (ent (tk knd).hash)=put (λj=>(f j).map (ent (tk knd).hash)) j (ent (tk knd).hash (k,b)) i:=λi=>by
     unfold put; split <;> rfl
   have el:(lo f j).length=(lo (λj=>(f j).map (ent (tk knd).hash)) j).length:=by unfold lo; rw [<- Lz,aU]
   have hx':(lG es (lo f j).length ((tk knd).hash k,bI b)).toList=fm m λi=>(put f j (k,b) i).map (ent (tk knd).hash):=by
     rw [funext em,el];exact aii T.ents IN (by rw [eN]; rfl) _
   have pf:=acf (x:=(k,b)) IN eN;have Km:(fm m (put f j (k,b))).length=(fm m f).length+1:=by rw [pf.length_eq]; rfl
   have Eu:(fm m f).length=ks.length:=by rw [<- pk.length_eq,aU]
   have sz:(lG es (lo f j).length ((tk knd).hash k,bI b)).size=ks.length+1:=by rw [<- iZ,hx',<- Li,aU,Km,Eu]
   have psz:(lG t.place (lo f j).length j).size=ks.length+1:=by rw [<- iZ,PP.2]; exact (Hy _ _).ao (Km.ao (by rw [Eu]))
   have jQ:((fm m (put f j (k,b))).map (·.1)).Perm (ks++[k]):=(pf.map _).ao ((pk.cons k).ao (aeU k ks).symm)
   have nd':(ks++[k]).Nodup:=by
     rw [vA];exact ⟨nd,by simp,λx hx y hy e=>nk (by rw [gY.mp hy] at e; rw [<- e]; exact hx)⟩
   have R':Reach (tk knd).hash m (put f j (k,b)):=T.reach.more eN ej aN
   have hf':∀{h':bD},mD a s.heap h'->∀ i x,i<=m->put f j (k,b) i=some x->qG knd h' x.1 x.2/\G x:=λ{h'} sb i x hi e=>by
     unfold put at e;split at e
     . cases e; exact ⟨afd sb bne hk,nb⟩
     . exact ⟨afd sb (tup_ne ho hx (hf i x hi e).1) (hf i x hi e).1,(hf i x hi e).2⟩
   have fW:=dZ
   have behind:∀ t2:oE,t2.mask=m->t2.dummies=#[]->t2.place=lG t.place (lo f j).length j->t2.led=t.led ->
       aF (aR prog w) A (do
         storeSet a (lG es (lo f j).length ((tk knd).hash k,bI b)) t2
         if (!false && t2.tooFull)=true then do
           setRelay a (Ui (es.size+1))
           pure true
         else pure true) Q E s:=λt2 m2 d2 p2 l2=>by
     refine aA (adA ho hd ?_ (by rw [sz]; omega));obtain ⟨g1,sb1⟩:=ad4 (es':=lG es (lo f j).length ((tk knd).hash k,bI b)) (t':=t2) ho hd;generalize s.heap.update a (Ly (lG es (lo f j).length ((tk knd).hash k,bI b)) t2)=h1 at g1 sb1;have fit:t2.fits (lG es (lo f j).length ((tk knd).hash k,bI b)).size=true:=fits_of d2 (by rw [p2,psz,sz]) (by rw [sz,m2]; have:=T.room; omega)
     have fl:t2.tooFull=decide ((ks.length+1) * 5 ≥ m * 3):=by
       unfold SetTable.tooFull SetTable.fill;rw [p2,psz,d2,m2];rfl
     by_cases tf:(ks.length+1) * 5 ≥ m * 3
     . rw [bh (by rw [fl,fj tf]; rfl)]
       obtain ⟨gq,m',eg,eq,cy,od,le,mm⟩:∃ gq m',Ui (es.size+1)=gq/\SetTable.sizeAbove gq=m'+1/\vM m'=true/\m' % 2=1/\(ks.length+1) * 5<m' * 3/\(m'=31\/m'=127):=by
         have rm:=T.room;rw [Eu] at rm;have es4:es.size=ks.length:=by rw [T.size,Eu]
         rcases hm with e | e | e
         . have k4:ks.length=4:=by omega
           exact ⟨20,31,by rw [es4,k4]; rfl,rfl,ala,rfl,by omega,.inl rfl⟩
         . have k4:ks.length=18:=by omega
           exact ⟨76,127,by rw [es4,k4]; rfl,rfl,alz,rfl,by omega,.inr rfl⟩
         . omega
       refine aA ?_;unfold setRelay;refine aA (Af (s:={ s with heap:=h1 }) g1 rfl fit ?_);dsimp only;rw [eg,eq];rw [aV (by omega)];obtain ⟨t3,ord,f3,e3,l3,_,_,T3,P3⟩:=anF (m:=m') (fg:=t2.finger) (mv:=t2.movedTo m') (led:=t2.led) (plain:=t2.plain) hx' cy od (by rw [Km,Eu]; omega);have er:t2.relaid ((lG es (lo f j).length ((tk knd).hash k,bI b)).map (·.1)) gq=some (t3,ord):=by unfold SetTable.relaid; rw [eq]; exact e3
       have s3:(ord.filterMap ((lG es (lo f j).length ((tk knd).hash k,bI b))[·]?)).size=(lG es (lo f j).length ((tk knd).hash k,bI b)).size:=by rw [T3.size,P3.length_eq,Km,Eu,sz]
       refine aA ?_;rw [er];show aF _ _ (if ((ord.filterMap ((lG es (lo f j).length ((tk knd).hash k,bI b))[·]?)).size != (lG es (lo f j).length ((tk knd).hash k,bI b)).size)=true then _ else _) _ _ _;rw [aV (by rw [s3]; simp)];refine aO ?_;dsimp only;refine adA (s:={ s with heap:=h1 }) g1 rfl (aO ?_) (by rw [s3,sz]; omega);obtain ⟨g2,vp⟩:=ad4 (es':=ord.filterMap ((lG es (lo f j).length ((tk knd).hash k,bI b))[·]?)) (t':=t3) g1 rfl;generalize h1.update a (Ly (ord.filterMap ((lG es (lo f j).length ((tk knd).hash k,bI b))[·]?)) t3)=h2 at g2 vp;have sb:mD a s.heap h2:=⟨vp.1.ao sb1.1,λb n=>(vp.2 b n).ao (sb1.2 b n)⟩;refine q h2 true sb ⟨_,_,_,t3,m',f3,g2,hx,rfl,T3,.inr mm,by rw [l3,l2]; exact hl,λi x hi e=>?_,(P3.map _).ao jQ,nd'⟩;obtain ⟨i',hi',e'⟩:=Bw.mp (P3.mem_iff.mp (Bw.mpr ⟨i,hi,e⟩));exact hf' sb i' x hi' e'
     . rw [aV (by rw [fl,iD tf]; decide)];exact aO (q h1 true sb1 ⟨_,_,_,t2,m,_,g1,hx,rfl,⟨m2,T.cy,T.odd,d2,by rw [p2]; exact PP.2,hx',R',by rw [Km,Eu]; omega⟩,hm,by rw [l2]; exact hl,hf' sb1,jQ,nd'⟩)
   have fin:∀ r:Bool,aF (aR prog w) A (do
         storeSet a (lG es (lo f j).length ((tk knd).hash k,bI b)) (if r=true then { t with place:=lG t.place (lo f j).length j } else { t with place:=lG t.place (lo f j).length j,plain:=false })
         if (!false && (if r=true then { t with place:=lG t.place (lo f j).length j } else { t with place:=lG t.place (lo f j).length j,plain:=false }:oE).tooFull)=true then do
           setRelay a (Ui (es.size+1))
           pure true
         else pure true) Q E s:=λr=>by
     cases r with
     | true=>exact behind _ T.mask T.dum rfl rfl
     | false=>exact behind _ T.mask T.dum rfl rfl
   refine Dd (λ_=>aA (apH hk fin)) (λ_=>aA (aO (fin true)))
 . unfold wW at hN;rcases hm with rfl | rfl | rfl <;> omega
end
end ST
end L2
namespace L2
open PySem PySem.Spec PyProof.Rows
end L2
namespace L2
open PySem PySem.Spec PyProof.Rows PySem.W
def lB(w:cU):Bool:=w.params.followText "set-order"
variable{prog:dX}{w:cU}{A:iw}{E:aB->aH->Prop}{s:aH}
theorem amh(x:aB){Q₁:aB->aH->Prop}(h:Q₁ (.ref s.heap.objs.size) { s with heap:=s.heap.push (kj (!lB w)) }): kI (aR prog w) A (.call (.builtin "set.__new__") ⟨[.type "set",x],[]⟩) (wants Q₁ E) s:=by refine Jr ?_;have h0:=h;show aF _ A.in1 (do checkBuiltinCall "set.__new__" ⟨[.type "set",x],[]⟩; again (.builtin "set.__new__" ⟨[.type "set",x],[]⟩)) _ _ s;refine aA (Fy (PySem.F.newCall_set_1 x) (aO ⟨zK aby _,sZ PySem.F.entry_set_new ?_⟩));rw [yq aby _];unfold jr.«set.__new__»; unfold Builtin.Frozenset.newClass; have hsub:=PySem.sub_set_self;obtain ⟨h1,g1,d1,k1,o1⟩:=s;dsimp only;wp_walk;refine Ra (aO (?_)); dsimp only; simp only [newObj];exact aA (wpAny_alloc (aO (aO h0)))
namespace ST
section
variable{prog:dX}{w:cU}{A:iw}{E:aB->aH->Prop}{s:aH}{ex:List au}
abbrev Qg(prog:dX)(w:cU)(h:bD)(k:List Key)(b:au):Prop:=qG (eU prog w) h k b
def oN(ms:List (List Key × au)):Prop:=∀ l:List (List Key),l.Nodup->(∀ k∈l,k∈ms.map (·.1))->l.length<=60
variable{ms:List (List Key × au)}
theorem oN.mono(f:oN ms)(h:∀ x∈mO,x∈ms):oN mO:=λl nd hl=>f l nd λk hk=>by
 obtain ⟨x,hx,e⟩:=cG.mp (hl k hk);exact cG.mpr ⟨x,h x hx,e⟩
theorem qW{aJ:Type}[DecidableEq aJ]:∀{l U:List aJ},l.Nodup->(∀ k∈l,k∈U)->l.length<=U.length
 | [],_,_,_=>cJ _
 | k :: l,U,nd,h=>by obtain ⟨a,b⟩:=uG.mp nd;have hk:=h k dg;have z:=qW b (U:=U.erase k) λx hx=>(List.mem_erase_of_ne (show x≠k from λe=>a (by rw [<- e]; exact hx))).mpr (h x (dD _ hx));rw [List.length_erase_of_mem hk] at z;have:0<U.length:=List.length_pos_of_mem hk;rw [jY]; omega
theorem oN.of{U:List (List Key)}(h:U.length<=60)(s:∀ x∈ms,x.1∈U):oN ms:=λl nd hl=>gw (qW nd λk hk=>by
 obtain ⟨x,hx,rfl⟩:=cG.mp (hl k hk)
 exact s x hx) h
def qI(prog:dX)(w:cU)(ex:List au)(h:bD)(a:au)(ms:List (List Key × au)):Prop:=∃ ks',SetT (eU prog w) (λx=>x.2 ∉ ex/\x∈ms) h a ks'/\∀ k,k∈ks'↔k∈ms.map (·.1)
variable{h:bD}{a:au}{ks:List (List Key × au)}{wr:List au}
theorem qI.keep{h':bD}(z:qI prog w ex h a ks)(na:a ∉ wr)(sub:∀ b∈wr,b∈ex)(sub':∀ b∈ex',b∈ex)(kk:∀ b o,b ∉ wr->h.get? b=some o->h'.get? b=some o):qI prog w ex' h' a ks:=by obtain ⟨ks',⟨o,es,ep,t,m,f,ho,hx,hd,T,hm,hl,hf,r,rr⟩,r2⟩:=z;refine ⟨ks',⟨o,es,ep,t,m,f,kk a o na ho,hx,hd,T,hm,hl,λj x hj e=>?_,r,rr⟩,r2⟩;obtain ⟨⟨o',its,n',ho',r'⟩,nx,mx⟩:=hf j x hj e;exact ⟨⟨o',its,n',kk _ _ (λz=>nx (sub _ z)) ho',r'⟩,λz=>nx (sub' _ z),mx⟩
theorem qI.nil(ho:h.get? a=some (kj (!lB w))):qI prog w ex h a [] :=
 ⟨[],⟨_,#[],0,_,7,λ_=>none,ho,⟨rfl,rfl,rfl⟩,rfl,⟨rfl,ajG,rfl,rfl,rfl,rfl,(λj x _ e=>by cases e),by decide⟩,.inl rfl,rfl,(λj x _ e=>by cases e),.refl _,.nil⟩,λk=>Iff.rfl⟩
theorem agj{b:au}{k:List Key}{Q:Bool->aH->Prop}(hr:A.units<cLine)(Z:qI prog w ex s.heap a ks)(hk:Qg prog w s.heap k b)(nb:b ∉ ex)(few:oN ks)(q:∀ h' tk r,mD a s.heap h'->s.toks<=tk->qI prog w ex h' a (ks++[(k,b)])->Q r { s with heap:=h',toks:=tk }):aF (aR prog w) A (setAdd a (.ref b)) Q E s:=by obtain ⟨ks',z,mk⟩:=Z;have ln:ks'.length<=60:=(by obtain ⟨_,_,_,_,_,_,_,_,_,_,_,_,_,_,nd⟩:=id z;exact few ks' nd λk hk=>(mk k).mp hk);unfold setAdd;refine iR (aA ((tk (eU prog w)).pyHash hr hk ?_));have z:=z.mono (G':=λx=>x.2 ∉ ex/\x∈ks++[(k,b)]) λx hx=>⟨hx.1,yr _ hx.2⟩;refine an9 (s:={ s with toks:=_ }) hr z hk ⟨nb,jH _ (gY.mpr rfl)⟩ ln λh' r sb z'=>q h' _ r sb (Ao _ _) ⟨_,z',λk2=>?_⟩;rw [dJ,fQ,eV,Gi,gY];split;rename_i hin;rw [mk];exact ⟨.inl,λz=>z.elim id λe=>by rw [e]; exact (mk k).mp hin⟩;rw [fQ,gY,mk]
theorem amQ{R:xO->aH->Prop}{fp:List au}{G:Array GP->Array GP->Prop}{P:Nat->aB->Prop}{St:Nat->aH->Prop}{h0:bD}(hr:A.in1.units<cLine)(W:WalksS prog w A.in1 I fp wr G ks.length P St)(Z:au)(nZ:Z ∉ fp)(isK:∀ i v,P i v->∃ k b,ks[i]?=some (k,b)/\v=.ref b/\b ∉ Z :: wr/\Qg prog w h0 k b)(few:oN ks): ∀(j i:Nat)(s:aH),ks.length-i=j->i<=ks.length->St i s->(∀ b o,b ∉ Z :: wr->h0.get? b=some o->s.heap.get? b=some o)->qI prog w wr s.heap Z (ks.take i) -> (∀ s',Moved (Z :: wr) G s s'->qI prog w wr s'.heap Z ks->R (.ok (.ret .none)) s') -> kI (aR prog w) A (.builtin "set.update.loop" ⟨[.ref Z,.ref I],[]⟩) R s:=by have nW:Z ∉ wr:=λz=>nZ (W.sub _ z);have sub:∀ b∈wr,b∈Z :: wr:=λb z=>dD _ z;intro j;induction j with| zero =>intro i s ej ei st k0 zS out;have ei':i=ks.length:=(by omega);subst ei';refine sZ Ru ?_;rw [yq Ew _];show aF _ A.in1 (pyNext (.ref I) >>= _) _ _ s;refine aA (W.done s _ _ st λs' mv=>?_);show aF _ A.in1 (ret fM) _ _ s';rw [gU] at zS;exact aO (out s' (mv.mono sub) (zS.keep nW (λ_ z=>z) (λ_ z=>z) mv.heap))| succ j ih =>intro i s ej ei st k0 zS out;have lt:i<ks.length:=(by omega);refine sZ Ru ?_;rw [yq Ew _];show aF _ A.in1 (pyNext (.ref I) >>= _) _ _ s;refine aA (W.item i s _ _ lt st λv s' pv st' mv=>?_);obtain ⟨k,b,ek,rfl,nb,o',its,n',ho',r'⟩:=isK i v pv;have nbw:b ∉ wr:=λz=>nb (sub _ z);have zS':=zS.keep (ex':=wr) nW (λ_ z=>z) (λ_ z=>z) mv.heap;show aF _ A.in1 (holding [.ref b] (setAdd Z (.ref b)) >>= _) _ _ s';refine aA (iR (agj hr zS' ⟨o',its,n',mv.heap b _ nbw (k0 b _ nb ho'),r'⟩ nbw (few.mono λx hx=>sX hx) λh2 tk r sb tk1 zS2=>?_));have et:ks.take i++[(k,b)]=ks.take (i+1):=(by rw [dI,ek]; rfl);rw [et] at zS2;refine aO ⟨zK Ew _,ih (i+1) _ (by omega) lt (W.frame _ s' _ _ st' tk1 λc hc o e=>?_) (λc o hc e=>?_) zS2 λs'' mv2 z2=>?_⟩;rw [sb.2 c (λz:c=Z=>nZ (by rw [<- z]; exact hc))]; exact e;show h2.get? c=some o;rw [sb.2 c (λz=>hc (by rw [z]; exact dg))];exact mv.heap c o (λz=>hc (sub _ z)) (k0 c o hc e);refine out s'' (Moved.trans W.gtrans ((mv.mono sub).then_heap tk1 λc o hc e=>?_) mv2) z2;rw [sb.2 c (λz:c=Z=>hc (by rw [z]; exact dg))]; exact e
theorem amy{l:au}{items:Array aB}{Q:aB->aH->Prop}(hh:A.handled=none)(hu:A.units+8<cLine)(hl:s.heap.IsTuple l items)(hz:items.size=ks.length)(isK:∀(i:Nat)(v:aB),items[i]?=some v->∃ k b,ks[i]?=some (k,b)/\v=.ref b/\Qg prog w s.heap k b)(few:oN ks)(h:∀(h':bD)(tk:Nat),qI prog w [] h' s.heap.objs.size ks->(∀ b o,s.heap.get? b=some o->h'.get? b=some o)->Q (.ref s.heap.objs.size) { s with heap:=h',toks:=tk }): aF (aR prog w) A (call (.type "set") [.ref l]) Q E s:=by obtain ⟨cm,tm,hmro⟩:=PySem.F.called_set.mro;have made:=PySem.F.called_set.made;have akB:=PySem.F.called_set.sub;refine Gm (Jr ?_);show aF _ _ (callAny (.type "set") _) _ _ _;refine aO ⟨aai _ (by decide +kernel),sZ ac8 ?_⟩;rw [afj (afK "set" [.ref l] []) rfl];have c1:=PySem.F.called_set.notType;have c2:=PySem.F.called_set.canCreate;have c3:=acw (.ref l);(repeat (any_goals (first | assumption | wp_step)));generalize hN:s.heap.objs.size=N at h;refine uD (amh (.ref l) (E:=E) (Q₁:=λob s1=>ob=.ref s.heap.objs.size/\s1={ s with heap:=s.heap.push (kj (!lB w)) }) ⟨rfl,rfl⟩) λr s1 hr=>?_;cases r with| error e=>exact hr| ok fl =>cases fl with| ret ob =>obtain ⟨rfl,rfl⟩:=hr;have gS:(s.heap.push (kj (!lB w))).get? s.heap.objs.size=some (kj (!lB w)):=fU _ rfl;have hT:QC { s with heap:=s.heap.push (kj (!lB w)) } (.ref s.heap.objs.size) "set":=⟨_,gS,rfl⟩;have li:=PySem.F.called_set.init.lookup;have bi:=PySem.F.called_set.init.bind (.ref s.heap.objs.size);(repeat (any_goals (first | assumption | wp_step)));refine uD (O1 (R:=wants (λr s2=>r=.none/\∃ h' tk,s2={ s with heap:=h',toks:=tk }/\qI prog w [] h' s.heap.objs.size ks/\(∀ b o,s.heap.get? b=some o->h'.get? b=some o)) E) PySem.F.called_set.init.plain aeE (check_set_init_1 hT ?_)) λr2 s2 hr2=>?_;obtain ⟨ol,gl,cl,nl,dl⟩:=hl;obtain ⟨oc,od,oa,os⟩:=ol;simp only at cl dl;subst cl dl;have gl':(s.heap.push (kj (!lB w))).get? l=some { cls:=.type "tuple",dict:=od,data:=.seq items nl,slots:=os }:=cj _ gl;have t1:=PySem.F.sub_tuple_set;have t2:=PySem.F.sub_tuple_frozenset;have t3:(sG "tuple" == sG "dict")=false:=(by decide);have lst:(s.heap.push (kj (!lB w))).IsTuple l items:=⟨_,gl',rfl,nl,rfl⟩;unfold jr.«set.__init__» noKeywords afC;generalize hPI:pyIter=PI;wp_walk;subst hPI;refine QV lst ?_;refine (aA (Zm ?_));have lS:l<s.heap.objs.size:=bW gl;have h3:A.in1.in1.in1.handled=none:=(by simp [hh]);have sz:(s.heap.push (kj (!lB w))).objs.size=s.heap.objs.size+1:=ql ..;have n1:l≠(s.heap.push (kj (!lB w))).objs.size:=(by rw [sz]; exact dU (BP lS));have n2:s.heap.objs.size ∉ [(s.heap.push (kj (!lB w))).objs.size,l]:=(by rw [sz];intro z;rcases dF.mp z with z | z;exact bK z (dU (Gu _));exact bK (gY.mp z) (yh lS));have W:=(Walks.tuple (prog:=prog) (w:=w) h3 _ l n1 items).toS;rw [hz] at W;refine amQ (h0:=s.heap) ?_ W s.heap.objs.size n2 (λi v e=>?_) few (ks.length-0) 0 _ rfl (cJ _) ⟨⟨_,fU _ rfl,rfl,rfl⟩,?_⟩ (λb o _ e=>cj _ (cj _ e)) ?_ λs' mv z=>?_;simp only [Around.in1_units]; omega;obtain ⟨k,b,e1,e2,tb⟩:=isK i v e;refine ⟨k,b,e1,e2,λz=>?_,tb⟩;have lb:b<s.heap.objs.size:=(by obtain ⟨o',_,_,ho',_⟩:=tb; exact bW ho');rcases dF.mp z with z | z;exact bK z (dU lb);exact bK (gY.mp z) (by rw [sz]; exact dU (BP lb));exact ⟨_,cj _ gl',rfl,nl,rfl⟩;exact qI.nil (cj _ gS);obtain ⟨h',g',d',tk',os'⟩:=s';obtain rfl:g'=s.gens:=mv.gens;obtain rfl:d'=s.drawn:=mv.drawn;obtain rfl:os'=s.os:=mv.os;show aF _ _ _ _ _ _;refine aO ?_;show aF _ _ (ret fM) _ _ _;refine aO ⟨rfl,h',tk',rfl,z.keep (wr:=[]) (λz=>by cases z) (λ_ z=>by cases z) (λ_ z=>by cases z) (λ_ _ _ e=>e),λb o e=>?_⟩;have lb:b<s.heap.objs.size:=bW e;refine mv.heap b o (λz=>?_) (cj _ (cj _ e));rcases dF.mp z with z | z;exact bK z (dU lb);exact bK (gY.mp z) (by rw [sz]; exact dU (BP lb));(cases r2 with| error e=>exact hr2| ok lX =>cases lX with| ret r =>obtain ⟨rfl,h',tk,rfl,zS,kk⟩:=hr2;(repeat (any_goals (first | assumption | wp_step)));subst hN;exact h _ _ zS kk| _=>exact hr2.elim)| _=>exact hr.elim
end
end ST
theorem Df:Slot "set_iterator" "__next__" "set_iterator.__next__":=.of (owner:="set_iterator") (n:="__next__") (by rw [Kv,La]; kernel_rfl) (by decide +kernel) (by decide +kernel) (by decide +kernel) (by first | exact .inl (by decide +kernel) | exact .inr (by decide +kernel)) (by rw [Lp]; kernel_rfl)
theorem abx:Slot "set_iterator" "__iter__" "set_iterator.__iter__":=.of (owner:="set_iterator") (n:="__iter__") (by rw [Kv,La]; kernel_rfl) (by decide +kernel) (by decide +kernel) (by decide +kernel) (by first | exact .inl (by decide +kernel) | exact .inr (by decide +kernel)) (by rw [Lp]; kernel_rfl)
theorem afc:entryFor table "set_iterator.__next__" = some jr.«set_iterator.__next__»:=Ze (by kernel_rfl)
theorem al5:entryFor table "set_iterator.__iter__" = some jr.«dict_keyiterator.__iter__»:=entryFor_alias (id':="dict_keyiterator.__iter__") (by kernel_rfl) rfl (by decide +kernel) (by kernel_rfl)
theorem ao9:entryFor table "set.__iter__" = some jr.«frozenset.__iter__»:=entryFor_alias (id':="frozenset.__iter__") (by kernel_rfl) rfl (by decide +kernel) (by kernel_rfl)
theorem afb:Manifest.owners.lookup (String.ofList ['r','o','t','a','r','e','t','i','_','t','e','s'].reverse)=some Manifest.sig_set_iterator:=by kernel_rfl
theorem agf(a:aB):argsOk "set_iterator.__next__" ⟨[a],[]⟩:=by unfold argsOk; rw [signature?_of (id:="set_iterator.__next__") (n:=['_','_','t','x','e','n','_','_']) (o:=['r','o','t','a','r','e','t','i','_','t','e','s']) (by kernel_rfl) afb]; kernel_rfl
theorem aoK(a:aB):argsOk "set_iterator.__iter__" ⟨[a],[]⟩:=by unfold argsOk; rw [signature?_of (id:="set_iterator.__iter__") (n:=['_','_','r','e','t','i','_','_']) (o:=['r','o','t','a','r','e','t','i','_','t','e','s']) (by kernel_rfl) afb]; kernel_rfl
def DP(w:cU)(a:au)(ep:Nat)(es:Array (Int × aB)):List (Int × aB):=if lB w then (pickOrder (w.params.setOrder a ep) es).toList else es.toList
variable{Q:Bool->aH->Prop}
theorem Qq(q:Q (lB w) s):aF (aR prog w) A setsByText Q E s:=aA (Ra (aO q))
theorem TX{aJ:Type}:∀(l:List aJ)(i:Nat)(h:i<l.length),(l[i] :: l.eraseIdx i).Perm l
 | x :: l,0,_=>.refl _
 | x :: l,i+1,h=>by have h':i<l.length:=(by simpa using h);simp only [List.getElem_cons_succ,List.eraseIdx_cons_succ];exact (List.Perm.swap _ _ _).ao ((TX l i h').cons x)
theorem abp{aJ:Type}(f:Nat->Nat):∀(n k:Nat)(l:List aJ)(out:Array aJ),l.length=n->(RP f n k l out).toList.Perm (out.toList++l)
 | 0,k,l,out,h=>by have e:l=[]:=Bg h;subst e;simp [RP]
 | n+1,k,l,out,h=>by have lt:f k % l.length<l.length:=Ec _ (by omega);unfold RP;rw [cT lt];dsimp only;refine (abp f n (k+1) (l.eraseIdx (f k % l.length)) _ (by rw [af9 lt]; omega)).ao ?_;rw [Array.toList_push,oU];exact List.Perm.append_left _ (TX l _ lt)
variable{a:au}
theorem adG{ep:Nat}{es:Array (Int × aB)}:(DP w a ep es).Perm es.toList:=by unfold DP;split;exact (abp _ es.size 0 es.toList #[] (by simp)).ao (by simp);exact .refl _
theorem ahy:typeLookup (.type "set") "__len__" = pure (some (.builtin "set.__len__")):=by rw [Kv,La]; kernel_rfl
theorem ako{r:au}(hT:s.TypeIs (.ref r) "set")(q:Q false s):aF (aR prog w) A (aaA (.ref r)) Q E s:=by unfold aaA;refine aA (FT hT ahy ?_);generalize hid:("set.__len__" : String)=idS;wp_delta;rw [show splitId idS=some ("set","__len__") from by subst hid; decide +kernel];subst hid;refine aA (K7 (T:="set") (b:=true) hT (by rw [Lp]; kernel_rfl) ?_);refine Dd (λz=>bK z (by decide)) (λ_=>?_);refine Dd (λ_=>?_) (λz=>bK (by decide +kernel) z);exact aA (Ab hT (aO q))
namespace ST
variable{aJ:Type}
theorem aly(f:Nat->Option aJ)(m:Nat):(fm m (jf f)).Pairwise (·<·):=by have e:fm m (jf f)=(cY (m+1)).filter λj=>(f j).isSome:=(by unfold fm;generalize cY (m+1)=l;induction l with| nil=>rfl| cons j l ih =>have eo:jf f j=if (f j).isSome then some j else none:=rfl;rw [uh,Kw,eo];cases f j with| none=>exact ih| some _=>show j :: _=j :: _; rw [ih]);rw [e];exact List.pairwise_lt_range.filter _
section
variable{prog:dX}{w:cU}{A:iw}{E:aB->aH->Prop}{s:aH}{a it:au}{o:Obj}{es:Array (Int × aB)}{ep:Nat}{t:oE}
theorem abI{aJ:Type}:∀(n:Nat)(xs:List aJ)(s:aH)(Q:List aJ->aH->Prop),xs.length=n->(∀ ys d,ys.Perm xs->Q ys { s with drawn:=d })->aF (aR prog w) A (drawOrder n xs) Q E s
 | 0,xs,s,Q,h,q=>by have e:xs=[]:=Bg h;subst e;unfold drawOrder;exact aO (q [] s.drawn (.refl _))
 | n+1,[],s,Q,h,q=>by cases h
 | n+1,x :: xs,s,Q,h,q=>by
   unfold drawOrder;refine aA ?_;intro Γ p hΓ;show Sem.wp _ _ (.choose _ _ _) _ _ _ _;rw [Sem.wp_choose];refine ⟨by simp,?_⟩;have lt:(aR prog w).w.draws Jf (s.drawn.get Jf) % (x :: xs).length<(x :: xs).length:=Ec _ (by simp);generalize (aR prog w).w.draws Jf (s.drawn.get Jf) % (x :: xs).length=i at lt
   have body:aF (aR prog w) A (match (x :: xs)[i]? with
       | some y=>do return y :: (<- drawOrder n ((x :: xs).eraseIdx i))
       | none=>unsupported "internal:drawOrder") Q E { s with drawn:=s.drawn.bump Jf }:=by
     rw [cT lt];dsimp only;refine aA (abI n _ _ _ (by rw [af9 lt]; omega) λys d hp=>aO ?_);exact q _ d ((hp.cons _).ao (TX _ _ lt))
   exact aO (M:=aR prog w) (A:=A) (E:=E) (Q:=λi s'=>aF (aR prog w) A (match (x :: xs)[i]? with | some y=>(do return y :: (<- drawOrder n ((x :: xs).eraseIdx i))) | none=>unsupported "internal:drawOrder") Q E s') body Γ p hΓ
def SIt(h:bD)(it:au)(x:aB)(a:au)(i n ep:Nat):Prop:=h.get? it=some { cls:=.type "set_iterator",data:=.fields #[x,.int i 0,.ref a,.int n 0,.int ep 0] }
def tW(w:cU)(t:oE)(i:Nat):Nat:=if lB w then 0 else if i=0 then 0 else t.place.getD (i-1) 0+1
def Still(w:cU)(t:oE)(n:Nat):Prop:=lB w=true\/(lB w=false/\t.led=true/\(t.plain=true\/n<=1))
variable{i:Nat}
theorem below_at(hp:t.place.toList.Pairwise (·<·))(hi:i<=t.place.size):O7 t.place (if i=0 then 0 else t.place.getD (i-1) 0+1)=i:=by
 have len:t.place.toList.length=t.place.size:=iZ ..;have e:=below_app (xs:=t.place) (l1:=t.place.toList.take i) (l2:=t.place.toList.drop i) (j:=if i=0 then 0 else t.place.getD (i-1) 0+1) ?_ ?_ (Eh i _).symm
 . rw [e,eY]; omega
 all_goals
   by_cases z:i=0
   . subst z;intro x hx;first | (cases hx; done) | exact cJ _
   . rw [aV z]
     have g:t.place.getD (i-1) 0=t.place.toList[i-1]'(by omega):=by
       rw [wU,<- uW,cT (by omega)]; rfl
     rw [g];intro x hx;first
     | (obtain ⟨l,hl,rfl⟩:=Im.mp hx
        rw [eY] at hl;rw [Lr];rcases qO l (i-1) with q | q
        . have:=Wf.mp hp l (i-1) (by omega) (by omega) q;omega
        . have:l=i-1:=by omega
          subst this
          exact Gu _)
     | (obtain ⟨l,hl,rfl⟩:=Im.mp hx
        rw [pJ] at hl;rw [List.getElem_drop]
        exact Wf.mp hp (i-1) (i+l) (by omega) (by omega) (by omega))
theorem adw(ho:s.heap.get? a=some o)(hd:o.data=.set es ep t)(hf:t.fits es.size=true)(hp:t.place.toList.Pairwise (·<·))(S:Still w t es.size)(hi:i<=es.size)(R:Option (aB × Nat)->aH->Prop)(r:R (((DP w a ep es)[i]?).map λv=>(v.2,tW w t (i+1))) s):aF (aR prog w) A (setNext a (tW w t i) i ep) R E s:=by have psz:t.place.size=es.size:=(by have:=hf;unfold SetTable.fits at this;exact beq_iff_eq.mp (pU.mp this).1);unfold setNext;refine aA (Af ho hd hf ?_);refine aA (Qq ?_);unfold DP tW at r;unfold tW;rcases S with hb | ⟨hb,hl,hn⟩;rw [hb,bh rfl] at r;rw [hb,bh rfl];show aF _ _ (if (ep != ep)=true then _ else _) _ _ _;rw [aV (by simp)];refine aA ?_;unfold setWalk;refine aA (Af ho hd hf ?_);refine aA (Qq ?_);rw [hb,bh rfl];refine aA (Ra (aO (aO ?_)));have z:R (Option.map (λv=>(v.snd,0)) (pickOrder (w.params.setOrder a ep) es)[i]?) s:=(by simpa using r);exact z;simp only [hb,Aa,if_false] at r;rw [hb,aV gO];show aF _ _ (if (!t.plain && decide (es.size > 1))=true then _ else _) _ _ _;rw [aV (by rcases hn with z | z; (rw [z]; simp); rw [iD (by omega),aag]; decide)];refine aA ?_;show aF _ _ (if (!t.led && !es.isEmpty)=true then _ else _) _ _ _;rw [aV (by rw [hl]; simp)];refine aO (aO ?_);rw [aV gO,below_at hp (by omega)];by_cases lt:i<es.size;have e1:es[i]?=some es[i]:=HF lt;have e2:t.place[i]?=some (t.place.getD i 0):=(by rw [wU,HF (by omega)]; rfl);rw [e1,e2];rw [uW,e1] at r;simp only [Nat.add_one_ne_zero,if_false,Nat.add_sub_cancel,Fv] at r;exact r;have e1:es[i]?=none:=Td (by omega);rw [e1];rw [uW,e1] at r;exact r
def First(w:cU)(t:oE)(h:bD)(pt:au)(dr:Option (List Nat))(i:Nat)(x:aB):Prop:=match dr with
 | none=>x=.int (tW w t i) 0
 | some l=>x=.ref pt/\h.IsTuple pt (l.map λ(i:Nat)=>xH (i:Int) 0).toArray
def zE(w:cU)(a:au)(ep:Nat)(es:Array (Int × aB)):Option (List Nat)->List (Int × aB)
 | none=>DP w a ep es
 | some l=>l.filterMap (es[·]?)
structure GoS(w:cU)(h:bD)(it pt a:au)(o:Obj)(es:Array (Int × aB))(ep:Nat)(t:oE)(dr:Option (List Nat))(i:Nat):Prop where
 at_:h.get? a=some o
 it_:∃ x,First w t h pt dr i x/\SIt h it x a i es.size ep
variable{pt:au}{dr:Option (List Nat)}
theorem akf{l:List Nat}(hl:l.Perm (cY es.size))(i:Nat):(zE w a ep es (some l))[i]?=(l[i]?).bind λj=>es[j]?:=by show (l.filterMap (λj=>es[j]?))[i]?=_;have all:∀ j∈l,j<es.size:=λj hj=>iJ.mp (hl.mem_iff.mp hj);clear hl;induction l generalizing i with| nil=>rfl| cons j l ih =>have lt:=all j dg;have e:es[j]?=some es[j]:=HF lt;rw [aaE (f:=λj=>es[j]?) e];cases i with| zero=>show some _=es[j]?; rw [e]| succ i=>exact ih i λk hk=>all k (dD _ hk)
structure Facts(w:cU)(o:Obj)(es:Array (Int × aB))(ep:Nat)(t:oE)(dr:Option (List Nat)):Prop where
 d:o.data=.set es ep t
 f:t.fits es.size=true
 p:t.place.toList.Pairwise (·<·)
 s:dr=none->Still w t es.size
 l:∀ l,dr=some l->l.Perm (cY es.size)
variable{Q:Option aB->aH->Prop}
theorem aor(F:Facts w o es ep t dr)(K:GoS w s.heap it pt a o es ep t dr i)(hi:i<es.size){v:Int × aB}(hv:(zE w a ep es dr)[i]?=some v)(na:a≠it)(np:pt≠it)(q:∀ h',GoS w h' it pt a o es ep t dr (i+1)->mD it s.heap h'->Q (some v.2) { s with heap:=h' }):aF (aR prog w) A (pyNext (.ref it)) Q E s:=by obtain ⟨ho,x,Fx,K⟩:=K;have hT:s.TypeIs (.ref it) "set_iterator":=⟨_,K,rfl⟩;unfold pyNext;refine aA (BJ (wg (name:=wD "__next__") hT Df (m5 Df hT afc ?_ (agf _))));unfold jr.«set_iterator.__next__»;refine aA (aO ?_);refine aA (Rb K rfl ?_);show aF _ _ (setEntries a >>= _) _ _ _;refine aA (Ve ho F.d F.f ?_);rw [aV (by simp)];cases dr with| none =>obtain rfl:x=.int (tW w t i) 0:=Fx;show aF _ _ (setNext a (tW w t i:Int).toNat (i:Int).toNat (ep:Int).toNat >>= _) _ _ _;rw [rT,rT,rT];refine aA (adw ho F.d F.f F.p (F.s rfl) (tH hi) _ ?_);rw [show (DP w a ep es)[i]?=some v from hv];dsimp only [Fv];refine aA (uK K rfl (by simp) ?_);have K1:=vG (tQ (·.setIfInBounds 0 (rawInt (tW w t (i+1):Int)))) K rfl;refine aA (uK K1 rfl (by simp [tQ]) ?_);have K2:=vG (tQ (·.setIfInBounds 1 (rawInt ((i:Int)+1)))) K1 rfl;have sb:=((rQ s.heap it (tQ (·.setIfInBounds 0 (rawInt (tW w t (i+1):Int))))).ao (rQ _ it (tQ (·.setIfInBounds 1 (rawInt ((i:Int)+1))))));exact aO ⟨_,rfl,aO (q _ ⟨(sb.2 a na).ao ho,_,rfl,K2⟩ sb)⟩| some l =>obtain ⟨rfl,ht⟩:=Fx;obtain ⟨op,gp,cp,np',dp⟩:=ht;have z:=akf (w:=w) (a:=a) (ep:=ep) (F.l l rfl) i;rw [hv] at z;obtain ⟨j,ej,ev⟩:=Option.bind_eq_some_iff.mp z.symm;show aF _ _ (seqItems? (.ref pt) >>= _) _ _ _;refine aA (ud gp dp ?_);dsimp only;rw [rT,show ((l.map λ(i:Nat)=>xH (i:Int) 0).toArray)[i]?=some (xH (j:Int) 0) from by rw [Yy,cX,ej]; rfl];dsimp only;refine aA ?_;unfold setNextDrawn;refine aA (Af ho F.d F.f ?_);dsimp only;rw [aV (by simp)];rw [rT,ev];refine aO ?_;refine aA (uK K rfl (by simp) ?_);have K2:=vG (tQ (·.setIfInBounds 1 (rawInt ((i:Int)+1)))) K rfl;have sb:=rQ s.heap it (tQ (·.setIfInBounds 1 (rawInt ((i:Int)+1))));exact aO ⟨_,rfl,aO (q _ ⟨(sb.2 a na).ao ho,_,⟨rfl,⟨op,(sb.2 pt np).ao gp,cp,np',dp⟩⟩,K2⟩ sb)⟩
theorem endP(hh:A.handled=none)(F:Facts w o es ep t dr)(K:GoS w s.heap it pt a o es ep t dr es.size)(q:∀ h',Vs it s.heap h'->Q none { s with heap:=h' }):aF (aR prog w) A (pyNext (.ref it)) Q E s:=by obtain ⟨ho,x,Fx,K⟩:=K;have hT:s.TypeIs (.ref it) "set_iterator":=⟨_,K,rfl⟩;unfold pyNext;refine aA (BJ (wg (name:=wD "__next__") hT Df (m5 Df hT afc ?_ (agf _))));unfold jr.«set_iterator.__next__»;refine aA (aO ?_);refine aA (Rb K rfl ?_);show aF _ _ (setEntries a >>= _) _ _ _;refine aA (Ve ho F.d F.f ?_);rw [aV (by simp)];cases dr with| none =>obtain rfl:x=.int (tW w t es.size) 0:=Fx;show aF _ _ (setNext a (tW w t es.size:Int).toNat (es.size:Int).toNat (ep:Int).toNat >>= _) _ _ _;rw [rT,rT,rT];refine aA (adw ho F.d F.f F.p (F.s rfl) (bB _) _ ?_);rw [show (DP w a ep es)[es.size]?=none from yd (by rw [adG.length_eq,iZ]; exact bB _)];dsimp only [Option.map_none];refine aA (uK K rfl (by simp) ?_);show aF _ _ (newExc (.type "StopIteration") [] >>= _) _ _ _;refine aA ?_;simp only [newExc,newTuple];refine aA (jT ?_ (by size_fits));refine aA (m:=firstArgMember _ _) (Fy (a:=fM) (by first | rfl | (simp only [firstArgMember]; rfl)) (jT ?_ (by size_fits)));simp only [raiseNew];refine aA (Qx ?_);rw [show A.in1.handled=none from hh];refine (aA (aO (Jt ?_)));refine (aA (K7 (T:="StopIteration") (b:=true) ⟨_,fU _ rfl,rfl⟩ QG ?_));exact aO (q _ (((rQ ..).extBut.push _).push _))| some l =>obtain ⟨rfl,ht⟩:=Fx;obtain ⟨op,gp,cp,np',dp⟩:=ht;show aF _ _ (seqItems? (.ref pt) >>= _) _ _ _;refine aA (ud gp dp ?_);dsimp only;have ll:l.length=es.size:=(by rw [(F.l l rfl).length_eq,rK]);rw [rT,show ((l.map λ(i:Nat)=>xH (i:Int) 0).toArray)[es.size]?=none from by rw [Yy,cX,yd (by omega)]; rfl];dsimp only;refine aA (uK K rfl (by simp) ?_);have K1:=vG (tQ (·.setIfInBounds 0 (rawInt 0))) K rfl;refine aA (uK K1 rfl (by simp [tQ]) ?_);show aF _ _ (newExc (.type "StopIteration") [] >>= _) _ _ _;refine aA ?_;simp only [newExc,newTuple];refine aA (jT ?_ (by size_fits));refine aA (m:=firstArgMember _ _) (Fy (a:=fM) (by first | rfl | (simp only [firstArgMember]; rfl)) (jT ?_ (by size_fits)));simp only [raiseNew];refine aA (Qx ?_);rw [show A.in1.handled=none from hh];refine (aA (aO (Jt ?_)));refine (aA (K7 (T:="StopIteration") (b:=true) ⟨_,fU _ rfl,rfl⟩ QG ?_));exact aO (q _ ((((rQ ..).ao (rQ ..)).extBut.push _).push _))
theorem ajH{Q:aB->aH->Prop}{K:Type}[DecidableEq K]{hs:K->Int}{m:Nat}{f:Nat->Option (K × au)}(ho:s.heap.get? a=some o)(hx:o.ExactSet)(hd:o.data=.set es ep t)(T:Tb hs m f t es)(hl:t.led=!lB w)(hn:es.size<=aL)(q:∀ h' I pt d dr,(∀ b o,s.heap.get? b=some o->h'.get? b=some o)->s.heap.objs.size<=I->s.heap.objs.size<=pt->pt≠I->Facts w o es ep t dr->GoS w h' I pt a o es ep t dr 0->Q (.ref I) { s with heap:=h',drawn:=d }):aF (aR prog w) A (pyIter (.ref a)) Q E s:=by have hT:s.TypeIs (.ref a) "set":=⟨o,ho,hx.1⟩;have hf:=T.fits;have hp:t.place.toList.Pairwise (·<·):=(by rw [T.place]; exact aly f m);have la:a<s.heap.objs.size:=bW ho;refine Wv hT abL (m5 abL hT ao9 ?_ (PySem.F.args_set_iter_1 _));unfold jr.«frozenset.__iter__» Builtin.Frozenset.slot0;refine aA (aA (aO ?_));refine aO ?_;refine aA ?_;unfold Builtin.Frozenset.sizeOf;refine aA (Ve ho hd hf (aO ?_));refine aA (aA (Af ho hd hf ?_));refine aA (Qq ?_);show aF _ _ (pure (!lB w && (!t.plain && decide (es.size > 1)))) _ _ _;refine aO ?_;cases hb:(!lB w && (!t.plain && decide (es.size > 1))) with| false =>rw [aV gO];refine aA (aO ?_);refine aA (ab6 ho hd hf ?_);refine aA (jT (aO ⟨_,rfl,"set_iterator",_,⟨_,fU _ rfl,rfl⟩,Df.lookup,?_⟩));have S:Still w t es.size:=(by cases b1:lB w with| true=>exact .inl b1| false =>refine .inr ⟨b1,by rw [hl,b1]; rfl,?_⟩;rw [b1] at hb;cases b2:t.plain with| true=>exact .inl rfl| false =>rw [b2] at hb;exact .inr (VP (of_decide_eq_false hb)));refine q _ s.heap.objs.size (s.heap.objs.size+1) s.drawn none (λb o e=>cj _ e) (bB _) (Qj _) (Nat.succ_ne_self _) ⟨hd,hf,hp,λ_=>S,λl e=>by cases e⟩ ⟨cj _ ho,_,rfl,?_⟩;have e:tW w t 0=0:=(by unfold tW; split <;> rfl);rw [e];exact fU _ rfl| true =>rw [bh rfl];refine aA (abI _ _ _ _ (rK ..) λl d hp2=>?_);have ll:l.length=es.size:=(by rw [hp2.length_eq,rK]);unfold newTuple;refine aA (jT ?_ (by show (l.map _).toArray.size<=aL; rw [gH,aU,ll]; exact hn));have ho2:=cj (h:=s.heap) { cls:=.type "tuple",data:=.seq (l.map λ(i:Nat)=>rawInt i).toArray } ho;refine aA (ab6 (s:=⟨_,_,_,_,_⟩) ho2 hd hf ?_);refine aA (jT (aO ⟨_,rfl,"set_iterator",_,⟨_,fU _ rfl,rfl⟩,Df.lookup,?_⟩));have sz:(s.heap.push { cls:=.type "tuple",data:=.seq (l.map λ(i:Nat)=>rawInt i).toArray }).objs.size=s.heap.objs.size+1:=ql ..;refine q _ _ s.heap.objs.size d (some l) (λb o e=>cj _ (cj _ e)) (by rw [sz]; exact Qj _) (bB _) (by rw [sz]; exact dU (Gu _)) ⟨hd,hf,hp,(λe=>by cases e),(λl' e=>by cases e; exact hp2)⟩ ⟨cj _ ho2,_,⟨rfl,⟨_,cj _ (fU _ rfl),rfl,_,rfl⟩⟩,fU _ rfl⟩
theorem V5(F:Facts w o es ep t dr):(zE w a ep es dr).Perm es.toList:=by cases dr with| none=>exact adG| some l =>refine ((F.l l rfl).filterMap _).ao ?_;rw [filterMap_getElem?_range]
theorem ahN(hh:A.handled=none)(F:Facts w o es ep t dr)(na:a≠I)(np:pt≠I):Walks prog w A I [I,a,pt] [I] es.size (λi v=>∃ e,(zE w a ep es dr)[i]?=some e/\v=e.2) (λi h=>GoS w h I pt a o es ep t dr i) where
 sub:=λb hb=>by rw [gY.mp hb]; exact dg
 frame:=λi h h' g k=>by
   obtain ⟨ho,x,Fx,K⟩:=g;refine ⟨k a (by simp) _ ho,x,?_,k I (by simp) _ K⟩;cases dr with
   | none=>exact Fx
   | some l =>
     obtain ⟨e,op,gp,r⟩:=Fx;exact ⟨e,op,k pt (by simp) _ gp,r⟩
 item:=λi s Q E hi g q=>by
   have lt:i<(zE w a ep es dr).length:=by rw [(V5 F).length_eq,iZ]; exact hi
   exact aor F g hi (cT lt) na np λh' g' sb=>q _ h' s.toks ⟨_,cT lt,rfl⟩ g' λb o hb e=>(sb.2 b (by simpa using hb)).ao e
 done:=λs Q E g q=>endP hh F g λh' eb=>q h' s.toks λb o hb e=>eb b o (by simpa using hb) e
 self:=λi s Q E g q=>by
   obtain ⟨_,x,_,K⟩:=g;have hT:s.TypeIs (.ref I) "set_iterator":=⟨_,K,rfl⟩;refine Wv hT abx (m5 abx hT al5 ?_ (aoK _));show aF _ _ (ret (.ref I)) _ _ s;exact aO ⟨_,rfl,"set_iterator",_,hT,Df.lookup,q⟩
theorem apK{R:List aB->aH->Prop}{K:Type}[DecidableEq K]{hs:K->Int}{m:Nat}{f:Nat->Option (K × au)}(hh:A.handled=none)(ho:s.heap.get? a=some o)(hx:o.ExactSet)(hd:o.data=.set es ep t)(T:Tb hs m f t es)(hl:t.led=!lB w)(hn:es.size<=aL)(h:∀(h':bD)(tk:Nat)(d:Drawn)(l:List (Int × aB)),(∀ b o,s.heap.get? b=some o->h'.get? b=some o)->l.Perm es.toList->R (l.map (·.2)) { s with heap:=h',toks:=tk,drawn:=d }): aF (aR prog w) A (collect (.ref a)) R E s:=by have la:a<s.heap.objs.size:=bW ho;unfold collect;refine aA (Zm (sZ entry_proto_collect' ?_));rw [yq PySem.F.plain_proto_collect _];show aF _ A.in1 (newList [] >>= λl=>again (.builtin "list.__iadd__" ⟨[l,.ref a],[]⟩)) _ _ s;refine aA (jT ?_);refine aO ⟨zK aaP _,sZ entry_list_iadd' ?_⟩;rw [yq aaP _];have hS₁:(s.heap.push { cls:=.type "list",data:=.seq ([]:List aB).toArray }).get? s.heap.objs.size=some { cls:=.type "list",data:=.seq #[] }:=fU _ rfl;have k1:∀ b o,s.heap.get? b=some o->(s.heap.push { cls:=.type "list",data:=.seq ([]:List aB).toArray }).get? b=some o:=λb o e=>cj _ e;have hz:(s.heap.push { cls:=.type "list",data:=.seq ([]:List aB).toArray }).objs.size=s.heap.objs.size+1:=ql ..;generalize s.heap.push { cls:=.type "list",data:=.seq ([]:List aB).toArray }=hS at hS₁ k1 hz;show aF _ A.in1 (afN (.ref s.heap.objs.size) (.ref a) (.ref s.heap.objs.size)) _ _ _;unfold afN;have hT:QC { s with heap:=hS } (.ref a) "set":=⟨o,k1 a o ho,hx.1⟩;refine aA (Ab hT ?_);have e1:abw (.ref s.heap.objs.size) (.ref a)=false:=(by simp [abw,yh la]);simp only [e1,show (sG "set" == sG "list")=false from rfl,show (sG "set" == sG "tuple")=false from rfl,M8,Aa,if_false];refine aA (ajH (s:={ s with heap:=hS }) (k1 a o ho) hx hd T hl hn λh2 I pt d dr k2 i1 i2 ne F g=>?_);have i1:s.heap.objs.size<I:=kO (by rw [hz]; exact Gu _) i1;have i2:s.heap.objs.size<pt:=kO (by rw [hz]; exact Gu _) i2;have hI:a≠I:=dU (RG la i1);have W:=ahN (prog:=prog) (A:=A.in1) (by simpa using hh) F hI ne;have nS:s.heap.objs.size ∉ [I,a,pt]:=λz=>(by simp only [dF,pL,or_false] at z;rcases z with z | z | z;exact bK z (dU i1);exact bK z (yh la);exact bK z (dU i2));have key:∀(h3:bD)(c₁:Nat),GoS w h3 I pt a o es ep t dr 0->(∀ b o,b≠s.heap.objs.size->hS.get? b=some o->h3.get? b=some o)->h3.get? s.heap.objs.size=some { cls:=.type "list",data:=.seq #[] c₁ } -> kI (aR prog w) A (.builtin "list.extend.loop" ⟨[.ref s.heap.objs.size,.ref I,.ref s.heap.objs.size],[]⟩) (λq s'=>∃(h':bD)(tk:Nat)(l:List (Int × aB))(c':Nat),q=.ok (.ret (.ref s.heap.objs.size))/\s'={ s with heap:=h',toks:=tk,drawn:=d } /\ (∀ b o,s.heap.get? b=some o->h'.get? b=some o)/\h'.get? s.heap.objs.size=some { cls:=.type "list",dict:=none,data:=.seq (l.map (·.2)).toArray c',slots:=#[] }/\l.Perm es.toList) { s with heap:=h3,drawn:=d }:=λh3 c₁ g3 k3 gS=>(by refine codeAny_extend_loopS W.toS hn s.heap.objs.size nS _ es.size 0 _ #[] c₁ rfl (cJ _) g3 gS (ItemsOf.nil _) λs' acc' c' hm hS' hacc=>?_;rw [Moved.eq_with hm];refine ⟨s'.heap,s'.toks,zE w a ep es dr,c',rfl,rfl,λb o e=>?_,?_,V5 F⟩;have lb:b<s.heap.objs.size:=bW e;refine hm.heap b o (λz=>?_) (k3 b o (dU lb) (k1 b o e));rcases dF.mp z with z | z;exact bK z (dU lb);exact bK (gY.mp z) (dU (RG lb i1));have ea:acc'=((zE w a ep es dr).map (·.2)).toArray:=(by have len:(zE w a ep es dr).length=es.size:=(by rw [(V5 F).length_eq,iZ]);refine Array.ext (by rw [hacc.1]; simp [len]) λi h1 h2=>?_;obtain ⟨e,e1,e2⟩:=hacc.2 i acc'[i] (HF h1);have lt:i<(zE w a ep es dr).length:=(by rw [len,<- hacc.1]; exact h1);rw [cT lt] at e1;simp only [List.getElem_toArray,List.getElem_map];rw [jK e1]; exact e2);rw [<- ea]; exact hS');have hT2:QC { s with heap:=h2,drawn:=d } (.ref a) "set":=⟨o,k2 a o (k1 a o ho),hx.1⟩;refine aA (iR (ako hT2 ?_));have k2':∀ b o,b≠s.heap.objs.size->hS.get? b=some o->h2.get? b=some o:=λb o _ e=>k2 b o e;have gS:=k2 _ _ hS₁;have fin:∀(h3:bD)(c₁:Nat),GoS w h3 I pt a o es ep t dr 0->(∀ b o,b≠s.heap.objs.size->hS.get? b=some o->h3.get? b=some o)->h3.get? s.heap.objs.size=some { cls:=.type "list",data:=.seq #[] c₁ }->∀{Q':xO->aH->Prop},(∀ h' tk l c',(∀ b o,s.heap.get? b=some o->h'.get? b=some o)->h'.get? s.heap.objs.size=some { cls:=.type "list",dict:=none,data:=.seq ((l:List (Int × aB)).map (·.2)).toArray c',slots:=#[] }->l.Perm es.toList->Q' (.ok (.ret (.ref s.heap.objs.size))) { s with heap:=h',toks:=tk,drawn:=d }) -> kI (aR prog w) A (.builtin "list.extend.loop" ⟨[.ref s.heap.objs.size,.ref I,.ref s.heap.objs.size],[]⟩) Q' { s with heap:=h3,drawn:=d }:=λh3 c₁ g3 k3 gS {Q'} q'=>uD (key h3 c₁ g3 k3 gS) λr s' z=>(by obtain ⟨h',tk,l,c',rfl,rfl,a1,a2,a3⟩:=z;exact q' h' tk l c' a1 a2 a3);refine Dd (λ_=>?_) (λ_=>aO ⟨zK aft _,fin _ _ g k2' gS λh' tk l c' a1 a2 a3=>?_⟩);refine aA (yx ?_);refine aA ?_;show aF _ _ (updateSeq s.heap.objs.size (·.push .none) >>= λ_=>updateSeq s.heap.objs.size (·.pop)) _ _ _;refine aA (wpAny_updateSeq gS rfl ?_);have hS₂:=vG (qH (·.push fM)) gS rfl;refine wpAny_updateSeq (hz:=by seq_fits) hS₂ rfl ?_;have hS₃:=vG (qH (·.pop)) hS₂ rfl;have oth:∀ b o,b≠s.heap.objs.size->h2.get? b=some o->((h2.update s.heap.objs.size (qH (·.push fM))).update s.heap.objs.size (qH (·.pop))).get? b=some o:=λb o hb e=>(Ef _ _ (gQ hb)).ao ((Ef _ _ (gQ hb)).ao e);refine aO ⟨zK aft _,fin _ _ (W.frame 0 _ _ g λb hb o e=>oth b o (λz=>nS (z ▸ hb)) e) (λb o hb e=>oth b o hb (k2' b o hb e)) hS₃ λh' tk l c' a1 a2 a3=>?_⟩;show aF _ A (load s.heap.objs.size >>= _) _ _ _;exact aA (Yo a2 (aO (h h' tk d l a1 a3)));show aF _ A (load s.heap.objs.size >>= _) _ _ _;exact aA (Yo a2 (aO (h h' tk d l a1 a3)))
end
end ST
theorem aoF{aJ bO:Type}{g:aJ->bO}{l m:List bO}(h:l.Perm m):∀ xs:List aJ,m=xs.map g->∃ ys:List aJ,ys.Perm xs/\l=ys.map g:=by induction h with| nil =>intro xs e;have:xs=[]:=(by cases xs with | nil=>rfl | cons _ _=>cases e);exact ⟨[],by rw [this],rfl⟩| cons x _ ih =>intro xs e;(cases xs with| nil=>cases e| cons y xs =>simp only [eV,Pa] at e;obtain ⟨ys,p,rfl⟩:=ih xs e.2;exact ⟨y :: ys,p.cons y,by rw [e.1]; rfl⟩)| swap x y l =>intro xs e;(cases xs with| nil=>cases e| cons a xs =>cases xs with| nil=>cases e| cons b xs =>simp only [eV,Pa] at e;exact ⟨b :: a :: xs,.swap _ _ _,by rw [e.1,e.2.1,e.2.2]; rfl⟩)| trans _ _ ih1 ih2 =>intro xs e;obtain ⟨ys,p,e2⟩:=ih2 xs e;obtain ⟨zs,p2,e3⟩:=ih1 ys e2;exact ⟨zs,p2.ao p,e3⟩
variable{X:Cx}{H:Hp}
theorem Inv.drew{ak:List (au × Obj)}{aj:St}(I:Inv X ak aj H s)(d:Drawn):Inv X ak aj H { s with drawn:=d }:=⟨I.ok,I.os,I.bare,I.base,I.loc,I.cell,I.free,I.oO,I.pin,I.hok,I.len⟩
def zx(P:dX)(w:cU)(a:au)(ms:List (List Key × au))(h:bD):Prop:=QX7 λks' o es ep t m f=>Wg (h.get? a=some o) (o.ExactSet) (o.data=.set es ep t) (ST.Tb (ST.tk (eU P w)).hash m f t es) ((m=7\/m=31\/m=127)) (t.led=!(w.params.followText "set-order")) ((∀ j x,j<=m->f j=some x->x∈ms)) (((ST.fm m f).map (·.1)).Perm ks') (ks'.Nodup) (∀ k,k∈ks'↔k∈ms.map (·.1))
def uX(P:dX)(w:cU)(a:au)(ms:List (List Key × au)):HO:=.ext (zx P w a ms)
variable{P:dX}{ms:List (List Key × au)}{h:bD}
theorem zx.of{ex:List au}(z:ST.qI P w ex h a ms):zx P w a ms h:=by obtain ⟨ks',⟨o,es,ep,t,m,f,ho,hx,hdt,T,hm,hl,hf,pk,nd⟩,mk⟩:=z;exact ⟨ks',o,es,ep,t,m,f,ho,hx,hdt,T,hm,hl,λj x hj e=>(hf j x hj e).2.2,pk,nd,mk⟩
theorem zx.to(z:zx P w a ms h)(tt:∀ x∈ms,ST.Qg P w h x.1 x.2):ST.qI P w [] h a ms:=by obtain ⟨ks',o,es,ep,t,m,f,ho,hx,hdt,T,hm,hl,hf,pk,nd,mk⟩:=z;exact ⟨ks',⟨o,es,ep,t,m,f,ho,hx,hdt,T,hm,hl,λj x hj e=>⟨tt _ (hf j x hj e),by simp,hf j x hj e⟩,pk,nd⟩,mk⟩
theorem YH(z:zx P w a ms h):gV P w H h a (uX P w a ms):=by refine ⟨z,?_,λh1 h2 z k=>?_⟩;obtain ⟨_,o,_,_,_,_,_,e,_⟩:=z;exact ⟨o,e⟩;obtain ⟨ks',o,es,ep,t,m,f,e,r1,r2,r3,r4,r5,r6,r7,r8,r9⟩:=z;exact ⟨ks',o,es,ep,t,m,f,k o e,r1,r2,r3,r4,r5,r6,r7,r8,r9⟩
section
variable{X:Cx}{aJ bO:Type}[DecidableEq aJ][DecidableEq bO][Inhabited aJ][Inhabited bO]{K1:Kd aJ}{K2:Kd bO}
variable{P0:dX}{w0:cU}
theorem Xx(hP:X.prog=P0)(hw:X.w=w0)(hc:X.calm=true){hd:List Key->aJ × bO}:jz X (.builtin "sorted") (λxs H Q=>∃(a:au)(ms:List (List Key × au)),xs=[.ref a]/\H a=some (uX P0 w0 a ms)/\ST.oN ms /\ (∀ x∈ms,∃ rest:List V,H x.2=some (.tup (K1.vv (hd x.1).1 :: K2.vv (hd x.1).2 :: rest))/\∀ v∈rest,Nv v=true)/\(∀ x∈ms,∀ y∈ms,hd x.1=hd y.1->x.1=y.1) /\ ∀(l:au)(ts:List (List Key × au)),H l=none->(∀ x∈ts,x∈ms)->(∀ k,k∈ts.map (·.1)↔k∈ms.map (·.1))->ts.Pairwise (λa b=>oZ K1 K2 (hd a.1) (hd b.1)=true)->Q (.ref l) (upd H l (.lst (ts.map λx=>V.ref x.2)))):=by subst hP hw;intro ak s aj H xs us Q I r h;obtain ⟨a,ms,rfl,ha,few,hT,inj,q⟩:=h;obtain ⟨u,rfl,ru⟩:=nM r;cases ru;obtain ⟨⟨ks',o,es,ep,t,m,f,ho,hx,hdt,T,hm,hl,hf,pk,nd,mk⟩,_⟩:=(show gV X.prog X.w H s.heap a (uX X.prog X.w a ms) from I.hok a _ ha);have fW:=dZ;have ln:ks'.length<=60:=few ks' nd λk hk=>(mk k).mp hk;have esz:es.size=ks'.length:=(by rw [T.size,<- pk.length_eq,aU]);refine (Xw YZ RW YK (Yd _) ?_);unfold jr.«sorted»;refine (aA (m:=checkCount "sorted" 1 1 _) (aO ?_));refine aA (ST.apK (by simpa using I.ok.hd hc) ho hx hdt T hl (by omega) λh1 tk d l k1 pl=>?_);rw [T.ents,<- ST.Li] at pl;obtain ⟨ts,pt,rfl⟩:=aoF pl _ rfl;have mem:∀ x∈ts,x∈ms:=λx hx'=>(by obtain ⟨j,hj,e⟩:=ST.Bw.mp (pt.mem_iff.mp hx');exact hf j x hj e);have ndk:(ts.map (·.1)).Nodup:=((pt.map (·.1)).ao pk).nodup_iff.mpr nd;have nd2:(ts.map λx=>hd x.1).Nodup:=(by rw [iT,jc] at ndk |-;exact ndk.imp_of_mem λha hb h e=>h (inj _ (mem _ ha) _ (mem _ hb) e));have apq:ts.length<=61:=(by rw [pt.length_eq,<- T.size,esz]; omega);have ev:(ts.map (ST.ent (ST.tk (eU X.prog X.w)).hash)).map (·.2)=(ts.map (·.2)).map bI:=(by rw [jM,jM]; rfl);rw [ev];refine aA (Rp ?_ (by rw [aU,aU]; omega));have I1:Inv X ak aj H { s with heap:=h1,toks:=tk,drawn:=d }:=(I.kept (t':=tk) k1).drew d;have g0:(h1.push (seqObj "list" ((ts.map (·.2)).map bI).toArray 0)).get? h1.objs.size=some (seqObj "list" ((ts.map (·.2)).map bI).toArray 0):=fU _ rfl;have at':∀ i,i<ts.length->((ts.map (·.2)).map bI).getD i fM=.ref (ts.getD i ([],0)).2/\(ts.map λx=>hd x.1).getD i (default,default)=hd (ts.getD i ([],0)).1:=λi hi=>(by simp [oV,cX,cT hi]);have hS:m8 K1 K2 (h1.push (seqObj "list" ((ts.map (·.2)).map bI).toArray 0)) h1.objs.size ((ts.map (·.2)).map bI) (ts.map λx=>hd x.1):=m8.of (by simp) λi hi=>(by rw [aU] at hi;rw [(at' i hi).1,(at' i hi).2];have hm':ts.getD i ([],0)∈ts:=(by simp only [oV,cT hi,Option.getD_some];exact CN hi);obtain ⟨rest,et,pr⟩:=hT _ (mem _ hm');obtain ⟨_,its,rv,ob,e1,e2,⟨mm,e3⟩,_⟩:=(show gV X.prog X.w H s.heap _ (.tup _) from I.hok _ _ et);have g:=k1 _ _ e1;cases rv with| cons r1 rv =>cases rv with| cons r2 rv=>exact ⟨_,ob,mm,_,_,_,rfl,dU (bW g),cj _ g,e2,e3,K1.rel _ _ r1,K2.rel _ _ r2,Tv rv pr⟩);refine aA (iR (m5 Zr (s:={ s with heap:=h1.push (seqObj "list" ((ts.map (·.2)).map bI).toArray 0),toks:=tk,drawn:=d }) ⟨_,g0,rfl⟩ WX (afI (s:={ s with heap:=h1.push (seqObj "list" ((ts.map (·.2)).map bI).toArray 0),toks:=tk,drawn:=d }) g0 hS nd2 (by rw [aU]; omega) λl l1 l2 l3=>⟨_,rfl,?_⟩) (Z0 _)));obtain ⟨n,gn⟩:=ZP (vs:=(ts.map (·.2)).map bI) (out:=(l.map λi=>((ts.map (·.2)).map bI).getD i fM).toArray) g0;rw [aU] at l1;have lb:∀ i∈l,i<ts.length:=λi hi=>iJ.mp (l1.mem_iff.mp hi);have eo:(l.map λi=>((ts.map (·.2)).map bI).getD i fM)=((l.map λi=>ts.getD i ([],0)).map (·.2)).map bI:=(by have z:(l.map λi=>((ts.map (·.2)).map bI).getD i fM)=l.map λi=>bI (ts.getD i ([],0)).2:=CW λi hi=>(at' i (lb i hi)).1;rw [z,jM,jM];rfl);rw [eo] at gn |-;have ek:(l.map λi=>(ts.map λx=>hd x.1).getD i (default,default))=(l.map λi=>ts.getD i ([],0)).map λx=>hd x.1:=(by rw [jM];exact CW λi hi=>(at' i (lb i hi)).2);rw [ek,jc] at l3;have pm:(l.map λi=>ts.getD i ([],0)).Perm ts:=(by have z:=W7 (λi=>ts.getD i ([],0)) l1;have all:((cY ts.length).map λi=>ts.getD i ([],0))=ts:=(by apply Mi;simp;intro i h1 h2;simp [oV,h2]);rw [all] at z;exact z);generalize (l.map λi=>ts.getD i ([],0))=ts' at gn l3 pm;have kk:∀ b o,h1.get? b=some o->(sortedHeap (h1.push (seqObj "list" ((ts.map (·.2)).map bI).toArray 0)) h1.objs.size ((ts.map (·.2)).map bI) ((ts'.map (·.2)).map bI).toArray).get? b=some o:=λb o e1=>(by have lt:b<h1.objs.size:=bW e1;rw [Tj (dU lt) (by rw [ql]; exact BP lt)];exact cj _ e1);have er:(ts'.map λx=>V.ref x.2)=(ts'.map (·.2)).map V.ref:=(by rw [jM]; rfl);have z:=q _ ts' (I1.hok.fresh (bB _)) (λx hx'=>mem x (pm.mem_iff.mp hx')) (λk=>by rw [(pm.map _).mem_iff,((pt.map _).ao pk).mem_iff,mk]) l3;refine aO ⟨_,rfl,.ref h1.objs.size,_,I1.laid (t':=tk) (o:=.lst (ts'.map λx=>V.ref x.2)) kk (bB _) ⟨by rw [aU,pm.length_eq]; omega,_,n,by rw [er]; exact abB _,gn⟩,rfl,z⟩
theorem acZ(hP:X.prog=P0)(hw:X.w=w0)(hc:X.calm=true)(hu:X.A.units+8<cLine):jz X (.type "set") (λxs H Q=>∃(p:au)(ms:List (List Key × au)),xs=[.ref p]/\H p=some (.tup (ms.map λx=>V.ref x.2))/\ST.oN ms/\(∀ x∈ms,H x.2=some (.tup (x.1.map kV))) /\ ∀ a,H a=none->Q (.ref a) (upd H a (uX P0 w0 a ms))):=by subst hP hw;intro ak s aj H xs us Q I r h;obtain ⟨p,ms,rfl,hp,few,hT,q⟩:=h;obtain ⟨u,rfl,ru⟩:=nM r;cases ru;obtain ⟨_,its,rv,ob,e1,e2,⟨mm,e3⟩,_⟩:=(show gV X.prog X.w H s.heap _ (.tup _) from I.hok _ _ hp);have ei:its=(ms.map (·.2)).map bI:=ZL (by rw [jM]; exact rv);refine ST.amy (ks:=ms) (I.ok.hd hc) hu ⟨ob,e1,e2,mm,e3⟩ (by rw [ei]; simp) (λi v e=>?_) few λh' tk z kk=>⟨.ref s.heap.objs.size,_,I.laid (t':=tk) (o:=uX X.prog X.w s.heap.objs.size ms) kk (bB _) (YH (zx.of z)),rfl,q _ (I.hok.fresh (bB _))⟩;rw [ei,Yy,jM,cX] at e;obtain ⟨x,ex,rfl⟩:=Ho.mp e;exact ⟨x.1,x.2,ex,rfl,yE I.hok (hT x (dB ex))⟩
end
end L2
namespace L2
open PySem PySem.Spec PyProof.Rows
def VL(elt:Expr)(D:au)(env:Env):Sem Unit:=do
 let v <- eval elt env
 standAt elt.pos
 let _ <- call (.builtin "set.add") [.ref D,v]
def aaI(P:dX)(w:cU)(D:au)(te:TE):ug:=fun aj H R=>te aj H λy H4=>kJ λms k b=>uf (y=.ref b) (H4 D=some (uX P w D ms)) (H4 b=some (.tup (k.map kV))) (ST.oN ms) ((∀ x∈ms,H4 x.2=some (.tup (x.1.map kV)))) (R aj (upd H4 D (uX P w D (ms++[(k,b)]))))
section
variable{X:Cx}{elt tg iter:Expr}{ifs:List Expr}{scope bQ:Scope}{pos:Pos}{own cap:List Str}{ix:List Nat}{wi:TI}{g:BI->TG}{tt:BI->TT}{te:BI->TE}
theorem ajg:CV X (.SetComp elt [⟨tg,iter,ifs,0⟩] scope pos) 0 iter.pos tg ifs (VL elt) where
 hq:=λ_ _ _=>rfl
 hden:=λit D env Q E s h=>by
   show aF _ X.A ((compTurn (.SetComp elt [⟨tg,iter,ifs,0⟩] scope pos) 0 (.ref it) (.ref D) env).onRaise (λx=>do noteFrame x env; theTreesLotGoes x)) _ _ s;exact Bk h
 hst:=λit D env R s h0 h=>Gx rfl rfl rfl (λ_=>rfl) rfl rfl h0 h
theorem apI{t1:TE}{D:au}(hu:X.A.units+1<cLine)(mU:∀ v s,X.xe v s->False)(he:PE X elt t1):Cd X (VL elt D X.env) (aaI X.prog X.w D t1):=by intro ak s aj H R I h;unfold VL;refine aA (ju (he _ s aj H _ I h) (λu s9 ⟨v,H9,I9,r9,ms,k,b,ey,hD,hb,few,hT,w9⟩=>?_) λv s' f=>(mU v s' f).elim);subst ey;obtain rfl:u=bI b:=r9;refine aA (qL (aA ?_));obtain ⟨z,_⟩:=(show gV X.prog X.w H9 s9.heap D (uX X.prog X.w D ms) from I9.hok D _ hD);have zN:=z.to λx hx=>yE I9.hok (hT x hx);have hT1:s9.TypeIs (.ref D) "set":=(by obtain ⟨_,o,_,_,_,_,_,e,hx,_⟩:=z;exact ⟨o,e,hx.1⟩);refine m5 PySem.F.slot_set_add hT1 PySem.F.entry_set_add ?_ (PySem.F.args_set_add_2 _ _);unfold jr.«set.add» Builtin.Frozenset.oneOther;simp only [List.isEmpty_nil,ZX];unfold Builtin.Frozenset.addrOf;refine aA (aO ?_);(try dsimp only);refine aA (aO ?_);(try dsimp only);refine aA (ST.agj (A:=X.A.in1) (by simpa using hu) zN (yE I9.hok hb) (by simp) few λh' tk r sb _ z'=>?_);refine aO ⟨_,rfl,aO ⟨aj,_,El (t':=tk) I9 (by rw [hD]; exact rF) sb ?_ (YH (zx.of z')),w9⟩⟩;obtain ⟨_,⟨o,_,_,_,_,_,e,_⟩,_⟩:=z';exact ⟨o,e⟩
theorem aj6{ak:List (au × Obj)}{aj:St}{H:Hp}{s:aH}{Q:aB->aH->Prop}{E:aB->aH->Prop}(I:Inv X ak aj H s)(h:Inv X ak aj (upd H s.heap.objs.size (uX X.prog X.w s.heap.objs.size [])) { s with heap:=s.heap.push (kj (!lB X.w)) }->Q (.ref s.heap.objs.size) { s with heap:=s.heap.push (kj (!lB X.w)) }):aF (aR X.prog X.w) X.A (newSet (.type "set")) Q E s:=by unfold newSet;refine aA (Qq ?_);exact jT (h (I.laid (a:=s.heap.objs.size) (o:=uX X.prog X.w s.heap.objs.size []) (t':=s.toks) (λ_ _ q=>cj _ q) (bB _) (YH (zx.of (ex:=[]) (ST.qI.nil (fU _ rfl))))))
abbrev ajy(P:dX)(w:cU)(own:List Str)(ix:List Nat)(wi:TI)(g:BI->TG)(tt:BI->TT)(te:BI->TE):TE:=acu own ix (λD=>uX P w D []) wi g tt λb D=>aaI P w D (te b)
theorem ang(hu:X.A.units+1<cLine)(hc:X.calm=true)(hX:X.env.scope=bQ)(S:m6 bQ scope X.N own cap ix)(hi:PI X tg iter wi)(hg:∀ b,PG (blk X scope (own++cap) b) tg (g b))(ht:∀ b,mQ (blk X scope (own++cap) b) ifs (tt b))(he:∀ b,PE (blk X scope (own++cap) b) elt (te b))(hs:∀ x,n6 iter X.env x=pure x:=by intro _; rfl):
   PE X (.SetComp elt [⟨tg,iter,ifs,0⟩] scope pos) (ajy X.prog X.w own ix wi g tt te):=by
 intro ak s aj H Q I h;show aF _ X.A (comprehension (.SetComp elt [⟨tg,iter,ifs,0⟩] scope pos) scope X.env _ (newSet (.type "set")) false (eval iter X.env)) _ _ s;refine acF (use:=none) rfl ajg (λ_ _ _ _ _ _=>aj6) hc hX S hi hg ht (λb D=>apI (by exact hu) (λ_ _ f=>f) (he b)) hs I h λD C H' s' q hn _ hI=>?_
 obtain ⟨m,hn⟩:=hn;exact ⟨m,hn,λh' hh=>⟨.ref D,H',hI h' hh,rfl,q⟩⟩
end
end L2
namespace L2
open PySem PySem.Spec PyProof.Rows PyProof
section
variable{prog:dX}{w:cU}{A:iw}{E:aB->aH->Prop}{s:aH}
variable{J:au}{i:Nat}{its:Array aB}{Q:aB->aH->Prop}
theorem Vt{t:au}{x:aB}(hJ:s.heap.IsTupleIter J t i)(ht:s.heap.IsTuple t its)(hx:its[i]?=some x)(q:∀ h',h'.IsTupleIter J t (i+1)->mD J s.heap h'->Q x { s with heap:=h' }):aF (aR prog w) A (Cm (.ref J)) Q E s:=by obtain ⟨o,ho,hc,hd⟩:=id hJ;obtain ⟨ot,hot,_,nt,hdt⟩:=ht;unfold Cm;refine aA (wg (name:=wD "__next__") hJ.typeIs Qt (m5 Qt hJ.typeIs afm ?_ (aek _)));show aF _ _ (field (.ref J) 0 >>= _) _ _ s;refine aA (lU ho hd (x:=.ref t) rfl ?_);show aF _ _ (if (bI t == fM)=true then _ else _) _ _ s;refine Dd (λz=>bK z gO) (λ_=>?_);show aF _ _ (field (.ref J) 1 >>= _) _ _ s;refine aA (lU ho hd (x:=.int i 0) rfl ?_);show aF _ _ (seqItems? (.ref t) >>= _) _ _ s;refine aA (ud hot hdt ?_);simp only [rT,hx];refine aA (uK ho hd (by simp) (aO ⟨x,rfl,aO (q _ ⟨_,vG _ ho (Yl (Gf hd _)),(adP ..).ao hc,by rw [Gf hd]; simp [rawInt]⟩ (rQ ..))⟩))
theorem acH{t:au}(hh:A.handled=none)(hJ:s.heap.IsTupleIter J t i)(ht:s.heap.IsTuple t its)(hx:its[i]?=none)(q:∀ h' e,Vs J s.heap h'->(∃ o,h'.get? e=some o/\o.cls=.type "StopIteration")->E (.ref e) { s with heap:=h' }):aF (aR prog w) A (Cm (.ref J)) Q E s:=by obtain ⟨o,ho,hc,hd⟩:=id hJ;obtain ⟨ot,hot,_,nt,hdt⟩:=ht;unfold Cm;refine aA (wg (name:=wD "__next__") hJ.typeIs Qt (m5 Qt hJ.typeIs afm ?_ (aek _)));show aF _ _ (field (.ref J) 0 >>= _) _ _ s;refine aA (lU ho hd (x:=.ref t) rfl ?_);show aF _ _ (if (bI t == fM)=true then _ else _) _ _ s;refine Dd (λz=>bK z gO) (λ_=>?_);show aF _ _ (field (.ref J) 1 >>= _) _ _ s;refine aA (lU ho hd (x:=.int i 0) rfl ?_);show aF _ _ (seqItems? (.ref t) >>= _) _ _ s;refine aA (ud hot hdt ?_);simp only [rT,hx];refine aA (yx (aA (uK ho hd (by simp) ?_)));show aF _ _ (newExc (.type "StopIteration") [] >>= _) _ _ _;refine aA ?_;simp only [newExc,newTuple];refine aA (jT ?_ (by size_fits));refine aA (m:=firstArgMember _ _) (Fy (a:=fM) (by first | rfl | (simp only [firstArgMember]; rfl)) (jT ?_ (by size_fits)));simp only [raiseNew];refine aA (Qx ?_);rw [show A.in1.handled=none from hh];exact aA (aO (Jt (q _ _ (((rQ ..).extBut.push _).push _) ⟨_,fU _ rfl,rfl⟩)))
variable{z TI TO i1 i2 l1 l2:au}{k1 k2:Nat}{xs ys:Array aB}{x y a b:aB}
variable{Q:Option aB->aH->Prop}
theorem ai3(D:Px z TI TO i1 i2 l1 l2)(hz:ur s.heap z TI TO .none)(hTI:oh s.heap TI (.ref i1) (.ref i2))(hTO:oh s.heap TO a b)(h1:s.heap.IsTupleIter i1 l1 k1)(h2:s.heap.IsTupleIter i2 l2 k2)(t1:s.heap.IsTuple l1 xs)(t2:s.heap.IsTuple l2 ys)(hx:xs[k1]?=some x)(hy:ys[k2]?=some y)(q:∀ h',ur h' z TI TO (rawInt s.heap.objs.size)->oh h' TO x y->h'.IsTupleIter i1 l1 (k1+1)->h'.IsTupleIter i2 l2 (k2+1)->oh h' s.heap.objs.size x y->h'.objs.size=s.heap.objs.size+1 -> (∀ c o,c≠z->c≠TO->c≠i1->c≠i2->s.heap.get? c=some o->h'.get? c=some o)->Q (some (.ref s.heap.objs.size)) { s with heap:=h' }):aF (aR prog w) A (pyNext (.ref z)) Q E s:=by have hT:s.TypeIs (.ref z) "zip":=⟨_,hz,rfl⟩;unfold pyNext;refine aA (BJ (wg (name:=wD "__next__") hT QH (m5 QH hT abl ?_ (aa9 _))));show aF _ _ (field (.ref z) 2 >>= _) _ _ _;refine aA (lU hz rfl (x:=.bool false) rfl ?_);show aF _ _ (field (.ref z) 3 >>= _) _ _ _;refine aA (lU hz rfl (x:=.ref TI) rfl ?_);refine aA (ud hTI rfl ?_);show aF _ _ (O2 (.ref z) >>= _) _ _ _;refine aA ?_;unfold O2;refine aA (lU hz rfl (x:=.none) rfl (aO ?_));simp only [if_true];refine aA (yx (aA (lU hz rfl (x:=.ref TO) rfl ?_)));refine aA (Ks hz (by simp) λg1 z1 s1=>?_);replace z1:ur g1 z TI TO .ellipsis:=z1;refine aA ?_;simp only [List.zipIdx_cons,List.zipIdx_nil,Zz,Q7];refine aA (aA (Rh ?_));show aF _ _ (Cm (.ref i1) >>= _) _ _ _;refine aA (Vt (s:={ s with heap:=g1 }) (h1.extBut s1.extBut D.i1z) (t1.extBut s1.extBut D.l1z) hx λg2 j2 s2=>aO ?_);have p2:oh g2 TO a b:=s2.extBut _ _ D.TOi1 (s1.extBut _ _ D.TOz hTO);refine aA (ud p2 rfl (aA (XD p2 λg3 p3 s3=>?_)));replace p3:oh g3 TO x b:=p3;refine aA (Yn (aO (aA (aA (Rh ?_)))));show aF _ _ (Cm (.ref i2) >>= _) _ _ _;refine aA (Vt (s:={ s with heap:=g3 }) (((h2.extBut s1.extBut D.i2z).extBut s2.extBut D.i12.symm).extBut s3.extBut D.TOi2.symm) (((t2.extBut s1.extBut D.l2z).extBut s2.extBut D.l2i1).extBut s3.extBut D.l2TO) hy λg4 j4 s4=>aO ?_);have p4:oh g4 TO x b:=s4.extBut _ _ D.TOi2 p3;refine aA (ud p4 rfl (aA (XD p4 λg5 p5 s5=>?_)));replace p5:oh g5 TO x y:=p5;refine aA (Yn (aO (aO ?_)));refine aA (ud p5 rfl (aA (wpAny_newTuple ?_)));have sz:g5.objs.size=s.heap.objs.size:=(by rw [s5.1,s4.1,s3.1,s2.1,s1.1]);have z5:ur g5 z TI TO .ellipsis:=s5.extBut _ _ D.TOz.symm (s4.extBut _ _ D.i2z.symm (s3.extBut _ _ D.TOz.symm (s2.extBut _ _ D.i1z.symm z1)));have kk:∀ c o,c≠z->c≠TO->c≠i1->c≠i2->s.heap.get? c=some o->g5.get? c=some o:=λc o c1 c2 c3 c4 e=>s5.extBut _ _ c2 (s4.extBut _ _ c4 (s3.extBut _ _ c2 (s2.extBut _ _ c3 (s1.extBut _ _ c1 e))));have j1:g5.IsTupleIter i1 l1 (k1+1):=((j2.extBut s3.extBut D.TOi1.symm).extBut s4.extBut D.i12).extBut s5.extBut D.TOi1.symm;have j5:g5.IsTupleIter i2 l2 (k2+1):=j4.extBut s5.extBut D.TOi2.symm;have lz:z<g5.objs.size:=bW z5;show aF _ _ (aa1 (.ref z) (.ref g5.objs.size) >>= _) _ _ _;refine aA ?_;unfold aa1;have z6:ur (g5.push { cls:=.type "tuple",data:=.seq #[x,y] }) z TI TO .ellipsis:=cj _ z5;refine aA (Ks z6 (by simp) λg7 z7 s7=>?_);replace z7:ur g7 z TI TO (rawInt g5.objs.size):=z7;refine Ks z7 (by simp) λg8 z8 s8=>?_;replace z8:ur g8 z TI TO (rawInt g5.objs.size):=z8;have up:∀ c o,c≠z->g5.get? c=some o->g8.get? c=some o:=λc o c1 e=>s8.extBut _ _ c1 (s7.extBut _ _ c1 (cj _ e));have p8:oh g8 g5.objs.size x y:=s8.extBut _ _ (yh lz) (s7.extBut _ _ (yh lz) (fU _ rfl));have e8:g8.objs.size=g5.objs.size+1:=(by rw [s8.1,s7.1,ql]);rw [sz] at z8 p8 e8;refine aO ⟨_,rfl,?_⟩;rw [sz];exact aO (q g8 z8 (up _ _ D.TOz p5) (j1.at λo e=>up _ o D.i1z e) (j5.at λo e=>up _ o D.i2z e) p8 e8 λc o c1 c2 c3 c4 e=>up c o c1 (kk c o c1 c2 c3 c4 e))
theorem apl(hh:A.handled=none)(D:Px z TI TO i1 i2 l1 l2)(hz:ur s.heap z TI TO .none)(hTI:oh s.heap TI (.ref i1) (.ref i2))(hTO:oh s.heap TO a b)(h1:s.heap.IsTupleIter i1 l1 k1)(h2:s.heap.IsTupleIter i2 l2 k2)(t1:s.heap.IsTuple l1 xs)(t2:s.heap.IsTuple l2 ys)(he:xs[k1]?=none\/ys[k2]?=none)(q:∀ h',(∀ c o,c≠z->c≠TO->c≠i1->c≠i2->s.heap.get? c=some o->h'.get? c=some o)->Q none { s with heap:=h' }):aF (aR prog w) A (pyNext (.ref z)) Q E s:=by have hT:s.TypeIs (.ref z) "zip":=⟨_,hz,rfl⟩;unfold pyNext;refine aA (BJ (wg (name:=wD "__next__") hT QH (m5 QH hT abl ?_ (aa9 _))));show aF _ _ (field (.ref z) 2 >>= _) _ _ _;refine aA (lU hz rfl (x:=.bool false) rfl ?_);show aF _ _ (field (.ref z) 3 >>= _) _ _ _;refine aA (lU hz rfl (x:=.ref TI) rfl ?_);refine aA (ud hTI rfl ?_);show aF _ _ (O2 (.ref z) >>= _) _ _ _;refine aA ?_;unfold O2;refine aA (lU hz rfl (x:=.none) rfl (aO ?_));simp only [if_true];refine aA (yx (aA (lU hz rfl (x:=.ref TO) rfl ?_)));refine aA (Ks hz (by simp) λg1 z1 s1=>?_);replace z1:ur g1 z TI TO .ellipsis:=z1;have fin:∀(g:bD)(e:au),ur g z TI TO .ellipsis->(∃ o,g.get? e=some o/\o.cls=.type "StopIteration")->(∀ c o,c≠z->c≠TO->c≠i1->c≠i2->s.heap.get? c=some o->g.get? c=some o)->∀{R:Unit->aH->Prop}{E':aB->aH->Prop},(∀ h',(∃ o,h'.get? e=some o/\o.cls=.type "StopIteration")->(∀ c o,c≠z->c≠TO->c≠i1->c≠i2->s.heap.get? c=some o->h'.get? c=some o)->R () { s with heap:=h' })->aF (aR prog w) A.in1 (setField (.ref z) 0 .none) R E' { s with heap:=g }:=λg e zg ho kg {R E'} r=>(by obtain ⟨o,ho,hc⟩:=ho;have ne:e≠z:=λy=>(by subst y; rw [zg] at ho; cases ho; simp at hc);exact Ks (s:={ s with heap:=g }) zg (by simp) λh' _ sb=>r h' ⟨o,sb.extBut _ _ ne ho,hc⟩ λc o c1 c2 c3 c4 y=>sb.extBut _ _ c1 (kg c o c1 c2 c3 c4 y));have last:∀ h' e,(∃ o,h'.get? e=some o/\o.cls=.type "StopIteration")->(∀ c o,c≠z->c≠TO->c≠i1->c≠i2->s.heap.get? c=some o->h'.get? c=some o)->aF (aR prog w) A (isInstance (.ref e) (.type "StopIteration")) (λb s'=>aF (aR prog w) A (if b=true then pure none else throw (.ref e)) Q E s') E { s with heap:=h' }:=λh' e ho kg=>(by obtain ⟨o,ho,hc⟩:=ho;exact K7 (T:="StopIteration") (b:=true) ⟨o,ho,hc⟩ QG (aO (q _ kg)));refine aA ?_;simp only [List.zipIdx_cons,List.zipIdx_nil,Zz,Q7];refine aA (aA (Rh ?_));show aF _ _ (Cm (.ref i1) >>= _) _ _ _;cases hx:xs[k1]? with| none =>refine aA (acH (s:={ s with heap:=g1 }) hh (h1.extBut s1.extBut D.i1z) (t1.extBut s1.extBut D.l1z) hx λg2 e s2 he=>?_);refine fin g2 e (s2 _ _ D.i1z.symm z1) he (λc o c1 _ c3 _ y=>s2 _ _ c3 (s1.extBut _ _ c1 y)) λh' he' kg=>?_;exact aA (last h' e he' kg)| some x =>have hy:ys[k2]?=none:=(by rcases he with h | h;rw [hx] at h; cases h;exact h);refine aA (Vt (s:={ s with heap:=g1 }) (h1.extBut s1.extBut D.i1z) (t1.extBut s1.extBut D.l1z) hx λg2 j2 s2=>aO ?_);have p2:oh g2 TO a b:=s2.extBut _ _ D.TOi1 (s1.extBut _ _ D.TOz hTO);refine aA (ud p2 rfl (aA (XD p2 λg3 p3 s3=>?_)));refine aA (Yn (aO (aA (aA (Rh ?_)))));show aF _ _ (Cm (.ref i2) >>= _) _ _ _;refine aA (acH (s:={ s with heap:=g3 }) hh (((h2.extBut s1.extBut D.i2z).extBut s2.extBut D.i12.symm).extBut s3.extBut D.TOi2.symm) (((t2.extBut s1.extBut D.l2z).extBut s2.extBut D.l2i1).extBut s3.extBut D.l2TO) hy λg4 e s4 he=>?_);refine fin g4 e (s4 _ _ D.i2z.symm (s3.extBut _ _ D.TOz.symm (s2.extBut _ _ D.i1z.symm z1))) he (λc o c1 c2 c3 c4 y=>s4 _ _ c4 (s3.extBut _ _ c2 (s2.extBut _ _ c3 (s1.extBut _ _ c1 y)))) λh' he' kg=>?_;exact aA (last h' e he' kg)
abbrev Ou(h:bD)(l1:au):bD:=h.push { cls:=.type "tuple_iterator",data:=.fields #[.ref l1,.int 0 0] }
abbrev Rm(h:bD)(l1 l2:au):bD:=(Ou h l1).push { cls:=.type "tuple_iterator",data:=.fields #[.ref l2,.int 0 0] }
abbrev Ro(h:bD)(l1 l2:au):bD:=(Rm h l1 l2).push { cls:=.type "tuple",data:=.seq #[.ref h.objs.size,.ref (Ou h l1).objs.size] }
abbrev Rf(h:bD)(l1 l2:au):bD:=(Ro h l1 l2).push { cls:=.type "tuple",data:=.seq #[.none,.none] }
abbrev Eb(h:bD)(l1 l2:au):bD:=(Rf h l1 l2).push { cls:=.type "zip",data:=.fields #[.none,.bool false,.bool false,.ref (Rm h l1 l2).objs.size,.ref (Ro h l1 l2).objs.size] }
theorem alZ(l1 l2:au)(xs ys:Array aB):Meets (jr.«zip.__new__» ⟨[.type "zip",.ref l1,.ref l2],[]⟩) (λ_ R s=>s.heap.IsTuple l1 xs/\s.heap.IsTuple l2 ys/\R (.ok (.ret (.ref (Rf s.heap l1 l2).objs.size))) { s with heap:=Eb s.heap l1 l2 }) :=
 .of_wp λprog w A R s h=>by
   obtain ⟨hp,g,d,tk,os⟩:=s; obtain ⟨t1,t2,h⟩:=h;have hsub:=sub_zip;have T1:aaF (Shared.heap ⟨hp,g,d,tk,os⟩) l1 xs:=t1;have T2:aaF (Shared.heap ⟨hp.push { cls:=.type "tuple_iterator",data:=.fields #[.ref l1,.int 0 0] },g,d,tk,os⟩) l2 ys:=Heap.IsTuple.push t2 _
   wp_walk using QV T1,QV T2
   exact ⟨_,rfl,h⟩
theorem akv{Q:aB->aH->Prop}(t1:s.heap.IsTuple l1 xs)(t2:s.heap.IsTuple l2 ys)(h:∀ h',ur h' (s.heap.objs.size+4) (s.heap.objs.size+2) (s.heap.objs.size+3) .none->oh h' (s.heap.objs.size+2) (.ref s.heap.objs.size) (.ref (s.heap.objs.size+1)) -> oh h' (s.heap.objs.size+3) .none .none->h'.IsTupleIter s.heap.objs.size l1 0->h'.IsTupleIter (s.heap.objs.size+1) l2 0->h'.objs.size=s.heap.objs.size+5 -> (∀ c o,s.heap.get? c=some o->h'.get? c=some o)->Q (.ref (s.heap.objs.size+4)) { s with heap:=h' }):aF (aR prog w) A (call (.type "zip") [.ref l1,.ref l2]) Q E s:=by refine callType_new PySem.F.called_zip (by decide) (PySem.F.typeCall_zip_2 _ _) (PySem.F.newCall_zip_2 _ _) (λobj=>PySem.F.args_object_init_3 obj _ _) PySem.F.entry_zip_new (alZ l1 l2 xs ys) ⟨t1,t2,?_⟩;have z1:(Ou s.heap l1).objs.size=s.heap.objs.size+1:=ql ..;have z2:(Rm s.heap l1 l2).objs.size=s.heap.objs.size+2:=(by rw [ql,z1]);have z3:(Ro s.heap l1 l2).objs.size=s.heap.objs.size+3:=(by rw [ql,z2]);have z4:(Rf s.heap l1 l2).objs.size=s.heap.objs.size+4:=(by rw [ql,z3]);have z5:(Eb s.heap l1 l2).objs.size=s.heap.objs.size+5:=(by rw [ql,z4]);have p5:(Eb s.heap l1 l2).get? (Rf s.heap l1 l2).objs.size=some _:=fU _ rfl;have p4:(Eb s.heap l1 l2).get? (Ro s.heap l1 l2).objs.size=some _:=cj _ (fU _ rfl);have p3:(Eb s.heap l1 l2).get? (Rm s.heap l1 l2).objs.size=some _:=cj _ (cj _ (fU _ rfl));have p2:(Eb s.heap l1 l2).get? (Ou s.heap l1).objs.size=some _:=cj _ (cj _ (cj _ (fU _ rfl)));have p1:(Eb s.heap l1 l2).get? s.heap.objs.size=some _:=cj _ (cj _ (cj _ (cj _ (fU _ rfl))));show _/\_;rw [z2,z3,z4] at p5;rw [z1,z2] at p3;rw [z3] at p4;rw [z1] at p2;rw [z4];exact ⟨⟨_,p5,rfl⟩,h _ p5 p3 p4 ⟨_,p1,rfl,rfl⟩ ⟨_,p2,rfl,rfl⟩ z5 λc o y=>cj _ (cj _ (cj _ (cj _ (cj _ y))))⟩
end
def Z1(K:cH)(a b:au)(xs ys:List V):It :=
 ⟨λi H=>aG K H a xs/\aG K H b ys/\i<xs.length/\i<ys.length,λi H v H'=>∃ T x y,H T=none/\v=.ref T/\xs[i]?=some x/\ys[i]?=some y/\H'=upd H T (.tup [x,y]),λi H=>aG K H a xs/\aG K H b ys/\(xs.length<=i\/ys.length<=i)⟩
def aoH(z TI TO i1 i2 a b:au)(i:Nat)(h:bD):Prop:=ur h z TI TO .none/\oh h TI (.ref i1) (.ref i2)/\(∃ p q,oh h TO p q)/\h.IsTupleIter i1 a i/\h.IsTupleIter i2 b i
variable{elts:List Expr}{pos:Pos}
theorem alL{P:dX}{w:cU}{K:cH}{k:Nat}(z TI TO i1 i2 a b:au)(D:Px z TI TO i1 i2 a b)(xs ys:List V):
   Turn P w K (.Tuple elts k pos) (Z1 K a b xs ys) [z,TI,TO,i1,i2] z (aoH z TI TO i1 i2 a b) where
 mem:=by simp
 obj:=λi h st c hc=>by
   obtain ⟨hz,hTI,⟨p,q,hTO⟩,⟨o1,e1,c1,d1⟩,⟨o2,e2,c2,d2⟩⟩:=st;simp only [dF,pL,or_false] at hc;rcases hc with rfl | rfl | rfl | rfl | rfl
   . exact ⟨_,hz,λv z=>by cases (show Yb _=Es v from z)⟩
   . exact ⟨_,hTI,λv z=>by cases (show Ko _ _=Es v from z)⟩
   . exact ⟨_,hTO,λv z=>by cases (show Ko _ _=Es v from z)⟩
   . exact ⟨o1,e1,λv z=>by rw [d1] at z; cases z⟩
   . exact ⟨o2,e2,λv z=>by rw [d2] at z; cases z⟩
 keep:=λi h h' st k=>by
   obtain ⟨hz,hTI,⟨p,q,hTO⟩,h1,h2⟩:=st;exact ⟨k z (by simp) _ hz,k TI (by simp) _ hTI,⟨p,q,k TO (by simp) _ hTO⟩,h1.at λo e=>k i1 (by simp) o e,h2.at λo e=>k i2 (by simp) o e⟩
 item:=by
   intro X hP hw hK hc i ak s aj H E I hf st hg;subst hP hw hK;obtain ⟨hq1,hq2,l1,l2⟩:=hg;obtain ⟨hz,hTI,⟨p,q,hTO⟩,h1,h2⟩:=st;obtain ⟨Jl,za,tu,_⟩:=I.tuple hq1;obtain ⟨its2,zj,qt,_⟩:=I.tuple hq2;have x1:xs[i]?=some xs[i]:=cT l1;have y1:ys[i]?=some ys[i]:=cT l2;obtain ⟨u,hu,ru⟩:=za.get x1;obtain ⟨u2,hu2,ru2⟩:=zj.get y1;refine ai3 D hz hTI hTO h1 h2 tu qt (x:=u) (y:=u2) (by simpa using hu) (by simpa using hu2) λh' a1 a2 a3 a4 a5 a6 a7=>?_
   refine ⟨_,rfl,adR a1 λh2' b1 b2=>?_⟩
   have kk:∀ c o,c ∉ [z,TI,TO,i1,i2]->s.heap.get? c=some o->h2'.get? c=some o:=λc o hc e=>by
     simp only [dF,pL,or_false,not_or] at hc;exact (b2.2 c hc.1).ao (a7 c o hc.1 hc.2.2.1 hc.2.2.2.1 hc.2.2.2.2 e)
   have ltz:z<s.heap.objs.size:=bW hz;have nz:s.heap.objs.size≠z:=yh ltz;have eT:h2'.get? s.heap.objs.size=some { cls:=.type "tuple",data:=.seq #[u,u2] }:=(b2.2 _ nz).ao a5;have fresh:H s.heap.objs.size=none:=I.hok.fresh (bB _)
   have uE:∀ c∈[z,TI,TO,i1,i2],c<s.heap.objs.size:=λc hc=>by
     simp only [dF,pL,or_false] at hc;obtain ⟨o1,e1,_⟩:=h1;obtain ⟨o2,e2,_⟩:=h2;rcases hc with rfl | rfl | rfl | rfl | rfl
     . exact ltz
     . exact bW hTI
     . exact bW hTO
     . exact bW e1
     . exact bW e2
   have I1:Inv X ak aj (upd H s.heap.objs.size (.tup [xs[i],ys[i]])) { s with heap:=s.heap.push { cls:=.type "tuple",data:=.seq #[u,u2] } } :=
     I.laid (t':=s.toks) (λ_ _ e=>cj _ e) (bB _) ⟨by show 2<=aL; rw [dZ]; decide,[u,u2],.cons ru (.cons ru2 .nil),wk.new _ _⟩
   have hf1:∀ c∈[z,TI,TO,i1,i2],jA X ak (upd H s.heap.objs.size (.tup [xs[i],ys[i]])) c:=λc hc=>⟨by rw [bx (dU (uE c hc))]; exact (hf c hc).1,(hf c hc).2⟩
   have I2:Inv X ak aj (upd H s.heap.objs.size (.tup [xs[i],ys[i]])) { s with heap:=h2' }:=I1.RM (t':=s.toks) (λc o hc e=>by
     by_cases ec:c=s.heap.objs.size
     . subst ec;have e':(s.heap.push { cls:=.type "tuple",data:=.seq #[u,u2] }).get? s.heap.objs.size=some o:=e;rw [fU _ rfl] at e';cases e';exact eT
     . have e':(s.heap.push { cls:=.type "tuple",data:=.seq #[u,u2] }).get? c=some o:=e;rw [abR _ _ _ ec] at e'
       exact kk c o hc e') hf1
   refine ⟨.ref s.heap.objs.size,_,I2,rfl,⟨_,_,_,fresh,rfl,x1,y1,rfl⟩,⟨b1,?_,⟨u,u2,?_⟩,?_,?_⟩,λc hc=>(hf1 c hc).1⟩
   . exact (b2.2 _ D.TIz).ao (a7 TI _ D.TIz D.TITO D.TIi1 D.TIi2 hTI)
   . exact (b2.2 _ D.TOz).ao a2
   . exact a3.at λo e=>(b2.2 _ D.i1z).ao e
   . exact a4.at λo e=>(b2.2 _ D.i2z).ao e
 done:=by
   intro X hP hw hK hc i ak s aj H E I hf st hg;subst hP hw hK;obtain ⟨hq1,hq2,hl⟩:=hg;obtain ⟨hz,hTI,⟨p,q,hTO⟩,h1,h2⟩:=st;obtain ⟨Jl,za,tu,_⟩:=I.tuple hq1;obtain ⟨its2,zj,qt,_⟩:=I.tuple hq2;have e1:=za.length;have e2:=zj.length;refine apl (I.ok.hd hc) D hz hTI hTO h1 h2 tu qt (by rcases hl with hl | hl <;> first | (left; simp; omega) | (right; simp; omega)) λh' kk=>⟨rfl,I.RM (t':=s.toks) (λc o hc e=>?_) hf⟩
   simp only [dF,pL,or_false,not_or] at hc;exact kk c o hc.1 hc.2.2.1 hc.2.2.2.1 hc.2.2.2.2 e
 self:=λ_ _ _ _ _ st h=>N5 st.1 h
def ame(K:cH)(ta:TA):TI:=fun aj H R=>ta aj H λvs H1=>mz λa b xs ys=>wB (vs=[.ref a,.ref b]) (aG K H1 a xs) (aG K H1 b ys) (R (Z1 K a b xs ys) H1)
theorem aju{X:Cx}{a b:Expr}{ta:TA}{p:Pos}{k:Nat}(hg:Gl X "zip")(hm:X.mg "zip" = none)(ha:PA X [a,b] ta)(hs:dO [a,b] X.env=[(false,eval a X.env),(false,eval b X.env)]:=by rfl)(hs2:dO [b] X.env=[(false,eval b X.env)]:=by rfl):
   PI X (.Tuple elts k tp) (.Call (.Name "zip" p) [a,b] [] pos) (ame X.K ta):=by
 intro ak s aj H R I h;refine Call_ (Dl I hg hm (show bootBuiltins "zip" = some (.type "zip") by decide +kernel) (Ms (bL (ha pos ak s aj H _ I h) λus s1 ⟨vs,H1,I1,r1,q1⟩=>?_) (by rw [hs,hs2]) (by rw [hs2]; rfl)));obtain ⟨l1,l2,xs,ys,e,hq1,hq2,q⟩:=q1;subst e;obtain ⟨u,u',rfl,r,r'⟩:=rR r1;cases (show u=bI l1 from r);cases (show u'=bI l2 from r');obtain ⟨Jl,za,tu,_⟩:=I1.tuple hq1;obtain ⟨its2,zj,qt,_⟩:=I1.tuple hq2;have a1:l1<s1.heap.objs.size:=by obtain ⟨_,e,_⟩:=tu; exact bW e
 have a2:l2<s1.heap.objs.size:=by obtain ⟨_,e,_⟩:=qt; exact bW e
 refine akv tu qt λh' hz hTI hTO hi1 hi2 _ hk=>N5 hz ?_
 refine ⟨_,_,_,_,H1,rfl,I1.kept (t':=s1.toks) hk,alL _ _ _ _ _ l1 l2 (zipApart_new a1 a2) xs ys,⟨hz,hTI,⟨_,_,hTO⟩,hi1,hi2⟩,λc hc=>?_,q⟩
 have le:s1.heap.objs.size<=c:=by
   simp only [dF,pL,or_false] at hc;rcases hc with rfl | rfl | rfl | rfl | rfl
   . exact Ao _ 4
   . exact Ao _ 2
   . exact Ao _ 3
   . exact bB _
   . exact Ao _ 1
 exact I1.zQ le (I1.hok.fresh le)
end L2
namespace L2
open PySem PySem.Spec PyProof.Rows
def j7(P:dX)(w:cU):zF:=λouter H s E e s'=>QX5 λ(a C t:au)(B:bD)(H':Hp)=>QA9 (e=.ref a) (s'.os=s.os) (yG s'.gens) (Un (frs outer) [] H H' s.heap s'.heap) (eG P w H' s'.heap) (O5 B outer a (.ref C) (.ref t) s'.heap) ((∀ b o,s'.heap.get? b=some o->b ∉ frs outer->((∃ u,H' b=some u)\/∃ u,s.heap.get? b=some u)->B.get? b=some o)) (H' a=none) (E (.ref C) none H')
variable{b:au}{X:Cx}{ak:List (au × Obj)}{aj:St}{H:Hp}{s:aH}
theorem Inv.track(I:Inv X ak aj H s){u:HO}(e:H b=some u):b ∉ frs X.stack:=λz=>by
 rw [I.PK b z] at e; cases e
theorem Inv.old(I:Inv X ak aj H s){u:Obj}(e:X.s₀.heap.get? b=some u)(hb:b ∉ X.fs):b ∉ frs X.stack:=λz=>by
 rcases dF.mp (I.Om b z) with q | q
 . rw [q] at e; exact bK (kO (bW e) I.ok.above) (uL _)
 . exact hb q
variable{h2:bD}
theorem Inv.out(I:Inv X ak aj H s)(hex:X.ex=[])(hk:∀ b o,s.heap.get? b=some o->b ∉ frs X.stack->h2.get? b=some o)(hs:∀ b o,s.heap.get? b=some o->b∈frs X.stack->∃ sl,h2.get? b=some { o with slots:=sl }):Un X.fs [] X.H₀ H X.s₀.heap h2/\eG X.prog X.w H h2:=by have nx:∀ b:au,b ∉ X.ex:=λb=>(by rw [hex]; simp);refine ⟨⟨λb o q n hb _=>hk b o (I.base.keep b o q n hb (nx b)) (I.old q hb),λb o q n hb _=>?_,λb o q n _=>I.base.free b o q n (nx b),λb o q _=>?_,I.base.aK,I.base.qx,I.base.sJ⟩,λa o e=>?_⟩;obtain ⟨sl,e⟩:=I.base.slot b o q n hb (nx b);by_cases z:b∈frs X.stack;obtain ⟨sl2,e2⟩:=hs b _ e z;exact ⟨sl2,e2⟩;exact ⟨sl,hk b _ e z⟩;obtain ⟨o2,e⟩:=I.base.there b o q (nx b);by_cases z:b∈frs X.stack;obtain ⟨sl2,e2⟩:=hs b _ e z;exact ⟨_,e2⟩;exact ⟨_,hk b _ e z⟩;refine (I.hok a o e).stay (λb u hb q=>hk b u q ?_) (λ_ q=>q) λ_ _ q=>q;rcases hb with rfl | hb;exact I.track e;exact I.track hb
theorem Inv.there(I:Inv X ak aj H s){u:HO}(e:H b=some u):∃ o,s.heap.get? b=some o:=by have z:=I.hok b u e;have l:=z.lt;cases q:s.heap.get? b with| some o=>exact ⟨o,rfl⟩| none =>exfalso;revert z;cases u with| lst xs=>intro z; obtain ⟨_,_,_,_,r⟩:=z; rw [q] at r; cases r| tup xs=>intro z; obtain ⟨_,_,_,o,r,_⟩:=z; rw [q] at r; cases r| dK kvs=>intro z; obtain ⟨_,_,_,_,o,_,_,r,_⟩:=z; rw [q] at r; cases r| dT kvs=>intro z; obtain ⟨_,_,_,_,o,_,_,r,_⟩:=z; rw [q] at r; cases r| set S n=>intro z; obtain ⟨o,_,_,_,r,_⟩:=z; rw [q] at r; cases r| ins C dx fs=>intro z; obtain ⟨_,_,_,r,_⟩:=z; rw [q] at r; cases r| own y=>intro z; obtain ⟨_,r⟩:=z; rw [q] at r; cases r| xd fs=>intro z; obtain ⟨_,⟨_,_,_,r,_⟩,_⟩:=z; rw [q] at r; cases r| rng lo hi=>intro z; obtain ⟨_,_,_,r⟩:=z; rw [q] at r; cases r| qP ob u=>intro z; obtain ⟨r,_⟩:=z; rw [q] at r; cases r| Cp ps=>intro z; have r:s.heap.get? b=some _:=z; rw [q] at r; cases r| met f y=>intro z; have r:s.heap.get? b=some _:=z; rw [q] at r; cases r| ext DG=>intro z; obtain ⟨_,⟨_,r⟩,_⟩:=z; rw [q] at r; cases r
variable{K:cH}{h:bD}{C:au}
theorem anc{newId:String}(X:K.In h)(q:Dg K C bmB newId=true):
   ∃(nm qn:Str)(N:au)(bs bm:List aB)(hd:Bool)(sn:List Str)(sub:List aB)(ab:Bool)(col:Option Bool)(dd:Option au)(k0 k1 k2 k3 k5:Option aB)(mN:Str->Option aB),
     h.get? C=some (excClassObj nm qn C N bs bm hd sn sub ab col dd k0 k1 k2 k3 k5 newId)/\h.Ns N mN/\mN "__init__" = none/\OwnTail h bmB bm:=by
 unfold Dg at q;split at q
 case h_1 dd cd sl ho =>
   split at q
   case h_1 C' bm k0 k1 k2 k3 n k5 hm hs =>
     obtain ⟨q,hni⟩:=pU.mp q;obtain ⟨q,hok⟩:=pU.mp q;obtain ⟨q,ht⟩:=pU.mp q;obtain ⟨q,hdel⟩:=pU.mp q;obtain ⟨q1,q2⟩:=pU.mp q;have q1:=beq_iff_eq.mp q1;have q2:=beq_iff_eq.mp q2;have hni:=beq_iff_eq.mp hni;subst q1 q2;obtain ⟨nm,bs,mro,ns,qn,hd,sn,sub,ab,col,del⟩:=cd;have hm2:mro=bI C' :: bm:=hm;have anB:del=false:=by simpa using hdel
     subst hm2 anB
     have hsl:sl=#[k0,k1,k2,k3,some (.builtin n),k5]:=by
       cases sl with
       | mk l=>exact fG Array.mk hs
     subst hsl;exact ⟨nm,qn,ns,bs,bm,hd,sn,sub,ab,col,dd,k0,k1,k2,k3,k5,_,X _ _ ho,.of_isNs (PySem.W.isNs_of_in X hok),PySem.W.nsMap_none_of_in X hok hni,PySem.W.tail_of_in X ht⟩
   case h_2=>cases q
 case h_2=>cases q
def Ac(X:Cx)(E:XK):Prop:=X.stack=X.env :: X.outer/\X.env.frame=some X.env.locals/\X.ex=[]/\X.calm=true /\
 ∀ e s',aF (aR X.prog X.w) X.A (leaving X.env e) (λ_ s2=>j7 X.prog X.w X.outer X.H₀ X.s₀ E e s2) (λe' s2=>j7 X.prog X.w X.outer X.H₀ X.s₀ E e' s2) s'->X.xe e s'
variable{P:dX}{w:cU}{A:iw}
theorem Gh{mg:Str->Option aB}{base:bD}{N:List Str}{qual:Str}{scope:Scope}{f:au}{cd:aB}{outer:List Env}{E:XK}:
   Ac (wK (j7 P w) P w K mg base N qual scope f cd A outer s H E) E:=⟨rfl,rfl,rfl,rfl,λ_ _ h=>h⟩
section
variable{X:Cx}{E:XK}{x:Str}{C:au}{np cpos pos:Pos}{e:Expr}{es:List Expr}{t:TA}
def akx(C:au)(E:XK)(t:TA):TS:=λ_ aj H=>t aj H λvs H1=>vs.length<=aL/\E (.ref C) none H1
theorem V4(L:Ac X E)(oc:Dg X.K C [.type "ValueError",.type "Exception",.type "BaseException",.type "object"] "ValueError.__new__" = true)(hg:Gl X x)(hm:X.mg x=some (.ref C))(ha:PA X (e :: es) t)(hdb:(x == ("__debug__" : Str))=false:=by decide)(he:dO (e :: es) X.env=(false,eval e X.env) :: dO es X.env:=by rfl)(hpl:(backTo cpos (dO es X.env)).any (·.1)=false:=by rfl):
   PS X (.Raise (some (.Call (.Name x np) (e :: es) [] cpos)) none pos) (akx C E t):=by
 intro ak s aj H D I h;obtain ⟨hst,hf,hex,hcalm,mU⟩:=L;obtain ⟨nm,qn,N,bs,bm,hd,sn,sub,ab,col,dd,k0,k1,k2,k3,k5,mN,hC,hN,hni,hT⟩:=anc I.mod.kin oc
 have hpl':(backTo cpos (dO (e :: es) X.env)).any (·.1)=false:=by
   rw [he];show (false || (backTo cpos (dO es X.env)).any (·.1))=false;rw [hpl]; rfl
 refine wpAny_Raise_call_subT (C:=C) (nm:=nm) (q:=qn) (N:=N) (bs:=bs) (bm:=bm) (hdct:=hd) (sn:=sn) (sub:=sub) (ab:=ab) (col:=col) (dd:=dd) (k0:=k0) (k1:=k1) (k2:=k2) (k3:=k3) (k5:=k5) (mN:=mN) PySem.F.excBase_ValueError (hT.hasType (by decide)) (I.ok.hd hcalm) hpl' hni (KQ I hg hm ⟨rfl,?_⟩ hdb);have h1:=ha cpos ak s aj H _ I h;rw [he] at h1 |-;refine K6 (bL h1 λus s2 z=>?_);obtain ⟨vs,H2,I2,rv,hl,hE⟩:=z;refine ⟨rfl,by rw [<- rv.length]; exact hl,I2.bk _ _ hC,hN.keeps I2.bk,hT.keeps I2.bk,λh' a hme=>mU _ _ ?_⟩;have hfr:X.A.frames=some (X.env :: X.outer):=by rw [<- hst]; exact I.ok.frames
 have hFF:s2.heap.FunFrames (Dn s2.heap (frs X.stack)) (X.env :: X.outer):=by
   have z:=PySem.W.funFrames_hide (as:=frs X.stack) I2.stack (λenv he a ha=>IV.mpr ⟨env,he,ha⟩);rw [hst] at z |-;exact z
 refine wpAny_leaves_madeW (base:=Dn s2.heap (frs X.stack)) (h:=s2.heap) hfr hf (λb o z=>GQ _ z) hFF hme λh2 tt fl tup nt up=>?_
 have hk:∀ b o,s2.heap.get? b=some o->b ∉ frs X.stack->h2.get? b=some o:=λb o q nb=>fl.1 b o (Mr _ q nb)
 obtain ⟨un,hok⟩:=I2.out hex hk (λb o q hb=>by
   obtain ⟨_,o',ho',nf⟩:=I2.stack.mem hb;rw [q] at ho'; cases ho'
   exact up b o (hme.keeps b o q) nf)
 refine ⟨a,C,tt,_,H2,rfl,I2.os,I2.bare,un,hok,fl,λb o q nb hb=>?_,?_,hE⟩
 . rcases hb with ⟨u,hu⟩ | ⟨u,hu⟩
   . obtain ⟨o2,e2⟩:=I2.there hu;have z:=hk b o2 e2 (I2.track hu);rw [q] at z; cases z;exact Mr _ e2 (I2.track hu)
   . obtain ⟨o2,e2⟩:=I2.base.there b u hu (by rw [hex]; simp);have Cz:=I2.old hu nb;have z:=hk b o2 e2 Cz;rw [q] at z; cases z;exact Mr _ e2 Cz
 . cases z:H2 a with
   | none=>rfl
   | some u =>
     obtain ⟨o,eo⟩:=I2.there z;rw [hme.new] at eo; cases eo
theorem ab0(L:Ac X E):Passes (j7 X.prog X.w) X E:=by intro ak aj H s e s' I h;obtain ⟨hst,hf,hex,hcalm,mU⟩:=L;obtain ⟨a,C,tt,B,H2,rfl,hos,bare,un,hok,fl,cov,na,hE⟩:=h;refine mU _ _ ?_;have I2:Inv X ak aj H2 s':=I.call' (ch:=[]) hos un hok bare (λb z=>by simp at z);have hfr:X.A.frames=some (X.env :: X.outer):=(by rw [<- hst]; exact I.ok.frames);have jX:=fl;rw [hst] at jX;refine wpAny_leaves_onW hfr hf jX λh2 lX up=>?_;have hst':∀ b o,s'.heap.get? b=some o->b ∉ frs X.stack->((∃ u,H2 b=some u)\/∃ u,X.s₀.heap.get? b=some u)->h2.get? b=some o:=λb o q nb hb=>lX.1 b o (cov b o q nb (hb.imp id λz=>by obtain ⟨u,hu⟩:=z;exact I.base.there b u hu (by rw [hex]; simp)));have nx:∀ b:au,b ∉ X.ex:=λb=>(by rw [hex]; simp);refine ⟨a,C,tt,B,H2,rfl,I2.os,I2.bare,⟨λb o q n hb _=>?_,λb o q n hb _=>?_,λb o q n _=>I2.base.free b o q n (nx b),λb o q _=>?_,I2.base.aK,I2.base.qx,I2.base.sJ⟩,λb u hu=>?_,lX,λb o q nb hb=>?_,na,hE⟩;exact hst' b o (I2.base.keep b o q n hb (nx b)) (I2.old q hb) (.inr ⟨o,q⟩);obtain ⟨sl,e1⟩:=I2.base.slot b o q n hb (nx b);by_cases z:b∈frs X.stack;obtain ⟨_,o',ho',nf⟩:=I2.stack.mem z;rw [e1] at ho'; cases ho';obtain ⟨sl2,e2⟩:=up b _ e1 nf;exact ⟨sl2,e2⟩;exact ⟨sl,hst' b _ e1 z (.inr ⟨o,q⟩)⟩;obtain ⟨o2,e1⟩:=I2.base.there b o q (nx b);by_cases z:b∈frs X.stack;obtain ⟨_,o',ho',nf⟩:=I2.stack.mem z;rw [e1] at ho'; cases ho';obtain ⟨sl2,e2⟩:=up b _ e1 nf;exact ⟨_,e2⟩;exact ⟨_,hst' b _ e1 z (.inr ⟨o,q⟩)⟩;refine (I2.hok b u hu).stay (λc v hc q=>?_) (λ_ q=>q) λ_ _ q=>q;rcases hc with rfl | hc;exact hst' c v q (I2.track hu) (.inl ⟨_,hu⟩);exact hst' c v q (I2.track hc) (.inl ⟨_,hc⟩);have Cz:b ∉ frs X.stack:=(by rcases hb with ⟨u,hu⟩ | ⟨u,hu⟩;exact I2.track hu;exact I2.old hu nb);obtain ⟨o2,e1⟩:∃ o2,s'.heap.get? b=some o2:=(by rcases hb with ⟨u,hu⟩ | ⟨u,hu⟩;exact I2.there hu;exact I2.base.there b u hu (nx b));have z:=hst' b o2 e1 Cz hb;rw [q] at z; cases z;exact cov b o e1 Cz (hb.imp id λz=>by obtain ⟨u,hu⟩:=z;exact I.base.there b u hu (nx b))
end
section
variable{X:Cx}{ak:List (au × Obj)}{aj:St}{H:Hp}{s:aH}
variable{E:aB->aH->Prop}
theorem Qe{M:Hw}{i:Nat}{x:Str}{pos:Pos}{Q:Unit->aH->Prop}(I:Inv X ak aj H s)(hN:X.N.Nodup)(hi:X.N[i]?=some x)(hk:X.env.scope.names.lookup x=some .local)(h:∀ s',Inv X ak (aj.set i none) H s'->Q () s'):aF M A (do bindName X.env x .none; unbindBehindTheSuite X.env x pos) Q E s:=by obtain ⟨m,hn,hl⟩:=id I.loc;have Py:i<aj.length:=(by rw [I.len]; exact (mK.mp hi).1);refine wpAny_nameGoes_keeps hk hn (by rw [I.ok.kind]; rfl) λh' v hn' hs=>h _ ?_;have far:∀{b:au}{o:Obj},X.s₀.heap.get? b=some o->h'.get? b=s.heap.get? b:=λe=>hs.2 _ (dU (kO (bW e) I.ok.above));refine ⟨I.ok,I.os,I.bare,⟨λb o e n hb hx=>(far e).ao (I.base.keep b o e n hb hx),λb o e n hb hx=>?_,I.base.free,λb o e hx=>?_,I.base.aK,I.base.qx,I.base.sJ⟩,⟨_,hn',λj y v' e1 e2 e3=>?_⟩,λy c e=>?_,I.free,I.oO,λp hp=>?_,λb ob e=>?_,by rw [Ad]; exact I.len⟩;obtain ⟨sl,e1⟩:=I.base.slot b o e n hb hx;exact ⟨sl,(far e).ao e1⟩;obtain ⟨o',e1⟩:=I.base.there b o e hx;exact ⟨o',(far e).ao e1⟩;by_cases hj:j=i;subst hj;rw [Hq Py] at e2;cases e2;rw [DK (gQ hj)] at e2;obtain ⟨u',r',q⟩:=hl j y v' e1 e2 e3;refine ⟨u',r',?_⟩;rcases q with ⟨k,e⟩ | ⟨k,c,e,z⟩;refine .inl ⟨k,?_⟩;have ny:y≠x:=λe=>hj (XC hN e1 (e ▸ hi));show (if y=x then v else m y)=some u';rw [aV ny]; exact e;exact .inr ⟨k,c,e,z.sameBut hs (I.zp y c e)⟩;obtain ⟨w',z⟩:=I.cell y c e;exact ⟨w',z.sameBut hs (I.zp y c e)⟩;obtain ⟨e,n,ne,nf,d⟩:=I.pin p hp;exact ⟨(hs.2 p.1 ne).ao e,n,ne,nf,d⟩;refine (I.hok b ob e).stay (λc w' hc q=>(hs.2 c ?_).ao q) (λ_ q=>q) λ_ _ q=>q;intro z;subst z;rcases hc with hc | hc;rw [<- hc,I.free] at e; cases e;rw [I.free] at hc; cases hc
abbrev Cx.marked(X:Cx)(a:au)(E:aB->aH->Prop):Cx:={ X with A:=X.A.mark (some (.ref a)),calm:=false,xe:=E }
theorem Cx.Ok.marked(ok:X.Ok)(a:au)(E:aB->aH->Prop):(X.marked a E).Ok :=
 ⟨ok.mod,ok.kind,ok.glob,ok.blt,ok.above,ok.inj,ok.has,ok.cab,(λz=>nomatch z),ok.frames,ok.stk,ok.zq,ok.bs,ok.zM,ok.Iw,ok.BX,ok.vR,ok.frf⟩
theorem Inv.marked(I:Inv X ak aj H s)(a:au)(E:aB->aH->Prop):Inv (X.marked a E) ak aj H s:=⟨I.ok.marked a E,I.os,I.bare,I.base,I.loc,I.cell,I.free,I.oO,I.pin,I.hok,I.len⟩
variable{a:au}
theorem Inv.unmarked(ok:X.Ok)(I:Inv (X.marked a E) ak aj H s):Inv X ak aj H s:=⟨ok,I.os,I.bare,I.base,I.loc,I.cell,I.free,I.oO,I.pin,I.hok,I.len⟩
def xJ(a C:au)(h:bD):Prop:=∃ o vs,h.get? a=some o/\o.cls=.ref C/\o.data=.fields vs
def yV(a C:au):HO:=.ext (xJ a C)
theorem ag7(e:xJ a C h):gV P w H h a (yV a C):=by refine ⟨e,?_,λh1 h2 p k=>?_⟩;obtain ⟨o,_,e,_⟩:=e; exact ⟨o,e⟩;obtain ⟨o,vs,e,r⟩:=p;exact ⟨o,vs,k o e,r⟩
variable{l:List Env}{H1 H2:Hp}{h1 h5:bD}
theorem ahu{B G:bD}(un:Un (frs l) [] H1 H2 h1 h2)(hok:eG P w H2 h2)(fr:∀ b∈frs l,H2 b=none)(ff:h2.FunFrames G l)(cov:∀ b o,h2.get? b=some o->b ∉ frs l->((∃ u,H2 b=some u)\/∃ u,h1.get? b=some u)->B.get? b=some o)(st:B.StaysIn h5)(up:h2.UpToSlots h5):Un (frs l) [] H1 H2 h1 h5/\eG P w H2 h5:=by refine ⟨⟨λb o q n hb hx=>st b o (cov b o (un.keep b o q n hb hx) hb (.inr ⟨o,q⟩)),λb o q n hb hx=>?_,un.free,λb o q hx=>?_,un.aK,un.qx,un.sJ⟩,λa o e=>?_⟩;obtain ⟨sl,e⟩:=un.slot b o q n hb hx;obtain ⟨_,o',ho',nf⟩:=ff.mem hb;rw [e] at ho'; cases ho';obtain ⟨sl2,e2⟩:=up b _ e nf;exact ⟨sl2,e2⟩;obtain ⟨o2,e⟩:=un.there b o q hx;by_cases hb:b∈frs l;obtain ⟨_,o',ho',nf⟩:=ff.mem hb;rw [e] at ho'; cases ho';obtain ⟨sl2,e2⟩:=up b _ e nf;exact ⟨_,e2⟩;exact ⟨_,st b _ (cov b _ e hb (.inr ⟨o,q⟩))⟩;have nf:∀{b u},H2 b=some u->b ∉ frs l:=λ{b u} z y=>(by rw [fr b y] at z; cases z);refine (hok a o e).stay (λb u hb q=>?_) (λ_ q=>q) λ_ _ q=>q;rcases hb with hb | hb;subst hb; exact st b u (cov b u q (nf e) (.inl ⟨_,e⟩));exact st b u (cov b u q (nf hb) (.inl ⟨_,hb⟩))
theorem alK(un:Un (frs l) [] H1 H2 h1 h5)(hok:eG P w H2 h5)(na:H2 a=none)(n1:h1.get? a=none)(e:xJ a C h5): Un (frs l) [] H1 (upd H2 a (yV a C)) h1 h5/\eG P w (upd H2 a (yV a C)) h5:=by refine ⟨⟨un.keep,un.slot,λb o q n hx=>?_,un.there,λb xs q=>?_,λb o u q=>?_,λb ps q=>?_⟩,λb u q=>?_⟩;rw [bx (λz=>by rw [z,n1] at q; cases q)];exact un.free b o q n hx;have z:=un.aK b xs q;rw [bx (cg z na)]; exact z;have z:=un.qx b o u q;rw [bx (cg z na)]; exact z;obtain ⟨more,z⟩:=un.sJ b ps q;exact ⟨more,by rw [bx (cg z na)]; exact z⟩;by_cases hb:b=a;subst hb;rw [aZ] at q; cases q;exact ag7 e;rw [bx hb] at q;exact (hok b u q).stay (λ_ _ _ r=>r) (λc r=>by rw [bx (cg r na)]; exact r) λc xs r=>by rw [bx (cg r na)]; exact r
end
end L2
namespace L2
open PySem PySem.Spec PySem.W PyProof.Rows PySem.Builtin PySem.Builtin.ObjectAttr PySem.Builtin.Getset_descriptor
section
variable{prog:dX}{w:cU}{A:iw}{E:aB->aH->Prop}{K:cH}{h:bD}{g:Array GP}{d:Drawn}{t:Nat}{os:OsState}{a C:au}
def vI(K:cH)(C:au):Bool:=findIn K (.ref C) "__getattribute__" == some (some (.builtin "BaseException.__getattribute__")) && findIn K (.ref C) "__getattr__" == some none && findIn K (.ref C) "__class__" == some (some (.builtin "object.__class__")) &&
 mroIn K C (.type "object") == some true && subIn K (.ref C) (.type "BaseException") == some true && (clsIn K C).isSome
theorem Ep(e:vI K C=true):findIn K (.ref C) "__getattribute__" = some (some (.builtin "BaseException.__getattribute__"))/\findIn K (.ref C) "__getattr__" = some none/\findIn K (.ref C) "__class__" = some (some (.builtin "object.__class__")) /\ mroIn K C (.type "object")=some true/\subIn K (.ref C) (.type "BaseException")=some true/\(clsIn K C).isSome=true:=by unfold vI at e;simp only [CZ,beq_iff_eq] at e;obtain ⟨⟨⟨⟨⟨e1,e2⟩,e3⟩,e4⟩,e5⟩,e6⟩:=e;exact ⟨e1,e2,e3,e4,e5,e6⟩
theorem Kg{M:Hw}(p:xJ a C h):Ay M h (typeOf (.ref a)) (.ref C):=by obtain ⟨o,_,e1,e2,_⟩:=p;exact e2 ▸ (Looks.ld e1).andThen .now
variable{R:xO->aH->Prop}
theorem am3{tp:aB}(X:K.In h)(p:xJ a C h)(e:vI K C=true)(hq:R (.ok (.ret (.ref C))) ⟨h,g,d,t,os⟩): kI (aR prog w) A (.call (.builtin "getset_descriptor.__get__") ⟨[.builtin "object.__class__",.ref a,tp],[]⟩) R ⟨h,g,d,t,os⟩:=by have L0:Ay (aR prog w) h (typeOf (.ref a)) (.ref C):=Kg p;have L1:=looks_mroIn (M:=aR prog w) X (Ep e).2.2.2.1;refine O1 (PySem.W.KF.slot_gs.plain) (PySem.W.KF.entry_gs) (PySem.W.KF.slot_gs.check _ _ _ _ _ _ _ _ PySem.W.KF.type_class (PySem.W.KF.args_gs _ _ _) ?_);unfold jr.«getset_descriptor.__get__»; unfold descrGet;rw [dga_obj]; refine aA (aO ?_);unfold descrGetter; unfold descrCheckInstance descrNameAndClass; unfold isInstance;simp only [PySem.W.KF.owner_class];(repeat lk);refine ⟨aai _ (by decide +kernel),sZ (PySem.W.KF.entry_class) ?_⟩;unfold jr.«object.__class__»; unfold shownTypeOf;(repeat lk);exact hq
theorem amU{tk:Tok}{Q:Fin->aH->Prop}(X:K.In h)(p:xJ a C h)(e:vI K C=true)(hq:Q (.done (.ret (.ref C))) ⟨h,g,d,t,os⟩): aF (aR prog w) A (jr.«object.__getattribute__» ⟨[.ref a,.str "__class__" tk],[]⟩) Q E ⟨h,g,d,t,os⟩:=by have L0:Ay (aR prog w) h (typeOf (.ref a)) (.ref C):=Kg p;have L1:=Tq (M:=aR prog w) X (Ep e).2.2.1;have L5:Ay (aR prog w) h (typeOf (.builtin "object.__class__")) (.type "getset_descriptor"):=Tw F.typeOf_object_class;have L6:Ay (aR prog w) h (typeLookup (.type "getset_descriptor") "__get__") (some (.builtin "getset_descriptor.__get__")):=Tw F.slot_gs_get.lookup;have L7:=Tw (M:=aR prog w) (h:=h) F.slot_gs_set.lookup;unfold jr.«object.__getattribute__»;(repeat ((fail_if_success (with_reducible show aF _ _ (call _ _) _ _ _)); (first | lk | wp_step)));refine Gm (am3 X p e ?_);repeat (any_goals (first | assumption | wp_step))
theorem amw{tk:Tok}(X:K.In h)(p:xJ a C h)(e:vI K C=true)(hq:R (.ok (.ret (.ref C))) ⟨h,g,d,t,os⟩): kI (aR prog w) A (.call (.builtin "BaseException.__getattribute__") ⟨[.ref a,.str "__class__" tk],[]⟩) R ⟨h,g,d,t,os⟩:=by refine O1 PySem.F.excAttr_ValueError.ga.plain F.entry_bexc_ga ?_;have hk:builtinKind "BaseException.__getattribute__" = some .slot:=(by decide +kernel);have hsplit:splitId "BaseException.__getattribute__" = some ("BaseException","__getattribute__"):=(by decide +kernel);have ha:=F.args_bexc_ga (.ref a) (.str "__class__" tk);have L0:Ay (aR prog w) h (typeOf (.ref a)) (.ref C):=Kg p;have L1:=looks_subIn (M:=aR prog w) X (Ep e).2.2.2.2.1;simp only [checkBuiltinCall,hk,hsplit];refine aA ?_;unfold isInstance;(repeat ((fail_if_success (with_reducible show aF _ _ (jr.«object.__getattribute__» _) _ _ _)); (first | lk | wp_step)));refine amU X p e ?_;exact hq
theorem akV{Q:Option aB->aH->Prop}(X:K.In h)(p:xJ a C h)(e:vI K C=true)(hq:Q (some (.ref C)) ⟨h,g,d,t+1,os⟩): aF (aR prog w) A (getAttr? (.ref a) "__class__") Q E ⟨h,g,d,t,os⟩:=by have L0:Ay (aR prog w) h (typeOf (.ref a)) (.ref C):=Kg p;have L1:=Tq (M:=aR prog w) X (Ep e).1;have L2:=Tq (M:=aR prog w) X (Ep e).2.1;have f3:=PySem.F.excAttr_ValueError.ga.bind (.ref a);have hx2:(DW "BaseException.__getattribute__" == DW "object.__getattribute__")=false:=(by decide +kernel);have hx1:(onTheHeap (bI C) && DW "BaseException.__getattribute__" == DW "object.__getattribute__")=false:=(by rw [hx2]; exact aag _);unfold getAttr? getAttrBy?; unfold getAttrBy;refine aA (wpAny_mkText ?_);refine aA (BJ ?_);refine iR (aA (L0.at ?_));refine aA (L1.at ?_);dsimp only;rw [aV (by rw [hx1]; exact gO)];unfold getAttrByItsOwn;(repeat ((fail_if_success (with_reducible show aF _ _ (Sem.attempt _) _ _ _)); (first | lk | wp_step)));refine BJ (iR ?_);unfold callGetattribute;rw [aV (show ¬ ((false && onTheHeap (DW "BaseException.__getattribute__"))=true) from gO)];unfold boundAndCalled;rw [f3]; refine aA (aO ?_);refine Gm (amw X p e ?_);repeat (any_goals (first | assumption | wp_step))
theorem afG(e:vI K C=true):KitX K (.ref a) (.ref C) (xJ a C) where
 ty:=λ_ _ _ p=>Kg p
 it:=λ_ _ X _=>by
   obtain ⟨cd,hc⟩:=GD.mp (Ep e).2.2.2.2.2;unfold clsIn at hc;split at hc
   case h_1 ho =>
     intro A' Q' E' s' k q;unfold isType; unfold loadHead;exact aA (wpAny_loadPart (k _ _ (X _ _ ho)) (aO q))
   case h_2=>cases hc
 ne:=λh tp dd its n sl X htp=>by
   obtain ⟨cd,hc⟩:=GD.mp (Ep e).2.2.2.2.2;refine IW.mpr λq=>?_
   have z:C=tp:=Value.ref.inj (beq_iff_eq.mp q);subst z;unfold clsIn at hc;split at hc
   case h_1 ho=>cases (X _ _ ho).symm.ao htp
   case h_2=>cases hc
 ca:=λ{_ _ _ _ _ s} X p k=>by
   obtain ⟨h,g,d,t,os⟩:=s;exact akV X p e k
end
def af3(K:cH)(xs:List V)(H:Hp)(Q:VK):Prop:=QX5 λ(a C:au)(v:V)(u:aB)(b:Bool)=>uf (xs=[.ref a,v]) ((∀ u',cI v u'->u'=u)) (H a=some (yV a C)) (vI K C=true) (kitOne K (.ref C) u=some b) (Q (.bl b) H)
theorem anM{X:Cx}:jz X (.builtin "isinstance") (af3 X.K):=by intro ak s aj H xs us Q I r h;obtain ⟨a,C,v,u,b,rfl,hu,ha,ec,eb,q⟩:=h;obtain ⟨u1,u2,rfl,r1,r2⟩:=rR r;cases hu _ r2;have r1:u1=bI a:=r1;subst r1;obtain ⟨p,_⟩:=I.hok a _ ha;exact kia_one (afG ec) I.lO p eb (λz=>nomatch z) λtk=>⟨.bl b,H,I.tok tk,rfl,q⟩
end L2
namespace L2
open PySem PySem.Spec PyProof.Rows
section
variable{X:Cx}{k:Nat}{f S:au}{fd:oA}{ps:List Str}{sp:Sp}{oJ:List V}{ds:List aB}{x n c:Str}{fp cp ep np hp pos:Pos}{e:Expr}{es:List Expr}{t:TA}{i:Nat}{b0:cD}{suite:List cD}{ts:TS}
def ajX(K:cH)(S:au)(i j:Nat)(sp:Sp)(oJ:List V)(t:TA)(ts:TS):TS:=λD aj H=>t aj H λvs H1=>sp (vs++oJ) H1 (λy H2=>D.nx (aj.set j (some y)) H2)
 (λcl _ H2=>MN K cl (.ref S)=some true/\∀ a C,cl=.ref C->H2 a=none->ts { nx:=fun bJ H'=>D.nx (bJ.set i none) H',rt:=D.rt,bk:=fun bJ H'=>D.bk (bJ.set i none) H',ct:=fun bJ H'=>D.ct (bJ.set i none) H' } (aj.set i (some (.ref a))) (upd H2 a (yV a C)))
theorem alw{j:Nat}{y:Str}(F:bM X.prog X.w X.K X.mg X.base (j7 X.prog X.w) k f fd ps sp)(hr:jU k X.A)(hg:Gl X x)(hm:X.mg x=some (.ref f))(hk:vY X.K (.ref f)=true)(hb:dw X.K fd ps ds)(hd:bY oJ ds)(ha:PA X.nox (e :: es) t)(hst:X.stack=X.env :: X.outer)(hf:X.env.frame=some X.env.locals)(hN:X.N.Nodup)(hj:X.N[j]?=some y)(hy:Loc X.env.scope y)(hi:X.N[i]?=some n)(hl:X.env.scope.names.lookup n=some .local)(hgc:Gl X c)(hmc:X.mg c=some (.ref S))(hsu:∀ a E',qD (X.marked a E') (b0 :: suite) ts)(hdb:(x == ("__debug__" : Str))=false:=by decide)(hdc:(c == ("__debug__" : Str))=false:=by decide)(he:dO (e :: es) X.env=(false,eval e X.env) :: dO es X.env:=by rfl)(hpl:(backTo cp (dO es X.env)).any (·.1)=false:=by rfl)(hs:zO (.Call (.Name x fp) (e :: es) [] cp) (some (.Name y yp)) ep.line X.env=pure false:=by rfl)(hfy:X.fn y=true\/X.env.scope.names.lookup y=some .local:=by first | exact .inl rfl | exact .inr rfl | assumption):
   PS X (.Try [.Assign [.Name y yp] (.Call (.Name x fp) (e :: es) [] cp) ep] [.ExceptHandler (some (.Name c np)) (some n) (b0 :: suite) hp] [] [] pos) (ajX X.K S i j sp oJ t ts):=by
 intro ak s aj H D I h;refine wpAny_Try_except (Ws (afM ?_ hs));refine Ny (KQ I hg hm ?_ hdb);refine aga (h₀:=X.base) I.ok.mod.kin hk (ju (ha cp ak s aj H _ (I.wish _) h) (λus s1 z=>?_) λ_ _ z=>qp z) he hpl;obtain ⟨vs,H1,I1,r,q⟩:=z;have I1:=I1.wj;refine ⟨I1.lO,?_⟩;have r2:bY (vs++oJ) (us++ds):=r.append hd;have hlen:(us++ds).length=ps.length:=by rw [<- r2.length]; exact F.len _ _ _ _ q
 refine Gm (uD (F.run X.A X.stack s1 H1 ⟨us,[]⟩ (us++ds) (vs++oJ) _ _ hr I1.env0 (hb s1 us I1.lO hlen) r2 q) λres s' hq=>?_);cases res with
 | ok fl =>
   cases fl with
   | ret u =>
     obtain ⟨v,H2,I2,rv,q2⟩:=I1.after hq;exact Fl I2 hN hj hy rv (λs2 I3=>Jk (Jk ⟨_,H2,I3,q2⟩)) hfy
   | next=>exact qp hq
   | brk=>exact qp hq
   | cont=>exact qp hq
 | error ex =>
   obtain ⟨a,C,tt,B,H2,rfl,hos,bare,un,hok,fl,cov,na,hmt,hts⟩:=hq;obtain ⟨h2,g',d',t',o'⟩:=s';have hos:o'=s1.os:=hos;subst hos;have I2:Inv X ak aj H2 ⟨h2,g',d',t',s1.os⟩:=I1.call (ch:=[]) un hok bare (λb z=>by simp at z);have hfr:X.A.frames=some (X.env :: X.outer):=by rw [<- hst]; exact I.ok.frames
   have jX:=fl;rw [hst] at jX;have ff:h2.FunFrames B X.stack:=fl.2.2.1
   have n1:s1.heap.get? a=none:=by
     cases z:s1.heap.get? a with
     | none=>rfl
     | some u =>
       obtain ⟨oe,ws,hoe,_,hod,_⟩:=fl.first
       have nfa:a ∉ frs X.stack:=λy=>by
         obtain ⟨_,o',ho',nf⟩:=ff.mem y;rw [hoe] at ho'; cases ho';exact nf _ hod
       have:=cov a oe hoe nfa (.inr ⟨u,z⟩);rw [fl.2.1] at this; cases this
   have turn:∀(h5:bD)(tk:Nat),B.StaysIn h5->h2.UpToSlots h5->xJ a C h5->Inv X ak aj (upd H2 a (yV a C)) ⟨h5,g',d',tk,s1.os⟩:=λh5 tk st up ea=>by
     obtain ⟨u5,k5⟩:=ahu un hok (I2.PK) ff cov st up;obtain ⟨u6,k6⟩:=alK u5 k5 na n1 ea;exact I1.call (ch:=[]) u6 k6 bare (λb z=>by simp at z)
   have seen:∀{h5:bD}{l:List Env},O5 B l a (.ref C) (.ref tt) h5->xJ a C h5:=λz=>by
     obtain ⟨oe,ws,hoe,hoc,hod,_⟩:=z.first;exact ⟨oe,ws,hoe,hoc,hod⟩
   refine wpAny_looks_onW hfr hf jX λh4 ahB up4=>?_
   refine wpAny_landsW ahB λh5 fl5 up5=>?_
   have I5:=turn h5 t' fl5.1 (up4.ao up5) (seen fl5);refine wpAny_handleBy_cons (codeAny_handlers_test (KQ (X:=X.marked a λ_ _=>False) (I5.marked a _) hgc hmc ?_ hdc)) (by intro q; cases q)
   have LT:PySem.W.Looks (aR X.prog X.w) h5 (typeOf (.ref a)) (.ref C):=by
     obtain ⟨o,_,e1,e2,_⟩:=seen fl5;exact e2 ▸ (PySem.W.Looks.ld e1).andThen .now
   refine (PySem.W.exm_one (K:=X.K) I5.lO LT hmt).at ?_;refine codeAny_handlers_suite_as ?_;refine lands_againW fl5 λh6 fl6 up6=>?_
   have I6:=turn h6 t' fl6.1 ((up4.ao up5).ao up6) (seen fl6);refine Fl (v:=.ref a) I6 hN hi (.inl hl) rfl (λs7 I7=>?_) (.inr hl);refine bL (hsu a _ ak s7 _ _ _ (I7.marked a _) (hts a C rfl na)) λfw s8 q8=>?_
   cases fw with
   | next =>
     obtain ⟨Ni,H8,I8,q8⟩:=q8;exact Qe (I8.unmarked I.ok) hN hi hl λs9 I9=>⟨_,H8,I9,q8⟩
   | brk =>
     obtain ⟨Ni,H8,I8,q8⟩:=q8;exact Qe (I8.unmarked I.ok) hN hi hl λs9 I9=>⟨_,H8,I9,q8⟩
   | cont =>
     obtain ⟨Ni,H8,I8,q8⟩:=q8;exact Qe (I8.unmarked I.ok) hN hi hl λs9 I9=>⟨_,H8,I9,q8⟩
   | ret u =>
     obtain ⟨v8,Ni,H8,I8,r8,q8⟩:=q8;exact Qe (I8.unmarked I.ok) hN hi hl λs9 I9=>⟨v8,_,H8,I9,r8,q8⟩
end
variable{x:Str}{N:List Str}
theorem tG.okX{P:dX}{w:cU}{K:cH}{mg:Str->Option aB}{base:bD}{qual:Str}{st:cD}{f:au}{fd:oA}{ps:List Str}{k:Nat}{sp:Sp}(F:tG K x qual st f fd)(S:fB N ps (bN st))(len:∀ vs H Q E,sp vs H Q E->vs.length=ps.length)(hb:∀(cdv:aB)(A:iw)(outer:List Env)(s:aH)(H:Hp)(vs:List V)(Q:VK)(E:XK),jU k (A.deeper (envOfC qual (bN st) s.heap.objs.size f cdv))->sp vs H Q E -> ∃ t,qD (wK (j7 P w) P w K mg base N qual (bN st) f cdv A outer s H E) (yC st) t/\t { nx:=λ_ H'=>Q .non H',rt:=Q } (start N vs) H):bM P w K mg base (j7 P w) (k+1) f fd ps sp:=by obtain ⟨_,_,_,_,_,_,cdv,_,_,rfl,lk,hcd⟩:=F.ex;exact adU lk hcd S len λA outer s H vs Q E hr hsp=>hb cdv A outer s H vs Q E hr hsp
structure Way(B:bD)(l:List Env)(a:au)(cls a0 fl:aB)(h:bD):Prop where
 st:B.StaysIn h
 no:B.get? a=none
 ff:h.FunFrames B l
 tr:h.TracedAtW B a cls a0 fl
variable{B h:bD}{l:List Env}{a:au}{cls a0:aB}
theorem Way.akp(x:O5 B l a cls a0 h):Way B l a cls a0 .none h:=⟨x.1,x.2.1,x.2.2.1,x.2.2.2⟩
variable{Q:Unit->aH->Prop}{M:Hw}{A:iw}{E:aB->aH->Prop}{s:aH}{env:Env}{outer:List Env}{L:au}{fl:aB}
theorem acV(hfr:A.frames=some (env :: outer))(hf:env.frame=some L)(W:Way B (env :: outer) a cls a0 fl s.heap)(q:∀ h',Way B (env :: outer) a cls a0 (rawInt L) h'->s.heap.UpToSlots h'->Q () { s with heap:=h' }):aF M A (noteFrame (.ref a) env) Q E s:=by by_cases z:fl=rawInt L;subst z;exact wpAny_noteFrame_againW hf W.tr (q s.heap W (Heap.UpToSlots.refl _));obtain ⟨k1,k2,k3,oe,vs,T,oT,ts,he,⟨hc,h0⟩,hd,h1,nT,ne,hT,dT,h3⟩:=W;subst hc;unfold noteFrame;simp only [hf];refine aA (lU he hd h1 ?_);rw [bh (by simp)];refine aA (lU hT dT h3 ?_);rw [aV (by simpa using z)];refine aA (uK hT dT (WL.mp h3).1 ?_);have oth:∀ b,b≠T->(s.heap.update T (tQ (·.setIfInBounds 3 fM))).get? b=s.heap.get? b:=λb n=>Ef _ _ (gQ n);have nr:∀ b o,s.heap.get? b=some o->(∀ vs,o.data≠.fields vs)->b≠T:=λb o e n y=>(by rw [y,hT] at e; cases e; exact n ts dT);refine wpAny_entryW hfr (k3.of_keeps λb o e n=>⟨o,(oth b (nr b o e n)).ao e,rfl⟩) hf ((oth a ne.symm).ao he) (λb o e=>(oth b λy=>by rw [y,nT] at e; cases e).ao (k1 b o e)) k2 hd (WL.mp h1).1 h0 λh' y=>?_;obtain ⟨x1,x2,x3,x4⟩:=y;exact q h' ⟨x1,k2,x2,x3⟩ λb o e n=>x4 b o ((oth b (nr b o e n)).ao e) n
theorem ahz{fr:Option au}(W:Way B l a cls a0 fl s.heap)(q:∀ h' jX,Way B l a cls a0 jX h'->(∀ b o,s.heap.get? b=some o->(∀ vs,o.data≠.fields vs)->h'.get? b=some o)->Q () { s with heap:=h' }): aF M A (setFlight (.ref a) fr) Q E s:=by obtain ⟨k1,k2,k3,oe,vs,T,oT,ts,he,hc,hd,h1,nT,ne,hT,dT,h3⟩:=W;have l3:3<ts.size:=(WL.mp h3).1;unfold setFlight;refine aA (lU he hd h1 ?_);rw [bh (by simp)];have oth:∀ b,b≠T->(s.heap.update T (tQ (·.setIfInBounds 3 (fr.elim fM λf=>rawInt f)))).get? b=s.heap.get? b:=λb n=>Ef _ _ (gQ n);have nr:∀ b o,s.heap.get? b=some o->(∀ vs,o.data≠.fields vs)->b≠T:=λb o e n y=>(by rw [y,hT] at e; cases e; exact n ts dT);refine uK hT dT l3 (q _ (fr.elim fM λf=>rawInt f) ⟨λb o e=>(oth b λy=>by rw [y,nT] at e; cases e).ao (k1 b o e),k2,k3.of_keeps λb o e n=>⟨o,(oth b (nr b o e n)).ao e,rfl⟩,?_⟩ λb o e n=>(oth b (nr b o e n)).ao e);exact ⟨oe,vs,T,_,_,(oth a ne.symm).ao he,hc,hd,h1,nT,ne,vG _ hT (Yl (Gf dT _)),Gf dT _,by simp [l3]⟩
variable{aJ:Type}{w:String}{cenv:Env}
theorem aoa{Q:aJ->aH->Prop}(W:Way B l a cls a0 fl s.heap)(q:∀ h' jX,Way B l a cls a0 jX h'->(∀ b o,s.heap.get? b=some o->(∀ vs,o.data≠.fields vs)->h'.get? b=some o)->E (.ref a) { s with heap:=h' }): aF M A (QX w (.ref a) cenv:Sem aJ) Q E s:=by obtain ⟨oe,vs,T,oT,ts,he,hc,hd,h1,r⟩:=id W.tr;unfold QX;refine aA (lU he hd h1 ?_);rw [aV (by simp)];refine aA (ahz W λh' jX W' k=>?_);exact Jt (q h' jX W' k)
theorem alC(hfr:A.frames=some (env :: outer))(hf:env.frame=some L)(W:Way B (env :: outer) a cls a0 fl s.heap)(q:∀ h',O5 B outer a cls a0 h'->s.heap.UpToSlots h'->Q () { s with heap:=h' }):aF M A (leaving env (.ref a)) Q E s:=by unfold leaving;refine aA (acV hfr hf W λh1 W1 up=>?_);refine wpAny_landsW (L:=L) (s:={ s with heap:=h1 }) ⟨W1.st,W1.no,W1.ff,W1.tr⟩ λh2 lX up2=>?_;obtain ⟨k1,k2,⟨_,_,k3⟩,k4⟩:=lX;exact q h2 ⟨k1,k2,k3,k4⟩ (up.ao up2)
def yL(X:Cx)(E:XK)(a:au)(P:Hp->Prop)(s':aH):Prop:=QX8 λ(C t:au)(B:bD)(H2:Hp)(fl:aB)(ak:List (au × Obj))(aj:St)(s9:aH)=>QA9 (Inv X ak aj H2 s9) (s'.os=s9.os) (yG s'.gens) (Way B X.stack a (.ref C) (.ref t) fl s'.heap) ((∀ b o,s9.heap.get? b=some o->b ∉ frs X.stack->((∃ u,H2 b=some u)\/∃ u,X.s₀.heap.get? b=some u)->B.get? b=some o)) ((∀ b∈frs X.stack,∀ o,s9.heap.get? b=some o->∃ sl,s'.heap.get? b=some { o with slots:=sl })) (H2 a=none) (E (.ref C) none H2) (P H2)
variable{s':aH}{X:Cx}{E:XK}{P:Hp->Prop}
theorem yL.leaves(L:Ac X E)(h:yL X E a P s'):X.xe (.ref a) s':=by obtain ⟨hst,hf,hex,hcalm,mU⟩:=L;obtain ⟨C,tt,B,H2,fl,ak,aj,s9,I2,os,bare,W,cov,fu,na,hE,_⟩:=h;refine mU _ _ ?_;have hfr:X.A.frames=some (X.env :: X.outer):=(by rw [<- hst]; exact I2.ok.frames);have ffm:∀{b},b∈frs X.stack->∃ o,s'.heap.get? b=some o/\∀ vs,o.data≠.fields vs:=λhb=>(W.ff.mem hb).2;have W':=W;rw [hst] at W';refine alC hfr hf W' λh2 lX up=>?_;have nx:∀ b:au,b ∉ X.ex:=λb=>(by rw [hex]; simp);have hst':∀ b o,s9.heap.get? b=some o->b ∉ frs X.stack->((∃ u,H2 b=some u)\/∃ u,X.s₀.heap.get? b=some u)->h2.get? b=some o:=λb o q nb hb=>lX.1 b o (cov b o q nb hb);have fr2:∀ b o,b∈frs X.stack->s9.heap.get? b=some o->∃ sl,h2.get? b=some { o with slots:=sl }:=λb o hb q=>(by obtain ⟨sl,e1⟩:=fu b hb o q;obtain ⟨o',ho',nf⟩:=ffm hb;rw [e1] at ho'; cases ho';obtain ⟨sl2,e2⟩:=up b _ e1 nf;exact ⟨sl2,e2⟩);refine ⟨a,C,tt,B,H2,rfl,os.ao I2.os,bare,⟨λb o q n hb _=>?_,λb o q n hb _=>?_,λb o q n _=>I2.base.free b o q n (nx b),λb o q _=>?_,I2.base.aK,I2.base.qx,I2.base.sJ⟩,λb u hu=>?_,lX,λb o q nb hb=>?_,na,hE⟩;exact hst' b o (I2.base.keep b o q n hb (nx b)) (I2.old q hb) (.inr ⟨o,q⟩);obtain ⟨sl,e1⟩:=I2.base.slot b o q n hb (nx b);by_cases z:b∈frs X.stack;obtain ⟨sl2,e2⟩:=fr2 b _ z e1;exact ⟨sl2,e2⟩;exact ⟨sl,hst' b _ e1 z (.inr ⟨o,q⟩)⟩;obtain ⟨o2,e1⟩:=I2.base.there b o q (nx b);by_cases z:b∈frs X.stack;obtain ⟨sl2,e2⟩:=fr2 b _ z e1;exact ⟨_,e2⟩;exact ⟨_,hst' b _ e1 z (.inr ⟨o,q⟩)⟩;refine (I2.hok b u hu).stay (λc v hc q=>?_) (λ_ q=>q) λ_ _ q=>q;rcases hc with rfl | hc;exact hst' c v q (I2.track hu) (.inl ⟨_,hu⟩);exact hst' c v q (I2.track hc) (.inl ⟨_,hc⟩);have Cz:b ∉ frs X.stack:=(by rcases hb with ⟨u,hu⟩ | ⟨u,hu⟩;exact I2.track hu;exact I2.old hu nb);obtain ⟨o2,e1⟩:∃ o2,s9.heap.get? b=some o2:=(by rcases hb with ⟨u,hu⟩ | ⟨u,hu⟩;exact I2.there hu;exact I2.base.there b u hu (nx b));have z:=hst' b o2 e1 Cz hb;rw [q] at z; cases z;exact cov b o e1 Cz hb
theorem afs{h h' B B':bD}{c:au}(sb:mD c h h')(le:∀ b,B.get? b=none->B'.get? b=none):∀{l:List Env},c ∉ frs l->h.FunFrames B l->h'.FunFrames B' l
 | [],_,_=>trivial
 | env :: rest,n,⟨hk,⟨L,o,hf,hn,ho,hd⟩,hr⟩=>by have e:frs (env :: rest)=L :: frs rest:=(by unfold frs; rw [uh,hf]);rw [e,dF,not_or] at n;exact ⟨hk,⟨L,o,hf,le L hn,(sb.2 L (gQ n.1)).ao ho,hd⟩,afs sb le n.2 hr⟩
theorem yL.let_go{c:au}{h':bD}{m:Str->Option aB}(A:yL X E a (λH=>H c=none) s')(hn:s'.heap.Ns c m)(hc:X.s₀.heap.objs.size<=c)(nf:c ∉ frs X.stack)(sb:mD c s'.heap h'):yL X E a (λ_=>True) { s' with heap:=h' }:=by obtain ⟨C,tt,B,H2,fl,ak,aj,s9,I2,os,bare,W,cov,fu,na,hE,un⟩:=A;have nc:∀ b o vs,s'.heap.get? b=some o->o.data=.fields vs->b≠c:=λb o vs e d z=>(by obtain ⟨o',es,ep,e',d',_⟩:=hn;rw [z,e'] at e; cases e;rw [d] at d'; cases d');refine ⟨C,tt,Dn B [c],H2,fl,ak,aj,s9,I2,os,bare,⟨λb o e=>?_,?_,afs sb (λb e=>?_) nf W.ff,?_⟩,λb o e nb hb=>?_,λb hb o e=>?_,na,hE,trivial⟩;have e':=GQ _ e;by_cases z:b=c;subst z;rw [afL [b] (by simp)] at e; cases e;exact (sb.2 b z).ao (W.st b o e');(cases z:(Dn B [c]).get? a with| none=>rfl| some o=>have:=GQ _ z; rw [W.no] at this; cases this);(cases z:(Dn B [c]).get? b with| none=>rfl| some o=>have:=GQ _ z; rw [e] at this; cases this);obtain ⟨oe,vs,T,oT,ts,he,hc',hd,h1,nT,ne,hT,dT,h3⟩:=W.tr;refine ⟨oe,vs,T,oT,ts,(sb.2 a (nc a _ _ he hd)).ao he,hc',hd,h1,?_,ne,(sb.2 T (nc T _ _ hT dT)).ao hT,dT,h3⟩;(cases z:(Dn B [c]).get? T with| none=>rfl| some o=>have:=GQ _ z; rw [nT] at this; cases this);refine Mr _ (cov b o e nb hb) λz=>?_;have z':b=c:=(by simpa using z);subst z';rcases hb with ⟨u,hu⟩ | ⟨u,hu⟩;rw [un] at hu; cases hu;exact bK (bW hu) (Nat.not_lt.mpr hc);obtain ⟨sl,e1⟩:=fu b hb o e;exact ⟨sl,(sb.2 b (λz=>nf (z ▸ hb))).ao e1⟩
theorem yL.pass{Q:aJ->aH->Prop}(L:Ac X E)(A:yL X E a P s'):aF M Ar (QX w (.ref a) cenv:Sem aJ) Q X.xe s':=by obtain ⟨C,tt,B,H2,fl,ak,aj,s9,I2,os,bare,W,cov,fu,na,hE,pp⟩:=A;refine aoa W λh' jX W' k=>yL.leaves (P:=P) L ⟨C,tt,B,H2,jX,ak,aj,s9,I2,os,bare,W',cov,λb hb o e=>?_,na,hE,pp⟩;obtain ⟨sl,e1⟩:=fu b hb o e;obtain ⟨_,o',ho',nf⟩:=W.ff.mem hb;rw [e1] at ho'; cases ho';exact ⟨sl,k b _ e1 nf⟩
section
variable{X:Cx}{tg iter elt:Expr}{ifs:List Expr}{scope bQ:Scope}{pos:Pos}{own cap:List Str}{ix:List Nat}{wi:TI}{g:BI->TG}{tt:BI->TT}{te:BI->TE}{E:XK}
def inB(X:Cx)(scope:Scope)(N:List Str)(b:BI)(E:XK):aB->aH->Prop:=λe s'=>∃(ak:List (au × Obj))(aj:St)(H:Hp)(s:aH),Inv (blk X scope N b) ak aj H s/\j7 X.prog X.w X.stack H s E e s'
abbrev Qk(X:Cx)(scope:Scope)(N:List Str)(b:BI)(E:XK):Cx:=(blk X scope N b).wish (inB X scope N b E)
theorem aj4{b:BI}:Passes (j7 X.prog X.w) (Qk X scope N b E) E:=λak aj H s e s' I h=>⟨ak,aj,H,s,I.wj,h⟩
variable{ak:List (au × Obj)}{aj:St}{H:Hp}
theorem Inv.adh(I:Inv X ak aj H s):Inv X [] aj H s:=⟨I.ok,I.os,I.bare,I.base,I.loc,I.cell,I.free,I.oO,λp hp=>I.pin p (yr _ (by simpa using hp)),I.hok,I.len⟩
variable{fp:List au}
theorem raised{e:aB}{End:aB->aH->Prop}(Lv:Ac X E)(I:Inv X ak aj H s)(hf:∀ b∈fp,jA X ak H b)(hx:inB X scope (own++cap) (gb X ak s H scope fp) E e s9): notedBy (aR X.prog X.w) X.A (uc scope (qX X s scope) s.heap.objs.size X.env) (λe s'=>End e s'\/∃ a,(Except.error e:xO)=.error (.ref a)/\yL X E a (λH'=>H' s.heap.objs.size=none) s'/\∃ m,s'.heap.Ns s.heap.objs.size m) e s9:=by obtain ⟨Q8,bJ,Hc,sc,J,a,C,t,B,H2,rfl,hos,bare,un,hok,fl,cov,na,hE⟩:=hx;obtain ⟨hst,hfr,hex,hcalm,mU⟩:=Lv;have J9:Inv (blk X scope (own++cap) (gb X ak s H scope fp)) Q8 bJ H2 s9:=J.call' (ch:=[]) hos un hok bare (λb z=>by simp at z);have IX:Inv X ak aj H2 s9:=Lg I hf J9.adh (Kr ..);have IC:Inv X ak aj Hc sc:=Lg I hf J.adh (Kr ..);have hA:X.A.frames=some (X.env :: X.outer):=(by rw [<- hst]; exact I.ok.frames);have W:=Way.akp fl;have W':=W;rw [hst] at W';show aF _ _ (noteFrame (.ref a) X.env) _ _ s9;refine acV hA hfr W' λh4 W4 up=>.inr ⟨a,rfl,⟨C,t,B,H2,_,ak,aj,s9,IX,rfl,bare,by rw [hst]; exact W4,λb o q nb hb=>cov b o q nb (hb.imp id λz=>?_),λb hb o q=>?_,na,hE,J9.free⟩,?_⟩;obtain ⟨u,hu⟩:=z;exact IC.base.there b u hu (by rw [hex]; simp);obtain ⟨_,o',ho',nf⟩:=W.ff.mem hb;rw [q] at ho'; cases ho';exact up b _ q nf;obtain ⟨m,hn,_⟩:=J9.loc;exact ⟨m,up.ns hn⟩
theorem ahd{J:It}{it D:au}{tn:Nat->bD->Prop}{End:Hp->Prop}{W:Nat->Nat->Hp->Prop}{m0:Nat}{s4:aH}(Lv:Ac X E)(S:m6 bQ scope X.N own cap ix)(hX:X.env.scope=bQ)(I:Inv X ak aj H s)(hf:∀ b∈fp,jA X ak H b)(hc:X.calm=true)(T:Turn X.prog X.w X.K tg J fp it tn)(hg:PG (blk X scope (own++cap) (gb X ak s H scope fp)) tg (g (gb X ak s H scope fp)))(ht:mQ (blk X scope (own++cap) (gb X ak s H scope fp)) ifs (tt (gb X ak s H scope fp)))(he:PE (Qk X scope (own++cap) (gb X ak s H scope fp) E) elt (te (gb X ak s H scope fp)))(hW:vN J (g (gb X ak s H scope fp)) (tt (gb X ak s H scope fp)) (oR D (te (gb X ak s H scope fp))) (nq own ix aj) End W)(I4:Inv (blk X scope (own++cap) (gb X ak s H scope fp)) [] (nq own ix aj) H s4)(uJ:tn 0 s4.heap)(w0:W 0 m0 H): kI (aR X.prog X.w) X.A (.compLoop (.ListComp elt [⟨tg,iter,ifs,0⟩] scope pos) 0 (.ref it) (.ref D) (uc scope (qX X s scope) s.heap.objs.size X.env)) (λr s'=>(∃ H' bJ,r=.ok .next/\Inv (blk X scope (own++cap) (gb X ak s H scope fp)) [] bJ H' s'/\End H')\/∃ a,r=.error (.ref a)/\yL X E a (λH'=>H' s.heap.objs.size=none) s'/\∃ m,s'.heap.Ns s.heap.objs.size m) s4:=by have stat:∀{H':Hp}{pl:List (au × Obj)},(∀ b∈fp,H' b=none)->(∀ p∈pl,p.1 ∉ fp)->∀ b∈fp,jA (blk X scope (own++cap) (gb X ak s H scope fp)) [] H' b:=λhn _ b hb=>(by refine ⟨hn b hb,(I4.ok.zq b hb).1,I4.ok.BX b hb,.inl hb,(I4.ok.zq b hb).2,λp hp=>?_⟩;have hp':p∈X.pn++ak:=(by rcases fQ.mp hp with z | z;exact z;exact nomatch z);exact (hf b hb).2.2.2.2.2 p hp');refine Z8 rfl (λn s'=>∃ i H',Inv (blk X scope (own++cap) (gb X ak s H scope fp)) [] (nq own ix aj) H' s'/\tn i s'.heap/\(∀ b∈fp,H' b=none)/\W i n H') ?_ m0 ⟨0,H,I4,uJ,λb hb=>(hf b hb).1,w0⟩;rintro n s3 ⟨i,H3,I3,st3,zY,w3⟩;show aF _ X.A ((compTurn (.ListComp elt [⟨tg,iter,ifs,0⟩] scope pos) 0 (.ref it) (.ref D) (uc scope (qX X s scope) s.heap.objs.size X.env)).onRaise (λx=>do noteFrame x (uc scope (qX X s scope) s.heap.objs.size X.env); theTreesLotGoes x)) _ _ s3;refine Bk ?_;rw [compTurn_list];have st0:=stat (pl:=[]) zY (λ_ z=>nomatch z);rcases hW i n H3 w3 with ⟨stop,qe⟩ | ⟨go,step⟩;refine aA (qL (aA (bL (T.done (blk X scope (own++cap) (gb X ak s H scope fp)) rfl rfl rfl hc i [] s3 _ H3 _ I3 st0 st3 stop) λr s5 ⟨hr,I5⟩=>?_)));subst hr;exact aO (.inl ⟨H3,_,rfl,I5,qe⟩);refine aA (qL (aA (bL (T.item (blk X scope (own++cap) (gb X ak s H scope fp)) rfl rfl rfl hc i [] s3 _ H3 _ I3 st0 st3 go) λr s5 ⟨u,hr,h5⟩=>?_)));subst hr;refine aA (bL h5 λ_ s6 ⟨x,H6,I6,r6,y6,rH,fr6⟩=>?_);have I6':=I6.pinned (stat (pl:=[]) fr6 (λ_ z=>nomatch z)) (T.obj _ _ rH);refine aA (ju (hg _ s6 _ H6 x u _ I6' r6 (step x H6 y6)) (λ_ s7 ⟨lH,H7,I7,q7⟩=>?_) λ_ _ f=>f.elim);refine aA (ju (ht _ s7 lH H7 _ I7 q7) (λok s8 ⟨H8,I8,q8⟩=>?_) λ_ _ f=>f.elim);have again:∀{vQ:St}{H9:Hp}{s9:aH}{m':Nat},Inv (blk X scope (own++cap) (gb X ak s H scope fp)) ([]++DX fp s6.heap) vQ H9 s9->m'<n->W (i+1) m' H9 -> ∃ m,m<n/\∃ i H',Inv (blk X scope (own++cap) (gb X ak s H scope fp)) [] (nq own ix aj) H' s9/\tn i s9.heap/\(∀ b∈fp,H' b=none)/\W i m H':=λ{vQ H9 s9 m'} I9 hm w9=>(by refine ⟨m',hm,i+1,H9,acJ S hX I hf I9.Iv,T.keep _ _ _ rH λb hb o e=>(I9.pin (b,o) (jH _ (jH _ (Bo hb e)))).1,λb hb=>?_,w9⟩;obtain ⟨o,e,d⟩:=T.obj _ _ rH b hb;exact (I9.pin (b,o) (jH _ (jH _ (Bo hb e)))).2.1);cases ok with| false =>obtain ⟨m',hm,w9⟩:=q8;exact aO ⟨rfl,again I8 hm w9⟩| true =>refine aA (aA (ju (he _ s8 lH H8 _ (I8.wish _) q8) (λy s9 ⟨v,H9,I9,r9,zs,hD,hz,m',hm,w9⟩=>?_) λe s9 hx=>raised Lv I hf hx));have I9:=I9.wj;refine aA (ju (uN (X:=blk X scope (own++cap) (gb X ak s H scope fp)) _ s9 lH H9 (.ref D) [v] (.ref D) [y] (λ_ H'=>∃ m',m'<n/\W (i+1) m' H') I9 rfl (.cons r9 .nil) ⟨D,zs,v,rfl,rfl,hD,hz,m',hm,w9⟩) (λ_ pB ⟨_,ou,I10,_,m'',hm',w10⟩=>?_) λ_ _ f=>f.elim);exact aO (aO ⟨rfl,again I10 hm' w10⟩)
theorem aol{Q:VK}{use:Option (aB->Sem Unit)}{Q':aB->aH->Prop}(Lv:Ac X E)(hc:X.calm=true)(hX:X.env.scope=bQ)(S:m6 bQ scope X.N own cap ix)(hi:PI X tg iter wi)(hg:∀ b,PG (blk X scope (own++cap) b) tg (g b))(ht:∀ b,mQ (blk X scope (own++cap) b) ifs (tt b))(he:∀ b,PE (Qk X scope (own++cap) b E) elt (te b))(hs:∀ x,n6 iter X.env x=pure x)(I:Inv X ak aj H s)(h:HJ own ix wi g tt te aj H Q)(out:∀(D C:au)(H':Hp)(s':aH),Q (.ref D) H'->(∃ m,s'.heap.Ns C m)->jA X ak H' C->(∀ h',mD C s'.heap h'->Inv X ak aj H' { s' with heap:=h' }) -> compPost (aR X.prog X.w) X.A X.xe use Q' (.ref D) C (.ok .next) s'): aF (aR X.prog X.w) X.A (comprehension (.ListComp elt [⟨tg,iter,ifs,0⟩] scope pos) scope X.env (firstIterPos [⟨tg,iter,ifs,0⟩] pos) (newList []) false (eval iter X.env) use) Q' X.xe s:=by have hclos:=Vq (scope:=scope) (env:=X.env) λy hy hk=>(by have hf:=S.free y hy hk;rw [<- hX] at hf;exact I.ok.has y.1 hf);refine S9 (use:=use) rfl hs hclos S.kind (λy hy hk=>by rw [S.nm y hy,hk]) (bL (hi ak s aj H _ I h) λv s1 h1=>bL h1 λitv s2 h2=>?_);obtain ⟨it,fp,tn,J,H2,e,I2,T,st2,f2,hR⟩:=h2;subst e;refine jT ?_;obtain ⟨W,⟨m0,w0⟩,hW⟩:=hR s2.heap.objs.size I2.fresh;have I3:Inv X ak aj (upd H2 s2.heap.objs.size (.lst [])) { s2 with heap:=s2.heap.push { cls:=.type "list",data:=.seq ([]:List aB).toArray } }:=I2.JV (t':=s2.toks) (its:=[]) .nil (cJ _);have uE:∀ b∈fp,b<s2.heap.objs.size:=λb hb=>let ⟨_,e,_⟩:=T.obj _ _ st2 b hb; bW e;have f3:∀ b∈fp,jA X ak (upd H2 s2.heap.objs.size (.lst [])) b:=λb hb=>⟨by rw [bx (dU (uE b hb))]; exact (f2 b hb).1,(f2 b hb).2⟩;have st3:tn 0 (s2.heap.push { cls:=.type "list",data:=.seq ([]:List aB).toArray }):=T.keep _ _ _ st2 λb hb o e=>cj _ e;generalize hs3:({ s2 with heap:=s2.heap.push { cls:=.type "list",data:=.seq ([]:List aB).toArray } }:aH)=s3 at I3;have CK:tn 0 s3.heap:=(by rw [<- hs3]; exact st3);have ob3:∀ b∈fp,∃ o,s3.heap.get? b=some o:=λb hb=>let ⟨o,e,_⟩:=T.obj _ _ CK b hb; ⟨o,e⟩;have I4:=SX S hX I3 f3 ob3;have uJ:tn 0 (zB s3 scope):=T.keep _ _ _ CK λb _ o e=>Rt s3 scope b o e;refine VF ?_;have loop:=ahd (iter:=iter) (pos:=pos) Lv S hX I3 f3 hc T (hg _) (ht _) (he _) (hW _) I4 uJ w0;have fin:kI (aR X.prog X.w) X.A (.compLoop (.ListComp elt [⟨tg,iter,ifs,0⟩] scope pos) 0 (.ref it) (.ref s2.heap.objs.size) (uc scope (qX X s3 scope) s3.heap.objs.size X.env)) (compPost (aR X.prog X.w) X.A X.xe use Q' (.ref s2.heap.objs.size) s3.heap.objs.size) { s3 with heap:=zB s3 scope }:=uD loop λr s' hr=>(by rcases hr with ⟨H',bJ,hr,J',q⟩ | ⟨a,hr,aw,m,hn⟩;subst hr;exact out _ _ H' s' q (let ⟨m,hn,_⟩:=J'.loc; ⟨m,hn⟩) (I3.zQ (bB _) J'.free) λh' hh=>Lg I3 f3 J' hh;subst hr;have nf:s3.heap.objs.size ∉ frs X.stack:=λz=>(by obtain ⟨_,o,e,_⟩:=I3.stack.mem z;exact bK (bW e) (uL _));have z:∃ m,s'.heap.Ns s3.heap.objs.size m/\∀ h',mD s3.heap.objs.size s'.heap h'->∀ cenv:Env,cenv.locals=s3.heap.objs.size->aF (aR X.prog X.w) X.A (QX "comprehension.variables-let-go" (.ref a) cenv:Sem aB) (λ_ _=>False) X.xe { s' with heap:=h' }:=⟨m,hn,λh' hh _ _=>(aw.let_go hn I3.sz nf hh).pass Lv⟩;cases use <;> exact z);exact adH fin (T.self _ 0 _ _ _ uJ fin)
theorem akH{i:Nat}{pos' spos:Pos}(Lv:Ac X E)(hN:X.N.Nodup)(hx1:X.N[i]?=some x)(hx:X.env.scope.names.lookup x=some .local)(hc:X.calm=true)(hX:X.env.scope=bQ)(S:m6 bQ scope X.N own cap ix)(hi:PI X tg iter wi)(hg:∀ b,PG (blk X scope (own++cap) b) tg (g b))(ht:∀ b,mQ (blk X scope (own++cap) b) ifs (tt b))(he:∀ b,PE (Qk X scope (own++cap) b E) elt (te b))(hs:∀ x,n6 iter X.env x=pure x:=by intro _; rfl)(hsw:zO (.ListComp elt [⟨tg,iter,ifs,0⟩] scope pos) (some (.Name x pos')) spos.line X.env=pure true:=by rfl):
   PS X (.Assign [.Name x pos'] (.ListComp elt [⟨tg,iter,ifs,0⟩] scope pos) spos) (yZ (HJ own ix wi g tt te) (wN i)):=by
 intro ak s aj H D I h;rw [YB _ _ _ _ hsw];refine aA (qL (aA ?_));show aF _ X.A (do let _ <- comprehension (.ListComp elt [⟨tg,iter,ifs,0⟩] scope pos) scope X.env _ (newList []) false (eval iter X.env) (some (assign (.Name x pos') X.env))) _ _ s;refine aA (ju (aol (use:=some (assign (.Name x pos') X.env)) (Q':=λ_ s'=>SP X ak D .next s') Lv hc hX S hi hg ht he hs I h λD1 C H' s' q hn fC hI=>?_) (λ_ s' hq=>aO (aO hq)) λ_ _ e=>e);obtain ⟨m,hn⟩:=hn
 have I0:Inv X ak aj H' s':=by
   have z:=hI s'.heap (Kr ..);exact z
 show aF _ X.A (assign (.Name x pos') X.env (.ref D1)) _ _ _;refine Qn (Ql I0 hN hx1 (.inl hx) (show cI (.ref D1) (.ref D1) from rfl) (λs2 I2 ⟨a,sb,ha⟩=>?_) (.inr hx))
 have na:C≠a:=by
   rcases ha with e | e
   . rw [e]; exact fC.2.1
   . intro z; exact fC.2.2.2.2.1 x a e z.symm
 refine ⟨m,hn.sameBut sb na,λh' hh=>?_⟩;refine ⟨_,H',?_,q⟩;exact I2.turned (it:=C) (t':=s2.toks) (λb o hb e=>(hh.2 b hb).ao e) fC.1 fC.2.1 fC.2.2.2.1 fC.2.2.2.2.1 fC.2.2.2.2.2
end
def aaM(K:cH)(b:Bool):R2:=λx y H Q=>v9 λ(d:lF)(es:List lF)=>uf (Dp K H x d) (Dp K H y (.list es)) (d.canLay0=true) (d.depth<=60) (qm es=true) (Q (.bl (xor b (es.any λe=>oW e d))) H)
theorem PJ(hu:X.A.units+64<cLine):cP X (gK .In) (aaM X.K false):=by intro ak s aj H x y v u Q I rx ry h;obtain ⟨d,es,hd,he,cd,dd,ce,q⟩:=h;obtain ⟨as,ra⟩:=hd.reads I rx;obtain ⟨bs,rb⟩:=he.reads I ry;rw [Ma] at q;exact SeqAt.in_list_reads rb ra ce cd (by have:=YQ (sU es) d.depth; omega) ⟨.bl _,H,I,rfl,q⟩
theorem aiO(hu:X.A.units+64<cLine):cP X (gK .NotIn) (aaM X.K true):=by intro ak s aj H x y v u Q I rx ry h;obtain ⟨d,es,hd,he,cd,dd,ce,q⟩:=h;obtain ⟨as,ra⟩:=hd.reads I rx;obtain ⟨bs,rb⟩:=he.reads I ry;rw [Bool.true_xor] at q;exact SeqAt.notIn_list_reads rb ra ce cd (by have:=YQ (sU es) d.depth; omega) ⟨.bl _,H,I,rfl,q⟩
section
variable{prog:dX}{w:cU}{κ:Type}[DecidableEq κ]{knd:HeapKind prog w κ}{A:iw}{E:aB->aH->Prop}{s:aH}
theorem sdH{d b:au}{xs:List (κ × au × aB)}{k:κ}{v:aB}{Q:aB->aH->Prop}(hu:knd.room A)(hk:knd.is s.heap k b)(hm:s.heap.DictOfH knd d xs)(q1:∀ p,atKey xs k=some p->Q p.2 { s with toks:=s.toks+knd.draws k })(q2:atKey xs k=none->∀ h',h'.DictOfH knd d (storedH xs k b v)->mD d s.heap h'->Q v { s with heap:=h',toks:=s.toks+knd.draws k })(hz:xs.length<=aL): aF (aR prog w) A (dictSetDefault d (.ref b) v) Q E s:=by obtain ⟨o,es,ep,ho,hc,hd,he,his,hn⟩:=hm;unfold dictSetDefault;refine iR (aA (knd.pyHash hu hk (aA (wpAny_dictFind_heap (s:={ s with toks:=s.toks+knd.draws k }) hu hk ho hd he his hn (λno=>?_) (λj p hj=>?_)))));have nk:k ∉ xs.map (·.1):=not_mem_keys_of_get no;have no':=atKey_none_of_get no;refine aA (yx (aA (wpAny_updateDictKeys (hz:=by have e:=size_of_entries he; omega) (s:={ s with toks:=s.toks+knd.draws k }) ho hd (aO (q2 no' _ ⟨_,_,ep+1,vG _ ho (Obj.isFreed_of_dict (ab9 hd _)),hc.mapDictKeys _,ab9 hd _,?_,λx hx=>?_,?_⟩ (rQ ..))))));rw [Yz no']; simp [he,entryOfKey];rw [Yz no'] at hx;rcases fQ.mp hx with z | z;exact knd.keeps (his x z) ho hd (rQ ..);rw [gY.mp z]; exact knd.keeps hk ho hd (rQ ..);rw [Yz no',dJ,vA];exact ⟨hn,by simp,λx hx y hy e=>nk (by rw [eV,Gi,gY] at hy; have hy':y=k:=hy; rw [<- hy',<- e]; exact hx)⟩;refine aA (Nz (s:={ s with toks:=s.toks+knd.draws k }) ho hd ?_);rw [entry_at he j,hj];exact aA (yx (aO (q1 p (atKey_of_get hn hj))))
end
def amR(td ty tx:TE):TE:=fun aj H Q=>td aj H λx H1=>∃ a,x=.ref a/\IsD H1 a/\ty aj H1 λy H2=>tx aj H2 λz H3=>∃ kvs k b,H3 a=some (.dT kvs)/\y=.ref b/\H3 b=some (.tup (k.map kV))/\kvs.length<aL /\
 (∀ v,dW kvs k=some v->Q v H3)/\(dW kvs k=none->Q z (upd H3 a (.dT (dH kvs k z))))
theorem apF{o e f:Expr}{apos cpos:Pos}{td ty:TE}(hu:X.A.units+1<cLine)(ho:PE X o td)(he:PE X e ty)(hf:PE X f tx)(m:M2 X o "setdefault" apos e f cpos):PE X (.Call (.Attribute o "setdefault" apos) [e,f] [] cpos) (amR td ty tx):=by intro ak s aj H Q I h;refine Yh m.base m.few m.line NQ aeV PySem.F.type_dict_setdefault (bL (ho ak s aj H _ I h) λu s1 ⟨x,H1,I1,rx,a,ex,d,q1⟩=>?_);subst ex;obtain rfl:u=bI a:=rx;obtain ⟨t1,t2,_⟩:=TJ I1 d;refine ⟨t1,t2,?_⟩;rw [m.trees];refine QD rfl (K6 (Hr (bL (he ak s1 aj H1 _ I1 q1) λiv s2 ⟨y,H2,I2,ry,q2⟩ => Hr (bL (hf ak s2 aj H2 _ I2 q2) λfv s3 ⟨z,H3,I3,rz,kvs,k,b,ea,ey,eb,hl,c1,c2⟩=>Np ?_))));subst ey;cases (show iv=bI b from ry);obtain ⟨zl,hd,xs,rel,dd⟩:=afy I3.hok ea;have hz:xs.length<=aL:=(by rw [<- Mx rel]; exact zl);have hT:s3.TypeIs (.ref a) "dict":=(by obtain ⟨o,es,ep,e1,hx,_⟩:=dd;exact ⟨o,e1,hx.1⟩);refine m5 aeV hT PySem.F.entry_dict_setdefault ?_ (PySem.F.args_dict_setdefault_3 _ _ _);unfold jr.«dict.setdefault»;refine aA ?_;unfold Builtin.Dict.keyAndDefault;refine aA (Xq hT ?_);show aF _ _ (pure (a,bI b,some fv)) _ _ s3;refine aO ?_;show aF _ _ (if (a == sysModules)=true then _ else (dictSetDefault a (.ref b) fv >>= _)) _ _ s3;rw [hd];refine Dd (λz=>bK z gO) (λ_=>?_);have rv:=rel.val k;refine aA (sdH (GF hu) (yE I3.hok eb) dd (λp hp=>?_) (λhn h' vV hs=>?_) hz);rw [hp] at rv;(cases e1:dW kvs k with| none=>rw [e1] at rv; exact qp rv| some v' =>rw [e1] at rv;exact aO ⟨_,rfl,v',H3,I3.tok _,rv,c1 v' e1⟩);have e1:dW kvs k=none:=(by rw [hn] at rv;cases e1:dW kvs k with| none=>rfl| some v'=>rw [e1] at rv; exact qp rv);have lp:=yM kvs k z;obtain ⟨o2,es,ep,hq,h2,h3,h4,_,h5⟩:=vV;refine aO ⟨_,rfl,z,_,El (ob:=.dT (dH kvs k z)) I3 (by rw [ea]; exact rF) hs ⟨o2,hq⟩ ⟨by omega,hd,_,(rel.put k eb rz).keeps λc ys ec=>?_,o2,es,ep,hq,h2,h3,h4,h5⟩,rz,c2 e1⟩;rw [bx (ae3 ec ea (λz=>nomatch z))];exact ec
end L2
namespace L2
open PySem PySem.W PyProof.Rows
theorem aha(items:Array aB):slicePick items none none (some (-1))=items.toList.reverse.toArray:=by have e:sliceRange (sliceBounds none none (some (-1)) items.size).1 (sliceBounds none none (some (-1)) items.size).2.1 (sliceBounds none none (some (-1)) items.size).2.2=(cY items.size).map λ(k:Nat)=>((items.size:Int)-1+(k:Int) * (-1)).toNat:=(by show ((cY _).map _:List Nat)=_;have c:(if ((items.size:Int)-1) > -1 then (((items.size:Int)-1)-(-1)-(-1)-1) / (- -1) else (0:Int)).toNat=items.size:=(by rw [show (- -1:Int)=1 by decide,Uu];split <;> omega);show ((cY (if ((items.size:Int)-1) > -1 then (((items.size:Int)-1)-(-1)-(-1)-1) / (- -1) else (0:Int)).toNat).map λ(k:Nat)=>((items.size:Int)-1+(-1) * (k:Int)).toNat)=_;rw [c];exact CW λk _=>by congr 1; omega);unfold slicePick;rw [e,W9];congr 1;exact aex items
def anh(K:cH)(te:TE):TE:=fun aj H Q=>te aj H λx H1=>∃ a xs,x=.ref a/\aY K H1 a xs/\∀ p,H1 p=none->Q (.ref p) (upd H1 p (.lst xs.reverse))
theorem ajB{X:Cx}{e:Expr}{te:TE}{k:Nat}{p2 pos:Pos}(he:PE X e te):PE X (.Subscript e (.Slice none none (some (.UnaryOp .USub (.Constant (.int 1) k p1) p2)) p3) pos) (anh X.K te):=by intro ak s aj H Q I h;refine Je (bL (he ak s aj H _ I h) λv s1 ⟨x,H1,I1,r1,q1⟩=>?_);obtain ⟨a,xs,rfl,hq,q⟩:=q1;cases (show v=bI a from r1);refine Tf ?_;rw [Ot];refine aO ?_;refine aO ?_;rw [Z4];have pm:PE X (.UnaryOp .USub (.Constant (.int 1) k p1) p2) (tUn _ (tC (.int 1))):=Jx JD aQ;refine bL (pm ak s1 aj H1 (λz H2=>z=.int (-1)/\H2=H1) I1 ⟨rfl,rfl⟩) λu s2 ⟨z,H2,I2,r2,ez,eH⟩=>?_;subst ez;obtain rfl:H1=H2:=eH.symm;obtain ⟨t,rfl⟩:=r2;have I3:Inv X ak aj H1 { s2 with heap:=s2.heap.push { cls:=.type "slice",data:=.fields #[.none,.none,.int (-1) t] } }:=I2.kept (t':=s2.toks) λb ob q=>cj _ q;obtain ⟨its,rv,ht,hz⟩:=I3.list hq;have hlen:=rv.length;show aF (aR X.prog X.w) X.A (subscriptTail e (.Slice none none (some (.UnaryOp .USub (.Constant (.int 1) k p1) p2)) p3) (.ref a) (.ref s2.heap.objs.size)) (EP X ak aj Q) X.xe { s2 with heap:=s2.heap.push { cls:=.type "slice",data:=.fields #[.none,.none,.int (-1) t] } };refine QW (ops:=[.ref a,.ref s2.heap.objs.size]) ht.isList.typeIs slot_list_getitem.lookup (abg ht.isList (Vi ..) .none .none (.int _ _) (by simp) ?_ (by rw [gH]; omega)) (by with_unfolding_all rfl);rw [aha];refine ⟨.ref (s2.heap.push { cls:=.type "slice",data:=.fields #[.none,.none,.int (-1) t] }).objs.size,_,I3.laid (t':=s2.toks) (o:=.lst xs.reverse) (λb ob q=>cj _ q) (bB _) ?_,rfl,q _ (I3.hok.fresh (bB _))⟩;exact ⟨by rw [Hv]; exact hz,_,0,afE rv,fU _ rfl⟩
end L2
namespace L2
open PySem PySem.Spec PySem.W PyProof.Rows
theorem adB:∀{cs:List au}{its:List aB},bY (cs.map V.ref) its->its=cs.map bI
 | [],_,.nil=>rfl
 | c :: cs,_,.cons h r=>by rw [adB r,eV];exact fG (· :: _) (show _=bI c from h)
def acP(K:cH)(xs:List V)(H:Hp)(Q:VK):Prop:=QX5 λ(a C p:au)(cs:List au)(b:Bool)=>uf (xs=[.ref a,.ref p]) (H a=some (yV a C)) (H p=some (.tup (cs.map V.ref))) (vI K C=true) (kitAny K (.ref C) (cs.map bI)=some b) (Q (.bl b) H)
theorem akQ{X:Cx}:jz X (.builtin "isinstance") (acP X.K):=by intro ak s aj H xs us Q I r h;obtain ⟨a,C,p,cs,b,rfl,ha,hp,ec,eb,q⟩:=h;obtain ⟨u1,u2,rfl,r1,r2⟩:=rR r;have r1:u1=bI a:=r1;have r2:u2=bI p:=r2;subst r1 r2;obtain ⟨z,_⟩:=I.hok a _ ha;obtain ⟨its,rv,⟨⟨oc,dd,od,sl⟩,e1,e2,n,e3⟩,_⟩:=I.tuple (aG.of hp);cases adB rv;cases (show oc=_ from e2);cases (show od=_ from e3);exact kia_tup (afG ec) I.lO z e1 eb (λz=>nomatch z) λtk=>⟨.bl b,H,I.tok tk,rfl,q⟩
end L2
namespace L2
open PySem PySem.Spec PyProof.Rows PyProof
theorem alk{prog:dX}{w:cU}{A:iw}{E:aB->aH->Prop}{s:aH}{l:au}{x y:aB}{Q:List aB->aH->Prop}(hh:A.handled=none)(hl:s.heap.IsList l #[x,y])(q:∀ h',(∀ b o,s.heap.get? b=some o->h'.get? b=some o)->Q [x,y] { s with heap:=h' }):aF (aR prog w) A (unpackItems (.ref l) 2 none) Q E s:=by have ne:l≠s.heap.objs.size:=(by obtain ⟨_,e,_⟩:=hl; exact dU (bW e));unfold unpackItems notIterableAtAll;refine aA (aA (FT hl.typeIs F.slot_list_iter.lookup (aO ?_)));show aF _ _ (holding [.ref l] (pyIter (.ref l)) >>= _) _ _ s;refine aA (iR (Ih hl ?_));refine aA (iR ?_);show aF _ _ (pyNext (.ref s.heap.objs.size) >>= _) _ _ _;refine aA (RJ (i:=0) ⟨_,fU _ rfl,rfl,rfl⟩ (hl.push _) (x:=x) rfl λh1 i1 s1=>?_);refine aA (iR ?_);show aF _ _ (pyNext (.ref s.heap.objs.size) >>= _) _ _ _;have l1:=(hl.push _).extBut s1.extBut ne;refine aA (RJ i1 l1 (x:=y) rfl λh2 i2 s2=>?_);refine aA (iR (aO (aO (aO ?_))));show aF _ _ (holding [x,y] (pyNext (.ref s.heap.objs.size)) >>= _) _ _ _;refine aA (iR (XM hh i2 (l1.extBut s2.extBut ne) rfl λh3 e3=>aO (q h3 λb o e=>?_)));have nb:b≠s.heap.objs.size:=dU (bW e);exact e3 b o nb (s2.extBut b o nb (s1.extBut b o nb (cj _ e)))
def aoZ(K:cH)(t:wQ):TG:=λv aj H Q=>∃ a x y,v=.ref a/\aY K H a [x,y]/\t [x,y] aj H Q
theorem ahx{X:Cx}{es:List Expr}{k:Nat}{pos:Pos}{t:wQ}(hc:X.calm=true)(h:PGs X es t)(hn:(assignEach es X.env).length=2:=by rfl)(hst:(assignEach es X.env).findIdx? (·.1)=none:=by rfl):PG X (.Tuple es k pos) (aoZ X.K t):=by intro ak s aj H v u Q I r hw;obtain ⟨a,x,y,rfl,hq,hw⟩:=hw;cases r;obtain ⟨its,rv,pl,_⟩:=I.list hq;obtain ⟨u,u',rfl,r1,r2⟩:=rR rv;rw [assign_Tuple];refine aA (qL ?_);unfold unpack;rw [hn,hst];refine aA (iR (alk (I.ok.hd hc) pl.isList λh' kk=>?_));exact h ak _ aj H _ _ Q (I.kept (t':=s.toks) kk) rv hw
end L2
namespace L2
open PySem PySem.Spec PyProof.Rows
def ak7(K:cH)(i j:Nat)(te:TE):TS:=λD aj H=>te aj H λv H1=>∃ a x y,v=.ref a/\aG K H1 a [x,y]/\D.nx ((aj.set j (some y)).set i (some x)) H1
theorem ahW{X:Cx}{x y:Str}{p2 pos:Pos}{value:Expr}{k i j:Nat}{te:TE}(hN:X.N.Nodup)(hi:X.N[i]?=some x)(hj:X.N[j]?=some y)(hx:Loc X.env.scope x)(hy:Loc X.env.scope y)(hc:X.calm=true)(he:PE X value te)(hfx:X.fn x=true\/X.env.scope.names.lookup x=some .local:=by first | exact .inl rfl | exact .inr rfl | assumption)(hfy:X.fn y=true\/X.env.scope.names.lookup y=some .local:=by first | exact .inl rfl | exact .inr rfl | assumption)(hs:swapsWithSole [.Tuple [.Name x p1,.Name y p2] k tp] value pos.line X.env=pure false:=by rfl)(hw:swappedStores [.Tuple [.Name x p1,.Name y p2] k tp] value X.env=pure (some [x,y]):=by rfl):
   PS X (.Assign [.Tuple [.Name x p1,.Name y p2] k tp] value pos) (ak7 X.K i j te):=by
 intro ak s aj H D I h;refine Assign_Tuple_swapped (names:=[x,y]) (bL (he ak s aj H _ I h) λv s1 ⟨u,H1,I1,r1,q1⟩=>?_) hs hw;obtain ⟨a,x1,y1,rfl,hq,q⟩:=q1;cases r1;obtain ⟨its,rv,ht,_⟩:=I1.tuple hq;obtain ⟨u,u',rfl,ru,ru'⟩:=rR rv;refine unpackItems_tuple (items:=#[u,u']) (I1.ok.hd hc) ht λh' hx'=>?_
 have I2:Inv X ak aj H1 { s1 with heap:=h' }:=I1.kept (t':=s1.toks) λb o e=>hx' b o (dU (bW e)) e
 refine Yg (bindName_ (Fl I2 hN hj hy ru' (λs2 I3=>?_) hfy));exact Yg (bindName_ (Fl I3 hN hi hx ru (λs3 I4=>adC ⟨_,H1,I4,q⟩) hfx))
end L2
namespace Fw
section
variable{aJ:Type}[DecidableEq aJ]
end
end Fw
namespace K02
open PySem L2
variable{u:TS}{D:Ends}{aj:St}{H:Hp}
theorem afg{c:TT}{t e:TS}(N:St->Hp->Prop)(h:∀ U:St->Hp->Prop,(∀ bJ H',N bJ H'->U bJ H')->Er c t e { D with nx:=U } aj H)(hN:∀ bJ H',N bJ H'->u D bJ H'):Ez (Er c t e) u D aj H:=h (u D) hN
theorem dN{te:TE}{g:TG}(h:∀ U:St->Hp->Prop,U=u D->te aj H λx H1=>g x aj H1 U):Ez (yZ te g) u D aj H:=h (u D) rfl
theorem ap5{G:Prop}(h:∀ R:Prop,R=G->R):G:=h G rfl
def low(c:Nat):Bool:=97<=c && c<=122
theorem aky(c:Nat):(!decide ((⟨#[c]⟩:Str).cps.toList<("a" : Str).cps.toList))=decide (97<=c)/\(!decide (("z" : Str).cps.toList<(⟨#[c]⟩:Str).cps.toList))=decide (c<=122):=by have ea:("a" : Str).cps.toList=[97]:=(by decide +kernel);have ez:("z" : Str).cps.toList=[122]:=(by decide +kernel);have es:(⟨#[c]⟩:Str).cps.toList=[c]:=rfl;rw [ea,ez,es];constructor;rw [jP]; simp [lt1];rw [jP]; simp [lt1]
structure dG(z:Str):Prop where
 lo:1<=z.length
 hi:z.length<=8
 all:∀ c∈z.cps.toList,low c=true
abbrev Row:=Str × Int
structure aP where
 name:Str
 low:Int
 high:Int
 bV:Int
 runs:List (List Row)
abbrev bH:=(Str × Str) × Int × Option Int
def vW:Option Int->V
 | none=>.non
 | some i=>.int i
inductive gW(H:Hp)(v:V)(r:Row):Prop|mk a(_:v=.ref a)(_:H a=some (.tup [.str r.1,.int r.2]))
inductive mq(H:Hp)(v:V)(rs:List Row):Prop|mk a vs(_:v=.ref a)(_:H a=some (.tup vs))(_:bw (gW H) vs rs)
inductive uP(H:Hp)(v:V)(rs:List (List Row)):Prop|mk a vs(_:v=.ref a)(_:H a=some (.tup vs))(_:bw (mq H) vs rs)
inductive iG(H:Hp)(v:V)(h:aP):Prop|mk a b(_:v=.ref a)(_:H a=some (.tup [.str h.name,.int h.low,.int h.high,.int h.bV,b]))(_:uP H b h.runs)
inductive mj(H:Hp)(v:V)(hs:List aP):Prop|mk a vs(_:v=.ref a)(_:H a=some (.tup vs))(_:bw (iG H) vs hs)
inductive jw(H:Hp)(v:V)(l:bH):Prop|mk a(_:v=.ref a)(_:H a=some (.tup [.str l.1.1,.str l.1.2,.int l.2.1,vW l.2.2]))
inductive vJ(H:Hp)(v:V)(ls:List bH):Prop|mk a vs(_:v=.ref a)(_:H a=some (.tup vs))(_:bw (jw H) vs ls)
inductive iI(H:Hp)(v:V)(hs:List aP)(ls:List bH):Prop|mk a x y(_:v=.ref a)(_:H a=some (.tup [x,y]))(_:mj H x hs)(_:vJ H y ls)
section
variable{H H':Hp}{v:V}(s:cN H H')
include s
theorem gW.ts{r:Row}(h:gW H v r):gW H' v r:=let ⟨a,e,g⟩:=h; ⟨a,e,s _ _ g⟩
theorem mq.ts{r:List Row}(h:mq H v r):mq H' v r:=let ⟨a,vs,e,g,p⟩:=h; ⟨a,vs,e,s _ _ g,bG (λ_ _ q=>gW.ts s q) p⟩
theorem uP.ts{r:List (List Row)}(h:uP H v r):uP H' v r:=let ⟨a,vs,e,g,p⟩:=h; ⟨a,vs,e,s _ _ g,bG (λ_ _ q=>mq.ts s q) p⟩
theorem iG.ts{r:aP}(h:iG H v r):iG H' v r:=let ⟨a,b,e,g,p⟩:=h; ⟨a,b,e,s _ _ g,uP.ts s p⟩
theorem mj.ts{r:List aP}(h:mj H v r):mj H' v r:=let ⟨a,vs,e,g,p⟩:=h; ⟨a,vs,e,s _ _ g,bG (λ_ _ q=>iG.ts s q) p⟩
theorem jw.ts{r:bH}(h:jw H v r):jw H' v r:=let ⟨a,e,g⟩:=h; ⟨a,e,s _ _ g⟩
theorem vJ.ts{r:List bH}(h:vJ H v r):vJ H' v r:=let ⟨a,vs,e,g,p⟩:=h; ⟨a,vs,e,s _ _ g,bG (λ_ _ q=>jw.ts s q) p⟩
theorem iI.ts{hs:List aP}{ls:List bH}(h:iI H v hs ls):iI H' v hs ls:=let ⟨a,x,y,e,g,p,q⟩:=h; ⟨a,x,y,e,s _ _ g,mj.ts s p,vJ.ts s q⟩
end
structure PX(rs:List Row):Prop where
 ne:rs≠[]
 few:rs.length<=25
 names:∀ r∈rs,dG r.1
 rise:(rs.map iY).Pairwise (·<·)
structure uH(h:aP):Prop where
 name:dG h.name
 wide:h.low<=h.high
 bV:0<=h.bV
 few:h.runs.length<=25
 runs:∀ r∈h.runs,PX r
def qJ(h:aP):List Row:=h.runs.flatten
def fH(h:aP):List Str:=(qJ h).map cu
def bA(hs:List aP):List Str:=hs.flatMap fH
structure En(hs:List aP):Prop where
 lo:1<=hs.length
 hi:hs.length<=6
 all:∀ h∈hs,uH h
 names:(hs.map aP.name).Nodup
 rows:(bA hs).Nodup
 few:(bA hs).length<=24
structure Oq(hs:List aP)(l:bH):Prop where
 sent:dG l.1.1
 taken:dG l.1.2
 least:1<=l.2.1
 most:∀ m,l.2.2=some m->l.2.1<=m
 ZF:∃ h1∈hs,∃ h2∈hs,l.1.1∈fH h1/\l.1.2∈fH h2/\h1.name≠h2.name
structure zX(hs:List aP)(ls:List bH):Prop where
 few:ls.length<=24
 all:∀ l∈ls,Oq hs l
 rise:(ls.map cu).Pairwise (λa b=>jE a b=true)
def oG{aJ:Type}(xs:List aJ):List (aJ × aJ):=xs.zip (xs.drop 1)
def qK(is:List Int):Bool:=(oG is).all λp=>decide (p.1<p.2)
def SQ(ks:List (Str × Str)):Bool:=(oG ks).all λp=>jE p.1 p.2
def XS(H:Hp)(xs:List V)(b:Bool):Prop:=(∃ is:List Int,xs=is.map V.int/\b=qK is)\/∃(as:List au)(ks:List (Str × Str)),xs=as.map V.ref/\bw (λa k=>H a=some (.tup ((kP k).map kV))) as ks/\b=SQ ks
def QF:Sp:=λvs H Q _=>kJ λ(a:au)(xs:List V)(b:Bool)=>jt (vs=[.ref a]) (H a=some (.lst xs)) (xs.length<=60) (XS H xs b) (∀ H',aD H H'->Q (.bl b) H')
variable{K:cH}{H':Hp}{a:au}
theorem Dk{xs:List V}(s:aD H H')(h:aY K H a xs):aY K H' a xs:=by rcases h with (h | ⟨o,h⟩) | h;exact .inl (.inl (s _ _ h));exact .inl (.inr ⟨o,s _ _ h⟩);exact .inr h
structure LtA(K:cH)(x y:V)(H:Hp)(Q:VK):Prop where
 h:acQ K x y H Q
variable{X:Cx}
theorem akE(hu:X.A.units<cLine):cP X (gK .Lt) (LtA X.K):=λak s aj H x y v u Q I rx ry h=>agO hu ak s aj H x y v u Q I rx ry h.h
variable{aJ:Type}
theorem ab3(xs:List aJ):(oG xs).length=xs.length-1:=by unfold oG; rw [List.length_zip,pJ]; omega
theorem afe{xs:List aJ}{i:Nat}{x y:aJ}(hx:xs[i]?=some x)(hy:xs[i+1]?=some y):(oG xs)[i]?=some (x,y):=by unfold oG;exact PyProof.Rows.zip_get hx (by rw [Zh,Ln]; exact hy)
theorem XS.bools{xs:List V}{b:Bool}(h:XS H xs b):∃ bs:List Bool,bs.length=xs.length-1/\bs.all id=b/\∀{K:cH}{i:Nat}{x y:V}{H':Hp}{Q:VK},xs[i]?=some x->xs[i+1]?=some y->aD H H'->(∀ c,bs[i]?=some c->Q (.bl c) H')->LtA K x y H' Q:=by rcases h with ⟨is,rfl,rfl⟩ | ⟨as,ks,rfl,pr,rfl⟩;refine ⟨(oG is).map λp=>decide (p.1<p.2),by rw [aU,ab3,aU],by unfold qK; rw [JG]; rfl,λ{K i x y H' Q} hx hy s q=>?_⟩;rw [cX] at hx hy;(cases e1:is[i]? with| none=>rw [e1] at hx; cases hx| some j =>cases e2:is[i+1]? with| none=>rw [e2] at hy; cases hy| some k =>rw [e1] at hx; rw [e2] at hy;exact ⟨.inl ⟨j,k,(jK hx).symm,(jK hy).symm,q _ (by rw [cX,afe e1 e2]; rfl)⟩⟩);refine ⟨(oG ks).map λp=>jE p.1 p.2,by rw [aU,ab3,aU,pr.length],by unfold SQ; rw [JG]; rfl,λ{K i x y H' Q} hx hy s q=>?_⟩;rw [cX] at hx hy;cases e1:as[i]? with| none=>rw [e1] at hx; cases hx| some j =>cases e2:as[i+1]? with| none=>rw [e2] at hy; cases hy| some k =>rw [e1] at hx; rw [e2] at hy;obtain ⟨k1,g1,h1⟩:=dM pr e1;obtain ⟨k2,g2,h2⟩:=dM pr e2;exact ⟨.inr ⟨j,k,k1,k2,(jK hx).symm,(jK hy).symm,aG.of (s _ _ h1),aG.of (s _ _ h2),q _ (by rw [cX,afe g1 g2]; rfl)⟩⟩
def Og:Sp:=λvs H Q _=>∃(x:V)(h:aP),vs=[x]/\iG H x h/\uH h/\∀(l:au)(zs:List V)(H':Hp),H l=none->H' l=some (.lst zs)->aD H H'->bw (gW H') zs (qJ h)->Q (.ref l) H'
def Uh:Sp:=λvs H Q _=>∃(a:au)(ss:List Str),vs=[.ref a]/\H a=some (.lst (ss.map V.str))/\ss.length<=3800/\∀ H',aD H H'->Q (.bl (decide ss.Nodup)) H'
theorem ac4{ks:List Key}:∀ i,i<=ks.length->(fO ks i).length=i->(ks.take i).Nodup
 | 0,_,_=>by rw [Le]; exact TQ
 | i+1,hi,h=>by have hk:ks[i]?=some ks[i]:=cT (by omega);have le:=Rx ks i;rw [M4 hk] at h;cases q:kW (fO ks i) ks[i] with| true=>rw [q,bh rfl] at h; omega| false =>rw [q,aV gO,cQ] at h;have h':(fO ks i).length=i:=(by simpa using h);have ih:=ac4 i (by omega) h';have e:fO ks i=ks.take i:=abQ i (by omega) h';rw [dI,hk];rw [vA];refine ⟨ih,by simp,λa ha b hb z=>?_⟩;have hb':b=ks[i]:=(by simpa using hb);rw [hb'] at z;rw [e] at q;have:=aeC.mpr (show ks[i]∈ks.take i by rw [<- z]; exact ha);rw [q] at this; cases this
where abQ:∀ i,i<=ks.length->(fO ks i).length=i->fO ks i=ks.take i
 | 0,_,_=>rfl
 | i+1,hi,h=>by
   have hk:ks[i]?=some ks[i]:=cT (by omega);have le:=Rx ks i;rw [M4 hk] at h |-;cases q:kW (fO ks i) ks[i] with
   | true=>rw [q,bh rfl] at h; omega
   | false =>
     rw [q,aV gO,cQ] at h;rw [aV gO,abQ i (by omega) (by simpa using h),dI,hk];rfl
def Wc:Sp:=λvs H Q _=>v9 λ(x:V)(hs:List aP)=>jt (vs=[x]) (mj H x hs) (hs.length<=6) ((∀ h∈hs,uH h)) (∀(l:au)(H':Hp),H l=none->H' l=some (.lst ((bA hs).map V.str))->aD H H'->Q (.ref l) H')
theorem Am{aJ:Type}:∀{l:List (List aJ)}{n:Nat},(∀ r∈l,r.length<=n)->l.flatten.length<=l.length * n
 | [],_,_=>by simp
 | r :: l,n,h=>by have h1:=h r dg;have h2:=Am λq hq=>h q (dD _ hq);rw [rO,cQ,jY,Ng];omega
variable{h:aP}
theorem uH.len(g:uH h):(qJ h).length<=625:=by have h1:=Am (n:=25) λr hr=>(g.runs r hr).few;have h2:h.runs.length * 25<=25 * 25:=NP 25 g.few;show h.runs.flatten.length<=625;omega
variable{is:List Int}
theorem ag5(h:qK is=true):is.Pairwise (·<·):=by unfold qK at h;have key:∀(l:List Int),(oG l).all (λp=>decide (p.1<p.2))=true->l.Pairwise (·<·):=(by intro l;induction l with| nil=>intro _; exact JH| cons x l ih =>intro hl;cases l with| nil=>exact Jq _ _| cons y l =>have e:oG (x :: y :: l)=(x,y) :: oG (y :: l):=rfl;rw [e,List.all_cons] at hl;obtain ⟨h1,h2⟩:=pU.mp hl;have p:=ih h2;refine QT.mpr ⟨λz hz=>?_,p⟩;have xy:x<y:=iH h1;rcases dF.mp hz with e | e;rw [e]; exact xy;have:=(QT.mp p).1 z e; omega);exact key is h
def jJ(h:aP):List (Str × Str):=(qJ h).map λr=>(r.1,h.name)
def bT(hs:List aP):List (Str × Str):=hs.flatMap jJ
theorem aoP(h:aP):(jJ h).map cu=fH h:=by unfold jJ fH; rw [jM]; rfl
theorem rZ(hs:List aP):(bT hs).map cu=bA hs:=by unfold bT bA;rw [List.map_flatMap];congr 1;funext h;exact aoP h
def lM(ps:List (Str × Str))(n:Str):Option Str:=(ps.find? λp=>decide (p.1=n)).map iY
def BR(kvs:List (Key × V))(ps:List (Str × Str)):Prop:=∀ n,dW kvs (.inr n)=(lM ps n).map V.str
variable{kvs:List (Key × V)}{ps:List (Str × Str)}
theorem BR.put{p:Str × Str}(h:BR kvs ps)(nw:∀ q∈ps,q.1≠p.1):BR (dH kvs (.inr p.1) (.str p.2)) (ps++[p]):=λn=>by
 rw [Wa];unfold lM;rw [afS];by_cases e:n=p.1
 . subst e;have z:ps.find? (λq=>decide (q.1=p.1))=none:=Bf.mpr λq hq w=>nw q hq (iH w)
   rw [bh rfl,z];simp
 . rw [aV (λz=>e (rY z)),h n];unfold lM
   have z:([p]:List (Str × Str)).find? (λq=>decide (q.1=n))=none:=Bf.mpr λq hq w=>by
     rw [gY.mp hq] at w;exact e (iH w).symm
   rw [z];cases ps.find? (λq=>decide (q.1=n)) <;> rfl
theorem ake:cP X (gK .Eq) (fS λi j=>.bl (decide (i=j))):=by
 intro ak s aj H x y v u Q I rx ry q;refine ajF ak s aj H x y v u Q I rx ry ?_
 cases x <;> cases y <;> first
   | exact (show False from q).elim
   | (refine ⟨rfl,?_⟩
      rename_i i j
      have e:decide (V.str i=V.str j)=decide (i=j):=by rw [jP]; simp
      rw [e]; exact q)
def PvH(O:au)(hs:List aP)(H1:Hp):Nat->St->Hp->Prop:=λi aj H'=>mz λ(o1 o2 o3:Option V)(kvs:List (Key × V))=>jt (aj=[o1,o2,o3]) (H' O=some (.dK kvs)) (kvs.length<=(bT (hs.take i)).length) (BR kvs (bT (hs.take i))) (aD H1 H')
def PvK(x:V)(O l:au)(hs:List aP)(h:aP)(i:Nat)(zs:List V)(H1 H3:Hp):Nat->St->Hp->Prop:=λj aj bZ=>kJ λ(o2 o3:Option V)(nP:List (Key × V))=>uV (aj=[some x,o2,o3]) (bZ O=some (.dK nP)) (nP.length<=(bT (hs.take i)++(jJ h).take j).length) (BR nP (bT (hs.take i)++(jJ h).take j)) (aD H1 bZ) (bZ l=some (.lst zs)) (cN H3 bZ)
open Builtin.Int in
theorem agN:cP X (j6 .Mult) (vB IntMulOk λi j=>.int (i * j)):=(opI λ_ _ _ _ _ _ _ hc q=>PyProof.Rows.mul_int q hc:cP X (j6 .Mult) (rI IntMulOk λi j=>.int (i * j))).vB
def Mw(n:Int):Prop:=Uy n<=1048576
def R7:Sp:=λvs H Q _=>∃ c:Int,vs=[.int c]/\Uy c<=2000000/\∀ n:Int,0<=n->Q (.int n) H
def fV(H:Hp)(p:au):Prop:=∃ n:Int,H p=some (.lst [.int n])/\0<=n
def Ph(K:cH):Sp:=λvs H Q _=>kJ λ(a:au)(ns:List Int)(k:Int)=>uV (vs=[.ref a,.int k]) (aY K H a (ns.map V.int)) ((∀ n∈ns,Mw n)) (ns.length<=63) (0<=k) (k<=1000) (∀(p:au)(H':Hp),H p=none->fV H' p->aD H H'->Q (.ref p) H')
inductive yP(vs:List V)(H:Hp)(Q:VK)(_:XK):Prop|mk (p:au) (m:Int)(_:vs=[.ref p,.int m])(_:fV H p)(_:0<m)(_:m<1073741824)(_:∀(d:Int)(H':Hp),0<=d->d<m->fV H' p->aW p H H'->Q (.int d) H')
def LQ:List Nat:=(cY 26).map (97+·)
def wZ(t:Nat):List Nat:=LQ.drop t++LQ.take t
def zJ(t sz pick k:Nat):List Nat :=
 if pick=0 then jF (1+k % 8) ((wZ t).getD (k / 8) 0) else if pick=1 then (wZ t).getD (k % 26) 0 :: ((wZ t).drop 4).take sz else ((wZ t).drop 4).take sz++[(wZ t).getD (k % 26) 0]
def aez(l:List (List Nat)):Bool:=decide l.Nodup && l.all λs=>decide (1<=s.length) && decide (s.length<=8) && s.all low
theorem akN:((cY 26).all λt=>(cY 8).all λsz=>(cY 3).all λpick=>aez ((cY 12).map (zJ t sz pick)))=true:=by decide +kernel
def wI(t sz pick k:Nat):Str:=⟨(zJ t sz pick k).toArray⟩
def nH(t sz pick:Nat):List Str:=(cY 12).map (wI t sz pick)
theorem aiS{t sz pick:Nat}(ht:t<26)(hz:sz<8)(hp:pick<3):(nH t sz pick).Nodup/\∀ s∈nH t sz pick,dG s:=by have h:=fX.mp (fX.mp (fX.mp akN t (iJ.mpr ht)) sz (iJ.mpr hz)) pick (iJ.mpr hp);unfold aez at h;obtain ⟨h1,h2⟩:=pU.mp h;have h1':=iH h1;constructor;unfold nH;rw [iT,jc] at h1' |-;refine h1'.imp λ{a b} z e=>z ?_;have:=fG (λs:Str=>s.cps.toList) e;simpa [wI] using this;intro s hs;obtain ⟨k,hk,rfl⟩:=cG.mp hs;have h3:=fX.mp h2 (zJ t sz pick k) (cG.mpr ⟨k,hk,rfl⟩);obtain ⟨h4,h5⟩:=pU.mp h3;obtain ⟨h6,h7⟩:=pU.mp h4;refine ⟨?_,?_,λc hc=>fX.mp h5 c (by simpa [wI] using hc)⟩;have:=iH h6; simpa [wI,Br] using this;have:=iH h7; simpa [wI,Br] using this
def abc:Str:="abcdefghijklmnopqrstuvwxyz"
theorem akK:abc.cps.toList=LQ:=by decide +kernel
theorem Nt{t:Nat}(h:t<=26):(wZ t).length=26:=by unfold wZ;rw [cQ,pJ,eY,show LQ.length=26 by decide];omega
theorem Uk:abc.length=26:=by decide +kernel
theorem anm{t:Nat}(ht:t<=26):(Cu abc (some (t:Int)) none++Cu abc none (some (t:Int))).cps.toList=wZ t:=by rw [app_list,an6,Xv];unfold LK wZ;rw [HT.wA,HT.Q6,Uk,akK,BK ht,oM (by rw [pJ,show LQ.length=26 by decide]; omega)]
theorem V0{l:List Nat}{k:Int}(h0:0<=k)(h1:k<l.length):mH l k=some (l.getD k.toNat 0):=by obtain ⟨n,rfl⟩:=nG h0;refine j9 ?_;have hn:n<l.length:=(by omega);rw [cT hn];simp [oV,hn]
def Fp(r:Row):lF:=.tuple [.str r.1,.int r.2]
def Ei(rs:List Row):lF:=.list (rs.map Fp)
theorem dG.ok{z:Str}(g:dG z):PyData.strOk z=true:=by unfold PyData.strOk;rw [Array.all_eq_true_iff_forall_mem];intro c hc;have h:=g.all c (by simpa using hc);unfold low at h;have h2:=iH (pU.mp h).2;exact fj (by omega)
theorem alo:∀{rs:List Row},(∀ r∈rs,dG r.1)->oY (Ei rs)=true:=by intro rs h;have h1:qm (rs.map Fp)=true:=(by induction rs with| nil=>rfl| cons r rs ih =>rw [eV];unfold qm;rw [ih λq hq=>h q (dD _ hq),Bool.and_true];unfold Fp pW qm;have z:=(h r dg).ok;simp [pW,qm,z]);have h2:sU (rs.map Fp)<=1:=(by clear h h1;induction rs with| nil=>exact cJ _| cons r rs ih =>rw [eV];unfold sU;have e:rP (Fp r)=1:=(by simp [Fp,rP,sU]);rw [e];omega);unfold oY Ei;rw [CZ];refine ⟨?_,?_⟩;unfold pW; exact h1;unfold rP; exact fj (by omega)
variable{vs:List V}{rs:List Row}
theorem amq(ha:H a=some (.lst vs))(p:bw (gW H) vs rs):Dp K H (.ref a) (Ei rs):=by refine .lst (aY.of ha) ?_;clear ha;induction p with| nil=>exact .nil| cons h _ ih =>obtain ⟨b,rfl,hb⟩:=h;exact .cons (.tup (aG.of hb) (.cons (.str _) (.cons (.int _) .nil))) ih
theorem alS(rs:List Row):oW (Ei rs) (.list [])=rs.isEmpty:=by cases rs with| nil=>simp [Ei,oW,Lh]| cons r rs=>simp [Ei,oW,Lh]
structure abA(K:cH)(x y:V)(H:Hp)(Q:VK):Prop where
 h:adF K x y H Q
theorem WY(hu:X.A.units+64<cLine):cP X (gK .NotEq) (abA X.K):=λak s aj H x y v u Q I rx ry h=>Ca hu ak s aj H x y v u Q I rx ry h.h
theorem YL{l:au}{Q:VK}(ha:H a=some (.lst vs))(p:bw (gW H) vs rs)(g:∀ r∈rs,dG r.1)(hl:H l=some (.lst []))(q:Q (.bl (!rs.isEmpty)) H):abA K (.ref a) (.ref l) H Q :=
 ⟨Ei rs,.list [],amq ha p,.lst (aY.of hl) .nil,alo g,rfl,by rw [alS]; exact q⟩
theorem afT{xs:List aJ}{x:aJ}:mH (xs++[x]) (-1)=some x:=by unfold mH vZ;have e:(xs++[x]).length=xs.length+1:=(by simp);rw [e,aV (by decide),bh (by omega)];have e2:((-1:Int)+((xs.length+1:Nat):Int)).toNat=xs.length:=(by omega);rw [e2];simp
structure HS(H0:Hp)(p R D:au)(ss:List Str)(room:Int)(H:Hp)(vr:List V)(kvs:List (Key × V))(runs:List (List Row))(m:Nat):Prop where
 pack:fV H p
 same:aW p H0 H
 hR:H R=some (.lst vr)
 pR:bw (mq H) vr runs
 hD:H D=some (.dK kvs)
 keys:kvs.map (·.1)=(ss.take m).map cB
 vals:∀ n∈ss.take m,∃ i:Int,dW kvs (.inr n)=some (.int i)
 le:m<=ss.length
 rm:(m:Int)<=room\/m=0
 good:∀ r∈runs,PX r
variable{p:au}
theorem aW.aK(hp:fV H p)(s:aW p H H'):cN H H':=λb xs e=>s b _ (λz=>by obtain ⟨n,e',_⟩:=hp; rw [z,e'] at e; cases e) e
variable{H0:Hp}{R D:au}{ss:List Str}{room:Int}{vr:List V}{runs:List (List Row)}{m:Nat}
theorem HS.step(h:HS H0 p R D ss room H vr kvs runs m)(nR:R≠p)(nD:D≠p)(pk:fV H' p)(s:aW p H H'):HS H0 p R D ss room H' vr kvs runs m :=
 ⟨pk,h.same.ao s,s _ _ nR h.hR,bG (λ_ _ z=>z.ts (aW.aK h.pack s)) h.pR,s _ _ nD h.hD,h.keys,h.vals,h.le,h.rm,h.good⟩
variable{q:au}{o:HO}
theorem fV.new(h:fV H p)(hq:H q=none):fV (upd H q o) p:=by obtain ⟨n,e,n0⟩:=h;exact ⟨n,by rw [bx (cg e hq)]; exact e,n0⟩
theorem fV.put(h:fV H p)(hq:q≠p):fV (upd H q o) p:=by obtain ⟨n,e,n0⟩:=h;exact ⟨n,by rw [bx (gQ hq)]; exact e,n0⟩
theorem HS.new(h:HS H0 p R D ss room H vr kvs runs m)(nR:R≠p)(nD:D≠p)(hq:H q=none):HS H0 p R D ss room (upd H q o) vr kvs runs m :=
 h.step nR nD (h.pack.new hq) ((aW.of (aD.refl H)).new hq)
variable{v:V}
theorem Bm{k:Key}(h:k ∉ kvs.map (·.1)):dH kvs k v=kvs++[(k,v)]:=by unfold dH;rw [aV];intro z;obtain ⟨x,hx,e⟩:=Ej.mp z;exact h (cG.mpr ⟨x,hx,iH e⟩)
variable{n:Str}
theorem Ww(hm:ss[m]?=some n):ss.take (m+1)=ss.take m++[n]:=by rw [dI,hm]; rfl
theorem alA(nd:ss.Nodup)(hm:ss[m]?=some n):n ∉ ss.take m:=λz=>by
 obtain ⟨j,hj,ej⟩:=Im.mp z;obtain ⟨hl,el⟩:=mK.mp hm;rw [eY] at hj;rw [Lr] at ej;have:=(FQ (i:=j) (j:=m) (h₀:=by omega) (h₁:=hl) nd).mp (ej.ao el.symm);omega
variable{rd:Int}
theorem HS.put{L:au}{vl:List V}{mo:Int}(h:HS H0 p R D ss room H vr kvs runs m)(nR:R≠p)(nD:D≠p)(nRD:R≠D)(nL:L≠p)(nLR:L≠R)(nLD:L≠D)(f0:H0 D=none)(fL:H0 L=none)(nd:ss.Nodup)(hm:ss[m]?=some n)(hr:(m:Int)<room)(hL:H L=some (.lst vl))(pl:bw (gW H) vl rs)(ht:upd H D (.dK (dH kvs (.inr n) (.int mo))) tp=none): HS H0 p R D ss room (upd (upd (upd H D (.dK (dH kvs (.inr n) (.int mo)))) tp (.tup [.str n,.int rd])) L (.lst (vl++[.ref tp]))) vr (dH kvs (.inr n) (.int mo)) runs (m+1) /\ bw (gW (upd (upd (upd H D (.dK (dH kvs (.inr n) (.int mo)))) tp (.tup [.str n,.int rd])) L (.lst (vl++[.ref tp])))) (vl++[.ref tp]) (rs++[(n,rd)]):=by have t1:cN H (upd H D (.dK (dH kvs (.inr n) (.int mo)))):=(cN.refl H).put h.hD (λ_ z=>nomatch z);have t2:cN H (upd (upd H D (.dK (dH kvs (.inr n) (.int mo)))) tp (.tup [.str n,.int rd])):=t1.new ht;have hL1:upd H D (.dK (dH kvs (.inr n) (.int mo))) L=some (.lst vl):=(by rw [bx nLD]; exact hL);have nLt:L≠tp:=cg hL1 ht;have hL2:upd (upd H D (.dK (dH kvs (.inr n) (.int mo)))) tp (.tup [.str n,.int rd]) L=some (.lst vl):=(by rw [bx nLt]; exact hL1);have t3:=t2.put (o:=.lst (vl++[.ref tp])) hL2 (λ_ z=>nomatch z);have hle:m<ss.length:=(mK.mp hm).1;have aiv:(cB n:Key) ∉ kvs.map (·.1):=λz=>(by rw [h.keys] at z;obtain ⟨y,hy,e⟩:=cG.mp z;exact alA nd hm (by rw [<- rY e]; exact hy));refine ⟨⟨((h.pack.put nD).new ht).put nL,?_,?_,bG (λ_ _ z=>z.ts t3) h.pR,?_,?_,?_,hle,.inl (by omega),h.good⟩,?_⟩;intro b o hb e;have n1:b≠D:=cg e f0;have n2:b≠L:=cg e fL;have e1:upd H D (.dK (dH kvs (.inr n) (.int mo))) b=some o:=(by rw [bx n1]; exact h.same b o hb e);rw [bx n2,bx (cg e1 ht)];exact e1;have e1:upd H D (.dK (dH kvs (.inr n) (.int mo))) R=some (.lst vr):=(by rw [bx nRD]; exact h.hR);rw [bx (gQ nLR),bx (cg e1 ht)];exact e1;have e1:upd H D (.dK (dH kvs (.inr n) (.int mo))) D=some (.dK (dH kvs (.inr n) (.int mo))):=aZ;rw [bx (gQ nLD),bx (cg e1 ht)];exact e1;rw [Bm aiv,dJ,h.keys,Ww hm,dJ]; rfl;intro x hx;rw [Ww hm] at hx;rw [Wa];by_cases e:(cB x:Key)=cB n;exact ⟨mo,bh e⟩;rw [aV e];rcases fQ.mp hx with z | z;exact h.vals x z;exact bK (by rw [gY.mp z]) e;refine fY (bG (λ_ _ z=>z.ts t3) pl) (.cons ⟨tp,rfl,?_⟩ .nil);rw [bx (gQ nLt),aZ]
theorem amM(h:(rs.map iY).Pairwise (·<·))(g:∀ r∈rs,r.2<rd):((rs++[(n,rd)]).map iY).Pairwise (·<·):=by rw [dJ,acR];refine ⟨h,Jq _ _,λa ha b hb=>?_⟩;obtain ⟨r,hr,rfl⟩:=cG.mp ha;have e:b=rd:=(by simpa using hb);rw [e]; exact g r hr
theorem adk{a b c e d:Int}(h0:0<=d)(h4:d<4)(ha:0<=a/\a<=300)(hb:0<=b/\b<=300)(hc:0<=c/\c<=300)(he:0<=e/\e<=300):∃ w:Int,mH [V.int a,.int b,.int c,.int e] d=some (.int w)/\0<=w/\w<=300:=by
 obtain ⟨n,rfl⟩:=nG h0
 match n,h4 with
 | 0,_=>exact ⟨a,rfl,ha⟩
 | 1,_=>exact ⟨b,rfl,hb⟩
 | 2,_=>exact ⟨c,rfl,hc⟩
 | 3,_=>exact ⟨e,rfl,he⟩
 | n+4,h=>exact bK h (by omega)
def Vr:Sp:=λvs H Q _=>QX5 λ(p:au)(nm:Str)(ln:au)(ss:List Str)(room:Int)=>QA8 (vs=[.ref p,.str nm,.ref ln,.int room]) (fV H p) (dG nm) (H ln=some (.lst (ss.map V.str))) (ss.length<=12) (ss.Nodup) ((∀ s∈ss,dG s)) (∀(r d:au)(hv:V)(h:aP)(kvs:List (Key × V))(m:Nat)(H':Hp),H r=none->H d=none->H' r=some (.tup [hv,.ref d])->iG H' hv h->uH h->h.name=nm->fH h=ss.take m->m<=ss.length->((m:Int)<=room\/m=0)->H' d=some (.dK kvs)->kvs.map (·.1)=(ss.take m).map cB->(∀ n∈ss.take m,∃ i:Int,dW kvs (.inr n)=some (.int i))->fV H' p->aW p H H'->Q (.ref r) H')
def NvR(p ln R D L:au)(nm:Str)(room low wide bV yF mo:Int)(m:Nat)(x11 x14:V)(H:Hp)(ss:List Str)(vr vl:List V)(kvs:List (Key × V))(runs:List (List Row))(rs:List Row)(F:Int->Prop):St->Hp->Prop:=fun bJ H'=>∃ rd:Int,bJ=[some (.ref p),some (.str nm),some (.ref ln),some (.int room),some (.int low),some (.int wide),some (.int bV),some (.int mo),some (.ref R),some (.ref D),some (.int (m:Int)),some x11,some (.int (low+yF)),some (.ref L),some x14,some (.int rd)]/\HS H p R D ss room H' vr kvs runs m/\H' L=some (.lst vl)/\bw (gW H') vl rs/\F rd
def PvA(p ln R D:au)(nm:Str)(room low wide bV:Int)(H:Hp)(ss:List Str):Nat->St->Hp->Prop:=λi aj H'=>Za λ(mo:Int)(m:Nat)(vr:List V)(kvs:List (Key × V))(runs:List (List Row))(iy mY pP qQ qb:Option V)=>wB (aj=[some (.ref p),some (.str nm),some (.ref ln),some (.int room),some (.int low),some (.int wide),some (.int bV),some (.int mo),some (.ref R),some (.ref D),some (.int (m:Int)),iy,mY,pP,qQ,qb]) (HS H p R D ss room H' vr kvs runs m) (runs.flatten.map cu=ss.take m) (runs.length<=i)
def PvB(p ln R D L:au)(nm:Str)(room low wide bV yF:Int)(H:Hp)(ss:List Str)(i:Nat)(vr:List V)(runs:List (List Row)):Nat->St->Hp->Prop:=λj aj bZ=>QX7 λ(mo:Int)(m:Nat)(kvs:List (Key × V))(vl:List V)(rs:List Row)(qQ qb:Option V)=>uV (aj=[some (.ref p),some (.str nm),some (.ref ln),some (.int room),some (.int low),some (.int wide),some (.int bV),some (.int mo),some (.ref R),some (.ref D),some (.int (m:Int)),some (.int (0+(i:Int))),some (.int (low+yF)),some (.ref L),qQ,qb]) (HS H p R D ss room bZ vr kvs runs m) (bZ L=some (.lst vl)) (bw (gW bZ) vl rs) ((runs.flatten++rs).map cu=ss.take m) (rs.length<=j) ((rs.map iY).Pairwise (·<·))
theorem ajP:cP X (gK .NotEq) (fS λi j=>.bl (!decide (i=j))):=by
 intro ak s aj H x y v u Q I rx ry q;refine ajc ak s aj H x y v u Q I rx ry ?_
 cases x <;> cases y <;> first
   | exact (show False from q).elim
   | (refine ⟨rfl,?_⟩
      rename_i i j
      have e:decide (V.str i=V.str j)=decide (i=j):=by rw [jP]; simp
      rw [e]; exact q)
theorem ahc{κ:Type}[DecidableEq κ]{kvs:List (κ × V)}{k:κ}{v:V}{x:κ × V}(h:x∈dH kvs k v):x=(k,v)\/x∈kvs:=by unfold dH at h;split at h;obtain ⟨y,hy,e⟩:=cG.mp h;split at e;rename_i c;exact .inl (by rw [<- e,c]);exact .inr (by rw [<- e]; exact hy);rcases fQ.mp h with z | z;exact .inr z;exact .inl (gY.mp z)
theorem aon{κ:Type}[DecidableEq κ]{kvs:List (κ × V)}{k:κ}(h:k∈kvs.map (·.1)):∃ v,dW kvs k=some v/\(k,v)∈kvs:=by induction kvs with| nil=>simp at h| cons x r ih =>by_cases e:x.1=k;refine ⟨x.2,su e,?_⟩;rw [<- e]; exact dg;rw [eV] at h;rcases dF.mp h with z | z;exact bK z.symm e;obtain ⟨v,h1,h2⟩:=ih z;exact ⟨v,by rw [sy e]; exact h1,dD _ h2⟩
def yI(kvs:List (Key × V))(ps:List (Str × Str)):Prop:=∀ p∈ps,dW kvs (.inr p.1)=some (.str p.2)
theorem yI.put{p:Str × Str}(h:yI kvs ps)(n:∀ q∈ps,q.1≠p.1):yI (dH kvs (.inr p.1) (.str p.2)) (ps++[p]):=λq hq=>by
 rw [Wa];rcases fQ.mp hq with z | z
 . rw [aV (λe=>n q z (rY e))]; exact h q z
 . rw [gY.mp z,bh rfl]
def Ig(hs:List aP)(H:Hp)(kf:List (List Key × V)):Prop:=∀ kv∈kf,∃ l:bH,kv.1=kP l.1/\jw H kv.2 l/\Oq hs l
variable{hs:List aP}
theorem Ig.keys:∀{kf:List (List Key × V)},Ig hs H kf->∃ ks:List (Str × Str),kf.map (·.1)=ks.map kP/\ks.length=kf.length
 | [],_=>⟨[],rfl,rfl⟩
 | kv :: r,h=>by obtain ⟨l,e,_⟩:=h kv dg;obtain ⟨ks,e2,e3⟩:=Ig.keys (kf:=r) λx hx=>h x (dD _ hx);exact ⟨l.1 :: ks,by rw [eV,eV,e,e2],by simp [e3]⟩
def lC(nm:Str)(r:List Row):List (Str × Str):=r.map λx=>(x.1,nm)
theorem ago(h:aP):jJ h=h.runs.flatMap (lC h.name):=by unfold jJ qJ lC;rw [List.map_flatten,RV]
theorem ae9(ow:yI kvs (bT hs))(h:n∈bA hs):∃ hh∈hs,n∈fH hh/\dW kvs (.inr n)=some (.str hh.name):=by obtain ⟨hh,m,hn⟩:=jR.mp h;refine ⟨hh,m,hn,ow (n,hh.name) (jR.mpr ⟨hh,m,?_⟩)⟩;obtain ⟨r,hr,er⟩:=cG.mp hn;exact cG.mpr ⟨r,hr,by rw [er]⟩
theorem aaT(g:∀ h∈hs,uH h)(h:n∈bA hs):dG n:=by obtain ⟨hh,m,hn⟩:=jR.mp h;obtain ⟨r,hr,er⟩:=cG.mp hn;obtain ⟨run,hrun,hr2⟩:=Du.mp hr;rw [<- er];exact ((g hh m).runs run hrun).names r hr2
def PvC(p lh dh O:au)(hs:List aP)(H:Hp):Nat->St->Hp->Prop:=λi aj H'=>QX5 λ(kv:List (Key × V))(o4 o5 o6 o7:Option V)=>jt (aj=[some (.ref p),some (.ref lh),some (.ref dh),some (.ref O),o4,o5,o6,o7,none,none,none,none,none,none,none,none]) (H' O=some (.dK kv)) (yI kv (bT (hs.take i))) (kv.length<=(bT (hs.take i)).length) (aD H H')
def PvD(p lh dh O a:au)(hs:List aP)(hh:aP)(i:Nat)(H:Hp):Nat->St->Hp->Prop:=λj aj H'=>mz λ(kv:List (Key × V))(o5 o6 o7:Option V)=>jt (aj=[some (.ref p),some (.ref lh),some (.ref dh),some (.ref O),some (.ref a),o5,o6,o7,none,none,none,none,none,none,none,none]) (H' O=some (.dK kv)) (yI kv (bT (hs.take i)++(hh.runs.take j).flatMap (lC hh.name))) (kv.length<=(bT (hs.take i)++(hh.runs.take j).flatMap (lC hh.name)).length) (aD H H')
def PvE(p lh dh O a c2:au)(hs:List aP)(hh:aP)(i j:Nat)(r:List Row)(H:Hp):Nat->St->Hp->Prop:=λt aj H'=>kJ λ(kv:List (Key × V))(o6 o7:Option V)=>jt (aj=[some (.ref p),some (.ref lh),some (.ref dh),some (.ref O),some (.ref a),some (.ref c2),o6,o7,none,none,none,none,none,none,none,none]) (H' O=some (.dK kv)) (yI kv (bT (hs.take i)++(hh.runs.take j).flatMap (lC hh.name)++(lC hh.name r).take t)) (kv.length<=(bT (hs.take i)++(hh.runs.take j).flatMap (lC hh.name)++(lC hh.name r).take t).length) (aD H H')
def PvF(p lh dh O l8 F:au)(hs:List aP)(H2:Hp):Nat->St->Hp->Prop:=λi aj H'=>aaw λ(kf:List (List Key × V))(o4 o5 o6 o7 jj iy mY pP qQ qb:Option V)=>uf (aj=[some (.ref p),some (.ref lh),some (.ref dh),some (.ref O),o4,o5,o6,o7,some (.ref l8),some (.ref F),jj,iy,mY,pP,qQ,qb]) (fV H' p) (aW p H2 H') (H' F=some (.dT kf)) (kf.length<=i) (Ig hs H' kf)
theorem Bu(s:aD H Ha)(n:H p=none)(b:aW p Ha Hb):aD H Hb:=λc o e=>b c o (λz=>by rw [z,n] at e; cases e) (s c o e)
theorem WR:∀(more kvs:List (Key × V)),(more.map (·.1)).Nodup->(∀ k∈more.map (·.1),k ∉ kvs.map (·.1))->tU kvs more=kvs++more
 | [],kvs,_,_=>by rw [yJ]; rfl
 | x :: r,kvs,nd,dj=>by rw [eV] at nd dj;have nd':=uG.mp nd;show tU (dH kvs x.1 x.2) r=_;rw [Bm (dj x.1 dg),WR r _ nd'.2,oU];rfl;intro k hk z;rw [dJ] at z;rcases fQ.mp z with z | z;exact dj k (dD _ hk) z;have:k=x.1:=(by simpa using z);exact nd'.1 (by rw [<- this]; exact hk)
theorem ajL{more:List (Key × V)}{k:Key}:dW (kvs++more) k=(dW kvs k).or (dW more k):=by unfold dW;rw [afS];cases kvs.find? (λkv=>decide (kv.1=k)) <;> rfl
theorem ai2{k:Key}(h:k ∉ kvs.map (·.1)):dW kvs k=none:=by cases e:dW kvs k with| none=>rfl| some v=>exact bK (aoA e) h
theorem YM{aJ:Type}{R:aJ->aJ->Prop}:∀{l:List aJ},l.Pairwise R->∀ p∈oG l,R p.1 p.2
 | [],_,p,hp=>by simp [oG] at hp
 | [x],_,p,hp=>by simp [oG] at hp
 | x :: y :: l,h,p,hp=>by have e:oG (x :: y :: l)=(x,y) :: oG (y :: l):=rfl;rw [e] at hp;rcases dF.mp hp with z | z;rw [z]; exact (QT.mp h).1 y (dg ..);exact YM (QT.mp h).2 p z
theorem aho(h:is.Pairwise (·<·)):qK is=true:=fX.mpr λp hp=>fj (YM h p hp)
theorem amg{ks:List (Str × Str)}(h:ks.Pairwise (λa b=>jE a b=true)):SQ ks=true:=fX.mpr λp hp=>YM h p hp
theorem anQ{x:Str}(nd:(ps.map cu).Nodup)(h:(n,x)∈ps):lM ps n=some x:=by unfold lM;induction ps with| nil=>simp at h| cons p ps ih =>rw [eV,uG] at nd;by_cases e:p.1=n;rw [agi (by simp [e])];rcases dF.mp h with z | z;rw [<- z]; rfl;exact bK (cG.mpr ⟨_,z,e.symm⟩) nd.1;rw [aaX (by simp [e])];rcases dF.mp h with z | z;rw [<- z] at e; exact bK rfl e;exact ih nd.2 z
theorem owner(nd:(bA hs).Nodup)(hh:h∈hs)(hn:n∈fH h):lM (bT hs) n=some h.name:=by refine anQ (by rw [rZ]; exact nd) ?_;obtain ⟨r,hr,e⟩:=cG.mp hn;exact jR.mpr ⟨h,hh,cG.mpr ⟨r,hr,by rw [e]⟩⟩
def O6(K:cH):Sp:=λvs H Q _=>∃(a:au)(ns:List Int),vs=[.ref a]/\aY K H a (ns.map V.int)/\ns.length<=63/\(∀ n∈ns,Mw n)/\∀ H',Q (.bl true) H'
end K02
namespace K45
open PySem L2 K02
abbrev aM(a:au):Option V:=some (.ref a)
abbrev bU(a:Int):Option V:=some (.int a)
abbrev nJ(a:Str):Option V:=some (.str a)
abbrev aX:Option V:=none
abbrev gG(K:cH)(x:Str)(st:cD)(f:au)(fd:oA):Prop:=tG K x x st f fd
variable{P:dX}{w:cU}{K:cH}{mg:Str->Option aB}{base:bD}{t8 t6 tR tL t9:Tok}{C NW:au}{c:Nat->au}
variable{X:Cx}{ps:List Str}{x:Str}{e:Expr}{pos:Pos}
theorem pZ{te:TE}{pos':Pos}(i:Nat)(S:fB X.N ps X.env.scope)(he:PE X e te)(hi:X.N[i]?=some x:=by rfl)(hx:Loc X.env.scope x:=by first | exact .inl rfl | exact .inr rfl)(hs:zO e (some (.Name x pos')) pos.line X.env=pure false:=by rfl)(hf:X.fn x=true\/X.env.scope.names.lookup x=some .local:=by first | exact .inl rfl | exact .inr rfl | assumption):PS X (.Assign [.Name x pos'] e pos) (yZ te (wN i)):=acA S.nd hi hx he hs hf
theorem pY(i:Nat)(S:fB X.N ps X.env.scope)(hi:X.N[i]?=some x:=by rfl)(hx:Loc X.env.scope x:=by first | exact .inl rfl | exact .inr rfl)(hf:X.fn x=true\/X.env.scope.names.lookup x=some .local:=by first | exact .inl rfl | exact .inr rfl | assumption):PG X (.Name x pos) (wN i):=Wt S.nd hi hx hf
theorem pH(i:Nat)(N:List Str)(nd:N.Nodup:=by decide +kernel)(e:X.N=N:=by rfl)(hi:N[i]?=some x:=by rfl)(hx:Loc X.env.scope x:=by first | exact .inl rfl | exact .inr rfl)(hf:X.fn x=true\/X.env.scope.names.lookup x=some .local:=by first | exact .inl rfl | exact .inr rfl | assumption):PG X (.Name x pos) (wN i):=Wt (e ▸ nd) (e ▸ hi) hx hf
theorem pX{a b:Expr}{ta tb:TE}{r:R2}(hr:xV X r)(ha:PE X a ta)(hb:PE X b tb)(hs:VG b:=by exact λ_ _=>rfl):PE X (.Subscript a b pos) (BW r ta tb):=Cg hr ha hb hs
@[elab_as_elim] theorem gE{P:Hp}{T:au}{X:HO}{motive:Hp->Prop}(f:P T=none)(k:∀ N,aD P N->N T=some X->motive N):motive (upd P T X):=k _ ((aD.refl P).upd f) aZ
structure Cl(P:dX)(w:cU)(K:cH)(mg:Str->Option aB)(base:bD)(k:Nat)(x:Str)(ps:List Str)(sp:Sp):Prop where
 ex:∃ f fd,bM P w K mg base bR k f fd ps sp/\mg x=some (.ref f)/\vY K (.ref f)=true/\dw K fd ps []
variable{sp:Sp}{f:au}{fd:oA}
theorem clM{k:Nat}(a:bM P w K mg base bR k f fd ps sp)(b:mg x=some (.ref f))(c:vY K (.ref f)=true)(d:dw K fd ps []):Cl P w K mg base k x ps sp:=⟨_,_,a,b,c,d⟩
variable{p:Pos}{es:List Expr}
theorem pC{k:Nat}{t:TA}(c:Cl X.prog X.w X.K X.mg X.base k x ps sp)(hr:jU k X.A)(ha:PA X (e :: es) t)(hg:Gl X x:=by rfl)(hdb:(x == ("__debug__" : Str))=false:=by decide)(he:dO (e :: es) X.env=(false,eval e X.env) :: dO es X.env:=by rfl)(hpl:(backTo pos (dO es X.env)).any (·.1)=false:=by rfl):
   PE X (.Call (.Name x p) (e :: es) [] pos) (Nh sp [] E0 t):=let ⟨_,_,F,m,kk,b⟩:=c.ex; JQ F hr hg m kk b .nil ah1 ha hdb he hpl
theorem qC{k:Nat}{t:TA}(c:Cl X.prog X.w X.K X.mg X.base k x ps sp)(hr:jU k X.A)(ha:SA X (e :: es) t)(hg:Gl X x:=by rfl)(hdb:(x == ("__debug__" : Str))=false:=by decide)(he:dO (e :: es) X.env=(false,eval e X.env) :: dO es X.env:=by rfl)(hpl:(backTo pos (dO es X.env)).any (·.1)=false:=by rfl):
   SE X (.Call (.Name x p) (e :: es) [] pos) (Nh sp [] E0 t):=⟨pC c hr ha.h hg hdb he hpl⟩
def top(i:Nat):cD:=PySem.Challenge.pw_skewbooks_k45_what_is_not_merged.main.body.getD i (.Pass ⟨0,0,0,0⟩)
abbrev Wq:cD:=top 19
abbrev RD:cD:=top 20
abbrev WW:cD:=top 25
abbrev Pz:cD:=top 26
abbrev Xm:cD:=top 27
abbrev Qu:cD:=top 28
abbrev Jw:cD:=top 29
abbrev Rq:cD:=top 30
abbrev Oe:cD:=top 31
abbrev Qy:cD:=top 32
abbrev WM:cD:=top 33
abbrev JC:cD:=top 34
abbrev VD:cD:=top 35
abbrev Fq:cD:=top 36
abbrev Ti:cD:=top 37
abbrev Ov:cD:=top 38
abbrev Jg:cD:=top 40
abbrev Ri:cD:=top 41
abbrev Yw:cD:=top 42
abbrev Hf:cD:=top 43
abbrev Qf:cD:=top 44
abbrev Uv:cD:=top 45
abbrev Vk:cD:=top 47
abbrev Zq:cD:=top 48
abbrev XH:cD:=top 49
abbrev Gb:cD:=top 50
abbrev Yc:cD:=top 51
abbrev Ry:cD:=top 52
abbrev Y5:cD:=top 53
abbrev Mf:cD:=top 54
abbrev K3:cD:=top 55
abbrev Mt:cD:=top 56
abbrev Vw:cD:=top 66
abbrev HX:cD:=top 57
abbrev Rg:cD:=top 58
abbrev Ia:cD:=top 59
abbrev WQ:cD:=top 60
abbrev Vv:cD:=top 61
abbrev Xn:cD:=top 62
abbrev Qz:cD:=top 63
abbrev Sv:cD:=top 64
abbrev Qo:cD:=top 65
structure Txt(mg:Str->Option aB)(t8 t6 tR tL:Tok):Prop where
 uQ:mg "isinstance" = none
 int:mg "int" = none
 bool:mg "bool" = none
 str:mg "str" = none
 tuple:mg "tuple" = none
 len:mg "len" = none
 all:mg "all" = none
 zip:mg "zip" = none
 set:mg "set" = none
 sorted:mg "sorted" = none
 divmod:mg "divmod" = none
 range:mg "range" = none
 max:mg "max" = none
 min:mg "min" = none
 abs:mg "abs" = none
 list:mg "list" = none
 dict:mg "dict" = none
 any:mg "any" = none
 most:mg "LONGEST_NAME" = some (.int 8 t8)
 ahD:mg "MOST_HOUSES" = some (.int 6 t6)
 aoh:mg "MOST_ROWS" = some (.int 24 tR)
 aiD:mg "MOST_LETTERS" = some (.int 24 tL)
def mL:List Nat:=[109,101,114,103,101,114]
theorem am6:((cY 26).all λt=>(cY 8).all λsz=>(cY 3).all λpick=>(cY 12).all λk=>!decide (zJ t sz pick k=mL))=true:=by decide +kernel
theorem anI{t sz pick:Nat}(ht:t<26)(hz:sz<8)(hp:pick<3):∀ s∈nH t sz pick,s≠"merger":=by intro s hs e;obtain ⟨k,hk,rfl⟩:=cG.mp hs;have h:=fX.mp (fX.mp (fX.mp (fX.mp am6 t (iJ.mpr ht)) sz (iJ.mpr hz)) pick (iJ.mpr hp)) k hk;have e1:(wI t sz pick k).cps.toList=("merger" : Str).cps.toList:=fG (λs:Str=>s.cps.toList) e;have e3:("merger" : Str).cps.toList=mL:=(by decide +kernel);have e2:zJ t sz pick k=mL:=(by rw [<- e3,<- e1]; simp [wI]);rw [e2] at h;exact bK h (by decide)
def Wk:Sp:=λvs H Q _=>∃(p:au)(n:Nat),vs=[.ref p,.int (n:Int)]/\n<=12/\fV H p/\∀(l:au)(ss:List Str)(H':Hp),H l=none->H' l=some (.lst (ss.map V.str))->ss.length=n->ss.Nodup->(∀ s∈ss,dG s)->(∀ s∈ss,s≠"merger")->fV H' p->aW p H H'->Q (.ref l) H'
theorem ahQ:fB ["thing"] ["thing"] (bN Wq):=gA
theorem al2:fB ["thing"] ["thing"] (bN RD):=gA
theorem akL:fB ["_law_cell"] ["_law_cell"] (bN Vk):=gA
theorem aoY(F:gG K "_law_mixed" Vk f fd):bM P w K mg base bR 1 f fd ["_law_cell"] R7:=by refine F.ok akL (λvs H Q E h=>?_) (λcdv A outer s H vs Q E hr h=>?_);obtain ⟨c,rfl,_⟩:=h;rfl;obtain ⟨c,rfl,hb,q⟩:=h;refine ⟨_,(bC (cO (cC oMod (cC agN (pV 0) aQ) (cC anr aQ aQ)))),?_⟩;refine ⟨IntMulOk.of_le (m:=2000000) (n:=400) hb (by decide +kernel) (by decide),?_⟩;refine ⟨⟨by decide,by decide,by decide⟩,by show (0:Int)<10 ^ Int.toNat 60; decide +kernel,?_⟩;exact q _ (Xp _ (by decide +kernel))
theorem anP:fB ["_law_script","_law_k"] ["_law_script","_law_k"] (bN Zq):=gA
theorem akR(F:gG K "_law_pack" Zq f fd)(T:Txt mg t8 t6 tR tL)(abo:Cl P w K mg base 1 "_law_mixed" ["_law_cell"] R7):bM P w K mg base bR 2 f fd ["_law_script","_law_k"] (Ph K):=by refine F.ok anP (λvs H Q E h=>?_) (λcdv A outer s H vs Q E hr h=>?_);obtain ⟨a,ns,k,rfl,_⟩:=h;rfl;obtain ⟨a,ns,k,rfl,ha,hb,hl,k0,k1,q⟩:=h;have small:∀ z:Int,0<=z->z<=10000000->Uy z<=1048576:=λz z0 z1=>gw (Vo (by omega) (by omega)) (by decide);have fin:∀ n:Int,0<=n->Xb (aah (tC (.int n)) W6) ([]:St) H Q:=λn n0=>⟨by show 1<=aL; rw [dZ]; decide,λp hp=>q p _ hp ⟨n,aZ,n0⟩ ((aD.refl H).upd hp)⟩;refine ⟨_,(bf (gD (gF oLt (pV 1) (cR jC rfl T.len iM (aq (pV 0) aC)) (cV _)) (bC (cO (iu (aq (pC abo hr (aq (cC gM (pX mJ (pV 0) (pV 1)) (cC Qd aQ (pV 1))) aC)) aC)))) gC) (bC (cO (iu (aq (pC abo hr (aq (cC gM (cC Qd aQ (pV 1)) aQ) aC)) aC))))),?_⟩;refine ⟨a,_,rfl,.inl ha,?_⟩;refine gB (λz=>?_) (λz=>?_);have lt:k<((ns.map V.int).length:Int):=iH z;obtain ⟨j,rfl⟩:=nG k0;rw [aU] at lt;have hj:ns[j]?=some ns[j]:=cT (by omega);refine amf ha (v:=.int ns[j]) (j9 (by rw [cX,hj]; rfl)) ?_;refine ⟨.inl ⟨by decide,by decide⟩,?_⟩;have b1:=intBits_add_le (hb ns[j] (dB hj)) (small (23 * (j:Int)) (by omega) (by omega));refine ⟨_,rfl,gw b1 (by decide),λn n0=>?_⟩;exact fin n n0;refine ⟨.inl ⟨by decide,by decide⟩,?_⟩;refine ⟨_,rfl,gw (small (5099 * k+7) (by omega) (by omega)) (by decide),λn n0=>?_⟩;exact fin n n0
theorem ab7:fB ["_law_pack_here","_law_size","_law_digit"] ["_law_pack_here","_law_size"] (bN XH):=gA
theorem ag1(F:gG K "_law_take" XH f fd)(T:Txt mg t8 t6 tR tL):bM P w K mg base bR 1 f fd ["_law_pack_here","_law_size"] yP:=by refine F.ok ab7 (λvs H Q E h=>?_) (λcdv A outer s H vs Q E hr h=>?_);obtain ⟨p,m,rfl,_⟩:=h;rfl;obtain ⟨p,m,rfl,⟨n,hp,n0⟩,m0,m1,q⟩:=h;refine ⟨_,(bf (Ed (cR aiZ rfl T.divmod PyProof.Rows.boot_divmod (aq (pX mJ (pV 0) aQ) (aq (pV 1) aC))) (j8 rfl (cZ (aeb (pV 0) aQ aaD) (cZ (pY 2 ab7) jV)))) (bC (cO (pV 2)))),?_⟩;refine m7 hp (i:=0) (by rfl) ?_;refine ⟨n,m,rfl,⟨m0,m1⟩,λt ht=>?_⟩;have ne:p≠t:=cg hp ht;refine ⟨t,_,rfl,aG.of aZ,rfl,_,_,rfl,?_⟩;refine setAt (j:=0) (show upd H t (.tup [.int (n / m),.int (n % m)]) p=some (.lst [.int n]) by rw [bx ne]; exact hp) (by rfl) ?_;refine ⟨_,_,rfl,rfl,?_⟩;refine q _ _ (Xp n (by omega)) (af4 n m0) ⟨n / m,aZ,Int.ediv_nonneg n0 (by omega)⟩ ?_;exact ((aW.of (aD.refl H)).new ht).upd
theorem Gw:fB ["_law_pack_here","_law_amount","_law_letters_here","_law_turn","_law_pick","_law_size"] ["_law_pack_here","_law_amount"] (bN Gb):=gA
theorem agA(F:gG K "_law_names" Gb f fd)(T:Txt mg t8 t6 tR tL)(fZ:Cl P w K mg base 1 "_law_take" ["_law_pack_here","_law_size"] yP):bM P w K mg base bR 2 f fd ["_law_pack_here","_law_amount"] Wk:=by refine F.ok Gw (λvs H Q E h=>?_) (λcdv A outer s H vs Q E hr h=>?_);obtain ⟨p,n,rfl,_⟩:=h;rfl;obtain ⟨p,n,rfl,n12,hp,q⟩:=h;have fW:=dZ;refine ⟨_,(bf (pZ 2 Gw iU) (bf (pZ 3 Gw (pC fZ hr (aq (pV 0) (aq aQ aC)))) (bf (pZ 2 Gw (cC Ij (jZ Oo (pV 2) (jk (pV 3)) mC) (jZ Oo (pV 2) mC (jk (pV 3))))) (bf (pZ 4 Gw (pC fZ hr (aq (pV 0) (aq aQ aC)))) (bf (pZ 5 Gw (pC fZ hr (aq (pV 0) (aq aQ aC)))) (bf (gD (gF oEq (pV 4) aQ (cV _)) (bC (cO (jg (bQ:=bN Gb) (own:=["_law_k"]) (cap:=["_law_letters_here"]) (ix:=[2]) rfl rfl gP (uO rfl T.range (aq (pV 1) aC)) (λb=>(pH 0 ["_law_k","_law_letters_here"])) (λb=>ig) (λb=>(cC apn (pX Gq (pV 1) (cC oDiv (pV 0) aQ)) (cC gM aQ (cC oMod (pV 0) aQ))))))) gC) (bf (gD (gF oEq (pV 4) aQ (cV _)) (bC (cO (jg (bQ:=bN Gb) (own:=["_law_k"]) (cap:=["_law_letters_here","_law_size"]) (ix:=[2,5]) rfl rfl gP (uO rfl T.range (aq (pV 1) aC)) (λb=>(pH 0 ["_law_k","_law_letters_here","_law_size"])) (λb=>ig) (λb=>(cC Ij (pX Gq (pV 1) (cC oMod (pV 0) aQ)) (jZ Oo (pV 1) (jk aQ) (jk (cC gM aQ (pV 2))))))))) gC) (bC (cO (jg (bQ:=bN Gb) (own:=["_law_k"]) (cap:=["_law_letters_here","_law_size"]) (ix:=[2,5]) rfl rfl gP (uO rfl T.range (aq (pV 1) aC)) (λb=>(pH 0 ["_law_k","_law_letters_here","_law_size"])) (λb=>ig) (λb=>(cC Ij (jZ Oo (pV 1) (jk aQ) (jk (cC gM aQ (pV 2)))) (pX Gq (pV 1) (cC oMod (pV 0) aQ)))))))))))))),?_⟩;refine ⟨p,26,rfl,hp,by decide,by decide,λt H1 t0 t1 hp1 s1=>?_⟩;obtain ⟨t,rfl⟩:=nG t0;have ht:t<26:=(by omega);have la:abc.length<=aL:=(by rw [Uk]; omega);refine Oc (z:=abc) la ?_;refine Oc (z:=abc) la ?_;have rt:=anm (t:=t) (by omega);refine ⟨by have z1:=Vp abc (some (t:Int)) none;have z2:=Vp abc none (some (t:Int));rw [Uk] at z1 z2;omega,?_⟩;generalize Cu abc (some (t:Int)) none++Cu abc none (some (t:Int))=R at rt;have lR:R.length=26:=(by rw [<- len_list,rt]; exact Nt (by omega));refine ⟨p,3,rfl,hp1,by decide,by decide,λpk H2 p0 p1 hp2 s2=>?_⟩;obtain ⟨pick,rfl⟩:=nG p0;refine ⟨p,8,rfl,hp2,by decide,by decide,λsz H3 z0 z1 hp3 s3=>?_⟩;obtain ⟨size,rfl⟩:=nG z0;have s13:aW p H H3:=(s1.ao s2).ao s3;obtain ⟨ok1,ok2⟩:=aiS (t:=t) (sz:=size) (pick:=pick) ht (by omega) (by omega);have ok3:=anI (t:=t) (sz:=size) (pick:=pick) ht (by omega) (by omega);have fin:∀(D:au)(H':Hp),H3 D=none->cW H3 H' D (((nH t size pick).take n).map V.str)->Q (.ref D) H':=λD H' hD G=>(by refine q D ((nH t size pick).take n) H' ?_ G.at' (by unfold nH; rw [eY,aU,rK]; omega) ((yS _ _).nodup ok1) (λs hs=>ok2 s (sX hs)) (λs hs=>ok3 s (sX hs)) (by obtain ⟨n,e,n0⟩:=hp3; exact ⟨n,G.same _ _ e,n0⟩) (s13.ao (aW.of G.same));cases e:H D with| none=>rfl| some o =>have nD:D≠p:=λz=>(by obtain ⟨n,e',_⟩:=hp3;rw [<- z,hD] at e'; cases e');have:=s13 D o nD e;rw [hD] at this; cases this);have step:∀(i:Nat),i<12->(nH t size pick).take (i+1)=(nH t size pick).take i++[wI t size pick i]:=λi hi=>(by have e:(nH t size pick)[i]?=some (wI t size pick i):=(by unfold nH; rw [cX,M6 hi]; rfl);rw [dI,e]; rfl);have ap1:(nH t size pick).length=12:=(by unfold nH; rw [aU,rK]);have put:∀(i:Nat)(D:au)(H':Hp)(z:Str),i<n->H3 D=none->cW H3 H' D (((nH t size pick).take i).map V.str)->z.cps.toList=zJ t size pick i->∃ zs,H' D=some (.lst zs)/\zs.length<aL/\Nx n i (λi H'=>cW H3 H' D (((nH t size pick).take i).map V.str)) (upd H' D (.lst (zs++[.str z]))):=λi D H' z hi hD G ez=>(by refine ⟨_,G.at',by rw [aU,eY]; omega,nx hi ?_⟩;show cW H3 _ D (((nH t size pick).take (i+1)).map V.str);have ez':z=wI t size pick i:=(by cases z with| mk c=>unfold wI; congr 1; rw [<- ez]);rw [step i (by omega),dJ,ez'];exact G.put hD _);have aeH:(Cu R (some 4) (some (4+(size:Int)))).cps.toList=((wZ t).drop 4).take size:=(by have e:Cu R (some ((4:Nat):Int)) (some ((4+size:Nat):Int))=_:=aob R 4 (4+size);have e2:Cu R (some 4) (some (4+(size:Int)))=⟨((R.cps.toList.take (4+size)).drop 4).toArray⟩:=e;rw [e2,rt,Lf];simp);have ap7:(Cu R (some 4) (some (4+(size:Int)))).length<=26:=(by rw [<- lR]; exact Vp R _ _);refine gB (λc1=>?_) (λc1=>?_);have pk0:pick=0:=(by have:=iH c1; omega);refine ⟨(n:Int),rfl,by omega,by omega,λD hD=>JL (lo:=0) (n:=n) (λi H'=>cW H3 H' D (((nH t size pick).take i).map V.str)) (cW.start hD) (λH' G=>fin D H' hD G) (λi H' hi G b=>?_)⟩;refine ⟨⟨by decide,by decide⟩,?_⟩;refine Gj (z:=R) (by omega) (by rw [rt]; exact V0 (by omega) (by rw [Nt (by omega)]; omega)) ?_;refine ⟨by show (0:Int)<8; decide,?_⟩;refine ⟨_,_,rfl,rfl,by omega,by omega,?_⟩;refine put i D H' _ hi hD G ?_;subst pk0;unfold zJ;rw [bh rfl];show jF _ _=_;congr 1;omega;congr 1; omega;refine gB (λc2=>?_) (λc2=>?_);have nC:pick=1:=(by have:=iH c2; omega);refine ⟨(n:Int),rfl,by omega,by omega,λD hD=>JL (lo:=0) (n:=n) (λi H'=>cW H3 H' D (((nH t size pick).take i).map V.str)) (cW.start hD) (λH' G=>fin D H' hD G) (λi H' hi G b=>?_)⟩;refine ⟨by show (0:Int)<26; decide,?_⟩;refine Gj (z:=R) (by omega) (by rw [rt]; exact V0 (by omega) (by rw [Nt (by omega)]; omega)) ?_;refine Oc (z:=R) (by omega) ?_;refine ⟨by show 1+_<=aL; omega,?_⟩;refine put i D H' _ hi hD G ?_;subst nC;rw [app_list,aeH];unfold zJ;rw [aV (by decide),bh rfl];have ei:((0+(i:Int)) % 26).toNat=i % 26:=(by omega);show (wZ t).getD ((0+(i:Int)) % 26).toNat 0 :: _=_;rw [ei];rfl;have pk2:pick≠0/\pick≠1:=⟨λe=>c1 (fj (by rw [e]; rfl)),λe=>c2 (fj (by rw [e]; rfl))⟩;refine ⟨(n:Int),rfl,by omega,by omega,λD hD=>JL (lo:=0) (n:=n) (λi H'=>cW H3 H' D (((nH t size pick).take i).map V.str)) (cW.start hD) (λH' G=>fin D H' hD G) (λi H' hi G b=>?_)⟩;refine Oc (z:=R) (by omega) ?_;refine ⟨by show (0:Int)<26; decide,?_⟩;refine Gj (z:=R) (by omega) (by rw [rt]; exact V0 (by omega) (by rw [Nt (by omega)]; omega)) ?_;refine ⟨by show _+1<=aL; omega,?_⟩;refine put i D H' _ hi hD G ?_;rw [app_list,aeH];unfold zJ;rw [aV pk2.1,aV pk2.2];congr 1;show [_]=[_];congr 2; omega
theorem ajb:fB ["thing","many"] ["thing","many"] (bN WW):=gA
theorem ali:fB ["values"] ["values"] (bN Pz):=gA
theorem aiV(F:gG K "is_rising" Pz f fd)(T:Txt mg t8 t6 tR tL):bM P w K mg base bR 1 f fd ["values"] QF:=by refine F.ok ali (λvs H Q E h=>?_) (λcdv A outer s H vs Q E hr h=>?_);obtain ⟨a,xs,b,rfl,_⟩:=h;rfl;obtain ⟨a,xs,bb,rfl,ha,few,rise,q⟩:=h;have fW:=dZ;refine ⟨_,(bC (cO (cR (Bp rfl) rfl T.all Bx (aq (jg (bQ:=bN Pz) (own:=["value","later"]) (cap:=[]) (ix:=[]) rfl rfl gP (aiP rfl T.zip (aq (pV 0) (aq (jZ Gp (pV 0) (jk aQ) mC) aC))) (λb=>(j8 rfl (cZ (pH 0 ["value","later"]) (cZ (pH 1 ["value","later"]) jV)))) (λb=>ig) (λb=>(rW (akE hr.Lq) (pV 0) (pV 1) (cV _)))) aC)))),?_⟩;refine ⟨a,xs,rfl,aY.of ha,λp hp=>?_⟩;have e1:lE xs (some 1) none=xs.drop 1:=(by unfold lE;rw [HT.Q6,show (some 1:Option Int)=some ((1:Nat):Int) from rfl,HT.wA];rcases qO 0 xs.length with z | z;rw [BK z,oM (by rw [pJ]; omega)];have:xs=[]:=Bg (by omega);subst this; rfl);rw [e1];have s1:aD H (upd H p (.lst (xs.drop 1))):=(aD.refl H).upd hp;obtain ⟨bs,lb,eb,ask⟩:=rise.bools;refine ⟨a,p,xs,xs.drop 1,rfl,aY.of (s1 _ _ ha),aY.of aZ,λD hD=>?_⟩;have lp:(xs.drop 1).length=xs.length-1:=pJ;refine Iz (xs.drop 1).length (λi H'=>cW (upd H p (.lst (xs.drop 1))) H' D ((bs.take i).map V.bl)) (cW.start hD) (λH' G=>⟨⟨aY.of (G.same _ _ (s1 _ _ ha)),aY.of (G.same _ _ aZ),.inr (bB _)⟩,?_⟩) (λi H' hi G=>⟨⟨aY.of (G.same _ _ (s1 _ _ ha)),aY.of (G.same _ _ aZ),by omega,hi⟩,λx H2 y b=>?_⟩);refine ⟨D,bs,rfl,aY.of (by have e:=G.at'; rw [oM (by omega)] at e; exact e),?_⟩;rw [eb];exact q H' (s1.ao G.same);obtain ⟨t,u,v,ht,ez2,hu',hv,ez3⟩:=y;subst ez2;subst ez3;have s2:aD H' (upd H' t (.tup [u,v])):=(aD.refl H').upd ht;have G2:=G.more s2;refine ⟨t,[u,v],rfl,aG.of aZ,rfl,u,[v],rfl,v,[],rfl,rfl,?_⟩;refine ask hu' (by rw [Zh,Ln] at hv; exact hv) (s1.ao G2.same) λc hc=>?_;refine ⟨_,G2.at',by rw [aU,eY]; omega,nx hi ?_⟩;show cW _ _ D ((bs.take (i+1)).map V.bl);rw [dI,hc,dJ];exact G2.put hD _
theorem aj7:fB ["thing"] ["thing"] (bN Xm):=gA
theorem agT:fB ["name","low","high","drift"] ["name","low","high","drift"] (bN Qu):=gA
theorem amk:fB ["thing"] ["thing"] (bN Jw):=gA
theorem HW:fB ["thing","name","low","high","drift","runs"] ["thing"] (bN Rq):=gA
theorem apS:fB ["house"] ["house"] (bN Oe):=gA
theorem ajR(F:gG K "rows_in" Oe f fd):bM P w K mg base bR 1 f fd ["house"] Og:=by refine F.ok apS (λvs H Q E h=>?_) (λcdv A outer s H vs Q E hr h=>?_);obtain ⟨x,hh,rfl,_⟩:=h;rfl;obtain ⟨x,hh,rfl,⟨a,b,rfl,ha,c,vs,rfl,hc,pr⟩,gd,q⟩:=h;have fW:=dZ;refine ⟨_,(bC (cO (aa7 (bQ:=bN Oe) (own:=["run","row"]) (cap:=[]) (ix:=[]) rfl rfl gP (gj (pX cM (pV 0) aQ)) (λb=>(pH 0 ["run","row"])) (λb=>ig) (λb=>gj (pV 0)) (λb=>(pH 1 ["run","row"])) (λb=>ig) (λb=>pV 1)))),?_⟩;refine cL (aG.of ha) (i:=4) (v:=.ref c) (by rfl) ?_;refine ⟨c,rfl,⟨_,aG.of hc⟩,λD hD=>⟨WS vs.length (λi aj H'=>∃ o1 o2 zs,aj=[o1,o2]/\cW H H' D zs/\bw (gW H) zs (hh.runs.take i).flatten),CP ⟨none,none,[],rfl,cW.start hD,.nil⟩,λb=>Ik (xs:=vs) _ (λi aj H' _ hz1=>by obtain ⟨_,_,_,_,G,_⟩:=hz1; exact aG.of (G.same _ _ hc)) (fun aj H' hz2=>?_) (λi x aj H' hx hi hz3=>?_)⟩⟩;obtain ⟨_,_,zs,_,G,pz⟩:=hz2;refine q D zs H' hD G.at' G.same ?_;rw [pr.length,gU] at pz;exact bG (λ_ _ z=>z.ts G.same.aK) pz;obtain ⟨o1,o2,zs,e,G,pz⟩:=hz3;subst e;obtain ⟨r,hr',c2,ws,aov,hc2,pr2⟩:=dM pr hx;subst aov;have gr:=gd.runs r (dB hr');refine ⟨c2,rfl,⟨_,aG.of (G.same _ _ hc2)⟩,WS ws.length (λj aj bZ=>∃ o2 zs',aj=[aM c2,o2]/\cW H bZ D zs'/\bw (gW H) zs' ((hh.runs.take i).flatten++r.take j)),CP ⟨o2,zs,rfl,G,by rw [Le,yJ]; exact pz⟩,Ik (xs:=ws) _ (λj aj bZ _ hz1=>by obtain ⟨_,_,_,G',_⟩:=hz1; exact aG.of (G'.same _ _ hc2)) (fun aj bZ ⟨o2',zs',e',G',pz'⟩=>nxs hi ⟨_,_,zs',e',G',?_⟩) (λj y aj bZ hy hj hz3=>?_)⟩;rw [pr2.length,gU] at pz';rw [dI,hr',Bt];simpa using pz';obtain ⟨o2',zs',e',G',pz'⟩:=hz3;subst e';obtain ⟨rr,hrr,ra⟩:=dM pr2 hy;have hl:=pz'.length;have hl1:=Am (l:=hh.runs.take i) (n:=25) λq hq=>(gd.runs q (sX hq)).few;have hl2:(hh.runs.take i).length<=25:=gw (abf i hh.runs) gd.few;have hl3:(hh.runs.take i).length * 25<=25 * 25:=NP 25 hl2;have hl4:=gr.few;rw [cQ,eY] at hl;refine ⟨zs',G'.at',by omega,nxs hj ⟨_,zs'++[y],rfl,G'.put hD y,?_⟩⟩;rw [dI,hrr,<- oU];exact fY pz' (.cons ra .nil)
theorem alb:fB ["houses"] ["houses"] (bN Qy):=gA
theorem apu(F:gG K "row_names" Qy f fd)(Uw:Cl P w K mg base 1 "rows_in" ["house"] Og):bM P w K mg base bR 2 f fd ["houses"] Wc:=by refine F.ok alb (λvs H Q E h=>?_) (λcdv A outer s H vs Q E hr h=>?_);obtain ⟨x,hs,rfl,_⟩:=h;rfl;obtain ⟨x,hs,rfl,⟨c,vs,rfl,hc,pr⟩,h6,gd,q⟩:=h;have fW:=dZ;refine ⟨_,(bC (cO (aa7 (bQ:=bN Qy) (own:=["house","name","reading"]) (cap:=[]) (ix:=[]) rfl rfl gP (gj (pV 0)) (λb=>(pH 0 ["house","name","reading"])) (λb=>ig) (λb=>uI (pC Uw hr (aq (pV 0) aC))) (λb=>(j8 rfl (cZ (pH 1 ["house","name","reading"]) (cZ (pH 2 ["house","name","reading"]) jV)))) (λb=>ig) (λb=>pV 1)))),?_⟩;refine ⟨c,rfl,⟨_,aG.of hc⟩,λD hD=>⟨WS vs.length (λi aj H'=>∃ o1 o2 o3,aj=[o1,o2,o3]/\cW H H' D (((hs.take i).flatMap fH).map V.str)),CP ⟨none,none,none,rfl,cW.start hD⟩,λb=>Ik (xs:=vs) _ (λi aj H' _ hz4=>by obtain ⟨_,_,_,_,G⟩:=hz4; exact aG.of (G.same _ _ hc)) (fun aj H' hz5=>?_) (λi x aj H' hx hi hz6=>?_)⟩⟩;obtain ⟨_,_,_,_,G⟩:=hz5;refine q D H' hD ?_ G.same;have e:=G.at';rw [pr.length,gU] at e;exact e;obtain ⟨o1,o2,o3,e,G⟩:=hz6;subst e;obtain ⟨h,hh',ha⟩:=dM pr hx;have gh:=gd h (dB hh');refine ⟨x,h,rfl,ha.ts G.same.aK,gh,λl zs H2 hl el s2 pz=>?_⟩;have nlD:l≠D:=λz=>(by subst z; rw [G.at'] at hl; cases hl);have G2:=G.more s2;refine ⟨l,rfl,⟨_,aY.of el⟩,WS zs.length (λj aj bZ=>∃ o2 o3,aj=[some x,o2,o3]/\cW H bZ D (((hs.take i).flatMap fH++((qJ h).take j).map cu).map V.str)/\bZ l=some (.lst zs)/\cN H2 bZ),CP ⟨o2,o3,rfl,by simpa using G2,el,cN.refl _⟩,acO (xs:=zs) _ (λj aj bZ _ hz4=>by obtain ⟨_,_,_,_,e',_⟩:=hz4; exact aY.of e') (fun aj bZ ⟨o2',o3',e',G',_,_⟩=>nxs hi ⟨_,_,_,e',?_⟩) (λj y aj bZ hy hj hz6=>?_)⟩;rw [pz.length,gU] at G';rw [dI,hh',rM];simpa [fH] using G';obtain ⟨o2',o3',e',G',el',t'⟩:=hz6;subst e';obtain ⟨rr,hrr,ra⟩:=dM pz hy;obtain ⟨ra1,rfl,ra2⟩:=ra.ts t';refine ⟨ra1,_,rfl,aG.of ra2,rfl,_,_,rfl,_,_,rfl,rfl,?_⟩;have hl1:((hs.take i).flatMap fH).length<=(hs.take i).length * 625:=(by rw [RV];have z:=Am (l:=(hs.take i).map fH) (n:=625) λq hq=>(by obtain ⟨k,hk,rfl⟩:=cG.mp hq;have z1:=(gd k (sX hk)).len;show ((qJ k).map cu).length<=625;rw [aU]; exact z1);rw [aU] at z;exact z);have hl2:(hs.take i).length<=6:=gw (abf i hs) h6;have hl3:(hs.take i).length * 625<=6 * 625:=NP 625 hl2;have hl4:=gh.len;refine ⟨_,G'.at',by rw [aU,cQ,aU,eY]; omega,nxs hj ⟨_,_,rfl,?_,?_,t'.put G'.at' (λ_ z=>nomatch z)⟩⟩;have z:=G'.put hD (V.str rr.1);rw [dI,hrr];simpa using z;rw [bx nlD]; exact el'
theorem ahG:fB ["names"] ["names"] (bN WM):=gA
theorem alM(F:gG K "are_unlike" WM f fd)(T:Txt mg t8 t6 tR tL):bM P w K mg base bR 1 f fd ["names"] Uh:=by refine F.ok ahG (λvs H Q E h=>?_) (λcdv A outer s H vs Q E hr h=>?_);obtain ⟨x,hs,rfl,_⟩:=h;rfl;obtain ⟨a,ss,rfl,ha,few,q⟩:=h;have ek:(ss.map (cB:Str->Key)).map kV=ss.map V.str:=(by rw [jM]; rfl);refine ⟨_,(bC (cO (rW oEq (cR ait rfl T.len iM (aq (jx (alX rfl) rfl T.set Y8 (aq (pV 0) aC)) aC)) (cR jC rfl T.len iM (aq (pV 0) aC)) (cV _)))),?_⟩;refine ⟨a,ss.map cB,rfl,aY.of (by rw [ek]; exact ha),by rw [aU]; omega,λl hl=>?_⟩;refine ⟨l,ss.map cB,rfl,aZ,?_⟩;have s1:=(aD.refl H).upd (o:=.ext (Ji P w l (ss.map cB))) hl;refine ⟨a,ss.map V.str,rfl,.inl (aY.of (s1 _ _ ha)),?_⟩;show Q (.bl (decide (((fO (ss.map cB) (ss.map (cB:Str->Key)).length).length:Int)=((ss.map V.str).length:Int)))) _;have e:decide (((fO (ss.map cB) (ss.map (cB:Str->Key)).length).length:Int)=((ss.map V.str).length:Int))=decide ss.Nodup:=(by rw [jP,decide_eq_true_iff,decide_eq_true_iff,aU,aU];constructor;intro z;have z2:=ac4 (ks:=ss.map (cB:Str->Key)) ss.length (by rw [aU]; exact bB _) (by omega);rw [oM (by rw [aU]; exact bB _)] at z2;rw [iT,jc] at z2;rw [iT];exact z2.imp λh e=>h (by rw [e]);intro z;have nk:(ss.map (cB:Str->Key)).Nodup:=(by rw [iT,jc];exact (iT.mp z).imp λh z=>h (rY z));rw [aee nk _ (by rw [aU]; exact bB _),eY,aU];omega);rw [e];exact q _ s1
theorem aeh:fB ["thing","names"] ["thing"] (bN JC):=gA
theorem Jp:fB ["thing","sent","taken","least","most"] ["thing"] (bN VD):=gA
theorem Iu:fB ["thing","houses","owners","sent","taken","least","most"] ["thing","houses"] (bN Fq):=gA
theorem aki:fB ["thing"] ["thing"] (bN Ti):=gA
theorem oF:fB ["_law_pack_here","_law_name","_law_names_here","_law_room","_law_low","_law_wide","_law_drift","_law_moment","_law_runs","_law_hidden","_law_at","_law_turn","_law_off","_law_rows","_law_step","_law_reading"] ["_law_pack_here","_law_name","_law_names_here","_law_room"] (bN Yc):=gA
theorem amL(F:gG K "_law_house" Yc f fd)(T:Txt mg t8 t6 tR tL)(fZ:Cl P w K mg base 1 "_law_take" ["_law_pack_here","_law_size"] yP):bM P w K mg base bR 2 f fd ["_law_pack_here","_law_name","_law_names_here","_law_room"] Vr:=by refine F.ok oF (λvs H Q E h=>?_) (λcdv A outer s H vs Q E hr h=>?_);obtain ⟨p,nm,ln,ss,room,rfl,_⟩:=h;rfl;obtain ⟨p,nm,ln,ss,room,rfl,hp,gn,hln,few,nd,gs,q⟩:=h;have fW:=dZ;have nln:ln≠p:=λz=>(by obtain ⟨n,e,_⟩:=hp;rw [z,e] at hln;cases ss with| nil=>cases hln| cons s ss=>cases hln);refine ⟨_,(bf (pZ 4 oF (cC zL (pC fZ hr (aq (pV 0) (aq aQ aC))) aQ)) (bf (pZ 5 oF (pX mJ (iu (aq aQ (aq aQ (aq aQ (aq aQ aC))))) (pC fZ hr (aq (pV 0) (aq aQ aC))))) (bf (pZ 6 oF (pX mJ (iu (aq aQ (aq aQ (aq aQ (aq aQ aC))))) (pC fZ hr (aq (pV 0) (aq aQ aC))))) (bf (pZ 7 oF (cC zL (pC fZ hr (aq (pV 0) (aq aQ aC))) aQ)) (bf (pZ 8 oF (iu aC)) (bf (pZ 9 oF Lw) (bf (pZ 10 oF aQ) (bf (jd je rfl (uO rfl T.range (aq (pC fZ hr (aq (pV 0) (aq aQ aC))) aC)) (pY 11 oF) (bf (pZ 12 oF (cC gM (pV 4) (pC fZ hr (aq (pV 0) (aq (cC gM (pV 5) aQ) aC))))) (bf (pZ 13 oF (iu aC)) (bf (jd je rfl (uO rfl T.range (aq (cC gM aQ (pC fZ hr (aq (pV 0) (aq aQ aC)))) aC)) (pY 14 oF) (bC (gD (zR (gF oLt (pV 10) (pV 3) (cV _)) (pw_and1 (gF oLt (pV 10) (cR jC rfl T.len iM (aq (pV 2) aC)) (cV _)))) (bf (pZ 7 oF (cC gM (cC gM (pV 7) aQ) (pC fZ hr (aq (pV 0) (aq aQ aC))))) (bf (pZ 15 oF (cC gM (pV 7) (pV 12))) (bf (gD (zR (gF (WY hr.units) (pV 13) (iu aC) (cV _)) (pw_and (gF oLe (cC gM (pV 12) aQ) (cC gM (pV 4) (pV 5)) (cV _)) (pw_and (gF oEq (pC fZ hr (aq (pV 0) (aq aQ aC))) aQ (cV _)) (pw_and1 (gF yX (pV 6) aQ (cV _)))))) (bC (pZ 15 oF (cC gM (pV 15) aQ))) gC) (bf (gD (zR (gF (WY hr.units) (pV 13) (iu aC) (cV _)) (pw_and1 (gF oLe (pV 15) (pX cM (pX mJ (pV 13) (Jx JD aQ)) aQ) (cV _)))) (bC (pZ 15 oF (cC gM (pX cM (pX mJ (pV 13) (Jx JD aQ)) aQ) aQ))) gC) (bf (KH (kY hr) (pV 9) (pX mJ (pV 2) (pV 10)) (pV 7) rfl) (bf (sW (rN uy zH Aq uN (pV 13) (aq (fJ (aq (pX mJ (pV 2) (pV 10)) (aq (pV 15) aC))) aC))) (bC (pZ 10 oF (cC gM (pV 10) aQ))))))))) gC))) (bf (gD (gF (WY hr.units) (pV 13) (iu aC) (cV _)) (bC (sW (rN uy zH Aq uN (pV 8) (aq (jx kE rfl T.tuple jy (aq (pV 13) aC)) aC)))) gC) (bC (pZ 7 oF (cC gM (pV 7) (pC fZ hr (aq (pV 0) (aq aQ aC))))))))))) (bC (cO (fJ (aq (fJ (aq (pV 1) (aq (pV 4) (aq (cC gM (pV 4) (pV 5)) (aq (pV 6) (aq (jx kE rfl T.tuple jy (aq (pV 8) aC)) aC)))))) (aq (pV 9) aC))))))))))))),?_⟩;refine dN λU1 pF=>?_;refine ⟨p,41,rfl,hp,by decide,by decide,λd1 H1 _ _ hp1 s1=>?_⟩;show U1 _ _;subst pF;refine dN λU2 qY=>?_;refine ⟨by show 4<=aL; omega,λl1 hl1=>?_⟩;refine ⟨p,4,rfl,hp1.new hl1,by decide,by decide,λd2 H2 d2a d2b hp2 s2=>?_⟩;have nl1:l1≠p:=λz=>(by obtain ⟨n,e,_⟩:=hp1; rw [<- z,hl1] at e; cases e);obtain ⟨wide,ew,w0,w1⟩:=adk (a:=0) (b:=3) (c:=40) (e:=300) d2a d2b (by decide) (by decide) (by decide) (by decide);refine m7 (s2 l1 _ nl1 aZ) ew ?_;show U2 _ _;subst qY;have S2:aW p H H2:=((aW.of (aD.refl H)).ao s1 |>.new hl1).ao s2;refine dN λU3 tZ=>?_;refine ⟨by show 4<=aL; omega,λl2 hl2=>?_⟩;refine ⟨p,4,rfl,hp2.new hl2,by decide,by decide,λd3 H3 d3a d3b hp3 s3=>?_⟩;have nl2:l2≠p:=λz=>(by obtain ⟨n,e,_⟩:=hp2; rw [<- z,hl2] at e; cases e);obtain ⟨bV,ed,dr0,dr1⟩:=adk (a:=0) (b:=1) (c:=2) (e:=9) d3a d3b (by decide) (by decide) (by decide) (by decide);refine m7 (s3 l2 _ nl2 aZ) ed ?_;show U3 _ _;subst tZ;have S3:aW p H H3:=(S2.new hl2).ao s3;refine dN λU4 v7=>?_;refine ⟨p,60,rfl,hp3,by decide,by decide,λd4 H4 _ _ sO s4=>?_⟩;show U4 _ _;subst v7;have S4:aW p H H4:=S3.ao s4;refine dN λU5 wH=>?_;refine ⟨cJ _,λR hR=>?_⟩;show U5 _ _;subst wH;have nR:R≠p:=λz=>(by obtain ⟨n,e,_⟩:=sO; rw [<- z,hR] at e; cases e);have fR:H R=none:=(by cases e:H R with| none=>rfl| some o=>have:=S4 R o nR e; rw [hR] at this; cases this);refine dN λU6 hU6=>?_;refine λD hD=>?_;show U6 _ _;subst hU6;have hp5:=sO.new (o:=.lst []) hR;have S5:aW p H (upd H4 R (.lst [])):=S4.new hR;have nD:D≠p:=λz=>(by obtain ⟨n,e,_⟩:=hp5; rw [<- z,hD] at e; cases e);have nRD:R≠D:=cg aZ hD;have fD:H D=none:=(by cases e:H D with| none=>rfl| some o=>have:=S5 D o nD e; rw [hD] at this; cases this);have nlD:ln≠D:=cg hln fD;refine ⟨p,6,rfl,hp5.new hD,by decide,by decide,λn1 H6 n1a n1b hp6 s6=>?_⟩;have S6:aW p H H6:=(S5.new hD).ao s6;obtain ⟨low,hlow⟩:∃ low,low=d1-20:=⟨_,rfl⟩;refine ⟨n1,rfl,by omega,by omega,zA (lo:=0) (n:=n1.toNat) (PvA p ln R D nm room low wide bV H ss) ?_ (λi aj H' hi aoU=>?_) (fun aj H' ahC=>?_)⟩;exact ⟨_,0,[],[],[],none,none,none,none,none,by subst hlow; rfl,⟨hp6,S6,s6 R _ nR (by rw [bx nRD]; exact aZ),.nil,s6 D _ nD aZ,rfl,λn hn=>by simp at hn,cJ _,.inr rfl,λr hr=>by simp at hr⟩,rfl,cJ _⟩;obtain ⟨mo,m,vr,kvs,runs,iy,mY,pP,qQ,qb,eσ,S,fl,rl⟩:=aoU;subst eσ;refine ⟨p,wide+1,rfl,S.pack,by omega,by omega,λyF Ha _ _ hpa sa=>?_⟩;have Sa:=S.step nR nD hpa sa;refine ⟨cJ _,λL hL=>?_⟩;have Sb:=Sa.new (o:=.lst []) nR nD hL;have nLp:L≠p:=λz=>(by obtain ⟨n,e,_⟩:=Sa.pack; rw [<- z,hL] at e; cases e);have nLR:L≠R:=λz=>(by rw [z,Sa.hR] at hL; cases hL);have nLD:L≠D:=λz=>(by rw [z,Sa.hD] at hL; cases hL);have fL:H L=none:=(by cases e:H L with| none=>rfl| some o=>have:=Sa.same L o nLp e; rw [hL] at this; cases this);refine ⟨p,3,rfl,Sb.pack,by decide,by decide,λn2 Hc n2a n2b hpc sc=>?_⟩;have Sc:=Sb.step nR nD hpc sc;have hLc:Hc L=some (.lst []):=sc L _ nLp aZ;refine ⟨1+n2,rfl,by omega,by omega,zA (lo:=0) (n:=(1+n2).toNat) (PvB p ln R D L nm room low wide bV yF H ss i vr runs) ?_ (λj aj bZ hj amA=>?_) (fun aj bZ amK=>?_)⟩;exact ⟨mo,m,kvs,[],[],_,_,rfl,Sc,hLc,.nil,by rw [yJ]; exact fl,cJ _,JH⟩;obtain ⟨mo,m,kvs,vl,rs,qQ,qb,eσ,S,hL',pl,jX,rl',ris⟩:=amA;subst eσ;have gr:∀ r∈rs,dG r.1:=λr hr=>gs r.1 (by have z:r.1∈ss.take m:=(by rw [<- jX,dJ]; exact jH _ (iz hr));exact sX z);have skip:QX7 λ(mo':Int)(m':Nat)(nP:List (Key × V))(vl':List V)(rs':List Row)(agY alf:Option V)=>uV (([some (.ref p),some (.str nm),some (.ref ln),some (.int room),some (.int low),some (.int wide),some (.int bV),some (.int mo),some (.ref R),some (.ref D),some (.int (m:Int)),some (.int (0+(i:Int))),some (.int (low+yF)),some (.ref L),some (.int (0+(j:Int))),qb]:St)=[some (.ref p),some (.str nm),some (.ref ln),some (.int room),some (.int low),some (.int wide),some (.int bV),some (.int mo'),some (.ref R),some (.ref D),some (.int (m':Int)),some (.int (0+(i:Int))),some (.int (low+yF)),some (.ref L),agY,alf]) (HS H p R D ss room bZ vr nP runs m') (bZ L=some (.lst vl')) (bw (gW bZ) vl' rs') ((runs.flatten++rs').map cu=ss.take m') (rs'.length<=j+1) ((rs'.map iY).Pairwise (·<·)):=⟨mo,m,kvs,vl,rs,_,_,rfl,S,hL',pl,jX,Pj rl',ris⟩;refine gB (λc1=>?_) (λc1=>skip);refine ⟨ln,_,rfl,.inl (aY.of (S.same ln _ nln hln)),?_⟩;refine gB (λc2=>?_) (λc2=>skip);clear skip;have hroom:(m:Int)<room:=iH c1;have hlen:m<ss.length:=(by have z:(m:Int)<((ss.map V.str).length:Int):=iH c2;rw [aU] at z; omega);obtain ⟨n,hn⟩:∃ n,ss[m]?=some n:=⟨ss[m],cT hlen⟩;refine dN λV1 hV1=>?_;refine ⟨p,30,rfl,S.pack,by decide,by decide,λd5 Hd _ _ hpd sd=>?_⟩;show V1 _ _;subst hV1;refine dN λV2 hV2=>?_;show V2 _ _;subst hV2;have Sd:=S.step nR nD hpd sd;have hLd:Hd L=some (.lst vl):=sd L _ nLp hL';have pld:bw (gW Hd) vl rs:=bG (λ_ _ z=>z.ts (aW.aK S.pack sd)) pl;refine afg (NvR p ln R D L nm room low wide bV yF (mo+1+d5) m (.int (0+(i:Int))) (.int (0+(j:Int))) H ss vr vl kvs runs rs (λ_=>True)) (λU hU=>?_) (fun dY H2 hN2=>?_);have KZ:∀(rd:Int)(H9:Hp),HS H p R D ss room H9 vr kvs runs m->H9 L=some (.lst vl)->bw (gW H9) vl rs->U [some (.ref p),some (.str nm),some (.ref ln),some (.int room),some (.int low),some (.int wide),some (.int bV),some (.int (mo+1+d5)),some (.ref R),some (.ref D),some (.int (m:Int)),some (.int (0+(i:Int))),some (.int (low+yF)),some (.ref L),some (.int (0+(j:Int))),some (.int rd)] H9:=λrd H9 x1 x2 x3=>hU _ _ ⟨rd,rfl,x1,x2,x3,trivial⟩;refine ⟨cJ _,λe1 he1=>?_⟩;have Se:=Sd.new (o:=.lst []) nR nD he1;have hLe:upd Hd e1 (.lst []) L=some (.lst vl):=(bx (cg hLd he1)).ao hLd;have ple:bw (gW (upd Hd e1 (.lst []))) vl rs:=bG (λ_ _ z=>z.ts ((cN.refl Hd).new he1)) pld;refine YL hLe ple gr aZ ?_;generalize (!rs.isEmpty)=bb;(cases bb with| false=>exact KZ _ _ Se hLe ple| true =>refine gB (λk1=>?_) (λk1=>KZ _ _ Se hLe ple);refine ⟨p,3,rfl,Se.pack,by decide,by decide,λd6 Hh _ _ hph sh=>?_⟩;have Sh:=Se.step nR nD hph sh;have hLh:Hh L=some (.lst vl):=sh L _ nLp hLe;have plh:bw (gW Hh) vl rs:=bG (λ_ _ z=>z.ts (aW.aK Se.pack sh)) ple;exact gB (λk2=>gB (λk3=>KZ _ _ Sh hLh plh) (λk3=>KZ _ _ Sh hLh plh)) (λk2=>KZ _ _ Sh hLh plh));obtain ⟨rd,an0,Sx,hLx,plx,_⟩:=hN2;subst an0;refine afg (NvR p ln R D L nm room low wide bV yF (mo+1+d5) m (.int (0+(i:Int))) (.int (0+(j:Int))) H ss vr vl kvs runs rs (λrd=>∀ r∈rs,r.2<rd)) (λU hU=>?_) (fun zG H3 hN3=>?_);refine ⟨cJ _,λfa hfa=>?_⟩;have Sga:=Sx.new (o:=.lst []) nR nD hfa;have FW:upd H2 fa (.lst []) L=some (.lst vl):=(bx (cg hLx hfa)).ao hLx;have Lb:bw (gW (upd H2 fa (.lst []))) vl rs:=bG (λ_ _ z=>z.ts ((cN.refl _).new hfa)) plx;refine YL FW Lb gr aZ ?_;rcases abT rs with er | ⟨rs0,rl0,er⟩;subst er;exact hU _ _ ⟨_,rfl,Sga,FW,Lb,λr hr=>by simp at hr⟩;rw [acD] at er;have ne:(!rs.isEmpty)=true:=(by rw [er]; simp);rw [ne];have ahr:∃ vl0 vL,vl=vl0++[vL]/\∀ Hx,bw (gW Hx) vl rs->gW Hx vL rl0:=(by have hv:vl≠[]:=λz=>(by have:=pl.length;rw [z,er] at this;simp at this);obtain ⟨vl0,vL,ev⟩:=(abT vl).resolve_left hv;rw [acD] at ev;refine ⟨vl0,vL,ev,λHx px=>?_⟩;have l1:=px.length;rw [ev,er,cQ,cQ] at l1;have e1:vl[vl0.length]?=some vL:=(by rw [ev]; simp);obtain ⟨r,hr,ra⟩:=dM px e1;have e2:rs[vl0.length]?=some rl0:=(by have:vl0.length=rs0.length:=(by simpa using l1);rw [er,this]; simp);rw [e2] at hr;cases hr;exact ra);obtain ⟨vl0,vL,evl,an7⟩:=ahr;obtain ⟨gaa,rfl,gba⟩:=an7 _ Lb;have adN:∀ rd:Int,rl0.2<rd->∀ r∈rs,r.2<rd:=λrd h r hr=>(by rw [er] at hr ris;rcases fQ.mp hr with z | z;rw [dJ] at ris;have:=(acR.mp ris).2.2 r.2 (iz z) rl0.2 (by simp);omega;rw [gY.mp z]; exact h);refine m7 FW (i:=-1) (v:=.ref gaa) (by rw [evl]; exact afT) ?_;refine cL (aG.of gba) (i:=1) (v:=.int rl0.2) (by rfl) ?_;refine gB (λcc=>?_) (λcc=>?_);refine m7 FW (i:=-1) (v:=.ref gaa) (by rw [evl]; exact afT) ?_;refine cL (aG.of gba) (i:=1) (v:=.int rl0.2) (by rfl) ?_;exact hU _ _ ⟨_,rfl,Sga,FW,Lb,adN _ (by omega)⟩;have cc2:¬ rd<=rl0.2:=λz=>cc (fj z);exact hU _ _ ⟨_,rfl,Sga,FW,Lb,adN _ (by omega)⟩;obtain ⟨rd,ao4,Sy,hLy,ply,lt⟩:=hN3;subst ao4;refine m7 (Sy.same ln _ nln hln) (i:=(m:Int)) (v:=.str n) (j9 (by rw [cX,hn]; rfl)) ?_;refine ⟨D,_,rfl,wV.k (k:=cB n) Sy.hD (by have z:=fG rJ Sy.keys; rw [aU,aU,eY] at z; omega),?_⟩;have hLq:upd H3 D (.dK (dH kvs (.inr n) (.int (mo+1+d5)))) L=some (.lst vl):=(bx nLD).ao hLy;refine ⟨.inl ⟨rfl,_,aY.of hLq⟩,?_⟩;refine m7 ((bx nlD).ao (Sy.same ln _ nln hln)) (i:=(m:Int)) (v:=.str n) (j9 (by rw [cX,hn]; rfl)) ?_;refine ⟨by show 2<=aL; omega,λtp htp=>?_⟩;obtain ⟨Sq,pq⟩:=HS.put (rd:=rd) Sy nR nD nRD nLp nLR nLD fD fL nd hn hroom hLy ply htp;refine ⟨L,vl,_,rfl,rfl,(bx (cg hLq htp)).ao hLq,by have z:=ply.length; omega,?_⟩;exact ⟨_,m+1,_,_,rs++[(n,rd)],_,_,rfl,Sq,aZ,pq,by rw [<- oU,dJ,jX,Ww hn]; rfl,by rw [cQ]; exact Jz rl' 1,amM ris lt⟩;obtain ⟨mo,m,kvs,vl,rs,qQ,qb,eσ,S,hL',pl,jX,rl',ris⟩:=amK;subst eσ;have gr:∀ r∈rs,dG r.1:=λr hr=>gs r.1 (by have z:r.1∈ss.take m:=(by rw [<- jX,dJ]; exact jH _ (iz hr));exact sX z);refine ⟨cJ _,λe1 he1=>?_⟩;have Se:=S.new (o:=.lst []) nR nD he1;have hLe:upd bZ e1 (.lst []) L=some (.lst vl):=(bx (cg hL' he1)).ao hL';have ple:bw (gW (upd bZ e1 (.lst []))) vl rs:=bG (λ_ _ z=>z.ts ((cN.refl _).new he1)) pl;have lr:=ple.length;have lrr:=Se.pR.length;refine YL hLe ple gr aZ ?_;refine gB (λc1=>?_) (λc1=>?_);have rne:rs≠[]:=λz=>(by rw [z] at c1; cases c1);refine ⟨.inl ⟨rfl,_,aY.of Se.hR⟩,?_⟩;refine ⟨L,vl,rfl,.inl ⟨aY.of hLe,λt9 ht9=>?_⟩⟩;have St:=Se.new (o:=.tup vl) nR nD ht9;refine ⟨R,vr,_,rfl,rfl,St.hR,by omega,?_⟩;have tt:cN (upd (upd bZ e1 (.lst [])) t9 (.tup vl)) (upd (upd (upd bZ e1 (.lst [])) t9 (.tup vl)) R (.lst (vr++[.ref t9]))):=(cN.refl _).put St.hR (λ_ z=>nomatch z);have Su:HS H p R D ss room (upd (upd (upd bZ e1 (.lst [])) t9 (.tup vl)) R (.lst (vr++[.ref t9]))) (vr++[.ref t9]) kvs (runs++[rs]) m:=(by refine ⟨St.pack.put nR,λb o hb e=>?_,aZ,?_,(bx (gQ nRD)).ao St.hD,St.keys,St.vals,St.le,St.rm,λr hr=>?_⟩;rw [bx (cg e fR)]; exact St.same b o hb e;refine fY (bG (λ_ _ z=>z.ts tt) St.pR) (.cons ⟨t9,vl,rfl,tt _ _ aZ,bG (λ_ _ z=>z.ts (((cN.refl _).new ht9).ao tt)) ple⟩ .nil);rcases fQ.mp hr with z | z;exact St.good r z;rw [gY.mp z];exact ⟨rne,by omega,gr,ris⟩);refine ⟨p,5,rfl,Su.pack,by decide,by decide,λd9 Hz _ _ hpz sz=>?_⟩;exact ⟨_,m,_,kvs,runs++[rs],_,_,_,_,_,rfl,Su.step nR nD hpz sz,by rw [Bt]; simpa using jX,by rw [cQ]; exact Jz rl 1⟩;have rne:rs=[]:=(by cases rs with| nil=>rfl| cons r rs=>exact bK rfl c1);subst rne;refine ⟨p,5,rfl,Se.pack,by decide,by decide,λd9 Hz _ _ hpz sz=>?_⟩;exact ⟨_,m,_,kvs,runs,_,_,_,_,_,rfl,Se.step nR nD hpz sz,by simpa using jX,Pj rl⟩;obtain ⟨mo,m,vr,kvs,runs,iy,mY,pP,qQ,qb,eσ,S,fl,rl⟩:=ahC;subst eσ;have lr:=S.pR.length;refine ⟨R,vr,rfl,.inl ⟨aY.of S.hR,λt1 h1=>?_⟩⟩;have Sa:=S.new (o:=.tup vr) nR nD h1;refine ⟨by show 5<=aL; omega,λt2 h2=>?_⟩;have Sb:=Sa.new (o:=.tup [.str nm,.int low,.int (low+wide),.int bV,.ref t1]) nR nD h2;refine ⟨by show 2<=aL; omega,λt3 h3=>?_⟩;have Sc:=Sb.new (o:=.tup [.ref t2,.ref D]) nR nD h3;have nt3:t3≠p:=λz=>(by obtain ⟨n,e,_⟩:=Sb.pack; rw [<- z,h3] at e; cases e);have tY:H t3=none:=(by cases e:H t3 with| none=>rfl| some o=>have:=Sb.same t3 o nt3 e; rw [h3] at this; cases this);refine q t3 D (.ref t2) ⟨nm,low,low+wide,bV,runs⟩ kvs m _ tY fD aZ ⟨t2,.ref t1,rfl,(bx (cg aZ h3)).ao aZ,t1,vr,rfl,?_,Sc.pR⟩ ⟨gn,by show low<=low+wide; omega,dr0,by show runs.length<=25; omega,Sc.good⟩ rfl fl Sc.le Sc.rm Sc.hD Sc.keys Sc.vals Sc.pack Sc.same;have e1:upd (upd H' t1 (.tup vr)) t2 (.tup [.str nm,.int low,.int (low+wide),.int bV,.ref t1]) t1=some (.tup vr):=(bx (cg aZ h2)).ao aZ;exact (bx (cg e1 h3)).ao e1
def RQ:Sp:=λvs H Q _=>QX6 λ(p lh dh:au)(vh:List V)(hs:List aP)(kvs:List (Key × V))=>UL (vs=[.ref p,.ref lh,.ref dh]) (fV H p) (H lh=some (.lst vh)) (bw (iG H) vh hs) (hs.length<=6) ((∀ h∈hs,uH h)) ((bA hs).Nodup) ((bA hs).length<=24) (H dh=some (.dK kvs)) (kvs.map (·.1)=(bA hs).map cB) ((∀ n∈bA hs,∃ i:Int,dW kvs (.inr n)=some (.int i))) (∀(x:V)(ls:List bH)(H':Hp),vJ H' x ls->zX hs ls->ls.length<=6->fV H' p->aW p H H'->Q x H')
theorem rE:fB ["_law_pack_here","_law_houses_here","_law_hidden","_law_home","_law_house_here","_law_run","_law_name","_law_reading","_law_rows","_law_found","_law_turn","_law_one","_law_other","_law_gap","_law_slack","_law_most"] ["_law_pack_here","_law_houses_here","_law_hidden"] (bN Ry):=gA
theorem apD(F:gG K "_law_letters" Ry f fd)(T:Txt mg t8 t6 tR tL)(fZ:Cl P w K mg base 1 "_law_take" ["_law_pack_here","_law_size"] yP):bM P w K mg base bR 2 f fd ["_law_pack_here","_law_houses_here","_law_hidden"] RQ:=by
 refine F.ok rE (λvs H Q E h=>?_) (λcdv A outer s H vs Q E hr h=>?_)
 . obtain ⟨p,lh,dh,vh,hs,kvs,rfl,_⟩:=h;rfl
 . obtain ⟨p,lh,dh,vh,hs,kvs,rfl,hp,hlh,ph,h6,gh,nd,few,uU,keys,vals,q⟩:=h;have fW:=dZ
   have nlh:lh≠p:=λz=>by
     obtain ⟨n,e,_⟩:=hp;rw [z,e] at hlh;cases ph with
     | nil=>cases hlh
     | cons h _=>obtain ⟨a,b,rfl,_⟩:=h; cases hlh
   have ndh:dh≠p:=λz=>by obtain ⟨n,e,_⟩:=hp; rw [z,e] at uU; cases uU
   refine ⟨_,(bf (pZ 3 rE Lw) (bf (jd je rfl (uI (pV 1)) (pY 4 rE) (bC (jd je rfl (gj (pX cM (pV 4) aQ)) (pY 5 rE) (bC (jd je rfl (gj (pV 5)) (j8 rfl (cZ (pY 6 rE) (cZ (pY 7 rE) jV))) (bC (KH (kY hr) (pV 3) (pV 6) (pX cM (pV 4) aQ) rfl))))))) (bf (pZ 8 rE (cR (Y6 rfl) rfl T.sorted yQ (aq (pV 2) aC))) (bf (pZ 9 rE aeT) (bf (jd je rfl (uO rfl T.range (aq (pC fZ hr (aq (pV 0) (aq aQ aC))) aC)) (pY 10 rE) (bC (gD (gF yX (cR jC rfl T.len iM (aq (pV 8) aC)) aQ (cV _)) (bf (pZ 11 rE (Cg mJ (pV 8) (pC fZ hr (aq (pV 0) (aq (cR jC rfl T.len iM (aq (pV 8) aC)) aC))) (λ_ _=>rfl))) (bf (pZ 12 rE (Cg mJ (pV 8) (pC fZ hr (aq (pV 0) (aq (cR jC rfl T.len iM (aq (pV 8) aC)) aC))) (λ_ _=>rfl))) (bf (pZ 13 rE (cC zL (vo (kY hr) (pV 2) (pV 12) (λ_ _=>rfl)) (vo (kY hr) (pV 2) (pV 11) (λ_ _=>rfl)))) (bf (pZ 14 rE (pC fZ hr (aq (pV 0) (aq aQ aC)))) (bC (gD (zR (gF ajP (vo (kY hr) (pV 3) (pV 11) (λ_ _=>rfl)) (vo (kY hr) (pV 3) (pV 12) (λ_ _=>rfl)) (cV _)) (pw_and1 (gF yX (pV 13) aQ (cV _)))) (bf (pZ 15 rE (Cg mJ (iu (aq Et (aq (pV 13) (aq (cC gM (pV 13) (pV 14)) aC)))) (pC fZ hr (aq (pV 0) (aq aQ aC))) (λ_ _=>rfl))) (bC (KH (kY hr) (pV 9) (fJ (aq (pV 11) (aq (pV 12) aC))) (fJ (aq (pV 11) (aq (pV 12) (aq (cR (aaq rfl) rfl T.max afk (aq aQ (aq (cC zL (pV 13) (pV 14)) aC))) (aq (pV 15) aC))))) rfl))) gC)))))) gC))) (bC (cO (jx kE rfl T.tuple jy (aq (jg (bQ:=bN Ry) (own:=["_law_pair"]) (cap:=["_law_found"]) (ix:=[9]) rfl rfl gP (uI (cR (acN rfl) rfl T.sorted yQ (aq (pV 9) aC))) (λb=>(pH 0 ["_law_pair","_law_found"])) (λb=>ig) (λb=>(vo (kY hr) (pV 1) (pV 0) (λ_ _=>rfl)))) aC))))))))),?_⟩;refine λO hO=>?_
   have s0:aD H (upd H O (.dK [])):=(aD.refl H).upd hO
   have apV:(bT hs).length<=24:=by
     have z:=few;rw [<- rZ,aU] at z;exact z
   have ndP:((bT hs).map cu).Nodup:=by rw [rZ]; exact nd
   have ai7:∀(A:List (Str × Str))(x:Str × Str)(B:List (Str × Str))(kv:List (Key × V)),bT hs=A++x :: B->yI kv A->kv.length<=A.length->yI (dH kv (.inr x.1) (.str x.2)) (A++[x])/\(dH kv (.inr x.1) (.str x.2)).length<=(A++[x]).length/\kv.length<aL:=λA x B kv e ow kl=>by
     have l1:=apV;rw [e,cQ,jY] at l1;refine ⟨yI.put ow λy hy z=>?_,?_,by omega⟩
     . rw [e,dJ,eV] at ndP;exact (vA.mp ndP).2.2 y.1 (iz hy) x.1 dg z
     . have z:=yM kv (.inr x.1) (V.str x.2);rw [cQ];exact gw z (Jz kl 1)
   refine ⟨lh,rfl,⟨_,aY.of (s0 _ _ hlh)⟩,Te (xs:=vh) (PvC p lh dh O hs H) ⟨[],none,none,none,none,rfl,aZ,λx hx=>by simp [bT] at hx,cJ _,s0⟩ (λi aj H' _ ahv=>by obtain ⟨_,_,_,_,_,_,_,_,_,s⟩:=ahv; exact aY.of (s _ _ hlh)) (λi x aj H' hx apQ=>?_) (fun aj H1 aot=>?_)⟩
   . obtain ⟨kv,o4,o5,o6,o7,eσ,eO,ow,kl,s⟩:=apQ;subst eσ;obtain ⟨hh,hhi,ha⟩:=dM ph hx;have gd:=gh hh (dB hhi);obtain ⟨a,b,aod,ga,c,vr,ain,gc,pr⟩:=ha;subst aod;subst ain;refine cL (aG.of (s _ _ ga)) (i:=4) (v:=.ref c) (by rfl) ?_
     have e0:bT hs=bT (hs.take i)++(jJ hh++bT (hs.drop (i+1))):=by
       unfold bT
       have e1:hs=hs.take i++(hh :: hs.drop (i+1)):=by
         obtain ⟨li,fi⟩:=mK.mp hhi;rw [<- fi,Ut,Eh]
       conv=>lhs; rw [e1]
       rw [rM,aeO]
     refine ⟨c,rfl,⟨_,aG.of (s _ _ gc)⟩,nu (xs:=vr) (PvD p lh dh O a hs hh i H) ⟨kv,o5,o6,o7,rfl,eO,by simpa using ow,by simpa using kl,s⟩ (λj aj H' _ akO=>by obtain ⟨_,_,_,_,_,_,_,_,s⟩:=akO; exact aG.of (s _ _ gc)) (λj y aj H' hy ajW=>?_) (fun aj H' am5=>?_)⟩
     . obtain ⟨kv,o5,o6,o7,eσ,eO,ow,kl,s⟩:=ajW;subst eσ;obtain ⟨r,hr',c2,ws,ajf,g2,pr2⟩:=dM pr hy;subst ajf
       have e1:jJ hh=(hh.runs.take j).flatMap (lC hh.name)++(lC hh.name r++(hh.runs.drop (j+1)).flatMap (lC hh.name)):=by
         rw [ago]
         have e1:hh.runs=hh.runs.take j++(r :: hh.runs.drop (j+1)):=by
           obtain ⟨li,fi⟩:=mK.mp hr';rw [<- fi,Ut,Eh]
         conv=>lhs; rw [e1]
         rw [rM,aeO]
       refine ⟨c2,rfl,⟨_,aG.of (s _ _ g2)⟩,nu (xs:=ws) (PvE p lh dh O a c2 hs hh i j r H) ⟨kv,o6,o7,rfl,eO,by simpa using ow,by simpa using kl,s⟩ (λt aj H' _ amd=>by obtain ⟨_,_,_,_,_,_,_,s⟩:=amd; exact aG.of (s _ _ g2)) (λt z aj H' hz ak4=>?_) (fun aj H' alx=>?_)⟩
       . obtain ⟨kv,o6,o7,eσ,eO,ow,kl,s⟩:=ak4;subst eσ;obtain ⟨rr,hrr,ra1,alh,ra2⟩:=dM pr2 hz;subst alh;have hp':(lC hh.name r)[t]?=some (rr.1,hh.name):=by unfold lC; rw [cX,hrr]; rfl
         refine ⟨ra1,_,rfl,aG.of (s _ _ ra2),rfl,_,_,rfl,_,_,rfl,rfl,?_⟩;refine cL (aG.of (s _ _ ga)) (i:=0) (v:=.str hh.name) (by rfl) ?_
         have e2:lC hh.name r=(lC hh.name r).take t++((rr.1,hh.name) :: (lC hh.name r).drop (t+1)):=by
           obtain ⟨li,fi⟩:=mK.mp hp';rw [<- fi,Ut,Eh]
         obtain ⟨w1,w2,w3⟩:=ai7 (bT (hs.take i)++(hh.runs.take j).flatMap (lC hh.name)++(lC hh.name r).take t) (rr.1,hh.name) ((lC hh.name r).drop (t+1)++((hh.runs.drop (j+1)).flatMap (lC hh.name)++bT (hs.drop (i+1)))) kv (by
           rw [e0,e1]
           conv=>lhs; rw [e2]
           simp only [oU,Xd]) ow kl
         refine ⟨O,_,rfl,wV.k (k:=cB rr.1) eO w3,?_⟩;refine ⟨_,_,_,rfl,aZ,?_,?_,λb' o' e'=>by rw [bx (cg e' hO)]; exact s _ _ e'⟩
         . rw [dI,hp',<- oU]; exact w1
         . rw [dI,hp',<- oU]; exact w2
       . obtain ⟨kv,o6,o7,eσ,eO,ow,kl,s⟩:=alx;subst eσ;have l2:=pr2.length;have e2:(lC hh.name r).take ws.length=lC hh.name r:=oM (by unfold lC; rw [aU]; omega);rw [e2] at ow kl;refine ⟨kv,_,_,_,rfl,eO,?_,?_,s⟩
         . rw [dI,hr',rM]; simpa using ow
         . rw [dI,hr',rM]; simpa using kl
     . obtain ⟨kv,o5,o6,o7,eσ,eO,ow,kl,s⟩:=am5;subst eσ;rw [pr.length,gU,<- ago] at ow kl
       have e2:bT (hs.take (i+1))=bT (hs.take i)++jJ hh:=by
         unfold bT;rw [dI,hhi,rM];simp
       exact ⟨kv,_,_,_,_,rfl,eO,by rw [e2]; exact ow,by rw [e2]; exact kl,s⟩
   . obtain ⟨kvo,o4,o5,o6,o7,eσ,eO,ow,kl,s1⟩:=aot;subst eσ;rw [ph.length,gU] at ow kl;refine ⟨dh,kvs,bA hs,rfl,s1 _ _ uU,keys,by omega,λl8 ss hl8 pm so=>?_⟩;have s2:aD H1 (upd H1 l8 (.lst (ss.map V.str))):=(aD.refl H1).upd hl8;generalize eH2:upd H1 l8 (.lst (ss.map V.str))=H2 at s2;have h8:H2 l8=some (.lst (ss.map V.str)):=by rw [<- eH2]; exact aZ
     have sH:aD H H2:=s1.ao s2;have hp2:fV H2 p:=by obtain ⟨n,e,n0⟩:=hp; exact ⟨n,sH _ _ e,n0⟩
     refine λF hF=>?_
     have nF:F≠p:=λz=>by obtain ⟨n,e,_⟩:=hp2; rw [<- z,hF] at e; cases e
     have n8:l8≠p:=λz=>by
       obtain ⟨n,e,_⟩:=hp2;rw [<- z,h8] at e;cases ss with
       | nil=>cases e
       | cons s ss=>cases e
     have nO:O≠p:=λz=>by obtain ⟨n,e,_⟩:=hp2; rw [<- z,s2 _ _ eO] at e; cases e
     have lss:ss.length=(bA hs).length:=pm.length_eq;have GC:∀ x∈ss,x∈bA hs:=λx hx=>pm.mem_iff.mp hx
     refine ⟨p,7,rfl,hp2.new hF,by decide,by decide,λn7 H3 n7a n7b hp3 s3=>?_⟩;have SB3:aW p H2 H3:=((aW.of (aD.refl H2)).new hF).ao s3;refine ⟨n7,rfl,by omega,by omega,zA (lo:=0) (n:=n7.toNat) (PvF p lh dh O l8 F hs H2) ⟨[],_,_,_,_,_,_,_,_,_,_,rfl,hp3,SB3,s3 F _ nF aZ,cJ _,λx hx=>by simp at hx⟩ (λi aj H' hi anE=>?_) (fun aj H' agW=>?_)⟩
     . obtain ⟨kf,o4,o5,o6,o7,jj,iy,mY,pP,qQ,qb,eσ,pk,sb,eF,kl,fo⟩:=anE;subst eσ;refine ⟨l8,_,rfl,.inl (aY.of (sb l8 _ n8 h8)),?_⟩;refine gB (λc1=>?_) (λc1=>⟨kf,_,_,_,_,_,_,_,_,_,_,rfl,pk,sb,eF,Pj kl,fo⟩)
       have many:1<ss.length:=by
         have z:(1:Int)<((ss.map V.str).length:Int):=iH c1;rw [aU] at z; omega
       have pick:∀ d:Int,0<=d->d<((ss.map V.str).length:Int)->∃ x,x∈ss/\mH (ss.map V.str) d=some (.str x):=λd d0 d1=>by
         obtain ⟨n,rfl⟩:=nG d0;rw [aU] at d1;have hn:n<ss.length:=by omega
         exact ⟨ss[n],CN hn,j9 (by rw [cX,cT hn]; rfl)⟩
       have Oi:(0:Int)<((ss.map V.str).length:Int)/\((ss.map V.str).length:Int)<1073741824:=by rw [aU]; omega
       refine dN λW1 hW1=>?_
       refine ⟨l8,_,rfl,.inl (aY.of (sb l8 _ n8 h8)),?_⟩;refine ⟨p,_,rfl,pk,Oi.1,Oi.2,λd1 Ha d1a d1b pka sa=>?_⟩;have sba:=sb.ao sa;obtain ⟨one,m1,e1⟩:=pick d1 d1a d1b;refine m7 (sba l8 _ n8 h8) e1 ?_;show W1 _ _;subst hW1;refine dN λW2 hW2=>?_
       refine ⟨l8,_,rfl,.inl (aY.of (sba l8 _ n8 h8)),?_⟩;refine ⟨p,_,rfl,pka,Oi.1,Oi.2,λd2 Hb d2a d2b pkb vp=>?_⟩;have sbb:=sba.ao vp;obtain ⟨other,m2,e2⟩:=pick d2 d2a d2b;refine m7 (sbb l8 _ n8 h8) e2 ?_;show W2 _ _;subst hW2;refine dN λW3 hW3=>?_
       obtain ⟨g2,eg2⟩:=vals other (GC _ m2);obtain ⟨g1,eg1⟩:=vals one (GC _ m1);have hdb:Hb dh=some (.dK kvs):=sbb dh _ ndh (sH _ _ uU);refine ⟨dh,_,rfl,eg2 ▸ ji.k (k:=cB other) hdb,?_⟩;refine ⟨dh,_,rfl,eg1 ▸ ji.k (k:=cB one) hdb,?_⟩;show W3 _ _;subst hW3;refine dN λW4 hW4=>?_
       refine ⟨p,9,rfl,pkb,by decide,by decide,λsk Hc sk0 sk1 pkc sc=>?_⟩;show W4 _ _;subst hW4;have sbc:=sbb.ao sc;have eFc:Hc F=some (.dT kf):=(sa.ao (vp.ao sc)) F _ nF eF
       have foc:Ig hs Hc kf:=λkv hkv=>by
         obtain ⟨l,w1,w2,w3⟩:=fo kv hkv;exact ⟨l,w1,w2.ts (aW.aK pk (sa.ao (vp.ao sc))),w3⟩
       obtain ⟨hh1,q1,q2,q3⟩:=ae9 ow (GC _ m1);obtain ⟨hh2,r1,r2,r3⟩:=ae9 ow (GC _ m2);have hOc:Hc O=some (.dK kvo):=sbc O _ nO (s2 _ _ eO);refine ⟨O,_,rfl,q3 ▸ ji.k (k:=cB one) hOc,?_⟩;refine ⟨O,_,rfl,r3 ▸ ji.k (k:=cB other) hOc,?_⟩;have skip:∀(aj:St),(∃ o4 o5 o6 o7 jj iy mY pP qQ qb:Option V,aj=[aM p,aM lh,aM dh,aM O,o4,o5,o6,o7,aM l8,aM F,jj,iy,mY,pP,qQ,qb])->aaw λ(kf:List (List Key × V))(o4 o5 o6 o7 jj iy mY pP qQ qb:Option V)=>uf (aj=[aM p,aM lh,aM dh,aM O,o4,o5,o6,o7,aM l8,aM F,jj,iy,mY,pP,qQ,qb]) (fV Hc p) (aW p H2 Hc) (Hc F=some (.dT kf)) (kf.length<=i+1) (Ig hs Hc kf):=fun aj ⟨a4,a5,a6,a7,a10,a11,a12,a13,a14,a15,e⟩=>⟨kf,a4,a5,a6,a7,a10,a11,a12,a13,a14,a15,e,pkc,sbc,eFc,Pj kl,foc⟩
       refine gB (λc2=>?_) (λc2=>skip _ ⟨_,_,_,_,_,_,_,_,_,_,rfl⟩)
       have hne:hh1.name≠hh2.name:=λz=>by
         rw [fj z] at c2;cases c2
       refine gB (λc3=>?_) (λc3=>skip _ ⟨_,_,_,_,_,_,_,_,_,_,rfl⟩);have apW:0<g2-g1:=iH c3;refine dN λW5 hW5=>?_
       refine ⟨by show 3<=aL; omega,λl3 hl3=>?_⟩;have nl3:l3≠p:=λz=>by obtain ⟨n,e,_⟩:=pkc; rw [<- z,hl3] at e; cases e
       refine ⟨p,3,rfl,pkc.new hl3,by decide,by decide,λd3 Hd d3a d3b pkd sd=>?_⟩;have scd:aW p Hc Hd:=((aW.of (aD.refl Hc)).new hl3).ao sd
       obtain ⟨mo,emo,hmo⟩:∃ mo:Option Int,mH [V.non,.int (g2-g1),.int (g2-g1+sk)] d3=some (vW mo)/\∀ m,mo=some m->g2-g1<=m:=by
         obtain ⟨n,rfl⟩:=nG d3a
         match n,d3b with
         | 0,_=>exact ⟨none,rfl,λm e=>nomatch e⟩
         | 1,_=>exact ⟨some (g2-g1),rfl,λm e=>by cases e; exact Int.le_refl _⟩
         | 2,_=>exact ⟨some (g2-g1+sk),rfl,λm e=>by cases e; omega⟩
         | n+3,h=>exact bK h (by omega)
       refine m7 (sd l3 _ nl3 aZ) emo ?_;show W5 _ _;subst hW5;refine ⟨1,g2-g1-sk,rfl,?_⟩;obtain ⟨lst,ajq,hl1,hl2⟩:∃ lst:Int,lst=(if g2-g1-sk > 1 then g2-g1-sk else 1)/\1<=lst/\lst<=g2-g1:=⟨_,rfl,by split <;> omega,by split <;> omega⟩;rw [<- ajq];refine ⟨by show 4<=aL; omega,λt1 ht1=>?_⟩;refine ⟨by show 2<=aL; omega,λt2 ht2=>?_⟩;have eFd:Hd F=some (.dT kf):=scd F _ nF eFc;have eF1:upd Hd t1 (.tup [.str one,.str other,.int lst,vW mo]) F=some (.dT kf):=(bx (cg eFd ht1)).ao eFd;have eF2:upd (upd Hd t1 (.tup [.str one,.str other,.int lst,vW mo])) t2 (.tup [.str one,.str other]) F=some (.dT kf):=(bx (cg eF1 ht2)).ao eF1;refine ⟨F,_,rfl,wV.t (k:=kP (one,other)) eF2 aZ (by omega),?_⟩;have tt:cN Hc (upd (upd (upd Hd t1 (.tup [.str one,.str other,.int lst,vW mo])) t2 (.tup [.str one,.str other])) F (.dT (dH kf (kP (one,other)) (.ref t1)))):=(((aW.aK pkc scd).new ht1).new ht2).put eF2 (λ_ z=>nomatch z)
       have lK:upd (upd (upd Hd t1 (.tup [.str one,.str other,.int lst,vW mo])) t2 (.tup [.str one,.str other])) F (.dT (dH kf (kP (one,other)) (.ref t1))) t1=some (.tup [.str one,.str other,.int lst,vW mo]):=by
         rw [bx (cg eFd ht1).symm,bx (cg aZ ht2)]; exact aZ
       refine ⟨_,_,_,_,_,_,_,_,_,_,_,rfl,((pkd.new ht1).new ht2).put nF,λb o hb e=>?_,aZ,?_,λkv hkv=>?_⟩
       . have z1:=(sbc.ao scd) b o hb e;rw [bx (cg e hF)];exact (((aW.of (aD.refl Hd)).new ht1).new ht2) b o hb z1
       . exact gw (yM kf (kP (one,other)) (.ref t1)) (Jz kl 1)
       . rcases ahc hkv with z | z
         . subst z;exact ⟨((one,other),lst,mo),rfl,⟨t1,rfl,lK⟩,aaT gh (GC _ m1),aaT gh (GC _ m2),hl1,λm e=>by have:=hmo m e; show lst<=m; omega,hh1,q1,hh2,r1,q2,r2,hne⟩
         . obtain ⟨l,w1,w2,w3⟩:=foc kv z;exact ⟨l,w1,w2.ts tt,w3⟩
     . obtain ⟨kf,o4,o5,o6,o7,jj,iy,mY,pP,qQ,qb,eσ,pk,sb,eF,kl,fo⟩:=agW;subst eσ;obtain ⟨ks,ek,lk⟩:=fo.keys;refine ⟨F,kf,ks,rfl,eF,ek,by omega,λl9 as ks' hl9 pm' pw la ha=>?_⟩;have lks:ks'.length=ks.length:=pm'.length_eq;have s9:aD H' (upd H' l9 (.lst (as.map V.ref))):=(aD.refl H').upd hl9;generalize eH9:upd H' l9 (.lst (as.map V.ref))=H9 at s9;have h9:H9 l9=some (.lst (as.map V.ref)):=by rw [<- eH9]; exact aZ
       refine ⟨l9,rfl,⟨_,aY.of h9⟩,λD hD=>Ke (xs:=as.map V.ref) (λi bZ=>∃(zs:List V)(ls:List bH),cW H9 bZ D zs/\bw (jw H9) zs ls/\ls.map cu=ks'.take i/\∀ l∈ls,Oq hs l) ⟨[],[],cW.start hD,.nil,rfl,λl hl=>by simp at hl⟩ (λi bZ _ aop=>by obtain ⟨_,_,G,_⟩:=aop; exact aY.of (G.same _ _ h9)) (λbZ ajE=>?_) (λi x bZ hx hi ah7 b=>?_)⟩
       . obtain ⟨zs,ls,G,pz,el,gl⟩:=ajE;have lx:ks'.take (as.map V.ref).length=ks':=oM (by rw [aU]; omega);rw [lx] at el;have l1:=fG rJ el;rw [aU] at l1;have l2:=pz.length;refine ⟨D,zs,rfl,.inl ⟨aY.of G.at',λt ht=>?_⟩⟩;refine q (.ref t) ls _ ⟨t,zs,rfl,aZ,bG (λ_ _ z=>z.ts (G.same.aK.new ht)) pz⟩ ⟨by omega,gl,by rw [el]; exact pw⟩ (by omega) ?_ ?_
         . obtain ⟨n,e,n0⟩:=pk;exact (show fV bZ p from ⟨n,G.same _ _ (s9 _ _ e),n0⟩).new ht
         . exact (((aW.of sH).ao (sb.ao (aW.of (s9.ao G.same)))).new ht)
       . obtain ⟨zs,ls,G,pz,el,gl⟩:=ah7;rw [cX] at hx
         obtain ⟨a,ea,rfl⟩:∃ a,as[i]?=some a/\x=V.ref a:=by
           cases e:as[i]? with
           | none=>rw [e] at hx; cases hx
           | some a=>rw [e] at hx; exact ⟨a,rfl,(jK hx).symm⟩
         have li:i<ks'.length:=by rw [aU] at hi; omega
         have eki:ks'[i]?=some ks'[i]:=cT li;have hka:H' a=some (.tup ((kP ks'[i]).map kV)):=ha i a _ ea eki
         have mk:kP ks'[i]∈kf.map (·.1):=by
           rw [ek];exact iz (pm'.mem_iff.mp (CN li))
         obtain ⟨v,ev,mv⟩:=aon mk;obtain ⟨l,w1,w2,w3⟩:=fo _ mv;have el1:l.1=ks'[i]:=(WK w1).symm;have sg:aD H' bZ:=s9.ao G.same;refine ⟨F,v,rfl,ev ▸ ji.t (k:=kP ks'[i]) (sg _ _ eF) (sg _ _ hka),?_⟩;have l2:=pz.length;have l1:=fG rJ el;rw [aU,eY] at l1;refine ⟨zs,G.at',by omega,nx hi ⟨zs++[v],ls++[l],G.put hD v,fY pz (.cons (w2.ts s9.aK) .nil),?_,λl' hl'=>?_⟩⟩
         . rw [dJ,el,dI,eki];show _++[l.1]=_++[ks'[i]];rw [el1]
         . rcases fQ.mp hl' with z | z
           . exact gl l' z
           . rw [gY.mp z]; exact w3
def Z9(K:cH):Sp:=λvs H Q _=>kJ λ(a:au)(ns:List Int)(k:Int)=>uV (vs=[.ref a,.int k]) (aY K H a (ns.map V.int)) ((∀ n∈ns,Mw n)) (ns.length<=63) (0<=k) (k<=100) (∀(x:V)(hs:List aP)(ls:List bH)(H':Hp),iI H' x hs ls->En hs->zX hs ls->(bA hs).length<=10->ls.length<=6->(∀ h∈hs,h.name≠"merger")->aD H H'->Q x H')
def PvG(a hd ln lc lh dh:au)(k d4:Int)(ss nmL:List Str)(H3:Hp):Nat->St->Hp->Prop:=λi aj H'=>QX8 λ(vh:List V)(hs:List aP)(kvs:List (Key × V))(m:Nat)(o8 o9 jj iy:Option V)=>UL (aj=[aM a,bU k,aM hd,aM ln,bU (1+d4),aM lc,aM lh,aM dh,bU (10-(m:Int)),o8,o9,jj,iy]) (H' lh=some (.lst vh)) (bw (iG H') vh hs) (H' dh=some (.dK kvs)) (kvs.map (·.1)=(bA hs).map cB) ((∀ n∈bA hs,∃ i:Int,dW kvs (.inr n)=some (.int i))) (bA hs=ss.take m) (m<=10) (hs.length=i) (hs.map aP.name=nmL.take i) ((∀ h∈hs,uH h)) (aD H3 H')
theorem tD:fB ["_law_script","_law_k","_law_head","_law_names_here","_law_amount","_law_called","_law_houses_here","_law_hidden","_law_room","_law_j","_law_rest","_law_house_here","_law_more"] ["_law_script","_law_k"] (bN Y5):=gA
theorem ajO(F:gG K "_law_ledger" Y5 f fd)(T:Txt mg t8 t6 tR tL)(Cy:Cl P w K mg base 2 "_law_pack" ["_law_script","_law_k"] (Ph K))(ac3:Cl P w K mg base 2 "_law_names" ["_law_pack_here","_law_amount"] Wk)(fZ:Cl P w K mg base 2 "_law_take" ["_law_pack_here","_law_size"] yP)(amW:Cl P w K mg base 2 "_law_house" ["_law_pack_here","_law_name","_law_names_here","_law_room"] Vr)(akm:Cl P w K mg base 2 "_law_letters" ["_law_pack_here","_law_houses_here","_law_hidden"] RQ):bM P w K mg base bR 3 f fd ["_law_script","_law_k"] (Z9 K):=by refine F.ok tD (λvs H Q E h=>?_) (λcdv A outer s H vs Q E hr h=>?_);obtain ⟨a,ns,k,rfl,_⟩:=h;rfl;obtain ⟨a,ns,k,rfl,ha,hb,hl,k0,k1,q⟩:=h;have fW:=dZ;refine ⟨_,(bf (pZ 2 tD (pC Cy hr (aq (pV 0) (aq (pV 1) aC)))) (bf (pZ 3 tD (pC ac3 hr (aq (pV 2) (aq aQ aC)))) (bf (pZ 4 tD (cC gM aQ (pC fZ hr (aq (pV 2) (aq aQ aC))))) (bf (pZ 5 tD (pC ac3 hr (aq (pV 2) (aq aQ aC)))) (bf (pZ 6 tD (iu aC)) (bf (pZ 7 tD Lw) (bf (pZ 8 tD aQ) (bf (jd je rfl (uO rfl T.range (aq (pV 4) aC)) (pY 9 tD) (bf (pZ 10 tD (jZ Gp (pV 3) (jk (cR V8 rfl T.len iM (aq (pV 7) aC))) (jk aQ))) (bf (Ed (pC amW hr (aq (pC Cy hr (aq (pV 0) (aq (cC gM (cC gM (pV 1) aQ) (pV 9)) aC))) (aq (pX mJ (pV 5) (pV 9)) (aq (pV 10) (aq (pV 8) aC))))) (j8 rfl (cZ (pY 11 tD) (cZ (pY 12 tD) jV)))) (bf (sW (rN uy zH Aq uN (pV 6) (aq (pV 11) aC))) (bf (sW (rN NQ aeN PySem.F.type_dict_update ak8 (pV 7) (aq (pV 12) aC))) (bC (pZ 8 tD (cC zL aQ (cR V8 rfl T.len iM (aq (pV 7) aC)))))))))) (bC (cO (fJ (aq (jx kE rfl T.tuple jy (aq (pV 6) aC)) (aq (pC akm hr (aq (pC Cy hr (aq (pV 0) (aq (cC gM (pV 1) aQ) aC))) (aq (pV 6) (aq (pV 7) aC)))) aC))))))))))))),?_⟩;refine dN λU1 pF=>?_;refine ⟨a,ns,k,rfl,ha,hb,hl,k0,by omega,λhd H1 fhd nC s1=>?_⟩;show U1 _ _;subst pF;refine dN λU2 qY=>?_;refine ⟨hd,12,rfl,by decide,nC,λln ss H2 fln eln l12 nd gs _ pk2 vp=>?_⟩;show U2 _ _;subst qY;have S2:aD H H2:=Bu s1 fhd vp;refine dN λU3 tZ=>?_;refine ⟨hd,4,rfl,pk2,by decide,by decide,λd4 H3a d4a d4b anW abV=>?_⟩;show U3 _ _;subst tZ;have S3a:aD H H3a:=Bu S2 fhd abV;refine dN λU3b amt=>?_;refine ⟨hd,4,rfl,by decide,anW,λlc nmL H3 flc elc lnm ndm gsm nme mG sb3=>?_⟩;show U3b _ _;subst amt;have S3:aD H H3:=Bu S3a fhd sb3;have ad9:ln≠hd:=λz=>(by obtain ⟨n,e,_⟩:=nC; rw [<- z,fln] at e; cases e);have ab5:H3 ln=some (.lst (ss.map V.str)):=sb3 ln _ ad9 (abV ln _ ad9 eln);refine dN λU4 v7=>?_;refine ⟨cJ _,λlh flh=>?_⟩;show U4 _ _;subst v7;refine dN λU5 wH=>?_;refine λdh fdh=>?_;show U5 _ _;subst wH;have S4:aD H3 (upd (upd H3 lh (.lst [])) dh (.dK [])):=((aD.refl H3).upd flh).upd fdh;have nld:lh≠dh:=cg aZ fdh;have apY:=S4 _ _ ab5;have e12:ss.length=12:=l12;refine ⟨1+d4,rfl,by omega,by omega,zA (lo:=0) (n:=(1+d4).toNat) (PvG a hd ln lc lh dh k d4 ss nmL H3) ⟨[],[],[],0,none,none,none,none,rfl,(bx nld).ao aZ,.nil,aZ,rfl,λn hn=>by simp [bA] at hn,rfl,by decide,rfl,rfl,λh hh=>by simp at hh,S4⟩ (λi aj H' hi anG=>?_) (fun aj H' ahS=>?_)⟩;obtain ⟨vh,hs,kvs,m,o8,o9,jj,iy,eσ,elh,ph,edh,keys,vals,nms,m10,lhs,hnm,gh,S⟩:=anG;subst eσ;have i4:i<4:=(by omega);have lkv:kvs.length=m:=(by have z:=fG rJ keys;rw [aU,aU,nms,eY] at z;omega);have SH:aD H H':=S3.ao S;refine ⟨dh,kvs,rfl,edh,?_⟩;refine ⟨ln,_,rfl,aY.of (S _ _ ab5),λlr flr=>?_⟩;have YS:lE (ss.map V.str) (some (kvs.length:Int)) (some 10)=((ss.take 10).drop m).map V.str:=(by unfold lE;rw [show (some 10:Option Int)=some ((10:Nat):Int) from rfl,HT.wA,HT.wA,aU,l12,lkv,BK (show m<=12 by omega),BK (show 10<=12 by decide),<- List.map_drop,<- LR,Lf]);rw [YS];have s5:aD H' (upd H' lr (.lst (((ss.take 10).drop m).map V.str))):=(aD.refl H').upd flr;generalize eH5:upd H' lr (.lst (((ss.take 10).drop m).map V.str))=H5 at s5;have elr:H5 lr=some (.lst (((ss.take 10).drop m).map V.str)):=(by rw [<- eH5]; exact aZ);have SH5:aD H H5:=SH.ao s5;refine ⟨a,ns,k+1+(0+(i:Int)),rfl,Dk SH5 ha,hb,hl,by omega,by omega,λp H6 fp jq s6=>?_⟩;obtain ⟨nm,enm⟩:∃ nm,nmL[i]?=some nm:=⟨nmL[i]'(by rw [lnm]; exact i4),cT _⟩;have eat:mH (nmL.map V.str) (0+(i:Int))=some (.str nm):=(by rw [Bs];exact j9 (by rw [cX,enm]; rfl));refine m7 (xs:=nmL.map V.str) (s6 _ _ (s5 _ _ (S _ _ elc))) eat ?_;have gnm:dG nm:=gsm nm (dB enm);have s7:aD H5 H6:=s6;have pO:fV H6 p:=jq;have ssl:((ss.take 10).drop m).length=10-m:=(by rw [pJ,eY]; omega);have sub:((ss.take 10).drop m).Sublist ss:=(ZV _ _).ao (yS _ _);refine ⟨p,nm,lr,(ss.take 10).drop m,10-(m:Int),rfl,pO,gnm,s7 _ _ elr,by omega,sub.nodup nd,λs hs'=>gs s (sub.subset hs'),λr d hv hh kv m' H8 fr fd er hat ghh ehn adp le rm ed Rv rR lW sb8=>?_⟩;have fp5:H5 p=none:=fp;have S8:aD H5 H8:=Bu s7 fp5 sb8;refine ⟨r,_,rfl,aG.of er,rfl,_,_,rfl,_,_,rfl,rfl,?_⟩;have Jm:H8 lh=some (.lst vh):=S8 _ _ (s5 _ _ elh);have Uo:H8 dh=some (.dK kvs):=S8 _ _ (s5 _ _ edh);refine ⟨.inl ⟨rfl,_,aY.of Jm⟩,?_⟩;have lv:=ph.length;refine ⟨lh,vh,_,rfl,rfl,Jm,by omega,?_⟩;have ndd:dh≠d:=λz=>(by rw [<- z] at fd;have w:=(s7 _ _ (s5 _ _ edh));cases (fd.symm.ao w));have acK:dh≠lh:=λz=>(by rw [z,Jm] at Uo; cases Uo);have aj0:d≠lh:=λz=>(by rw [z,Jm] at ed; cases ed);have Wh:upd H8 lh (.lst (vh++[hv])) dh=some (.dK kvs):=(bx acK).ao Uo;have ed9:upd H8 lh (.lst (vh++[hv])) d=some (.dK kv):=(bx aj0).ao ed;have anO:kv.length=m':=(by have z:=fG rJ Rv;rw [aU,aU,eY] at z;omega);refine ⟨.inr (.inr (.inl ⟨rfl,.inl ⟨_,Wh⟩⟩)),?_⟩;refine ⟨dh,d,kvs,kv,rfl,rfl,ndd,Wh,ed9,by omega,?_⟩;have mm:m+m'<=10:=(by omega);have e10:bA (hs++[hh])=ss.take (m+m'):=(by have z:bA (hs++[hh])=bA hs++fH hh:=(by unfold bA; rw [rM]; simp);rw [z,nms,adp,Lf,List.take_take,List.take_add,BK (by omega)]);have ndk:(ss.take (m+m')).Nodup:=(yS _ _).nodup nd;have Xc:ss.take (m+m')=ss.take m++((ss.take 10).drop m).take m':=(by rw [<- e10];unfold bA;rw [rM];have z:hs.flatMap fH=ss.take m:=nms;rw [z,<- adp]; simp);have inj:∀ l:List Str,l.Nodup->(l.map (cB:Str->Key)).Nodup:=λl hl=>(by rw [iT,jc];exact (iT.mp hl).imp λh z=>h (rY z));have afw:=inj _ ndk;rw [Xc,dJ] at afw;obtain ⟨nda,ndb,ndc⟩:=vA.mp afw;have emk:tU kvs kv=kvs++kv:=WR kv kvs (by rw [Rv]; exact ndb) (λx hx z=>by rw [Rv] at hx;rw [keys,nms] at z;exact ndc x z x hx rfl);rw [emk];have tt:cN H8 (upd (upd H8 lh (.lst (vh++[hv]))) dh (.dK (kvs++kv))):=((cN.refl H8).put Jm (λ_ z=>nomatch z)).put Wh (λ_ z=>nomatch z);refine ⟨dh,_,rfl,aZ,?_⟩;refine ⟨vh++[hv],hs++[hh],kvs++kv,m+m',some (.int (0+(i:Int))),some (.ref lr),some hv,some (.ref d),?_,(bx (gQ acK)).ao aZ,?_,aZ,?_,?_,e10,mm,by rw [cQ,lhs]; rfl,?_,?_,?_⟩;have el:(10-((kvs++kv).length:Int))=10-((m+m':Nat):Int):=(by rw [cQ,lkv,anO]);show [_,_,_,_,_,_,_,_,some (V.int (10-((kvs++kv).length:Int))),_,_,_,_]=_;rw [el];refine fY (bG (λ_ _ z=>(z.ts s5.aK).ts (S8.aK.ao tt)) ph) (.cons (hat.ts tt) .nil);rw [dJ,keys,Rv,e10,nms,Xc,dJ];intro n hn;rw [e10,Xc] at hn;rw [ajL];rcases fQ.mp hn with z | z;obtain ⟨v,ev⟩:=vals n (by rw [nms]; exact z);exact ⟨v,by rw [ev]; rfl⟩;obtain ⟨v,ev⟩:=rR n z;refine ⟨v,?_⟩;have no:dW kvs (.inr n)=none:=ai2 (λy=>by rw [keys,nms] at y;exact ndc (cB n) y (cB n) (iz z) rfl);rw [no,ev]; rfl;rw [dJ,hnm,dI,enm,<- ehn]; rfl;intro h hh';rcases fQ.mp hh' with z | z;exact gh h z;rw [gY.mp z]; exact ghh;intro b o e;have z:=S8 _ _ (s5 _ _ (S _ _ e));have n1:b≠lh:=cg e flh;have n2:b≠dh:=λy=>(by rw [y] at e;have:=(bx (o:=.lst []) (gQ nld)).ao e;rw [fdh] at this; cases this);rw [bx n2,bx n1]; exact z;obtain ⟨vh,hs,kvs,m,o8,o9,jj,iy,eσ,elh,ph,edh,keys,vals,nms,m10,lhs,hnm,gh,S⟩:=ahS;subst eσ;have SH:aD H H':=S3.ao S;have lv:=ph.length;have ln':hs.length<=4:=(by omega);refine ⟨lh,vh,rfl,.inl ⟨aY.of elh,λt1 gZ=>?_⟩⟩;have s5:aD H' (upd H' t1 (.tup vh)):=(aD.refl H').upd gZ;generalize eH5:upd H' t1 (.tup vh)=H5 at s5;have lK:H5 t1=some (.tup vh):=(by rw [<- eH5]; exact aZ);refine ⟨a,ns,k+5,rfl,Dk (SH.ao s5) ha,hb,hl,by omega,by omega,λp H6 fp jq s6=>?_⟩;have s56:aD H' H6:=s5.ao s6;have ndn:(bA hs).Nodup:=(by rw [nms]; exact (yS _ _).nodup nd);have ab8:(bA hs).length<=24:=(by rw [nms,eY]; omega);refine ⟨p,lh,dh,vh,hs,kvs,rfl,jq,s56 _ _ elh,bG (λ_ _ z=>z.ts s56.aK) ph,by omega,gh,ndn,ab8,s56 _ _ edh,keys,vals,λx ls H7 lat gl l6 pO sb7=>?_⟩;have S7:aD H5 H7:=Bu s6 fp sb7;refine ⟨by show 2<=aL; omega,λt ft=>?_⟩;have S7t:aD H5 (upd H7 t (.tup [.ref t1,x])):=S7.upd ft;refine q (.ref t) hs ls _ ⟨t,.ref t1,x,rfl,aZ,⟨t1,vh,rfl,S7t _ _ lK,bG (λ_ _ z=>z.ts (s5.ao S7t).aK) ph⟩,lat.ts ((cN.refl H7).new ft)⟩ ⟨by omega,by omega,gh,by rw [hnm]; exact (yS _ _).nodup ndm,ndn,ab8⟩ gl (by rw [nms,eY]; omega) l6 (λh hh=>nme h.name (sX (by rw [<- hnm]; exact iz hh))) (SH.ao (s5.ao S7t))
def wu(r:Row):List Key:=[.inl (some r.2),.inr r.1]
def rnH:List Key->Int × Str
 | [.inl (some i),.inr x]=>(i,x)
 | _=>(0,"")
theorem Dw(r:Row):rnH (wu r)=(r.2,r.1):=rfl
theorem agF{r r':Row}(h:wu r=wu r'):r=r':=by have z:=fG rnH h;rw [Dw,Dw] at z;exact wz (fG iY z) (fG cu z)
def yK(r:Row):Int × Str:=(r.2,r.1)
abbrev ltR(a b:Int × Str):Bool:=oZ vK kdS a b
theorem aoI{a b:List Row}(h:a.map yK=b.map yK):a=b:=by have z:∀ l:List Row,(l.map yK).map (λx=>((x.2,x.1):Row))=l:=λl=>(by rw [jM]; exact (CW λr _=>rfl).ao (List.map_id l));rw [<- z a,h,z b]
variable{r r':List Row}
theorem adE(h:(r.map yK).Pairwise (λa b=>ltR a b=true))(h':(r'.map yK).Pairwise (λa b=>ltR a b=true))(e:∀ a,a∈r↔a∈r'):r=r':=by have S:=KR vK kdS;have nd:∀{l:List (Int × Str)},l.Pairwise (λa b=>ltR a b=true)->l.Nodup:=λh=>iT.mpr (h.imp λ{a b} h e=>by rw [e] at h; have z:oZ vK kdS b b=true:=h; rw [S.qg] at z; cases z);refine aoI (((ad1 (nd h) (nd h')).mpr λx=>?_).eq_of_pairwise (λa b _ _ h1 h2=>by have z:=S.ao _ _ _ h1 h2; rw [S.qg] at z; cases z) h h');constructor;intro z;obtain ⟨a,ha,rfl⟩:=cG.mp z;exact iz ((e a).mp ha);intro z;obtain ⟨a,ha,rfl⟩:=cG.mp z;exact iz ((e a).mpr ha)
structure uM(r1 r2 r:List Row):Prop where
 mem:∀ a,a∈r↔a∈r1\/a∈r2
 rise:(r.map yK).Pairwise (λa b=>ltR a b=true)
theorem uM.uniq(h:uM r1 r2 r)(h':uM r1 r2 r'):r=r':=adE h.rise h'.rise λa=>(h.mem a).ao (h'.mem a).symm
def Ye:Sp:=λvs H Q _=>mz λ(x y:V)(r1 r2:List Row)=>jt (vs=[x,y]) (mq H x r1) (mq H y r2) (r1.length+r2.length<=60) (∀(z:V)(r:List Row)(H':Hp),mq H' z r->uM r1 r2 r->aD H H'->Q z H')
def VJ:Sp:=λvs H Q _=>kJ λ(x:V)(hs:List aP)(ls:List bH)=>wB (vs=[x]) (iI H x hs ls) (hs.length<=6) (∀(d:au)(H':Hp),H d=none->H' d=some (.lst ((hs.map aP.name).map V.str))->aD H H'->Q (.ref d) H')
theorem ah9:fB ["ledger"] ["ledger"] (bN Ov):=gA
theorem aoG(F:gG K "house_names" Ov f fd)(T:Txt mg t8 t6 tR tL):bM P w K mg base bR 1 f fd ["ledger"] VJ:=by refine F.ok ah9 (λvs H Q E h=>?_) (λcdv A outer s H vs Q E hr h=>?_);obtain ⟨x,hs,ls,rfl,_⟩:=h;rfl;obtain ⟨x,hs,ls,rfl,⟨a,y,z,rfl,ha,⟨c,vh,rfl,hc,ph⟩,hL⟩,h6,q⟩:=h;have fW:=dZ;refine ⟨_,(bC (cO (jg (bQ:=bN Ov) (own:=["house"]) (cap:=[]) (ix:=[]) rfl rfl gP (gj (pX cM (pV 0) aQ)) (λb=>(pH 0 ["house"])) (λb=>ig) (λb=>(pX cM (pV 0) aQ))))),?_⟩;refine cL (aG.of ha) (i:=0) (v:=.ref c) (by rfl) ?_;have lh:=ph.length;refine ⟨c,rfl,⟨_,aG.of hc⟩,λD hD=>Ce (xs:=vh) (λi H'=>cW H H' D (((hs.map aP.name).take i).map V.str)) (cW.start hD) (λi H' _ G=>aG.of (G.same _ _ hc)) (λH' G=>?_) (λi x H' hx hi G b=>?_)⟩;have e:(hs.map aP.name).take vh.length=hs.map aP.name:=oM (by rw [aU]; omega);rw [e] at G;exact q D H' hD G.at' G.same;obtain ⟨hh,hhi,ht⟩:=dM ph hx;obtain ⟨c1,b1,rfl,e1,_⟩:=ht;refine cL (aG.of (G.same _ _ e1)) (i:=0) (v:=.str hh.name) (by rfl) ?_;refine ⟨_,G.at',by rw [aU,eY,aU]; omega,nx hi ?_⟩;have e2:(hs.map aP.name).take (i+1)=(hs.map aP.name).take i++[hh.name]:=(by rw [dI,cX,hhi]; rfl);show cW H _ D _;rw [e2,dJ];exact G.put hD _
theorem akk:fB ["one","other"] ["one","other"] (bN Jg):=gA
theorem amT(F:gG K "merged_run" Jg f fd)(T:Txt mg t8 t6 tR tL):bM P w K mg base bR 1 f fd ["one","other"] Ye:=by refine F.ok akk (λvs H Q E h=>?_) (λcdv A outer s H vs Q E hr h=>?_);obtain ⟨x,y,r1,r2,rfl,_⟩:=h;rfl;obtain ⟨x,y,r1,r2,rfl,⟨a,vs,rfl,ha,pa⟩,⟨b,ws,rfl,hb,pb⟩,few,q⟩:=h;have fW:=dZ;have la:=pa.length;have lb:=pb.length;refine ⟨_,(bC (cO (jx kE rfl T.tuple jy (aq (jg (bQ:=bN Jg) (own:=["reading","name"]) (cap:=[]) (ix:=[]) rfl rfl gP (uI (cR (Xx (P0:=P) (w0:=w) (K1:=vK) (K2:=kdS) (hd:=rnH) rfl rfl rfl) rfl T.sorted yQ (aq (ang (bQ:=bN Jg) (own:=["name","reading"]) (cap:=[]) (ix:=[]) (kY hr) rfl rfl gP (gj (cC pA (pV 0) (pV 1))) (λb=>(j8 rfl (cZ (pH 0 ["name","reading"]) (cZ (pH 1 ["name","reading"]) jV)))) (λb=>ig) (λb=>(fJ (aq (pV 1) (aq (pV 0) aC))))) aC))) (λb=>(j8 rfl (cZ (pH 0 ["reading","name"]) (cZ (pH 1 ["reading","name"]) jV)))) (λb=>ig) (λb=>(fJ (aq (pV 1) (aq (pV 0) aC))))) aC)))),?_⟩;refine ⟨a,b,vs,ws,rfl,rfl,ha,hb,by omega,λc H1 hc s1=>?_⟩;have pc:bw (gW H1) (vs++ws) (r1++r2):=bG (λ_ _ z=>z.ts s1.aK) (fY pa pb);generalize vs++ws=us at hc pc;generalize er:r1++r2=rr at pc;have lc:=pc.length;have lr:rr.length<=60:=(by rw [<- er,cQ]; omega);have Zn:∀ ms:List (List Key × au),(∀ x∈ms,∃ a∈rr,x.1=wu a)->ST.oN ms:=λms hm=>ST.oN.of (U:=rr.map wu) (by rw [aU]; exact lr) λx hx=>(by obtain ⟨a,ha,e⟩:=hm x hx;rw [e]; exact iz ha);refine ⟨c,rfl,⟨_,aG.of hc⟩,λD hD=>⟨WS us.length (λi aj H'=>kJ λ(ms:List (List Key × au))(o1 o2:Option V)=>jt (aj=[o1,o2]) (H' D=some (uX P w D ms)) (ms.map (·.1)=(rr.take i).map wu) ((∀ x∈ms,H' x.2=some (.tup (x.1.map kV)))) (aD H1 H')),CP ⟨[],none,none,rfl,aZ,rfl,λx hx=>(by cases hx),(aD.refl H1).upd hD⟩,λb=>Ik (xs:=us) _ (λi aj H' _ hz=>by obtain ⟨_,_,_,_,_,_,_,s⟩:=hz; exact aG.of (s _ _ hc)) (fun aj H2 hz=>?_) (λi x aj H2 hx hi hz=>?_)⟩⟩;obtain ⟨ms,o1,o2,rfl,eD,em,hT,s2⟩:=hz;rw [lc,gU] at em;have key:∀ x∈ms,∃ a∈rr,x.1=wu a:=λx hx=>(by have z:x.1∈ms.map (·.1):=iz hx;rw [em] at z;obtain ⟨a,ha,e⟩:=cG.mp z;exact ⟨a,ha,e.symm⟩);refine ⟨D,ms,rfl,eD,Zn ms key,(λx hx=>?_),(λx hx y hy e=>?_),λl ts fl wL kts pw=>?_⟩;obtain ⟨a,_,e⟩:=key x hx;refine ⟨[],?_,λv hv=>(by cases hv)⟩;rw [hT x hx,e]; rfl;obtain ⟨a,_,e1⟩:=key x hx;obtain ⟨b,_,e2⟩:=key y hy;rw [e1,e2,Dw,Dw] at e;rw [e1,e2,wz (fG iY e) (fG cu e)];have s3:aD H2 (upd H2 l (.lst (ts.map λx=>V.ref x.2))):=(aD.refl H2).upd fl;generalize eH3:upd H2 l (.lst (ts.map λx=>V.ref x.2))=H3 at s3;have el:H3 l=some (.lst (ts.map λx=>V.ref x.2)):=(by rw [<- eH3]; exact aZ);have apq:ts.length<=60:=Zn ms key _ (by rw [iT,jc];exact pw.imp λ{a b} h e=>by rw [e,(KR vK kdS).qg] at h; cases h) (λk hk=>(kts k).mp hk) |> λz=>(by rw [aU] at z; exact z);refine ⟨l,rfl,⟨_,aY.of el⟩,λD2 hD2=>Ke (xs:=ts.map λx=>V.ref x.2) (λi H'=>∃ zs,cW H3 H' D2 zs/\bw (gW H') zs ((ts.take i).map λx=>((rnH x.1).2,(rnH x.1).1))) ⟨[],cW.start hD2,.nil⟩ (λi H' _ hz=>by obtain ⟨_,G,_⟩:=hz; exact aY.of (G.same _ _ el)) (λH' hz=>?_) (λi x H' hx hi hz b=>?_)⟩;obtain ⟨zs,G,pz⟩:=hz;rw [aU,gU] at pz;refine ⟨D2,zs,rfl,.inl ⟨aY.of G.at',λt1 gZ=>?_⟩⟩;have s4:aD H' (upd H' t1 (.tup zs)):=(aD.refl H').upd gZ;refine q _ _ _ ⟨t1,zs,rfl,aZ,bG (λ_ _ z=>z.ts s4.aK) pz⟩ ⟨λa=>?_,?_⟩ (((s1.ao s2).ao s3).ao (G.same.ao s4));have e1:a∈(ts.map λx=>((rnH x.1).2,(rnH x.1).1))↔wu a∈ts.map (·.1):=(by constructor;intro z;obtain ⟨x,hx,rfl⟩:=cG.mp z;obtain ⟨c,_,e⟩:=key x (wL x hx);rw [e,Dw];exact cG.mpr ⟨x,hx,e⟩;intro z;obtain ⟨x,hx,e⟩:=cG.mp z;exact cG.mpr ⟨x,hx,by rw [e,Dw]⟩);rw [e1,kts,em];constructor;intro z;obtain ⟨c,hc',e⟩:=cG.mp z;rw [<- agF e];rw [<- er] at hc';exact fQ.mp hc';intro z;exact iz (by rw [<- er]; exact fQ.mpr z);rw [jM,jc];exact pw.imp λh=>h;obtain ⟨zs,G,pz⟩:=hz;rw [cX] at hx;obtain ⟨x0,hx0,rfl⟩:=Ho.mp hx;obtain ⟨c,_,e⟩:=key x0 (wL x0 (dB hx0));have ex:H' x0.2=some (.tup [.int c.2,.str c.1]):=G.same _ _ (s3 _ _ (by have z:=hT x0 (wL x0 (dB hx0)); rw [e] at z; exact z));refine ⟨x0.2,_,rfl,aG.of ex,rfl,_,_,rfl,_,_,rfl,rfl,?_⟩;refine ⟨by show 2<=aL; omega,λt ft=>?_⟩;have lz:=pz.length;rw [aU,eY] at lz;have s4:aD H' (upd H' t (.tup [.str c.1,.int c.2])):=(aD.refl H').upd ft;have G2:=G.more s4;refine ⟨zs,G2.at',by omega,nx hi ⟨zs++[.ref t],G2.put hD2 _,?_⟩⟩;have tt:cN (upd H' t (.tup [.str c.1,.int c.2])) (upd (upd H' t (.tup [.str c.1,.int c.2])) D2 (.lst (zs++[.ref t]))):=λa ys e=>(by rw [bx (λz=>by rw [z,G2.at'] at e; cases e)]; exact e);rw [dI,hx0,dJ];refine fY (bG (λ_ _ z=>(z.ts s4.aK).ts tt) pz) (.cons ⟨t,rfl,tt _ _ ?_⟩ .nil);dsimp only;rw [e,Dw]; exact aZ;obtain ⟨ms,o1,o2,rfl,eD,em,hT,s2⟩:=hz;obtain ⟨r,hri,a1,rfl,ea⟩:=dM pc hx;refine ⟨a1,_,rfl,aG.of (s2 _ _ ea),rfl,_,_,rfl,_,_,rfl,rfl,?_⟩;refine ⟨by show 2<=aL; omega,λt ft=>?_⟩;have nDt:D≠t:=cg eD ft;have s3:aD H2 (upd H2 t (.tup [.int r.2,.str r.1])):=(aD.refl H2).upd ft;have old:∀ x∈ms,x.2≠D:=λx hx z=>(by have:=hT x hx; rw [z,eD] at this; cases this);have key:∀ x∈ms,∃ a∈rr,x.1=wu a:=λx hx=>(by have z:x.1∈ms.map (·.1):=iz hx;rw [em] at z;obtain ⟨a,ha,e⟩:=cG.mp z;exact ⟨a,sX ha,e.symm⟩);refine ⟨ms,wu r,t,rfl,s3 _ _ eD,aZ,Zn ms key,λx hx=>s3 _ _ (hT x hx),nxs hi ⟨ms++[(wu r,t)],_,_,rfl,aZ,?_,λx hx=>?_,?_⟩⟩;rw [dJ,em,dI,hri,dJ]; rfl;rcases fQ.mp hx with z | z;rw [bx (old x z)]; exact s3 _ _ (hT x z);rw [gY.mp z,bx (gQ nDt)]; exact aZ;intro b0 o0 e0;rw [bx (cg e0 hD)];exact s3 _ _ (s2 _ _ e0)
def Jy(r:Row):lF:=.tuple [.str r.1,.int r.2]
def Dv(rs:List Row):lF:=.tuple (rs.map Jy)
def Fi(h:aP):lF:=.tuple [.str h.name,.int h.low,.int h.high,.int h.bV,.tuple (h.runs.map Dv)]
def JM:Option Int->lF
 | none=>.none
 | some i=>.int i
def uT(l:bH):lF:=.tuple [.str l.1.1,.str l.1.2,.int l.2.1,JM l.2.2]
def Ir(hs:List aP)(ls:List bH):lF:=.tuple [.tuple (hs.map Fi),.tuple (ls.map uT)]
variable{aJ:Type}{H:Hp}
theorem M5{R:V->aJ->Prop}{f:aJ->lF}{vs:List V}{xs:List aJ}(p:bw R vs xs)(h:∀ v x,R v x->Dp K H v (f x)):uZ K H vs (xs.map f):=by induction p with| nil=>exact .nil| cons r _ ih=>exact .cons (h _ _ r) ih
variable{v:V}{hs:List aP}
theorem PN{ls:List bH}(h:iI H v hs ls):Dp K H v (Ir hs ls):=by obtain ⟨a,x,y,rfl,ea,⟨b,vb,rfl,eb,pb⟩,⟨c,vc,rfl,ec,pc⟩⟩:=h;refine .tup (aG.of ea) (.cons (.tup (aG.of eb) (M5 pb λv h hh=>?_)) (.cons (.tup (aG.of ec) (M5 pc λv l hl=>?_)) .nil));obtain ⟨a1,b1,rfl,e1,c1,v1,rfl,e2,p1⟩:=hh;refine .tup (aG.of e1) (.cons (.str _) (.cons (.int _) (.cons (.int _) (.cons (.int _) (.cons (.tup (aG.of e2) (M5 p1 λv rs hr=>?_)) .nil)))));obtain ⟨a2,v2,rfl,e3,p2⟩:=hr;refine .tup (aG.of e3) (M5 p2 λv r hr=>?_);obtain ⟨a3,rfl,e4⟩:=hr;exact .tup (aG.of e4) (.cons (.str _) (.cons (.int _) .nil));obtain ⟨a1,rfl,e1⟩:=hl;refine .tup (aG.of e1) (.cons (.str _) (.cons (.str _) (.cons (.int _) (.cons ?_ .nil))));cases l.2.2 with| none=>exact .non| some i=>exact .int i
theorem JX{aJ:Type}{f:aJ->lF}:∀{xs:List aJ},(∀ x∈xs,(f x).canLay0=true)->qm (xs.map f)=true
 | [],_=>rfl
 | x :: xs,h=>by rw [eV];unfold qm;rw [h x dg,JX λy hy=>h y (dD _ hy)];rfl
theorem Kl{aJ:Type}{f:aJ->lF}{d:Nat}:∀{xs:List aJ},(∀ x∈xs,(f x).depth<=d)->sU (xs.map f)<=d
 | [],_=>cJ _
 | x :: xs,h=>by rw [eV];unfold sU;have h1:=h x dg;have h2:=Kl (xs:=xs) λy hy=>h y (dD _ hy);omega
structure Vx(hs:List aP)(ls:List bH):Prop where
 hn:∀ h∈hs,dG h.name
 rn:∀ h∈hs,∀ rs∈h.runs,∀ r∈rs,dG r.1
 ln:∀ l∈ls,dG l.1.1/\dG l.1.2
theorem alN(r:Row):(Jy r).depth=1:=by simp [Jy,rP,sU]
theorem alO(rs:List Row):(Dv rs).depth<=2:=by unfold Dv rP;have:=Kl (f:=Jy) (d:=1) (xs:=rs) λr _=>(by rw [alN]; exact bB _);omega
theorem aj2(h:aP):(Fi h).depth<=4:=by have:=Kl (f:=Dv) (d:=2) (xs:=h.runs) λr _=>alO r;have e:(PyData.tuple (h.runs.map Dv)).depth<=3:=(by unfold rP; omega);unfold Fi;simp only [rP,sU] at e |-;omega
theorem am7(l:bH):(uT l).depth<=1:=by unfold uT;cases l.2.2 <;> simp [JM,rP,sU]
theorem JW{ls:List bH}(g:Vx hs ls):oY (Ir hs ls)=true:=by have h1:=JX (f:=Fi) (xs:=hs) λh hh=>(by have r:=JX (f:=Dv) (xs:=h.runs) λrs hr=>(by unfold Dv pW;exact JX λr hr'=>by have z:=(g.rn h hh rs hr r hr').ok;simp [Jy,pW,qm,z]);have z:=(g.hn h hh).ok;simp [Fi,pW,qm,z,r]);have h2:=JX (f:=uT) (xs:=ls) λl hl=>(by have z1:=(g.ln l hl).1.ok;have z2:=(g.ln l hl).2.ok;unfold uT;cases l.2.2 <;> simp [JM,pW,qm,z1,z2]);have d1:=Kl (f:=Fi) (d:=4) (xs:=hs) λh _=>aj2 h;have d2:=Kl (f:=uT) (d:=1) (xs:=ls) λl _=>am7 l;unfold oY;rw [CZ];refine ⟨?_,fj ?_⟩;simp [Ir,pW,qm,h1,h2];simp only [Ir,rP,sU];omega
theorem acU{ls:List bH}(g:Vx hs ls):oW (Ir hs ls) (Ir hs ls)=true:=SeqAt.eqv_refl _ (pU.mp (JW g)).1
def qF:List (List Row)->List (List Row)->List (List Row)->Prop
 | [],b,r=>r=b
 | a :: as,[],r=>r=a :: as
 | a :: as,b :: bs,r :: rs=>uM a b r/\qF as bs rs
 | _ :: _,_ :: _,[]=>False
theorem qF.uniq:∀{a b r r':List (List Row)},qF a b r->qF a b r'->r=r'
 | [],_,_,_,h,h'=>Eq.ao h h'.symm
 | _ :: _,[],_,_,h,h'=>Eq.ao h h'.symm
 | _ :: _,_ :: _,_ :: _,_ :: _,h,h'=>by rw [h.1.uniq h'.1,qF.uniq h.2 h'.2]
 | _ :: _,_ :: _,[],_,h,_=>h.elim
 | _ :: _,_ :: _,_ :: _,[],_,h=>h.elim
theorem abq:∀(a b z:List (List Row)),z.length=min a.length b.length->(∀(j:Nat)(r:List Row),z[j]?=some r->∃ p q,a[j]?=some p/\b[j]?=some q/\uM p q r)->qF a b (z++(a.drop z.length++b.drop z.length))
 | [],b,z,l,_=>by have e:z=[]:=Bg (by simpa using l);subst e; rfl
 | a :: as,[],z,l,_=>by have e:z=[]:=Bg (by simpa using l);subst e;show _=a :: as;simp
 | a :: as,b :: bs,[],l,_=>by simp at l
 | a :: as,b :: bs,r :: z,l,h=>by obtain ⟨p,q,e1,e2,m⟩:=h 0 r rfl;cases (show some a=some p from e1);cases (show some b=some q from e2);exact ⟨m,abq as bs z (by simpa using l) λj r hj=>h (j+1) r hj⟩
structure ZJ(a b:List (List Row)):Prop where
 la:a.length<=25
 lb:b.length<=25
 fa:∀ r∈a,r.length<=25
 fb:∀ r∈b,r.length<=25
def ZC:Sp:=λvs H Q _=>mz λ(x y:V)(a b:List (List Row))=>jt (vs=[x,y]) (uP H x a) (uP H y b) (ZJ a b) (∀(z:V)(r:List (List Row))(H':Hp),uP H' z r->qF a b r->aD H H'->Q z H')
structure qj(h k m:aP):Prop where
 name:m.name=h.name
 low:m.low=h.low
 high:m.high=h.high
 bV:m.bV=h.bV
 runs:qF h.runs k.runs m.runs
variable{h:aP}
theorem qj.uniq{k m:aP}(a:qj h k m)(b:qj h k m'):m=m':=by obtain ⟨n,l,g,d,r⟩:=m;obtain ⟨n',l',g',d',r'⟩:=m';have e:=a.runs.uniq b.runs;have e1:=a.name.ao b.name.symm;have e2:=a.low.ao b.low.symm;have e3:=a.high.ao b.high.symm;have e4:=a.bV.ao b.bV.symm;simp only at e e1 e2 e3 e4;subst e e1 e2 e3 e4;rfl
theorem Ck(xs:List V)(n:Nat):lE xs (some (n:Int)) none=xs.drop n:=by unfold lE;rw [HT.wA];have e:HT.cA xs.length xs.length none=xs.length:=rfl;rw [e];by_cases h:n<=xs.length;rw [BK h,oM (by rw [pJ]; exact bB _)];rw [Nat.min_eq_right (by omega),HD (bB _),HD (by omega),List.take_nil]
theorem Io{aJ bO:Type}{F:aJ->bO->Prop}:∀{l:List aJ}{m:List bO}(n:Nat),bw F l m->bw F (l.drop n) (m.drop n)
 | _,_,0,h=>h
 | _,_,_+1,.nil=>.nil
 | _,_,n+1,.cons _ r=>Io n r
theorem aec:fB ["one","other","shared"] ["one","other"] (bN Ri):=gA
theorem ag9(F:gG K "merged_runs" Ri f fd)(T:Txt mg t8 t6 tR tL)(apT:Cl P w K mg base 1 "merged_run" ["one","other"] Ye):bM P w K mg base bR 2 f fd ["one","other"] ZC:=by refine F.ok aec (λvs H Q E h=>?_) (λcdv A outer s H vs Q E hr h=>?_);obtain ⟨x,y,a,b,rfl,_⟩:=h;rfl;obtain ⟨x,y,a,b,rfl,⟨c,vs,rfl,hc,pc⟩,⟨d,ws,rfl,hd,pd⟩,ft,q⟩:=h;have fW:=dZ;have lc:=pc.length;have ld:=pd.length;have la:=ft.la;have lb:=ft.lb;refine ⟨_,(bf (afo (i:=2) aec.nd rfl rfl (bQ:=bN Ri) (own:=["run","twin"]) (cap:=[]) (ix:=[]) rfl rfl gP (aju rfl T.zip (aq (pV 0) (aq (pV 1) aC))) (λb=>(j8 rfl (cZ (pH 0 ["run","twin"]) (cZ (pH 1 ["run","twin"]) jV)))) (λb=>ig) (λb=>(pC apT hr (aq (pV 0) (aq (pV 1) aC))))) (bC (cO (cC pA (cC pA (jx kE rfl T.tuple jy (aq (pV 2) aC)) (jZ mZ (pV 0) (jk (cR jC rfl T.len iM (aq (pV 2) aC))) mC)) (jZ mZ (pV 1) (jk (cR jC rfl T.len iM (aq (pV 2) aC))) mC))))),?_⟩;refine ⟨c,d,vs,ws,rfl,aG.of hc,aG.of hd,λD hD=>Iz (J:=Z1 K c d vs ws) (min vs.length ws.length) (λi H'=>∃ zs rs,cW H H' D zs/\bw (mq H') zs rs/\rs.length=i/\∀(j:Nat)(r:List Row),rs[j]?=some r->∃ p q,a[j]?=some p/\b[j]?=some q/\uM p q r) ⟨[],[],cW.start hD,.nil,rfl,λj r e=>by simp at e⟩ (λH' hz=>?_) (λi H' hi hz=>?_)⟩;obtain ⟨zs,rs,G,pz,lr,hm⟩:=hz;refine ⟨⟨aG.of (G.same _ _ hc),aG.of (G.same _ _ hd),by omega⟩,?_⟩;have lz:=pz.length;have mr:=abq a b rs (by rw [lr]; omega) hm;refine ⟨D,zs,rfl,.inl ⟨aY.of G.at',λt1 gZ=>?_⟩⟩;have s1:aD H' (upd H' t1 (.tup zs)):=(aD.refl H').upd gZ;generalize yc:upd H' t1 (.tup zs)=H1 at s1;have lK:H1 t1=some (.tup zs):=(by rw [<- yc]; exact aZ);have S1:=G.same.ao s1;have eD1:H1 D=some (.lst zs):=s1 _ _ G.at';refine ⟨D,zs,rfl,.inl (aY.of eD1),?_⟩;refine ⟨c,vs,rfl,S1 _ _ hc,λp1 H2 hp1 s2=>?_⟩;rw [Ck] at hp1;refine ⟨t1,p1,zs,vs.drop zs.length,rfl,rfl,s2 _ _ lK,hp1,by rw [pJ]; omega,λp2 H3 hp2 s3=>?_⟩;refine ⟨D,zs,rfl,.inl (aY.of (s3 _ _ (s2 _ _ eD1))),?_⟩;have S3:=(S1.ao s2).ao s3;refine ⟨d,ws,rfl,S3 _ _ hd,λp3 H4 hp3 s4=>?_⟩;rw [Ck] at hp3;refine ⟨p2,p3,_,_,rfl,rfl,s4 _ _ hp2,hp3,by simp only [cQ,pJ]; omega,λp4 H5 sO s5=>?_⟩;have S5:=(S3.ao s4).ao s5;have e:(zs++vs.drop zs.length)++ws.drop zs.length=zs++(vs.drop rs.length++ws.drop rs.length):=(by rw [oU,lz]);rw [e] at sO;refine q _ _ H5 ⟨p4,_,rfl,sO,?_⟩ mr S5;have t15:cN H' H5:=(((s1.ao s2).ao s3).ao (s4.ao s5)).aK;exact fY (bG (λ_ _ z=>z.ts t15) pz) (fY (Io _ (bG (λ_ _ z=>z.ts S5.aK) pc)) (Io _ (bG (λ_ _ z=>z.ts S5.aK) pd)));obtain ⟨zs,rs,G,pz,lr,hm⟩:=hz;refine ⟨⟨aG.of (G.same _ _ hc),aG.of (G.same _ _ hd),by omega,by omega⟩,λv H2 hy b'=>?_⟩;obtain ⟨t,x,y,gZ,rfl,hx,hy,rfl⟩:=hy;obtain ⟨p,hp,rp⟩:=dM pc hx;obtain ⟨q0,hq0,rq⟩:=dM pd hy;have s1:aD H' (upd H' t (.tup [x,y])):=(aD.refl H').upd gZ;generalize yc:upd H' t (.tup [x,y])=H1 at s1;have et:H1 t=some (.tup [x,y]):=(by rw [<- yc]; exact aZ);refine ⟨t,_,rfl,aG.of et,rfl,_,_,rfl,_,_,rfl,rfl,?_⟩;have f1:=ft.fa p (dB hp);have f2:=ft.fb q0 (dB hq0);refine ⟨x,y,p,q0,rfl,rp.ts (G.same.ao s1).aK,rq.ts (G.same.ao s1).aK,by omega,λz r H3 hz mr s3=>?_⟩;have G2:=(G.more s1).more s3;have lz:=pz.length;refine ⟨zs,G2.at',by omega,nx hi ⟨zs++[z],rs++[r],G2.put hD _,?_,by rw [cQ,lr]; rfl,λj r' hj=>?_⟩⟩;have tt:cN H3 (upd H3 D (.lst (zs++[z]))):=λa ys e=>(by rw [bx (λw=>by rw [w,G2.at'] at e; cases e)]; exact e);exact fY (bG (λ_ _ w=>(w.ts (s1.ao s3).aK).ts tt) pz) (.cons (hz.ts tt) .nil);rcases qO j rs.length with w | w;rw [Dm w] at hj;exact hm j r' hj;rw [Cv w] at hj;have ej:j=i:=(by rcases qO (j-rs.length) 1 with w2 | w2;omega;rw [yd (by simpa using w2)] at hj; cases hj);subst ej;rw [show j-rs.length=0 by omega] at hj;cases (show some r=some r' from hj);exact ⟨p,q0,hp,hq0,mr⟩
def GJ(h:aP):lF:=.tuple [.str h.name,.int h.low,.int h.high,.int h.bV]
theorem Rn(g:dG h.name):oY (GJ h)=true:=by have z:=g.ok;unfold oY GJ;simp [pW,qm,z,rP,sU]
def Lk(h:aP):List V:=[.str h.name,.int h.low,.int h.high,.int h.bV]
variable{a:au}
theorem Qw(e:H a=some (.tup (Lk h))):Dp K H (.ref a) (GJ h):=.tup (aG.of e) (.cons (.str _) (.cons (.int _) (.cons (.int _) (.cons (.int _) .nil))))
theorem J0{b:V}:lE [.str h.name,.int h.low,.int h.high,.int h.bV,b] none (some 4)=Lk h:=rfl
def vH(h k:aP):Bool:=decide (h.name=k.name) && decide (h.low=k.low) && decide (h.high=k.high) && decide (h.bV=k.bV)
theorem abC(h k:aP):oW (GJ h) (GJ k)=vH h k:=by rw [jP];unfold vH;simp [GJ,oW,Lh,and_assoc]
def Vh(NM:au):Sp:=λvs H Q E=>∃(x y:V)(h k:aP),vs=[x,y]/\iG H x h/\iG H y k/\dG h.name/\dG k.name/\ZJ h.runs k.runs/\(vH h k=true->∀(z:V)(m:aP)(H':Hp),iG H' z m->qj h k m->aD H H'->Q z H')/\(vH h k=false->∀ H',aD H H'->E (.ref NM) none H')
theorem aok:fB ["one","other"] ["one","other"] (bN Yw):=gA
variable{NM:au}
theorem aiz(F:gG K "merged_house" Yw f fd)(xM:Dg K NM [.type "ValueError",.type "Exception",.type "BaseException",.type "object"] "ValueError.__new__" = true)(mM:mg "NoMerge" = some (.ref NM))(an8:Cl P w K mg base 2 "merged_runs" ["one","other"] ZC):bM P w K mg base (j7 P w) 3 f fd ["one","other"] (Vh NM):=by refine F.okX aok (λvs H Q E h=>?_) (λcdv A outer s H vs Q E hr h=>?_);obtain ⟨x,y,h,k,rfl,_⟩:=h;rfl;obtain ⟨x,y,h,k,rfl,⟨a,b,rfl,ha,rb⟩,⟨c,d,rfl,hc,rd⟩,gn,gk,ft,q1,q2⟩:=h;have fW:=dZ;refine ⟨_,(bf (gD (gF (Ca hr.units) (jZ mZ (pV 0) mC (jk aQ)) (jZ mZ (pV 1) mC (jk aQ)) (cV _)) (bC (V4 Gh xM rfl mM (aq iU aC))) gC) (bC (cO (cC pA (jZ mZ (pV 0) mC (jk aQ)) (fJ (aq (pC an8 hr (aq (pX cM (pV 0) aQ) (aq (pX cM (pV 1) aQ) aC))) aC)))))),?_⟩;refine ⟨a,_,rfl,ha,λp1 H1 hp1 s1=>?_⟩;refine ⟨c,_,rfl,s1 _ _ hc,λp2 H2 hp2 s2=>?_⟩;rw [J0] at hp1 hp2;refine ⟨_,_,Qw (s2 _ _ hp1),Qw hp2,Rn gn,Rn gk,?_⟩;rw [abC];have S2:=s1.ao s2;cases e:vH h k;exact ⟨by show 1<=aL; omega,q2 e _ S2⟩;refine ⟨a,_,rfl,S2 _ _ ha,λp3 H3 hp3 s3=>?_⟩;rw [J0] at hp3;have S3:=S2.ao s3;refine cL (aG.of (S3 _ _ ha)) (i:=4) (v:=b) (by rfl) ?_;refine cL (aG.of (S3 _ _ hc)) (i:=4) (v:=d) (by rfl) ?_;refine ⟨b,d,h.runs,k.runs,rfl,rb.ts S3.aK,rd.ts S3.aK,ft,λz r H4 rz mr s4=>?_⟩;refine ⟨by show 1<=aL; omega,λt gZ=>?_⟩;have s5:aD H4 (upd H4 t (.tup [z])):=(aD.refl H4).upd gZ;refine ⟨p3,t,Lk h,[z],rfl,rfl,s5 _ _ (s4 _ _ hp3),aZ,by show 4+1<=aL; omega,λp4 H5 sO s6=>?_⟩;exact q1 e _ ⟨h.name,h.low,h.high,h.bV,r⟩ H5 ⟨p4,z,rfl,sO,rz.ts (s5.ao s6).aK⟩ ⟨rfl,rfl,rfl,rfl,mr⟩ ((S3.ao s4).ao (s5.ao s6))
def TV:Sp:=λvs H Q _=>kJ λ(l:au)(us:List V)(rs:List Row)=>uf (vs=[.ref l]) (H l=some (.lst us)) (bw (gW H) us rs) (rs.length<=60) (rs.Nodup) (∀(z:V)(r:List Row)(H':Hp),mq H' z r->(∀ a,a∈r↔a∈rs)->(r.map yK).Pairwise (λa b=>ltR a b=true)->aD H H'->Q z H')
theorem ahs:fB ["_law_run"] ["_law_run"] (bN K3):=gA
theorem akd(F:gG K "_law_by_reading" K3 f fd)(T:Txt mg t8 t6 tR tL):bM P w K mg base bR 1 f fd ["_law_run"] TV:=by refine F.ok ahs (λvs H Q E h=>?_) (λcdv A outer s H vs Q E hr h=>?_);obtain ⟨l,us,rs,rfl,_⟩:=h;rfl;obtain ⟨l,us,rs,rfl,hl,pl,l60,nd,q⟩:=h;have fW:=dZ;have lu:=pl.length;refine ⟨_,(bC (cO (jx kE rfl T.tuple jy (aq (jg (bQ:=bN K3) (own:=["_law_reading","_law_row"]) (cap:=[]) (ix:=[]) rfl rfl gP (uI (cR (ade (K1:=vK) (K2:=kdS)) rfl T.sorted yQ (aq (jg (bQ:=bN K3) (own:=["_law_row","_law_reading"]) (cap:=[]) (ix:=[]) rfl rfl gP (uI (pV 0)) (λb=>(j8 rfl (cZ (pH 0 ["_law_row","_law_reading"]) (cZ (pH 1 ["_law_row","_law_reading"]) jV)))) (λb=>ig) (λb=>(fJ (aq (pV 1) (aq (pV 0) aC))))) aC))) (λb=>(j8 rfl (cZ (pH 0 ["_law_reading","_law_row"]) (cZ (pH 1 ["_law_reading","_law_row"]) jV)))) (λb=>ig) (λb=>(fJ (aq (pV 1) (aq (pV 0) aC))))) aC)))),?_⟩;refine ⟨l,rfl,⟨_,aY.of hl⟩,λD hD=>Ke (xs:=us) (λi H'=>∃ ts:List (au × (Int × Str)),cW H H' D ((ts.map (·.1)).map V.ref)/\ts.map (·.2)=(rs.take i).map (λr=>(r.2,r.1))/\∀ t∈ts,H' t.1=some (.tup [.int t.2.1,.str t.2.2])) ⟨[],cW.start hD,rfl,λt ht=>by cases ht⟩ (λi H' _ hz=>by obtain ⟨_,G,_⟩:=hz; exact aY.of (G.same _ _ hl)) (λH1 hz=>?_) (λi x H' hx hi hz b=>?_)⟩;obtain ⟨ts,G,em,hT⟩:=hz;rw [lu,gU] at em;have lt:ts.length=rs.length:=(by have:=fG rJ em; simpa using this);refine ⟨D,ts,rfl,.inl (aY.of G.at'),(λt ht=>⟨[],hT t ht,λv hv=>by cases hv⟩),?_,by omega,λl2 ts' lX pm pw=>?_⟩;rw [em];rw [iT] at nd;rw [iT,jc];exact nd.imp λh e=>h (wz (fG iY e) (fG cu e));have s2:aD H1 (upd H1 l2 (.lst ((ts'.map (·.1)).map V.ref))):=(aD.refl H1).upd lX;generalize eH2:upd H1 l2 (.lst ((ts'.map (·.1)).map V.ref))=H2 at s2;have el2:H2 l2=some (.lst ((ts'.map (·.1)).map V.ref)):=(by rw [<- eH2]; exact aZ);have lt':=pm.length_eq;refine ⟨l2,rfl,⟨_,aY.of el2⟩,λD2 hD2=>Ke (xs:=(ts'.map (·.1)).map V.ref) (λi H'=>∃ zs,cW H2 H' D2 zs/\bw (gW H') zs ((ts'.take i).map λt=>(t.2.2,t.2.1))) ⟨[],cW.start hD2,.nil⟩ (λi H' _ hz=>by obtain ⟨_,G,_⟩:=hz; exact aY.of (G.same _ _ el2)) (λH' hz=>?_) (λi x H' hx hi hz b=>?_)⟩;obtain ⟨zs,G2,pz⟩:=hz;rw [aU,aU,gU] at pz;refine ⟨D2,zs,rfl,.inl ⟨aY.of G2.at',λt1 gZ=>?_⟩⟩;have s4:aD H' (upd H' t1 (.tup zs)):=(aD.refl H').upd gZ;refine q _ _ _ ⟨t1,zs,rfl,aZ,bG (λ_ _ z=>z.ts s4.aK) pz⟩ (λa=>?_) ?_ ((G.same.ao s2).ao (G2.same.ao s4));have e1:a∈(ts'.map λt=>(t.2.2,t.2.1))↔(a.2,a.1)∈ts.map (·.2):=(by rw [<- (pm.map (·.2)).mem_iff];constructor;intro z;obtain ⟨t,ht,rfl⟩:=cG.mp z;exact cG.mpr ⟨t,ht,rfl⟩;intro z;obtain ⟨t,ht,e⟩:=cG.mp z;exact cG.mpr ⟨t,ht,by rw [e]⟩);rw [e1,em];constructor;intro z;obtain ⟨c,hc,e⟩:=cG.mp z;have:c=a:=wz (fG iY e) (fG cu e);rw [<- this]; exact hc;intro z;exact cG.mpr ⟨a,z,rfl⟩;rw [jM,jc];exact pw.imp λh=>h;obtain ⟨zs,G2,pz⟩:=hz;rw [jM,cX] at hx;obtain ⟨x0,hx0,rfl⟩:=Ho.mp hx;have m0:x0∈ts:=pm.mem_iff.mp (dB hx0);have ex:=G2.same _ _ (s2 _ _ (hT x0 m0));refine ⟨x0.1,_,rfl,aG.of ex,rfl,_,_,rfl,_,_,rfl,rfl,?_⟩;refine ⟨by show 2<=aL; omega,λt ft=>?_⟩;have lz:=pz.length;rw [aU,eY] at lz;have s4:aD H' (upd H' t (.tup [.str x0.2.2,.int x0.2.1])):=(aD.refl H').upd ft;have G3:=G2.more s4;refine ⟨zs,G3.at',by omega,nx hi ⟨zs++[.ref t],G3.put hD2 _,?_⟩⟩;have tt:cN (upd H' t (.tup [.str x0.2.2,.int x0.2.1])) (upd (upd H' t (.tup [.str x0.2.2,.int x0.2.1])) D2 (.lst (zs++[.ref t]))):=λa ys e=>(by rw [bx (λz=>by rw [z,G3.at'] at e; cases e)]; exact e);rw [dI,hx0,dJ];exact fY (bG (λ_ _ z=>(z.ts s4.aK).ts tt) pz) (.cons ⟨t,rfl,tt _ _ aZ⟩ .nil);obtain ⟨ts,G,em,hT⟩:=hz;obtain ⟨r,hri,a1,rfl,ea⟩:=dM pl hx;refine ⟨a1,_,rfl,aG.of (G.same _ _ ea),rfl,_,_,rfl,_,_,rfl,rfl,?_⟩;refine ⟨by show 2<=aL; omega,λt ft=>?_⟩;have lt:ts.length=i:=(by have:=fG rJ em;rw [aU,aU,eY] at this;omega);have s4:aD H' (upd H' t (.tup [.int r.2,.str r.1])):=(aD.refl H').upd ft;have G3:=G.more s4;refine ⟨_,G3.at',by rw [aU,aU]; omega,nx hi ⟨ts++[(t,(r.2,r.1))],?_,?_,λu hu=>?_⟩⟩;have z:=G3.put hD (V.ref t);rw [dJ,dJ];exact z;rw [dJ,em,dI,hri,dJ]; rfl;have nD:∀ c ys,upd H' t (.tup [.int r.2,.str r.1]) c=some (.tup ys)->upd (upd H' t (.tup [.int r.2,.str r.1])) D (.lst (wO V.ref (wO (·.1) ts)++[V.ref t])) c=some (.tup ys):=λc ys e=>(by rw [bx (λz=>by rw [z,G3.at'] at e; cases e)]; exact e);rcases fQ.mp hu with z | z;exact nD _ _ (s4 _ _ (hT u z));rw [gY.mp z];exact nD _ _ aZ
variable{D:au}
theorem xq{o:HO}(h:∃ zs,H D=some (.lst zs)):cN H (upd H D o):=λb xs e=>by
 have n:b≠D:=λz=>by obtain ⟨zs,y⟩:=h; rw [z,y] at e; cases e
 rw [bx n]; exact e
variable{i:Nat}
theorem M9{keep:aJ->Bool}{bs:List aJ}{c:aJ}(h:bs[i]?=some c):(bs.take (i+1)).filter keep=(bs.take i).filter keep++if keep c=true then [c] else []:=by rw [dI,h,List.filter_append];cases z:keep c <;> simp [z]
variable{xs:List V}{H1:Hp}{lN:St}{g:BI->TG}{te:BI->TE}{tt:BI->TT}{End:Hp->Prop}{bO:Type}
theorem Q9{R:V->aJ->Prop}{R':Hp->V->bO->Prop}{F:aJ->bO->Prop}{keep:aJ->Bool}{bs:List aJ}(mono:∀{H H':Hp}{v b},aD H H'->R' H v b->R' H' v b)(Ax:∀{H:Hp}{o:HO}{v b},(∃ zs,H D=some (.lst zs))->R' H v b->R' (upd H D o) v b)(hD:H1 D=none)(hT:H1 a=some (.tup xs))(few:xs.length<=1000)(pr:bw R xs bs)(turn:∀(i:Nat)(x:V)(c:aJ)(H':Hp),bs[i]?=some c->R x c->aD H1 H'->∀ b (N:Hp->Prop) (Q:VK),(keep c=false->∀ bZ,aD H' bZ->N bZ)->(keep c=true->∀ v bZ y,aD H' bZ->R' bZ v y->F c y->Q v bZ)->g b x lN H' fun dY H2=>tt b dY H2 λcc H3=>if cc=true then te b dY H3 Q else N H3)(fin:∀ vs ys H',aD H1 H'->H' D=some (.lst vs)->bw (R' H') vs ys->bw F (bs.filter keep) ys->End H'):
   ∃ W:Nat->Nat->Hp->Prop,(∃ m,W 0 m (upd H1 D (.lst [])))/\∀ b,vN (xY K a) (g b) (tt b) (oR D (te b)) lN End W :=
 Ce (xs:=xs) (λi H'=>∃ zs ys,cW H1 H' D zs/\zs.length<=i/\bw (R' H') zs ys/\bw F ((bs.take i).filter keep) ys) ⟨[],[],cW.start hD,cJ _,.nil,.nil⟩ (λi H' _ hz=>by obtain ⟨_,_,G,_⟩:=hz; exact aG.of (G.same _ _ hT)) (λH' hz=>by
   obtain ⟨zs,ys,G,_,pz,pf⟩:=hz;rw [pr.length,gU] at pf;exact fin zs ys H' G.same G.at' pz pf) (λi x H' hx hi hz b=>by
   have fW:=dZ;obtain ⟨zs,ys,G,lz,pz,pf⟩:=hz;obtain ⟨c,hc,rc⟩:=dM pr hx;refine turn i x c H' hc rc G.same b _ _ (λk bZ s=>nx hi ⟨zs,ys,G.more s,by omega,bG (λ_ _ z=>mono s z) pz,by rw [M9 hc,k,aV gO,yJ]; exact pf⟩) (λk v bZ y s r f=>?_);refine ⟨zs,(G.more s).at',by omega,nx hi ⟨zs++[v],ys++[y],(G.more s).put hD v,by rw [cQ]; simp; omega,?_,by rw [M9 hc,k,bh rfl]; exact fY pf (.cons f .nil)⟩⟩
   exact fY (bG (λ_ _ z=>Ax ⟨_,(G.more s).at'⟩ (mono s z)) pz) (.cons (Ax ⟨_,(G.more s).at'⟩ r) .nil))
theorem Qc{R:V->aJ->Prop}{R':Hp->V->bO->Prop}{F:aJ->bO->Prop}{bs:List aJ}(mono:∀{H H':Hp}{v b},aD H H'->R' H v b->R' H' v b)(Ax:∀{H:Hp}{o:HO}{v b},(∃ zs,H D=some (.lst zs))->R' H v b->R' (upd H D o) v b)(hD:H1 D=none)(hT:H1 a=some (.tup xs))(few:xs.length<=1000)(pr:bw R xs bs)(turn:∀(i:Nat)(x:V)(c:aJ)(H':Hp),bs[i]?=some c->R x c->aD H1 H'->∀ b (Q:VK),(∀ v bZ y,aD H' bZ->R' bZ v y->F c y->Q v bZ)->g b x lN H' fun dY H2=>te b dY H2 Q)(fin:∀ vs ys H',aD H1 H'->H' D=some (.lst vs)->bw (R' H') vs ys->bw F bs ys->End H'):
   ∃ W:Nat->Nat->Hp->Prop,(∃ m,W 0 m (upd H1 D (.lst [])))/\∀ b,vN (xY K a) (g b) (DR) (oR D (te b)) lN End W :=
 Ce (xs:=xs) (λi H'=>∃ zs ys,cW H1 H' D zs/\zs.length<=i/\bw (R' H') zs ys/\bw F (bs.take i) ys) ⟨[],[],cW.start hD,cJ _,.nil,.nil⟩ (λi H' _ hz=>by obtain ⟨_,_,G,_⟩:=hz; exact aG.of (G.same _ _ hT)) (λH' hz=>by
   obtain ⟨zs,ys,G,_,pz,pf⟩:=hz;rw [pr.length,gU] at pf;exact fin zs ys H' G.same G.at' pz pf) (λi x H' hx hi hz b=>by
   have fW:=dZ;obtain ⟨zs,ys,G,lz,pz,pf⟩:=hz;obtain ⟨c,hc,rc⟩:=dM pr hx;refine turn i x c H' hc rc G.same b _ (λv bZ y s r f=>?_);refine ⟨zs,(G.more s).at',by omega,nx hi ⟨zs++[v],ys++[y],(G.more s).put hD v,by rw [cQ]; simp; omega,?_,by rw [dI,hc]; exact fY pf (.cons f .nil)⟩⟩
   exact fY (bG (λ_ _ z=>Ax ⟨_,(G.more s).at'⟩ (mono s z)) pz) (.cons (Ax ⟨_,(G.more s).at'⟩ r) .nil))
def m9(ks:List aP)(n:Str):Option aP:=ks.find? λk=>decide (k.name=n)
def iK(ks:List aP)(h:aP):aP:=(m9 ks h.name).getD h
def iC(hs:List aP)(k:aP):Bool:=!decide (k.name∈hs.map aP.name)
structure zf(hs ks ms:List aP):Prop where
 ex:∃ first,ms=first++ks.filter (iC hs)/\bw (λh m=>qj h (iK ks h) m) hs first
theorem agm{aJ bO:Type}{F:aJ->bO->Prop}(u:∀ a b c,F a b->F a c->b=c):∀{l:List aJ}{m m':List bO},bw F l m->bw F l m'->m=m'
 | _,_,_,.nil,.nil=>rfl
 | _,_,_,.cons h r,.cons h' r'=>by obtain rfl:=u _ _ _ h h';exact fG (_ :: ·) (agm u r r')
variable{ks ms:List aP}
theorem zf.uniq(a:zf hs ks ms)(b:zf hs ks mO):ms=mO:=by obtain ⟨f,e,p⟩:=a.ex;obtain ⟨f',e',p'⟩:=b.ex;rw [e,e',agm (F:=λh m=>qj h (iK ks h) m) (λ_ _ _ x y=>x.uniq y) p p']
structure Jv(hs ks:List aP):Prop where
 l1:hs.length<=6
 l2:ks.length<=6
 n1:∀ h∈hs,dG h.name
 n2:∀ h∈ks,dG h.name
 d2:(ks.map aP.name).Nodup
 runs:∀ h∈hs,ZJ h.runs (iK ks h).runs
def uw(hs ks:List aP):Bool:=hs.all λh=>vH h (iK ks h)
theorem alJ(ft:Jv hs ks)(hm:h∈hs):dG (iK ks h).name:=by unfold iK;cases z:m9 ks h.name with| none=>exact ft.n1 h hm| some k=>exact ft.n2 k (XJ z)
theorem apm(p:bw (λh m=>vH h (iK ks h)=true/\qj h (iK ks h) m) hs ms):uw hs ks=true:=by unfold uw;induction p with| nil=>rfl| cons h _ ih=>rw [List.all_cons,h.1,ih]; rfl
def Uj(NM:au):Sp:=λvs H Q E=>∃(x y:V)(hs ks:List aP)(ls ls':List bH),vs=[x,y]/\iI H x hs ls/\iI H y ks ls'/\Jv hs ks/\(uw hs ks=true->∀(z:V)(ms:List aP)(H':Hp),mj H' z ms->zf hs ks ms->aD H H'->Q z H')/\(uw hs ks=false->∀ H',aD H H'->E (.ref NM) none H')
def mX(H:Hp)(kv:Key × V)(k:aP):Prop:=kv.1=.inr k.name/\iG H kv.2 k
variable{H':Hp}
theorem mX.ts{k:aP}(h:mX H kv k)(s:cN H H'):mX H' kv k:=⟨h.1,h.2.ts s⟩
variable{kvs:List (Key × V)}
theorem aaK(p:bw (mX H) kvs ks):kvs.map (·.1)=(ks.map aP.name).map cB:=by induction p with| nil=>rfl| cons h _ ih=>rw [eV,eV,eV,h.1,ih]
theorem Vm(p:bw (mX H) kvs ks)(n:Str):(m9 ks n=none->dW kvs (.inr n)=none)/\∀ k,m9 ks n=some k->∃ v,dW kvs (.inr n)=some v/\iG H v k:=by induction p with| nil=>exact ⟨λ_=>rfl,λk e=>by cases e⟩| @cons kv k kvs ks h _ ih =>unfold m9 at ih |-;by_cases e:k.name=n;have e1:kv.1=cB n:=(by rw [h.1,e]);rw [su e1,agi (by simpa using e)];exact ⟨(λz=>by cases z),λk' z=>by cases z; exact ⟨_,rfl,h.2⟩⟩;rw [sy (λz=>e (rY (h.1.symm.ao z))),aaX (by simpa using e)];exact ih
theorem Jc(n:Str):∀ ns:List Str,((ns.map Ie).any λe=>oW e (.str n))=decide (n∈ns)
 | []=>by simp
 | m :: ns=>by rw [eV,Ea,Jc n ns];have e:oW (.str m) (.str n)=decide (m=n):=(by rw [jP,decide_eq_true_iff];simp [oW]);rw [e,jP];simp only [Bool.or_eq_true,decide_eq_true_iff,dF];exact ⟨λz=>z.imp NT id,λz=>z.imp NT id⟩
theorem Gv{K:cH}{H:Hp}:∀ ns:List Str,uZ K H (ns.map V.str) (ns.map Ie)
 | []=>.nil
 | n :: ns=>.cons (.str n) (Gv ns)
theorem GZ:∀{ns:List Str},(∀ n∈ns,dG n)->qm (ns.map Ie)=true
 | [],_=>rfl
 | n :: ns,h=>by have z:=(h n dg).ok;have w:=GZ λm hm=>h m (dD _ hm);simp [pW,qm,z,w]
theorem Zw:fB ["one","other","twins","first"] ["one","other"] (bN Hf):=gA
theorem an3(F:gG K "merged_houses" Hf f fd)(T:Txt mg t8 t6 tR tL)(ais:bM P w K mg base (j7 P w) 3 Vu aa2 ["one","other"] (Vh NM))(aoo:mg "merged_house" = some (.ref Vu))(ajs:vY K (.ref Vu)=true)(agR:dw K aa2 ["one","other"] [])(anu:Cl P w K mg base 3 "house_names" ["ledger"] VJ):bM P w K mg base (j7 P w) 4 f fd ["one","other"] (Uj NM):=by refine F.okX Zw (λvs H Q E h=>?_) (λcdv A outer s H vs Q E hr h=>?_);obtain ⟨x,y,hs,ks,ls,ls',rfl,_⟩:=h;rfl;obtain ⟨x,y,hs,ks,ls,ls',rfl,la,lb,ft,q,qE⟩:=h;have lA:=la;obtain ⟨a,x1,x2,rfl,ha,⟨c,vh,rfl,hc,pc⟩,_⟩:=la;obtain ⟨b,y1,y2,rfl,hb,⟨d,vk,rfl,hd,pd⟩,_⟩:=lb;have fW:=dZ;have lc:=pc.length;have ld:=pd.length;have f1:=ft.l1;have f2:=ft.l2;refine ⟨_,(bf (pZ 2 Zw (ajN (bQ:=bN Hf) (own:=["house"]) (cap:=[]) (ix:=[]) rfl rfl gP (gj (pX cM (pV 1) aQ)) (λb=>(pH 0 ["house"])) (λb=>ig) (λb=>(pX cM (pV 0) aQ)) (λb=>(pV 0)))) (bf (akH Gh (i:=3) Zw.nd rfl rfl (bQ:=bN Hf) (own:=["house"]) (cap:=["twins"]) (ix:=[2]) rfl rfl gP (gj (pX cM (pV 0) aQ)) (λb=>(pH 0 ["house","twins"])) (λb=>ig) (λb=>(JQ ais hr rfl aoo ajs agR .nil aj4 (aq (pV 0) (aq (aln (kY hr) (pV 1) (pX cM (pV 0) aQ) (pV 0) ⟨rfl,rfl,rfl,rfl⟩) aC))))) (bC (cO (jx kE rfl T.tuple jy (aq (cC adY (pV 3) (jg (bQ:=bN Hf) (own:=["house"]) (cap:=["one"]) (ix:=[0]) rfl rfl gP (gj (pX cM (pV 1) aQ)) (λb=>(pH 0 ["house","one"])) (λb=>(Lx (gF (aiO hr.units) (pX cM (pV 0) aQ) (pC anu hr (aq (pV 1) aC)) (by with_unfolding_all rfl)))) (λb=>(pV 0)))) aC)))))),?_⟩;refine cL (aG.of hb) (i:=0) (v:=.ref d) (by rfl) ?_;refine ⟨d,rfl,⟨_,aG.of hd⟩,λD hD=>⟨WS vk.length (λi aj H'=>∃(kvs:List (Key × V))(o1:Option V),aj=[o1]/\H' D=some (.dK kvs)/\bw (mX H') kvs (ks.take i)/\aD H H'),CP ⟨[],none,rfl,aZ,.nil,(aD.refl H).upd hD⟩,λb=>Ik (xs:=vk) _ (λi aj H' _ hz=>by obtain ⟨_,_,_,_,_,s⟩:=hz; exact aG.of (s _ _ hd)) (fun aj H2 hz=>?_) (λi x aj H2 hx hi hz=>?_)⟩⟩;obtain ⟨kvs,o1,rfl,eD,pk,s2⟩:=hz;rw [ld,gU] at pk;refine cL (aG.of (s2 _ _ ha)) (i:=0) (v:=.ref c) (by rfl) ?_;refine ⟨c,rfl,⟨_,aG.of (s2 _ _ hc)⟩,λD2 hD2=>Qc (R:=iG H2) (R':=iG) (F:=λh m=>vH h (iK ks h)=true/\qj h (iK ks h) m) (λs r=>r.ts s.aK) (λe r=>r.ts (xq e)) hD2 (s2 _ _ hc) (by omega) (bG (λ_ _ z=>z.ts s2.aK) pc) (λi x h H3 hi rx s3 b Q1 q1=>?_) (λvs ms H3 s3 tM pv pf=>?_)⟩;have hm:=dB hi;obtain ⟨c1,b1,rfl,e1,rest⟩:=id rx;have e1':=s3 _ _ e1;have pQ:=s3 _ _ eD;have mG:=bG (λ_ _ z=>mX.ts z s3.aK) pk;refine ⟨D,rfl,.inl ⟨_,.inl pQ⟩,?_⟩;refine cL (aG.of e1') (i:=0) (v:=.str h.name) (by rfl) ?_;refine ⟨_,ji.k (k:=cB h.name) pQ,?_⟩;obtain ⟨t1,t2⟩:=Vm mG h.name;have tv:iG H3 ((dW kvs (cB h.name)).getD (.ref c1)) (iK ks h):=(by unfold iK;cases z:m9 ks h.name with| none=>rw [t1 z]; exact rx.ts s3.aK| some k =>obtain ⟨v,ev,hv⟩:=t2 k z;rw [ev]; exact hv);exact ⟨_,_,h,iK ks h,rfl,rx.ts s3.aK,tv,ft.n1 h hm,alJ ft hm,ft.runs h hm,(λlk z m H4 hz mh s4=>q1 z H4 m s4 hz ⟨lk,mh⟩),λlk H4 s4=>qE (IK.mpr ⟨h,hm,by rw [lk]; exact gO⟩) H4 ((s2.ao s3).ao s4)⟩;have S3:=s2.ao s3;have lp:=pf.length;have lv:=pv.length;refine cL (aG.of (S3 _ _ hb)) (i:=0) (v:=.ref d) (by rfl) ?_;refine ⟨d,rfl,⟨_,aG.of (S3 _ _ hd)⟩,λD3 hD3=>Q9 (R:=iG H3) (R':=iG) (F:=λ(k k':aP)=>k=k') (keep:=iC hs) (λs r=>r.ts s.aK) (λe r=>r.ts (xq e)) hD3 (S3 _ _ hd) (by omega) (bG (λ_ _ z=>z.ts S3.aK) pd) (λi x k H4 hi rx s4 b N Q1 n1 q1=>?_) (λws ms2 H4 s4 pQ pw pf2=>?_)⟩;obtain ⟨c1,b1,rfl,e1,rest⟩:=id rx;refine cL (aG.of (s4 _ _ e1)) (i:=0) (v:=.str k.name) (by rfl) ?_;refine ⟨_,hs,ls,rfl,(lA.ts (S3.ao s4).aK),ft.l1,λl5 H5 fl5 el5 s5=>?_⟩;refine ⟨.str k.name,(hs.map aP.name).map Ie,.str _,.lst (aY.of el5) (Gv _),(by have z:=(ft.n2 k (dB hi)).ok; simp [pW,z]),(by simp [rP]),GZ (λn hn=>by obtain ⟨h,hh,rfl⟩:=cG.mp hn; exact ft.n1 h hh),?_⟩;rw [Jc];have e:(true ^^ decide (k.name∈hs.map aP.name))=iC hs k:=(by unfold iC; cases decide (k.name∈hs.map aP.name) <;> rfl);rw [e];refine gB (λz=>?_) (λz=>?_);exact q1 z _ _ k s5 ((rx.ts s4.aK).ts s5.aK) rfl;exact n1 (IW.mpr z) _ s5;have ek2:ms2=ks.filter (iC hs):=(by have key:∀{l m:List aP},bw (λ(k k':aP)=>k=k') l m->m=l:=λz=>(by induction z with| nil=>rfl| cons h _ ih=>rw [ih,h]);exact key pf2);subst ek2;have lw:=pw.length;have lf:(ks.filter (iC hs)).length<=ks.length:=Gn _ _;refine ⟨D2,D3,vs,ws,rfl,rfl,s4 _ _ tM,pQ,by omega,λl fl=>?_⟩;have s5:aD H4 (upd H4 l (.lst (vs++ws))):=(aD.refl H4).upd fl;generalize eH5:upd H4 l (.lst (vs++ws))=H5 at s5;have el:H5 l=some (.lst (vs++ws)):=(by rw [<- eH5]; exact aZ);refine ⟨l,_,rfl,.inl ⟨aY.of el,λt1 gZ=>?_⟩⟩;have s6:aD H5 (upd H5 t1 (.tup (vs++ws))):=(aD.refl H5).upd gZ;have s46:=s5.ao s6;exact q (apm pf) _ (ms++ks.filter (iC hs)) _ ⟨t1,_,rfl,aZ,fY (bG (λ_ _ z=>(z.ts s4.aK).ts s46.aK) pv) (bG (λ_ _ z=>z.ts s46.aK) pw)⟩ ⟨⟨ms,rfl,bG (λ_ _ z=>z.2) pf⟩⟩ ((S3.ao s4).ao s46);obtain ⟨kvs,o1,rfl,eD,pk,s2⟩:=hz;obtain ⟨k,hki,hk⟩:=dM pd hx;obtain ⟨c1,b1,rfl,e1,rest⟩:=id hk;refine cL (aG.of (s2 _ _ e1)) (i:=0) (v:=.str k.name) (by rfl) ?_;have lk:=pk.length;rw [eY] at lk;refine ⟨kvs,cB k.name,eD,rfl,by omega,nxs hi ⟨dH kvs (.inr k.name) (.ref c1),_,rfl,aZ,?_,?_⟩⟩;have tt:cN H2 (upd H2 D (.dK (dH kvs (.inr k.name) (.ref c1)))):=λa ys e=>(by rw [bx (λz=>by rw [z,eD] at e; cases e)]; exact e);have no:cB k.name ∉ kvs.map (·.1):=λz=>(by rw [aaK pk] at z;obtain ⟨n,hn,e⟩:=cG.mp z;have en:n=k.name:=rY e;rw [LR] at hn;obtain ⟨j,hj,ej⟩:=Im.mp hn;rw [eY] at hj;rw [Lr] at ej;have g1:(ks.map aP.name)[j]?=some k.name:=(by rw [cT (by omega),ej,en]);have g2:(ks.map aP.name)[i]?=some k.name:=(by rw [cX,hki]; rfl);have:=(Pn (by omega) ft.d2).mp (g1.ao g2.symm);omega);rw [K02.Bm no,dI,hki];rw [K02.Bm no] at tt;exact fY (bG (λ_ _ z=>z.ts tt) pk) (.cons ⟨rfl,(hk.ts s2.aK).ts tt⟩ .nil);intro b0 o0 e0;rw [bx (cg e0 hD)];exact s2 _ _ e0
theorem Zk{R:V->aJ->Prop}{R':Hp->V->bO->Prop}{F:aJ->bO->Prop}{keep:aJ->Bool}{bs:List aJ}(mono:∀{H H':Hp}{v b},aD H H'->R' H v b->R' H' v b)(Ax:∀{H:Hp}{o:HO}{v b},(∃ zs,H D=some (.lst zs))->R' H v b->R' (upd H D o) v b)(hD:H1 D=none)(hT:H1 a=some (.lst xs))(few:xs.length<=1000)(pr:bw R xs bs)(turn:∀(i:Nat)(x:V)(c:aJ)(H':Hp),bs[i]?=some c->R x c->aD H1 H'->∀ b (N:Hp->Prop) (Q:VK),(keep c=false->∀ bZ,aD H' bZ->N bZ)->(keep c=true->∀ v bZ y,aD H' bZ->R' bZ v y->F c y->Q v bZ)->g b x lN H' fun dY H2=>tt b dY H2 λcc H3=>if cc=true then te b dY H3 Q else N H3)(fin:∀ vs ys H',aD H1 H'->H' D=some (.lst vs)->bw (R' H') vs ys->bw F (bs.filter keep) ys->End H'):
   ∃ W:Nat->Nat->Hp->Prop,(∃ m,W 0 m (upd H1 D (.lst [])))/\∀ b,vN (BZ K a) (g b) (tt b) (oR D (te b)) lN End W :=
 Ke (xs:=xs) (λi H'=>∃ zs ys,cW H1 H' D zs/\zs.length<=i/\bw (R' H') zs ys/\bw F ((bs.take i).filter keep) ys) ⟨[],[],cW.start hD,cJ _,.nil,.nil⟩ (λi H' _ hz=>by obtain ⟨_,_,G,_⟩:=hz; exact aY.of (G.same _ _ hT)) (λH' hz=>by
   obtain ⟨zs,ys,G,_,pz,pf⟩:=hz;rw [pr.length,gU] at pf;exact fin zs ys H' G.same G.at' pz pf) (λi x H' hx hi hz b=>by
   have fW:=dZ;obtain ⟨zs,ys,G,lz,pz,pf⟩:=hz;obtain ⟨c,hc,rc⟩:=dM pr hx;refine turn i x c H' hc rc G.same b _ _ (λk bZ s=>nx hi ⟨zs,ys,G.more s,by omega,bG (λ_ _ z=>mono s z) pz,by rw [M9 hc,k,aV gO,yJ]; exact pf⟩) (λk v bZ y s r f=>?_);refine ⟨zs,(G.more s).at',by omega,nx hi ⟨zs++[v],ys++[y],(G.more s).put hD v,by rw [cQ]; simp; omega,?_,by rw [M9 hc,k,bh rfl]; exact fY pf (.cons f .nil)⟩⟩
   exact fY (bG (λ_ _ z=>Ax ⟨_,(G.more s).at'⟩ (mono s z)) pz) (.cons (Ax ⟨_,(G.more s).at'⟩ r) .nil))
structure xR(ls ls' ms:List bH):Prop where
 mem:∀ l,l∈ms↔l∈ls\/l∈ls'
 rise:(ms.map cu).Pairwise (λa b=>jE a b=true)
variable{ms mO:List bH}
theorem ah2(h:(ms.map cu).Pairwise (λa b=>jE a b=true))(h':(mO.map cu).Pairwise (λa b=>jE a b=true))(e:∀ l,l∈ms↔l∈mO):ms=mO:=by rw [jc] at h h';have nd:∀{l:List bH},l.Pairwise (λa b=>jE a.1 b.1=true)->l.Nodup:=λh=>iT.mpr (h.imp λ{a b} h e=>by rw [e,Kc.qg] at h; cases h);exact ((ad1 (nd h) (nd h')).mpr e).eq_of_pairwise (λa b _ _ h1 h2=>by have z:=Kc.ao _ _ _ h1 h2; rw [Kc.qg] at z; cases z) h h'
variable{ls':List bH}
theorem xR.uniq{ls:List bH}(a:xR ls ls' ms)(b:xR ls ls' mO):ms=mO:=ah2 a.rise b.rise λl=>(a.mem l).ao (b.mem l).symm
structure Gg(ls ls':List bH):Prop where
 l1:ls.length<=24
 l2:ls'.length<=24
 good:∀ l∈ls++ls',dG l.1.1/\dG l.1.2
def pD(ls:List bH):Bool:=ls.all λa=>ls.all λb=>!decide (a.1=b.1) || decide (a=b)
theorem Vf{ls:List bH}(h:pD ls=true):∀ a∈ls,∀ b∈ls,a.1=b.1->a=b:=λa ha b hb e=>by
 have z:=fX.mp (fX.mp h a ha) b hb;simpa [e] using z
theorem Tt{ls:List bH}{a b:bH}(ha:a∈ls)(hb:b∈ls)(e:a.1=b.1)(n:a≠b):pD ls=false:=by cases z:pD ls with| false=>rfl| true=>exact bK (Vf z a ha b hb e) n
theorem ady(a b:bH):oW (uT a) (uT b)=decide (a=b):=by obtain ⟨⟨a1,a2⟩,a3,a4⟩:=a;obtain ⟨⟨b1,b2⟩,b3,b4⟩:=b;rw [jP,decide_eq_true_iff];cases a4 <;> cases b4 <;> simp [uT,JM,oW,Lh,and_assoc]
variable{l:bH}
theorem Ek(g:dG l.1.1/\dG l.1.2):oY (uT l)=true:=by have z1:=g.1.ok;have z2:=g.2.ok;unfold oY uT;cases l.2.2 <;> simp [JM,pW,qm,z1,z2,rP,sU]
theorem Ht(h:jw H v l):Dp K H v (uT l):=by obtain ⟨a1,rfl,e1⟩:=h;refine .tup (aG.of e1) (.cons (.str _) (.cons (.str _) (.cons (.int _) (.cons ?_ .nil))));cases l.2.2 with| none=>exact .non| some i=>exact .int i
def zZ(H:Hp)(kv:List Key × V)(l:bH):Prop:=kv.1=kP l.1/\jw H kv.2 l
theorem zZ.ts(h:zZ H kv l)(s:cN H H'):zZ H' kv l:=⟨h.1,h.2.ts s⟩
theorem WK{a b:Str × Str}(h:kP a=kP b):a=b:=by unfold kP at h;simp only [Pa,Sum.inr.injEq,and_true] at h;exact wz h.1 h.2
variable{kvs:List (List Key × V)}
theorem apR(p:bw (zZ H) kvs ms):kvs.map (·.1)=(ms.map cu).map kP:=by induction p with| nil=>rfl| cons h _ ih=>rw [eV,eV,eV,h.1,ih]
theorem abj(p:bw (zZ H) kvs ms)(k:Str × Str):(k ∉ ms.map cu->dW kvs (kP k)=none)/\(k∈ms.map cu->∃ v l,dW kvs (kP k)=some v/\l∈ms/\l.1=k/\jw H v l):=by induction p with| nil=>exact ⟨λ_=>rfl,λz=>by cases z⟩| @cons kv l kvs ms h _ ih =>by_cases e:l.1=k;have e1:kv.1=kP k:=(by rw [h.1,e]);rw [su e1];exact ⟨λz=>bK (by rw [eV,e]; exact dg) z,λ_=>⟨_,l,rfl,dg,e,h.2⟩⟩;rw [sy (λz=>e (WK (h.1.symm.ao z)))];refine ⟨λz=>ih.1 λy=>z (dD _ y),λz=>?_⟩;rcases dF.mp z with y | y;exact bK y.symm e;obtain ⟨v,l',a,b,c⟩:=ih.2 y;exact ⟨v,l',a,dD _ b,c⟩
def YW(NM:au):Sp:=λvs H Q E=>∃(x y:V)(hs ks:List aP)(ls ls':List bH),vs=[x,y]/\iI H x hs ls/\iI H y ks ls'/\Gg ls ls'/\(pD (ls++ls')=true->∀(z:V)(ms:List bH)(H':Hp),vJ H' z ms->xR ls ls' ms->aD H H'->Q z H')/\(pD (ls++ls')=false->∀ H',aD H H'->E (.ref NM) none H')
theorem Q5:∀{ms:List bH},(ms.map cu).Nodup->∀{a b:bH},a∈ms->b∈ms->a.1=b.1->a=b
 | m :: ms,nd,a,b,ha,hb,e=>by rw [eV,uG] at nd;rcases dF.mp ha with x | x <;> rcases dF.mp hb with y | y;rw [x,y];exact bK (by rw [<- x,e]; exact iz y) nd.1;exact bK (by rw [<- y,<- e]; exact iz x) nd.1;exact Q5 nd.2 x y e
theorem agB{N:List Str}{qual:Str}{scope:Scope}{cd:aB}{A:iw}{outer:List Env}{s:aH}{E:XK}:PassesOwn (aR P w) (wK (j7 P w) P w K mg base N qual scope f cd A outer s H E).A (wK (j7 P w) P w K mg base N qual scope f cd A outer s H E).env (wK (j7 P w) P w K mg base N qual scope f cd A outer s H E).xe:=PassesOwn.leaving
theorem Yx:fB ["one","other","letters","letter"] ["one","other"] (bN Qf):=gA
theorem anv(F:gG K "merged_letters" Qf f fd)(xM:Dg K NM [.type "ValueError",.type "Exception",.type "BaseException",.type "object"] "ValueError.__new__" = true)(mM:mg "NoMerge" = some (.ref NM))(T:Txt mg t8 t6 tR tL):bM P w K mg base (j7 P w) 1 f fd ["one","other"] (YW NM):=by
 refine F.okX Yx (λvs H Q E h=>?_) (λcdv A outer s H vs Q E hr h=>?_)
 . obtain ⟨x,y,hs,ks,ls,ls',rfl,_⟩:=h;rfl
 . obtain ⟨x,y,hs,ks,ls,ls',rfl,⟨a,x1,x2,rfl,ha,_,⟨c,vl,rfl,hc,pc⟩⟩,⟨b,y1,y2,rfl,hb,_,⟨d,vm,rfl,hd,pd⟩⟩,ft,q,qE⟩:=h;have fW:=dZ;have lc:=pc.length;have ld:=pd.length;have f1:=ft.l1;have f2:=ft.l2;refine ⟨_,(bf (pZ 2 Yx aeT) (bf (jd agB rfl (gj (cC pA (pX cM (pV 0) aQ) (pX cM (pV 1) aQ))) (pY 3 Yx) (bC (gD (gF (Ca hr.units) (apF (kY hr) (pV 2) (jZ mZ (pV 3) mC (jk aQ)) (pV 3) ⟨rfl,rfl,rfl,rfl⟩) (pV 3) (cV _)) (bC (V4 Gh xM rfl mM (aq iU aC))) gC))) (bC (cO (jx kE rfl T.tuple jy (aq (jg (bQ:=bN Qf) (own:=["pair"]) (cap:=["letters"]) (ix:=[2]) rfl rfl gP (uI (cR (acN rfl) rfl T.sorted yQ (aq (pV 2) aC))) (λb=>(pH 0 ["pair","letters"])) (λb=>ig) (λb=>(vo (kY hr) (pV 1) (pV 0) (λ_ _=>rfl)))) aC)))))),?_⟩;refine λD hD=>?_
   have s0:aD H (upd H D (.dT [])):=(aD.refl H).upd hD;generalize eH0:upd H D (.dT [])=H0 at s0;have eD0:H0 D=some (.dT []):=by rw [<- eH0]; exact aZ
   refine cL (aG.of (s0 _ _ ha)) (i:=1) (v:=.ref c) (by rfl) ?_;refine cL (aG.of (s0 _ _ hb)) (i:=1) (v:=.ref d) (by rfl) ?_;refine ⟨c,d,vl,vm,rfl,rfl,s0 _ _ hc,s0 _ _ hd,by omega,λp H1 hp s1=>?_⟩;have S1:=s0.ao s1;have pp:bw (jw H1) (vl++vm) (ls++ls'):=bG (λ_ _ z=>z.ts S1.aK) (fY pc pd);generalize vl++vm=us at hp pp;have ahJ:(ls++ls').length<=48:=by rw [cQ]; omega
   have good:=ft.good;generalize akS:ls++ls'=all at pp ahJ good qE q;have lp:=pp.length
   refine ⟨p,rfl,⟨_,aG.of hp⟩,nu (xs:=us) (λi aj H'=>kJ λ(kvs:List (List Key × V))(ms:List bH)(o3:Option V)=>uV (aj=[aM a,aM b,aM D,o3]) (H' D=some (.dT kvs)) (bw (zZ H') kvs ms) ((ms.map cu).Nodup) ((∀ l,l∈ms↔l∈all.take i)) (ms.length<=i) (aW D H1 H')) ⟨[],[],none,rfl,s1 _ _ eD0,.nil,.nil,λl=>by simp,bB _,λb o _ e=>e⟩ (λi aj H' _ hz=>by
     obtain ⟨_,_,_,_,_,_,_,_,_,s⟩:=hz
     exact aG.of (s _ _ (λz=>by rw [z,s1 _ _ eD0] at hp; cases hp) hp)) (λi v aj H2 hv hz=>?_) (fun aj H2 hz=>?_)⟩
   . obtain ⟨kvs,ms,o3,rfl,eD,pk,nd,mm,lm,sB⟩:=hz;obtain ⟨l,hl,hat⟩:=dM pp hv;have t12:cN H1 H2:=λb xs e=>sB b _ (λz=>by rw [z,s1 _ _ eD0] at e; cases e) e
     have lm':=dB hl;have hi:i<all.length:=(mK.mp hl).1;obtain ⟨a1,rfl,e1⟩:=hat.ts t12;refine ⟨D,rfl,.inr ⟨_,.inl eD⟩,?_⟩;refine ⟨a1,_,rfl,e1,λp2 H3 hp2 s3=>?_⟩;have YS:lE [V.str l.1.1,V.str l.1.2,V.int l.2.1,vW l.2.2] none (some 2)=(kP l.1).map kV:=rfl;rw [YS] at hp2;have hat3:jw H3 (.ref a1) l:=⟨a1,rfl,s3 _ _ e1⟩;have mG:=bG (λ_ _ z=>zZ.ts z s3.aK) pk;have pQ:=s3 _ _ eD;have lk:=pk.length;obtain ⟨v1,v2⟩:=abj mG l.1;have sB3:aW D H1 H3:=λb o n e=>s3 _ _ (sB b o n e)
     refine ⟨kvs,kP l.1,p2,pQ,rfl,hp2,by omega,λv ev=>?_,λev=>?_⟩
     . have hk:l.1∈ms.map cu:=Nb λz=>by rw [v1 z] at ev; cases ev
       obtain ⟨v',l',e2,ml,el,lat⟩:=v2 hk;rw [ev] at e2; cases e2;have ml':=sX ((mm l').mp ml);refine ⟨_,_,Ht lat,Ht hat3,Ek (good l' ml'),Ek (good l lm'),?_⟩;rw [ady];by_cases el2:l'=l
       case neg =>
         rw [iD el2];exact ⟨by show 1<=aL; omega,qE (Tt ml' lm' el el2) _ λb o e=>sB3 b o (cg e hD) (S1 _ _ e)⟩
       subst el2;rw [fj rfl];refine ⟨kvs,ms,_,rfl,pQ,mG,nd,λx=>?_,by omega,sB3⟩;rw [mm,dI,hl,fQ];exact ⟨.inl,λz=>z.elim id λz=>by rw [gY.mp z]; exact (mm l').mp ml⟩
     . have nk:l.1 ∉ ms.map cu:=λz=>by obtain ⟨v',l',e2,_⟩:=v2 z; rw [ev] at e2; cases e2
       have tt:cN H3 (upd H3 D (.dT (dH kvs (kP l.1) (.ref a1)))):=λb ys e=>by rw [bx (λz=>by rw [z,pQ] at e; cases e)]; exact e
       refine ⟨_,_,Ht (hat3.ts tt),Ht (hat3.ts tt),Ek (good l lm'),Ek (good l lm'),?_⟩;rw [SeqAt.eqv_refl _ (pU.mp (Ek (good l lm'))).1];refine ⟨_,ms++[l],_,rfl,aZ,?_,?_,λx=>?_,by rw [cQ]; simp; omega,λb o n e=>by rw [bx n]; exact sB3 b o n e⟩
       . rw [L2.Bm _ ev] at tt |-;exact fY (bG (λ_ _ z=>zZ.ts z tt) mG) (.cons ⟨rfl,hat3.ts tt⟩ .nil)
       . rw [dJ,vA];exact ⟨nd,by simp,λx hx y hy e=>nk (by have:y=l.1:=(by simpa using hy); rw [<- this,<- e]; exact hx)⟩
       . rw [fQ,mm,dI,hl,fQ]; rfl
   . obtain ⟨kvs,ms,o3,rfl,eD,pk,nd,mm,lm,sB⟩:=hz;rw [lp,gU] at mm;have nD:H D=none:=hD;have S2:aD H H2:=λb o e=>sB b o (cg e nD) (S1 _ _ e)
     have lk:=pk.length;refine ⟨D,kvs,ms.map cu,rfl,eD,apR pk,by rw [aU]; omega,λl as ks' fl pm pw la at'=>?_⟩;have s4:aD H2 (upd H2 l (.lst (as.map V.ref))):=(aD.refl H2).upd fl;generalize eH4:upd H2 l (.lst (as.map V.ref))=H4 at s4;have e4:H4 l=some (.lst (as.map V.ref)):=by rw [<- eH4]; exact aZ
     have lk':ks'.length=ms.length:=by rw [pm.length_eq,aU]
     have pas:bw (λ(x:V)(k:Str × Str)=>∃ a,x=.ref a/\H4 a=some (.tup ((kP k).map kV))) (as.map V.ref) ks':=by
       have key:∀(as:List au)(ks:List (Str × Str)),as.length=ks.length->(∀(i:Nat)(a:au)(k:Str × Str),as[i]?=some a->ks[i]?=some k->H4 a=some (.tup ((kP k).map kV)))->bw (λ(x:V)(k:Str × Str)=>∃ a,x=.ref a/\H4 a=some (.tup ((kP k).map kV))) (as.map V.ref) ks:=by
         intro as
         induction as with
         | nil=>intro ks hl _; rw [Bg hl.symm]; exact .nil
         | cons a as ih =>
           intro ks hl h;cases ks with
           | nil=>simp at hl
           | cons k ks=>exact .cons ⟨a,rfl,h 0 a k rfl rfl⟩ (ih ks (by simpa using hl) λi a' k' h1 h2=>h (i+1) a' k' (by simpa using h1) (by simpa using h2))
       exact key as ks' la λi a k h1 h2=>s4 _ _ (at' i a k h1 h2)
     refine ⟨l,rfl,⟨_,aY.of e4⟩,λD2 hD2=>Zk (R':=jw) (F:=λ(k:Str × Str)(l:bH)=>l∈ms/\l.1=k) (keep:=λ_=>true) (λs r=>r.ts s.aK) (λe r=>r.ts (xq e)) hD2 e4 (by rw [aU,la]; omega) pas (λi x k H5 hi rx s5 b N Q1 n1 q1=>?_) (λvs mO H5 s5 tM pv pf=>?_)⟩
     . obtain ⟨a5,rfl,ea5⟩:=rx;have oH:=bG (λ_ _ z=>zZ.ts z (s4.ao s5).aK) pk;have km:k∈ms.map cu:=pm.mem_iff.mp (dB hi);obtain ⟨v,l',ev,ml,el,lat⟩:=(abj oH k).2 km;refine ⟨D,v,rfl,ev ▸ ji.t ((s4.ao s5) _ _ eD) (s5 _ _ ea5),?_⟩;exact q1 rfl v H5 l' (aD.refl _) lat ⟨ml,el⟩
     . have ef:ks'.filter (λ_=>true)=ks':=Xf.mpr λ_ _=>rfl
       rw [ef] at pf
       have key:∀{ks:List (Str × Str)}{m:List bH},bw (λ(k:Str × Str)(l:bH)=>l∈ms/\l.1=k) ks m->m.map cu=ks/\∀ l∈m,l∈ms:=λz=>by
         induction z with
         | nil=>exact ⟨rfl,λl hl=>by cases hl⟩
         | cons h _ ih =>
           refine ⟨by rw [eV,h.2,ih.1],λl hl=>?_⟩;rcases dF.mp hl with z | z
           . rw [z]; exact h.1
           . exact ih.2 l z
       obtain ⟨k1,k2⟩:=key pf
       have on:pD all=true:=by
         unfold pD;refine fX.mpr λa ha=>fX.mpr λb hb=>?_
         by_cases e:a.1=b.1
         . have z:a=b:=Q5 nd ((mm a).mpr ha) ((mm b).mpr hb) e;simp [z]
         . simp [e]
       refine ⟨D2,vs,rfl,.inl ⟨aY.of tM,λt1 gZ=>?_⟩⟩;have s6:aD H5 (upd H5 t1 (.tup vs)):=(aD.refl H5).upd gZ;refine q on _ mO _ ⟨t1,vs,rfl,aZ,bG (λ_ _ z=>z.ts s6.aK) pv⟩ ⟨λx=>?_,by rw [k1]; exact pw⟩ ((S2.ao s4).ao (s5.ao s6));rw [<- fQ,akS,<- mm];constructor
       . exact k2 x
       . intro hx;have:x.1∈mO.map cu:=by rw [k1]; exact pm.mem_iff.mpr (iz hx)
         obtain ⟨y,hy,e⟩:=cG.mp this;have:y=x:=Vf on y ((mm y).mp (k2 y hy)) x ((mm x).mp hx) e;rw [<- this]; exact hy
structure yu(l:bH):Prop where
 sent:dG l.1.1
 taken:dG l.1.2
 least:1<=l.2.1
 most:∀ m,l.2.2=some m->l.2.1<=m
structure K5(h:aP):Prop where
 name:dG h.name
 wide:h.low<=h.high
 bV:0<=h.bV
 few:h.runs.length<=25
 ne:∀ r∈h.runs,r≠[]
 run:∀ r∈h.runs,r.length<=25
 names:∀ r∈h.runs,∀ x∈r,dG x.1
structure Ask(hs:List aP)(ls:List bH):Prop where
 lo:1<=hs.length
 lh:hs.length<=25
 nd:(hs.map aP.name).Nodup
 ll:ls.length<=25
 rise:(ls.map cu).Pairwise (λa b=>jE a b=true)
 hs:∀ h∈hs,K5 h
 lk:∀ l∈ls,yu l
theorem Ask.ls{ls:List bH}(h:Ask hs ls):∀ l∈ls,dG l.1.1/\dG l.1.2:=λl hl=>⟨(h.lk l hl).sent,(h.lk l hl).taken⟩
def vO(h:aP):Bool:=h.runs.all λr=>qK (r.map iY)
theorem K5.good(a:K5 h)(r:vO h=true):uH h:=⟨a.name,a.wide,a.bV,a.few,λx hx=>⟨a.ne x hx,a.run x hx,a.names x hx,ag5 (fX.mp r x hx)⟩⟩
def tK(hs:List aP)(l:bH):Bool:=match lM (bT hs) l.1.1,lM (bT hs) l.1.2 with
 | some a,some b=>!decide (a=b)
 | _,_=>false
def qd(ms:List aP)(ns:List bH):Bool:=ms.all vO && (decide (bA ms).Nodup && (decide ((bA ms).length<=24) && (decide (ms.length<=6) && (decide (ns.length<=24) && ns.all (tK ms)))))
def Ld:Sp:=λvs H Q _=>∃ i:Int,vs=[.int i]/\Q (.bl true) H
def Js:Sp:=λvs H Q _=>∃ z:Str,vs=[.str z]/\dG z/\∀ H',aD H H'->Q (.bl true) H'
def EY:Sp:=λvs H Q _=>∃(a:au)(xs:List V),vs=[.ref a,.int (xs.length:Int)]/\H a=some (.tup xs)/\Q (.bl true) H
def Ul:Sp:=λvs H Q _=>∃(x:V)(r:Row),vs=[x]/\gW H x r/\dG r.1/\∀ H',aD H H'->Q (.bl true) H'
def Vz:Sp:=λvs H Q _=>mz λ(n:Str)(lo hi d:Int)=>jt (vs=[.str n,.int lo,.int hi,.int d]) (dG n) (lo<=hi) (0<=d) (∀ H',aD H H'->Q (.bl true) H')
def Uz:Sp:=λvs H Q _=>v9 λ(x:V)(r:List Row)=>uf (vs=[x]) (mq H x r) (r≠[]) (r.length<=25) ((∀ y∈r,dG y.1)) (∀ H',aD H H'->Q (.bl (qK (r.map iY))) H')
def Zi:Sp:=λvs H Q _=>∃(x:V)(h:aP),vs=[x]/\iG H x h/\K5 h/\∀ H',aD H H'->Q (.bl (vO h)) H'
def V6:Sp:=λvs H Q _=>v9 λ(x:V)(hs:List aP)=>uV (vs=[x]) (mj H x hs) (1<=hs.length) (hs.length<=25) ((hs.map aP.name).Nodup) ((∀ h∈hs,K5 h)) (∀ H',aD H H'->Q (.bl (decide (hs.length<=6) && (hs.all vO && (decide (bA hs).Nodup && decide ((bA hs).length<=24))))) H')
def Xh:Sp:=λvs H Q _=>∃(x:V)(l:bH),vs=[x]/\jw H x l/\yu l/\∀ H',aD H H'->Q (.bl true) H'
def Z6:Sp:=λvs H Q _=>mz λ(x y:V)(ls:List bH)(hs:List aP)=>QA8 (vs=[x,y]) (vJ H x ls) (mj H y hs) (En hs) ((∀ l∈ls,yu l)) ((ls.map cu).Pairwise (λa b=>jE a b=true)) (ls.length<=25) (∀ H',aD H H'->Q (.bl (decide (ls.length<=24) && ls.all (tK hs))) H')
def Y4:Sp:=λvs H Q _=>kJ λ(x:V)(ms:List aP)(ns:List bH)=>wB (vs=[x]) (iI H x ms ns) (Ask ms ns) (∀ H',aD H H'->Q (.bl (qd ms ns)) H')
theorem all_true(l:List aJ):(l.map λ_=>true).all id=true:=fX.mpr λx hx=>by
 obtain ⟨_,_,rfl⟩:=cG.mp hx;rfl
theorem aiF(F:gG K "is_whole" Wq f fd)(T:Txt mg t8 t6 tR tL):bM P w K mg base bR 1 f fd ["thing"] Ld:=by refine F.ok ahQ (λvs H Q E h=>?_) (λcdv A outer s H vs Q E hr h=>?_);obtain ⟨i,rfl,_⟩:=h;rfl;obtain ⟨i,rfl,q⟩:=h;refine ⟨_,bC (cO (xG (cR CQ rfl T.uQ uF (aq (pV 0) (aq (Aj (v:=.ty "int") rfl T.int Vn rfl) aC))) (Ai (agJ (cR CQ rfl T.uQ uF (aq (pV 0) (aq (Aj (v:=.ty "bool") rfl T.bool PyProof.Rows.boot_bool rfl) aC))))))),?_⟩;refine ⟨.int i,_,_,_,rfl,.int i,rfl,?_⟩;exact ⟨.int i,_,_,_,rfl,.int i,rfl,q⟩
theorem aoM(F:gG K "is_name" RD f fd)(T:Txt mg t8 t6 tR tL):bM P w K mg base bR 1 f fd ["thing"] Js:=by refine F.ok al2 (λvs H Q E h=>?_) (λcdv A outer s H vs Q E hr h=>?_);obtain ⟨z,rfl,_⟩:=h;rfl;obtain ⟨z,rfl,g,q⟩:=h;have fW:=dZ;have lo:=g.lo;have hi:=g.hi;refine ⟨_,bf (gD (uo (kZ (jO (cR CQ rfl T.uQ uF (aq (pV 0) (aq (Aj (v:=.ty "str") rfl T.str PyProof.Rows.boot_str rfl) aC))))) (pw_or1 (kZ (agh oLe oLe aQ (cR anj rfl T.len iM (aq (pV 0) aC)) (nY (v:=.int 8) rfl T.most ⟨_,rfl⟩))))) (bC (cO mF)) gC) (bC (cO (cR (Bp rfl) rfl T.all Bx (aq (jg (bQ:=bN RD) (own:=["sign"]) (cap:=[]) (ix:=[]) rfl rfl gP (aiL (pV 0)) (λb=>pH 0 ["sign"]) (λb=>ig) (λb=>anU aaW aaW iU (pV 0) iU)) aC)))),?_⟩;refine ⟨.str z,_,_,_,rfl,.str z,rfl,?_⟩;refine ⟨z,rfl,by omega,?_⟩;refine gB (λ_=>?_) (λh1=>bK (fj (show (1:Int)<=(z.length:Int) by omega)) h1);refine gB (λh2=>by rw [fj (show (z.length:Int)<=8 by omega)] at h2; cases h2) (λ_=>?_);refine ⟨z,rfl,λD hD=>alu (λi H'=>cW H H' D ((z.cps.toList.take i).map λ_=>V.bl true)) (cW.start hD) (λH' G=>?_) (λi c H' hc hi G b=>?_)⟩;refine ⟨D,z.cps.toList.map λ_=>true,rfl,aY.of (by rw [G.at',L2.yw (by simp),jM]; rfl),?_⟩;rw [all_true];exact q H' G.same;have hl:=aky c;have sz:z.cps.size<=aL:=(by have:z.cps.size=z.length:=rfl; omega);obtain ⟨c1,c2⟩:=pU.mp (g.all c (dB (afx hc)));refine gB (λ_=>?_) (λh3=>bK (hl.1.ao c1) h3);refine ⟨_,G.at',aoL hi sz,?_⟩;have e:(!decide (("z" : Str).cps.toList<(⟨#[c]⟩:Str).cps.toList))=true:=hl.2.ao c2;show Nx _ _ _ (upd H' D (.lst (_++[V.bl (!decide (("z" : Str).cps.toList<(⟨#[c]⟩:Str).cps.toList))])));rw [e];refine nx hi ?_;show cW H _ D ((z.cps.toList.take (i+1)).map λ_=>V.bl true);rw [alD (afx hc)];exact G.put hD _
theorem agS(F:gG K "has_parts" WW f fd)(T:Txt mg t8 t6 tR tL):bM P w K mg base bR 1 f fd ["thing","many"] EY:=by refine F.ok ajb (λvs H Q E h=>?_) (λcdv A outer s H vs Q E hr h=>?_);obtain ⟨a,xs,rfl,_⟩:=h;rfl;obtain ⟨a,xs,rfl,ha,q⟩:=h;refine ⟨_,(bC (cO (xG (cR CQ rfl T.uQ uF (aq (pV 0) (aq (Aj (v:=.ty "tuple") rfl T.tuple jy rfl) aC))) (Ai (rW oEq (cR jC rfl T.len iM (aq (pV 0) aC)) (pV 1) (cV _)))))),?_⟩;refine ⟨.ref a,_,_,_,rfl,.tup ha,rfl,?_⟩;refine ⟨a,xs,rfl,.inr (aG.of ha),?_⟩;show Q (.bl (decide ((xs.length:Int)=(xs.length:Int)))) H;rw [fj rfl]; exact q
theorem ao0(F:gG K "is_named_number" Xm f fd)(Dt:Cl P w K mg base 1 "has_parts" ["thing","many"] EY)(Ii:Cl P w K mg base 1 "is_name" ["thing"] Js)(Gk:Cl P w K mg base 1 "is_whole" ["thing"] Ld):bM P w K mg base bR 2 f fd ["thing"] Ul:=by refine F.ok aj7 (λvs H Q E h=>?_) (λcdv A outer s H vs Q E hr h=>?_);obtain ⟨x,r,rfl,_⟩:=h;rfl;obtain ⟨x,r,rfl,⟨a,rfl,ea⟩,g,q⟩:=h;refine ⟨_,(bC (cO (xG (pC Dt hr (aq (pV 0) (aq aQ aC))) (xG (pC Ii hr (aq (pX cM (pV 0) aQ) aC)) (Ai (pC Gk hr (aq (pX cM (pV 0) aQ) aC))))))),?_⟩;refine ⟨a,_,rfl,ea,?_⟩;refine cL (aG.of ea) (i:=0) (v:=.str r.1) (by rfl) ?_;refine ⟨r.1,rfl,g,λH1 s1=>?_⟩;refine cL (aG.of (s1 _ _ ea)) (i:=1) (v:=.int r.2) (by rfl) ?_;exact ⟨r.2,rfl,q H1 s1⟩
theorem an1(F:gG K "is_clock" Qu f fd)(T:Txt mg t8 t6 tR tL)(Ii:Cl P w K mg base 1 "is_name" ["thing"] Js)(Gk:Cl P w K mg base 1 "is_whole" ["thing"] Ld):bM P w K mg base bR 2 f fd ["name","low","high","drift"] Vz:=by
 refine F.ok agT (λvs H Q E h=>?_) (λcdv A outer s H vs Q E hr h=>?_)
 . obtain ⟨n,lo,hi,d,rfl,_⟩:=h;rfl
 . obtain ⟨n,lo,hi,d,rfl,g,le,d0,q⟩:=h;have fW:=dZ;refine ⟨_,(bf (gD (uo (kZ (jO (pC Ii hr (aq (pV 0) aC)))) (pw_or1 (kZ (jO (cR (Bp rfl) rfl T.all Bx (aq (jg (bQ:=bN Qu) (own:=["number"]) (cap:=[]) (ix:=[]) rfl rfl gP (gj (fJ (aq (pV 1) (aq (pV 2) (aq (pV 3) aC))))) (λb=>(pH 0 ["number"])) (λb=>ig) (λb=>(pC Gk hr (aq (pV 0) aC)))) aC)))))) (bC (cO mF)) gC) (bC (cO (xG (rW oLe (pV 1) (pV 2) (cV _)) (Ai (rW oGe (pV 3) aQ (cV _))))))),?_⟩;refine ⟨n,rfl,g,λH1 s1=>?_⟩;refine ⟨by show 3<=aL; omega,λp hp=>?_⟩;refine ⟨p,rfl,⟨_,aG.of aZ⟩,λD hD=>DN (xs:=[.int lo,.int hi,.int d]) (ys:=[true,true,true].map V.bl) hD (aG.of aZ) (by show 3<=aL; omega) rfl (λi x H' hx s2 b R hR=>?_) (λH' s2 e=>?_)⟩
   . match i,hx with
     | 0,hx=>cases hx; exact ⟨lo,rfl,hR H' _ rfl (aD.refl _)⟩
     | 1,hx=>cases hx; exact ⟨hi,rfl,hR H' _ rfl (aD.refl _)⟩
     | 2,hx=>cases hx; exact ⟨d,rfl,hR H' _ rfl (aD.refl _)⟩
   . refine ⟨D,[true,true,true],rfl,aY.of e,?_⟩;refine gB (λ_=>?_) (λz=>bK (fj le) z);show Q (.bl (decide ((0:Int)<=d))) H';rw [fj d0];exact q H' ((s1.upd hp).ao s2)
theorem alE(F:gG K "is_run" Jw f fd)(T:Txt mg t8 t6 tR tL)(akr:Cl P w K mg base 2 "is_named_number" ["thing"] Ul)(Z2:Cl P w K mg base 2 "is_rising" ["values"] QF):bM P w K mg base bR 3 f fd ["thing"] Uz:=by refine F.ok amk (λvs H Q E h=>?_) (λcdv A outer s H vs Q E hr h=>?_);obtain ⟨x,r,rfl,_⟩:=h;rfl;obtain ⟨x,r,rfl,⟨a,vs,rfl,ha,pr⟩,ne,few,g,q⟩:=h;have fW:=dZ;have len:=pr.length;refine ⟨_,(bf (gD (uo (kZ (jO (cR CQ rfl T.uQ uF (aq (pV 0) (aq (Aj (v:=.ty "tuple") rfl T.tuple jy rfl) aC))))) (pw_or1 (gF oEq (cR jC rfl T.len iM (aq (pV 0) aC)) aQ (cV _)))) (bC (cO mF)) gC) (bf (gD (kZ (jO (cR (Bp rfl) rfl T.all Bx (aq (jg (bQ:=bN Jw) (own:=["row"]) (cap:=[]) (ix:=[]) rfl rfl gP (gj (pV 0)) (λb=>(pH 0 ["row"])) (λb=>ig) (λb=>(pC akr hr (aq (pV 0) aC)))) aC)))) (bC (cO mF)) gC) (bC (cO (pC Z2 hr (aq (jg (bQ:=bN Jw) (own:=["name","reading"]) (cap:=[]) (ix:=[]) rfl rfl gP (gj (pV 0)) (λb=>(j8 rfl (cZ (pH 0 ["name","reading"]) (cZ (pH 1 ["name","reading"]) jV)))) (λb=>ig) (λb=>(pV 1))) aC)))))),?_⟩;refine ⟨.ref a,_,_,_,rfl,.tup ha,rfl,?_⟩;refine ⟨a,vs,rfl,.inr (aG.of ha),?_⟩;refine gB (λz=>bK (Bg (by have:=iH z; omega)) ne) (λ_=>?_);refine ⟨a,rfl,⟨_,aG.of ha⟩,λD hD=>DN (xs:=vs) (ys:=(vs.map λ_=>true).map V.bl) hD (aG.of ha) (by omega) (by simp) (λi x H' hx s2 b R hR=>?_) (λH1 s1 e=>?_)⟩;obtain ⟨y,hy,ya⟩:=dM pr hx;exact ⟨x,y,rfl,ya.ts s2.aK,g y (dB hy),λbZ s=>hR bZ _ (by rw [cX,cX,hx]; rfl) s⟩;refine ⟨D,_,rfl,aY.of e,?_⟩;rw [all_true];refine ⟨a,rfl,⟨_,aG.of (s1 _ _ ha)⟩,λD2 hD2=>DN (xs:=vs) (ys:=(r.map iY).map V.int) hD2 (aG.of (s1 _ _ ha)) (by omega) (by simp; omega) (λi x H' hx s2 b R hR=>?_) (λH2 s2 e2=>?_)⟩;obtain ⟨y,hy,a1,rfl,ea⟩:=dM pr hx;refine ⟨a1,_,rfl,aG.of (s2 _ _ (s1 _ _ ea)),rfl,_,_,rfl,_,_,rfl,rfl,?_⟩;exact hR H' _ (by rw [cX,cX,hy]; rfl) (aD.refl _);exact ⟨D2,_,_,rfl,e2,by simp; omega,.inl ⟨_,rfl,rfl⟩,λH3 s3=>q H3 ((s1.ao s2).ao s3)⟩
theorem alY(F:gG K "is_house" Rq f fd)(T:Txt mg t8 t6 tR tL)(Dt:Cl P w K mg base 3 "has_parts" ["thing","many"] EY)(agV:Cl P w K mg base 3 "is_clock" ["name","low","high","drift"] Vz)(aow:Cl P w K mg base 3 "is_run" ["thing"] Uz):bM P w K mg base bR 4 f fd ["thing"] Zi:=by refine F.ok HW (λvs H Q E h=>?_) (λcdv A outer s H vs Q E hr h=>?_);obtain ⟨x,h0,rfl,_⟩:=h;rfl;obtain ⟨x,h0,rfl,⟨a,b,rfl,ha,c,vs,rfl,hc,pr⟩,g,q⟩:=h;have fW:=dZ;have len:=pr.length;have few:=g.few;refine ⟨_,(bf (gD (kZ (jO (pC Dt hr (aq (pV 0) (aq aQ aC))))) (bC (cO mF)) gC) (bf (Ed (pV 0) (j8 rfl (cZ (pY 1 HW) (cZ (pY 2 HW) (cZ (pY 3 HW) (cZ (pY 4 HW) (cZ (pY 5 HW) jV))))))) (bf (gD (uo (kZ (jO (pC agV hr (aq (pV 1) (aq (pV 2) (aq (pV 3) (aq (pV 4) aC))))))) (pw_or1 (kZ (jO (cR CQ rfl T.uQ uF (aq (pV 5) (aq (Aj (v:=.ty "tuple") rfl T.tuple jy rfl) aC))))))) (bC (cO mF)) gC) (bC (cO (cR (Bp rfl) rfl T.all Bx (aq (jg (bQ:=bN Rq) (own:=["run"]) (cap:=[]) (ix:=[]) rfl rfl gP (gj (pV 5)) (λb=>(pH 0 ["run"])) (λb=>ig) (λb=>(pC aow hr (aq (pV 0) aC)))) aC))))))),?_⟩;refine ⟨a,_,rfl,ha,?_⟩;refine ⟨a,_,rfl,aG.of ha,rfl,_,_,rfl,_,_,rfl,_,_,rfl,_,_,rfl,_,_,rfl,rfl,?_⟩;refine ⟨h0.name,h0.low,h0.high,h0.bV,rfl,g.name,g.wide,g.bV,λH1 s1=>?_⟩;have hc1:=s1 _ _ hc;refine ⟨.ref c,_,_,_,rfl,.tup hc1,rfl,?_⟩;refine ⟨c,rfl,⟨_,aG.of hc1⟩,λD hD=>DN (xs:=vs) (ys:=(h0.runs.map λr=>qK (r.map iY)).map V.bl) hD (aG.of hc1) (by omega) (by simp; omega) (λi x H' hx s2 b R hR=>?_) (λH2 s2 e=>?_)⟩;obtain ⟨r,hr',ra⟩:=dM pr hx;have rm:=dB hr';exact ⟨x,r,rfl,ra.ts (s1.ao s2).aK,g.ne r rm,g.run r rm,g.names r rm,λbZ s=>hR bZ _ (by rw [cX,cX,hr']; rfl) s⟩;refine ⟨D,_,rfl,aY.of e,?_⟩;have z:=q H2 (s1.ao s2);unfold vO at z;rw [JG];exact z
theorem amD(F:gG K "are_houses" JC f fd)(T:Txt mg t8 t6 tR tL)(agz:Cl P w K mg base 4 "is_house" ["thing"] Zi)(ahq:Cl P w K mg base 4 "row_names" ["houses"] Wc)(ac1:Cl P w K mg base 4 "are_unlike" ["names"] Uh):bM P w K mg base bR 5 f fd ["thing"] V6:=by refine F.ok aeh (λvs H Q E h=>?_) (λcdv A outer s H vs Q E hr h=>?_);obtain ⟨x,hs,rfl,_⟩:=h;rfl;obtain ⟨x,hs,rfl,⟨c,vs,rfl,hc,pr⟩,lo,hi,nd,ga,q⟩:=h;have fW:=dZ;have len:=pr.length;refine ⟨_,(bf (gD (uo (kZ (jO (cR CQ rfl T.uQ uF (aq (pV 0) (aq (Aj (v:=.ty "tuple") rfl T.tuple jy rfl) aC))))) (pw_or1 (kZ (agh oLe oLe aQ (cR jC rfl T.len iM (aq (pV 0) aC)) (nY (v:=.int 6) rfl T.ahD ⟨_,rfl⟩))))) (bC (cO mF)) gC) (bf (gD (kZ (jO (cR (Bp rfl) rfl T.all Bx (aq (jg (bQ:=bN JC) (own:=["house"]) (cap:=[]) (ix:=[]) rfl rfl gP (gj (pV 0)) (λb=>(pH 0 ["house"])) (λb=>ig) (λb=>(pC agz hr (aq (pV 0) aC)))) aC)))) (bC (cO mF)) gC) (bf (pZ 1 aeh (pC ahq hr (aq (pV 0) aC))) (bC (cO (xG (pC ac1 hr (aq (jg (bQ:=bN JC) (own:=["house"]) (cap:=[]) (ix:=[]) rfl rfl gP (gj (pV 0)) (λb=>(pH 0 ["house"])) (λb=>ig) (λb=>(pX cM (pV 0) aQ))) aC)) (xG (pC ac1 hr (aq (pV 1) aC)) (Ai (rW oLe (cR jC rfl T.len iM (aq (pV 1) aC)) (nY (v:=.int 24) rfl T.aoh ⟨_,rfl⟩) (cV _)))))))))),?_⟩;refine ⟨.ref c,_,_,_,rfl,.tup hc,rfl,?_⟩;refine ⟨c,vs,rfl,.inr (aG.of hc),?_⟩;refine gB (λ_=>?_) (λz=>bK (fj (show (1:Int)<=(vs.length:Int) by omega)) z);by_cases z2:hs.length<=6;rw [fj z2,xQ] at q;refine gB (λw=>by rw [fj (show (vs.length:Int)<=6 by omega)] at w; cases w) (λ_=>?_);refine ⟨c,rfl,⟨_,aG.of hc⟩,λD hD=>DN (xs:=vs) (ys:=(hs.map vO).map V.bl) hD (aG.of hc) (by omega) (by simp; omega) (λi x H' hx s2 b R hR=>?_) (λH' s2 e=>?_)⟩;obtain ⟨y,hy,ya⟩:=dM pr hx;exact ⟨x,y,rfl,ya.ts s2.aK,ga y (dB hy),λbZ s=>hR bZ _ (by rw [cX,cX,hy]; rfl) s⟩;refine ⟨D,_,rfl,aY.of e,?_⟩;rw [JG];(cases ea:hs.all (id∘vO) with| false =>have z:=q H' s2;rw [show hs.all vO=false from ea] at z; exact z| true =>rw [show hs.all vO=true from ea,xQ] at q;have gd:∀ h∈hs,uH h:=λh hh=>(ga h hh).good (fX.mp ea h hh);have hc2:=s2 _ _ hc;refine ⟨.ref c,hs,rfl,⟨c,vs,rfl,hc2,bG (λ_ _ z=>z.ts s2.aK) pr⟩,z2,gd,λl H2 hl el s3=>?_⟩;refine ⟨c,rfl,⟨_,aG.of (s3 _ _ hc2)⟩,λD2 hD2=>DN (xs:=vs) (ys:=(hs.map aP.name).map V.str) hD2 (aG.of (s3 _ _ hc2)) (by omega) (by simp; omega) (λi x H3 hx s4 b R hR=>?_) (λH3 s4 e2=>?_)⟩;obtain ⟨h,hh',a1,b1,rfl,g1,_⟩:=dM pr hx;refine cL (aG.of (((s2.ao s3).ao s4) _ _ g1)) (i:=0) (v:=.str h.name) (by rfl) ?_;exact hR H3 _ (by rw [cX,cX,hh']; rfl) (aD.refl _);refine ⟨D2,hs.map aP.name,rfl,e2,by rw [aU]; omega,λH4 s5=>?_⟩;have S4:=(((s2.ao s3).ao s4).ao s5);rw [fj nd];have el4:=(s4.ao s5) _ _ el;have big:(bA hs).length<=625 * 6:=(by unfold bA;rw [RV];have z:=K02.Am (l:=hs.map fH) (n:=625) λq hq=>(by obtain ⟨k,hk,rfl⟩:=cG.mp hq;have z1:=(gd k hk).len;show ((qJ k).map cu).length<=625;rw [aU]; exact z1);rw [aU] at z;have:hs.length * 625<=6 * 625:=NP 625 z2;omega);refine ⟨l,bA hs,rfl,el4,by omega,λH5 s6=>?_⟩;cases er:decide (bA hs).Nodup with| false=>rw [er] at q; exact q H5 (S4.ao s6)| true =>rw [er,xQ] at q;refine ⟨l,_,rfl,.inl (aY.of (s6 _ _ el4)),?_⟩;have e9:decide ((((bA hs).map V.str).length:Int)<=24)=decide ((bA hs).length<=24):=(by rw [aU,jP,decide_eq_true_iff,decide_eq_true_iff]; omega);show Q (.bl (decide ((((bA hs).map V.str).length:Int)<=24))) H5;rw [e9];exact q H5 (S4.ao s6));rw [iD z2] at q;exact gB (λw=>q H (aD.refl H)) (λw=>bK (by rw [iD (show ¬ (vs.length:Int)<=6 by omega)]; rfl) w)
theorem ag4(F:gG K "is_letter" VD f fd)(Dt:Cl P w K mg base 1 "has_parts" ["thing","many"] EY)(Ii:Cl P w K mg base 1 "is_name" ["thing"] Js)(Gk:Cl P w K mg base 1 "is_whole" ["thing"] Ld):bM P w K mg base bR 2 f fd ["thing"] Xh:=by refine F.ok Jp (λvs H Q E h=>?_) (λcdv A outer s H vs Q E hr h=>?_);obtain ⟨x,l,rfl,_⟩:=h;rfl;obtain ⟨x,l,rfl,⟨a,rfl,ha⟩,g,q⟩:=h;refine ⟨_,(bf (gD (kZ (jO (pC Dt hr (aq (pV 0) (aq aQ aC))))) (bC (cO mF)) gC) (bf (Ed (pV 0) (j8 rfl (cZ (pY 1 Jp) (cZ (pY 2 Jp) (cZ (pY 3 Jp) (cZ (pY 4 Jp) jV)))))) (bf (gD (uo (kZ (jO (pC Ii hr (aq (pV 1) aC)))) (pw_or1 (kZ (jO (pC Ii hr (aq (pV 2) aC)))))) (bC (cO mF)) gC) (bf (gD (uo (kZ (jO (pC Gk hr (aq (pV 3) aC)))) (pw_or1 (gF oLt (pV 3) aQ (cV _)))) (bC (cO mF)) gC) (bC (cO (alp (rW akt (pV 4) Et (cV _)) (Ai (xG (pC Gk hr (aq (pV 4) aC)) (Ai (rW oGe (pV 4) (pV 3) (cV _)))))))))))),?_⟩;refine ⟨a,_,rfl,ha,?_⟩;refine ⟨a,_,rfl,aG.of ha,rfl,_,_,rfl,_,_,rfl,_,_,rfl,_,_,rfl,rfl,?_⟩;refine ⟨_,rfl,g.sent,λH1 s1=>?_⟩;refine ⟨_,rfl,g.taken,λH2 s2=>?_⟩;refine ⟨_,rfl,?_⟩;have gl:=g.least;refine gB (λz=>bK (iH z) (by omega)) (λ_=>?_);refine ⟨rfl,?_⟩;have S:=s1.ao s2;cases e:l.2.2 with| none=>exact q H2 S| some m =>refine ⟨m,rfl,?_⟩;show Q (.bl (decide (l.2.1<=m))) H2;rw [fj (g.most m e)];exact q H2 S
theorem alg(F:gG K "are_letters" Fq f fd)(T:Txt mg t8 t6 tR tL)(aic:Cl P w K mg base 2 "is_letter" ["thing"] Xh)(Uw:Cl P w K mg base 2 "rows_in" ["house"] Og)(Z2:Cl P w K mg base 2 "is_rising" ["values"] QF):bM P w K mg base bR 3 f fd ["thing","houses"] Z6:=by refine F.ok Iu (λvs H Q E h=>?_) (λcdv A outer s H vs Q E hr h=>?_);obtain ⟨x,y,ls,hs,rfl,_⟩:=h;rfl;obtain ⟨x,y,ls,hs,rfl,⟨c,vs,rfl,hc,pl⟩,⟨d,ws,rfl,hd,ph⟩,gh,lk,rise,l25,q⟩:=h;have fW:=dZ;have ahZ:=ph.length;have len:=pl.length;have h6:=gh.hi;refine ⟨_,(bf (gD (uo (kZ (jO (cR CQ rfl T.uQ uF (aq (pV 0) (aq (Aj (v:=.ty "tuple") rfl T.tuple jy rfl) aC))))) (pw_or1 (gF yX (cR jC rfl T.len iM (aq (pV 0) aC)) (nY (v:=.int 24) rfl T.aiD ⟨_,rfl⟩) (cV _)))) (bC (cO mF)) gC) (bf (gD (kZ (jO (cR (Bp rfl) rfl T.all Bx (aq (jg (bQ:=bN Fq) (own:=["letter"]) (cap:=[]) (ix:=[]) rfl rfl gP (gj (pV 0)) (λb=>(pH 0 ["letter"])) (λb=>ig) (λb=>(pC aic hr (aq (pV 0) aC)))) aC)))) (bC (cO mF)) gC) (bf (ajU (i:=2) Iu.nd rfl rfl (bQ:=bN Fq) (own:=["house","row","reading"]) (cap:=[]) (ix:=[]) rfl rfl gP (gj (pV 1)) (λb=>(pH 0 ["house","row","reading"])) (λb=>ig) (λb=>uI (pC Uw hr (aq (pV 0) aC))) (λb=>(j8 rfl (cZ (pH 1 ["house","row","reading"]) (cZ (pH 2 ["house","row","reading"]) jV)))) (λb=>ig) (λb=>pV 1) (λb=>(pX cM (pV 0) aQ))) (bf (jd je rfl (gj (pV 0)) (j8 rfl (cZ (pY 3 Iu) (cZ (pY 4 Iu) (cZ (pY 5 Iu) (cZ (pY 6 Iu) jV))))) (bC (gD (uo (Q0 (aey (kY hr) (pV 3) (pV 2))) (pw_or (Q0 (aey (kY hr) (pV 4) (pV 2))) (pw_or1 (gF ake (vo (kY hr) (pV 2) (pV 3) (λ_ _=>rfl)) (vo (kY hr) (pV 2) (pV 4) (λ_ _=>rfl)) (cV _))))) (bC (cO mF)) gC))) (bC (cO (pC Z2 hr (aq (jg (bQ:=bN Fq) (own:=["letter"]) (cap:=[]) (ix:=[]) rfl rfl gP (gj (pV 0)) (λb=>(pH 0 ["letter"])) (λb=>ig) (λb=>(jZ adT (pV 0) mC (jk aQ)))) aC)))))))),?_⟩;refine ⟨.ref c,_,_,_,rfl,.tup hc,rfl,?_⟩;refine ⟨c,vs,rfl,.inr (aG.of hc),?_⟩;refine gB (λz=>?_) (λz=>?_);rw [iD (show ¬ ls.length<=24 by have:=iH z; omega)] at q;exact q H (aD.refl H);rw [fj (show ls.length<=24 by have:¬ (24:Int)<(vs.length:Int):=λw=>z (fj w);omega),xQ] at q;refine ⟨c,rfl,⟨_,aG.of hc⟩,λD hD=>DN (xs:=vs) (ys:=(vs.map λ_=>true).map V.bl) hD (aG.of hc) (by omega) (by simp) (λi x H' hx s2 b R hR=>?_) (λH1 s1 e=>?_)⟩;obtain ⟨y,hy,ya⟩:=dM pl hx;exact ⟨x,y,rfl,ya.ts s2.aK,lk y (dB hy),λbZ s=>hR bZ _ (by rw [cX,cX,hx]; rfl) s⟩;refine ⟨D,_,rfl,aY.of e,?_⟩;rw [all_true];have hc1:=s1 _ _ hc;have hd1:=s1 _ _ hd;refine ⟨d,rfl,⟨_,aG.of hd1⟩,λO hO=>⟨WS ws.length (PvH O hs H1),CP ⟨none,none,none,[],rfl,aZ,cJ _,λn=>rfl,(aD.refl H1).upd hO⟩,λb=>Ik (xs:=ws) _ (λi aj H' _ hz7=>by obtain ⟨_,_,_,_,_,_,_,_,G⟩:=hz7; exact aG.of (G _ _ hd1)) (fun aj H2 hz8=>?_) (λi x aj H' hx hi hz9=>?_)⟩⟩;obtain ⟨_,_,_,kvs,_,eO,kl,ow,s2⟩:=hz8;rw [ahZ,gU] at kl ow;have hc2:=s2 _ _ hc1;have S2:aD H H2:=s1.ao s2;refine ⟨c,rfl,⟨_,aG.of hc2⟩,nu (xs:=vs) (λi aj H'=>H'=H2/\(ls.take i).all (tK hs)=true/\∃(o3 o4 o5 o6:Option V),aj=[aM c,aM d,aM O,o3,o4,o5,o6]) ⟨rfl,rfl,none,none,none,none,rfl⟩ (λi aj H' _ hz7=>by obtain ⟨e',_⟩:=hz7; rw [e']; exact aG.of hc2) (λi x aj H' hx hz8=>?_) (fun aj H' hz9=>?_)⟩;obtain ⟨e',al,o3,o4,o5,o6,rfl⟩:=hz8;subst e';obtain ⟨y,hy,a1,rfl,g1⟩:=dM pl hx;have bad:tK hs y=false->Q (.bl false) H':=λhb=>(by have w:=q H' S2;rw [IK.mpr ⟨_,dB hy,by rw [hb]; decide⟩] at w;exact w);unfold tK at bad;refine ⟨a1,_,rfl,aG.of (S2 _ _ g1),rfl,_,_,rfl,_,_,rfl,_,_,rfl,_,_,rfl,rfl,?_⟩;refine ⟨O,_,rfl,ji.k (k:=cB y.1.1) eO,_,rfl,?_⟩;rw [ow];(cases e1:lM (bT hs) y.1.1 with| none=>exact bad (by rw [e1])| some n1 =>refine ⟨O,_,rfl,ji.k (k:=cB y.1.2) eO,_,rfl,?_⟩;rw [ow];cases e2:lM (bT hs) y.1.2 with| none=>exact bad (by rw [e1,e2])| some n2 =>rw [e1,e2] at bad;have w1:dW kvs (.inr y.1.1)=some (.str n1):=(by rw [ow,e1]; rfl);have w2:dW kvs (.inr y.1.2)=some (.str n2):=(by rw [ow,e2]; rfl);refine ⟨O,_,rfl,w1 ▸ ji.k (k:=cB y.1.1) eO,?_⟩;refine ⟨O,_,rfl,w2 ▸ ji.k (k:=cB y.1.2) eO,?_⟩;refine gB (λz=>bad (by show (!decide (n1=n2))=false; rw [z]; rfl)) (λz=>?_);refine ⟨rfl,?_,_,_,_,_,rfl⟩;rw [dI,hy,List.all_append,al,xQ];show (tK hs y && true)=true;unfold tK;rw [e1,e2,Bool.and_true];show (!decide (n1=n2))=true;rw [(Bool.not_eq_true _).mp z]; rfl);obtain ⟨e',al,o3,o4,o5,o6,rfl⟩:=hz9;subst e';rw [oM (by omega)] at al;rw [al] at q;refine ⟨c,rfl,⟨_,aG.of hc2⟩,λD2 hD2=>Ce (xs:=vs) (λi bZ=>∃ as:List au,cW bZ bZ D2 (as.map V.ref)/\aD H' bZ/\bw (λa k=>bZ a=some (.tup ((kP k).map kV))) as ((ls.map cu).take i)) ⟨[],⟨aZ,aD.refl _⟩,(aD.refl H').upd hD2,.nil⟩ (λi bZ _ ahl=>by obtain ⟨_,_,s3,_⟩:=ahl; exact aG.of (s3 _ _ hc2)) (λH3 anp=>?_) (λi x H3 hx hi alW b=>?_)⟩;obtain ⟨as,G,s3,pa⟩:=anp;rw [oM (by rw [aU]; omega)] at pa;have l4:=pa.length;rw [aU] at l4;refine ⟨D2,_,_,rfl,G.at',by rw [aU]; omega,.inr ⟨as,ls.map cu,rfl,pa,rfl⟩,λH4 s4=>?_⟩;rw [amg rise];exact q H4 ((S2.ao s3).ao s4);obtain ⟨as,G,s3,pa⟩:=alW;obtain ⟨y,hy,a1,rfl,g1⟩:=dM pl hx;have l4:=pa.length;rw [eY,aU] at l4;refine ⟨a1,_,rfl,aG.of ((S2.ao s3) _ _ g1),by show ¬ ((0:Nat)=0/\(2:Nat)=4); decide,λp hp=>?_⟩;have nD:D2≠p:=λz=>(by subst z; rw [G.at'] at hp; cases hp);refine ⟨as.map V.ref,by rw [bx nD]; exact G.at',by rw [aU]; omega,nx hi ⟨as++[p],?_,?_,?_⟩⟩;rw [dJ]; exact ⟨aZ,aD.refl _⟩;intro b' o' e';rw [bx (cg e' hD2)];exact ((aD.refl H3).upd hp) _ _ (s3 _ _ e');rw [dI,cX,hy];refine fY (bG (λa k (z:H3 a=some (.tup ((kP k).map kV)))=>?_) pa) (.cons ?_ .nil);have na:a≠D2:=λy=>(by subst y; rw [G.at'] at z; cases z);rw [bx na,bx (cg z hp)]; exact z;rw [bx (gQ nD),aZ]; rfl;obtain ⟨o1,o2,o3,kvs,rfl,eO,kl,ow,s2⟩:=hz9;obtain ⟨h,hh',ha⟩:=dM ph hx;refine ⟨x,h,rfl,ha.ts (s1.ao s2).aK,gh.all h (dB hh'),λl zs H3 hl el s3 pz=>?_⟩;have nlO:l≠O:=λz=>(by subst z; rw [eO] at hl; cases hl);have z2:bT (hs.take (i+1))=bT (hs.take i)++jJ h:=(by unfold bT;rw [dI,hh',rM];simp);have z3:bT hs=bT (hs.take i)++jJ h++bT (hs.drop (i+1)):=(by rw [<- z2];unfold bT;rw [<- rM,Eh]);have nd:((bT (hs.take i)++jJ h).map cu).Nodup:=(by have z:=gh.rows;rw [<- rZ,z3,dJ] at z;exact (vA.mp z).1);have bg:(bT (hs.take i)++jJ h).length<=24:=(by have z:=gh.few;rw [<- rZ,aU,z3,cQ] at z;omega);have ez:(jJ h).take zs.length=jJ h:=oM (by rw [pz.length]; unfold jJ; rw [aU]; exact bB _);refine ⟨l,rfl,⟨_,aY.of el⟩,WS zs.length (PvK x O l hs h i zs H1 H3),CP ⟨o2,o3,kvs,rfl,s3 _ _ eO,by simpa using kl,by simpa using ow,s2.ao s3,el,cN.refl _⟩,acO (xs:=zs) _ (λj aj bZ _ ahM=>by obtain ⟨_,_,_,_,_,_,_,_,e',_⟩:=ahM; exact aY.of e') (fun aj bZ ⟨o2',o3',nP,e',eO',kl',ow',s',_,_⟩=>nxs hi ⟨_,_,_,nP,e',eO',by rw [ez] at kl'; rw [z2]; exact kl',by rw [ez] at ow'; rw [z2]; exact ow',s'⟩) (λj y aj bZ hy hj akj=>?_)⟩;obtain ⟨o2',o3',nP,rfl,eO',kl',ow',s',el',t'⟩:=akj;obtain ⟨rr,hrr,ra⟩:=dM pz hy;obtain ⟨ra1,rfl,ra2⟩:=ra.ts t';have hp:(jJ h)[j]?=some (rr.1,h.name):=(by unfold jJ; rw [cX,hrr]; rfl);obtain ⟨xa,xb,rfl,xg,_⟩:=ha.ts (s1.ao s').aK;refine ⟨ra1,_,rfl,aG.of ra2,rfl,_,_,rfl,_,_,rfl,rfl,?_⟩;refine cL (aG.of xg) (i:=0) (v:=.str h.name) (by rfl) ?_;have ap:bT (hs.take i)++(jJ h).take (j+1)=(bT (hs.take i)++(jJ h).take j)++[(rr.1,h.name)]:=(by rw [dI,hp,oU]; rfl);have big:(bT (hs.take i)++(jJ h).take j).length<=24:=(by rw [cQ] at bg |-;rw [eY];omega);refine ⟨nP,cB rr.1,eO',rfl,by omega,nxs hj ⟨_,_,_,rfl,aZ,?_,?_,?_,?_,t'.put eO' (λ_ z=>nomatch z)⟩⟩;have z:=yM nP (cB rr.1) (V.str h.name);rw [ap,cQ];exact gw z (Jz kl' 1);rw [ap];refine BR.put (p:=(rr.1,h.name)) ow' λp hp' z=>?_;have nd2:(((bT (hs.take i)++(jJ h).take j)++[(rr.1,h.name)]).map cu).Nodup:=(by rw [<- ap];exact List.Sublist.nodup ((List.Sublist.append (Lj _) (yS _ _)).map _) nd);rw [dJ] at nd2;exact (vA.mp nd2).2.2 p.1 (iz hp') rr.1 (by simp) z;intro b' o' e';rw [bx (cg e' hO)]; exact s' _ _ e';rw [bx nlO]; exact el'
theorem an5(F:gG K "is_ledger" Ti f fd)(Dt:Cl P w K mg base 5 "has_parts" ["thing","many"] EY)(anK:Cl P w K mg base 5 "are_houses" ["thing"] V6)(ajK:Cl P w K mg base 5 "are_letters" ["thing","houses"] Z6):bM P w K mg base bR 6 f fd ["thing"] Y4:=by refine F.ok aki (λvs H Q E h=>?_) (λcdv A outer s H vs Q E hr h=>?_);obtain ⟨x,ms,ns,rfl,_⟩:=h;rfl;obtain ⟨x,ms,ns,rfl,⟨a,x1,x2,rfl,ha,h1,h2⟩,g,q⟩:=h;refine ⟨_,(bC (cO (xG (pC Dt hr (aq (pV 0) (aq aQ aC))) (xG (pC anK hr (aq (pX cM (pV 0) aQ) aC)) (Ai (pC ajK hr (aq (pX cM (pV 0) aQ) (aq (pX cM (pV 0) aQ) aC)))))))),?_⟩;refine ⟨a,_,rfl,ha,?_⟩;refine cL (aG.of ha) (i:=0) (v:=x1) (by rfl) ?_;refine ⟨x1,ms,rfl,h1,g.lo,g.lh,g.nd,g.hs,λH1 s1=>?_⟩;unfold qd at q;cases b1:decide (ms.length<=6) with| false =>have z:Q (.bl false) H1:=(by have z:=q H1 s1;rw [b1] at z;simpa using z);exact z| true =>cases b2:ms.all vO with| false =>have z:Q (.bl false) H1:=(by have z:=q H1 s1;rw [b2] at z;simpa using z);exact z| true =>cases b3:decide (bA ms).Nodup with| false =>have z:Q (.bl false) H1:=(by have z:=q H1 s1;rw [b3] at z;simpa using z);exact z| true =>cases b4:decide ((bA ms).length<=24) with| false =>have z:Q (.bl false) H1:=(by have z:=q H1 s1;rw [b4] at z;simpa using z);exact z| true =>rw [b1,b2,b3,b4] at q;refine cL (aG.of (s1 _ _ ha)) (i:=1) (v:=x2) (by rfl) ?_;refine cL (aG.of (s1 _ _ ha)) (i:=0) (v:=x1) (by rfl) ?_;exact ⟨x2,x1,ns,ms,rfl,h2.ts s1.aK,h1.ts s1.aK,⟨g.lo,iH b1,λh hh=>(g.hs h hh).good (fX.mp b2 h hh),g.nd,iH b3,iH b4⟩,g.lk,g.rise,g.ll,λH2 s2=>q H2 (s1.ao s2)⟩
structure rA(hs ks:List aP)(ls ls':List bH)(ms:List aP)(ns:List bH):Prop where
 al:uw hs ks=true
 on:pD (ls++ls')=true
 mh:zf hs ks ms
 ml:xR ls ls' ns
def Wi(NM:au):Sp:=λvs H Q E=>∃(x y:V)(hs ks:List aP)(ls ls':List bH),vs=[x,y]/\iI H x hs ls/\iI H y ks ls'/\Jv hs ks/\Gg ls ls'/\(∀ ms ns,rA hs ks ls ls' ms ns->Ask ms ns) /\
 (∀(z:V)(ms:List aP)(ns:List bH)(H':Hp),rA hs ks ls ls' ms ns->qd ms ns=true->iI H' z ms ns->aD H H'->Q z H') /\
 ((uw hs ks=false\/pD (ls++ls')=false\/∃ ms ns,rA hs ks ls ls' ms ns/\qd ms ns=false)->∀ H',aD H H'->E (.ref NM) none H')
theorem aeK:fB ["one","other","ledger"] ["one","other"] (bN Uv):=gA
theorem am2(F:gG K "merged" Uv f fd)(xM:Dg K NM [.type "ValueError",.type "Exception",.type "BaseException",.type "object"] "ValueError.__new__" = true)(mM:mg "NoMerge" = some (.ref NM))(aoi:bM P w K mg base (j7 P w) 6 Y9 acB ["one","other"] (Uj NM))(am1:mg "merged_houses" = some (.ref Y9))(amI:vY K (.ref Y9)=true)(amO:dw K acB ["one","other"] [])(akW:bM P w K mg base (j7 P w) 6 Xz agq ["one","other"] (YW NM))(anL:mg "merged_letters" = some (.ref Xz))(agQ:vY K (.ref Xz)=true)(ajV:dw K agq ["one","other"] [])(am9:Cl P w K mg base 6 "is_ledger" ["thing"] Y4):bM P w K mg base (j7 P w) 7 f fd ["one","other"] (Wi NM):=by refine F.okX aeK (λvs H Q E h=>?_) (λcdv A outer s H vs Q E hr h=>?_);obtain ⟨x,y,hs,ks,ls,ls',rfl,_⟩:=h;rfl;obtain ⟨x,y,hs,ks,ls,ls',rfl,la,lb,fh,fl,gd,q,qE⟩:=h;have fW:=dZ;refine ⟨_,(bf (pZ 2 aeK (fJ (aq (JQ aoi hr rfl am1 amI amO .nil (ab0 Gh) (aq (pV 0) (aq (pV 1) aC))) (aq (JQ akW hr rfl anL agQ ajV .nil (ab0 Gh) (aq (pV 0) (aq (pV 1) aC))) aC)))) (bf (gD (kZ (jO (pC am9 hr (aq (pV 2) aC)))) (bC (V4 Gh xM rfl mM (aq iU aC))) gC) (bC (cO (pV 2))))),?_⟩;refine ⟨x,y,hs,ks,ls,ls',rfl,la,lb,fh,(λal z ms H1 hz mh s1=>?_),λal H1 s1=>qE (.inl al) H1 s1⟩;refine ⟨x,y,hs,ks,ls,ls',rfl,la.ts s1.aK,lb.ts s1.aK,fl,(λon z2 ns H2 hz2 ml s2=>?_),λon H2 s2=>qE (.inr (.inl on)) H2 (s1.ao s2)⟩;refine ⟨by show 2<=aL; omega,λt ft=>?_⟩;have cm:rA hs ks ls ls' ms ns:=⟨al,on,mh,ml⟩;have s3:aD H2 (upd H2 t (.tup [z,z2])):=(aD.refl H2).upd ft;have led:iI (upd H2 t (.tup [z,z2])) (.ref t) ms ns:=⟨t,z,z2,rfl,aZ,hz.ts (s2.ao s3).aK,hz2.ts s3.aK⟩;refine ⟨.ref t,ms,ns,rfl,led,gd ms ns cm,λH4 s4=>?_⟩;have S4:=((s1.ao s2).ao s3).ao s4;cases e:qd ms ns;exact ⟨by show 1<=aL; omega,qE (.inr (.inr ⟨ms,ns,cm,e⟩)) _ S4⟩;exact q _ ms ns H4 cm e (led.ts s4.aK) S4
theorem Qi:(m9 ks h.name=none/\iK ks h=h)\/(iK ks h∈ks/\(iK ks h).name=h.name/\m9 ks h.name=some (iK ks h)):=by unfold iK;cases e:m9 ks h.name with| none=>exact .inl ⟨rfl,rfl⟩| some k =>unfold m9 at e;have z:=List.find?_some e;exact .inr ⟨XJ e,by simpa using z,rfl⟩
variable{a b:aP}
theorem aa5(n:(hs.map aP.name).Nodup)(ha:a∈hs)(hb:b∈hs)(e:a.name=b.name):a=b:=by obtain ⟨i,hi,ei⟩:=Eo ha;obtain ⟨j,hj,ej⟩:=Eo hb;have a1:(hs.map aP.name)[i]?=some a.name:=(by rw [cX,cT hi,ei]; rfl);have a2:(hs.map aP.name)[j]?=some a.name:=(by rw [cX,cT hj,ej,e]; rfl);have ij:=(Pn (by rw [aU]; exact hi) n).mp (a1.ao a2.symm);subst ij;rw [<- ei,ej]
theorem MJ{qy:List aP}{k:aP}:iC qy k=true↔k.name ∉ qy.map aP.name:=by unfold iC; simp
abbrev Ae(r:List Row):Prop:=(r.map yK).Pairwise (λa b=>ltR a b=true)
theorem hu8{A:iw}{k:Nat}(hr:jU k A):A.units+8<cLine:=aeu (adM (by decide:8<=64) _) hr.units
def zc(r:Row):List Key:=[.inr r.1,.inl (some r.2)]
def nrH:List Key->Str × Int
 | [.inr x,.inl (some i)]=>(x,i)
 | _=>("",0)
theorem Ba(r:Row):nrH (zc r)=r:=rfl
theorem aj1{r r':Row}(h:zc r=zc r'):r=r':=by have z:=fG nrH h;rwa [Ba,Ba] at z
def aeR:Option Int->Key
 | none=>.inl none
 | some i=>.inl (some i)
def qU(l:bH):List Key:=[.inr l.1.1,.inr l.1.2,.inl (some l.2.1),aeR l.2.2]
theorem Ys(l:bH):(qU l).map kV=[V.str l.1.1,V.str l.1.2,V.int l.2.1,vW l.2.2]:=by unfold qU;cases l.2.2 <;> rfl
def ltH:List Key->Str × Str
 | .inr x :: .inr y :: _=>(x,y)
 | _=>("","")
theorem Y0(l:bH):ltH (qU l)=l.1:=rfl
variable{l':bH}
theorem acM(h:qU l=qU l'):l=l':=by obtain ⟨⟨a,b⟩,c,d⟩:=l;obtain ⟨⟨a',b'⟩,c',d'⟩:=l';unfold qU at h;simp only [Pa,Sum.inr.injEq,Sum.inl.injEq,Option.some.injEq,and_true] at h;obtain ⟨rfl,rfl,rfl,h⟩:=h;cases d <;> cases d' <;> simp_all [aeR]
theorem adS:∀(a b z:List (List Row)),(∀ r∈b,Ae r)->z.length=max a.length b.length->(∀(j:Nat)(q r:List Row),b[j]?=some q->z[j]?=some r->uM (a.getD j []) q r)->(∀(j:Nat),b.length<=j->z[j]?=a[j]?)->qF a b z
 | [],b,z,hb,l,h1,_=>by show z=b;refine Mi (by simpa using l) λi h2 h3=>?_;have m:=h1 i b[i] z[i] (cT h3) (cT h2);exact adE m.rise (hb _ (CN h3)) λx=>by rw [m.mem]; simp
 | a :: as,[],z,_,l,_,h2=>by show z=a :: as;exact Ym λi=>h2 i (cJ _)
 | a :: as,b :: bs,[],_,l,_,_=>by simp at l
 | a :: as,b :: bs,r :: z,hb,l,h1,h2=>by refine ⟨h1 0 b r rfl rfl,adS as bs z (λx hx=>hb x (dD _ hx)) (by simp at l; omega) (λj q r' hq hr=>?_) (λj hj=>?_)⟩;have:=h1 (j+1) q r' hq hr;simpa using this;have:=h2 (j+1) (by simpa using hj);simpa using this
theorem afn:∀{a:List (List Row)},(∀ r∈a,Ae r)->qF a a a
 | [],_=>rfl
 | r :: a,h=>⟨⟨λx=>⟨.inl,λz=>z.elim id id⟩,h r dg⟩,afn λx hx=>h x (dD _ hx)⟩
variable{kvs:List (Key × V)}
theorem ai6(p:bw (mX H) kvs ks)(n:Str):bw (mX H) (lY kvs (.inr n)) (ks.filter λk=>!decide (k.name=n)):=by induction p with| nil=>exact .nil| @cons kv k kvs ks h _ ih =>by_cases e:k.name=n;rw [ao7 (by rw [h.1,e]),List.filter_cons_of_neg (by simp [e])];exact ih;rw [akg (λz=>e (rY (h.1.symm.ao z))),List.filter_cons_of_pos (by simp [e])];exact .cons h ih
variable{u:TS}{D:Ends}{aj:St}
theorem vP{t:TS}(Ok:St->Hp->Prop)(h:∀ U:St->Hp->Prop,(∀ aj H,Ok aj H->U aj H)->t { D with nx:=U } aj H)(h2:∀ aj H,Ok aj H->u D aj H):Ez t u D aj H:=h (u D) h2
theorem acq(e:hs[i]?=some h)(k:aP):iC (hs.take (i+1)) k=(iC (hs.take i) k && !decide (k.name=h.name)):=by unfold iC;rw [dI,e,jP];simp [not_or]
variable{us:List V}
theorem ajx{rs:List Row}(p:bw (gW H) us rs):∃ ms:List (List Key × au),us=(ms.map λx=>V.ref x.2)/\ms.map (·.1)=rs.map zc/\∀ x∈ms,H x.2=some (.tup (x.1.map kV)):=by induction p with| nil=>exact ⟨[],rfl,rfl,λx hx=>by cases hx⟩| cons h _ ih =>obtain ⟨a,rfl,e⟩:=h;obtain ⟨ms,e1,e2,e3⟩:=ih;refine ⟨(zc _,a) :: ms,by rw [eV,e1],by rw [eV,eV,e2],λx hx=>?_⟩;rcases dF.mp hx with z | z;rw [z]; exact e;exact e3 x z
theorem agy{ls:List bH}(p:bw (jw H) us ls):∃ ms:List (List Key × au),us=(ms.map λx=>V.ref x.2)/\ms.map (·.1)=ls.map qU/\∀ x∈ms,H x.2=some (.tup (x.1.map kV)):=by induction p with| nil=>exact ⟨[],rfl,rfl,λx hx=>by cases hx⟩| cons h _ ih =>obtain ⟨a,rfl,e⟩:=h;obtain ⟨ms,e1,e2,e3⟩:=ih;refine ⟨(qU _,a) :: ms,by rw [eV,e1],by rw [eV,eV,e2],λx hx=>?_⟩;rcases dF.mp hx with z | z;rw [z]; show H a=some (.tup ((qU _).map kV)); rw [Ys]; exact e;exact e3 x z
theorem aar{aJ bO:Type}{F:aJ->bO->Prop}:∀{l:List aJ}{m:List bO}{a:aJ}{b:bO},bw F l m->F a b->∀ j,bw F (l.set j a) (m.set j b)
 | _,_,_,_,.nil,_,_=>.nil
 | _,_,_,_,.cons _ r,h,0=>.cons h r
 | _,_,_,_,.cons x r,h,j+1=>.cons x (aar r h j)
variable{j:Nat}
theorem aoQ{n:Nat}(h:j<n):vZ n (j:Int)=some j:=by unfold vZ;simp [h]
structure aac(hs ks:List aP):Prop extends Jv hs ks where
 d1:(hs.map aP.name).Nodup
 ra:∀ h∈hs,∀ r∈h.runs,Ae r/\r.length<=25
 rb:∀ h∈ks,∀ r∈h.runs,Ae r/\r.length<=25
def N6:Sp:=λvs H Q _=>QX6 λ(x y:V)(hs ks:List aP)(ls ls':List bH)=>uV (vs=[x,y]) (iI H x hs ls) (iI H y ks ls') (aac hs ks) (Gg ls ls') (pD (ls++ls')=true) (∀(z:V)(ms:List aP)(ns:List bH)(H':Hp),iI H' z ms ns->zf hs ks ms->xR ls ls' ns->aD H H'->Q z H')
theorem Cr:fB ["_law_one","_law_other","_law_found","_law_theirs","_law_house_here","_law_runs","_law_more","_law_k"] ["_law_one","_law_other"] (bN Mt):=gA
theorem akD(F:gG K "_law_due" Mt f fd)(T:Txt mg t8 t6 tR tL)(amY:Cl P w K mg base 1 "_law_by_reading" ["_law_run"] TV):bM P w K mg base bR 2 f fd ["_law_one","_law_other"] N6:=by refine F.ok Cr (λvs H Q E h=>?_) (λcdv A outer s H vs Q E hr h=>?_);obtain ⟨x,y,hs,ks,ls,ls',rfl,_⟩:=h;rfl;obtain ⟨x,y,hs,ks,ls,ls',rfl,⟨a,x1,x2,rfl,ha,⟨ch,vh,rfl,hch,ph⟩,⟨cl,vl,rfl,hcl,pl⟩⟩,⟨b,y1,y2,rfl,hb,⟨dh,vk,rfl,uU,pk⟩,⟨dl,vm,rfl,hdl,pm⟩⟩,ft,fl,on,q⟩:=h;have fW:=dZ;refine ⟨_,(bf (pZ 2 Cr (iu aC)) (bf (pZ 3 Cr (jx (apo rfl) rfl T.dict PyProof.Rows.boot_dict (aq (jg (bQ:=bN Mt) (own:=["_law_house_here"]) (cap:=[]) (ix:=[]) rfl rfl gP (gj (pX cM (pV 1) aQ)) (λb=>(pH 0 ["_law_house_here"])) (λb=>ig) (λb=>(fJ (aq (pX cM (pV 0) aQ) (aq (pV 0) aC))))) aC))) (bf (jd je rfl (gj (pX cM (pV 0) aQ)) (pY 4 Cr) (bf (pZ 5 Cr (jx agZ rfl T.list PyProof.Rows.boot_list (aq (pX cM (pV 4) aQ) aC))) (bf (gD (Q0 (agc (kY hr) (pX cM (pV 4) aQ) (pV 3))) (bf (pZ 6 Cr (pX cM (ajd (pV 3) (pX cM (pV 4) aQ) ⟨rfl,rfl,rfl,rfl⟩) aQ)) (bf (pZ 5 Cr (cC adY (pV 5) (cC ape (iu (aq (fJ aC) aC)) (cC zL (cR jC rfl T.len iM (aq (pV 6) aC)) (cR jC rfl T.len iM (aq (pV 5) aC)))))) (bC (jd je rfl (uO rfl T.range (aq (cR jC rfl T.len iM (aq (pV 6) aC)) aC)) (pY 7 Cr) (bC (Ed (pC amY hr (aq (cR (Xx (P0:=P) (w0:=w) (K1:=kdS) (K2:=vK) (hd:=nrH) rfl rfl rfl) rfl T.sorted yQ (aq (jx (acZ (P0:=P) (w0:=w) rfl rfl rfl (hu8 hr)) rfl T.set Y8 (aq (cC pA (pX mJ (pV 5) (pV 7)) (pX cM (pV 6) (pV 7))) aC)) aC)) aC)) (aeb (pV 5) (pV 7) aaD))))))) gC) (bC (sW (rN uy zH Aq uN (pV 2) (aq (cC pA (jZ mZ (pV 4) mC (jk aQ)) (fJ (aq (jx kE rfl T.tuple jy (aq (pV 5) aC)) aC))) aC))))))) (bf (sW (rN uy Qa QM Rr (pV 2) (aq (jg (bQ:=bN Mt) (own:=["_law_house_here"]) (cap:=["_law_theirs"]) (ix:=[3]) rfl rfl gP (gj (pX cM (pV 1) aQ)) (λb=>(pH 0 ["_law_house_here","_law_theirs"])) (λb=>(Lx (Q0 (agc (kY hr) (pX cM (pV 0) aQ) (pV 1))))) (λb=>(pV 0))) aC))) (bC (cO (fJ (aq (jx kE rfl T.tuple jy (aq (pV 2) aC)) (aq (jx kE rfl T.tuple jy (aq (cR (Xx (P0:=P) (w0:=w) (K1:=kdS) (K2:=kdS) (hd:=ltH) rfl rfl rfl) rfl T.sorted yQ (aq (jx (acZ (P0:=P) (w0:=w) rfl rfl rfl (hu8 hr)) rfl T.set Y8 (aq (cC pA (pX cM (pV 0) aQ) (pX cM (pV 1) aQ)) aC)) aC)) aC)) aC))))))))),?_⟩;have l1:=ft.l1;have l2:=ft.l2;have lph:=ph.length;have lpk:=pk.length;refine ⟨cJ _,λF fF=>?_⟩;have s1:aD H (upd H F (.lst [])):=(aD.refl H).upd fF;generalize yc:upd H F (.lst [])=H1 at s1;have eF1:H1 F=some (.lst []):=(by rw [<- yc]; exact aZ);refine cL (aG.of (s1 _ _ hb)) (i:=0) (v:=.ref dh) (by rfl) ?_;refine ⟨dh,rfl,⟨_,aG.of (s1 _ _ uU)⟩,λD hD=>Ce (xs:=vk) (λi H'=>∃ ps:List (au × Key × V),cW H1 H' D (ps.map λp=>.ref p.1)/\(∀ p∈ps,H' p.1=some (.tup [kV p.2.1,p.2.2]))/\bw (mX H') (ps.map (·.2)) (ks.take i)) ⟨[],cW.start hD,(λp hp=>by cases hp),.nil⟩ (λi H' _ hz=>by obtain ⟨_,G,_⟩:=hz; exact aG.of (G.same _ _ (s1 _ _ uU))) (λH2 hz=>?_) (λi x H' hx hi hz b=>?_)⟩;obtain ⟨ps,G,hp,pT⟩:=hz;rw [lpk,gU] at pT;refine ⟨D,ps,rfl,G.at',hp,λT fT=>?_⟩;have em:tU [] (ps.map (·.2))=ps.map (·.2):=(by have z:=WR (ps.map (·.2)) [] (by rw [aaK pT,iT,jc];exact (iT.mp ft.d2).imp λh e=>h (rY e)) (λk _ z=>by cases z);simpa using z);rw [em];generalize ps.map (·.2)=kvs at pT;have s2:aD H2 (upd H2 T (.dK kvs)):=(aD.refl H2).upd fT;generalize eH3:upd H2 T (.dK kvs)=H3 at s2;have eT3:H3 T=some (.dK kvs):=(by rw [<- eH3]; exact aZ);have nT:H T=none:=(by cases e:H T with| none=>rfl| some o=>have:=G.same _ _ (s1 _ _ e); rw [fT] at this; cases this);have S3:aD H H3:=(s1.ao G.same).ao s2;have eF3:H3 F=some (.lst []):=s2 _ _ (G.same _ _ eF1);have pT3:=bG (λ_ _ z=>mX.ts z s2.aK) pT;clear eH3 yc em hp;refine cL (aG.of (S3 _ _ ha)) (i:=0) (v:=.ref ch) (by rfl) ?_;refine ⟨ch,rfl,⟨_,aG.of (S3 _ _ hch)⟩,nu (xs:=vh) (λi aj H'=>QX7 λ(vf:List V)(ms:List aP)(kvs:List (Key × V))(o4 o5 o6 o7:Option V)=>uV (aj=[aM a,aM b,aM F,aM T,o4,o5,o6,o7]) (H' F=some (.lst vf)) (bw (iG H') vf ms) (bw (λh m=>qj h (iK ks h) m) (hs.take i) ms) (H' T=some (.dK kvs)) (bw (mX H') kvs (ks.filter (iC (hs.take i)))) (aD H H')) ⟨[],[],kvs,none,none,none,none,rfl,eF3,.nil,.nil,eT3,(by rw [Xf.mpr (λk _=>by simp [iC])]; exact pT3),S3⟩ (λi aj H' _ hz=>by obtain ⟨_,_,_,_,_,_,_,_,_,_,_,_,_,s⟩:=hz; exact aG.of (s _ _ hch)) (λi v aj H4 hv hz=>?_) (fun aj H4 hz=>?_)⟩;obtain ⟨vf,ms,lD,o4,o5,o6,o7,rfl,eF,pf,pm4,eT,pT4,S4⟩:=hz;obtain ⟨h,hhi,hat⟩:=dM ph hv;have hm:=dB hhi;have hi:i<hs.length:=(mK.mp hhi).1;obtain ⟨c1,b1,rfl,e1,c5,vr,rfl,e5,pr⟩:=hat.ts S4.aK;refine dN λU1 pF=>?_;refine cL (aG.of e1) (i:=4) (v:=.ref c5) (by rfl) ?_;refine ⟨c5,vr,rfl,.inr (aG.of e5),λL fL=>?_⟩;show U1 _ _;subst pF;refine gE fL λH5 s5 eL=>?_;have lr:=pr.length;have lm4:=pm4.length;have lf:=pf.length;rw [eY] at lm4;have nin:h.name ∉ (hs.take i).map aP.name:=λz=>(by rw [LR] at z;obtain ⟨j,hj,ej⟩:=Im.mp z;rw [eY] at hj;rw [Lr] at ej;have g1:(hs.map aP.name)[j]?=some h.name:=(by rw [cT (by omega),ej]);have g2:(hs.map aP.name)[i]?=some h.name:=(by rw [cX,hhi]; rfl);have:=(Pn (by rw [aU] at hj |-; omega) ft.d1).mp (g1.ao g2.symm);omega);have aje:m9 (ks.filter (iC (hs.take i))) h.name=m9 ks h.name:=(by unfold m9;rw [List.find?_filter];congr 1;funext k;by_cases e:k.name=h.name;have:iC (hs.take i) k=true:=MJ.mpr (by rw [e]; exact nin);simp [this,e];simp [e]);have nF:F≠L:=cg eF fL;have nT':T≠L:=cg eT fL;refine vP (fun bJ H'=>QX6 λ(L:au)(zs:List V)(rs:List (List Row))(nP:List (Key × V))(o6 o7:Option V)=>ahE (bJ=[aM a,aM b,aM F,aM T,aM c1,aM L,o6,o7]) (H' L=some (.lst zs)) (bw (mq H') zs rs) (qF h.runs (iK ks h).runs rs) (zs.length<=60) (H' F=some (.lst vf)) (H' T=some (.dK nP)) (bw (mX H') nP (ks.filter (iC (hs.take (i+1))))) (H' c1=some (.tup [.str h.name,.int h.low,.int h.high,.int h.bV,.ref c5])) (bw (iG H') vf ms) (aD H H')) (λU hU=>?_) (fun bJ H' ok=>?_);have e1':=s5 _ _ e1;have eT5:=s5 _ _ eT;have eF5:=s5 _ _ eF;have pT5:=bG (λ_ _ z=>mX.ts z s5.aK) pT4;refine cL (aG.of e1') (i:=0) (v:=.str h.name) (by rfl) ?_;refine ⟨T,_,rfl,ji.k (k:=cB h.name) eT5,_,rfl,?_⟩;obtain ⟨t1,t2⟩:=Vm pT5 h.name;rw [aje] at t1 t2;have S5:=S4.ao s5;have rh:=ft.ra h hm;(cases hby:m9 ks h.name with| none =>rw [t1 hby];have et:iK ks h=h:=(by unfold iK; rw [hby]; rfl);refine hU _ _ ⟨L,vr,h.runs,lD,_,_,rfl,eL,bG (λ_ _ z=>z.ts s5.aK) pr,by rw [et]; exact afn λr hr=>(rh r hr).1,by have:=(ft.runs h hm).la; omega,eF5,eT5,?_,e1',bG (λ_ _ z=>z.ts s5.aK) pf,S5⟩;have ef:ks.filter (iC (hs.take (i+1)))=ks.filter (iC (hs.take i)):=aei λk hk=>(by rw [acq hhi];have:k.name≠h.name:=λe=>(by unfold m9 at hby;rw [Bf] at hby;exact bK (by simpa using e) (hby k hk));simp [this]);rw [ef]; exact pT5| some k =>obtain ⟨v,ev,hvk⟩:=t2 k hby;have et:iK ks h=k:=(by unfold iK; rw [hby]; rfl);have km:k∈ks:=(by rcases Qi (ks:=ks) (h:=h) with ⟨z,_⟩ | ⟨z,_⟩;rw [hby] at z; cases z;rw [et] at z; exact z);have fr:=ft.runs h hm;rw [et] at fr;have rk:=ft.rb k km;rw [ev];refine dN λU2 qY=>?_;refine ⟨T,rfl,.inl ⟨_,.inl eT5⟩,?_⟩;refine cL (aG.of e1') (i:=0) (v:=.str h.name) (by rfl) ?_;refine ⟨lD,cB h.name,v,eT5,rfl,ev,?_⟩;have tt6:cN H5 (upd H5 T (.dK (lY lD (cB h.name)))):=λa ys e=>(by rw [bx (λz=>by rw [z,eT5] at e; cases e)]; exact e);have S6:aD H (upd H5 T (.dK (lY lD (cB h.name)))):=λc o e=>(by rw [bx (cg e nT)]; exact S5 _ _ e);have pT6:bw (mX (upd H5 T (.dK (lY lD (cB h.name))))) (lY lD (cB h.name)) (ks.filter (iC (hs.take (i+1)))):=(by have z:=bG (λ_ _ z=>mX.ts z tt6) (ai6 pT5 h.name);rw [List.filter_filter] at z;have ef:ks.filter (iC (hs.take (i+1)))=ks.filter (λk=>(!decide (k.name=h.name)) && iC (hs.take i) k):=aei λk hk=>(by rw [acq hhi,Bool.and_comm]);rw [ef]; exact z);have nLT:L≠T:=gQ nT';have nFT:F≠T:=λz=>(by rw [z,eT] at eF; cases eF);have eT6:upd H5 T (.dK (lY lD (cB h.name))) T=some (.dK (lY lD (cB h.name))):=aZ;have eL6:upd H5 T (.dK (lY lD (cB h.name))) L=some (.lst vr):=(bx nLT).ao eL;have eF6:upd H5 T (.dK (lY lD (cB h.name))) F=some (.lst vf):=(bx nFT).ao eF5;have e16:=tt6 _ _ e1';have pr6:=bG (λ_ _ z=>mq.ts (s5.aK.ao tt6) z) pr;have pf6:=bG (λ_ _ z=>iG.ts (s5.aK.ao tt6) z) pf;have agr:=hvk.ts tt6;generalize upd H5 T (.dK (lY lD (cB h.name)))=H6 at S6 pT6 eT6 eL6 eF6 e16 pr6 pf6 agr;generalize lY lD (cB h.name)=aoD at pT6 eT6;clear tt6;obtain ⟨ck,bk,rfl,ek,c6,vb,rfl,e6,pb⟩:=agr;refine cL (aG.of ek) (i:=4) (v:=.ref c6) (by rfl) ?_;show U2 _ _;subst qY;refine dN λU3 tZ=>?_;refine ⟨cJ _,λt0 ft0=>?_⟩;refine gE ft0 λH7 s7 et0=>?_;refine ⟨by show 1<=aL; omega,λl1' agx=>?_⟩;refine gE agx λH8 s8 el1=>?_;have yj:=s7.ao s8;refine ⟨c6,vb,rfl,.inr (aG.of (yj _ _ e6)),?_⟩;refine ⟨L,vr,rfl,.inl (aY.of (yj _ _ eL6)),?_⟩;have lb6:=pb.length;have fla:=fr.la;have flb:=fr.lb;refine ⟨l1',(vb.length:Int)-(vr.length:Int),[.ref t0],rfl,rfl,el1,by omega,by omega,(by show 1 * _<=aL; omega),λp9 fp9=>?_⟩;generalize en:((vb.length:Int)-(vr.length:Int)).toNat=n;have ac2:(jF n [V.ref t0]).flatten=jF n (V.ref t0):=(by clear en;induction n with| zero=>rfl| succ n ih=>rw [wG,rO,ih,wG]; rfl);rw [ac2];refine gE fp9 λH9 s9 ep9=>?_;have yt:=yj.ao s9;refine ⟨L,p9,vr,_,rfl,rfl,yt _ _ eL6,ep9,by rw [Jj]; omega,λL2 fL2=>?_⟩;refine gE fL2 λou pB eL2=>?_;show U3 _ _;subst tZ;have xZ:=yt.ao pB;have S10:=S6.ao xZ;have als:ou t0=some (.tup []):=((s8.ao s9).ao pB) _ _ et0;have nL2:H L2=none:=(by cases e:H L2 with| none=>rfl| some o=>have:=(S6.ao yt) _ _ e; rw [fL2] at this; cases this);have pad:bw (mq ou) (vr++jF n (V.ref t0)) (h.runs++jF n []):=(by refine fY (bG (λ_ _ z=>mq.ts xZ.aK z) pr6) ?_;clear en ac2 ep9 eL2;induction n with| zero=>exact .nil| succ n ih=>rw [wG,wG]; exact .cons ⟨t0,[],rfl,als,.nil⟩ ih);have ajj:=bG (λ_ _ z=>mq.ts xZ.aK z) pb;have apL:(h.runs++jF n []).length=max h.runs.length k.runs.length:=(by rw [cQ,Jj]; omega);refine ⟨c6,vb,rfl,.inr (aG.of (xZ _ _ e6)),?_⟩;refine ⟨(vb.length:Int),rfl,by omega,by omega,zA (lo:=0) (n:=((vb.length:Int)).toNat) (λj aj H'=>kJ λ(zs:List V)(rs:List (List Row))(o7:Option V)=>uV (aj=[aM a,aM b,aM F,aM T,aM c1,aM L2,aM c6,o7]) (H' L2=some (.lst zs)) (bw (mq H') zs rs) (rs.length=max h.runs.length k.runs.length) ((∀(j':Nat)(q r:List Row),j'<j->k.runs[j']?=some q->rs[j']?=some r->uM (h.runs.getD j' []) q r)) ((∀(j':Nat),j<=j'->rs[j']?=(h.runs++jF n [])[j']?)) (aW L2 ou H')) ⟨_,_,o7,rfl,eL2,pad,apL,(λj' q r hj=>bK hj (ZD _)),(λj' _=>rfl),λb o _ e=>e⟩ (λj aj H' hj hz=>?_) (fun aj H' hz=>?_)⟩;obtain ⟨zs,rs,o7',rfl,eZ,pz,lrs,done,todo,sB⟩:=hz;have hj':j<vb.length:=(by omega);have tB:cN ou H':=λb xs e=>sB b _ (λz=>by rw [z,eL2] at e; cases e) e;obtain ⟨q0,hq0,rq⟩:=dM ajj (cT hj');have lzs:=pz.length;have hjz:j<zs.length:=(by omega);obtain ⟨p0,hp0,rp⟩:=dM pz (cT hjz);have ep0:p0=h.runs.getD j []:=(by rw [todo j (bB _)] at hp0;rcases qO j h.runs.length with z | z;rw [Dm z] at hp0;simp [oV,hp0];rw [Cv z] at hp0;have:p0=[]:=(by have:=dB hp0;exact (List.mem_replicate.mp this).2);rw [this];simp [oV,yd z]);have rq':=rq.ts tB;refine m7 (xs:=zs) eZ (by rw [Bs]; exact j9 (cT hjz)) ?_;refine cL (aG.of (tB _ _ (xZ _ _ e6))) (by rw [Bs]; exact j9 (cT hj')) ?_;obtain ⟨a1,u1,ea1,ha1,pa1⟩:=rp;obtain ⟨a2,u2,ea2,ha2,pa2⟩:=rq';have lu1:=pa1.length;have lu2:=pa2.length;have q17:=(rk q0 (dB hq0)).2;have p25:p0.length<=25:=(by rw [ep0];rcases qO j h.runs.length with z | z;have e0:h.runs.getD j []=h.runs[j]:=(by simp [oV,cT z]);rw [e0]; exact fr.fa _ (CN z);simp [oV,yd z]);refine ⟨a1,a2,u1,u2,ea1,ea2,ha1,ha2,by omega,λp11 H11 acW s11=>?_⟩;obtain ⟨us,eus,KN,Wm⟩:=ajx (bG (λ_ _ z=>z.ts s11.aK) (fY pa1 pa2));rw [eus] at acW;have key:∀ x∈us,∃ r∈p0++q0,x.1=zc r:=λx hx=>(by have z:x.1∈us.map (·.1):=iz hx;rw [KN] at z;obtain ⟨l,hl,e⟩:=cG.mp z;exact ⟨l,hl,e.symm⟩);have few:ST.oN us:=ST.oN.of (U:=(p0++q0).map zc) (by rw [aU,cQ]; omega) λx hx=>(by obtain ⟨l,hl,e⟩:=key x hx;rw [e]; exact iz hl);refine ⟨p11,us,rfl,acW,few,Wm,λS fS=>?_⟩;refine gE fS λH12 s12 eS=>?_;refine ⟨S,us,rfl,eS,few,(λx hx=>?_),(λx hx y hy e=>?_),λl ts jX wL kts pwt=>?_⟩;obtain ⟨r,_,e⟩:=key x hx;refine ⟨[],?_,λv hv=>by cases hv⟩;have z:=s12 _ _ (Wm x hx);rw [e] at z;rw [e,Ba]; exact z;obtain ⟨r,_,e1⟩:=key x hx;obtain ⟨r',_,e2⟩:=key y hy;rw [e1,e2,Ba,Ba] at e;rw [e1,e2,e];refine gE jX λH13 s13 el=>?_;have aeQ:=s12.ao s13;have ajD:bw (gW H13) (ts.map λx=>V.ref x.2) (ts.map λx=>nrH x.1)/\∀ r,r∈(ts.map λx=>nrH x.1)↔zc r∈ts.map (·.1):=(by have all:∀ x∈ts,∃ r∈p0++q0,x.1=zc r:=λx hx=>key x (wL x hx);have tat:∀ x∈ts,H13 x.2=some (.tup (x.1.map kV)):=λx hx=>aeQ _ _ (Wm x (wL x hx));refine ⟨?_,λr=>⟨λz=>?_,λz=>?_⟩⟩;clear kts pwt wL el;(induction ts with| nil=>exact .nil| cons x ts ih =>obtain ⟨r,hr',e⟩:=all x dg;have z:=tat x dg;rw [e] at z;refine .cons ⟨x.2,rfl,?_⟩ (ih (λy hy=>all y (dD _ hy)) (λy hy=>tat y (dD _ hy)));dsimp only;rw [e,Ba]; exact z);obtain ⟨x,hx,rfl⟩:=cG.mp z;obtain ⟨r',_,e⟩:=all x hx;rw [e,Ba];exact cG.mpr ⟨x,hx,e⟩;obtain ⟨x,hx,e⟩:=cG.mp z;exact cG.mpr ⟨x,hx,by rw [e,Ba]⟩);obtain ⟨pR,mR⟩:=ajD;have inR:∀ r,r∈(ts.map λx=>nrH x.1)↔r∈p0++q0:=λr=>(by rw [mR,kts,KN];exact ⟨λz=>by obtain ⟨y,hy,e⟩:=cG.mp z; rw [<- aj1 e]; exact hy,λz=>iz z⟩);have ndR:(ts.map λx=>nrH x.1).Nodup:=(by rw [iT,jc];exact pwt.imp λ{x y} h e=>by rw [e,(KR kdS vK).qg] at h; cases h);have lR:(ts.map λx=>nrH x.1).length<=50:=gw (ST.qW ndR λr hr'=>(inR r).mp hr') (by rw [cQ]; omega);refine ⟨l,_,_,rfl,el,pR,by omega,ndR,λz r H14 rz mem rise s14=>?_⟩;have Xr:aD H' H14:=(s11.ao aeQ).ao s14;have adX:=Xr _ _ eZ;refine setAt (j:=j) adX (by rw [Bs]; exact aoQ hjz) ?_;have ttZ:cN H14 (upd H14 L2 (.lst (zs.set j z))):=λa ys e=>(by rw [bx (λy=>by rw [y,adX] at e; cases e)]; exact e);refine ⟨zs.set j z,rs.set j r,_,rfl,aZ,?_,by rw [Ad]; exact lrs,λj' q r' hj2 hq hr'=>?_,λj' hj2=>?_,λb o nb e=>by rw [bx nb]; exact Xr _ _ (sB b o nb e)⟩;exact aar (bG (λ_ _ y=>mq.ts (Xr.aK.ao ttZ) y) pz) (rz.ts ttZ) j;rcases qO j' j with y | y;rw [DK (by omega)] at hr';exact done j' q r' y hq hr';have:j'=j:=(by omega);subst this;rw [hq0] at hq; cases hq;rw [Hq (by omega)] at hr';cases hr';rw [<- ep0];exact ⟨λx=>by rw [mem,inR,fQ],rise⟩;rw [DK (by omega)];exact todo j' (by omega);obtain ⟨zs,rs,o7',rfl,eZ,pz,lrs,done,todo,sB⟩:=hz;have tB:cN ou H':=λb xs e=>sB b _ (λz=>by rw [z,eL2] at e; cases e) e;have nn:((vb.length:Int)).toNat=k.runs.length:=(by omega);have lzs:=pz.length;have nF2:F≠L2:=cg (yt _ _ eF6) fL2;have nT2:T≠L2:=cg (yt _ _ eT6) fL2;refine hU _ _ ⟨L2,zs,rs,aoD,_,_,rfl,eZ,pz,?_,by omega,sB _ _ nF2 (xZ _ _ eF6),sB _ _ nT2 (xZ _ _ eT6),bG (λ_ _ z=>mX.ts z (xZ.aK.ao tB)) pT6,tB _ _ (xZ _ _ e16),bG (λ_ _ z=>iG.ts (xZ.aK.ao tB) z) pf6,λc o e=>sB c o (cg e nL2) (S10 _ _ e)⟩;rw [et];refine adS h.runs k.runs rs (λr hr'=>(rk r hr').1) lrs (λj q r hq hr'=>done j q r (by have:=(mK.mp hq).1; omega) hq hr') (λj hj=>?_);rw [todo j (by omega)];rcases qO j h.runs.length with z | z;rw [Dm z];rw [yd z,yd (by rw [cQ,Jj]; omega)]);obtain ⟨L',zs,rs,nP,o6',o7',rfl,eL',pz,mr,lz,eF',eT',pT',e1',pf',S'⟩:=ok;refine ⟨.inl ⟨rfl,_,aY.of eF'⟩,?_⟩;refine ⟨c1,_,rfl,e1',λp1 H6 hp1 s6=>?_⟩;rw [J0] at hp1;refine ⟨L',zs,rfl,.inl ⟨aY.of (s6 _ _ eL'),λt gZ=>?_⟩⟩;refine gE gZ λH7 s7 et=>?_;refine ⟨by show 1<=aL; omega,λt2 jN=>?_⟩;have s8:aD H7 (upd H7 t2 (.tup [.ref t])):=(aD.refl H7).upd jN;refine ⟨p1,t2,Lk h,[.ref t],rfl,rfl,s8 _ _ (s7 _ _ hp1),aZ,by show 4+1<=aL; omega,λp3 H8 hp3 s9=>?_⟩;have yj:aD H' H8:=(s6.ao s7).ao (s8.ao s9);have eF8:=yj _ _ eF';refine ⟨F,vf,_,rfl,rfl,eF8,by omega,?_⟩;have tt:cN H8 (upd H8 F (.lst (vf++[.ref p3]))):=λa ys e=>(by rw [bx (λz=>by rw [z,eF8] at e; cases e)]; exact e);have nTF:T≠F:=λz=>(by rw [z,eF'] at eT'; cases eT');have S8:=S'.ao yj;have nFH:H F=none:=fF;refine ⟨vf++[.ref p3],ms++[⟨h.name,h.low,h.high,h.bV,rs⟩],nP,_,_,_,_,rfl,aZ,?_,?_,(bx nTF).ao (yj _ _ eT'),bG (λ_ _ z=>mX.ts (mX.ts z yj.aK) tt) pT',λc o e=>by rw [bx (cg e nFH)]; exact S8 _ _ e⟩;refine fY (bG (λ_ _ z=>(z.ts yj.aK).ts tt) pf') (.cons ⟨p3,.ref t,rfl,tt _ _ hp3,t,zs,rfl,tt _ _ ((s8.ao s9) _ _ et),?_⟩ .nil);exact bG (λ_ _ z=>(z.ts yj.aK).ts tt) pz;rw [dI,hhi];exact fY pm4 (.cons ⟨rfl,rfl,rfl,rfl,mr⟩ .nil);obtain ⟨vf,ms,lD,o4,o5,o6,o7,rfl,eF,pf,pm4,eT,pT4,S4⟩:=hz;rw [lph,gU] at pm4 pT4;have lm4:=pm4.length;have lf:=pf.length;refine ⟨.inl ⟨rfl,_,aY.of eF⟩,?_⟩;refine cL (aG.of (S4 _ _ hb)) (i:=0) (v:=.ref dh) (by rfl) ?_;refine ⟨dh,rfl,⟨_,aG.of (S4 _ _ uU)⟩,λD3 hD3=>Q9 (R:=iG H4) (R':=iG) (F:=λ(k k':aP)=>k=k') (keep:=iC hs) (λs r=>r.ts s.aK) (λe r=>r.ts (xq e)) hD3 (S4 _ _ uU) (by omega) (bG (λ_ _ z=>z.ts S4.aK) pk) (λi x k H5 hi rx s5 b N Q1 n1 q1=>?_) (λws ms2 H5 s5 pQ pw pf2=>?_)⟩;have km:=dB hi;obtain ⟨c1,b1,rfl,e1,rest⟩:=id rx;refine cL (aG.of (s5 _ _ e1)) (i:=0) (v:=.str k.name) (by rfl) ?_;refine ⟨T,_,rfl,ji.k (k:=cB k.name) (s5 _ _ eT),_,rfl,?_⟩;have ev:(dW lD (cB k.name)).isSome=iC hs k:=(by obtain ⟨t1,t2⟩:=Vm pT4 k.name;cases z:iC hs k with| true =>have hb':∃ k',m9 (ks.filter (iC hs)) k.name=some k':=(by cases y:m9 (ks.filter (iC hs)) k.name with| some k'=>exact ⟨k',rfl⟩| none =>unfold m9 at y;rw [Bf] at y;exact bK (by simp) (y k (xr.mpr ⟨km,z⟩)));obtain ⟨k',hk'⟩:=hb';obtain ⟨v,ev,_⟩:=t2 k' hk';rw [ev]; rfl| false =>rw [t1];rfl;unfold m9;rw [Bf];intro k' hk' e;have e':k'.name=k.name:=(by simpa using e);have m:=xr.mp hk';have:k'=k:=aa5 ft.d2 m.1 km e';rw [this,z] at m; cases m.2);rw [ev];refine gB (λz=>?_) (λz=>?_);exact q1 z _ _ k (aD.refl _) (rx.ts s5.aK) rfl;exact n1 (IW.mpr z) _ (aD.refl _);have ek2:ms2=ks.filter (iC hs):=(by have key:∀{l m:List aP},bw (λ(k k':aP)=>k=k') l m->m=l:=λz=>(by induction z with| nil=>rfl| cons h _ ih=>rw [ih,h]);exact key pf2);subst ek2;have lw:=pw.length;have lfi:(ks.filter (iC hs)).length<=ks.length:=Gn _ _;have eF5:=s5 _ _ eF;refine ⟨F,D3,vf,ws,rfl,rfl,eF5,pQ,by omega,?_⟩;have tt:cN H5 (upd H5 F (.lst (vf++ws))):=λa ys e=>(by rw [bx (λz=>by rw [z,eF5] at e; cases e)]; exact e);have S6:aD H (upd H5 F (.lst (vf++ws))):=λc o e=>(by rw [bx (cg e fF)]; exact (S4.ao s5) _ _ e);have pf6:bw (iG (upd H5 F (.lst (vf++ws)))) (vf++ws) (ms++ks.filter (iC hs)):=fY (bG (λ_ _ z=>(z.ts s5.aK).ts tt) pf) (bG (λ_ _ z=>z.ts tt) pw);generalize eH6:upd H5 F (.lst (vf++ws))=H6 at S6 pf6;have eF6:H6 F=some (.lst (vf++ws)):=(by rw [<- eH6]; exact aZ);clear eH6 tt;refine ⟨F,_,rfl,.inl ⟨aY.of eF6,λt1 gZ=>?_⟩⟩;refine gE gZ λH7 s7 lK=>?_;have S7:=S6.ao s7;refine cL (aG.of (S7 _ _ ha)) (i:=1) (v:=.ref cl) (by rfl) ?_;refine cL (aG.of (S7 _ _ hb)) (i:=1) (v:=.ref dl) (by rfl) ?_;have g1:=fl.l1;have g2:=fl.l2;have lpl:=pl.length;have lpm:=pm.length;refine ⟨cl,dl,vl,vm,rfl,rfl,S7 _ _ hcl,S7 _ _ hdl,by omega,λp8 H8 hp8 s8=>?_⟩;have S8:=S7.ao s8;obtain ⟨us,eus,KN,hT8⟩:=agy (bG (λ_ _ z=>z.ts S8.aK) (fY pl pm));rw [eus] at hp8;have key:∀ x∈us,∃ l∈ls++ls',x.1=qU l:=λx hx=>(by have z:x.1∈us.map (·.1):=iz hx;rw [KN] at z;obtain ⟨l,hl,e⟩:=cG.mp z;exact ⟨l,hl,e.symm⟩);have few:ST.oN us:=ST.oN.of (U:=(ls++ls').map qU) (by rw [aU,cQ]; omega) λx hx=>(by obtain ⟨l,hl,e⟩:=key x hx;rw [e]; exact iz hl);refine ⟨p8,us,rfl,hp8,few,hT8,λS fS=>?_⟩;refine gE fS λH9 s9 eS=>?_;refine ⟨S,us,rfl,eS,few,(λx hx=>?_),(λx hx y hy e=>?_),λl ts jX wL kts pwt=>?_⟩;obtain ⟨l,_,e⟩:=key x hx;refine ⟨[.int l.2.1,vW l.2.2],?_,λv hv=>?_⟩;have z:=s9 _ _ (hT8 x hx);rw [e,Ys] at z;rw [e,Y0]; exact z;rcases dF.mp hv with z | z;rw [z]; rfl;rw [gY.mp z]; cases l.2.2 <;> rfl;obtain ⟨l,hl,e1⟩:=key x hx;obtain ⟨l',hl',e2⟩:=key y hy;rw [e1,e2,Y0,Y0] at e;rw [e1,e2,Vf on l hl l' hl' e];refine gE jX λou pB el=>?_;refine ⟨l,_,rfl,.inl ⟨aY.of el,λt2 jN=>?_⟩⟩;refine gE jN λH11 s11 ni=>?_;refine ⟨by show 2<=aL; omega,λt3 tY=>?_⟩;have s12:aD H11 (upd H11 t3 (.tup [.ref t1,.ref t2])):=(aD.refl H11).upd tY;have R4:aD H7 (upd H11 t3 (.tup [.ref t1,.ref t2])):=(s8.ao s9).ao ((pB.ao s11).ao s12);have lat:∃ ns,bw (jw (upd H11 t3 (.tup [.ref t1,.ref t2]))) (ts.map λx=>V.ref x.2) ns/\ns.map qU=ts.map (·.1):=(by have all:∀ x∈ts,∃ l∈ls++ls',x.1=qU l:=λx hx=>key x (wL x hx);have tat:∀ x∈ts,upd H11 t3 (.tup [.ref t1,.ref t2]) x.2=some (.tup (x.1.map kV)):=λx hx=>((s9.ao pB).ao (s11.ao s12)) _ _ (hT8 x (wL x hx));clear kts pwt wL el ni;induction ts with| nil=>exact ⟨[],.nil,rfl⟩| cons x ts ih =>obtain ⟨ns,p1,p2⟩:=ih (λy hy=>all y (dD _ hy)) (λy hy=>tat y (dD _ hy));obtain ⟨l,hl,e⟩:=all x dg;have z:=tat x dg;rw [e,Ys] at z;exact ⟨l :: ns,.cons ⟨x.2,rfl,z⟩ p1,by rw [eV,eV,e,p2]⟩);obtain ⟨ns,pns,ens⟩:=lat;refine q _ (ms++ks.filter (iC hs)) ns _ ⟨t3,.ref t1,.ref t2,rfl,aZ,⟨t1,_,rfl,R4 _ _ lK,bG (λ_ _ z=>(z.ts s7.aK).ts R4.aK) pf6⟩,⟨t2,_,rfl,s12 _ _ ni,pns⟩⟩ ⟨⟨ms,rfl,pm4⟩⟩ ⟨λx=>?_,?_⟩ (S7.ao R4);have e1:x∈ns↔qU x∈ns.map qU:=⟨λz=>iz z,λz=>by obtain ⟨y,hy,e⟩:=cG.mp z; rw [<- acM e]; exact hy⟩;rw [e1,ens,kts,KN,<- fQ];exact ⟨λz=>by obtain ⟨y,hy,e⟩:=cG.mp z; rw [<- acM e]; exact hy,λz=>iz z⟩;have e2:ns.map cu=ts.map λx=>ltH x.1:=(by have z:=fG (wO ltH) ens;rw [jM,jM] at z;exact z);rw [e2,jc];refine pwt.imp λ{x y} h=>?_;exact h;obtain ⟨ps,G,hp,pT⟩:=hz;obtain ⟨k,hki,hk⟩:=dM pk hx;obtain ⟨c1,b1,rfl,e1,rest⟩:=id (hk.ts (s1.ao G.same).aK);refine cL (aG.of e1) (i:=0) (v:=.str k.name) (by rfl) ?_;refine ⟨by show 2<=aL; omega,λt gZ=>?_⟩;have s4:aD H' (upd H' t (.tup [.str k.name,.ref c1])):=(aD.refl H').upd gZ;have G3:=G.more s4;have lps:=pT.length;rw [aU,eY] at lps;have tt:cN (upd H' t (.tup [.str k.name,.ref c1])) (upd (upd H' t (.tup [.str k.name,.ref c1])) D (.lst ((ps.map λp=>V.ref p.1)++[V.ref t]))):=λa ys e=>(by rw [bx (λz=>by rw [z,G3.at'] at e; cases e)]; exact e);refine ⟨_,G3.at',by rw [aU]; omega,nx hi ⟨ps++[(t,cB k.name,.ref c1)],?_,λp hp'=>?_,?_⟩⟩;rw [dJ]; exact G3.put hD _;rcases fQ.mp hp' with z | z;exact tt _ _ (s4 _ _ (hp p z));rw [gY.mp z]; exact tt _ _ aZ;rw [dJ,dI,hki];exact fY (bG (λ_ _ z=>mX.ts (mX.ts z s4.aK) tt) pT) (.cons ⟨rfl,(hk.ts ((s1.ao G.same).ao s4).aK).ts tt⟩ .nil)
structure Bc(R r:List Row):Prop where
 ne:r≠[]
 rise:(r.map iY).Pairwise (·<·)
 sub:∀ a∈r,a∈R
def lZ:List (List Row)->List (List Row)->Prop
 | _,[]=>True
 | R :: Rs,r :: rs=>Bc R r/\lZ Rs rs
 | [],_ :: _=>False
theorem lZ.length:∀{Rs rs:List (List Row)},lZ Rs rs->rs.length<=Rs.length
 | _,[],_=>cJ _
 | _ :: _,_ :: _,h=>Nat.succ_le_succ (lZ.length h.2)
 | [],_ :: _,h=>h.elim
theorem lZ.get:∀{Rs rs:List (List Row)},lZ Rs rs->∀{j:Nat}{r:List Row},rs[j]?=some r->∃ R,Rs[j]?=some R/\Bc R r
 | _,[],_,_,_,e=>by simp at e
 | R :: _,_ :: _,h,0,_,e=>by cases e; exact ⟨R,rfl,h.1⟩
 | _ :: _,_ :: _,h,j+1,r,e=>lZ.get h.2 (j:=j) e
 | [],_ :: _,h,_,_,_=>h.elim
theorem acd(h:(r.map iY).Pairwise (·<·)):Ae r:=by rw [jc] at h;unfold Ae;rw [jc];exact h.imp λ{a b} z=>by show oZ vK kdS (a.2,a.1) (b.2,b.1)=true;simp [oZ,vK,z,Int.ne_of_lt z]
variable{R:List Row}
theorem Bc.self(h:Bc R r):uM r r r:=⟨λa=>⟨.inl,λz=>z.elim id id⟩,acd h.rise⟩
theorem lZ.self:∀{Rs a:List (List Row)},lZ Rs a->qF a a a
 | _,[],_=>rfl
 | _ :: _,_ :: _,h=>⟨h.1.self,lZ.self h.2⟩
 | [],_ :: _,h=>h.elim
theorem lZ.full:∀{a:List (List Row)},(∀ r∈a,PX r)->lZ a a
 | [],_=>trivial
 | r :: a,h=>⟨⟨(h r dg).ne,(h r dg).rise,λ_ z=>z⟩,lZ.full λx hx=>h x (dD _ hx)⟩
theorem afl:∀{a b r:List (List Row)},qF a b r->∀ x,x∈r.flatten↔x∈a.flatten\/x∈b.flatten
 | [],_,_,m,x=>by cases m; simp
 | _ :: _,[],_,m,x=>by cases m; simp
 | p :: a,q :: b,r :: rs,m,x=>by rw [rO,rO,rO,fQ,fQ,fQ,m.1.mem,afl m.2];constructor;rintro ((h | h) | (h | h)) <;> simp [h];rintro ((h | h) | (h | h)) <;> simp [h]
 | _ :: _,_ :: _,[],m,_=>m.elim
theorem lZ.rows:∀{Rs rs:List (List Row)},lZ Rs rs->∀ x∈rs.flatten,x∈Rs.flatten
 | _,[],_,_,hx=>by simp at hx
 | R :: Rs,r :: rs,h,x,hx=>by rw [rO,fQ] at hx |-;exact hx.imp (h.1.sub x) (lZ.rows h.2 x)
 | [],_ :: _,h,_,_=>h.elim
structure zy(h k:aP):Prop where
 name:k.name=h.name
 low:k.low=h.low
 high:k.high=h.high
 bV:k.bV=h.bV
 runs:lZ h.runs k.runs
variable{n:Str}
theorem zy.names{k:aP}(p:zy h k)(hn:n∈fH k):n∈fH h:=by obtain ⟨r,hr,rfl⟩:=cG.mp hn;exact iz (p.runs.rows r hr)
structure Part(hs:List aP)(ls:List bH)(ks:List aP)(ms:List bH):Prop where
 ne:1<=ks.length
 sub:∀ k∈ks,∃ h∈hs,zy h k
 nd:(ks.map aP.name).Nodup
 R3:∀ l∈ms,l∈ls
 amN:∀ l∈ms,l.1.1∈bA ks/\l.1.2∈bA ks
 rise:(ms.map cu).Pairwise (λa b=>jE a b=true)
structure Dy(hs:List aP)(ls:List bH):Prop where
 gh:En hs
 gl:zX hs ls
 ten:(bA hs).length<=10
 six:ls.length<=6
section
variable{hs ks qy yW ms:List aP}{ls ns ns1 ns2:List bH}(W:Dy hs ls)
theorem aiH(nd:(bA hs).Nodup)(hh:h∈hs):(fH h).Nodup:=by unfold bA at nd;rw [iT,aay] at nd;exact iT.mpr (nd.1 h hh)
theorem MF(nd:(bA hs).Nodup)(ha:a∈hs)(hb:b∈hs)(h1:n∈fH a)(h2:n∈fH b):a.name=b.name:=by have e1:=owner nd ha h1;rw [owner nd hb h2] at e1;exact (jK e1).symm
theorem amv{k:aP}(nd:(fH h).Nodup)(p:zy h k):(fH k).Nodup:=by have hd:∀{Rs rs:List (List Row)},lZ Rs rs->(Rs.flatten.map cu).Nodup->(rs.flatten.map cu).Nodup:=(by intro Rs rs;induction rs generalizing Rs with| nil=>intro _ _; exact .nil| cons r rs ih =>cases Rs with| nil=>intro h; exact h.elim| cons R Rs =>intro h nd;rw [rO,dJ,vA] at nd |-;obtain ⟨n1,n2,n3⟩:=nd;refine ⟨?_,ih h.2 n2,λx hx y hy e=>?_⟩;rw [iT,jc];have rs':=h.1.rise;rw [jc] at rs';refine rs'.imp_of_mem λ{a b} ha hb lt e=>?_;have:a=b:=(by obtain ⟨i,hi,ei⟩:=Eo (h.1.sub a ha);obtain ⟨j,hj,ej⟩:=Eo (h.1.sub b hb);have a1:(R.map cu)[i]?=some a.1:=(by rw [cX,cT hi,ei]; rfl);have a2:(R.map cu)[j]?=some a.1:=(by rw [cX,cT hj,ej,e]; rfl);have ij:=(Pn (by rw [aU]; exact hi) n1).mp (a1.ao a2.symm);subst ij;rw [<- ei,ej]);rw [this] at lt; omega;obtain ⟨a,ha,rfl⟩:=cG.mp hx;obtain ⟨b,hb,rfl⟩:=cG.mp hy;exact n3 _ (iz (h.1.sub a ha)) _ (iz (h.2.rows b hb)) e);exact hd p.runs nd
theorem apg(h:(r.map iY).Pairwise (·<·)):r.Nodup:=by rw [jc] at h;exact iT.mpr (h.imp λ{a b} h e=>by rw [e] at h; omega)
theorem QL{l:List bH}(h:(l.map cu).Pairwise (λa b=>jE a b=true)):l.Nodup:=by rw [jc] at h;exact iT.mpr (h.imp λ{a b} h e=>by rw [e,Kc.qg] at h; cases h)
include W
theorem Part.len(p:Part hs ls ks ns):ks.length<=6:=by have z:=ST.qW p.nd (U:=hs.map aP.name) λn hn=>(by obtain ⟨k,hk,rfl⟩:=cG.mp hn;obtain ⟨h,hh,q⟩:=p.sub k hk;rw [q.name]; exact iz hh);rw [aU,aU] at z;exact gw z W.gh.hi
theorem zy.good{k:aP}(hh:h∈hs)(p:zy h k):uH k:=by have g:=W.gh.all h hh;refine ⟨by rw [p.name]; exact g.name,by rw [p.low,p.high]; exact g.wide,by rw [p.bV]; exact g.bV,gw p.runs.length g.few,λr hr=>?_⟩;obtain ⟨j,hj,ej⟩:=Eo hr;obtain ⟨R,eR,pr⟩:=p.runs.get (j:=j) (r:=r) (by rw [cT hj,ej]);have gR:=g.runs R (dB eR);exact ⟨pr.ne,gw (ST.qW (apg pr.rise) pr.sub) gR.few,λa ha=>gR.names a (pr.sub a ha),pr.rise⟩
theorem Part.al6(p:Part hs ls ks ns):En ks:=by have nds:(bA ks).Nodup:=(by unfold bA;rw [iT,aay];refine ⟨λk hk=>?_,?_⟩;obtain ⟨h,hh,q⟩:=p.sub k hk;exact iT.mp (amv (aiH W.gh.rows hh) q);have nd:=p.nd;rw [iT,jc] at nd;refine nd.imp_of_mem λ{k1 k2} m1 m2 ne x hx y hy e=>?_;obtain ⟨h1,hh1,q1⟩:=p.sub k1 m1;obtain ⟨h2,hh2,q2⟩:=p.sub k2 m2;subst e;exact ne (by rw [q1.name,q2.name]; exact MF W.gh.rows hh1 hh2 (q1.names hx) (q2.names hy)));refine ⟨p.ne,p.len W,λk hk=>?_,p.nd,nds,gw (ST.qW nds (U:=bA hs) λn hn=>?_) W.gh.few⟩;obtain ⟨h,hh,q⟩:=p.sub k hk;exact q.good W hh;obtain ⟨k,hk,hn⟩:=jR.mp hn;obtain ⟨h,hh,q⟩:=p.sub k hk;exact jR.mpr ⟨h,hh,q.names hn⟩
theorem Part.ai8(p:Part hs ls ks ns):zX ks ns:=by refine ⟨gw (ST.qW (QL p.rise) p.R3) W.gl.few,λl hl=>?_,p.rise⟩;have g:=W.gl.all l (p.R3 l hl);obtain ⟨r1,r2⟩:=p.amN l hl;obtain ⟨k1,m1,n1⟩:=jR.mp r1;obtain ⟨k2,m2,n2⟩:=jR.mp r2;obtain ⟨h1,hh1,q1⟩:=p.sub k1 m1;obtain ⟨h2,hh2,q2⟩:=p.sub k2 m2;obtain ⟨g1,gm1,g2,gm2,gn1,gn2,ne⟩:=g.ZF;refine ⟨g.sent,g.taken,g.least,g.most,k1,m1,k2,m2,n1,n2,λe=>ne ?_⟩;rw [MF W.gh.rows gm1 hh1 gn1 (q1.names n1),MF W.gh.rows gm2 hh2 gn2 (q2.names n2),<- q1.name,<- q2.name,e]
end
theorem O9(nd:(ks.map aP.name).Nodup){k:aP}(hk:k∈ks)(e:k.name=h.name):iK ks h=k:=by rcases Qi (ks:=ks) (h:=h) with ⟨a,_⟩ | ⟨a,b,_⟩;unfold m9 at a;rw [Bf] at a;exact bK (by simpa using e) (a k hk);exact aa5 nd a hk (b.ao e.symm)
section
variable{hs ks qy yW ms:List aP}{ls ns ns1 ns2:List bH}(W:Dy hs ls)
include W
variable{first:List aP}
omit W in
theorem aiI(pf:bw (λh m=>qj h (iK yW h) m) qy first)(hh:h∈qy):∃ m∈first,qj h (iK yW h) m:=by induction pf with| nil=>cases hh| cons a _ ih =>rcases dF.mp hh with e | e;rw [e]; exact ⟨_,dg,a⟩;obtain ⟨m,hm,z⟩:=ih e;exact ⟨m,dD _ hm,z⟩
omit W in
theorem ak3(pf:bw (λh m=>qj h (iK yW h) m) qy first):first.map aP.name=qy.map aP.name:=by induction pf with| nil=>rfl| cons a _ ih=>rw [eV,eV,a.name,ih]
omit W in
theorem af0{aJ bO:Type}{F:aJ->bO->Prop}(f:aJ->bO):∀{l:List aJ},(∀ x∈l,F x (f x))->bw F l (l.map f)
 | [],_=>.nil
 | x :: l,h=>.cons (h x dg) (af0 f λy hy=>h y (dD _ hy))
omit W in
theorem filter_none{l:List aP}(h:∀ k∈l,k.name∈qy.map aP.name):l.filter (iC qy)=[]:=List.filter_eq_nil_iff.mpr λk hk z=>MJ.mp z (h k hk)
omit W in
end
theorem Wn(hu:X.A.units+64<cLine):cP X (gK .Eq) (λx y H Q=>kJ λa b xs=>jt (x=.ref a) (y=.ref b) (H a=some (.lst xs)) (H b=some (.lst [])) (Q (.bl xs.isEmpty) H)):=by intro ak s aj H x y v u Q I rx ry h;obtain ⟨a,b,xs,rfl,rfl,ha,hb,q⟩:=h;cases xs with| nil=>exact HN hu ak s aj H _ _ v u Q I rx ry ⟨.list [],.list [],.lst (aY.of ha) .nil,.lst (aY.of hb) .nil,rfl,rfl,q⟩| cons y ys =>cases rx;cases ry;obtain ⟨its,r1,p1,_⟩:=I.list (aY.of ha);obtain ⟨its2,r2,p2,_⟩:=I.list (aY.of hb);have e:its2=[]:=r2.Az.mpr rfl;subst e;cases r1 with| cons r3 r4=>exact SeqAt.eq_list_lengthsAt p1.isList p2.isList (by simp) (by omega) ⟨.bl false,H,I,rfl,q⟩
theorem gJ{p:au}(h:fV H p)(s:aD H H'):fV H' p:=by obtain ⟨n,e,n0⟩:=h;exact ⟨n,s _ _ e,n0⟩
theorem wF{t:TS}(h:∀ U:St->Hp->Prop,U=u D->t { D with nx:=U } aj H):Ez t u D aj H:=h (u D) rfl
variable{tt:TT}{ta tb:TS}
theorem ifU(Ok:Bool->Hp->Prop)(h:∀ R:Bool->Hp->Prop,(∀ c H1,Ok c H1->R c H1)->tt aj H R)(h2:∀ c H1,Ok c H1->if c=true then ta D aj H1 else tb D aj H1):Er tt ta tb D aj H:=h _ h2
variable{ss:List Row}{ns:List Str}
theorem acS(p:bw (λ(r:Row)(n:Str)=>n=r.1) ss ns):ns=ss.map cu:=by induction p with| nil=>rfl| cons h _ ih=>rw [ih,h]; rfl
variable{ws:List V}
theorem aas(p:bw (λ(v:V)(n:Str)=>v=V.str n) ws ns):ws=ns.map V.str:=by induction p with| nil=>rfl| cons h _ ih=>rw [ih,h]; rfl
theorem O4(h:dG n):pW (.str n)=true:=by have z:=h.ok;simp [pW,z]
theorem JN(xs:List V)(k:Nat):lE xs none (some (k:Int))=xs.take k:=by unfold lE;rw [HT.Q6,HT.wA,Pr,Qp,Oj];omega
variable{rs:List (List Row)}
theorem ak5{Rs:List (List Row)}{m:Nat}(p:bw Bc (Rs.take m) rs):lZ Rs rs:=by induction rs generalizing Rs m with| nil=>cases Rs <;> trivial| cons r rs ih =>cases Rs with| nil=>rw [List.take_nil] at p; cases p| cons R Rs =>cases m with| zero=>cases p| succ m =>cases p with| cons h t=>exact ⟨h,ih t⟩
theorem agw(g:PX R)(s:r.Sublist R)(ne:r≠[]):Bc R r:=⟨ne,(g.rise.sublist (s.map _)),λa ha=>s.subset ha⟩
theorem Wx(ks:List aP)(k:aP):bA (ks++[k])=bA ks++fH k:=by unfold bA;rw [rM];simp
theorem ald:n∈bA ks.reverse↔n∈bA ks:=by unfold bA;simp only [jR,Nk]
structure PaI(hs:List aP)(i:Nat)(ks:List aP):Prop where
 sub:∀ k∈ks,∃ h∈hs,zy h k
 nm:(ks.map aP.name).Sublist ((hs.take i).map aP.name)
 few:(bA ks).length<=1000 * i
theorem PaI.skip(p:PaI hs i ks):PaI hs (i+1) ks:=by refine ⟨p.sub,p.nm.ao (List.Sublist.map _ ?_),by have:=p.few; omega⟩;rw [dI];exact aaj _ _
theorem PaI.put(p:PaI hs i ks)(e:hs[i]?=some h)(pr:lZ h.runs rs)(lf:rs.flatten.length<=1000):PaI hs (i+1) (ks++[⟨h.name,h.low,h.high,h.bV,rs⟩]):=by refine ⟨λk hk=>?_,?_,?_⟩;rcases fQ.mp hk with z | z;exact p.sub k z;rw [gY.mp z];exact ⟨h,dB e,rfl,rfl,rfl,rfl,pr⟩;rw [dJ,dI,e,dJ];exact p.nm.append (Lj _);rw [Wx,cQ];have:=p.few;have e2:(fH ⟨h.name,h.low,h.high,h.bV,rs⟩).length=rs.flatten.length:=(by unfold fH qJ; rw [aU]);omega
def Wj:Sp:=λvs H Q _=>mz λ(p:au)(x:V)(hs:List aP)(ls:List bH)=>jt (vs=[.ref p,x]) (fV H p) (iI H x hs ls) (Dy hs ls) (∀(z:V)(ks:List aP)(ns:List bH)(H':Hp),iI H' z ks ns->Part hs ls ks ns->fV H' p->aW p H H'->Q z H')
theorem pK:fB ["_law_pack_here","_law_ledger_here","_law_houses_here","_law_names_here","_law_name","_law_low","_law_high","_law_drift","_law_runs","_law_found","_law_run","_law_kept","_law_letters_here","_law_letter"] ["_law_pack_here","_law_ledger_here"] (bN Mf):=gA
theorem akP(F:gG K "_law_part" Mf f fd)(T:Txt mg t8 t6 tR tL)(fZ:Cl P w K mg base 1 "_law_take" ["_law_pack_here","_law_size"] yP):bM P w K mg base bR 2 f fd ["_law_pack_here","_law_ledger_here"] Wj:=by refine F.ok pK (λvs H Q E h=>?_) (λcdv A outer s H vs Q E hr h=>?_);obtain ⟨p,x,hs,ls,rfl,_⟩:=h;rfl;obtain ⟨p,x,hs,ls,rfl,pk,⟨a,x1,x2,rfl,ha,⟨ch,vh,rfl,hch,ph⟩,⟨cl,vl,rfl,hcl,pl⟩⟩,W,q⟩:=h;have fW:=dZ;refine ⟨_,(bf (pZ 2 pK (iu aC)) (bf (pZ 3 pK (iu aC)) (bf (jd je rfl (gj (pX cM (pV 1) aQ)) (j8 rfl (cZ (pY 4 pK) (cZ (pY 5 pK) (cZ (pY 6 pK) (cZ (pY 7 pK) (cZ (pY 8 pK) jV)))))) (bf (pZ 9 pK (iu aC)) (bf (jd je rfl (gj (jZ mZ (pV 8) mC (jk (pC fZ hr (aq (pV 0) (aq (cC gM (cR jC rfl T.len iM (aq (pV 8) aC)) aQ) aC)))))) (pY 10 pK) (bf (afo (i:=11) pK.nd rfl rfl (bQ:=bN Mf) (own:=["_law_row"]) (cap:=["_law_pack_here"]) (ix:=[0]) rfl rfl gP (gj (pV 10)) (λb=>(pH 0 ["_law_row","_law_pack_here"])) (λb=>(Lx (gF yX (pC fZ hr (aq (pV 1) (aq aQ aC))) aQ (cV _)))) (λb=>(pV 0))) (bf (gD (gF (Wn hr.units) (pV 11) (iu aC) (cV _)) (bC (pZ 11 pK (iu (aq (Cg cM (pV 10) (pC fZ hr (aq (pV 0) (aq (cR jC rfl T.len iM (aq (pV 10) aC)) aC))) (λ_ _=>rfl)) aC)))) gC) (bf (sW (rN uy Qa QM Rr (pV 3) (aq (jg (bQ:=bN Mf) (own:=["_law_row","_law_reading"]) (cap:=[]) (ix:=[]) rfl rfl gP (uI (pV 11)) (λb=>(j8 rfl (cZ (pH 0 ["_law_row","_law_reading"]) (cZ (pH 1 ["_law_row","_law_reading"]) jV)))) (λb=>ig) (λb=>(pV 0))) aC))) (bC (sW (rN uy zH Aq uN (pV 9) (aq (jx kE rfl T.tuple jy (aq (pV 11) aC)) aC)))))))) (bC (gD (uo (gF (ana hr.units) (pV 9) (iu aC) (cV _)) (pw_or1 (gF oEq (pC fZ hr (aq (pV 0) (aq aQ aC))) aQ (cV _)))) (bC (sW (rN uy zH Aq uN (pV 2) (aq (fJ (aq (pV 4) (aq (pV 5) (aq (pV 6) (aq (pV 7) (aq (jx kE rfl T.tuple jy (aq (pV 9) aC)) aC)))))) aC)))) gC))))) (bf (gD (gF (Wn hr.units) (pV 2) (iu aC) (cV _)) (bC (pZ 2 pK (iu (aq (cC pA (jZ mZ (pX cM (pX cM (pV 1) aQ) aQ) mC (jk aQ)) (fJ (aq (fJ aC) aC))) aC)))) gC) (bf (pZ 12 pK (iu aC)) (bf (jd je rfl (gj (pX cM (pV 1) aQ)) (pY 13 pK) (bC (gD (zR (gF (PJ hr.units) (pX cM (pV 13) aQ) (pV 3) (by with_unfolding_all rfl)) (pw_and (gF (PJ hr.units) (pX cM (pV 13) aQ) (pV 3) (by with_unfolding_all rfl)) (pw_and1 (gF yX (pC fZ hr (aq (pV 0) (aq aQ aC))) aQ (cV _))))) (bC (sW (rN uy zH Aq uN (pV 12) (aq (pV 13) aC)))) gC))) (bf (gD (gF oEq (pC fZ hr (aq (pV 0) (aq aQ aC))) aQ (cV _)) (bC (pZ 2 pK (ajB (pV 2)))) gC) (bC (cO (fJ (aq (jx kE rfl T.tuple jy (aq (pV 2) aC)) (aq (jx kE rfl T.tuple jy (aq (pV 12) aC)) aC)))))))))))),?_⟩;refine dN λUa hUa=>?_;refine ⟨cJ _,λHs fHs=>?_⟩;show Ua _ _;subst hUa;refine dN λUb hUb=>?_;refine ⟨cJ _,λNm fNm=>?_⟩;show Ub _ _;subst hUb;have nHN:Hs≠Nm:=λz=>(by rw [<- z,aZ] at fNm; cases fNm);have ZQ:H Nm=none:=(by rw [bx (gQ nHN)] at fNm; exact fNm);have s1:aD H (upd (upd H Hs (.lst [])) Nm (.lst [])):=((aD.refl H).upd fHs).upd fNm;generalize yc:upd (upd H Hs (.lst [])) Nm (.lst [])=H1 at s1;have ak2:H1 Hs=some (.lst []):=(by rw [<- yc,bx nHN]; exact aZ);have akZ:H1 Nm=some (.lst []):=(by rw [<- yc]; exact aZ);clear yc;have nC:fV H1 p:=gJ pk s1;have hi6:=W.gh.hi;have lph:=ph.length;have npH:∀{b:au},H b=none->b≠p:=λe z=>(by obtain ⟨n,e',_⟩:=pk; rw [z,e'] at e; cases e);refine wF λUc hUc=>?_;refine cL (aG.of (s1 _ _ ha)) (i:=0) (v:=.ref ch) (by rfl) ?_;refine ⟨ch,rfl,⟨_,aG.of (s1 _ _ hch)⟩,nu (xs:=vh) (λi aj H'=>Za λ(vf:List V)(ks:List aP)(o4 o5 o6 o7 o8 o9 jj iy:Option V)=>uV (aj=[aM p,aM a,aM Hs,aM Nm,o4,o5,o6,o7,o8,o9,jj,iy,aX,aX]) (fV H' p) (H' Hs=some (.lst vf)) (bw (iG H') vf ks) (H' Nm=some (.lst ((bA ks).map V.str))) (PaI hs i ks) (aW p H H')) ⟨[],[],none,none,none,none,none,none,none,none,rfl,nC,ak2,.nil,akZ,⟨(λk hk=>by cases hk),Xy _,cJ _⟩,aW.of s1⟩ (λi aj H' _ hz=>by obtain ⟨_,_,_,_,_,_,_,_,_,_,_,_,_,_,_,_,S⟩:=hz; exact aG.of (aW.aK pk S _ _ hch)) (λi v aj H2 hv hz=>?_) (fun aj H2 hz=>?_)⟩;obtain ⟨vf,ks,o4,o5,o6,o7,o8,o9,jj,iy,rfl,pk2,eHs,pf,Ag,PI,S2⟩:=hz;obtain ⟨h,hhi,hat⟩:=dM ph hv;have hm:=dB hhi;have gh:=W.gh.all h hm;have hi:i<hs.length:=(mK.mp hhi).1;obtain ⟨c1,b1,rfl,e1,c5,vr,rfl,e5,pr⟩:=hat.ts (aW.aK pk S2);refine ⟨c1,_,rfl,aG.of e1,rfl,_,_,rfl,_,_,rfl,_,_,rfl,_,_,rfl,_,_,rfl,rfl,?_⟩;refine dN λUd hUd=>?_;refine ⟨cJ _,λFd fFd=>?_⟩;show Ud _ _;subst hUd;refine gE fFd λH3 s3 eFd=>?_;have mG:fV H3 p:=gJ pk2 s3;have npF:Fd≠p:=λz=>(by obtain ⟨n,e',_⟩:=pk2; rw [z,e'] at fFd; cases fFd);have nHF:Hs≠Fd:=cg eHs fFd;have nNF:Nm≠Fd:=cg Ag fFd;have Ml:=npH fHs;have Hi:=npH ZQ;have lr:=pr.length;have l25:=gh.few;refine wF λUe hUe=>?_;refine ⟨c5,_,rfl,.inr (aG.of (s3 _ _ e5)),?_⟩;refine ⟨p,(vr.length:Int)+1,rfl,mG,by omega,by omega,λd H4 d0 d1 sS s4=>?_⟩;have T24:cN H2 H4:=s3.aK.ao (aW.aK mG s4);refine ⟨c5,_,rfl,T24 _ _ e5,λt H5 ht s5=>?_⟩;obtain ⟨m,rfl⟩:=nG d0;rw [JN] at ht;have T25:=T24.ao s5.aK;have oH:=gJ sS s5;have S5:aW p H H5:=((S2.ao (aW.of s3)).ao s4).ao (aW.of s5);have apM:H5 Hs=some (.lst vf):=s5 _ _ (s4 _ _ Ml (s3 _ _ eHs));have FP:=s5 _ _ (s4 _ _ Hi (s3 _ _ Ag));have al1:=s5 _ _ (s4 _ _ npF eFd);have pr5:bw (mq H5) (vr.take m) (h.runs.take m):=Mv m (bG (λ_ _ z=>z.ts T25) pr);have apb:H Fd=none:=(by cases e:H Fd with| none=>rfl| some o=>have z:=S2 _ _ npF e; rw [fFd] at z; cases z);refine ⟨t,rfl,⟨_,aG.of ht⟩,nu (xs:=vr.take m) (λj aj H'=>mz λ(vd:List V)(rs:List (List Row))(jj iy:Option V)=>Wg (aj=[aM p,aM a,aM Hs,aM Nm,nJ h.name,bU h.low,bU h.high,bU h.bV,aM c5,aM Fd,jj,iy,aX,aX]) (fV H' p) (H' Fd=some (.lst vd)) (bw (mq H') vd rs) (bw Bc ((h.runs.take m).take j) rs) (rs.flatten.length<=25 * j) (H' Nm=some (.lst ((bA ks++rs.flatten.map cu).map V.str))) (H' Hs=some (.lst vf)) (cN H5 H') (aW p H H')) ⟨[],[],jj,iy,rfl,oH,al1,.nil,.nil,bB _,by simpa using FP,apM,cN.refl _,S5⟩ (λj aj H' _ hz=>by obtain ⟨_,_,_,_,_,_,_,_,_,_,_,_,T,_⟩:=hz; exact aG.of (T _ _ ht)) (λj v aj H6 hv hz=>?_) (fun aj H6 hz=>?_)⟩;obtain ⟨vd,rs,jj,iy,rfl,jq,Mu,pd,pp,lf,Oa,Yq,T6,S6⟩:=hz;obtain ⟨R,hR,rat⟩:=dM pr5 hv;have mR:R∈h.runs:=sX (dB hR);have gR:=gh.runs R mR;obtain ⟨c7,vq,rfl,e7,pq⟩:=rat.ts T6;have lq:=pq.length;have q25:=gR.few;have jm:j<25:=(by have z:=(mK.mp hv).1;rw [eY] at z;omega);refine dN λU1 pF=>?_;refine ⟨c7,rfl,⟨_,aG.of e7⟩,λD hD=>Ce (xs:=vq) (λi H'=>v9 λzs ss=>uf (H' D=some (.lst zs)) (zs.length<=i) (bw (gW H') zs ss) (ss.Sublist (R.take i)) (fV H' p) (aW p H6 H')) ⟨[],[],aZ,cJ _,.nil,Xy _,jq.new hD,(aW.of (aD.refl H6)).new hD⟩ (λi H' _ hz=>by obtain ⟨_,_,_,_,_,_,_,S⟩:=hz; exact aG.of (aW.aK jq S _ _ e7)) (λH7 hz=>?_) (λi x H' hx hi hz b=>?_)⟩;obtain ⟨zs,ss,eD,lz,pz,sb,pO,s7⟩:=hz;rw [lq,gU] at sb;show U1 _ _;subst pF;have npD:D≠p:=λz=>(by obtain ⟨n,e',_⟩:=jq; rw [z,e'] at hD; cases hD);have e77:=aW.aK jq s7 _ _ e7;refine vP (fun bJ H'=>kJ λ(Kp:au)(zs:List V)(ss:List Row)=>QA8 (bJ=[aM p,aM a,aM Hs,aM Nm,nJ h.name,bU h.low,bU h.high,bU h.bV,aM c5,aM Fd,aM c7,aM Kp,aX,aX]) (H' Kp=some (.lst zs)) (H6 Kp=none) (bw (gW H') zs ss) (Bc R ss) (ss.length<=25) (fV H' p) (aW p H6 H')) (λU hU=>?_) (fun bJ H8 ok=>?_);refine ⟨cJ _,λE fE=>?_⟩;refine gE fE λHE sE eE=>?_;have zu:=gJ pO sE;refine ⟨D,E,zs,rfl,rfl,sE _ _ eD,eE,?_⟩;(cases pz with| nil =>refine ⟨c7,_,rfl,.inr (aG.of (sE _ _ e77)),?_⟩;have v1:1<=vq.length:=(by have:=gR.ne;cases R with| nil=>exact bK rfl this| cons x xs=>rw [lq]; simp);refine ⟨p,(vq.length:Int),rfl,zu,by omega,by omega,λd H8 d0 d1 lW s8=>?_⟩;obtain ⟨k,rfl⟩:=nG d0;have kl:k<vq.length:=(by omega);have e78:=aW.aK zu s8 _ _ (sE _ _ e77);refine cL (aG.of e78) (i:=(k:Int)) (v:=vq[k]) (j9 (cT kl)) ?_;refine ⟨by show 1<=aL; omega,λKp fK=>?_⟩;obtain ⟨r,hr',rr⟩:=dM pq (cT kl);have S68:aW p H6 H8:=(s7.ao (aW.of sE)).ao s8;have npK:Kp≠p:=λz=>(by obtain ⟨n,e',_⟩:=lW; rw [z,e'] at fK; cases fK);have nK6:H6 Kp=none:=(by cases e:H6 Kp with| none=>rfl| some o=>have z:=S68 _ _ npK e; rw [fK] at z; cases z);refine hU _ _ ⟨Kp,[vq[k]],[r],rfl,aZ,nK6,.cons (rr.ts ((aW.aK jq S68).new fK)) .nil,agw gR (List.singleton_sublist.mpr (dB hr')) (by simp),by simp,lW.new fK,S68.new fK⟩| cons x0 p0 =>refine hU _ _ ⟨D,_,_,rfl,sE _ _ eD,hD,bG (λ_ _ z=>z.ts sE.aK) (.cons x0 p0),agw gR sb (by simp),by have:=sb.length_le; omega,zu,s7.ao (aW.of sE)⟩);obtain ⟨Kp,zs,ss,rfl,eK,nK,pz,PR,ap6,lW,s8⟩:=ok;have lz:=pz.length;have aeX:=s8 _ _ Hi Oa;have ahw:=s8 _ _ npF Mu;have apw:=s8 _ _ Ml Yq;refine ⟨.inl ⟨rfl,_,aY.of aeX⟩,?_⟩;refine ⟨Kp,rfl,⟨_,aY.of eK⟩,λD3 hD3=>Zk (R:=gW H8) (R':=λ_ v (n:Str)=>v=V.str n) (F:=λ(r:Row)(n:Str)=>n=r.1) (keep:=λ_=>true) (λ_ r=>r) (λ_ r=>r) hD3 eK (by omega) pz (λi x r H' hi rx s b N Q1 n1 q1=>?_) (λws ns H9 s9 pQ pw pfn=>?_)⟩;obtain ⟨a1,rfl,ea⟩:=rx;refine ⟨a1,_,rfl,aG.of (s _ _ ea),rfl,_,_,rfl,_,_,rfl,rfl,?_⟩;exact q1 rfl _ _ r.1 (aD.refl _) rfl rfl;rw [Xf.mpr (λ_ _=>rfl)] at pfn;have en:ns=ss.map cu:=acS pfn;have ew:ws=ns.map V.str:=aas pw;subst en;subst ew;have adg:=s9 _ _ aeX;have mQ:=PI.few;refine ⟨Nm,D3,_,_,rfl,rfl,adg,pQ,by simp only [aU,cQ]; omega,?_⟩;have nKN:Kp≠Nm:=(cg Oa nK).symm;have nKF:Kp≠Fd:=(cg Mu nK).symm;generalize eX:upd H9 Nm (.lst (wO V.str (bA ks++wO cu rs.flatten)++wO V.str (wO cu ss)))=ou;have alI:ou Nm=some (.lst (wO V.str (bA ks++wO cu rs.flatten)++wO V.str (wO cu ss))):=(by rw [<- eX]; exact aZ);have oX:∀ b o,b≠Nm->H9 b=some o->ou b=some o:=λb o n e=>(by rw [<- eX,bx n]; exact e);clear eX;have T9X:cN H9 ou:=λb xs e=>oX b _ (λz=>by rw [z,adg] at e; cases e) e;have T6X:cN H6 ou:=((aW.aK jq s8).ao s9.aK).ao T9X;have T8X:cN H8 ou:=s9.aK.ao T9X;have agu:=oX _ _ nNF.symm (s9 _ _ ahw);have alj:=oX _ _ nHN (s9 _ _ apw);have eKX:=oX _ _ nKN (s9 _ _ eK);have pkX:fV ou p:=(by obtain ⟨n,e,n0⟩:=gJ lW s9; exact ⟨n,oX _ _ Hi.symm e,n0⟩);refine ⟨.inl ⟨rfl,_,aY.of agu⟩,?_⟩;refine ⟨Kp,zs,rfl,.inl ⟨aY.of eKX,λt1 gZ=>?_⟩⟩;refine gE gZ λHY sY eT1=>?_;have ld:=pd.length;have lp:=pp.length;rw [eY,eY] at lp;have acj:=sY _ _ agu;refine ⟨Fd,vd,_,rfl,rfl,acj,by omega,?_⟩;have TY:cN HY (upd HY Fd (.lst (vd++[.ref t1]))):=λb xs e=>(by rw [bx (λz=>by rw [z,acj] at e; cases e)]; exact e);refine ⟨vd++[.ref t1],rs++[ss],_,_,rfl,(gJ pkX sY).put npF,aZ,?_,?_,?_,?_,?_,((T6.ao T6X).ao sY.aK).ao TY,?_⟩;exact fY (bG (λ_ _ z=>((z.ts T6X).ts sY.aK).ts TY) pd) (.cons ⟨t1,zs,rfl,TY _ _ eT1,bG (λ_ _ z=>((z.ts T8X).ts sY.aK).ts TY) pz⟩ .nil);rw [dI,hR];exact fY pp (.cons PR .nil);rw [Bt,cQ];simp only [rO,List.flatten_nil,yJ];omega;rw [bx nNF,sY _ _ alI];simp;rw [bx nHF]; exact sY _ _ alj;intro c o n e;have nF':c≠Fd:=cg e apb;have nN':c≠Nm:=cg e ZQ;rw [bx nF'];exact sY _ _ (oX _ _ nN' (s9 _ _ (s8 _ _ n (S6 _ _ n e))));obtain ⟨zs,ss,eD,lz,pz,sb,pO,s7⟩:=hz;obtain ⟨r,hr',rr⟩:=dM pq hx;refine ⟨p,3,rfl,pO,by decide,by decide,λd H8 d0 d1 lW s8=>?_⟩;have npD:D≠p:=λz=>(by obtain ⟨n,e',_⟩:=jq; rw [z,e'] at hD; cases hD);have eD8:=s8 _ _ npD eD;have pz8:=bG (λ_ _ z=>gW.ts (aW.aK pO s8) z) pz;have tk:R.take (i+1)=R.take i++[r]:=(by rw [dI,hr']; rfl);refine gB (λz=>?_) (λz=>?_);have TD:cN H8 (upd H8 D (.lst (zs++[x]))):=λb xs e=>(by rw [bx (λz=>by rw [z,eD8] at e; cases e)]; exact e);refine ⟨zs,eD8,by omega,nx hi ⟨zs++[x],ss++[r],aZ,by rw [cQ]; simp; omega,fY (bG (λ_ _ z=>z.ts TD) pz8) (.cons (((rr.ts (aW.aK jq s7)).ts (aW.aK pO s8)).ts TD) .nil),?_,lW.put npD,λc o n e=>?_⟩⟩;rw [tk]; exact sb.append (Lj _);rw [bx (cg e hD)]; exact s8 _ _ n (s7 _ _ n e);exact nx hi ⟨zs,ss,eD8,by omega,pz8,by rw [tk]; exact sb.ao (aaj _ _),lW,s7.ao s8⟩;obtain ⟨vd,rs,jj,iy,rfl,jq,Mu,pd,pp,lf,Oa,Yq,T6,S6⟩:=hz;have lfl:rs.flatten.length<=1000:=(by rw [eY] at lf;omega);have PRs:lZ h.runs rs:=(by rw [List.take_take] at pp;exact ak5 pp);show Ue _ _;subst hUe;refine ifU (λc H'=>(c=false->rs=[])/\fV H' p/\aW p H6 H') (λR hR=>?_) (λc H7 ok=>?_);refine ⟨cJ _,λE fE=>?_⟩;have sE:aD H6 (upd H6 E (.lst [])):=(aD.refl H6).upd fE;have zu:=gJ jq sE;refine ⟨⟨Fd,E,vd,rfl,rfl,sE _ _ Mu,aZ,?_⟩⟩;(cases pd with| cons x0 p0=>exact hR true _ ⟨(λz=>by cases z),zu,aW.of sE⟩| nil =>refine ⟨p,2,rfl,zu,by decide,by decide,λd H8 d0 d1 lW s8=>?_⟩;exact hR _ _ ⟨λ_=>rfl,lW,(aW.of sE).ao s8⟩);obtain ⟨e0,pO,s7⟩:=ok;have T7:=aW.aK jq s7;have pf7:bw (iG H7) vf ks:=bG (λ_ _ z=>((z.ts T25).ts T6).ts T7) pf;have R9:=s7 _ _ Ml Yq;have apd:=s7 _ _ npF Mu;have Kh:=s7 _ _ Hi Oa;have S7:=S6.ao s7;(cases c with| false =>obtain rfl:=e0 rfl;exact ⟨vf,ks,_,_,_,_,_,_,_,_,rfl,pO,R9,pf7,by simpa using Kh,PI.skip,S7⟩| true =>refine ⟨.inl ⟨rfl,_,aY.of R9⟩,?_⟩;refine ⟨Fd,vd,rfl,.inl ⟨aY.of apd,λt1 gZ=>?_⟩⟩;refine gE gZ λH8 s8 lK=>?_;refine ⟨by show 5<=aL; omega,λt2 jN=>?_⟩;refine gE jN λH9 s9 ni=>?_;have s79:=s8.ao s9;have aeo:=s79 _ _ R9;have lvf:=pf.length;have lks:=PI.nm.length_le;rw [aU,aU,eY] at lks;refine ⟨Hs,vf,_,rfl,rfl,aeo,by omega,?_⟩;have TH:cN H9 (upd H9 Hs (.lst (vf++[.ref t2]))):=λb xs e=>(by rw [bx (λz=>by rw [z,aeo] at e; cases e)]; exact e);refine ⟨vf++[.ref t2],ks++[⟨h.name,h.low,h.high,h.bV,rs⟩],_,_,_,_,_,_,_,_,rfl,(gJ pO s79).put Ml,aZ,?_,?_,PI.put hhi PRs lfl,λc o n e=>?_⟩;refine fY (bG (λ_ _ z=>(z.ts s79.aK).ts TH) pf7) (.cons ⟨t2,.ref t1,rfl,TH _ _ ni,t1,vd,rfl,TH _ _ (s9 _ _ lK),?_⟩ .nil);exact bG (λ_ _ z=>((z.ts T7).ts s79.aK).ts TH) pd;rw [bx nHN.symm,s79 _ _ Kh,Wx];rfl;rw [bx (cg e fHs)]; exact s79 _ _ (S7 _ _ n e));obtain ⟨vf,ks,o4,o5,o6,o7,o8,o9,jj,iy,rfl,pk2,eHs,pf,Ag,PI,S2⟩:=hz;have T2:=aW.aK pk S2;show Uc _ _;subst hUc;have Ml:=npH fHs;have Hi:=npH ZQ;refine vP (fun bJ H'=>kJ λ(Ls:au)(vf:List V)(ks:List aP)=>UL (bJ=[aM p,aM a,aM Ls,aM Nm,o4,o5,o6,o7,o8,o9,jj,iy,aX,aX]) (H Ls=none) (Ls≠Nm) (fV H' p) (H' Ls=some (.lst vf)) (bw (iG H') vf ks) (H' Nm=some (.lst ((bA ks).map V.str))) (1<=ks.length) (ks.length<=10) ((∀ k∈ks,∃ h∈hs,zy h k)) ((ks.map aP.name).Nodup) (aW p H H')) (λU hU=>?_) (fun bJ H3 ok=>?_);refine ⟨cJ _,λE fE=>?_⟩;refine gE fE λHE sE eE=>?_;have zu:=gJ pk2 sE;have SE:=S2.ao (aW.of sE);have TE':=aW.aK pk SE;refine ⟨Hs,E,vf,rfl,rfl,sE _ _ eHs,eE,?_⟩;(cases pf with| nil =>have lo:=W.gh.lo;(cases ph with| nil=>simp at lo| @cons v0 h0 vh hs0 ao5 _ =>refine cL (aG.of (TE' _ _ ha)) (i:=0) (v:=.ref ch) (by rfl) ?_;refine cL (aG.of (TE' _ _ hch)) (i:=0) (v:=v0) (j9 (j:=0) (by rfl)) ?_;obtain ⟨c1,b1,rfl,e1,_⟩:=ao5;refine ⟨c1,_,rfl,TE' _ _ e1,λp1 H6 hp1 s6=>?_⟩;rw [J0] at hp1;refine ⟨by show 0<=aL; omega,λt1 gZ=>?_⟩;refine gE gZ λH7 s7 lK=>?_;refine ⟨by show 1<=aL; omega,λt2 jN=>?_⟩;have s8:aD H7 (upd H7 t2 (.tup [.ref t1])):=(aD.refl H7).upd jN;refine ⟨p1,t2,Lk h0,[.ref t1],rfl,rfl,s8 _ _ (s7 _ _ hp1),aZ,by show 4+1<=aL; omega,λp3 H8 hp3 s9=>?_⟩;have sE8:aD HE H8:=(s6.ao s7).ao (s8.ao s9);refine ⟨by show 1<=aL; omega,λLs fL=>?_⟩;have S8:=SE.ao (aW.of sE8);have lW:=gJ zu sE8;have npL:Ls≠p:=λz=>(by obtain ⟨n,e',_⟩:=lW; rw [z,e'] at fL; cases fL);have nL:H Ls=none:=(by cases e:H Ls with| none=>rfl| some o=>have z:=S8 _ _ npL e; rw [fL] at z; cases z);have pB:aD H8 (upd H8 Ls (.lst [.ref p3])):=(aD.refl H8).upd fL;refine hU _ _ ⟨Ls,[.ref p3],[⟨h0.name,h0.low,h0.high,h0.bV,[]⟩],rfl,nL,(cg (sE8 _ _ (sE _ _ Ag)) fL).symm,gJ lW pB,aZ,.cons ⟨p3,.ref t1,rfl,pB _ _ hp3,t1,[],rfl,pB _ _ (s9 _ _ (s8 _ _ lK)),.nil⟩ .nil,pB _ _ (sE8 _ _ (sE _ _ Ag)),bB _,by simp,λk hk=>?_,by simp,S8.ao (aW.of pB)⟩;rw [gY.mp hk];exact ⟨h0,dg,rfl,rfl,rfl,rfl,by cases h0.runs <;> trivial⟩)| cons x0 p0 =>have lks:=PI.nm.length_le;rw [aU,aU,eY] at lks;refine hU _ _ ⟨Hs,_,_,rfl,fHs,nHN,zu,sE _ _ eHs,bG (λ_ _ z=>z.ts sE.aK) (.cons x0 p0),sE _ _ Ag,by simp,by omega,PI.sub,PI.nm.nodup ?_,SE⟩;rw [lph,gU];exact W.gh.names);obtain ⟨Ls,vf,ks,rfl,nL,nLN,mG,eLs,pf,Ag,k1,k10,Zb,knd,S3⟩:=ok;have npL:=npH nL;have abZ:∀ n∈bA ks,dG n:=λn hn=>(by obtain ⟨k,hk,hn⟩:=jR.mp hn;obtain ⟨h,hh,q⟩:=Zb k hk;obtain ⟨r,hr',rfl⟩:=cG.mp (q.names hn);obtain ⟨R,hR,mr⟩:=Du.mp hr';exact ((W.gh.all h hh).runs R hR).names r mr);refine dN λUf hUf=>?_;refine ⟨cJ _,λLL fLL=>?_⟩;show Uf _ _;subst hUf;refine gE fLL λH4 s4 eLL=>?_;have sS:=gJ mG s4;have S4:=S3.ao (aW.of s4);have T4:=aW.aK pk S4;have Rz:LL≠p:=λz=>(by obtain ⟨n,e',_⟩:=mG; rw [z,e'] at fLL; cases fLL);have nLL:H LL=none:=(by cases e:H LL with| none=>rfl| some o=>have z:=S3 _ _ Rz e; rw [fLL] at z; cases z);have ahe:Ls≠LL:=cg eLs fLL;have ahj:Nm≠LL:=cg Ag fLL;have ll:=pl.length;have w6:=W.six;refine wF λUg hUg=>?_;refine cL (aG.of (T4 _ _ ha)) (i:=1) (v:=.ref cl) (by rfl) ?_;refine ⟨cl,rfl,⟨_,aG.of (T4 _ _ hcl)⟩,nu (xs:=vl) (λi aj H'=>kJ λ(vm:List V)(ms:List bH)(pP:Option V)=>Wg (aj=[aM p,aM a,aM Ls,aM Nm,o4,o5,o6,o7,o8,o9,jj,iy,aM LL,pP]) (fV H' p) (H' LL=some (.lst vm)) (bw (jw H') vm ms) (ms.Sublist (ls.take i)) ((∀ l∈ms,l.1.1∈bA ks/\l.1.2∈bA ks)) (H' Ls=some (.lst vf)) (H' Nm=some (.lst ((bA ks).map V.str))) (cN H4 H') (aW p H H')) ⟨[],[],none,rfl,sS,eLL,.nil,Xy _,(λl hl=>by cases hl),s4 _ _ eLs,s4 _ _ Ag,cN.refl _,S4⟩ (λi aj H' _ hz=>by obtain ⟨_,_,_,_,_,_,_,_,_,_,_,T,_⟩:=hz; exact aG.of (T _ _ (T4 _ _ hcl))) (λi v aj H5 hv hz=>?_) (fun aj H5 hz=>?_)⟩;obtain ⟨vm,ms,pP,rfl,oH,Zo,pm,sbm,min,Y7,FP,T5,S5⟩:=hz;obtain ⟨l,hl,lat⟩:=dM pl hv;have ml:=dB hl;have gl:=W.gl.all l ml;have T05:=T4.ao T5;have aev:=lat.ts T05;have tk:ls.take (i+1)=ls.take i++[l]:=(by rw [dI,hl]; rfl);obtain ⟨a1,rfl,e1⟩:=id aev;show Er _ _ _ _ _ _;refine ifU (λc H'=>(c=true->l.1.1∈bA ks/\l.1.2∈bA ks)/\fV H' p/\aW p H5 H') (λR hR=>?_) (λc H7 ok=>?_);refine cL (aG.of e1) (i:=0) (v:=.str l.1.1) (by rfl) ?_;refine ⟨.str l.1.1,(bA ks).map Ie,.str _,.lst (aY.of FP) (Gv _),O4 gl.sent,by exact M7 rfl,GZ abZ,?_⟩;rw [Ma,Jc];refine gB (λz1=>?_) (λz1=>?_);refine cL (aG.of e1) (i:=1) (v:=.str l.1.2) (by rfl) ?_;refine ⟨.str l.1.2,(bA ks).map Ie,.str _,.lst (aY.of FP) (Gv _),O4 gl.taken,by exact M7 rfl,GZ abZ,?_⟩;rw [Ma,Jc];refine gB (λz2=>?_) (λz2=>?_);refine ⟨p,4,rfl,oH,by decide,by decide,λd H8 d0 d1 lW s8=>?_⟩;exact hR _ _ ⟨λ_=>⟨iH z1,iH z2⟩,lW,s8⟩;exact hR false _ ⟨(λz=>by cases z),oH,aW.of (aD.refl _)⟩;exact hR false _ ⟨(λz=>by cases z),oH,aW.of (aD.refl _)⟩;obtain ⟨inn,pO,s7⟩:=ok;have T7:=aW.aK oH s7;have Fo:=s7 _ _ Rz Zo;have ab2:=s7 _ _ npL Y7;have Kh:=s7 _ _ Hi FP;have pm7:=bG (λ_ _ z=>jw.ts T7 z) pm;(cases c with| false=>exact ⟨vm,ms,_,rfl,pO,Fo,pm7,by rw [tk]; exact sbm.ao (aaj _ _),min,ab2,Kh,T5.ao T7,S5.ao s7⟩| true =>refine ⟨.inl ⟨rfl,_,aY.of Fo⟩,?_⟩;have lm:=pm.length;have lms:=sbm.length_le;rw [eY] at lms;refine ⟨LL,vm,_,rfl,rfl,Fo,by omega,?_⟩;have TL:cN H7 (upd H7 LL (.lst (vm++[.ref a1]))):=λb xs e=>(by rw [bx (λz=>by rw [z,Fo] at e; cases e)]; exact e);refine ⟨vm++[.ref a1],ms++[l],_,rfl,pO.put Rz,aZ,fY (bG (λ_ _ z=>z.ts TL) pm7) (.cons ((aev.ts T7).ts TL) .nil),by rw [tk]; exact sbm.append (Lj _),λx hx=>?_,by rw [bx ahe]; exact ab2,by rw [bx ahj]; exact Kh,(T5.ao T7).ao TL,λc o n e=>?_⟩;rcases fQ.mp hx with z | z;exact min x z;rw [gY.mp z]; exact inn rfl;rw [bx (cg e nLL)]; exact s7 _ _ n (S5 _ _ n e));obtain ⟨vm,ms,pP,rfl,oH,Zo,pm,sbm,min,Y7,FP,T5,S5⟩:=hz;rw [ll,gU] at sbm;show Ug _ _;subst hUg;have pf5:bw (iG H5) vf ks:=bG (λ_ _ z=>(z.ts s4.aK).ts T5) pf;refine vP (fun bJ H'=>kJ λ(Ls:au)(vf:List V)(ks':List aP)=>QA9 (bJ=[aM p,aM a,aM Ls,aM Nm,o4,o5,o6,o7,o8,o9,jj,iy,aM LL,pP]) (fV H' p) (H' Ls=some (.lst vf)) (bw (iG H') vf ks') (1<=ks'.length) ((∀ k∈ks',∃ h∈hs,zy h k)) ((ks'.map aP.name).Nodup) ((∀ n,n∈bA ks->n∈bA ks')) (aW p H5 H')) (λU hU=>?_) (fun bJ H6 ok=>?_);refine ⟨p,3,rfl,oH,by decide,by decide,λd H6 d0 d1 jq s6=>?_⟩;have T6:=aW.aK oH s6;have acp:=s6 _ _ npL Y7;have pf6:=bG (λ_ _ z=>iG.ts T6 z) pf5;refine gB (λz=>?_) (λz=>?_);refine ⟨Ls,vf,rfl,aY.of acp,λL2 fL2=>?_⟩;have s7:aD H6 (upd H6 L2 (.lst vf.reverse)):=(aD.refl H6).upd fL2;refine hU _ _ ⟨L2,vf.reverse,ks.reverse,rfl,gJ jq s7,aZ,Zg (bG (λ_ _ z=>z.ts s7.aK) pf6),by rw [Hv]; exact k1,λk hk=>Zb k (Nk.mp hk),by rw [List.map_reverse]; exact (List.reverse_perm _).nodup_iff.mpr knd,λn hn=>ald.mpr hn,s6.ao (aW.of s7)⟩;exact hU _ _ ⟨Ls,vf,ks,rfl,jq,acp,pf6,k1,Zb,knd,λn hn=>hn,s6⟩;obtain ⟨L2,vf2,yW,rfl,jq,eL2,pf2,l1,Hj,nd2,nm2,s6⟩:=ok;refine ⟨L2,vf2,rfl,.inl ⟨aY.of eL2,λt1 gZ=>?_⟩⟩;refine gE gZ λH7 s7 lK=>?_;have Fo:=s7 _ _ (s6 _ _ Rz Zo);refine ⟨LL,vm,rfl,.inl ⟨aY.of Fo,λt2 jN=>?_⟩⟩;refine gE jN λH8 s8 ni=>?_;refine ⟨by show 2<=aL; omega,λt3 tY=>?_⟩;have s9:aD H8 (upd H8 t3 (.tup [.ref t1,.ref t2])):=(aD.refl H8).upd tY;have yt:=(s7.ao s8).ao s9;have T59:=(aW.aK oH s6).ao yt.aK;refine q _ yW ms _ ⟨t3,.ref t1,.ref t2,rfl,aZ,⟨t1,vf2,rfl,s9 _ _ (s8 _ _ lK),bG (λ_ _ z=>z.ts yt.aK) pf2⟩,⟨t2,vm,rfl,s9 _ _ ni,bG (λ_ _ z=>z.ts T59) pm⟩⟩ ⟨l1,Hj,nd2,λl hl=>sbm.subset hl,λl hl=>⟨nm2 _ (min l hl).1,nm2 _ (min l hl).2⟩,W.gl.rise.sublist (sbm.map _)⟩ (gJ jq yt) ((S5.ao s6).ao (aW.of yt))
theorem agP:bootBuiltins "ValueError" = some (.type "ValueError"):=by rfl
theorem afX(h:X.K=K):jz X (.builtin "isinstance") (acP K):=h ▸ akQ
theorem ac7(h:X.K=K):jz X (.builtin "isinstance") (af3 K):=h ▸ anM
theorem aip(h:X.K=K):xV X (IxA K):=h ▸ mJ
structure afA(K:cH)(mg:Str->Option aB)(S NM:au)(c0 c1 c2 c3 c4 c5 c6 c7 c8 d0 d1 d2 d3 d4:au):Prop where
 ex:vI K NM=true
 mS:mg "SkewError" = some (.ref S)
 mM:mg "NoMerge" = some (.ref NM)
 mV:mg "ValueError" = none
 em:MN K (.ref NM) (.ref S)=some true
 kM:kh K (.ref NM) (.ref NM)=some true
 kV:kh K (.ref NM) (.type "ValueError")=some true
 mc0:mg "NoBound" = some (.ref c0)
 mc1:mg "NoCall" = some (.ref c1)
 mc2:mg "NoHouse" = some (.ref c2)
 mc3:mg "NoKept" = some (.ref c3)
 mc4:mg "NoLetter" = some (.ref c4)
 mc5:mg "NoNumber" = some (.ref c5)
 mc6:mg "NoOrder" = some (.ref c6)
 mc7:mg "NoPlacing" = some (.ref c7)
 mc8:mg "NoReading" = some (.ref c8)
 md0:mg "NoRow" = some (.ref d0)
 md1:mg "NoRun" = some (.ref d1)
 md2:mg "NoText" = some (.ref d2)
 md3:mg "NoWord" = some (.ref d3)
 md4:mg "TooMany" = some (.ref d4)
 kc:Ku K (.ref NM) ([c0,c1,c2,c3,c4,c5,c6,c7,c8].map bI)=some false
 kd:Ku K (.ref NM) ([d0,d1,d2,d3,d4].map bI)=some false
def Nf:Sp:=λvs H Q _=>∃(x y:V)(hs ks:List aP)(ls ls':List bH),vs=[x,y]/\iI H x hs ls/\iI H y ks ls'/\Jv hs ks/\Gg ls ls'/\(∀ ms ns,rA hs ks ls ls' ms ns->Ask ms ns) /\
 (∀(z:V)(ms:List aP)(ns:List bH)(H':Hp),rA hs ks ls ls' ms ns->qd ms ns=true->iI H' z ms ns->aD H H'->Q z H') /\
 ((uw hs ks=false\/pD (ls++ls')=false\/∃ ms ns,rA hs ks ls ls' ms ns/\qd ms ns=false)->∀ H',aD H H'->Q (.str "refused") H')
theorem Fe:fB ["_law_one","_law_other","_law_found","e","_law_others"] ["_law_one","_law_other"] (bN Vv):=gA
theorem aps{S:au}(F:gG K "_law_seen" Vv f fd)(T:Txt mg t8 t6 tR tL)(C:afA K mg S NM c0 c1 c2 c3 c4 c5 c6 c7 c8 d0 d1 d2 d3 d4)(akl:bM P w K mg base (j7 P w) 8 Ss aaO ["one","other"] (Wi NM))(ajt:mg "merged" = some (.ref Ss))(ajk:vY K (.ref Ss)=true)(amF:dw K aaO ["one","other"] []):bM P w K mg base bR 9 f fd ["_law_one","_law_other"] Nf:=by refine F.ok Fe (λvs H Q E h=>?_) (λcdv A outer s H vs Q E hr h=>?_);obtain ⟨x,y,hs,ks,ls,ls',rfl,_⟩:=h;rfl;obtain ⟨x,y,hs,ks,ls,ls',rfl,la,lb,fh,fl,gd,q,qE⟩:=h;have fW:=dZ;refine ⟨_,(bf (pZ 2 Fe Et) (bf (alw (i:=3) (j:=2) akl hr rfl ajt ajk amF .nil (aq (pV 0) (aq (pV 1) aC)) rfl rfl Fe.nd rfl (jh rfl) rfl rfl rfl C.mS (λa E'=>(bf (pZ 4 Fe (cR (afX (K:=K) rfl) rfl T.uQ uF (aq (pV 3) (aq (fJ (aq (nY (v:=.ref c0) rfl C.mc0 rfl) (aq (nY (v:=.ref c1) rfl C.mc1 rfl) (aq (nY (v:=.ref c2) rfl C.mc2 rfl) (aq (nY (v:=.ref c3) rfl C.mc3 rfl) (aq (nY (v:=.ref c4) rfl C.mc4 rfl) (aq (nY (v:=.ref c5) rfl C.mc5 rfl) (aq (nY (v:=.ref c6) rfl C.mc6 rfl) (aq (nY (v:=.ref c7) rfl C.mc7 rfl) (aq (nY (v:=.ref c8) rfl C.mc8 rfl) aC)))))))))) aC)))) (bf (pZ 2 Fe iU) (bC (gD (zR (jO (cR (ac7 (K:=K) rfl) rfl T.uQ uF (aq (pV 3) (aq (nY (v:=.ref NM) rfl C.mM rfl) aC)))) (pw_and (jO (cR (ac7 (K:=K) rfl) rfl T.uQ uF (aq (pV 3) (aq (Aj (v:=.ty "ValueError") rfl C.mV agP rfl) aC)))) (pw_and1 (kZ (jO (pV 4)))))) (bC (pZ 2 Fe (Cg (aip (K:=K) rfl) (iu (aq iU (aq iU aC))) (jx aaR rfl T.int Vn (aq (cR (afX (K:=K) rfl) rfl T.uQ uF (aq (pV 3) (aq (fJ (aq (nY (v:=.ref d0) rfl C.md0 rfl) (aq (nY (v:=.ref d1) rfl C.md1 rfl) (aq (nY (v:=.ref d2) rfl C.md2 rfl) (aq (nY (v:=.ref d3) rfl C.md3 rfl) (aq (nY (v:=.ref d4) rfl C.md4 rfl) aC)))))) aC))) aC)) (λ_ _=>rfl)))) gC)))))) (bC (cO (pV 2))))),?_⟩;refine ⟨x,y,hs,ks,ls,ls',rfl,la,lb,fh,fl,gd,(λz ms ns H1 cm e hz s1=>q z ms ns H1 cm e hz s1),λno H1 s1=>⟨C.em,λa c ec na=>?_⟩⟩;cases ec;have s2:aD H1 (upd H1 a (yV a NM)):=(aD.refl H1).upd na;generalize eH2:upd H1 a (yV a NM)=H2 at s2;have ea:H2 a=some (yV a NM):=(by rw [<- eH2]; exact aZ);refine ⟨by show 9<=aL; omega,λt1 gZ=>?_⟩;generalize eH3:upd H2 t1 _=H3;have s3:aD H2 H3:=(by rw [<- eH3]; exact (aD.refl H2).upd gZ);refine ⟨a,NM,t1,[c0,c1,c2,c3,c4,c5,c6,c7,c8],false,rfl,s3 _ _ ea,by rw [<- eH3]; exact aZ,C.ex,C.kc,?_⟩;refine ⟨a,NM,.ref NM,.ref NM,true,rfl,(λ_ z=>z),s3 _ _ ea,C.ex,C.kM,?_⟩;refine ⟨a,NM,_,.type "ValueError",true,rfl,(λ_ z=>z),s3 _ _ ea,C.ex,C.kV,?_⟩;refine ⟨by show 2<=aL; omega,λl fl=>?_⟩;generalize eH4:upd H3 l _=H4;have s4:aD H3 H4:=(by rw [<- eH4]; exact (aD.refl H3).upd fl);have el:H4 l=some (.lst [.str "refused",.str "other"]):=(by rw [<- eH4]; exact aZ);refine ⟨by show 5<=aL; omega,λt2 jN=>?_⟩;generalize eH5:upd H4 t2 _=H5;have s5:aD H4 H5:=(by rw [<- eH5]; exact (aD.refl H4).upd jN);refine ⟨a,NM,t2,[d0,d1,d2,d3,d4],false,rfl,(s3.ao (s4.ao s5)) _ _ ea,by rw [<- eH5]; exact aZ,C.ex,C.kd,?_⟩;refine .inr ⟨false,rfl,?_⟩;refine m7 (s5 _ _ el) (v:=.str "refused") (by rfl) ?_;exact qE no H5 ((s1.ao s2).ao (s3.ao (s4.ao s5)))
def CG(h k:aP):Bool:=!decide (h.name=k.name) || vH h k
def Cj(a b:bH):Bool:=!decide (a.1=b.1) || decide (a=b)
def abt(hs ks:List aP):Bool:=hs.all λh=>ks.all λk=>CG h k
def af5(ls ls':List bH):Bool:=ls.all λa=>ls'.all λb=>Cj a b
theorem abM(nd:(ks.map aP.name).Nodup):uw hs ks=abt hs ks:=by unfold uw abt;rw [jP,fX,fX];refine forall_congr' λh=>forall_congr' λhh=>?_;rw [fX];constructor;intro z k hk;unfold CG;by_cases e:h.name=k.name;rw [O9 nd hk e.symm] at z;rw [z,Wb];simp [e];intro z;rcases Qi (ks:=ks) (h:=h) with ⟨_,e⟩ | ⟨m,e,_⟩;rw [e]; simp [vH];have y:=z _ m;unfold CG at y;rw [fj e.symm] at y;exact y
theorem ant{ls:List bH}(n1:(ls.map cu).Nodup)(n2:(ls'.map cu).Nodup):pD (ls++ls')=af5 ls ls':=by unfold af5;cases z:(ls.all λa=>ls'.all λb=>Cj a b) with| false =>rw [IK] at z;obtain ⟨a,ha,z⟩:=z;rw [Bool.not_eq_true,IK] at z;obtain ⟨b,hb,z⟩:=z;unfold Cj at z;have e:a.1=b.1:=Nb λe=>z (by simp [e]);exact Tt (yr _ ha) (jH _ hb) e λy=>z (by simp [y])| true =>rw [fX] at z;have key:∀ a∈ls,∀ b∈ls',a.1=b.1->a=b:=λa ha b hb e=>(by have y:=fX.mp (z a ha) b hb;unfold Cj at y;simpa [e] using y);unfold pD;refine fX.mpr λa ha=>fX.mpr λb hb=>?_;by_cases e:a.1=b.1;have y:a=b:=(by rcases fQ.mp ha with x | x <;> rcases fQ.mp hb with y | y;exact Q5 n1 x y e;exact key a x b y e;exact (key b y a x e.symm).symm;exact Q5 n2 x y e);simp [y];simp [e]
structure ZG(ms:List aP)(ns:List bH):Prop extends Ask ms ns where
 rows:(bA ms).length<=10000
 own:∀ l∈ns,l.1.1∈bA ms/\l.1.2∈bA ms
def Tz:Sp:=λvs H Q _=>mz λ(x y:V)(ms:List aP)(ns:List bH)=>jt (vs=[x,y]) (mj H x ms) (vJ H y ns) (ZG ms ns) (∀ H',aD H H'->Q (.bl (qd ms ns)) H')
def RZ:Sp:=λvs H Q _=>∃(x y:V)(hs ks:List aP)(ls ls':List bH),vs=[x,y]/\iI H x hs ls/\iI H y ks ls'/\aac hs ks/\Gg ls ls'/\(ls.map cu).Nodup/\(ls'.map cu).Nodup/\(∀ ms ns,rA hs ks ls ls' ms ns->ZG ms ns) /\
 (∀ ms ns H',rA hs ks ls ls' ms ns->aD H H'->Q (.bl (qd ms ns)) H')/\(uw hs ks=false\/pD (ls++ls')=false->∀ H',aD H H'->Q (.bl false) H')
theorem QK(a b:Str):oW (.str a) (.str b)=decide (a=b):=by rw [jP,decide_eq_true_iff];simp [oW]
theorem Hg(g:dG n):oY (.str n)=true:=by have z:=g.ok;unfold oY;simp [pW,z,rP]
def Dr(l:bH):lF:=.tuple [.str l.1.1,.str l.1.2]
theorem abr(g:dG l.1.1/\dG l.1.2):oY (Dr l)=true:=by have z1:=g.1.ok;have z2:=g.2.ok;unfold oY Dr;simp [pW,qm,z1,z2,rP,sU]
theorem amo(a b:bH):oW (Dr a) (Dr b)=decide (a.1=b.1):=by rw [jP,decide_eq_true_iff];simp [Dr,oW,Lh,Prod.ext_iff]
theorem yw{p:aJ->Prop}{l:List aJ}{c:aJ}(e:l[i]?=some c)(h:∀ x∈l.take i,p x)(hc:p c):∀ x∈l.take (i+1),p x:=λx hx=>by
 rw [dI,e,fQ] at hx;rcases hx with z | z
 . exact h x z
 . rw [gY.mp z]; exact hc
theorem GK:fB ["_law_one","_law_other","_law_house_here","_law_more","_law_letter","_law_due_here"] ["_law_one","_law_other"] (bN WQ):=gA
theorem ahi(F:gG K "_law_can" WQ f fd)(Xe:Cl P w K mg base 3 "_law_due" ["_law_one","_law_other"] N6)(ahF:Cl P w K mg base 3 "_law_is_ledger" ["_law_houses_here","_law_letters_here"] Tz):bM P w K mg base bR 4 f fd ["_law_one","_law_other"] RZ:=by refine F.ok GK (λvs H Q E h=>?_) (λcdv A outer s H vs Q E hr h=>?_);obtain ⟨x,y,hs,ks,ls,ls',rfl,_⟩:=h;rfl;obtain ⟨x,y,hs,ks,ls,ls',rfl,la,lb,fd,fl,n1,n2,fi,q,qN⟩:=h;have LA:=la;have LB:=lb;obtain ⟨a,x1,x2,rfl,ha,⟨ch,vh,rfl,hch,ph⟩,⟨cl,vl,rfl,hcl,pl⟩⟩:=la;obtain ⟨b,y1,y2,rfl,hb,⟨dh,vk,rfl,uU,pk⟩,⟨dl,vm,rfl,hdl,pm⟩⟩:=lb;have fW:=dZ;refine ⟨_,(bf (jd je rfl (gj (pX cM (pV 0) aQ)) (pY 2 GK) (bC (jd je rfl (gj (pX cM (pV 1) aQ)) (pY 3 GK) (bC (gD (zR (gF (HN hr.units) (pX cM (pV 2) aQ) (pX cM (pV 3) aQ) (cV _)) (pw_and1 (gF (Ca hr.units) (jZ mZ (pV 2) mC (jk aQ)) (jZ mZ (pV 3) mC (jk aQ)) (cV _)))) (bC (cO mF)) gC))))) (bf (jd je rfl (gj (pX cM (pV 0) aQ)) (pY 4 GK) (bC (jd je rfl (gj (pX cM (pV 1) aQ)) (pY 3 GK) (bC (gD (zR (gF (HN hr.units) (jZ mZ (pV 4) mC (jk aQ)) (jZ mZ (pV 3) mC (jk aQ)) (cV _)) (pw_and1 (gF (Ca hr.units) (pV 4) (pV 3) (cV _)))) (bC (cO mF)) gC))))) (bf (pZ 5 GK (pC Xe hr (aq (pV 0) (aq (pV 1) aC)))) (bC (cO (pC ahF hr (aq (pX cM (pV 5) aQ) (aq (pX cM (pV 5) aQ) aC)))))))),?_⟩;refine cL (aG.of ha) (i:=0) (v:=.ref ch) (by rfl) ?_;refine ⟨ch,rfl,⟨_,aG.of hch⟩,nu (xs:=vh) (λi aj H'=>∃ o2 o3,aj=[aM a,aM b,o2,o3,aX,aX]/\(∀ h∈hs.take i,∀ k∈ks,CG h k=true)/\aD H H') ⟨none,none,rfl,(λh hh=>by simp at hh),aD.refl H⟩ (λi aj H' _ hz=>by obtain ⟨_,_,_,_,s⟩:=hz; exact aG.of (s _ _ hch)) (λi v aj H1 hv hz=>?_) (fun aj H1 hz=>?_)⟩;obtain ⟨o2,o3,rfl,al,s1⟩:=hz;obtain ⟨h,hhi,hat⟩:=dM ph hv;have hm:=dB hhi;refine cL (aG.of (s1 _ _ hb)) (i:=0) (v:=.ref dh) (by rfl) ?_;refine ⟨dh,rfl,⟨_,aG.of (s1 _ _ uU)⟩,nu (xs:=vk) (λj aj H'=>∃ o3,aj=[aM a,aM b,some v,o3,aX,aX]/\(∀ k∈ks.take j,CG h k=true)/\aD H H') ⟨o3,rfl,(λh hh=>by simp at hh),s1⟩ (λi aj H' _ hz=>by obtain ⟨_,_,_,s⟩:=hz; exact aG.of (s _ _ uU)) (λj u aj H2 hu hz=>?_) (fun aj H2 hz=>?_)⟩;obtain ⟨o3',rfl,yR,s2⟩:=hz;obtain ⟨k,hki,kat⟩:=dM pk hu;have km:=dB hki;obtain ⟨c1,b1,rfl,e1,_⟩:=hat.ts s2.aK;obtain ⟨c2,b2,rfl,e2,_⟩:=kat.ts s2.aK;have g1:=fd.n1 h hm;have g2:=fd.n2 k km;refine cL (aG.of e1) (i:=0) (v:=.str h.name) (by rfl) ?_;refine cL (aG.of e2) (i:=0) (v:=.str k.name) (by rfl) ?_;refine ⟨.str h.name,.str k.name,.str _,.str _,Hg g1,Hg g2,?_⟩;rw [QK];by_cases en:h.name=k.name;rw [fj en];refine ⟨c1,_,rfl,e1,λp1 H3 hp1 s3=>?_⟩;refine ⟨c2,_,rfl,s3 _ _ e2,λp2 H4 hp2 s4=>?_⟩;rw [J0] at hp1 hp2;refine ⟨_,_,Qw (s4 _ _ hp1),Qw hp2,Rn g1,Rn g2,?_⟩;rw [abC];have S4:=(s2.ao s3).ao s4;cases e:vH h k;refine qN (.inl ?_) H4 S4;rw [abM fd.d2];exact IK.mpr ⟨h,hm,λz=>by have y:=fX.mp z k km; unfold CG at y; rw [e,fj en] at y; cases y⟩;exact ⟨_,rfl,yw hki yR (by unfold CG; rw [e,Wb]),S4⟩;rw [iD en];exact ⟨_,rfl,yw hki yR (by unfold CG; rw [iD en]; rfl),s2⟩;obtain ⟨o3',rfl,yR,s2⟩:=hz;rw [pk.length,gU] at yR;exact ⟨_,_,rfl,yw hhi al yR,s2⟩;obtain ⟨o2,o3,rfl,al,s1⟩:=hz;rw [ph.length,gU] at al;have ALH:uw hs ks=true:=(by rw [abM fd.d2];exact fX.mpr λh hh=>fX.mpr λk hk=>al h hh k hk);refine cL (aG.of (s1 _ _ ha)) (i:=1) (v:=.ref cl) (by rfl) ?_;refine ⟨cl,rfl,⟨_,aG.of (s1 _ _ hcl)⟩,nu (xs:=vl) (λi aj H'=>∃ o3 o4,aj=[aM a,aM b,o2,o3,o4,aX]/\(∀ l∈ls.take i,∀ k∈ls',Cj l k=true)/\aD H H') ⟨o3,none,rfl,(λh hh=>by simp at hh),s1⟩ (λi aj H' _ hz=>by obtain ⟨_,_,_,_,s⟩:=hz; exact aG.of (s _ _ hcl)) (λi v aj H2 hv hz=>?_) (fun aj H2 hz=>?_)⟩;obtain ⟨o3',o4,rfl,bl,s2⟩:=hz;obtain ⟨l,hli,hat⟩:=dM pl hv;have lm:=dB hli;refine cL (aG.of (s2 _ _ hb)) (i:=1) (v:=.ref dl) (by rfl) ?_;refine ⟨dl,rfl,⟨_,aG.of (s2 _ _ hdl)⟩,nu (xs:=vm) (λj aj H'=>∃ o3,aj=[aM a,aM b,o2,o3,some v,aX]/\(∀ k∈ls'.take j,Cj l k=true)/\aD H H') ⟨o3',rfl,(λh hh=>by simp at hh),s2⟩ (λi aj H' _ hz=>by obtain ⟨_,_,_,s⟩:=hz; exact aG.of (s _ _ hdl)) (λj u aj H3 hu hz=>?_) (fun aj H3 hz=>?_)⟩;obtain ⟨anq,rfl,bl2,s3⟩:=hz;obtain ⟨k,hki,kat⟩:=dM pm hu;have km:=dB hki;have g1:=fl.good l (yr _ lm);have g2:=fl.good k (jH _ km);have hat3:=hat.ts s3.aK;have ab1:=kat.ts s3.aK;obtain ⟨c1,rfl,e1⟩:=id hat3;obtain ⟨c2,rfl,e2⟩:=id ab1;refine ⟨c1,_,rfl,e1,λp1 H4 hp1 s4=>?_⟩;refine ⟨c2,_,rfl,s4 _ _ e2,λp2 H5 hp2 s5=>?_⟩;refine ⟨Dr l,Dr k,.tup (aG.of (s5 _ _ hp1)) (.cons (.str _) (.cons (.str _) .nil)),.tup (aG.of hp2) (.cons (.str _) (.cons (.str _) .nil)),abr g1,abr g2,?_⟩;rw [amo];have s45:=s4.ao s5;have S5:=s3.ao s45;by_cases en:l.1=k.1;rw [fj en];refine ⟨_,_,Ht (hat3.ts s45.aK),Ht (ab1.ts s45.aK),Ek g1,Ek g2,?_⟩;rw [ady];by_cases e:l=k;rw [fj e];exact ⟨_,rfl,yw hki bl2 (by unfold Cj; rw [fj e,Wb]),S5⟩;rw [iD e];exact qN (.inr (Tt (yr _ lm) (jH _ km) en e)) H5 S5;rw [iD en];exact ⟨_,rfl,yw hki bl2 (by unfold Cj; rw [iD en]; rfl),S5⟩;obtain ⟨anq,rfl,bl2,s3⟩:=hz;rw [pm.length,gU] at bl2;exact ⟨_,_,rfl,yw hli bl bl2,s3⟩;obtain ⟨o3',o4,rfl,bl,s2⟩:=hz;rw [pl.length,gU] at bl;have ON:pD (ls++ls')=true:=(by rw [ant n1 n2];exact fX.mpr λh hh=>fX.mpr λk hk=>bl h hh k hk);refine ⟨_,_,hs,ks,ls,ls',rfl,LA.ts s2.aK,LB.ts s2.aK,fd,fl,ON,λz ms ns H3 hz mh ml s3=>?_⟩;have cm:rA hs ks ls ls' ms ns:=⟨ALH,ON,mh,ml⟩;obtain ⟨c,z1,z2,rfl,ec,h1,h2⟩:=hz;refine cL (aG.of ec) (i:=0) (v:=z1) (by rfl) ?_;refine cL (aG.of ec) (i:=1) (v:=z2) (by rfl) ?_;exact ⟨z1,z2,ms,ns,rfl,h1,h2,fi ms ns cm,λH4 s4=>q ms ns H4 cm ((s2.ao s3).ao s4)⟩
variable{ms:List aP}
theorem aef{ns:List bH}(h:Ask ms ns):Vx ms ns:=⟨λx hx=>(h.hs x hx).name,λx hx r hr=>(h.hs x hx).names r hr,h.ls⟩
theorem afF:oY (.str "refused")=true:=by decide +kernel
structure Pair(hs ks:List aP)(ls ls':List bH):Prop where
 fd:aac hs ks
 fl:Gg ls ls'
 n1:(ls.map cu).Nodup
 n2:(ls'.map cu).Nodup
 fi:∀ ms ns,rA hs ks ls ls' ms ns->ZG ms ns
def RK:Sp:=λvs H Q _=>QX6 λ(x y:V)(hs ks:List aP)(ls ls':List bH)=>jt (vs=[x,y]) (iI H x hs ls) (iI H y ks ls') (Pair hs ks ls ls') (∀ H',aD H H'->Q (.bl true) H')
theorem aep:fB ["_law_one","_law_other","_law_found"] ["_law_one","_law_other"] (bN Xn):=gA
theorem ajz(F:gG K "_law_right" Xn f fd)(Sg:Cl P w K mg base 9 "_law_seen" ["_law_one","_law_other"] Nf)(aix:Cl P w K mg base 9 "_law_can" ["_law_one","_law_other"] RZ)(Xe:Cl P w K mg base 9 "_law_due" ["_law_one","_law_other"] N6):bM P w K mg base bR 10 f fd ["_law_one","_law_other"] RK:=by refine F.ok aep (λvs H Q E h=>?_) (λcdv A outer s H vs Q E hr h=>?_);obtain ⟨x,y,hs,ks,ls,ls',rfl,_⟩:=h;rfl;obtain ⟨x,y,hs,ks,ls,ls',rfl,la,lb,p,q⟩:=h;have uq:∀{ms mO:List aP}{ns ns':List bH},rA hs ks ls ls' ms ns->rA hs ks ls ls' mO ns'->ms=mO/\ns=ns':=λc c'=>⟨c.mh.uniq c'.mh,c.ml.uniq c'.ml⟩;refine ⟨_,(bf (pZ 2 aep (pC Sg hr (aq (pV 0) (aq (pV 1) aC)))) (bf (gD (jO (pC aix hr (aq (pV 0) (aq (pV 1) aC)))) (bC (cO (rW (HN hr.units) (pV 2) (pC Xe hr (aq (pV 0) (aq (pV 1) aC))) (cV _)))) gC) (bC (cO (rW (HN hr.units) (pV 2) iU (cV _)))))),?_⟩;refine ⟨x,y,hs,ks,ls,ls',rfl,la,lb,p.fd.toJv,p.fl,(λms ns c=>(p.fi ms ns c).toAsk),(λz ms ns H1 cm lg hz s1=>?_),λno H1 s1=>?_⟩;refine ⟨x,y,hs,ks,ls,ls',rfl,la.ts s1.aK,lb.ts s1.aK,p.fd,p.fl,p.n1,p.n2,p.fi,(λmO ns' H2 cm' s2=>?_),λno=>?_⟩;obtain ⟨rfl,rfl⟩:=uq cm cm';rw [lg];have S2:=s1.ao s2;refine ⟨x,y,hs,ks,ls,ls',rfl,la.ts S2.aK,lb.ts S2.aK,p.fd,p.fl,cm.on,λz2 mO ns' H3 hz2 mh ml s3=>?_⟩;obtain ⟨rfl,rfl⟩:=uq cm ⟨cm.al,cm.on,mh,ml⟩;have g:=aef (p.fi _ _ cm).toAsk;refine ⟨_,_,PN ((hz.ts s2.aK).ts s3.aK),PN hz2,JW g,JW g,?_⟩;rw [acU g];exact q H3 (S2.ao s3);rcases no with z | z;rw [cm.al] at z; cases z;rw [cm.on] at z; cases z;have fin:∀ H2,aD H1 H2->aer K (.str "refused") (.str "refused") H2 Q:=λH2 s2=>(by refine ⟨.str "refused",.str "refused",.str _,.str _,afF,afF,?_⟩;rw [QK,fj rfl];exact q H2 (s1.ao s2));refine ⟨x,y,hs,ks,ls,ls',rfl,la.ts s1.aK,lb.ts s1.aK,p.fd,p.fl,p.n1,p.n2,p.fi,(λmO ns' H2 cm' s2=>?_),λ_ H2 s2=>fin H2 s2⟩;have no':qd mO ns'=false:=(by rcases no with z | z | ⟨ms,ns,cm,z⟩;rw [cm'.al] at z; cases z;rw [cm'.on] at z; cases z;obtain ⟨rfl,rfl⟩:=uq cm cm';exact z);rw [no'];exact fin H2 s2
def rB(hs:List aP)(i:Nat)(h0:aP)(rs:List (List Row)):List aP:=hs.set i ⟨h0.name,h0.low,h0.high,h0.bV,rs⟩
def Vg:Sp:=λvs H Q _=>QX6 λ(x y:V)(hs:List aP)(rs:List (List Row))(i:Nat)(h0:aP)=>QA8 (vs=[x,y,.int (i:Int)]) (uP H x rs) (mj H y hs) (hs[i]?=some h0) (hs.length<=25) ((∀ m∈rB hs i h0 rs,∀ r∈m.runs,r.length<=100)) ((bA (rB hs i h0 rs)).length<=5000) (∀(d:au)(H':Hp),H d=none->H' d=some (.lst ((bA (rB hs i h0 rs)).map V.str))->aD H H'->Q (.ref d) H')
theorem N8(ms:List aP)(n:Nat):(bA (ms.take n)).length<=(bA ms).length:=by have z:bA ms=bA (ms.take n)++bA (ms.drop n):=(by unfold bA;rw [<- rM,Eh]);rw [z,cQ]; omega
theorem Am(l:List (List aJ))(n:Nat):((l.take n).flatten).length<=l.flatten.length:=by have z:l.flatten=(l.take n).flatten++(l.drop n).flatten:=(by rw [<- Bt,Eh]);rw [z,cQ]; omega
variable{m:aP}
theorem KD(e:ms[j]?=some m):bA (ms.take (j+1))=bA (ms.take j)++fH m:=by rw [dI,e];exact Wx _ _
theorem Oh:fB ["_law_runs","_law_houses_here","_law_at","_law_found","_law_k","_law_run"] ["_law_runs","_law_houses_here","_law_at"] (bN Rg):=gA
theorem akY(F:gG K "_law_names_in" Rg f fd)(T:Txt mg t8 t6 tR tL):bM P w K mg base bR 1 f fd ["_law_runs","_law_houses_here","_law_at"] Vg:=by refine F.ok Oh (λvs H Q E h=>?_) (λcdv A outer s H vs Q E hr h=>?_);obtain ⟨x,y,hs,rs,i,h0,rfl,_⟩:=h;rfl;obtain ⟨x,y,hs,rs,at0,h0,rfl,rx,⟨c,vh,rfl,hc,pc⟩,ea,l25,lr,ln,q⟩:=h;have fW:=dZ;have lc:=pc.length;refine ⟨_,(bf (pZ 3 Oh (iu aC)) (bf (jd je rfl (uO rfl T.range (aq (cR jC rfl T.len iM (aq (pV 1) aC)) aC)) (pY 4 Oh) (bC (jd je rfl (gj (pX mJ (iu (aq (pX cM (pX cM (pV 1) (pV 4)) aQ) (aq (pV 0) aC))) (jx aaR rfl T.int Vn (aq (rW oEq (pV 4) (pV 2) (cV _)) aC)))) (pY 5 Oh) (bC (sW (rN uy Qa QM Rr (pV 3) (aq (jg (bQ:=bN Rg) (own:=["_law_row","_law_reading"]) (cap:=[]) (ix:=[]) rfl rfl gP (gj (pV 5)) (λb=>(j8 rfl (cZ (pH 0 ["_law_row","_law_reading"]) (cZ (pH 1 ["_law_row","_law_reading"]) jV)))) (λb=>ig) (λb=>(pV 0))) aC))))))) (bC (cO (pV 3))))),?_⟩;refine ⟨cJ _,λF fF=>?_⟩;refine gE fF λH1 s1 eF1=>?_;have ai:at0<hs.length:=(mK.mp ea).1;refine ⟨c,vh,rfl,.inr (aG.of (s1 _ _ hc)),?_⟩;generalize eM:rB hs at0 h0 rs=ms at lr ln q;have lms:ms.length=hs.length:=(by rw [<- eM]; exact Ad);refine ⟨(vh.length:Int),rfl,by omega,by omega,zA (lo:=0) (n:=((vh.length:Int)).toNat) (λj aj H'=>∃ o4 o5,aj=[some x,aM c,bU (at0:Int),aM F,o4,o5]/\H' F=some (.lst ((bA (ms.take j)).map V.str))/\aW F H1 H') ⟨none,none,rfl,eF1,λb o _ e=>e⟩ (λj aj H2 hj hz=>?_) (fun aj H2 hz=>?_)⟩;obtain ⟨o4,o5,rfl,eF,sB⟩:=hz;have S2:aD H H2:=λb o e=>sB b o (cg e fF) (s1 _ _ e);have hj':j<vh.length:=(by omega);obtain ⟨h,hhj,hat⟩:=dM pc (cT hj');have hv0:=cT hj';generalize vh[j]=hv at hat hv0;obtain ⟨m,em⟩:∃ m,ms[j]?=some m:=⟨_,cT (by omega)⟩;have mm:=dB em;have ln1:(bA (ms.take j)).length+m.runs.flatten.length<=5000:=(by have z:=N8 ms (j+1);rw [KD em,cQ] at z;have y:(fH m).length=m.runs.flatten.length:=(by unfold fH qJ; rw [aU]);omega);obtain ⟨c1,b1,rfl,e1,hr1⟩:=hat.ts S2.aK;refine cL (aG.of (S2 _ _ hc)) (by rw [Bs]; exact j9 hv0) ?_;refine cL (aG.of e1) (i:=4) (v:=b1) (by rfl) ?_;refine ⟨by show 2<=aL; omega,λl fl=>?_⟩;refine gE fl λH3 s3 el=>?_;refine .inr ⟨decide ((0:Int)+(j:Int)=(at0:Int)),rfl,?_⟩;have rv:∃ v,mH [b1,x] (if decide ((0:Int)+(j:Int)=(at0:Int))=true then 1 else 0)=some v/\uP H3 v m.runs:=(by rw [<- eM] at em;unfold rB at em;by_cases e:at0=j;rw [e,Hq (by omega)] at em;cases em;refine ⟨x,?_,rx.ts (S2.ao s3).aK⟩;rw [fj (by omega)]; rfl;rw [DK e,hhj] at em;cases em;refine ⟨b1,?_,hr1.ts s3.aK⟩;rw [iD (by omega)]; rfl);obtain ⟨v,ev,c5,vr,rfl,e5,pr⟩:=rv;refine m7 el ev ?_;have eF3:=s3 _ _ eF;refine ⟨c5,rfl,⟨_,aG.of e5⟩,nu (xs:=vr) (λk aj H'=>∃ o5,aj=[some x,aM c,bU (at0:Int),aM F,bU (0+(j:Int)),o5]/\H' F=some (.lst ((bA (ms.take j)++((m.runs.take k).flatten).map cu).map V.str))/\aW F H3 H') ⟨o5,rfl,(by simpa using eF3),λb o _ e=>e⟩ (λi aj H' _ hz=>by obtain ⟨_,_,_,s⟩:=hz;exact aG.of (s _ _ (λz=>by rw [z,eF3] at e5; cases e5) e5)) (λk u aj H4 hu hz=>?_) (fun aj H4 hz=>?_)⟩;obtain ⟨o5',rfl,eF4,mW⟩:=hz;obtain ⟨r,hrk,rat⟩:=dM pr hu;have t34:cN H3 H4:=λb xs e=>mW b _ (λz=>by rw [z,eF3] at e; cases e) e;have r100:=lr m mm r (dB hrk);obtain ⟨c6,v6,rfl,e6,p6⟩:=rat.ts t34;have l6:=p6.length;refine ⟨.inl ⟨rfl,_,aY.of eF4⟩,?_⟩;refine ⟨c6,rfl,⟨_,aG.of e6⟩,λD hD=>Qc (R:=gW H4) (R':=λ_ v (n:Str)=>v=V.str n) (F:=λ(r:Row)(n:Str)=>n=r.1) (λ_ r=>r) (λ_ r=>r) hD e6 (by omega) p6 (λi x r H' hi rx s b Q1 q1=>?_) (λws ns H5 s5 eD pw pfn=>?_)⟩;obtain ⟨a1,rfl,ea⟩:=rx;refine ⟨a1,_,rfl,aG.of (s _ _ ea),rfl,_,_,rfl,_,_,rfl,rfl,?_⟩;exact q1 _ _ r.1 (aD.refl _) rfl rfl;have en:ns=r.map cu:=acS pfn;have ew:ws=ns.map V.str:=aas pw;subst en;subst ew;have fk:=Am m.runs k;refine ⟨F,D,_,_,rfl,rfl,s5 _ _ eF4,eD,by simp only [aU,cQ]; omega,?_⟩;refine ⟨_,rfl,?_,λb o nb e=>by rw [bx nb]; exact s5 _ _ (mW b o nb e)⟩;rw [aZ,<- dJ,oU,<- dJ,dI,hrk,Bt];simp;obtain ⟨o5',rfl,eF4,mW⟩:=hz;rw [pr.length,gU] at eF4;refine ⟨_,_,rfl,?_,λb o nb e=>mW b o nb (s3 _ _ (sB b o nb e))⟩;rw [KD em];exact eF4;obtain ⟨o4,o5,rfl,eF,sB⟩:=hz;rw [oM (by omega)] at eF;exact q F H2 fF eF λb o e=>sB b o (cg e fF) (s1 _ _ e)
structure nA(kvs:List (Key × V))(ps:List (Str × Str)):Prop where
 nd:(kvs.map (·.1)).Nodup
 mem:∀ k,k∈kvs.map (·.1)↔k∈(ps.map cu).map cB
 own:(ps.map cu).Nodup->BR kvs ps
theorem nA.nil:nA [] []:=⟨.nil,λk=>by simp,λ_ n=>rfl⟩
theorem afD{k:Key}(h:k∈kvs.map (·.1)):(dH kvs k v).map (·.1)=kvs.map (·.1):=by unfold dH;rw [bh (by obtain ⟨x,hx,e⟩:=cG.mp h;exact Ej.mpr ⟨x,hx,by simpa using e⟩),jM];refine CW λx _=>?_;show (if x.1=k then (x.1,v) else x).1=x.1;split <;> rfl
variable{ps:List (Str × Str)}
theorem nA.put(h:nA kvs ps)(p:Str × Str):nA (dH kvs (.inr p.1) (.str p.2)) (ps++[p]):=by have ow:((ps++[p]).map cu).Nodup->BR (dH kvs (.inr p.1) (.str p.2)) (ps++[p]):=λnd=>(by rw [dJ,vA] at nd;exact (h.own nd.1).put λq hq e=>nd.2.2 _ (iz hq) p.1 (by simp) e);by_cases e:cB p.1∈kvs.map (·.1);refine ⟨by rw [afD e]; exact h.nd,λk=>?_,ow⟩;rw [afD e,h.mem,dJ,dJ,fQ];exact ⟨.inl,λz=>z.elim id λy=>by have:k=cB p.1:=(by simpa using y);rw [this]; exact (h.mem _).mp e⟩;refine ⟨?_,λk=>?_,ow⟩;rw [K02.Bm e,dJ,vA];exact ⟨h.nd,by simp,λx hx y hy ee=>e (by have:y=cB p.1:=(by simpa using hy);rw [<- this,<- ee]; exact hx)⟩;rw [K02.Bm e,dJ,fQ,h.mem,dJ,dJ,fQ];simp
theorem nA.le(h:nA kvs ps):kvs.length<=ps.length:=by have z:=ST.qW h.nd λk hk=>(h.mem k).mp hk;simpa using z
theorem nA.len(h:nA kvs ps):decide (kvs.length=ps.length)=decide (ps.map cu).Nodup:=by rw [jP,decide_eq_true_iff,decide_eq_true_iff];constructor;intro e;refine Nb λnd=>?_;have key:∀ l:List Str,¬ l.Nodup->∃ l':List Str,l'.length+1=l.length/\∀ x∈l,x∈l':=λl=>(by induction l with| nil=>intro z; exact bK TQ z| cons a l ih =>intro z;by_cases m:a∈l;exact ⟨l,rfl,λx hx=>(dF.mp hx).elim (λy=>y ▸ m) id⟩;obtain ⟨l',e',s⟩:=ih λy=>z (uG.mpr ⟨m,y⟩);exact ⟨a :: l',by simp [e'],λx hx=>(dF.mp hx).elim (λy=>y ▸ dg) λy=>dD _ (s x y)⟩);obtain ⟨l',e',s⟩:=key _ nd;have z:=ST.qW (l:=kvs.map (·.1)) (U:=l'.map cB) h.nd λk hk=>(by obtain ⟨n,hn,rfl⟩:=cG.mp ((h.mem k).mp hk);exact iz (s n hn));rw [aU] at e';simp only [aU] at z;omega;intro nd;have z:=ST.qW (l:=(ps.map cu).map (cB:Str->Key)) (U:=kvs.map (·.1)) (by rw [iT,jc];exact (iT.mp nd).imp λh e=>h (rY e)) λk hk=>(h.mem k).mpr hk;simp only [aU] at z;have:=h.le;omega
variable{is:List Int}
theorem agD{bs:List Bool}(l:bs.length=is.length-1)(h:∀(j:Nat)(a b:Int),is[j]?=some a->is[j+1]?=some b->bs[j]?=some (decide (b<=a))):bs.any id=!qK is:=by have e:bs=(oG is).map λp=>decide (p.2<=p.1):=(by refine Ym λj=>?_;unfold oG;rw [cX];rcases qO (j+1) is.length with z | z;have a1:is[j]?=some is[j]:=cT (by omega);have a2:is[j+1]?=some is[j+1]:=cT z;rw [h j _ _ a1 a2];have a3:(is.zip (is.drop 1))[j]?=some (is[j],is[j+1]):=(by rw [List.getElem?_zip_eq_some];exact ⟨a1,by rw [Zh,Ln]; exact a2⟩);rw [a3]; rfl;rw [yd (by omega),yd (by rw [List.length_zip,pJ]; omega)]; rfl);rw [e];unfold qK;rw [List.any_map,List.not_all_eq_any_not];congr 1;funext p;show decide (p.2<=p.1)=!decide (p.1<p.2);rw [jP];simp
def Al(is:List Int):List Bool:=(cY (is.length-1)).map λj=>decide ((is[j+1]?).getD 0<=(is[j]?).getD 0)
theorem abk(is:List Int):(Al is).length=is.length-1:=by unfold Al; rw [aU,rK]
theorem adJ{a b:Int}(h1:is[j]?=some a)(h2:is[j+1]?=some b):(Al is)[j]?=some (decide (b<=a)):=by have hj:=(mK.mp h2).1;unfold Al;rw [cX,M6 (by omega)];show some (decide ((is[j+1]?).getD 0<=(is[j]?).getD 0))=_;rw [h1,h2]; rfl
theorem apr(is:List Int):(Al is).any id=!qK is:=agD (abk is) λ_ _ _ h1 h2=>adJ h1 h2
variable{ns:List Int}
theorem ahA(p:bw (λ(r:Row)(n:Int)=>n=r.2) ss ns):ns=ss.map iY:=by induction p with| nil=>rfl| cons h _ ih=>rw [ih,h]; rfl
theorem paired_ints(p:bw (λ(v:V)(n:Int)=>v=V.int n) ws ns):ws=ns.map V.int:=by induction p with| nil=>rfl| cons h _ ih=>rw [ih,h]; rfl
theorem ux:fB ["_law_houses_here","_law_letters_here","_law_home","_law_many","_law_name","_law_low","_law_high","_law_drift","_law_runs","_law_run","_law_readings","_law_row","_law_reading"] ["_law_houses_here","_law_letters_here"] (bN Ia):=gA
theorem amP(F:gG K "_law_is_ledger" Ia f fd)(T:Txt mg t8 t6 tR tL):bM P w K mg base bR 1 f fd ["_law_houses_here","_law_letters_here"] Tz:=by refine F.ok ux (λvs H Q E h=>?_) (λcdv A outer s H vs Q E hr h=>?_);obtain ⟨x,y,ms,ns,rfl,_⟩:=h;rfl;obtain ⟨x,y,ms,ns,rfl,⟨c,vh,rfl,hc,pc⟩,⟨d,vl,rfl,hd,pd⟩,fi,q⟩:=h;have fW:=dZ;have lc:=pc.length;have ld:=pd.length;refine ⟨_,(bf (pZ 2 ux Lw) (bf (pZ 3 ux aQ) (bf (jd je rfl (gj (pV 0)) (j8 rfl (cZ (pY 4 ux) (cZ (pY 5 ux) (cZ (pY 6 ux) (cZ (pY 7 ux) (cZ (pY 8 ux) jV)))))) (bC (jd je rfl (gj (pV 8)) (pY 9 ux) (bf (pZ 10 ux (jg (bQ:=bN Ia) (own:=["_law_row","_law_reading"]) (cap:=[]) (ix:=[]) rfl rfl gP (gj (pV 9)) (λb=>(j8 rfl (cZ (pH 0 ["_law_row","_law_reading"]) (cZ (pH 1 ["_law_row","_law_reading"]) jV)))) (λb=>ig) (λb=>(pV 1)))) (bf (gD (jO (cR (am8 rfl) rfl T.any PyProof.Rows.boot_any (aq (jg (bQ:=bN Ia) (own:=["_law_k"]) (cap:=["_law_readings"]) (ix:=[10]) rfl rfl gP (aaY rfl T.range (aq aQ (aq (cR jC rfl T.len iM (aq (pV 10) aC)) aC))) (λb=>(pH 0 ["_law_k","_law_readings"])) (λb=>ig) (λb=>(rW oLe (pX mJ (pV 1) (pV 0)) (pX mJ (pV 1) (cC zL (pV 0) aQ)) (cV _)))) aC))) (bC (cO mF)) gC) (bf (pZ 3 ux (cC gM (pV 3) (cR jC rfl T.len iM (aq (pV 9) aC)))) (bC (jd je rfl (gj (pV 9)) (j8 rfl (cZ (pY 11 ux) (cZ (pY 12 ux) jV))) (bC (KH (kY hr) (pV 2) (pV 11) (pV 4) rfl)))))))))) (bf (gD (uo (gF oNe (cR V8 rfl T.len iM (aq (pV 2) aC)) (pV 3) (cV _)) (pw_or (gF yX (pV 3) aQ (cV _)) (pw_or (gF yX (cR jC rfl T.len iM (aq (pV 0) aC)) aQ (cV _)) (pw_or1 (gF yX (cR jC rfl T.len iM (aq (pV 1) aC)) aQ (cV _)))))) (bC (cO mF)) gC) (bC (cO (cR (Bp rfl) rfl T.all Bx (aq (jg (bQ:=bN Ia) (own:=["_law_letter"]) (cap:=["_law_home"]) (ix:=[2]) rfl rfl gP (gj (pV 1)) (λb=>(pH 0 ["_law_letter","_law_home"])) (λb=>ig) (λb=>(rW (Ca hr.units) (vo (kY hr) (pV 1) (pX cM (pV 0) aQ) (λ_ _=>rfl)) (vo (kY hr) (pV 1) (pX cM (pV 0) aQ) (λ_ _=>rfl)) (cV _)))) aC)))))))),?_⟩;refine λDh fD=>?_;refine gE fD λH0 s0 eD0=>?_;have nS:∀{H':Hp},aW Dh H0 H'->aD H H':=λs b o e=>s b o (cg e fD) (s0 _ _ e);have rows:=fi.rows;refine ⟨c,rfl,⟨_,aG.of (s0 _ _ hc)⟩,nu (xs:=vh) (λi aj H'=>Za λkvs o4 o5 o6 o7 o8 o9 jj iy mY=>jt (aj=[aM c,aM d,aM Dh,bU ((bT (ms.take i)).length:Int),o4,o5,o6,o7,o8,o9,jj,iy,mY]) (H' Dh=some (.dK kvs)) (nA kvs (bT (ms.take i))) ((∀ h∈ms.take i,(h.runs.all λr=>qK (r.map iY))=true)) (aW Dh H0 H')) ⟨[],none,none,none,none,none,none,none,none,none,rfl,eD0,nA.nil,(λh hh=>by simp at hh),λb o _ e=>e⟩ (λi aj H' _ hz=>by obtain ⟨_,_,_,_,_,_,_,_,_,_,_,_,_,_,s⟩:=hz;exact aG.of (nS s _ _ hc)) (λi v aj H1 hv hz=>?_) (fun aj H1 hz=>?_)⟩;obtain ⟨kvs,o4,o5,o6,o7,o8,o9,jj,iy,mY,rfl,eD,hm,al,sB⟩:=hz;obtain ⟨h,hhi,hat⟩:=dM pc hv;have hmm:=dB hhi;obtain ⟨c1,b1,rfl,e1,c5,vr,rfl,e5,pr⟩:=hat;have pt:bT (ms.take (i+1))=bT (ms.take i)++jJ h:=(by unfold bT;rw [dI,hhi,rM];simp);have big:(bT (ms.take i)).length+h.runs.flatten.length<=10000:=(by have z:=N8 ms (i+1);rw [KD hhi,cQ] at z;have y1:(fH h).length=h.runs.flatten.length:=(by unfold fH qJ; rw [aU]);have y2:(bT (ms.take i)).length=(bA (ms.take i)).length:=(by rw [<- rZ,aU]);omega);refine ⟨c1,_,rfl,aG.of (nS sB _ _ e1),rfl,_,_,rfl,_,_,rfl,_,_,rfl,_,_,rfl,_,_,rfl,rfl,?_⟩;refine ⟨c5,rfl,⟨_,aG.of (nS sB _ _ e5)⟩,nu (xs:=vr) (λk aj H'=>QX5 λkvs o9 jj iy mY=>jt (aj=[aM c,aM d,aM Dh,bU ((bT (ms.take i)++((h.runs.take k).flatten).map λr=>(r.1,h.name)).length:Int),nJ h.name,bU h.low,bU h.high,bU h.bV,aM c5,o9,jj,iy,mY]) (H' Dh=some (.dK kvs)) (nA kvs (bT (ms.take i)++((h.runs.take k).flatten).map λr=>(r.1,h.name))) ((∀ r∈h.runs.take k,qK (r.map iY)=true)) (aW Dh H0 H')) ⟨kvs,o9,jj,iy,mY,(by simp),eD,(by simpa using hm),(λh hh=>by simp at hh),sB⟩ (λi aj H' _ hz=>by obtain ⟨_,_,_,_,_,_,_,_,_,s⟩:=hz;exact aG.of (nS s _ _ e5)) (λk u aj H2 hu hz=>?_) (fun aj H2 hz=>?_)⟩;obtain ⟨Mq,o9',akT,ags,abF,rfl,tM,hm2,yR,zW⟩:=hz;obtain ⟨r,hrk,rat⟩:=dM pr hu;have rm:=dB hrk;obtain ⟨c6,v6,rfl,e6,p6⟩:=rat;have S2:=nS zW;have l6:=p6.length;have r25:=(fi.hs h hmm).run r rm;generalize eP:bT (ms.take i)++((h.runs.take k).flatten).map (λr=>(r.1,h.name))=ps at hm2;have lps:ps.length<=10000:=(by have z:=Am h.runs k;rw [<- eP,cQ,aU]; omega);have ept:bT (ms.take i)++((h.runs.take (k+1)).flatten).map (λr=>(r.1,h.name))=ps++r.map λr=>(r.1,h.name):=(by rw [<- eP,dI,hrk,Bt,dJ,oU];simp);refine ⟨c6,rfl,⟨_,aG.of (S2 _ _ e6)⟩,λD hD=>Qc (R:=gW H2) (R':=λ_ v (i:Int)=>v=V.int i) (F:=λ(r:Row)(i:Int)=>i=r.2) (λ_ r=>r) (λ_ r=>r) hD (S2 _ _ e6) (by omega) (bG (λ_ _ z=>z.ts S2.aK) p6) (λi x r H' hi rx s b Q1 q1=>?_) (λws is H3 s3 pQ pw pfn=>?_)⟩;obtain ⟨a1,rfl,ea⟩:=rx;refine ⟨a1,_,rfl,aG.of (s _ _ ea),rfl,_,_,rfl,_,_,rfl,rfl,?_⟩;exact q1 _ _ _ (aD.refl _) rfl rfl;have ei:is=r.map iY:=ahA pfn;have ew:ws=is.map V.int:=paired_ints pw;subst ew;have li:is.length=r.length:=(by rw [ei,aU]);refine ⟨D,_,rfl,.inl (aY.of pQ),?_⟩;refine ⟨1,((is.map V.int).length:Int),rfl,?_,?_⟩;rw [aU]; omega;have en:(((is.map V.int).length:Int)-1).toNat=is.length-1:=(by rw [aU]; omega);rw [en];refine λD2 hD2=>JL (lo:=1) (n:=is.length-1) (λj H'=>cW H3 H' D2 (((Al is).take j).map V.bl)) (cW.start hD2) (λH' G=>?_) (λj H' hj G b=>?_);rw [oM (by rw [abk]; exact bB _)] at G;refine ⟨D2,Al is,rfl,aY.of G.at',?_⟩;rw [apr];have S3:aW Dh H0 H':=(zW.ao (aW.of s3)).ao (aW.of G.same);cases er:qK is;have e:qd ms ns=false:=(by unfold qd;rw [IK.mpr ⟨h,hmm,λz=>by have y:=fX.mp (show (h.runs.all λr=>qK (r.map iY))=true from z) r rm;rw [<- ei,er] at y; cases y⟩];rfl);rw [e] at q;exact q H' (nS S3);refine ⟨c6,_,rfl,.inr (aG.of (nS S3 _ _ e6)),?_⟩;have eDh:H' Dh=some (.dK Mq):=(s3.ao G.same) _ _ tM;refine ⟨c6,rfl,⟨_,aG.of (nS S3 _ _ e6)⟩,nu (xs:=v6) (λj aj H'=>kJ λkvs iy mY=>wB (aj=[aM c,aM d,aM Dh,bU ((ps.length:Int)+(v6.length:Int)),nJ h.name,bU h.low,bU h.high,bU h.bV,aM c5,aM c6,aM D,iy,mY]) (H' Dh=some (.dK kvs)) (nA kvs (ps++(r.take j).map λr=>(r.1,h.name))) (aW Dh H0 H')) ⟨Mq,ags,abF,rfl,eDh,(by simpa using hm2),S3⟩ (λi aj H' _ hz=>by obtain ⟨_,_,_,_,_,_,s⟩:=hz;exact aG.of (nS s _ _ e6)) (λj u aj H4 hu hz=>?_) (fun aj H4 hz=>?_)⟩;obtain ⟨lD,agg,agv,rfl,xU,yO,mW⟩:=hz;obtain ⟨x,hx,xat⟩:=dM p6 hu;obtain ⟨a1,rfl,ea⟩:=xat;refine ⟨a1,_,rfl,aG.of (nS mW _ _ ea),rfl,_,_,rfl,_,_,rfl,rfl,?_⟩;have lk:lD.length<aL:=(by have z:=yO.le;rw [cQ,aU,eY] at z;omega);refine ⟨Dh,_,rfl,wV.k (k:=.inr x.1) xU lk,?_⟩;refine ⟨_,_,_,rfl,aZ,?_,λb o nb e=>by rw [bx nb]; exact mW b o nb e⟩;have z:=yO.put (x.1,h.name);rw [oU] at z;rw [dI,hx,dJ];exact z;obtain ⟨lD,agg,agv,rfl,xU,yO,mW⟩:=hz;rw [l6,gU] at yO;refine ⟨lD,some (.ref c6),some (.ref D),agg,agv,?_,xU,by rw [ept]; exact yO,yw hrk yR (by rw [<- ei]; exact er),mW⟩;rw [ept,cQ,aU,l6];rfl;have a2:is[j+1]?=some is[j+1]:=cT (by omega);have a1:is[j]?=some is[j]:=cT (by omega);refine m7 (G.same _ _ pQ) (i:=1+(j:Int)) (v:=.int is[j+1]) ?_ ?_;rw [show (1:Int)+(j:Int)=((j+1:Nat):Int) by omega];exact j9 (by rw [cX,a2]; rfl);refine m7 (G.same _ _ pQ) (i:=1+(j:Int)-1) (v:=.int is[j]) ?_ ?_;rw [show (1:Int)+(j:Int)-1=((j:Nat):Int) by omega];exact j9 (by rw [cX,a1]; rfl);refine ⟨_,G.at',?_,nx hj ?_⟩;rw [aU,eY]; omega;have e2:(Al is).take (j+1)=(Al is).take j++[decide (is[j+1]<=is[j])]:=(by rw [dI,adJ a1 a2]; rfl);show cW H3 _ D2 _;rw [e2,dJ];exact G.put hD2 _;obtain ⟨nP,o9',akT,ags,abF,rfl,tM,hm2,yR,zW⟩:=hz;rw [pr.length,gU] at hm2 yR;have e9:(h.runs.flatten.map λr=>(r.1,h.name))=jJ h:=rfl;rw [e9,<- pt] at hm2;rw [pr.length,gU,e9,<- pt];exact ⟨nP,_,_,_,_,_,_,_,_,_,rfl,tM,hm2,yw hhi al (fX.mpr yR),zW⟩;obtain ⟨kvs,o4,o5,o6,o7,o8,o9,jj,iy,mY,rfl,eD,hm,al,sB⟩:=hz;rw [lc,gU] at hm al;rw [lc,gU];have S1:=nS sB;have A1:ms.all vO=true:=fX.mpr al;have lp:(bT ms).length=(bA ms).length:=(by rw [<- rZ,aU]);have nd:=hm.len;rw [rZ] at nd;refine ⟨Dh,kvs,rfl,eD,?_⟩;have no:∀{b:Bool},qd ms ns=b->∀ H',aD H H'->Q (.bl b) H':=λe=>e ▸ q;have e1:(!decide ((kvs.length:Int)=((bT ms).length:Int)))=!decide (bA ms).Nodup:=(by rw [<- nd];congr 1;rw [jP,decide_eq_true_iff,decide_eq_true_iff];omega);have e2:decide ((24:Int)<((bT ms).length:Int))=!decide ((bA ms).length<=24):=(by rw [lp,jP]; simp; omega);have e3:decide ((6:Int)<(vh.length:Int))=!decide (ms.length<=6):=(by rw [lc,jP]; simp; omega);have e4:decide ((24:Int)<(vl.length:Int))=!decide (ns.length<=24):=(by rw [ld,jP]; simp; omega);unfold qd at no;rw [A1,xQ] at no;show if (!decide ((kvs.length:Int)=((bT ms).length:Int)))=true then _ else _;rw [e1];cases z1:decide (bA ms).Nodup;rw [z1] at no;exact no rfl H1 S1;rw [z1,xQ] at no;show if decide ((24:Int)<((bT ms).length:Int))=true then _ else _;rw [e2];cases z2:decide ((bA ms).length<=24);rw [z2] at no;exact no rfl H1 S1;rw [z2,xQ] at no;refine ⟨c,vh,rfl,.inr (aG.of (S1 _ _ hc)),?_⟩;show if decide ((6:Int)<(vh.length:Int))=true then _ else _;rw [e3];cases z3:decide (ms.length<=6);rw [z3] at no;exact no rfl H1 S1;rw [z3,xQ] at no;refine ⟨d,vl,rfl,.inr (aG.of (S1 _ _ hd)),?_⟩;show if decide ((24:Int)<(vl.length:Int))=true then _ else _;rw [e4];cases z4:decide (ns.length<=24);rw [z4] at no;exact no rfl H1 S1;rw [z4,xQ] at no;have own:=hm.own (by rw [rZ]; exact iH z1);have look:∀ n∈bA ms,∃ x,lM (bT ms) n=some x:=λn hn=>(by rw [<- rZ] at hn;obtain ⟨p,hp,e⟩:=cG.mp hn;cases z:lM (bT ms) n with| some x=>exact ⟨x,rfl⟩| none =>unfold lM at z;rw [Option.map_eq_none_iff,Bf] at z;exact bK (fj e) (z p hp));have n24:ns.length<=24:=iH z4;refine ⟨d,rfl,⟨_,aG.of (S1 _ _ hd)⟩,λD hD=>Ce (xs:=vl) (λi H'=>cW H1 H' D (((ns.map (tK ms)).take i).map V.bl)) (cW.start hD) (λi H' _ G=>aG.of (G.same _ _ (S1 _ _ hd))) (λH' G=>?_) (λi x H' hx hi G b=>?_)⟩;rw [oM (by rw [aU]; omega)] at G;refine ⟨D,_,rfl,aY.of G.at',?_⟩;refine no ?_ H' (S1.ao G.same);rw [JG]; rfl;obtain ⟨l,hli,lat⟩:=dM pd hx;have lm:=dB hli;obtain ⟨a1,rfl,ea⟩:=lat;have ea':=G.same _ _ (S1 _ _ ea);have eDh:=G.same _ _ eD;obtain ⟨n1,n2⟩:=fi.own l lm;obtain ⟨x1,ex1⟩:=look _ n1;obtain ⟨x2,ex2⟩:=look _ n2;refine cL (aG.of ea') (i:=0) (v:=.str l.1.1) (by rfl) ?_;refine ⟨Dh,.str x1,rfl,?_,?_⟩;have z:=ji.k (k:=.inr l.1.1) eDh;rw [own,ex1] at z;exact z;refine cL (aG.of ea') (i:=1) (v:=.str l.1.2) (by rfl) ?_;refine ⟨Dh,.str x2,rfl,?_,?_⟩;have z:=ji.k (k:=.inr l.1.2) eDh;rw [own,ex2] at z;exact z;have gx:∀{n x:Str},lM (bT ms) n=some x->dG x:=λ{n x} e=>(by unfold lM at e;cases z:(bT ms).find? (λp=>decide (p.1=n)) with| none=>rw [z] at e; cases e| some p =>rw [z] at e;cases e;obtain ⟨k,hk,hp⟩:=jR.mp (XJ z);obtain ⟨y,hy,e⟩:=cG.mp hp;rw [<- e];exact (fi.hs k hk).name);refine ⟨.str x1,.str x2,.str _,.str _,Hg (gx ex1),Hg (gx ex2),?_⟩;rw [QK];refine ⟨_,G.at',by rw [aU,eY,aU]; omega,nx hi ?_⟩;have e5:tK ms l=!decide (x1=x2):=(by unfold tK; rw [ex1,ex2]);show cW H1 _ D _;rw [dI,cX,hli,dJ];show cW H1 _ D (_++[V.bl (tK ms l)]);rw [e5];exact G.put hD _
structure Av(n:Nat)(r:List Row):Prop where
 ne:r≠[]
 lex:Ae r
 few:r.length<=n
 rn:∀ x∈r,dG x.1
structure MK(r:List Row):Prop extends Av 12 r where
 rise:(r.map iY).Pairwise (·<·)
theorem NZ(ne:r≠[])(rise:(r.map iY).Pairwise (·<·))(few:r.length<=12)(rn:∀ x∈r,dG x.1):MK r:=⟨⟨ne,acd rise,few,rn⟩,rise⟩
structure eG(h:aP):Prop where
 name:dG h.name
 wide:h.low<=h.high
 bV:0<=h.bV
 many:h.runs.length<=25
 runs:∀ r∈h.runs,MK r
structure Led(hs:List aP)(ls:List bH):Prop where
 lo:1<=hs.length
 hi:hs.length<=6
 hh:∀ h∈hs,eG h
 nd:(hs.map aP.name).Nodup
 uY:ls.length<=24
 ll:∀ l∈ls,yu l
 rise:(ls.map cu).Pairwise (λa b=>jE a b=true)
 own:∀ l∈ls,l.1.1∈bA hs/\l.1.2∈bA hs
theorem aaQ{l:List bH}(h:(l.map cu).Pairwise (λa b=>jE a b=true)):(l.map cu).Nodup :=
 iT.mpr (h.imp λ{a b} h e=>by rw [e,Kc.qg] at h; cases h)
theorem al4(h:Ae r):r.Nodup:=by have S:=KR vK kdS;unfold Ae at h;rw [jc] at h;exact iT.mpr (h.imp λ{a b} h e=>by rw [e] at h; have z:oZ vK kdS (yK b) (yK b)=true:=h; rw [S.qg] at z; cases z)
theorem ac5:∀{a b r:List (List Row)},qF a b r->∀ x∈r,x∈a\/x∈b\/∃ p∈a,∃ q∈b,uM p q x
 | [],_,_,m,x,hx=>by cases m; exact .inr (.inl hx)
 | _ :: _,[],_,m,x,hx=>by cases m; exact .inl hx
 | p :: a,q :: b,r :: rs,m,x,hx=>by rcases dF.mp hx with e | e;rw [e]; exact .inr (.inr ⟨p,dg,q,dg,m.1⟩);rcases ac5 m.2 x e with z | z | ⟨p',hp,q',hq,z⟩;exact .inl (dD _ z);exact .inr (.inl (dD _ z));exact .inr (.inr ⟨p',dD _ hp,q',dD _ hq,z⟩)
 | _ :: _,_ :: _,[],m,_,_=>m.elim
theorem abX:∀{a b r:List (List Row)},qF a b r->r.length<=max a.length b.length
 | [],_,_,m=>by cases m; simp
 | _ :: _,[],_,m=>by cases m; simp
 | p :: a,q :: b,r :: rs,m=>by have z:=abX m.2;simp only [jY];omega
 | _ :: _,_ :: _,[],m=>m.elim
theorem ajw{p q x:List Row}(hp:Av 12 p)(hq:Av 12 q)(m:uM p q x):Av 24 x:=by refine ⟨λe=>?_,m.rise,?_,λy hy=>((m.mem y).mp hy).elim (hp.rn y) (hq.rn y)⟩;(cases p with| nil=>exact hp.ne rfl| cons y _ =>have z:=(m.mem y).mpr (.inl dg);rw [e] at z; cases z);have z:=ST.qW (al4 m.rise) (U:=p++q) λy hy=>fQ.mpr ((m.mem y).mp hy);rw [cQ] at z;have:=hp.few;have:=hq.few;omega
theorem Av.more(h:Av 12 r):Av 24 r:=⟨h.ne,h.lex,gw h.few (by decide),h.rn⟩
theorem Wu{aJ:Type}{c:Nat}:∀{l:List (List aJ)},(∀ r∈l,r.length<=c)->l.flatten.length<=l.length * c
 | [],_=>by simp
 | r :: l,h=>by have a:=h r dg;have b:=Wu (l:=l) λx hx=>h x (dD _ hx);rw [rO,cQ,jY,Ng];omega
theorem XQ{c:Nat}:∀{ms:List aP},(∀ m∈ms,m.runs.flatten.length<=c)->(bA ms).length<=ms.length * c
 | [],_=>by simp [bA]
 | m :: ms,h=>by have a:=h m dg;have b:=XQ (ms:=ms) λx hx=>h x (dD _ hx);have e:bA (m :: ms)=fH m++bA ms:=rfl;have e2:(fH m).length=m.runs.flatten.length:=(by unfold fH qJ; rw [aU]);rw [e,cQ,jY,Ng];omega
structure K4(m:aP):Prop where
 name:dG m.name
 wide:m.low<=m.high
 bV:0<=m.bV
 many:m.runs.length<=25
 runs:∀ r∈m.runs,Av 24 r
theorem K4.of(a:eG h):K4 h:=⟨a.name,a.wide,a.bV,a.many,λr hr=>(a.runs r hr).toAv.more⟩
theorem hmade{k:aP}(a:eG h)(b:eG k)(c:qj h k m):K4 m:=by refine ⟨by rw [c.name]; exact a.name,by rw [c.low,c.high]; exact a.wide,by rw [c.bV]; exact a.bV,?_,λr hr=>?_⟩;have z:=abX c.runs;have:=a.many;have:=b.many;omega;rcases ac5 c.runs r hr with z | z | ⟨p,hp,q,hq,z⟩;exact (a.runs r z).toAv.more;exact (b.runs r z).toAv.more;exact ajw (a.runs p hp).toAv (b.runs q hq).toAv z
section
variable{hs ks ms:List aP}{ls ls' ns:List bH}(A:Led hs ls)(B:Led ks ls')
include A B
theorem afW(hh:h∈hs):eG (iK ks h):=by rcases Qi (ks:=ks) (h:=h) with ⟨_,e⟩ | ⟨m,_,_⟩;rw [e]; exact A.hh h hh;exact B.hh _ m
omit B in
theorem ah4{first:List aP}(pf:bw (λh m=>qj h (iK ks h) m) hs first)(hm:m∈first):∃ h∈hs,qj h (iK ks h) m:=by clear A;induction pf with| nil=>cases hm| cons a _ ih =>rcases dF.mp hm with e | e;rw [e]; exact ⟨_,dg,a⟩;obtain ⟨h,hh,z⟩:=ih e;exact ⟨h,dD _ hh,z⟩
theorem ai1(mh:zf hs ks ms):∀ m∈ms,K4 m:=λm hm=>by
 obtain ⟨first,rfl,pf⟩:=mh.ex;rcases fQ.mp hm with z | z
 . obtain ⟨h,hh,c⟩:=ah4 A pf z;exact hmade (A.hh h hh) (afW A B hh) c
 . exact K4.of (B.hh m ((xr.mp z).1))
omit A in
theorem Oz(mh:zf hs ks ms)(h:n∈bA hs\/n∈bA ks):n∈bA ms:=by obtain ⟨first,rfl,pf⟩:=mh.ex;have key:∀ h∈hs,∀ x,x∈h.runs.flatten\/x∈(iK ks h).runs.flatten->x.1∈bA (first++ks.filter (iC hs)):=λh hh x hx=>(by obtain ⟨m,hm,c⟩:=aiI pf hh;exact jR.mpr ⟨m,yr _ hm,iz ((afl c.runs x).mpr hx)⟩);rcases h with h | h;obtain ⟨k,hk,hn⟩:=jR.mp h;obtain ⟨x,hx,rfl⟩:=cG.mp hn;exact key k hk x (.inl hx);obtain ⟨k,hk,hn⟩:=jR.mp h;by_cases e:iC hs k=true;exact jR.mpr ⟨k,jH _ (xr.mpr ⟨hk,e⟩),hn⟩;obtain ⟨h0,hh0,en⟩:∃ h0∈hs,h0.name=k.name:=(by have z:k.name∈hs.map aP.name:=Nb λz=>e (MJ.mpr z);obtain ⟨h0,a,b⟩:=cG.mp z;exact ⟨h0,a,b⟩);obtain ⟨x,hx,rfl⟩:=cG.mp hn;exact key h0 hh0 x (.inr (by rw [O9 B.nd hk en.symm]; exact hx))
theorem Fb(few:∀ ns,xR ls ls' ns->ns.length<=25):Pair hs ks ls ls':=by have made:∀ ms ns,rA hs ks ls ls' ms ns->ms.length<=12/\1<=ms.length/\(ms.map aP.name).Nodup:=λms ns c=>(by obtain ⟨first,rfl,pf⟩:=c.mh.ex;have l1:=pf.length;have l2:=Gn (iC hs) ks;have:=A.lo;have:=A.hi;have:=B.hi;rw [cQ];refine ⟨by omega,by omega,?_⟩;rw [dJ,ak3 pf,vA];refine ⟨A.nd,B.nd.sublist (List.filter_sublist.map _),λa ha b hb e=>?_⟩;obtain ⟨k,hk,rfl⟩:=cG.mp hb;rw [e] at ha;exact MJ.mp (xr.mp hk).2 ha);have ok:∀ ms ns,rA hs ks ls ls' ms ns->∀ l∈ns,yu l:=λms ns c l hl=>((c.ml.mem l).mp hl).elim (A.ll l) (B.ll l);refine ⟨⟨⟨A.hi,B.hi,λh hh=>(A.hh h hh).name,λh hh=>(B.hh h hh).name,B.nd,λh hh=>?_⟩,A.nd,λh hh r hr=>?_,λh hh r hr=>?_⟩,⟨A.uY,B.uY,λl hl=>?_⟩,aaQ A.rise,aaQ B.rise,λms ns c=>?_⟩;have a:=A.hh h hh;have b:=afW A B hh;exact ⟨a.many,b.many,λr hr=>gw (a.runs r hr).few (by decide),λr hr=>gw (b.runs r hr).few (by decide)⟩;have z:=(A.hh h hh).runs r hr;exact ⟨z.lex,gw z.few (by decide)⟩;have z:=(B.hh h hh).runs r hr;exact ⟨z.lex,gw z.few (by decide)⟩;rcases fQ.mp hl with z | z;exact ⟨(A.ll l z).sent,(A.ll l z).taken⟩;exact ⟨(B.ll l z).sent,(B.ll l z).taken⟩;have mk:=ai1 A B c.mh;obtain ⟨l1,l2,nd⟩:=made ms ns c;refine ⟨⟨l2,by omega,nd,few ns c.ml,c.ml.rise,λm hm=>⟨(mk m hm).name,(mk m hm).wide,(mk m hm).bV,(mk m hm).many,λr hr=>((mk m hm).runs r hr).ne,λr hr=>gw ((mk m hm).runs r hr).few (by decide),λr hr=>((mk m hm).runs r hr).rn⟩,ok ms ns c⟩,?_,λl hl=>?_⟩;have z:=XQ (c:=600) λm hm=>gw (Wu λr hr=>((mk m hm).runs r hr).few) (by have:=(mk m hm).many; omega);omega;rcases (c.ml.mem l).mp hl with z | z;exact ⟨Oz B c.mh (.inl (A.own l z).1),Oz B c.mh (.inl (A.own l z).2)⟩;exact ⟨Oz B c.mh (.inr (B.own l z).1),Oz B c.mh (.inr (B.own l z).2)⟩
end
structure Ev(hs:List aP)(ls:List bH)(i:Nat)(h0 h:aP)(iB:List bH):Prop where
 ok:eG h
 nm:h.name=h0.name\/h.name = "merger"
 sub:iB.Sublist ls
 own:∀ l∈iB,l.1.1∈bA (hs.set i h)/\l.1.2∈bA (hs.set i h)
theorem Vb{l:List aJ}{x:aJ}(e:l[i]?=some x):l.set i x=l:=by refine Ym λj=>?_;rw [ae6];split;rename_i h; subst h; rw [bh (mK.mp e).1,e];rfl
variable{h0:aP}
theorem Ev.start{ls:List bH}(L:Led hs ls)(e:hs[i]?=some h0):Ev hs ls i h0 h0 ls:=by refine ⟨L.hh h0 (dB e),.inl rfl,Lj _,λl hl=>?_⟩;rw [Vb e];exact L.own l hl
theorem mem_set{k:aP}(hk:k∈hs.set i h):k=h\/∃ j,j≠i/\hs[j]?=some k:=by obtain ⟨j,hj,e⟩:=Eo hk;have e1:(hs.set i h)[j]?=some k:=(by rw [cT hj,e]);rw [ae6] at e1;split at e1;split at e1;cases e1; exact .inl rfl;cases e1;rename_i z; exact .inr ⟨j,gQ z,e1⟩
variable{h':aP}
theorem QJ(e:∀ n,n∈fH h->n∈fH h')(hn:n∈bA (hs.set i h)):n∈bA (hs.set i h'):=by obtain ⟨k,hk,hn⟩:=jR.mp hn;rcases mem_set hk with z | ⟨j,nj,ej⟩;by_cases li:i<hs.length;exact jR.mpr ⟨h',dB (Hq li),e n (z ▸ hn)⟩;rw [List.set_eq_of_length_le (by omega)] at hk |-;exact jR.mpr ⟨k,hk,hn⟩;exact jR.mpr ⟨k,dB (by rw [DK (gQ nj)]; exact ej),hn⟩
variable{iB:List bH}
theorem Ev.put{ls:List bH}(E:Ev hs ls i h0 h iB)(ok:eG h')(nm:h'.name=h.name\/h'.name = "merger")(e:∀ n,n∈fH h->n∈fH h'):Ev hs ls i h0 h' iB :=
 ⟨ok,nm.elim (λz=>E.nm.imp z.ao z.ao) .inr,E.sub,λl hl=>⟨QJ e (E.own l hl).1,QJ e (E.own l hl).2⟩⟩
theorem Ev.led{ls:List bH}(L:Led hs ls)(nme:∀ h∈hs,h.name≠"merger")(e:hs[i]?=some h0)(E:Ev hs ls i h0 h iB):Led (hs.set i h) iB:=by refine ⟨by rw [Ad]; exact L.lo,by rw [Ad]; exact L.hi,λk hk=>?_,?_,gw E.sub.length_le L.uY,λl hl=>L.ll l (E.sub.subset hl),L.rise.sublist (E.sub.map _),E.own⟩;rcases mem_set hk with rfl | ⟨j,_,ej⟩;exact E.ok;exact L.hh k (dB ej);rw [List.map_set];rcases E.nm with z | z;rw [z,Vb (by rw [cX,e]; rfl)]; exact L.nd;rw [z];have no:("merger" : Str) ∉ hs.map aP.name:=λy=>(by obtain ⟨k,hk,ek⟩:=cG.mp y;exact nme k hk ek);have nd:=L.nd;generalize hs.map aP.name=ns at nd no;clear e E z;induction ns generalizing i with| nil=>exact .nil| cons n ns ih =>obtain ⟨n1,n2⟩:=uG.mp nd;cases i with| zero=>exact uG.mpr ⟨λy=>no (dD _ y),n2⟩| succ i =>refine uG.mpr ⟨λy=>?_,ih n2 λy=>no (dD _ y)⟩;rcases VH y with w | w;exact n1 w;exact no (by rw [<- w]; exact dg)
def uz(i:Int):Int:=if i<0 then -i else i
theorem aa3(i:Int):0<=uz i:=by unfold uz; split <;> omega
theorem apc(m:Int)(h:(r.map iY).Pairwise (·<·)):((r.map λx=>(x.1,x.2+m)).map iY).Pairwise (·<·):=by rw [jM,jc];rw [jc] at h;exact h.imp λ{a b} z=>by show a.2+m<b.2+m; omega
theorem Led.letter{ls:List bH}{k:Nat}(L:Led hs ls)(e:ls[k]?=some l)(e1:l'.1=l.1)(ok:yu l'):Led hs (ls.set k l'):=by have em:(ls.set k l').map cu=ls.map cu:=(by rw [List.map_set,e1];exact Vb (by rw [cX,e]; rfl));refine ⟨L.lo,L.hi,L.hh,L.nd,by rw [Ad]; exact L.uY,λx hx=>?_,by rw [em]; exact L.rise,λx hx=>?_⟩;rcases VH hx with z | z;exact L.ll x z;rw [z]; exact ok;rcases VH hx with z | z;exact L.own x z;rw [z,e1]; exact L.own l (dB e)
def VB:Sp:=λvs H Q _=>mz λ(p:au)(x:V)(hs:List aP)(ls:List bH)=>uf (vs=[.ref p,x]) (fV H p) (iI H x hs ls) (Led hs ls) ((∀ h∈hs,h.name≠"merger")) (∀(z:V)(ks:List aP)(ns:List bH)(H':Hp),iI H' z ks ns->Led ks ns->ns.length<=ls.length->fV H' p->aW p H H'->Q z H')
def xW(h:aP)(rs:List (List Row)):aP:=⟨h.name,h.low,h.high,h.bV,rs⟩
theorem acs:n∈bA (rB hs i h0 h.runs)↔n∈bA (hs.set i h):=⟨QJ (h:=xW h0 h.runs) (h':=h) λ_ z=>z,QJ (h:=h) (h':=xW h0 h.runs) λ_ z=>z⟩
theorem ae8{l m:List aJ}(z:bw (λk k'=>k=k') l m):m=l:=by induction z with| nil=>rfl| cons h _ ih=>rw [ih,h]
theorem acL{l:List aJ}(h:i<l.length)(x:aJ):l.set i x=l.take i++[x]++l.drop (i+1):=by rw [List.set_eq_take_append_cons_drop,bh h,oU]; rfl
theorem ahP:dG "qzqz":=⟨by decide +kernel,by decide +kernel,by decide +kernel⟩
theorem aiC:dG "merger":=⟨by decide +kernel,by decide +kernel,by decide +kernel⟩
theorem eG.Xl(a:eG h)(l:rs.length<=25)(g:∀ r∈rs,MK r):eG (xW h rs):=⟨a.name,a.wide,a.bV,l,g⟩
theorem aco{c:Expr}{t:TT}(h:L2.ST X c t):SIf X [c] t:=⟨Lx h.h⟩
def BtS(p a ch:au)(pick more:Int)(i:Nat)(hs:List aP)(ls:List bH)(h0:aP)(H0:Hp):St->Hp->Prop:=fun aj H'=>mz λ(h:aP)(b yl:V)(iB:List bH)=>uf (aj=[aM p,aM a,aM ch,some yl,bU pick,bU more,bU (i:Int),nJ h.name,bU h.low,bU h.high,bU h.bV,some b,aX,aX,aX,aX,aX,aX]) (uP H' b h.runs) (vJ H' yl iB) (Ev hs ls i h0 h iB) (fV H' p) (aW p H0 H')
theorem ifB(Ok:Bool->Hp->Prop)(h:∀ R:Bool->Hp->Prop,(∀ c H1,Ok c H1->R c H1)->tt aj H R)(h1:∀ H1,Ok true H1->ta D aj H1)(h2:∀ H1,Ok false H1->tb D aj H1):Er tt ta tb D aj H:=ifU Ok h λc H1 ok=>by
 cases c
 . exact h2 H1 ok
 . exact h1 H1 ok
theorem adi{f:aJ->bO}{l:List aJ}{m:List bO}(z:bw (λk k'=>k'=f k) l m):m=l.map f:=by induction z with| nil=>rfl| cons h _ ih=>rw [ih,h]; rfl
theorem jD:fB ["_law_pack_here","_law_ledger_here","_law_houses_here","_law_letters_here","_law_pick","_law_more","_law_at","_law_name","_law_low","_law_high","_law_drift","_law_runs","_law_k","_law_one","_law_two","_law_least","_law_most","_law_bent_here"] ["_law_pack_here","_law_ledger_here"] (bN HX):=gA
theorem apk(F:gG K "_law_bent" HX f fd)(T:Txt mg t8 t6 tR tL)(fZ:Cl P w K mg base 1 "_law_take" ["_law_pack_here","_law_size"] yP)(acy:Cl P w K mg base 1 "_law_names_in" ["_law_runs","_law_houses_here","_law_at"] Vg):bM P w K mg base bR 2 f fd ["_law_pack_here","_law_ledger_here"] VB:=by refine F.ok jD (λvs H Q E h=>?_) (λcdv A outer s H vs Q E hr h=>?_);obtain ⟨p,x,hs,ls,rfl,_⟩:=h;rfl;obtain ⟨p,x,hs,ls,rfl,pk,⟨a,x1,x2,rfl,ha,⟨ch,vh,rfl,hch,ph⟩,⟨cl,vl,rfl,hcl,pl⟩⟩,LD,nme,q⟩:=h;have fW:=dZ;refine ⟨_,(SSs.h (nU (YD (qV 1) (MP rfl (um (qM (i:=2) jD.nd rfl (tO rfl)) (um (qM (i:=3) jD.nd rfl (jh rfl)) Qm)))) (nU (qz (i:=4) jD.nd rfl (jh rfl) (qC fZ hr (dR (qV 0) (dR jB iQ)))) (nU (qz (i:=5) jD.nd rfl (tO rfl) (yD ⟨mJ⟩ (ama (dR jB (dR (aia ⟨JD⟩ jB) (dR jB (dR jB iQ))))) (qC fZ hr (dR (qV 0) (dR jB iQ))) (λ_ _=>rfl))) (nU (qz (i:=6) jD.nd rfl (tO rfl) (qC fZ hr (dR (qV 0) (dR (Dq ⟨jC⟩ rfl T.len iM (dR (qV 2) iQ)) iQ)))) (nU (YD (yD ⟨cM⟩ (qV 2) (qV 6) (λ_ _=>rfl)) (MP rfl (um (qM (i:=7) jD.nd rfl (jh rfl)) (um (qM (i:=8) jD.nd rfl (jh rfl)) (um (qM (i:=9) jD.nd rfl (jh rfl)) (um (qM (i:=10) jD.nd rfl (jh rfl)) (um (qM (i:=11) jD.nd rfl (tO rfl)) Qm))))))) (nU (Ak (Qs (qZ ⟨yX⟩ (qV 4) jB (cV _)) (Ol (qZ ⟨(Ow hr.Lq)⟩ (qV 3) (pN iQ) (cV _)))) (nU (qz (i:=12) jD.nd rfl (jh rfl) (qC fZ hr (dR (qV 0) (dR (Dq ⟨jC⟩ rfl T.len iM (dR (qV 3) iQ)) iQ)))) (nU (YD (yD ⟨cM⟩ (qV 3) (qV 12) (λ_ _=>rfl)) (MP rfl (um (qM (i:=13) jD.nd rfl (jh rfl)) (um (qM (i:=14) jD.nd rfl (jh rfl)) (um (qM (i:=15) jD.nd rfl (jh rfl)) (um (qM (i:=16) jD.nd rfl (jh rfl)) Qm)))))) (nU (qz (i:=17) jD.nd rfl (jh rfl) (pN (dR (qV 13) (dR (qV 14) (dR (qw ⟨gM⟩ (qV 15) (Dq ⟨Jh⟩ rfl T.abs JZ (dR (qV 5) iQ))) (dR ahU iQ)))))) (nU (Ak (qZ ⟨oEq⟩ (qV 4) jB (cV _)) (yN (qz (i:=17) jD.nd rfl (jh rfl) (pN (dR (qV 13) (dR (qV 14) (dR (qV 15) (dR (qw ⟨gM⟩ (qV 15) (qw ⟨Qd⟩ jB (Dq ⟨Jh⟩ rfl T.abs JZ (dR (qV 5) iQ)))) iQ))))))) Ah) (yN (adZ (pN (dR (qV 2) (dR (qw ⟨pA⟩ (qw ⟨pA⟩ (Di ⟨mZ⟩ (qV 3) Em (qoI (qV 12))) (pN (dR (qV 17) iQ))) (Di ⟨mZ⟩ (qV 3) (qoI (qw ⟨gM⟩ (qV 12) jB)) Em)) iQ))))))))) Ah) (nU (Ak (qZ ⟨oEq⟩ (qV 4) jB (cV _)) (yN (qz (i:=8) jD.nd rfl (jh rfl) (qw ⟨zL⟩ (qV 8) (Dq ⟨Jh⟩ rfl T.abs JZ (dR (qV 5) iQ))))) Ah) (nU (Ak (qZ ⟨oEq⟩ (qV 4) jB (cV _)) (yN (qz (i:=9) jD.nd rfl (jh rfl) (qw ⟨gM⟩ (qV 9) (Dq ⟨Jh⟩ rfl T.abs JZ (dR (qV 5) iQ))))) Ah) (nU (Ak (qZ ⟨oEq⟩ (qV 4) jB (cV _)) (yN (qz (i:=10) jD.nd rfl (jh rfl) (qw ⟨gM⟩ (qV 10) (Dq ⟨Jh⟩ rfl T.abs JZ (dR (qV 5) iQ))))) Ah) (nU (Ak (qZ ⟨oEq⟩ (qV 4) jB (cV _)) (yN (qz (i:=7) jD.nd rfl (jh rfl) afV)) Ah) (nU (Ak (Qs (qZ ⟨oEq⟩ (qV 4) jB (cV _)) (Ol (qZ ⟨(Ow hr.Lq)⟩ (qV 11) (pN iQ) (cV _)))) (yN (qz (i:=11) jD.nd rfl (tO rfl) (qw ⟨pA⟩ (pN (dR (Tr ⟨kE⟩ rfl T.tuple jy (dR (WT (bQ:=bN HX) (own:=["_law_row","_law_reading"]) (cap:=["_law_more"]) (ix:=[5]) rfl rfl gP (R8 (yD ⟨cM⟩ (qV 11) jB (λ_ _=>rfl))) (λb=>(MP rfl (um (qM (i:=0) (show (["_law_row","_law_reading","_law_more"]:List Str).Nodup by decide +kernel) rfl (jh rfl)) (um (qM (i:=1) (show (["_law_row","_law_reading","_law_more"]:List Str).Nodup by decide +kernel) rfl (jh rfl)) Qm)))) (λb=>aoy) (λb=>(pN (dR (qV 0) (dR (qw ⟨gM⟩ (qV 1) (qV 2)) iQ))))) iQ)) iQ)) (Di ⟨mZ⟩ (qV 11) (qoI jB) Em)))) Ah) (nU (Ak (Qs (qZ ⟨oEq⟩ (qV 4) jB (cV _)) (Ol (qZ ⟨(Ow hr.Lq)⟩ (qV 11) (pN iQ) (cV _)))) (nU (qz (i:=11) jD.nd rfl (tO rfl) (qw ⟨pA⟩ (pN (dR (qw ⟨pA⟩ (pN (dR (pN (dR afV (dR (yD ⟨cM⟩ (yD ⟨cM⟩ (yD ⟨cM⟩ (qV 11) jB (λ_ _=>rfl)) jB (λ_ _=>rfl)) jB (λ_ _=>rfl)) iQ))) iQ)) (Di ⟨mZ⟩ (yD ⟨cM⟩ (qV 11) jB (λ_ _=>rfl)) (qoI jB) Em)) iQ)) (Di ⟨mZ⟩ (qV 11) (qoI jB) Em))) (nU (qz (i:=3) jD.nd rfl (jh rfl) (Tr ⟨kE⟩ rfl T.tuple jy (dR (WT (bQ:=bN HX) (own:=["_law_letter"]) (cap:=["_law_at","_law_houses_here","_law_runs"]) (ix:=[6,2,11]) rfl rfl gP (R8 (qV 3)) (λb=>(qM (i:=0) (show (["_law_letter","_law_at","_law_houses_here","_law_runs"]:List Str).Nodup by decide +kernel) rfl (jh rfl))) (λb=>(aco (qZ ⟨(PJ hr.units)⟩ (yD ⟨cM⟩ (qV 0) jB (λ_ _=>rfl)) (qC acy hr (dR (qV 3) (dR (qV 2) (dR (qV 1) iQ)))) (by with_unfolding_all rfl)))) (λb=>(qV 0))) iQ))) (yN (qz (i:=3) jD.nd rfl (jh rfl) (Tr ⟨kE⟩ rfl T.tuple jy (dR (WT (bQ:=bN HX) (own:=["_law_letter"]) (cap:=["_law_at","_law_houses_here","_law_runs"]) (ix:=[6,2,11]) rfl rfl gP (R8 (qV 3)) (λb=>(qM (i:=0) (show (["_law_letter","_law_at","_law_houses_here","_law_runs"]:List Str).Nodup by decide +kernel) rfl (jh rfl))) (λb=>(aco (qZ ⟨(PJ hr.units)⟩ (yD ⟨cM⟩ (qV 0) jB (λ_ _=>rfl)) (qC acy hr (dR (qV 3) (dR (qV 2) (dR (qV 1) iQ)))) (by with_unfolding_all rfl)))) (λb=>(qV 0))) iQ)))))) Ah) (nU (Ak (Qs (qZ ⟨oEq⟩ (qV 4) jB (cV _)) (Ol (qZ ⟨(Ow hr.Lq)⟩ (qV 11) (pN iQ) (cV _)))) (yN (qz (i:=11) jD.nd rfl (tO rfl) (agH (qV 11)))) Ah) (yN (adZ (pN (dR (qw ⟨pA⟩ (qw ⟨pA⟩ (Di ⟨mZ⟩ (qV 2) Em (qoI (qV 6))) (pN (dR (pN (dR (qV 7) (dR (qV 8) (dR (qV 9) (dR (qV 10) (dR (qV 11) iQ)))))) iQ))) (Di ⟨mZ⟩ (qV 2) (qoI (qw ⟨gM⟩ (qV 6) jB)) Em)) (dR (qV 3) iQ))))))))))))))))))),?_⟩;refine dN λU0 hU0=>?_;refine ⟨a,_,rfl,aG.of ha,rfl,_,_,rfl,_,_,rfl,rfl,?_⟩;show U0 _ _;subst hU0;refine dN λU1 pF=>?_;refine ⟨p,9,rfl,pk,by decide,by decide,λpick H1 _ _ nC s1=>?_⟩;show U1 [aM p,aM a,aM ch,aM cl,bU pick,aX,aX,aX,aX,aX,aX,aX,aX,aX,aX,aX,aX,aX] _;subst pF;refine dN λU2 qY=>?_;refine ⟨by show 4<=aL; omega,λl fl=>?_⟩;refine gE fl λH2 s2 el=>?_;have npl:l≠p:=λz=>(by obtain ⟨n,e,_⟩:=nC; rw [z,e] at fl; cases fl);refine ⟨p,4,rfl,gJ nC s2,by decide,by decide,λd H3 d0 d1 mG s3=>?_⟩;obtain ⟨more,em⟩:∃ m:Int,mH [V.int 1,V.int (-1),V.int 7,V.int 300] d=some (.int m):=(by have:d=0\/d=1\/d=2\/d=3:=(by omega);rcases this with rfl | rfl | rfl | rfl <;> exact ⟨_,rfl⟩);refine m7 (s3 _ _ npl el) em ?_;show U2 _ _;subst qY;have S3:aW p H H3:=(s1.ao (aW.of s2)).ao s3;clear s1 s2 s3 el em nC;refine dN λU3 tZ=>?_;have T3:=aW.aK pk S3;have lh:=ph.length;have lo:=LD.lo;have hi6:=LD.hi;refine ⟨ch,vh,rfl,.inr (aG.of (T3 _ _ hch)),?_⟩;refine ⟨p,(vh.length:Int),rfl,mG,by omega,by omega,λj H4 j0 j1 sS s4=>?_⟩;have S4:=S3.ao s4;clear s4 T3 S3;have T4:=aW.aK pk S4;obtain ⟨i,rfl⟩:=nG j0;have li:i<vh.length:=(by omega);have hv0:=cT li;obtain ⟨h0,eh0,hat⟩:=dM ph hv0;generalize vh[i]=hv at hv0 hat;obtain ⟨c1,b1,rfl,e1,rb⟩:=hat.ts T4;show U3 [aM p,aM a,aM ch,aM cl,bU pick,bU more,bU (i:Int),aX,aX,aX,aX,aX,aX,aX,aX,aX,aX,aX] _;subst tZ;refine dN λU4 v7=>?_;refine cL (aG.of (T4 _ _ hch)) (i:=(i:Int)) (v:=.ref c1) (j9 hv0) ?_;refine ⟨c1,_,rfl,aG.of e1,rfl,_,_,rfl,_,_,rfl,_,_,rfl,_,_,rfl,_,_,rfl,rfl,?_⟩;show U4 [aM p,aM a,aM ch,aM cl,bU pick,bU more,bU (i:Int),nJ h0.name,bU h0.low,bU h0.high,bU h0.bV,some b1,aX,aX,aX,aX,aX,aX] _;subst v7;refine wF λU5 wH=>?_;refine ifB (λc H'=>(c=true->vl≠[])/\aD H4 H') (λR hR=>?_) (λH5 ok=>?_) (λH5 ok=>?_);refine gB (λz=>?_) (λz=>hR _ _ ⟨(λy=>by cases y),aD.refl _⟩);refine ⟨cJ _,λE fE=>?_⟩;have sE:aD H4 (upd H4 E (.tup [])):=(aD.refl H4).upd fE;exact ⟨⟨cl,E,vl,rfl,rfl,sE _ _ (T4 _ _ hcl),aZ,hR _ _ ⟨(λy e=>by rw [e] at y; cases y),sE⟩⟩⟩;have ll:=pl.length;have uY:=LD.uY;obtain ⟨ne,s5⟩:=ok;have S5:aW p H H5:=S4.ao (aW.of s5);have oH:=gJ sS s5;have T5:=aW.aK pk S5;have nv:1<=vl.length:=(by cases vl with| nil=>exact bK rfl (ne rfl)| cons _ _=>simp);refine dN λV1 hV1=>?_;refine ⟨cl,vl,rfl,.inr (aG.of (T5 _ _ hcl)),?_⟩;refine ⟨p,(vl.length:Int),rfl,oH,by omega,by omega,λd H6 d0 d1 jq s6=>?_⟩;have S6:=S5.ao s6;have T6:=aW.aK pk S6;obtain ⟨k,rfl⟩:=nG d0;have lk:k<vl.length:=(by omega);have lv0:=cT lk;obtain ⟨l0,el0,lat⟩:=dM pl lv0;have g0:=LD.ll l0 (dB el0);generalize vl[k]=lv at lv0 lat;obtain ⟨c2,rfl,e2⟩:=lat.ts T6;show V1 _ _;subst hV1;refine dN λV2 hV2=>?_;refine cL (aG.of (T6 _ _ hcl)) (i:=(k:Int)) (v:=.ref c2) (j9 lv0) ?_;refine ⟨c2,_,rfl,aG.of e2,rfl,_,_,rfl,_,_,rfl,_,_,rfl,_,_,rfl,rfl,?_⟩;show V2 [aM p,aM a,aM ch,aM cl,bU pick,bU more,bU (i:Int),nJ h0.name,bU h0.low,bU h0.high,bU h0.bV,some b1,bU (k:Int),nJ l0.1.1,nJ l0.1.2,bU l0.2.1,some (vW l0.2.2),aX] _;subst hV2;refine dN λV3 hV3=>?_;refine ⟨more,rfl,?_⟩;refine ⟨by show 4<=aL; omega,λt ft=>?_⟩;show V3 _ _;subst hV3;have s7:aD H6 (upd H6 t (.tup [.str l0.1.1,.str l0.1.2,.int (l0.2.1+uz more),.non])):=(aD.refl H6).upd ft;have am:=aa3 more;have gl:=g0.least;refine vP (fun bJ H'=>v9 λ(v:V)(l':bH)=>jt (bJ=[aM p,aM a,aM ch,aM cl,bU pick,bU more,bU (i:Int),nJ h0.name,bU h0.low,bU h0.high,bU h0.bV,some b1,bU (k:Int),nJ l0.1.1,nJ l0.1.2,bU l0.2.1,some (vW l0.2.2),some v]) (jw H' v l') (l'.1=l0.1) (yu l') (aD H6 H')) (λU hU=>?_) (fun bJ H8 ok=>?_);refine gB (λz=>?_) (λz=>hU _ _ ⟨_,(l0.1,l0.2.1+uz more,none),rfl,⟨t,rfl,aZ⟩,rfl,⟨g0.sent,g0.taken,by show 1<=l0.2.1+uz more; omega,λm e=>by cases e⟩,s7⟩);refine ⟨more,rfl,?_⟩;refine ⟨.inl ⟨by decide,by decide⟩,?_⟩;refine ⟨by show 4<=aL; omega,λt2 jN=>?_⟩;exact hU _ _ ⟨.ref t2,(l0.1,l0.2.1,some (l0.2.1+3 * uz more)),rfl,⟨t2,rfl,aZ⟩,rfl,⟨g0.sent,g0.taken,gl,λm e=>by cases e; show l0.2.1<=l0.2.1+3 * uz more; omega⟩,s7.upd jN⟩;obtain ⟨v,l',rfl,la',e1',ok',s8⟩:=ok;refine ⟨cl,_,rfl,s8 _ _ (T6 _ _ hcl),λp1 H9 hp1 s9=>?_⟩;rw [JN] at hp1;refine ⟨by show 1<=aL; omega,λt2 jN=>?_⟩;refine gE jN λou pB ni=>?_;refine ⟨p1,t2,_,_,rfl,rfl,pB _ _ hp1,ni,by simp; omega,λp2 H11 hp2 s11=>?_⟩;have Yj:=(s9.ao pB).ao s11;refine ⟨cl,_,rfl,Yj _ _ (s8 _ _ (T6 _ _ hcl)),λp3 H12 hp3 s12=>?_⟩;have ek:((k:Int)+1)=((k+1:Nat):Int):=rfl;rw [ek,Ck] at hp3;refine ⟨p2,p3,_,_,rfl,rfl,s12 _ _ hp2,hp3,by simp; omega,λp4 H13 sO s13=>?_⟩;refine ⟨by show 2<=aL; omega,λt3 tY=>?_⟩;have s14:aD H13 (upd H13 t3 (.tup [.ref ch,.ref p4])):=(aD.refl H13).upd tY;have sA:=(((s8.ao Yj).ao s12).ao s13).ao s14;have sB:=((Yj.ao s12).ao s13).ao s14;have TA:cN H (upd H13 t3 (.tup [.ref ch,.ref p4])):=T6.ao sA.aK;refine q _ hs (ls.set k l') _ ⟨t3,_,_,rfl,aZ,⟨ch,vh,rfl,TA _ _ hch,bG (λ_ _ z=>z.ts TA) ph⟩,p4,_,rfl,s14 _ _ sO,?_⟩ (LD.letter el0 e1' ok') (by rw [Ad]; exact bB _) (gJ jq sA) (S6.ao (aW.of sA));rw [acL (by omega)];have pl':=bG (λ_ _ z=>jw.ts TA z) pl;exact fY (fY (Mv k pl') (.cons (la'.ts sB.aK) .nil)) (Io (k+1) pl');obtain ⟨_,s5⟩:=ok;show U5 _ _;subst wH;have S5:aW p H H5:=S4.ao (aW.of s5);have st5:BtS p a ch pick more i hs ls h0 H [some (.ref p),some (.ref a),some (.ref ch),some (.ref cl),some (.int pick),some (.int more),some (.int (i:Int)),some (.str h0.name),some (.int h0.low),some (.int h0.high),some (.int h0.bV),some b1,none,none,none,none,none,none] H5:=⟨h0,b1,.ref cl,ls,rfl,rb.ts s5.aK,⟨cl,vl,rfl,aW.aK pk S5 _ _ hcl,bG (λ_ _ z=>z.ts (aW.aK pk S5)) pl⟩,Ev.start LD eh0,gJ sS s5,S5⟩;have am:=aa3 more;generalize [some (V.ref p),some (.ref a),some (.ref ch),some (.ref cl),some (.int pick),some (.int more),some (.int (i:Int)),some (.str h0.name),some (.int h0.low),some (.int h0.high),some (.int h0.bV),some b1,none,none,none,none,none,none]=ap2 at st5;clear S5 s5 S4 T4 e1 rb sS mG;refine vP (BtS p a ch pick more i hs ls h0 H) (λU hU=>?_) (fun afz H6 rH=>?_);obtain ⟨h,b,yl,iB,rfl,rb,la,E,jQ,S'⟩:=st5;refine gB (λz=>?_) (λz=>hU _ _ ⟨h,b,yl,iB,rfl,rb,la,E,jQ,S'⟩);refine ⟨more,rfl,hU _ _ ⟨⟨h.name,h.low-uz more,h.high,h.bV,h.runs⟩,b,yl,iB,rfl,rb,la,E.put ⟨E.ok.name,?_,E.ok.bV,E.ok.many,E.ok.runs⟩ (.inl rfl) λn hn=>hn,jQ,S'⟩⟩;have:=E.ok.wide;show h.low-uz more<=h.high;omega;clear st5;refine vP (BtS p a ch pick more i hs ls h0 H) (λU hU=>?_) (fun lH H7 st7=>?_);obtain ⟨h,b,yl,iB,rfl,rb,la,E,jQ,S'⟩:=rH;refine gB (λz=>?_) (λz=>hU _ _ ⟨h,b,yl,iB,rfl,rb,la,E,jQ,S'⟩);refine ⟨more,rfl,hU _ _ ⟨⟨h.name,h.low,h.high+uz more,h.bV,h.runs⟩,b,yl,iB,rfl,rb,la,E.put ⟨E.ok.name,?_,E.ok.bV,E.ok.many,E.ok.runs⟩ (.inl rfl) λn hn=>hn,jQ,S'⟩⟩;have:=E.ok.wide;show h.low<=h.high+uz more;omega;clear rH;refine vP (BtS p a ch pick more i hs ls h0 H) (λU hU=>?_) (fun Ni H8 st8=>?_);obtain ⟨h,b,yl,iB,rfl,rb,la,E,jQ,S'⟩:=st7;refine gB (λz=>?_) (λz=>hU _ _ ⟨h,b,yl,iB,rfl,rb,la,E,jQ,S'⟩);refine ⟨more,rfl,hU _ _ ⟨⟨h.name,h.low,h.high,h.bV+uz more,h.runs⟩,b,yl,iB,rfl,rb,la,E.put ⟨E.ok.name,E.ok.wide,?_,E.ok.many,E.ok.runs⟩ (.inl rfl) λn hn=>hn,jQ,S'⟩⟩;have:=E.ok.bV;show 0<=h.bV+uz more;omega;clear st7;refine vP (BtS p a ch pick more i hs ls h0 H) (λU hU=>?_) (fun vQ H9 st9=>?_);obtain ⟨h,b,yl,iB,rfl,rb,la,E,jQ,S'⟩:=st8;refine gB (λz=>?_) (λz=>hU _ _ ⟨h,b,yl,iB,rfl,rb,la,E,jQ,S'⟩);exact hU _ _ ⟨⟨"merger",h.low,h.high,h.bV,h.runs⟩,b,yl,iB,rfl,rb,la,E.put ⟨aiC,E.ok.wide,E.ok.bV,E.ok.many,E.ok.runs⟩ (.inr rfl) λn hn=>hn,jQ,S'⟩;clear st8;refine vP (BtS p a ch pick more i hs ls h0 H) (λU hU=>?_) (fun σa Ha sta=>?_);obtain ⟨h,b,yl,iB,rfl,⟨c5,vr,rfl,e5,pr⟩,la,E,jQ,S'⟩:=st9;refine ifB (λc H'=>(c=true->vr≠[])/\aD H9 H') (λR hR=>?_) (λH5 ok=>?_) (λH5 ok=>?_);refine gB (λz=>?_) (λz=>hR _ _ ⟨(λy=>by cases y),aD.refl _⟩);refine ⟨cJ _,λE fE=>?_⟩;have sE:aD H9 (upd H9 E (.tup [])):=(aD.refl H9).upd fE;exact ⟨⟨c5,E,vr,rfl,rfl,sE _ _ e5,aZ,hR _ _ ⟨(λy e=>by rw [e] at y; cases y),sE⟩⟩⟩;obtain ⟨ne,s⟩:=ok;have lr:=pr.length;have many:=E.ok.many;generalize hrs:h.runs=rs at pr lr many;(cases pr with| nil=>exact bK rfl (ne rfl)| cons r0 prt =>rename_i v0 rr vt rt;have ok0:=E.ok.runs rr (by rw [hrs]; exact dg);have ln:=ok0.few;obtain ⟨c6,v6,rfl,e6,p6⟩:=r0;have l6:=p6.length;refine cL (aG.of (s _ _ e5)) (i:=0) (v:=.ref c6) (j9 (j:=0) rfl) ?_;refine ⟨c6,rfl,⟨_,aG.of (s _ _ e6)⟩,λD hD=>Qc (R:=gW H5) (R':=gW) (F:=λ(r x:Row)=>x=(r.1,r.2+more)) (λs z=>z.ts s.aK) (λe z=>z.ts (xq e)) hD (s _ _ e6) (by omega) (bG (λ_ _ z=>z.ts s.aK) p6) (λj x r H' hi rx s b Q1 q1=>?_) (λws xs H6 s6 eD pw pf=>?_)⟩;obtain ⟨a1,rfl,ea⟩:=rx;refine ⟨a1,_,rfl,aG.of (s _ _ ea),rfl,_,_,rfl,_,_,rfl,rfl,?_⟩;refine ⟨by show 2<=aL; omega,λt ft=>q1 _ _ (r.1,r.2+more) ((aD.refl H').upd ft) ⟨t,rfl,aZ⟩ rfl⟩;have exs:xs=rr.map λr=>(r.1,r.2+more):=adi pf;refine ⟨D,ws,rfl,.inl ⟨aY.of eD,λt1 gZ=>?_⟩⟩;refine gE gZ λH7 s7 lK=>?_;refine ⟨by show 1<=aL; omega,λt2 jN=>?_⟩;refine gE jN λH8 s8 ni=>?_;have S8:aD H9 H8:=(s.ao s6).ao (s7.ao s8);refine ⟨c5,_,rfl,S8 _ _ e5,λp1 HA hp1 sA=>?_⟩;refine ⟨t2,p1,_,_,rfl,rfl,sA _ _ ni,hp1,by have z:=Xo (.ref c6 :: vt) (some 1) none;simp only [jY,Ci] at z lr many |-; omega,λp3 HB hp3 sB=>?_⟩;have e1:lE (.ref c6 :: vt) (some 1) none=vt:=Ck _ 1;rw [e1] at hp3;have S':=S'.ao (aW.of (S8.ao (sA.ao sB)));have sC:=(S8.ao (sA.ao sB));have sD:=s7.ao (s8.ao (sA.ao sB));refine hU _ _ ⟨xW h (xs :: rt),.ref p3,yl,iB,rfl,⟨p3,_,rfl,hp3,.cons ⟨t1,ws,rfl,(s8.ao (sA.ao sB)) _ _ lK,bG (λ_ _ z=>z.ts sD.aK) pw⟩ (bG (λ_ _ z=>z.ts sC.aK) prt)⟩,la.ts sC.aK,E.put (E.ok.Xl many λr hr=>?_) (.inl rfl) λn hn=>?_,gJ jQ sC,S'⟩;rcases dF.mp hr with z | z;rw [z,exs];refine NZ (λe=>ok0.ne (List.map_eq_nil_iff.mp e)) (apc more ok0.rise) (by rw [aU]; exact ln) λx hx=>?_;obtain ⟨y,hy,rfl⟩:=cG.mp hx;exact ok0.rn y hy;exact E.ok.runs r (by rw [hrs]; exact dD _ z);unfold fH qJ at hn |-;rw [hrs] at hn;show n∈((xs :: rt).flatten).map cu;rw [exs];simpa using hn);exact hU _ _ ⟨h,.ref c5,yl,iB,rfl,⟨c5,vr,rfl,ok.2 _ _ e5,bG (λ_ _ z=>z.ts ok.2.aK) pr⟩,la.ts ok.2.aK,E,gJ jQ ok.2,S'.ao (aW.of ok.2)⟩;clear st9;refine vP (BtS p a ch pick more i hs ls h0 H) (λU hU=>?_) (fun σb Hb stb=>?_);obtain ⟨h,b,yl,iB,rfl,⟨c5,vr,rfl,e5,pr⟩,la,E,jQ,S'⟩:=sta;refine ifB (λc H'=>(c=true->vr≠[])/\aD Ha H') (λR hR=>?_) (λH5 ok=>?_) (λH5 ok=>?_);refine gB (λz=>?_) (λz=>hR _ _ ⟨(λy=>by cases y),aD.refl _⟩);refine ⟨cJ _,λE fE=>?_⟩;have sE:aD Ha (upd Ha E (.tup [])):=(aD.refl Ha).upd fE;exact ⟨⟨c5,E,vr,rfl,rfl,sE _ _ e5,aZ,hR _ _ ⟨(λy e=>by rw [e] at y; cases y),sE⟩⟩⟩;obtain ⟨ne,s⟩:=ok;have lr:=pr.length;have many:=E.ok.many;generalize hrs:h.runs=rs at pr lr many;(cases pr with| nil=>exact bK rfl (ne rfl)| cons r0 prt =>rename_i v0 rr vt rt;have ok0:=E.ok.runs rr (by rw [hrs]; exact dg);have ln:=ok0.few;obtain ⟨c6,v6,rfl,e6,p6⟩:=r0;have l6:=p6.length;have ahL:=ok0.rise;have rn0:=ok0.rn;cases p6 with| nil=>exact bK rfl ok0.ne| cons x0 p6t =>rename_i w0 x6 v6t xt;obtain ⟨a1,rfl,ea⟩:=x0;refine dN λW1 hW1=>?_;refine cL (aG.of (s _ _ e5)) (i:=0) (v:=.ref c6) (j9 (j:=0) rfl) ?_;refine cL (aG.of (s _ _ e6)) (i:=0) (v:=.ref a1) (j9 (j:=0) rfl) ?_;refine cL (aG.of (s _ _ ea)) (i:=1) (v:=.int x6.2) (by rfl) ?_;refine ⟨by show 2<=aL; omega,λt1 gZ=>?_⟩;refine gE gZ λX1 s1 lK=>?_;refine ⟨by show 1<=aL; omega,λt2 jN=>?_⟩;refine gE jN λX2 s2 ni=>?_;have S2:=s.ao (s1.ao s2);refine cL (aG.of (S2 _ _ e5)) (i:=0) (v:=.ref c6) (j9 (j:=0) rfl) ?_;refine ⟨c6,_,rfl,S2 _ _ e6,λp1 X3 hp1 s3=>?_⟩;have ec1:lE (.ref a1 :: v6t) (some 1) none=v6t:=Ck _ 1;rw [ec1] at hp1;simp only [jY] at lr many ln l6;refine ⟨t2,p1,_,_,rfl,rfl,s3 _ _ ni,hp1,by show 1+v6t.length<=aL; omega,λp2 X4 hp2 s4=>?_⟩;refine ⟨by show 1<=aL; omega,λt3 tY=>?_⟩;refine gE tY λX5 s5 et3=>?_;have S5:=(S2.ao (s3.ao s4)).ao s5;refine ⟨c5,_,rfl,S5 _ _ e5,λp3 X6 hp3 s6=>?_⟩;have ec2:lE (.ref c6 :: vt) (some 1) none=vt:=Ck _ 1;rw [ec2] at hp3;refine ⟨t3,p3,_,_,rfl,rfl,s6 _ _ et3,hp3,by show 1+vt.length<=aL; omega,λp4 X7 sO s7=>?_⟩;have S7:=S5.ao (s6.ao s7);have S37:=(s3.ao s4).ao (s5.ao (s6.ao s7));show W1 [aM p,aM a,aM ch,some yl,bU pick,bU more,bU (i:Int),nJ h.name,bU h.low,bU h.high,bU h.bV,aM p4,aX,aX,aX,aX,aX,aX] _;have RA:uP X7 (.ref p4) ((("qzqz",x6.2) :: xt) :: rt):=⟨p4,_,rfl,sO,.cons ⟨p2,_,rfl,(s5.ao (s6.ao s7)) _ _ hp2,.cons ⟨t1,rfl,(s2.ao S37) _ _ lK⟩ (bG (λ_ _ z=>z.ts S7.aK) p6t)⟩ (bG (λ_ _ z=>z.ts S7.aK) prt)⟩;have HO:eG (xW h ((("qzqz",x6.2) :: xt) :: rt)):=E.ok.Xl many λr hr=>(by rcases dF.mp hr with z | z;rw [z];refine NZ (List.cons_ne_nil _ _) ahL ln λx hx=>?_;rcases dF.mp hx with y | y;rw [y]; exact ahP;exact rn0 x (dD _ y);exact E.ok.runs r (by rw [hrs]; exact dD _ z));have Sf:aW p H X7:=S'.ao (aW.of S7);have pkf:=gJ jQ S7;have laf:=la.ts S7.aK;have mst:∀ m∈hs.set i (xW h ((("qzqz",x6.2) :: xt) :: rt)),eG m:=λm hm=>(by rcases mem_set hm with z | ⟨j,_,ej⟩;rw [z]; exact HO;exact LD.hh m (dB ej));generalize ((("qzqz" : Str),x6.2) :: xt) :: rt=rU at RA HO mst;clear S37 S7 s7 s6 S5 s5 s4 s3 S2 s2 s1 hp1 hp2 hp3 sO lK ni et3 ec1 ec2 la jQ S';subst hW1;have Sw:∀ m∈rB hs i h0 rU,∀ r∈m.runs,MK r:=λm hm r hr=>(by rcases mem_set (show m∈hs.set i (xW h0 rU) from hm) with z | ⟨j,_,ej⟩;rw [z] at hr; exact HO.runs r hr;exact (LD.hh m (dB ej)).runs r hr);have ahm:∀ m∈rB hs i h0 rU,m.runs.length<=25:=λm hm=>(by rcases mem_set (show m∈hs.set i (xW h0 rU) from hm) with z | ⟨j,_,ej⟩;rw [z]; exact HO.many;exact (LD.hh m (dB ej)).many);have nb:(bA (rB hs i h0 rU)).length<=5000:=(by have z:=XQ (c:=300) λm hm=>gw (Wu λr hr=>(Sw m hm r hr).few) (by have:=ahm m hm; omega);have y:(rB hs i h0 rU).length=hs.length:=Ad;omega);have gn:∀ n∈bA (rB hs i h0 rU),dG n:=λn hn=>(by obtain ⟨m,hm,hn⟩:=jR.mp hn;obtain ⟨x,hx,rfl⟩:=cG.mp hn;obtain ⟨r,hr,hx⟩:=Du.mp hx;exact (Sw m hm r hr).rn x hx);have nin:∀{H':Hp},aD X7 H'->mj H' (.ref ch) hs:=λ{H'} sH=>(by have TT:=(aW.aK pk Sf).ao sH.aK;exact ⟨ch,vh,rfl,TT _ _ hch,bG (λ_ _ z=>z.ts TT) ph⟩);have f2:∀ m∈rB hs i h0 rU,∀ r∈m.runs,r.length<=100:=λm hm r hr=>gw (Sw m hm r hr).few (by decide);obtain ⟨cl2,vl2,rfl,e2,qt⟩:=laf;have l2:=qt.length;have l2':=E.sub.length_le;have g2:∀ l∈iB,yu l:=λl hl=>LD.ll l (E.sub.subset hl);have uY:=LD.uY;refine dN λW2 hW2=>?_;refine ⟨cl2,rfl,⟨_,aG.of e2⟩,λD hD=>Q9 (R:=jw X7) (R':=jw) (F:=λ(k k':bH)=>k=k') (keep:=λl=>decide (l.1.1∈bA (rB hs i h0 rU))) (λs r=>r.ts s.aK) (λe r=>r.ts (xq e)) hD e2 (by omega) qt (λj x l H4 hi rx s4 b N Q1 n1 q1=>?_) (λws ls3 H4 s4 eD pw pf=>?_)⟩;have gl:=g2 l (dB hi);obtain ⟨d1,rfl,ed⟩:=id rx;refine cL (aG.of (s4 _ _ ed)) (i:=0) (v:=.str l.1.1) (by rfl) ?_;refine ⟨_,_,hs,rU,i,h0,rfl,RA.ts s4.aK,nin s4,eh0,by omega,f2,nb,λy H5 _ el s5=>?_⟩;refine ⟨.str l.1.1,_,.str _,.lst (aY.of el) (Gv _),O4 gl.sent,by exact M7 rfl,GZ gn,?_⟩;rw [Ma,Jc];exact gB (λz=>q1 z _ _ l s5 ((rx.ts s4.aK).ts s5.aK) rfl) (λz=>n1 (IW.mpr z) _ s5);obtain rfl:=ae8 pf;refine ⟨D,ws,rfl,.inl ⟨aY.of eD,λt ft=>?_⟩⟩;have s5:=s4.upd (o:=.tup ws) ft;have pl3:bw (jw (upd H4 t (.tup ws))) ws _:=bG (λ_ _ z=>z.ts ((aD.refl H4).upd ft).aK) pw;generalize eX5:upd H4 t (.tup ws)=X5 at s5 pl3;have et:X5 t=some (.tup ws):=(by rw [<- eX5]; exact aZ);clear eX5;clear pw eD ft;have l3:=pl3.length;have l3':=Gn (λl:bH=>decide (l.1.1∈bA (rB hs i h0 rU))) iB;show W2 _ _;subst hW2;refine ⟨t,rfl,⟨_,aG.of et⟩,λD2 hD2=>Q9 (R:=jw X5) (R':=jw) (F:=λ(k k':bH)=>k=k') (keep:=λl=>decide (l.1.2∈bA (rB hs i h0 rU))) (λs r=>r.ts s.aK) (λe r=>r.ts (xq e)) hD2 et (by omega) pl3 (λj x l H6 hi rx s6 b N Q1 n1 q1=>?_) (λws2 ls4 H6 s6 tM pw2 pf2=>?_)⟩;have gl:=g2 l (xr.mp (dB hi)).1;obtain ⟨d1,rfl,ed⟩:=id rx;refine cL (aG.of (s6 _ _ ed)) (i:=1) (v:=.str l.1.2) (by rfl) ?_;refine ⟨_,_,hs,rU,i,h0,rfl,RA.ts (s5.ao s6).aK,nin (s5.ao s6),eh0,by omega,f2,nb,λy H5 _ el s5=>?_⟩;refine ⟨.str l.1.2,_,.str _,.lst (aY.of el) (Gv _),O4 gl.taken,by exact M7 rfl,GZ gn,?_⟩;rw [Ma,Jc];exact gB (λz=>q1 z _ _ l s5 ((rx.ts s6.aK).ts s5.aK) rfl) (λz=>n1 (IW.mpr z) _ s5);obtain rfl:=ae8 pf2;refine ⟨D2,ws2,rfl,.inl ⟨aY.of tM,λt2 jN=>?_⟩⟩;have s7:=(s5.ao s6).upd (o:=.tup ws2) jN;exact hU _ _ ⟨xW h rU,.ref p4,.ref t2,_,rfl,RA.ts s7.aK,⟨t2,ws2,rfl,aZ,bG (λ_ _ z=>z.ts ((aD.refl H6).upd jN).aK) pw2⟩,⟨HO,E.nm,(List.filter_sublist.ao List.filter_sublist).ao E.sub,λl hl=>by obtain ⟨m1,m2⟩:=xr.mp hl;exact ⟨acs.mp (iH (xr.mp m1).2),acs.mp (iH m2)⟩⟩,gJ pkf s7,Sf.ao (aW.of s7)⟩);exact hU _ _ ⟨h,.ref c5,yl,iB,rfl,⟨c5,vr,rfl,ok.2 _ _ e5,bG (λ_ _ z=>z.ts ok.2.aK) pr⟩,la.ts ok.2.aK,E,gJ jQ ok.2,S'.ao (aW.of ok.2)⟩;clear sta;refine vP (BtS p a ch pick more i hs ls h0 H) (λU hU=>?_) (fun σc Hc stc=>?_);obtain ⟨h,b,yl,iB,rfl,⟨c5,vr,rfl,e5,pr⟩,la,E,jQ,S'⟩:=stb;refine ifB (λc H'=>aD Hb H') (λR hR=>?_) (λH5 ok=>?_) (λH5 ok=>?_);refine gB (λz=>?_) (λz=>hR _ _ (aD.refl _));refine ⟨cJ _,λE fE=>?_⟩;have sE:aD Hb (upd Hb E (.tup [])):=(aD.refl Hb).upd fE;exact ⟨⟨c5,E,vr,rfl,rfl,sE _ _ e5,aZ,hR _ _ sE⟩⟩;refine ⟨c5,vr,rfl,aG.of (ok _ _ e5),λt ft=>?_⟩;have s1:=ok.upd (o:=.tup vr.reverse) ft;exact hU _ _ ⟨xW h h.runs.reverse,.ref t,yl,iB,rfl,⟨t,_,rfl,aZ,Zg (bG (λ_ _ z=>z.ts s1.aK) pr)⟩,la.ts s1.aK,E.put (E.ok.Xl (by rw [Hv]; exact E.ok.many) λr hr=>E.ok.runs r (Nk.mp hr)) (.inl rfl) (λn hn=>by obtain ⟨x,hx,rfl⟩:=cG.mp hn;obtain ⟨r,hr,hx⟩:=Du.mp hx;exact iz (Du.mpr ⟨r,Nk.mpr hr,hx⟩)),gJ jQ s1,S'.ao (aW.of s1)⟩;exact hU _ _ ⟨h,.ref c5,yl,iB,rfl,⟨c5,vr,rfl,ok _ _ e5,bG (λ_ _ z=>z.ts ok.aK) pr⟩,la.ts ok.aK,E,gJ jQ ok,S'.ao (aW.of ok)⟩;obtain ⟨h,b,yl,iB,rfl,rb,la,E,jQ,S'⟩:=stc;have TT:=aW.aK pk S';refine ⟨ch,_,rfl,TT _ _ hch,λp1 X1 hp1 s1=>?_⟩;rw [JN] at hp1;refine ⟨by show 5<=aL; omega,λt1 gZ=>?_⟩;have s2:=(aD.refl X1).upd (o:=.tup [.str h.name,.int h.low,.int h.high,.int h.bV,b]) gZ;generalize eX2:upd X1 t1 _=X2 at s2;have lK:X2 t1=some (.tup [.str h.name,.int h.low,.int h.high,.int h.bV,b]):=(by rw [<- eX2]; exact aZ);clear eX2;refine ⟨by show 1<=aL; omega,λt2 jN=>?_⟩;have s3:=(aD.refl X2).upd (o:=.tup [.ref t1]) jN;generalize eX3:upd X2 t2 _=X3 at s3;have ni:X3 t2=some (.tup [.ref t1]):=(by rw [<- eX3]; exact aZ);clear eX3;refine ⟨p1,t2,_,_,rfl,rfl,(s2.ao s3) _ _ hp1,ni,by simp; omega,λp2 X4 hp2 s4=>?_⟩;have S4:=s1.ao (s2.ao (s3.ao s4));refine ⟨ch,_,rfl,S4 _ _ (TT _ _ hch),λp3 X5 hp3 s5=>?_⟩;have ek:((i:Int)+1)=((i+1:Nat):Int):=rfl;rw [ek,Ck] at hp3;refine ⟨p2,p3,_,_,rfl,rfl,s5 _ _ hp2,hp3,by simp; omega,λp4 X6 sO s6=>?_⟩;refine ⟨by show 2<=aL; omega,λt3 tY=>?_⟩;have s7:=(aD.refl X6).upd (o:=.tup [.ref p4,yl]) tY;have SA:=S4.ao (s5.ao (s6.ao s7));have TA:=TT.ao SA.aK;have SB:=(s3.ao s4).ao (s5.ao (s6.ao s7));refine q _ (hs.set i h) iB _ ⟨t3,_,_,rfl,aZ,⟨p4,_,rfl,s7 _ _ sO,?_⟩,la.ts SA.aK⟩ (E.led LD nme eh0) E.sub.length_le (gJ jQ SA) (S'.ao (aW.of SA));rw [acL (by omega)];have pl':=bG (λ_ _ z=>iG.ts TA z) ph;exact fY (fY (Mv i pl') (.cons ⟨t1,b,rfl,SB _ _ lK,rb.ts SA.aK⟩ .nil)) (Io (i+1) pl')
def Ju:Str:="abcdefghijklmnop"
theorem Zy(h:i<16):Ju.cps.toList[i]?=some (97+i):=by have e:Ju.cps.toList=(cY 16).map (97+·):=(by decide +kernel);rw [e,cX,M6 h]; rfl
def sgn(c:Nat):Str:=⟨#[c]⟩
def Ga(c b j:Nat):Row:=(⟨#[c,97+(b+j)]⟩,10 * ((b:Int)+(j:Int)))
def JF(c b m:Nat):aP:=⟨sgn c,0,5,1,[(cY m).map (Ga c b)]⟩
def Wz:Sp:=λvs H Q _=>mz λ(l:au)(cs:List Nat)(b m:Nat)=>jt (vs=[.ref l,.int (b:Int),.int (m:Int)]) (H l=some (.lst (cs.map λc=>V.str (sgn c)))) (cs.length<=7) (b+m<=16) (∀(z:V)(H':Hp),mj H' z (cs.map λc=>JF c b m)->aD H H'->Q z H')
theorem Xj(c d:Nat):sgn c++(⟨#[d]⟩:Str)=⟨#[c,d]⟩:=rfl
theorem O8:fB ["_law_names_here","_law_begin","_law_amount","_law_found","_law_k","_law_rows"] ["_law_names_here","_law_begin","_law_amount"] (bN Qz):=gA
theorem anZ(F:gG K "_law_houses" Qz f fd)(T:Txt mg t8 t6 tR tL):bM P w K mg base bR 1 f fd ["_law_names_here","_law_begin","_law_amount"] Wz:=by refine F.ok O8 (λvs H Q E h=>?_) (λcdv A outer s H vs Q E hr h=>?_);obtain ⟨l,cs,b,m,rfl,_⟩:=h;rfl;obtain ⟨l,cs,b,m,rfl,el,c7,bm,q⟩:=h;have fW:=dZ;refine ⟨_,(bf (pZ 3 O8 (iu aC)) (bf (jd je rfl (uO rfl T.range (aq (cR jC rfl T.len iM (aq (pV 0) aC)) aC)) (pY 4 O8) (bf (pZ 5 O8 (jx kE rfl T.tuple jy (aq (jg (bQ:=bN Qz) (own:=["_law_j"]) (cap:=["_law_begin","_law_k","_law_names_here"]) (ix:=[1,4,0]) rfl rfl gP (uO rfl T.range (aq (pV 2) aC)) (λb=>(pH 0 ["_law_j","_law_begin","_law_k","_law_names_here"])) (λb=>ig) (λb=>(fJ (aq (cC Ij (pX mJ (pV 3) (pV 2)) (pX Gq iU (cC gM (pV 1) (pV 0)))) (aq (cC Qd aQ (cC gM (pV 1) (pV 0))) aC))))) aC))) (bC (sW (rN uy zH Aq uN (pV 3) (aq (fJ (aq (pX mJ (pV 0) (pV 4)) (aq aQ (aq aQ (aq aQ (aq (fJ (aq (pV 5) aC)) aC)))))) aC)))))) (bC (cO (jx kE rfl T.tuple jy (aq (pV 3) aC)))))),?_⟩;refine dN λU1 pF=>?_;refine ⟨cJ _,λF fF=>?_⟩;refine gE fF λX1 s1 eF1=>?_;show U1 [aM l,bU (b:Int),bU (m:Int),aM F,aX,aX] _;subst pF;refine ⟨l,_,rfl,.inl (aY.of (s1 _ _ el)),?_⟩;refine ⟨((cs.map λc=>V.str (sgn c)).length:Int),rfl,by omega,by rw [aU]; omega,zA (lo:=0) (n:=(((cs.map λc=>V.str (sgn c)).length:Int)).toNat) (λi aj H'=>kJ λo4 o5 vs=>wB (aj=[aM l,bU (b:Int),bU (m:Int),aM F,o4,o5]) (H' F=some (.lst vs)) (bw (iG H') vs ((cs.take i).map λc=>JF c b m)) (aW F X1 H')) ⟨none,none,[],rfl,eF1,.nil,λb o _ e=>e⟩ (λi aj H2 hi hz=>?_) (fun aj H2 hz=>?_)⟩;obtain ⟨o4,o5,vs,rfl,eF,pv,sB⟩:=hz;have S2:aD H H2:=λb o e=>sB b o (cg e fF) (s1 _ _ e);have hi':i<cs.length:=(by rw [aU] at hi; omega);have ec:=cT hi';generalize cs[i]=c at ec;have eat:mH (cs.map λc=>V.str (sgn c)) (0+(i:Int))=some (.str (sgn c)):=(by rw [Bs];exact j9 (by rw [cX,ec]; rfl));refine dN λU2 qY=>?_;refine ⟨(m:Int),rfl,by omega,by omega,λD hD=>JL (lo:=0) (n:=((m:Int)).toNat) (λj H'=>∃ ws,cW H2 H' D ws/\bw (gW H') ws ((cY j).map (Ga c b))) ⟨[],cW.start hD,.nil⟩ (λH3 hz=>?_) (λj H' hj hz b'=>?_)⟩;obtain ⟨ws,G,pw⟩:=hz;have em:((m:Int)).toNat=m:=(by omega);rw [em] at pw;refine ⟨D,ws,rfl,.inl ⟨aY.of G.at',λt ft=>?_⟩⟩;refine gE ft λH4 s4 et=>?_;have S4:aD H2 H4:=G.same.ao s4;show U2 [aM l,bU (b:Int),bU (m:Int),aM F,bU (0+(i:Int)),aM t] _;subst qY;refine ⟨.inl ⟨rfl,_,aY.of (S4 _ _ eF)⟩,?_⟩;refine m7 (S4 _ _ (S2 _ _ el)) eat ?_;refine ⟨by show 1<=aL; omega,λt2 jN=>?_⟩;refine gE jN λH5 s5 ni=>?_;refine ⟨by show 5<=aL; omega,λt3 tY=>?_⟩;refine gE tY λH6 s6 et3=>?_;have S6:=S4.ao (s5.ao s6);have eF6:=S6 _ _ eF;have lv:=pv.length;rw [aU,eY] at lv;refine ⟨F,vs,_,rfl,rfl,eF6,by omega,?_⟩;have TF:cN H6 (upd H6 F (.lst (vs++[.ref t3]))):=λb xs e=>(by rw [bx (λz=>by rw [z,eF6] at e; cases e)]; exact e);refine ⟨_,_,vs++[.ref t3],rfl,aZ,?_,λb o nb e=>by rw [bx nb]; exact S6 _ _ (sB b o nb e)⟩;rw [dI,ec,dJ];exact fY (bG (λ_ _ z=>(z.ts S6.aK).ts TF) pv) (.cons ⟨t3,_,rfl,TF _ _ et3,t2,_,rfl,TF _ _ (s6 _ _ ni),.cons ⟨t,ws,rfl,TF _ _ ((s5.ao s6) _ _ et),bG (λ_ _ z=>(z.ts (s4.ao (s5.ao s6)).aK).ts TF) pw⟩ .nil⟩ .nil);obtain ⟨ws,G,pw⟩:=hz;refine m7 (G.same _ _ (S2 _ _ el)) eat ?_;refine Gj (z:=Ju) (c:=97+(b+j)) (by rw [fW]; decide +kernel) ?_ ?_;rw [Bs,show ((b:Int)+(j:Int))=((b+j:Nat):Int) by omega];exact j9 (Zy (by omega));refine ⟨by show 2<=aL; omega,?_⟩;rw [Xj];refine ⟨.inl ⟨by decide,by decide⟩,?_⟩;refine ⟨by show 2<=aL; omega,λt ft=>?_⟩;have s4:aD H' (upd H' t (.tup [.str ⟨#[c,97+(b+j)]⟩,.int (10 * ((b:Int)+(0+(j:Int))))])):=(aD.refl H').upd ft;have lw:=pw.length;rw [aU,rK] at lw;refine ⟨ws,(G.more s4).at',by omega,nx hj ⟨ws++[.ref t],(G.more s4).put hD _,?_⟩⟩;rw [V9,dJ];have TD:=xq (o:=.lst (ws++[.ref t])) ⟨_,(G.more s4).at'⟩;refine fY (bG (λ_ _ z=>(z.ts s4.aK).ts TD) pw) (.cons ⟨t,rfl,TD _ _ ?_⟩ .nil);rw [aZ,Bs];rfl;obtain ⟨o4,o5,vs,rfl,eF,pv,sB⟩:=hz;have S2:aD H H2:=λb o e=>sB b o (cg e fF) (s1 _ _ e);rw [oM (by rw [aU]; omega)] at pv;refine ⟨F,vs,rfl,.inl ⟨aY.of eF,λt ft=>?_⟩⟩;have s4:aD H2 (upd H2 t (.tup vs)):=(aD.refl H2).upd ft;exact q _ _ ⟨t,vs,rfl,aZ,bG (λ_ _ z=>z.ts s4.aK) pv⟩ (S2.ao s4)
variable{c:Nat}
theorem aoO(h:97<=c/\c<=122):dG (sgn c):=⟨bB 1,by show 1<=8; decide,λx hx=>by
 have:x=c:=by simpa [sgn] using hx
 rw [this]; simp [low,h]⟩
variable{b:Nat}
theorem adQ(h:97<=c/\c<=122)(bj:b+j<16):dG (Ga c b j).1:=⟨by show 1<=2; decide,by show 2<=8; decide,λx hx=>by
 have:x=c\/x=97+(b+j):=by simpa [Ga] using hx
 rcases this with rfl | rfl
 . simp [low,h]
 . simp [low]; omega⟩
variable{m:Nat}
theorem apf(h:97<=c/\c<=122)(m1:1<=m)(m12:m<=12)(bm:b+m<=16):eG (JF c b m):=by refine ⟨aoO h,by show (0:Int)<=5; decide,by show (0:Int)<=1; decide,by show 1<=25; decide,λr hr=>?_⟩;rw [gY.mp hr];refine NZ (λe=>?_) ?_ (by rw [aU,rK]; exact m12) λx hx=>?_;have z:=fG rJ e;rw [aU,rK] at z;simp at z; omega;rw [jM,jc];exact List.pairwise_lt_range.imp λ{a b'} z=>(by show 10 * ((b:Int)+(a:Int))<10 * ((b:Int)+(b':Int)); omega);obtain ⟨j,hj,rfl⟩:=cG.mp hx;exact adQ h (by have:=iJ.mp hj; omega)
abbrev lV(cs:List Nat)(b m:Nat):List aP:=cs.map λc=>JF c b m
variable{cs:List Nat}
theorem adK{ls:List bH}(lo:1<=cs.length)(hi:cs.length<=6)(nd:cs.Nodup)(hc:∀ c∈cs,97<=c/\c<=122)(m1:1<=m)(m12:m<=12)(bm:b+m<=16)(uY:ls.length<=24)(ll:∀ l∈ls,yu l)(rise:(ls.map cu).Pairwise (λa b=>jE a b=true))(own:∀ l∈ls,l.1.1∈bA (lV cs b m)/\l.1.2∈bA (lV cs b m)):Led (lV cs b m) ls:=by refine ⟨by rw [aU]; exact lo,by rw [aU]; exact hi,λh hh=>?_,?_,uY,ll,rise,own⟩;obtain ⟨c,hm,rfl⟩:=cG.mp hh;exact apf (hc c hm) m1 m12 bm;rw [jM,iT,jc];exact (iT.mp nd).imp λ{a b} ne e=>ne (by have z:sgn a=sgn b:=e;have y:=fG (λs:Str=>s.cps.toList) z;simpa [sgn] using y)
theorem Mz(lo:1<=cs.length)(hi:cs.length<=6)(nd:cs.Nodup)(hc:∀ c∈cs,97<=c/\c<=122)(m1:1<=m)(m12:m<=12)(bm:b+m<=16):Led (lV cs b m) []:=adK lo hi nd hc m1 m12 bm (by decide) (λ_ z=>by cases z) .nil (λ_ z=>by cases z)
def xT(k:Nat):bH:=((⟨#[97,97+k / 5]⟩,⟨#[98,97+k % 5]⟩),1,none)
def Bv:List bH:=(cY 25).map xT
theorem ajh:(Bv.map cu).Pairwise (λa b=>jE a b=true):=by decide +kernel
theorem aeZ(h:l∈Bv):yu l/\l.1.1∈bA (lV [97,98] 0 5)/\l.1.2∈bA (lV [97,98] 0 5):=by obtain ⟨k,hk,rfl⟩:=cG.mp h;have k25:=iJ.mp hk;have a:∀ c∈[97,98],∀ j<5,(⟨#[c,97+j]⟩:Str)∈bA (lV [97,98] 0 5):=λc hc j hj=>jR.mpr ⟨JF c 0 5,iz hc,cG.mpr ⟨Ga c 0 j,Du.mpr ⟨_,gY.mpr rfl,iz (iJ.mpr hj)⟩,by show (⟨#[c,97+(0+j)]⟩:Str)=_; rw [Wd]⟩⟩;have g:∀ c j:Nat,97<=c/\c<=122->j<16->dG (⟨#[c,97+j]⟩:Str):=λc j hc hj=>(by have z:=adQ (c:=c) (b:=0) (j:=j) hc (by omega);unfold Ga at z;rwa [Wd] at z);exact ⟨⟨g 97 (k / 5) (by decide) (by omega),g 98 (k % 5) (by decide) (by omega),Int.le_refl 1,λm e=>by cases e⟩,a 97 (by decide) (k / 5) (by omega),a 98 (by decide) (k % 5) (by omega)⟩
theorem afp{ls:List bH}(s:ls.Sublist Bv)(uY:ls.length<=24):Led (lV [97,98] 0 5) ls :=
 adK (by decide) (by decide) (by decide) (by decide) (by decide) (by decide) (by decide) uY (λl hl=>(aeZ (s.subset hl)).1) (ajh.sublist (s.map _)) λl hl=>(aeZ (s.subset hl)).2
theorem Kq{ls U:List bH}(a:∀ l∈ls,l∈U)(b:∀ l∈ls',l∈U)(u:U.length<=25):∀ ns,xR ls ls' ns->ns.length<=25:=λns m=>gw (ST.qW (QL m.rise) λl hl=>((m.mem l).mp hl).elim (a l) (b l)) u
def wC:List Nat:=[97,98,99,100,101,102,103]
theorem aaG:∀ c∈wC,97<=c/\c<=122:=by decide
def sV(c:Nat):V:=.str (sgn c)
theorem ae0:([.str "a",.str "b",.str "c"]:List V)=[97,98,99].map sV:=by have a:("a" : Str)=sgn 97:=(by decide +kernel);have b:("b" : Str)=sgn 98:=(by decide +kernel);have c:("c" : Str)=sgn 99:=(by decide +kernel);rw [a,b,c]; rfl
theorem ajI:([.str "a",.str "b",.str "c",.str "d",.str "e",.str "f",.str "g"]:List V)=wC.map sV:=by have a:("a" : Str)=sgn 97:=(by decide +kernel);have b:("b" : Str)=sgn 98:=(by decide +kernel);have c:("c" : Str)=sgn 99:=(by decide +kernel);have d:("d" : Str)=sgn 100:=(by decide +kernel);have e:("e" : Str)=sgn 101:=(by decide +kernel);have f:("f" : Str)=sgn 102:=(by decide +kernel);have g:("g" : Str)=sgn 103:=(by decide +kernel);rw [a,b,c,d,e,f,g]; rfl
theorem agX(xs:List aJ)(f:aJ->V)(a b:Nat):lE (xs.map f) (some (a:Int)) (some (b:Int))=((xs.take b).drop a).map f:=by unfold lE;rw [HT.wA,HT.wA,<- List.map_drop,<- LR,Lf,aU];congr 1;by_cases h:a<=xs.length;rw [BK h,Oj,pJ];omega;rw [HD (show xs.length<=min a xs.length by omega),HD (show xs.length<=a by omega)]; simp
def VN:Sp:=λvs H Q _=>∃ p:au,vs=[.ref p]/\fV H p/\∀ H',aW p H H'->Q (.bl true) H'
theorem sA:("a" : Str)=sgn 97:=by decide +kernel
theorem sB':("b" : Str)=sgn 98:=by decide +kernel
theorem ahH:([.str "a",.str "b"]:List V)=[97,98].map sV:=by rw [sA,sB']; rfl
theorem vU:fB ["_law_pack_here","_law_names_here","_law_some","_law_many","_law_amount","_law_rows","_law_one","_law_other","_law_letters_here","_law_k","_law_at","_law_house_here"] ["_law_pack_here"] (bN Sv):=gA
theorem anD(F:gG K "_law_great_right" Sv f fd)(T:Txt mg t8 t6 tR tL)(fZ:Cl P w K mg base 10 "_law_take" ["_law_pack_here","_law_size"] yP)(Ka:Cl P w K mg base 10 "_law_houses" ["_law_names_here","_law_begin","_law_amount"] Wz)(Hl:Cl P w K mg base 10 "_law_right" ["_law_one","_law_other"] RK):bM P w K mg base bR 11 f fd ["_law_pack_here"] VN:=by
 refine F.ok vU (λvs H Q E h=>?_) (λcdv A outer s H vs Q E hr h=>?_)
 . obtain ⟨p,rfl,_⟩:=h;rfl
 . obtain ⟨p,rfl,pk,q⟩:=h;have fW:=dZ;refine ⟨_,(bf (pZ 1 vU (iu (aq iU (aq iU (aq iU (aq iU (aq iU (aq iU (aq iU aC))))))))) (bf (pZ 2 vU (cC gM aQ (pC fZ hr (aq (pV 0) (aq aQ aC))))) (bf (pZ 3 vU (iu (aq (pC Ka hr (aq (jZ Gp (pV 1) mC (jk (pV 2))) (aq aQ (aq aQ aC)))) (aq (pC Ka hr (aq (jZ Gp (pV 1) (jk (pV 2)) (jk (cC gM (cC gM (pV 2) aQ) (pC fZ hr (aq (pV 0) (aq (cC zL aQ (pV 2)) aC)))))) (aq aQ (aq aQ aC)))) aC)))) (bf (pZ 4 vU (cC gM aQ (pC fZ hr (aq (pV 0) (aq aQ aC))))) (bf (pZ 5 vU (iu (aq (pC Ka hr (aq (iu (aq iU (aq iU (aq iU aC)))) (aq aQ (aq (pV 4) aC)))) (aq (pC Ka hr (aq (iu (aq iU (aq iU (aq iU aC)))) (aq (pV 4) (aq (cC gM aQ (pC fZ hr (aq (pV 0) (aq aQ aC)))) aC)))) aC)))) (bf (jd je rfl (uI (iu (aq (pV 3) (aq (pV 5) aC)))) (ahx rfl (cZ (pY 6 vU) (cZ (pY 7 vU) jV))) (bC (gD (uo (kZ (jO (pC Hl hr (aq (fJ (aq (pV 6) (aq (fJ aC) aC))) (aq (fJ (aq (pV 7) (aq (fJ aC) aC))) aC))))) (pw_or1 (kZ (jO (pC Hl hr (aq (fJ (aq (pV 7) (aq (fJ aC) aC))) (aq (fJ (aq (pV 6) (aq (fJ aC) aC))) aC))))))) (bC (cO mF)) gC))) (bf (pZ 8 vU (iu aC)) (bf (jd je rfl (uO rfl T.range (aq aQ aC)) (pY 9 vU) (bC (sW (rN uy zH Aq uN (pV 8) (aq (fJ (aq (cC Ij iU (pX Gq iU (cC oDiv (pV 9) aQ))) (aq (cC Ij iU (pX Gq iU (cC oMod (pV 9) aQ))) (aq aQ (aq Et aC))))) aC))))) (bf (pZ 10 vU (pC fZ hr (aq (pV 0) (aq aQ aC)))) (bf (pZ 11 vU (pC Ka hr (aq (iu (aq iU (aq iU aC))) (aq aQ (aq aQ aC))))) (bC (cO (pC Hl hr (aq (fJ (aq (pV 11) (aq (jx kE rfl T.tuple jy (aq (jZ Gp (pV 8) mC (jk (pV 10))) aC)) aC))) (aq (fJ (aq (pV 11) (aq (jx kE rfl T.tuple jy (aq (jZ Gp (pV 8) (jk (cC gM aQ (pC fZ hr (aq (pV 0) (aq aQ aC))))) mC) aC)) aC))) aC))))))))))))))),?_⟩;have npn:∀{X:Hp}{l:au},fV X p->X l=none->l≠p:=λpk e z=>by obtain ⟨n,e',_⟩:=pk; rw [z,e'] at e; cases e
   refine dN λU1 pF=>?_
   refine ⟨by show 7<=aL; omega,λl fl=>?_⟩;rw [ajI];refine gE fl λH1 s1 el=>?_
   have npl:=npn pk fl;have nC:=gJ pk s1;show U1 [aM p,aM l,aX,aX,aX,aX,aX,aX,aX,aX,aX,aX] _;subst pF;refine dN λU2 qY=>?_
   refine ⟨p,6,rfl,nC,by decide,by decide,λd H2 d0 d1 pk2 s2=>?_⟩;obtain ⟨k,rfl⟩:=nG d0;have el2:=s2 _ _ npl el;show U2 [aM p,aM l,bU (1+(k:Int)),aX,aX,aX,aX,aX,aX,aX,aX,aX] _;subst qY;refine dN λU3 tZ=>?_
   refine ⟨l,_,rfl,aY.of el2,λl1 fl1=>?_⟩;have ek:(1:Int)+(k:Int)=((1+k:Nat):Int):=by omega
   rw [ek,JN,<- LR];refine gE fl1 λH3 s3 el1=>?_
   have c1:(wC.take (1+k)).length=1+k:=by rw [eY]; show min (1+k) 7=1+k; omega
   refine ⟨l1,wC.take (1+k),0,1,rfl,el1,by omega,by decide,λz1 H4 hz1 s4=>?_⟩;have S24:=s3.ao s4;refine ⟨p,7-((1+k:Nat):Int),rfl,gJ pk2 S24,by omega,by omega,λd2 H5 e0 e1 oH s5=>?_⟩;obtain ⟨k2,rfl⟩:=nG e0;refine ⟨l,_,rfl,aY.of (s5 _ _ npl (S24 _ _ el2)),λl2 lX=>?_⟩;have ek2:((1+k:Nat):Int)+1+(k2:Int)=((1+k+1+k2:Nat):Int):=by omega
   rw [ek2,agX];have c2:((wC.take (1+k+1+k2)).drop (1+k)).length=1+k2:=by rw [pJ,eY]; show min (1+k+1+k2) 7-(1+k)=1+k2; omega
   have Hj:((wC.take (1+k+1+k2)).drop (1+k)).Sublist wC:=(ZV _ _).ao (yS _ _);generalize (wC.take (1+k+1+k2)).drop (1+k)=cs2 at c2 Hj;have s6:aD H5 (upd H5 l2 (.lst (cs2.map sV))):=(aD.refl H5).upd lX;generalize eX6:upd H5 l2 (.lst (cs2.map sV))=H6 at s6;have aam:H6 l2=some (.lst (cs2.map sV)):=by rw [<- eX6]; exact aZ
   clear eX6;refine ⟨l2,cs2,0,1,rfl,aam,by omega,by decide,λz2 H7 hz2 s7=>?_⟩;refine ⟨by show 2<=aL; omega,λlm flm=>?_⟩;have S57:=s6.ao s7;refine gE flm λH8 s8 elm=>?_
   have zT:=S57.ao s8;have SB8:aW p H H8:=(((aW.of s1).ao s2).ao ((aW.of S24).ao s5)).ao (aW.of zT);have lW:=gJ oH zT;have Yk:mj H8 z1 (lV (wC.take (1+k)) 0 1):=hz1.ts ((aW.aK (gJ pk2 S24) s5).ao zT.aK);have UJ:mj H8 z2 (lV cs2 0 1):=hz2.ts s8.aK;have npm:=npn (gJ oH S57) flm;have A1:Led (lV (wC.take (1+k)) 0 1) []:=Mz (by omega) (by omega) ((yS _ _).nodup (by decide)) (λc hc=>aaG c (sX hc)) (by decide) (by decide) (by decide);have A2:Led (lV cs2 0 1) []:=Mz (by omega) (by omega) (Hj.nodup (by decide)) (λc hc=>aaG c (Hj.subset hc)) (by decide) (by decide) (by decide);generalize lV (wC.take (1+k)) 0 1=hs1 at A1 Yk;generalize lV cs2 0 1=hs2 at A2 UJ;show U3 [aM p,aM l,bU ((1+k:Nat):Int),aM lm,aX,aX,aX,aX,aX,aX,aX,aX] _;clear hz1 hz2 S57 zT s8 s7 s6 s5 S24 s4 s3 s2 s1 el el1 el2 aam nC pk2 oH c1 c2 Hj npl flm fl1 lX fl;subst tZ;refine dN λU4 v7=>?_
   refine ⟨p,7,rfl,lW,by decide,by decide,λd H9 d0 d1 pk9 s9=>?_⟩;obtain ⟨m,rfl⟩:=nG d0;have em:(1:Int)+(m:Int)=((1+m:Nat):Int):=by omega
   show U4 [aM p,aM l,bU ((1+k:Nat):Int),aM lm,bU (1+(m:Int)),aX,aX,aX,aX,aX,aX,aX] _;rw [em];subst v7;refine dN λU5 wH=>?_
   refine ⟨by show 3<=aL; omega,λl1 fl1=>?_⟩;rw [ae0];refine gE fl1 λG1 t1 el1=>?_
   refine ⟨l1,[97,98,99],0,1+m,rfl,el1,by decide,by omega,λy1 G2 hy1 t2=>?_⟩;refine ⟨by show 3<=aL; omega,λl2 lX=>?_⟩;rw [ae0];refine gE lX λG3 t3 el2=>?_
   have T3:=t1.ao (t2.ao t3);have mG:=gJ pk9 T3;refine ⟨p,2,rfl,mG,by decide,by decide,λd2 G4 e0 e1 sS t4=>?_⟩;obtain ⟨m2,rfl⟩:=nG e0;have em2:(1:Int)+(m2:Int)=((1+m2:Nat):Int):=by omega
   refine ⟨l2,[97,98,99],1+m,1+m2,fG (λi=>[V.ref l2,V.int ((1+m:Nat):Int),V.int i]) em2,t4 _ _ (npn (gJ pk9 (t1.ao t2)) lX) el2,by decide,by omega,λy2 G5 hy2 t5=>?_⟩;refine ⟨by show 2<=aL; omega,λlr flr=>?_⟩;refine gE flr λG6 t6 elr=>?_
   have T46:=t5.ao t6;have SB6:aW p H8 G6:=(s9.ao (aW.of T3)).ao (t4.ao (aW.of T46));have aeM:=SB6 _ _ npm elm;have TP6:=aW.aK lW SB6;have hz1:=Yk.ts TP6;have hz2:=UJ.ts TP6;have Wo:mj G6 y1 (lV [97,98,99] 0 (1+m)):=hy1.ts (t3.aK.ao ((aW.aK mG t4).ao T46.aK));have Z7:mj G6 y2 (lV [97,98,99] (1+m) (1+m2)):=hy2.ts t6.aK;have B1:Led (lV [97,98,99] 0 (1+m)) []:=Mz (by decide) (by decide) (by decide) (by decide) (by omega) (by omega) (by omega);have B2:Led (lV [97,98,99] (1+m) (1+m2)) []:=Mz (by decide) (by decide) (by decide) (by decide) (by omega) (by omega) (by omega);generalize lV [97,98,99] 0 (1+m)=qy at B1 Wo;generalize lV [97,98,99] (1+m) (1+m2)=yW at B2 Z7;have jq:=gJ sS T46;have S6:aW p H G6:=SB8.ao SB6;show U5 [aM p,aM l,bU ((1+k:Nat):Int),aM lm,bU ((1+m:Nat):Int),aM lr,aX,aX,aX,aX,aX,aX] _;clear hy1 hy2 Yk UJ TP6 SB6 SB8 T46 t6 t5 t4 T3 t3 t2 t1 mG sS el1 el2 elm s9 pk9 npm flr fl1 lX;subst wH;refine wF λU6 hU6=>?_
   refine ⟨by show 2<=aL; omega,λlf flf=>?_⟩;refine gE flf λG7 t7 elf=>?_
   refine ⟨lf,rfl,⟨_,aY.of elf⟩,Te (xs:=[.ref lm,.ref lr]) (λi aj H'=>∃ o6 o7:Option V,aj=[aM p,aM l,bU ((1+k:Nat):Int),aM lm,bU ((1+m:Nat):Int),aM lr,o6,o7,aX,aX,aX,aX]/\aD G7 H') ⟨none,none,rfl,aD.refl _⟩ (λi aj H' _ hz=>by obtain ⟨_,_,_,S⟩:=hz; exact aY.of (S _ _ elf)) (λi v aj J hv hz=>?_) (fun aj J hz=>?_)⟩
   . obtain ⟨o6,o7,rfl,S7⟩:=hz
     obtain ⟨av,x1,x2,h1,h2,rfl,ev,hx1,hx2,L1,L2'⟩:∃(av:au)(x1 x2:V)(h1 h2:List aP),v=.ref av/\G6 av=some (.lst [x1,x2])/\mj G6 x1 h1/\mj G6 x2 h2/\Led h1 []/\Led h2 []:=by
       match i,hv with
       | 0,hv=>cases hv; exact ⟨lm,z1,z2,hs1,hs2,rfl,aeM,hz1,hz2,A1,A2⟩
       | 1,hv=>cases hv; exact ⟨lr,y1,y2,qy,yW,rfl,elr,Wo,Z7,B1,B2⟩
       | n+2,hv=>simp at hv
     have SJ:=t7.ao S7;refine ⟨av,x1,x2,rfl,aY.of (SJ _ _ ev),_,_,rfl,_,_,rfl,rfl,?_⟩;have aej:∀ ns,xR [] [] ns->ns.length<=25:=Kq (U:=[]) (λ_ z=>by cases z) (λ_ z=>by cases z) (by decide)
     have mk:∀{X X1 X2:Hp}{e t:au}{x:V}{h:List aP},mj X x h->aD X X1->X1 e=none->X2=upd X1 e (.tup [])->X2 t=none->iI (upd X2 t (.tup [x,.ref e])) (.ref t) h []:=λ{X X1 X2 e t x h} hx s fe eq ft=>by
       subst eq;have sa:=(s.upd (o:=.tup []) fe).upd (o:=.tup [x,.ref e]) ft;refine ⟨t,x,.ref e,rfl,aZ,hx.ts sa.aK,e,[],rfl,?_,.nil⟩;rw [bx (cg aZ ft)]; exact aZ
     refine ⟨cJ _,λe1 fe1=>?_⟩;refine ⟨by show 2<=aL; omega,λu1 fu1=>?_⟩;have g1:=mk (hx1.ts SJ.aK) (aD.refl J) fe1 rfl fu1;have w1:=((aD.refl J).upd (o:=.tup []) fe1).upd (o:=.tup [x1,.ref e1]) fu1;generalize upd (upd J e1 (.tup [])) u1 _=J1 at g1 w1;refine ⟨cJ _,λe2 fe2=>?_⟩;refine ⟨by show 2<=aL; omega,λu2 fu2=>?_⟩;have g2:=mk (hx2.ts (SJ.ao w1).aK) (aD.refl J1) fe2 rfl fu2;have w2:=((aD.refl J1).upd (o:=.tup []) fe2).upd (o:=.tup [x2,.ref e2]) fu2;generalize upd (upd J1 e2 (.tup [])) u2 _=J2 at g2 w2;refine ⟨_,_,h1,h2,[],[],rfl,g1.ts w2.aK,g2,Fb L1 L2' aej,λJ3 w3=>?_⟩;have W3:=SJ.ao (w1.ao (w2.ao w3));refine ⟨cJ _,λe3 fe3=>?_⟩;refine ⟨by show 2<=aL; omega,λu3 fu3=>?_⟩;have g3:=mk (hx2.ts W3.aK) (aD.refl J3) fe3 rfl fu3;have w4:=((aD.refl J3).upd (o:=.tup []) fe3).upd (o:=.tup [x2,.ref e3]) fu3;generalize upd (upd J3 e3 (.tup [])) u3 _=J4 at g3 w4;refine ⟨cJ _,λe4 fe4=>?_⟩;refine ⟨by show 2<=aL; omega,λu4 fu4=>?_⟩;have g4:=mk (hx1.ts (W3.ao w4).aK) (aD.refl J4) fe4 rfl fu4;have w5:=((aD.refl J4).upd (o:=.tup []) fe4).upd (o:=.tup [x1,.ref e4]) fu4;generalize upd (upd J4 e4 (.tup [])) u4 _=J5 at g4 w5;refine ⟨_,_,h2,h1,[],[],rfl,g3.ts w5.aK,g4,Fb L2' L1 aej,λJ6 w6=>?_⟩;exact ⟨_,_,rfl,S7.ao (w1.ao (w2.ao (w3.ao (w4.ao (w5.ao w6)))))⟩
   obtain ⟨o6,o7,rfl,S7⟩:=hz;have pkJ:=gJ jq (t7.ao S7);have SJ:aW p H J:=S6.ao (aW.of (t7.ao S7));clear S7 t7 elf S6 jq elr aeM hz1 hz2 Wo Z7;show U6 _ _;subst hU6;refine dN λU7 hU7=>?_
   refine ⟨cJ _,λnl fnl=>?_⟩;refine gE fnl λJ1 s1 enl=>?_
   show U7 [aM p,aM l,bU ((1+k:Nat):Int),aM lm,bU ((1+m:Nat):Int),aM lr,o6,o7,aM nl,aX,aX,aX] _;subst hU7;refine wF λU8 hU8=>?_
   refine ⟨25,rfl,by decide,by decide,zA (lo:=0) (n:=25) (λi aj H'=>∃ o9 vs,aj=[aM p,aM l,bU ((1+k:Nat):Int),aM lm,bU ((1+m:Nat):Int),aM lr,o6,o7,aM nl,o9,aX,aX]/\H' nl=some (.lst vs)/\bw (jw H') vs ((cY i).map xT)/\aW nl J1 H') ⟨none,[],rfl,enl,.nil,λb o _ e=>e⟩ (λi aj J2 hi hz=>?_) (fun aj J2 hz=>?_)⟩
   . obtain ⟨o9,vs,rfl,en,pv,sB⟩:=hz;refine ⟨.inl ⟨rfl,_,aY.of en⟩,?_⟩;refine ⟨⟨by decide,by decide⟩,?_⟩;have ei:(0:Int)+(i:Int)=(i:Int):=by omega
     rw [ei];refine Gj (z:=Ju) (c:=97+i / 5) (by rw [fW]; decide +kernel) (j9 (j:=i / 5) (Zy (by omega))) ?_;refine ⟨by show 2<=aL; omega,?_⟩;refine ⟨by show (0:Int)<5; decide,?_⟩;refine Gj (z:=Ju) (c:=97+i % 5) (by rw [fW]; decide +kernel) (j9 (j:=i % 5) (Zy (by omega))) ?_;refine ⟨by show 2<=aL; omega,?_⟩;refine ⟨by show 4<=aL; omega,λt ft=>?_⟩;rw [sA,sB',Xj,Xj];have s2:aD J2 (upd J2 t (.tup [.str (xT i).1.1,.str (xT i).1.2,.int 1,.non])):=(aD.refl J2).upd ft;have et:upd J2 t (.tup [.str (xT i).1.1,.str (xT i).1.2,.int 1,.non]) t=some (.tup [.str (xT i).1.1,.str (xT i).1.2,.int 1,.non]):=aZ;have lv:=pv.length;rw [aU,rK] at lv;refine ⟨nl,vs,_,rfl,rfl,s2 _ _ en,by omega,?_⟩;have TF:cN _ (upd (upd J2 t (.tup [.str (xT i).1.1,.str (xT i).1.2,.int 1,.non])) nl (.lst (vs++[.ref t]))):=xq ⟨_,s2 _ _ en⟩;refine ⟨_,vs++[.ref t],rfl,aZ,?_,λb o nb e=>by rw [bx nb]; exact s2 _ _ (sB b o nb e)⟩;rw [V9,dJ];exact fY (bG (λ_ _ z=>(z.ts s2.aK).ts TF) pv) (.cons ⟨t,rfl,TF _ _ et⟩ .nil)
   obtain ⟨o9,vs,rfl,en,pv,sB⟩:=hz;have S2:aD J J2:=λb o e=>sB b o (cg e fnl) (s1 _ _ e)
   have pk2:=gJ pkJ S2;have ahp:=npn pkJ fnl;show U8 _ _;subst hU8;refine dN λU9 hU9=>?_
   refine ⟨p,25,rfl,pk2,by decide,by decide,λd J3 d0 d1 mG s3=>?_⟩;obtain ⟨at0,rfl⟩:=nG d0;show U9 _ _;subst hU9;refine dN λUa hUa=>?_
   refine ⟨by show 2<=aL; omega,λl4 fl4=>?_⟩;have s4:aD J3 (upd J3 l4 (.lst ([97,98].map sV))):=(aD.refl J3).upd fl4;have e4:upd J3 l4 (.lst [.str "a",.str "b"])=upd J3 l4 (.lst ([97,98].map sV)):=by rw [ahH]
   generalize eX4:upd J3 l4 (.lst ([97,98].map sV))=J4 at s4 e4;have el4:J4 l4=some (.lst ([97,98].map sV)):=by rw [<- eX4]; exact aZ
   clear eX4;rw [e4];refine ⟨l4,[97,98],0,5,rfl,el4,by decide,by decide,λz J5 hz s5=>?_⟩;show Ua [aM p,aM l,bU ((1+k:Nat):Int),aM lm,bU ((1+m:Nat):Int),aM lr,o6,o7,aM nl,o9,bU (at0:Int),some z] _;clear e4;subst hUa;have S35:=s4.ao s5;have en5:=S35 _ _ (s3 _ _ ahp en);have pv5:bw (jw J5) vs Bv:=bG (λ_ _ z=>(z.ts (aW.aK pk2 s3)).ts S35.aK) pv;refine ⟨nl,vs,rfl,aY.of en5,λl6 fl6=>?_⟩;rw [JN];refine gE fl6 λJ6 s6 el6=>?_
   refine ⟨l6,_,rfl,.inl ⟨aY.of el6,λt6 ft6=>?_⟩⟩;refine gE ft6 λJ7 s7 et6=>?_
   refine ⟨by show 2<=aL; omega,λt7 ft7=>?_⟩;refine gE ft7 λJ8 s8 et7=>?_
   have zT:=s6.ao (s7.ao s8);have lW:=gJ mG (S35.ao zT);refine ⟨p,2,rfl,lW,by decide,by decide,λd J9 e0 e1 pk9 s9=>?_⟩;obtain ⟨j0,rfl⟩:=nG e0;have ej:(1:Int)+(j0:Int)=((1+j0:Nat):Int):=by omega
   have T59:=zT.aK.ao (aW.aK lW s9);have apP:=npn pkJ fnl;refine ⟨nl,vs,rfl,aY.of (s9 _ _ apP (zT _ _ en5)),λla fla=>?_⟩;rw [ej,Ck];refine gE fla λJa sa ela=>?_
   refine ⟨la,_,rfl,.inl ⟨aY.of ela,λta fta=>?_⟩⟩;refine gE fta λJb sb eta=>?_
   refine ⟨by show 2<=aL; omega,λtb ftb=>?_⟩;have sc:aD Jb (upd Jb tb (.tup [z,.ref ta])):=(aD.refl Jb).upd ftb;have S9c:=sa.ao (sb.ao sc);have T5c:=T59.ao S9c.aK;have T8c:=(aW.aK lW s9).ao S9c.aK;have hzc:=hz.ts T5c;have pvc:=bG (λ_ _ y=>jw.ts T5c y) pv5;have lg:Bv.length=25:=by decide +kernel
   refine ⟨_,_,lV [97,98] 0 5,lV [97,98] 0 5,Bv.take at0,Bv.drop (1+j0),rfl,⟨t7,z,.ref t6,rfl,T8c _ _ et7,hzc,t6,_,rfl,T8c _ _ (s8 _ _ et6),Mv at0 pvc⟩,⟨tb,z,.ref ta,rfl,aZ,hzc,ta,_,rfl,sc _ _ eta,Io (1+j0) pvc⟩,?_,λH' s'=>?_⟩
   . exact Fb (afp (yS _ _) (by rw [eY]; omega)) (afp (ZV _ _) (by rw [pJ]; omega)) (Kq (U:=Bv) (λl hl=>sX hl) (λl hl=>List.mem_of_mem_drop hl) (by omega))
   . exact q H' ((SJ.ao (aW.of S2)).ao (s3.ao ((aW.of (S35.ao zT)).ao (s9.ao (aW.of (S9c.ao s'))))))
def YT:Sp:=λvs H Q _=>mz λ(p:au)(x:V)(hs:List aP)(ls:List bH)=>jt (vs=[.ref p,x]) (fV H p) (iI H x hs ls) (Dy hs ls) (∀ H',aW p H H'->Q (.bl true) H')
variable{ns:List bH}
theorem SN(gh:En ks)(gl:zX ks ns)(ten:(bA ks).length<=12):Led ks ns:=by refine ⟨gh.lo,gh.hi,λh hh=>?_,gh.names,gl.few,λl hl=>?_,gl.rise,λl hl=>?_⟩;have g:=gh.all h hh;refine ⟨g.name,g.wide,g.bV,g.few,λr hr=>?_⟩;have gr:=g.runs r hr;refine NZ gr.ne gr.rise ?_ gr.names;have z:r.length<=h.runs.flatten.length:=(List.sublist_flatten_of_mem hr).length_le;obtain ⟨j,hj,ej⟩:=Eo hh;have y:=N8 ks (j+1);rw [KD (m:=h) (by rw [cT hj,ej]),cQ] at y;have y1:(fH h).length=h.runs.flatten.length:=(by unfold fH qJ; rw [aU]);omega;have g:=gl.all l hl;exact ⟨g.sent,g.taken,g.least,g.most⟩;obtain ⟨h1,m1,h2,m2,n1,n2,_⟩:=(gl.all l hl).ZF;exact ⟨jR.mpr ⟨h1,m1,n1⟩,jR.mpr ⟨h2,m2,n2⟩⟩
theorem Part.led{ls:List bH}(W:Dy hs ls)(p:Part hs ls ks ns):Led ks ns:=by have g:=p.al6 W;refine SN g (p.ai8 W) (gw (ST.qW g.rows (U:=bA hs) λn hn=>?_) (gw W.ten (by decide)));obtain ⟨k,hk,hn⟩:=jR.mp hn;obtain ⟨h,hh,q⟩:=p.sub k hk;exact jR.mpr ⟨h,hh,q.names hn⟩
theorem nA.keys(h:nA kvs ps):∃ ss:List Str,kvs.map (·.1)=ss.map cB/\∀ n∈ss,n∈ps.map cu:=by have key:∀ ks:List Key,(∀ k∈ks,k∈(ps.map cu).map cB)->∃ ss:List Str,ks=ss.map cB/\∀ n∈ss,n∈ps.map cu:=λks=>(by induction ks with| nil=>intro _; exact ⟨[],rfl,λ_ z=>by cases z⟩| cons k ks ih =>intro hk;obtain ⟨ss,e,hs⟩:=ih λx hx=>hk x (dD _ hx);obtain ⟨n,hn,rfl⟩:=cG.mp (hk k dg);exact ⟨n :: ss,by rw [e]; rfl,λx hx=>(dF.mp hx).elim (λz=>z ▸ hn) (hs x)⟩);exact key _ λk hk=>(h.mem k).mp hk
theorem Vy(hn:n∈bA hs)(nd:(bA hs).Nodup):∃ h∈hs,n∈fH h/\lM (bT hs) n=some h.name:=by obtain ⟨h,hh,hn⟩:=jR.mp hn;exact ⟨h,hh,hn,owner nd hh hn⟩
def Zx(hs:List aP)(p:Str × Str):Prop:=∃ h1∈hs,∃ h2∈hs,p.1∈fH h1/\p.2∈fH h2/\h1.name≠h2.name
def JK(H:Hp)(v:V)(p:Str × Str):Prop:=∃ t,v=.ref t/\H t=some (.tup [.str p.1,.str p.2])
variable{p:Str × Str}
theorem JK.ts(s:cN H H')(h:JK H v p):JK H' v p:=let ⟨t,e,g⟩:=h; ⟨t,e,s _ _ g⟩
theorem abE{ls:List bH}(W:Dy hs ls)(h:Zx hs p){k:Int}(k1:1<=k):Oq hs (p,k,none):=by obtain ⟨h1,m1,h2,m2,n1,n2,ne⟩:=h;have g:∀ h∈hs,∀ n∈fH h,dG n:=λh hh n hn=>(by obtain ⟨x,hx,rfl⟩:=cG.mp hn;obtain ⟨r,hr,hx⟩:=Du.mp hx;exact ((W.gh.all h hh).runs r hr).names x hx);exact ⟨g h1 m1 _ n1,g h2 m2 _ n2,k1,(λm e=>by cases e),h1,m1,h2,m2,n1,n2,ne⟩
theorem abD(g:En hs):zf hs hs hs:=by refine ⟨hs,?_,?_⟩;rw [filter_none λk hk=>iz hk,yJ];have z:=af0 (F:=λh m=>qj h (iK hs h) m) id (l:=hs) λh hh=>(by rw [O9 g.names hh rfl];exact ⟨rfl,rfl,rfl,rfl,(lZ.full (g.all h hh).runs).self⟩);rwa [List.map_id] at z
def rG(a b:Str)(k:Int)(t:au × (Str × Str)):bH:=if t.2=(a,b) then ((a,b),k,none) else ((b,a),1,none)
theorem aiJ{a b:Str}{k:Int}{t1 t2:au}(ne:a≠b){ts:List (au × (Str × Str))}(pm:ts.Perm [(t1,(a,b)),(t2,(b,a))])(pw:ts.Pairwise (λx y=>oZ kdS kdS x.2 y.2=true)):xR [((a,b),k,none)] [((b,a),1,none)] (ts.map (rG a b k)):=by have e1:[(t1,(a,b)),(t2,(b,a))].map (rG a b k)=[((a,b),k,none),((b,a),1,none)]:=(by have:¬ ((b,a):Str × Str)=(a,b):=λz=>ne (fG iY z);simp [rG,this]);refine ⟨λl=>?_,?_⟩;rw [(pm.map (rG a b k)).mem_iff,e1];simp;rw [jM,jc];refine pw.imp_of_mem λ{x y} hx hy h=>?_;have key:∀ t∈ts,(rG a b k t).1=t.2:=λt ht=>(by have z:=pm.mem_iff.mp ht;have this:¬ ((b,a):Str × Str)=(a,b):=λz=>ne (fG iY z);simp only [dF,pL,or_false] at z;rcases z with rfl | rfl;simp [rG];simp [rG,this]);show jE (rG a b k x).1 (rG a b k y).1=true;rw [key x hx,key y hy];exact h
theorem am0{ls:List bH}(gh:En hs)(gl:zX hs ls):qd hs ls=true:=by have a:hs.all vO=true:=fX.mpr λh hh=>fX.mpr λr hr=>aho ((gh.all h hh).runs r hr).rise;have b:ls.all (tK hs)=true:=fX.mpr λl hl=>(by obtain ⟨h1,m1,h2,m2,n1,n2,ne⟩:=(gl.all l hl).ZF;unfold tK;rw [owner gh.rows m1 n1,owner gh.rows m2 n2];simp [ne]);unfold qd;rw [a,b,fj gh.rows,fj gh.few,fj gh.hi,fj gl.few];rfl
theorem vg:fB ["_law_pack_here","_law_ledger_here","_law_home","_law_house_here","_law_run","_law_row","_law_reading","_law_pairs","_law_one","_law_two","_law_there","_law_back","_law_due_here"] ["_law_pack_here","_law_ledger_here"] (bN Qo):=gA
theorem anT(F:gG K "_law_back_right" Qo f fd)(T:Txt mg t8 t6 tR tL)(fZ:Cl P w K mg base 9 "_law_take" ["_law_pack_here","_law_size"] yP)(Sg:Cl P w K mg base 9 "_law_seen" ["_law_one","_law_other"] Nf):bM P w K mg base bR 10 f fd ["_law_pack_here","_law_ledger_here"] YT:=by refine F.ok vg (λvs H Q E h=>?_) (λcdv A outer s H vs Q E hr h=>?_);obtain ⟨p,x,hs,ls,rfl,_⟩:=h;rfl;obtain ⟨p,x,hs,ls,rfl,pk,⟨a,x1,x2,rfl,ha,⟨ch,vh,rfl,hch,ph⟩,⟨cl,vl,rfl,hcl,pl⟩⟩,W,q⟩:=h;have fW:=dZ;refine ⟨_,(bf (pZ 2 vg Lw) (bf (jd je rfl (gj (pX cM (pV 1) aQ)) (pY 3 vg) (bC (jd je rfl (gj (pX cM (pV 3) aQ)) (pY 4 vg) (bC (jd je rfl (gj (pV 4)) (j8 rfl (cZ (pY 5 vg) (cZ (pY 6 vg) jV))) (bC (KH (kY hr) (pV 2) (pV 5) (pX cM (pV 3) aQ) rfl))))))) (bf (pZ 7 vg (iu aC)) (bf (jd je rfl (uI (cR (Y6 rfl) rfl T.sorted yQ (aq (pV 2) aC))) (pY 8 vg) (bC (sW (rN uy Qa QM Rr (pV 7) (aq (jg (bQ:=bN Qo) (own:=["_law_two"]) (cap:=["_law_home","_law_one"]) (ix:=[2,8]) rfl rfl gP (uI (cR (Y6 rfl) rfl T.sorted yQ (aq (pV 2) aC))) (λb=>(pH 0 ["_law_two","_law_home","_law_one"])) (λb=>(Lx (gF (Ca hr.units) (vo (kY hr) (pV 1) (pV 2) (λ_ _=>rfl)) (vo (kY hr) (pV 1) (pV 0) (λ_ _=>rfl)) (cV _)))) (λb=>(fJ (aq (pV 2) (aq (pV 0) aC))))) aC))))) (bf (gD (gF (Wn hr.units) (pV 7) (iu aC) (cV _)) (bC (cO mF)) gC) (bf (Ed (Cg mJ (pV 7) (pC fZ hr (aq (pV 0) (aq (cR jC rfl T.len iM (aq (pV 7) aC)) aC))) (λ_ _=>rfl)) (j8 rfl (cZ (pY 8 vg) (cZ (pY 9 vg) jV)))) (bf (ahW (i:=10) (j:=11) vg.nd rfl rfl (jh rfl) (jh rfl) rfl (fJ (aq (fJ (aq (fJ (aq (pV 8) (aq (pV 9) (aq (cC gM aQ (pC fZ hr (aq (pV 0) (aq aQ aC)))) (aq Et aC))))) aC)) (aq (fJ (aq (fJ (aq (pV 9) (aq (pV 8) (aq aQ (aq Et aC))))) aC)) aC)))) (bf (pZ 12 vg (fJ (aq (pX cM (pV 1) aQ) (aq (jx kE rfl T.tuple jy (aq (cR (ade (K1:=kdS) (K2:=kdS)) rfl T.sorted yQ (aq (cC pA (pV 10) (pV 11)) aC)) aC)) aC)))) (bC (cO (rW (HN hr.units) (pC Sg hr (aq (fJ (aq (pX cM (pV 1) aQ) (aq (pV 10) aC))) (aq (fJ (aq (pX cM (pV 1) aQ) (aq (pV 11) aC))) aC))) (pV 12) (cV _)))))))))))),?_⟩;refine dN λU0 hU0=>?_;refine λDh fD=>?_;refine gE fD λH0 s0 eD0=>?_;have nS:∀{H':Hp},aW Dh H0 H'->aD H H':=λs b o e=>s b o (cg e fD) (s0 _ _ e);have few:=W.gh.few;show U0 [aM p,aM a,aM Dh,aX,aX,aX,aX,aX,aX,aX,aX,aX,aX] _;subst hU0;refine wF λU1 pF=>?_;refine cL (aG.of (s0 _ _ ha)) (i:=0) (v:=.ref ch) (by rfl) ?_;refine ⟨ch,rfl,⟨_,aG.of (s0 _ _ hch)⟩,nu (xs:=vh) (λi aj H'=>QX5 λkvs o3 o4 o5 o6=>wB (aj=[aM p,aM a,aM Dh,o3,o4,o5,o6,aX,aX,aX,aX,aX,aX]) (H' Dh=some (.dK kvs)) (nA kvs (bT (hs.take i))) (aW Dh H0 H')) ⟨[],none,none,none,none,rfl,eD0,nA.nil,λb o _ e=>e⟩ (λi aj H' _ hz=>by obtain ⟨_,_,_,_,_,_,_,_,s⟩:=hz;exact aG.of (nS s _ _ hch)) (λi v aj H1 hv hz=>?_) (fun aj H1 hz=>?_)⟩;obtain ⟨kvs,o3,o4,o5,o6,rfl,eD,hm,sB⟩:=hz;obtain ⟨h,hhi,hat⟩:=dM ph hv;obtain ⟨c1,b1,rfl,e1,c5,vr,rfl,e5,pr⟩:=hat;have pt:bT (hs.take (i+1))=bT (hs.take i)++jJ h:=(by unfold bT;rw [dI,hhi,rM];simp);have big:(bT (hs.take i)).length+h.runs.flatten.length<=24:=(by have z:=N8 hs (i+1);rw [KD hhi,cQ] at z;have y1:(fH h).length=h.runs.flatten.length:=(by unfold fH qJ; rw [aU]);have y2:(bT (hs.take i)).length=(bA (hs.take i)).length:=(by rw [<- rZ,aU]);omega);refine cL (aG.of (nS sB _ _ e1)) (i:=4) (v:=.ref c5) (by rfl) ?_;refine ⟨c5,rfl,⟨_,aG.of (nS sB _ _ e5)⟩,nu (xs:=vr) (λk aj H'=>mz λkvs o4 o5 o6=>wB (aj=[aM p,aM a,aM Dh,aM c1,o4,o5,o6,aX,aX,aX,aX,aX,aX]) (H' Dh=some (.dK kvs)) (nA kvs (bT (hs.take i)++((h.runs.take k).flatten).map λr=>(r.1,h.name))) (aW Dh H0 H')) ⟨kvs,o4,o5,o6,rfl,eD,(by simpa using hm),sB⟩ (λi aj H' _ hz=>by obtain ⟨_,_,_,_,_,_,_,s⟩:=hz;exact aG.of (nS s _ _ e5)) (λk u aj H2 hu hz=>?_) (fun aj H2 hz=>?_)⟩;obtain ⟨Mq,o4',o5',o6',rfl,tM,hm2,zW⟩:=hz;obtain ⟨r,hrk,c6,v6,rfl,e6,p6⟩:=dM pr hu;have l6:=p6.length;have lps:(bT (hs.take i)++((h.runs.take k).flatten).map (λr=>(r.1,h.name))).length+r.length<=24:=(by have z:=Am h.runs (k+1);rw [dI,hrk,Bt,cQ] at z;simp only [Option.toList_some,rO,List.flatten_nil,yJ] at z;rw [cQ,aU];omega);have ept:bT (hs.take i)++((h.runs.take (k+1)).flatten).map (λr=>(r.1,h.name))=(bT (hs.take i)++((h.runs.take k).flatten).map (λr=>(r.1,h.name)))++r.map λr=>(r.1,h.name):=(by rw [dI,hrk,Bt,dJ,oU];simp);generalize bT (hs.take i)++((h.runs.take k).flatten).map (λr=>(r.1,h.name))=ps at hm2 ept lps;refine ⟨c6,rfl,⟨_,aG.of (nS zW _ _ e6)⟩,nu (xs:=v6) (λj aj H'=>kJ λkvs o5 o6=>jt (aj=[aM p,aM a,aM Dh,aM c1,aM c6,o5,o6,aX,aX,aX,aX,aX,aX]) (H' Dh=some (.dK kvs)) (nA kvs (ps++(r.take j).map λr=>(r.1,h.name))) (kvs.length<=Mq.length+j) (aW Dh H0 H')) ⟨Mq,o5',o6',rfl,tM,(by simpa using hm2),bB _,zW⟩ (λi aj H' _ hz=>by obtain ⟨_,_,_,_,_,_,_,s⟩:=hz;exact aG.of (nS s _ _ e6)) (λj u aj H4 hu hz=>?_) (fun aj H4 hz=>?_)⟩;obtain ⟨lD,ane,alP,rfl,xU,yO,lk4,mW⟩:=hz;obtain ⟨x,hx,a1,rfl,ea⟩:=dM p6 hu;have jl:=(mK.mp hx).1;refine ⟨a1,_,rfl,aG.of (nS mW _ _ ea),rfl,_,_,rfl,_,_,rfl,rfl,?_⟩;refine cL (aG.of (nS mW _ _ e1)) (i:=0) (v:=.str h.name) (by rfl) ?_;have lk:lD.length<aL:=(by have z:=hm2.le;omega);refine ⟨Dh,_,rfl,wV.k (k:=.inr x.1) xU lk,?_⟩;refine ⟨_,_,_,rfl,aZ,?_,?_,λb o nb e=>by rw [bx nb]; exact mW b o nb e⟩;have z:=yO.put (x.1,h.name);rw [oU] at z;rw [dI,hx,dJ];exact z;have w:=yM lD (cB x.1) (V.str h.name);omega;obtain ⟨lD,ane,alP,rfl,xU,yO,_,mW⟩:=hz;rw [l6,gU] at yO;exact ⟨lD,_,_,_,rfl,xU,by rw [ept]; exact yO,mW⟩;obtain ⟨nP,o4',o5',o6',rfl,tM,hm2,zW⟩:=hz;rw [pr.length,gU] at hm2;have e9:(h.runs.flatten.map λr=>(r.1,h.name))=jJ h:=rfl;rw [e9,<- pt] at hm2;exact ⟨nP,_,_,_,_,rfl,tM,hm2,zW⟩;obtain ⟨kvs,o3,o4,o5,o6,rfl,eD,hm,sB⟩:=hz;rw [ph.length,gU] at hm;have S1:=nS sB;have own:=hm.own (by rw [rZ]; exact W.gh.rows);obtain ⟨ss,ek,hss⟩:=hm.keys;rw [rZ] at hss;have l64:ss.length<64:=(by have z:=fG rJ ek;rw [aU,aU] at z;have y:=hm.le;have y2:(bT hs).length=(bA hs).length:=(by rw [<- rZ,aU]);omega);have nC:=gJ pk S1;clear sB nS eD0 s0;show U1 _ _;subst pF;refine dN λU2 qY=>?_;refine ⟨cJ _,λP fP=>?_⟩;refine gE fP λH2 s2 eP=>?_;have npP:P≠p:=λz=>(by obtain ⟨n,e,_⟩:=nC; rw [<- z,fP] at e; cases e);have nPD:P≠Dh:=λz=>(by rw [z,eD] at fP; cases fP);show U2 [aM p,aM a,aM Dh,o3,o4,o5,o6,aM P,aX,aX,aX,aX,aX] _;subst qY;refine wF λU3 tZ=>?_;refine ⟨Dh,kvs,ss,rfl,s2 _ _ eD,ek,l64,λl ss' fl pm _=>?_⟩;refine gE fl λH3 s3 el=>?_;have nPl:P≠l:=cg eP fl;have ls':=pm.length_eq;refine ⟨l,rfl,⟨_,aY.of el⟩,Te (xs:=ss'.map V.str) (λi aj H'=>kJ λo8 vs prs=>uf (aj=[aM p,aM a,aM Dh,o3,o4,o5,o6,aM P,o8,aX,aX,aX,aX]) (H' P=some (.lst vs)) (bw (JK H') vs prs) ((∀ x∈prs,Zx hs x)) (vs.length<=64 * i) (aW P H3 H')) ⟨none,[],[],rfl,s3 _ _ eP,.nil,(λ_ z=>by cases z),cJ _,λb o _ e=>e⟩ (λi aj H' _ hz=>by obtain ⟨_,_,_,_,_,_,_,_,s⟩:=hz;exact aY.of (s _ _ nPl.symm el)) (λi v aj H4 hv hz=>?_) (fun aj H4 hz=>?_)⟩;obtain ⟨o8,vs,prs,rfl,eP4,pv,ok,lv,mW⟩:=hz;rw [cX] at hv;obtain ⟨x,hx,rfl⟩:=Ho.mp hv;have i64:i<ss'.length:=(mK.mp hx).1;obtain ⟨h1,m1,n1,lk1⟩:=Vy (hss x (pm.mem_iff.mp (dB hx))) W.gh.rows;have xU:=mW _ _ nPD.symm (s3 _ _ (s2 _ _ eD));refine ⟨.inl ⟨rfl,_,aY.of eP4⟩,?_⟩;refine ⟨Dh,kvs,ss,rfl,xU,ek,l64,λl2 ss2 lX pm2 _=>?_⟩;refine gE lX λH5 s5 el2=>?_;have iB:=pm2.length_eq;have pss:bw (λ(v:V)(n:Str)=>v=V.str n) (ss2.map V.str) ss2:=(by generalize ss2=q;induction q with| nil=>exact .nil| cons _ _ ih=>exact .cons rfl ih);refine ⟨l2,rfl,⟨_,aY.of el2⟩,λD hD=>Zk (R:=λ(v:V)(n:Str)=>v=V.str n) (R':=JK) (F:=λ(n:Str)(pr:Str × Str)=>pr=(x,n)) (keep:=λn=>!decide (lM (bT hs) x=lM (bT hs) n)) (λs r=>r.ts s.aK) (λe r=>r.ts (xq e)) hD el2 (by rw [aU]; omega) pss (λj y n H' hi ry s b N Q1 nN q1=>?_) (λws aoz H6 s6 eD6 pw pf=>?_)⟩;subst ry;obtain ⟨h2,m2,n2,lk2⟩:=Vy (hss n (pm2.mem_iff.mp (dB hi))) W.gh.rows;have eD5:=s _ _ (s5 _ _ xU);refine ⟨Dh,.str h1.name,rfl,?_,?_⟩;have z:=ji.k (k:=.inr x) eD5;rw [own,lk1] at z;exact z;refine ⟨Dh,.str h2.name,rfl,?_,?_⟩;have z:=ji.k (k:=.inr n) eD5;rw [own,lk2] at z;exact z;refine ⟨.str h1.name,.str h2.name,.str _,.str _,Hg (W.gh.all h1 m1).name,Hg (W.gh.all h2 m2).name,?_⟩;rw [QK];have ee:(!decide (h1.name=h2.name))=!decide (lM (bT hs) x=lM (bT hs) n):=(by rw [lk1,lk2]; congr 1; rw [jP]; simp);rw [ee];refine gB (λz=>?_) (λz=>nN (IW.mpr z) _ (aD.refl _));refine ⟨by show 2<=aL; omega,λt ft=>q1 z _ _ (x,n) ((aD.refl H').upd ft) ⟨t,rfl,aZ⟩ rfl⟩;have lw:=pw.length;have lf:=pf.length;have lff:=Gn (λn=>!decide (lM (bT hs) x=lM (bT hs) n)) ss2;have eP6:=s6 _ _ (s5 _ _ eP4);refine ⟨P,D,vs,ws,rfl,rfl,eP6,eD6,by omega,?_⟩;have TF:=xq (o:=.lst (vs++ws)) ⟨_,eP6⟩;refine ⟨_,vs++ws,prs++aoz,rfl,aZ,?_,λy hy=>?_,by rw [cQ]; omega,λb o nb e=>by rw [bx nb]; exact s6 _ _ (s5 _ _ (mW b o nb e))⟩;exact fY (bG (λ_ _ z=>(z.ts (s5.ao s6).aK).ts TF) pv) (bG (λ_ _ z=>z.ts TF) pw);rcases fQ.mp hy with z | z;exact ok y z;rw [adi pf] at z;obtain ⟨n,hn,rfl⟩:=cG.mp z;obtain ⟨hn1,hn2⟩:=xr.mp hn;obtain ⟨h2,m2,n2,lk2⟩:=Vy (hss n (pm2.mem_iff.mp hn1)) W.gh.rows;refine ⟨h1,m1,h2,m2,n1,n2,λe=>?_⟩;rw [lk1,lk2,e] at hn2;simp at hn2;obtain ⟨o8,vs,prs,rfl,eP4,pv,ok,lv,mW⟩:=hz;have S4:aD H H4:=λb o e=>(by have z:=S1 _ _ e;exact mW b o (cg z fP) (s3 _ _ (s2 _ _ z)));have sS:=gJ pk S4;rw [aU] at lv;clear mW s3 s2 el S1 nC own hm;show U3 _ _;subst tZ;refine wF λU4 v7=>?_;refine ifB (λc H'=>(c=vs.isEmpty)/\aD H4 H') (λR hR=>?_) (λH5 ok5=>q H5 (aW.of (S4.ao ok5.2))) (λH5 ok5=>?_);refine ⟨cJ _,λE fE=>?_⟩;have sE:aD H4 (upd H4 E (.lst [])):=(aD.refl H4).upd fE;exact ⟨P,E,vs,rfl,rfl,sE _ _ eP4,aZ,hR _ _ ⟨rfl,sE⟩⟩;obtain ⟨nv,s5⟩:=ok5;have v1:1<=vs.length:=(by cases vs with| nil=>cases nv| cons _ _=>simp);have eP5:=s5 _ _ eP4;show U4 _ _;subst v7;refine dN λU5 wH=>?_;refine ⟨P,vs,rfl,.inl (aY.of eP5),?_⟩;refine ⟨p,(vs.length:Int),rfl,gJ sS s5,by omega,by omega,λd H6 d0 d1 jq s6=>?_⟩;obtain ⟨k,rfl⟩:=nG d0;have kl:k<vs.length:=(by omega);have hv0:=cT kl;obtain ⟨⟨x,y⟩,hp,t0,et0,e0⟩:=dM pv hv0;obtain okp:=ok _ (dB hp);rw [et0] at hv0;have T6:=aW.aK (gJ sS s5) s6;refine m7 (s6 _ _ npP eP5) (i:=(k:Int)) (v:=.ref t0) (j9 hv0) ?_;refine ⟨t0,_,rfl,aG.of (T6 _ _ (s5 _ _ e0)),rfl,_,_,rfl,_,_,rfl,rfl,?_⟩;have S6:aW p H H6:=(aW.of (S4.ao s5)).ao s6;show U5 [aM p,aM a,aM Dh,o3,o4,o5,o6,aM P,nJ x,nJ y,aX,aX,aX] _;clear pv ok eP4 eP5 hv0 hp et0 e0 s6 s5 T6 sS S4 lv nv v1 kl d0 d1;subst wH;have ne:x≠y:=λe=>(by obtain ⟨h1,m1,h2,m2,n1,n2,ne⟩:=okp;exact ne (MF W.gh.rows m1 m2 n1 (by rw [show x=y from e]; exact n2)));have okb:Zx hs (y,x):=let ⟨h1,m1,h2,m2,n1,n2,ne⟩:=okp; ⟨h2,m2,h1,m1,n2,n1,gQ ne⟩;refine wF λU6 hU6=>?_;refine ⟨p,9,rfl,jq,by decide,by decide,λd H7 d0 d1 pO s7=>?_⟩;have g1:=abE W okp (k:=1+d) (by omega);have g2:=abE W okb (k:=1) (by decide);have T7:=aW.aK pk (S6.ao s7);have S7:=S6.ao s7;refine ⟨by show 4<=aL; omega,λt1 f1=>?_⟩;refine gE f1 λX1 r1 lK=>?_;refine ⟨by show 1<=aL; omega,λt2 f2=>?_⟩;refine gE f2 λX2 r2 ni=>?_;refine ⟨by show 4<=aL; omega,λt3 f3=>?_⟩;refine gE f3 λX3 r3 et3=>?_;refine ⟨by show 1<=aL; omega,λt4 f4=>?_⟩;refine gE f4 λX4 r4 et4=>?_;refine ⟨by show 2<=aL; omega,λt5 f5=>?_⟩;refine gE f5 λX5 r5 et5=>?_;have R5:=r1.ao (r2.ao (r3.ao (r4.ao r5)));have A1:=(r2.ao (r3.ao (r4.ao r5))) _ _ lK;have A2:=(r3.ao (r4.ao r5)) _ _ ni;have A3:=(r4.ao r5) _ _ et3;have A4:=r5 _ _ et4;clear lK ni et3 et4 r1 r2 r3 r4 r5;refine ⟨t5,.ref t2,.ref t4,rfl,aG.of et5,?_⟩;have T5:cN H X5:=T7.ao R5.aK;show U6 [aM p,aM a,aM Dh,o3,o4,o5,o6,aM P,nJ x,nJ y,aM t2,aM t4,aX] _;subst hU6;refine dN λU7 hU7=>?_;refine cL (aG.of (T5 _ _ ha)) (i:=0) (v:=.ref ch) (by rfl) ?_;refine ⟨t2,t4,_,_,rfl,rfl,A2,A4,by show 2<=aL; omega,λc X6 hc s6=>?_⟩;have B1:=s6 _ _ A1;have B3:=s6 _ _ A3;refine ⟨c,[(t1,(x,y)),(t3,(y,x))],rfl,.inr (aG.of hc),λt ht=>?_,?_,by show 2<64; decide,λl ts fl pm pw=>?_⟩;simp only [dF,pL,or_false] at ht;rcases ht with rfl | rfl;exact ⟨[.int (1+d),.non],B1,λv hv=>by simp only [dF,pL,or_false] at hv; rcases hv with rfl | rfl <;> rfl⟩;exact ⟨[.int 1,.non],B3,λv hv=>by simp only [dF,pL,or_false] at hv; rcases hv with rfl | rfl <;> rfl⟩;show [((x,y):Str × Str),(y,x)].Nodup;simp [ne];have ml:=aiJ (k:=1+d) ne pm pw;refine gE fl λX7 s7 el=>?_;refine ⟨l,_,rfl,.inl ⟨aY.of el,λt6 f6=>?_⟩⟩;refine gE f6 λX8 s8 et6=>?_;refine ⟨by show 2<=aL; omega,λt7 f7=>?_⟩;refine gE f7 λX9 s9 et7=>?_;have yU:=s6.ao (s7.ao (s8.ao s9));have T9:cN H X9:=T5.ao yU.aK;have HA:mj X9 (.ref ch) hs:=⟨ch,vh,rfl,T9 _ _ hch,bG (λ_ _ z=>z.ts T9) ph⟩;have due:iI X9 (.ref t7) hs (ts.map (rG x y (1+d))):=(by refine ⟨t7,_,_,rfl,et7,HA,t6,_,rfl,s9 _ _ et6,?_⟩;have C1:=yU _ _ A1;have C3:=yU _ _ A3;have key:∀ t∈ts,jw X9 (.ref t.1) (rG x y (1+d) t):=λt ht=>(by have z:=pm.mem_iff.mp ht;have nn:¬ ((y,x):Str × Str)=(x,y):=λz=>ne (fG iY z);simp only [dF,pL,or_false] at z;rcases z with rfl | rfl;exact ⟨t1,rfl,by unfold rG; rw [bh rfl]; exact C1⟩;exact ⟨t3,rfl,by unfold rG; rw [aV nn]; exact C3⟩);clear pm pw ml el et6 s7 s8 s9 yU fl f6 C1 C3;clear f7 T9 HA et7;induction ts with| nil=>exact .nil| cons t ts ih=>exact .cons (key t dg) (ih λt ht=>key t (dD _ ht)));have SH:aW p H X9:=S7.ao (aW.of (R5.ao yU));have D2:=yU _ _ A2;have D4:=yU _ _ A4;have L1:vJ X9 (.ref t2) [((x,y),1+d,none)]:=⟨t2,_,rfl,D2,.cons ⟨t1,rfl,yU _ _ A1⟩ .nil⟩;have L3:vJ X9 (.ref t4) [((y,x),1,none)]:=⟨t4,_,rfl,D4,.cons ⟨t3,rfl,yU _ _ A3⟩ .nil⟩;show U7 [aM p,aM a,aM Dh,o3,o4,o5,o6,aM P,nJ x,nJ y,aM t2,aM t4,aM t7] _;generalize ts.map (rG x y (1+d))=ns0 at ml due;clear pm pw el et6 et7 s7 s8 s9 s6 hc B1 B3 A1 A2 A3 A4 D2 D4 R5 yU T5 T7;subst hU7;refine cL (aG.of (T9 _ _ ha)) (i:=0) (v:=.ref ch) (by rfl) ?_;refine ⟨by show 2<=aL; omega,λu1 fu1=>?_⟩;have w1:aD X9 (upd X9 u1 (.tup [.ref ch,.ref t2])):=(aD.refl X9).upd fu1;have E1:iI (upd X9 u1 (.tup [.ref ch,.ref t2])) (.ref u1) hs [((x,y),1+d,none)]:=⟨u1,_,_,rfl,aZ,HA.ts w1.aK,L1.ts w1.aK⟩;generalize upd X9 u1 (.tup [.ref ch,.ref t2])=Y1 at w1 E1;refine cL (aG.of (w1 _ _ (T9 _ _ ha))) (i:=0) (v:=.ref ch) (by rfl) ?_;refine ⟨by show 2<=aL; omega,λu2 fu2=>?_⟩;have w2:aD Y1 (upd Y1 u2 (.tup [.ref ch,.ref t4])):=(aD.refl Y1).upd fu2;have W2:=w1.ao w2;have E2:iI (upd Y1 u2 (.tup [.ref ch,.ref t4])) (.ref u2) hs [((y,x),1,none)]:=⟨u2,_,_,rfl,aZ,HA.ts W2.aK,L3.ts W2.aK⟩;generalize upd Y1 u2 (.tup [.ref ch,.ref t4])=Y2 at w2 E2 W2;have G1:zX hs [((x,y),1+d,none)]:=⟨by show 1<=24; decide,λl hl=>by rw [gY.mp hl]; exact g1,Jq _ _⟩;have G2:zX hs [((y,x),1,none)]:=⟨by show 1<=24; decide,λl hl=>by rw [gY.mp hl]; exact g2,Jq _ _⟩;have t12:(bA hs).length<=12:=gw W.ten (by decide);have PR:Pair hs hs [((x,y),1+d,none)] [((y,x),1,none)]:=Fb (SN W.gh G1 t12) (SN W.gh G2 t12) (Kq (U:=[((x,y),1+d,none),((y,x),1,none)]) (λl hl=>by rw [gY.mp hl]; exact dg) (λl hl=>by rw [gY.mp hl]; exact dD _ dg) (by show 2<=25; decide));have n2:ns0.length<=2:=ST.qW (QL ml.rise) (U:=[((x,y),1+d,none),((y,x),1,none)]) λl hl=>((ml.mem l).mp hl).elim (λz=>by rw [gY.mp z]; exact dg) λz=>(by rw [gY.mp z]; exact dD _ dg);have G0:zX hs ns0:=⟨by omega,λl hl=>((ml.mem l).mp hl).elim (G1.all l) (G2.all l),ml.rise⟩;have good:=am0 W.gh G0;have al:uw hs hs=true:=(by unfold uw;refine fX.mpr λh hh=>?_;rw [O9 W.gh.names hh rfl];simp [vH]);have on:pD ([((x,y),1+d,none)]++[((y,x),1,none)])=true:=(by have nn:¬ ((y,x):Str × Str)=(x,y):=λz=>ne (fG iY z);have nn':¬ ((x,y):Str × Str)=(y,x):=λz=>nn z.symm;unfold pD;simp [nn,nn']);refine ⟨_,_,hs,hs,_,_,rfl,E1.ts w2.aK,E2,PR.fd.toJv,PR.fl,(λms ns c=>(PR.fi ms ns c).toAsk),(λz ms ns Y3 cm _ hz s3=>?_),λno=>?_⟩;obtain rfl:=cm.mh.uniq (abD W.gh);obtain rfl:=cm.ml.uniq ml;have g:=aef (PR.fi _ _ cm).toAsk;refine ⟨_,_,PN hz,PN (due.ts (W2.ao s3).aK),JW g,JW g,?_⟩;rw [acU g];exact q Y3 (SH.ao (aW.of (W2.ao s3)));exfalso;rcases no with z | z | ⟨ms,ns,cm,z⟩;rw [al] at z; cases z;rw [on] at z; cases z;obtain rfl:=cm.mh.uniq (abD W.gh);obtain rfl:=cm.ml.uniq ml;rw [good] at z; cases z
theorem Fz:fB ["_law_script","_law_ledger_here","_law_one","_law_k","_law_pack_here","_law_other"] ["_law_script"] (bN Vw):=gA
theorem anY(F:gG K "law" Vw f fd)(T:Txt mg t8 t6 tR tL)(ah5:Cl P w K mg base 11 "_law_ledger" ["_law_script","_law_k"] (Z9 K))(Cy:Cl P w K mg base 11 "_law_pack" ["_law_script","_law_k"] (Ph K))(ad6:Cl P w K mg base 11 "_law_part" ["_law_pack_here","_law_ledger_here"] Wj)(akM:Cl P w K mg base 11 "_law_bent" ["_law_pack_here","_law_ledger_here"] VB)(Hl:Cl P w K mg base 11 "_law_right" ["_law_one","_law_other"] RK)(aiR:Cl P w K mg base 11 "_law_back_right" ["_law_pack_here","_law_ledger_here"] YT)(aku:Cl P w K mg base 11 "_law_great_right" ["_law_pack_here"] VN):bM P w K mg base bR 12 f fd ["_law_script"] (O6 K):=by refine F.ok Fz (λvs H Q E h=>?_) (λcdv A outer s H vs Q E hr h=>?_);obtain ⟨a,ns,rfl,_⟩:=h;rfl;obtain ⟨a,ns,rfl,ha,hl,hb,q⟩:=h;have fW:=dZ;refine ⟨_,(bf (pZ 1 Fz (pC ah5 hr (aq (pV 0) (aq aQ aC)))) (bf (pZ 2 Fz (pC ad6 hr (aq (pC Cy hr (aq (pV 0) (aq aQ aC))) (aq (pV 1) aC)))) (bf (jd je rfl (aaY rfl T.range (aq aQ (aq (cR (aaq rfl) rfl T.max afk (aq aQ (aq (cR (ajA rfl) rfl T.min PyProof.Rows.boot_min (aq (cR jC rfl T.len iM (aq (pV 0) aC)) (aq aQ aC))) aC))) aC))) (pY 3 Fz) (bf (pZ 4 Fz (pC Cy hr (aq (pV 0) (aq (pV 3) aC)))) (bf (pZ 5 Fz (pC akM hr (aq (pV 4) (aq (pC ad6 hr (aq (pV 4) (aq (pV 1) aC))) aC)))) (bC (gD (uo (kZ (jO (pC Hl hr (aq (pV 2) (aq (pV 5) aC))))) (pw_or1 (kZ (jO (pC Hl hr (aq (pV 5) (aq (pV 2) aC))))))) (bC (cO mF)) gC))))) (bC (cO (xG (pC aiR hr (aq (pC Cy hr (aq (pV 0) (aq aQ aC))) (aq (pV 1) aC))) (Ai (pC aku hr (aq (pC Cy hr (aq (pV 0) (aq aQ aC))) aC))))))))),?_⟩;refine dN λU1 pF=>?_;refine ⟨a,ns,0,rfl,ha,hb,hl,by decide,by decide,λx hs ls H1 lat gh gl ten six nme s1=>?_⟩;have W:Dy hs ls:=⟨gh,gl,ten,six⟩;show U1 _ _;subst pF;refine dN λU2 qY=>?_;refine ⟨a,ns,6,rfl,Dk s1 ha,hb,hl,by decide,by decide,λp1 H2 fp1 nC s2=>?_⟩;refine ⟨p1,x,hs,ls,rfl,nC,lat.ts s2.aK,W,λx1 qy ns1 H3 l1 q1 _ s3=>?_⟩;have S13:aD H1 H3:=Bu s2 fp1 s3;have aeY:=lat.ts S13.aK;have ha3:=Dk (s1.ao S13) ha;show U2 [aM a,some x,some x1,aX,aX,aX] _;have L1:=q1.led W;have aau:∀{ks ns},Part hs ls ks ns->ns.length<=6:=λp=>gw (ST.qW (QL p.rise) p.R3) six;have n1:=aau q1;clear S13 s3 s2 s1 nC fp1 lat ha;subst qY;refine wF λU3 tZ=>?_;refine ⟨a,_,rfl,.inl ha3,?_⟩;refine ⟨_,_,rfl,?_⟩;refine ⟨_,_,rfl,?_⟩;refine ⟨_,_,rfl,?_,?_⟩;rw [aU];split <;> split <;> omega;generalize eM:(if (if (12:Int)<_ then (12:Int) else _) > 8 then _ else (8:Int))=M;have m12:M<=12:=(by rw [<- eM]; split <;> split <;> omega);clear eM;refine zA (lo:=7) (n:=(M-7).toNat) (λi aj H'=>∃ o3 o4 o5,aj=[aM a,some x,some x1,o3,o4,o5]/\aD H3 H') ⟨none,none,none,rfl,aD.refl _⟩ (λi aj H4 hi hz=>?_) (fun aj H4 hz=>?_);obtain ⟨o3,o4,o5,rfl,S4⟩:=hz;refine dN λU4 v7=>?_;refine ⟨a,ns,7+(i:Int),rfl,Dk S4 ha3,hb,hl,by omega,by omega,λp H5 fp pk s5=>?_⟩;show U4 [aM a,some x,some x1,bU (7+(i:Int)),aM p,o5] _;subst v7;refine dN λU5 wH=>?_;have S5:=S4.ao s5;refine ⟨p,x,hs,ls,rfl,pk,aeY.ts S5.aK,W,λx2 yW ns2 H6 l2 q2 jq s6=>?_⟩;refine ⟨p,x2,yW,ns2,rfl,jq,l2,q2.led W,λk hk=>?_,λx3 ks3 ns3 H7 l3 L3 n3 pO s7=>?_⟩;obtain ⟨h,hh,e⟩:=q2.sub k hk;rw [e.name]; exact nme h hh;have n2:=aau q2;have S7:aD H3 H7:=S4.ao (Bu s5 fp (s6.ao s7));show U5 [aM a,some x,some x1,bU (7+(i:Int)),aM p,some x3] _;subst wH;refine ⟨x1,x3,qy,ks3,ns1,ns3,rfl,l1.ts S7.aK,l3,Fb L1 L3 (Kq (U:=ns1++ns3) (λl=>yr _) (λl=>jH _) (by rw [cQ]; omega)),λH8 s8=>?_⟩;refine ⟨x3,x1,ks3,qy,ns3,ns1,rfl,l3.ts s8.aK,l1.ts (S7.ao s8).aK,Fb L3 L1 (Kq (U:=ns1++ns3) (λl=>jH _) (λl=>yr _) (by rw [cQ]; omega)),λH9 s9=>?_⟩;exact ⟨_,_,_,rfl,S7.ao (s8.ao s9)⟩;obtain ⟨o3,o4,o5,rfl,S4⟩:=hz;show U3 _ _;subst tZ;refine ⟨a,ns,13,rfl,Dk S4 ha3,hb,hl,by decide,by decide,λp H5 fp pk s5=>?_⟩;refine ⟨p,x,hs,ls,rfl,pk,aeY.ts (S4.ao s5).aK,W,λH6 s6=>?_⟩;have S6:=S4.ao (Bu s5 fp s6);refine ⟨a,ns,12,rfl,Dk S6 ha3,hb,hl,by decide,by decide,λp2 H7 _ pk2 s7=>?_⟩;exact ⟨p2,rfl,pk2,λH8 _=>q H8⟩
theorem aeD:∀{xs:List aax}{x:aax},x∈xs->Zt x<=ae4 xs
 | y :: xs,x,h=>by unfold ae4;rcases dF.mp h with z | z;rw [z]; omega;have:=aeD z; omega
theorem aji{ns:List Int}(h:PySem.W.WData.layableAll [PySem.W.WData.list (ns.map aem)]=true):∀ n∈ns,Mw n:=λn hn=>by
 have h1:=fX.mp h _ dg;unfold PySem.W.WData.layable at h1;have h2:=iH (pU.mp h1).2;unfold Zt at h2;have h3:=aeD (iz (f:=aem) hn);unfold Zt at h3;have e:(2:Nat) ^ 20=1048576:=by decide
 rw [e] at h2;exact gw h3 h2
variable{l:amG}{loose:List Str}{XP:(Str->Option aB)->bD->Prop}{YP:cU->bD->Prop}
theorem amc{n k:Nat}{q:dX}{d:DefRec}{K:Params->cH}{CX:cU->zF}{sp:cU->Sp}(hn:l.most=some n)(hn2:n<=aL)(hdf:d.params.defaults=[])(hr:jU k callerA)(hY:∀(w:cU)(h:bD),YP w h->(K w.params).In h)(F:∀(w:cU)(mg:Str->Option aB)(fa:au)(h:bD),(K w.params).In h->h.Ns qT mg->mg d.name=some (.ref fa) -> ∃ fd:oA,(∀(s:aH)(u:aB),FJ s fd ⟨[u],[]⟩ [(x,u)])/\∀ base:bD,(K w.params).In base->base.Ns qT mg->bM l.prog w (K w.params) mg base (CX w) k fa fd [x] (sp w))(hsp:∀(w:cU)(H:Hp)(a:au)(ns:List Int),ns.length<=n->(∀ m∈ns,Mw m)->Only H->aY (K w.params) H a (ns.map V.int)->sp w [.ref a] H (λv _=>v=.bl true) λ_ _ _=>False)(hCX:∀(w:cU)(H:Hp)(s:aH)(e:aB)(s':aH),CX w [] H s (λ_ _ _=>False) e s'->False):PySem.W.WalkO q loose XP YP l.row.toRowW d [] (λf vs=>PySem.call f vs):=by intro w s₀ s₁ mg mb G Y fa o pm cd doc dV kV ho hd hcd hD hmg hg args vals as hpre hlay hrd hwl hlo;obtain rfl:dV=.none:=PySem.W.Dflts.none hD hdf;obtain rfl:kV=.none:=PySem.W.Dflts.noKw hD;obtain ⟨a,vs,ns,rfl,rfl,hobj,hints,hlen⟩:=Att.alv hn hpre hwl;have KX:=hY w _ Y;obtain ⟨fd,hb,hF⟩:=F w mg fa _ KX G.T.g hmg;have key:=aom KX G.T.g G.T.b G.T.builtins G.T.nolimit hg hobj hints (gw hlen hn2) hr hF hb (λH hO hS=>hsp w H a ns hlen (aji hlay) hO hS) λH e s'=>hCX w H s₁ e s';refine PySem.W.enter_call (uD key λr s' hq=>?_);obtain ⟨rfl,h2,h3,h4⟩:=hq;exact ⟨.inl ⟨.bool true,.bool true,[],rfl,λ_=>rfl,.bool true,Att.apz l _,λ_=>⟨JH,λ_ hm=>(nomatch hm)⟩⟩,h2,h3,h4⟩
theorem akF(x1:Bl K (.ref C) "__getattribute__" = some (some (.builtin "BaseException.__getattribute__")))(x6:Bl K (.ref C) "__getattr__" = some none)(x7:Bl K (.ref C) "__class__" = some (some (.builtin "object.__class__")))(x8:PL K C (.type "object")=some true)(x9:Ox K (.ref C) (.type "BaseException")=some true):vI K C=true:=by have x:(PySem.W.clsIn K C).isSome=true:=(by unfold PL at x8;cases e:PySem.W.clsIn K C with| some c=>rfl| none=>rw [e] at x8; cases x8);unfold vI;rw [x1,x6,x7,x8,x9,x]; rfl
theorem air{a b:aB}(x3:Ox K b (.type "BaseException")=some true)(x10:(a == b)=false)(x4:kh K a b=some true):MN K a b=some true:=by unfold kh at x4;rw [aV (by rw [x10]; exact gO)] at x4;unfold MN;rw [x3,bh (by rfl)]; exact x4
def Gz(K:cH)(x:Str)(v:Option aB):Prop:=PySem.W.nsIn K qT x=some v
structure FA(K:cH)(x:Str)(st:cD)(f:au)(d:oA):Prop where
 a:Gz K x (some (.ref f))
 F:tG K x x st f d
variable{h:bD}
theorem jo{v:aB}(X:K.In h)(G:h.Ns qT mg)(z:Gz K x (some v)):mg x=some v:=PySem.W.mg_of X G z
variable{ps:List Str}
theorem cF{k:Nat}{st:cD}{d:oA}(X:K.In h)(G:h.Ns qT mg)(F:FA K x st f d)(b:dw K d ps [])(a:bM P w K mg base bR k f d ps sp):Cl P w K mg base k x ps sp:=clM a (jo X G F.a) F.F.kp b
theorem nQ(X:K.In h)(G:h.Ns qT mg)(z:Gz K x none):mg x=none:=PySem.W.mg_none_of X G z
theorem kA{t c:aB}{r:List aB}(h:kh K t c=some false)(h2:Ku K t r=some false):Ku K t (c :: r)=some false:=by unfold Ku; rw [h]; exact h2
variable{q:Str}
theorem B1{st:cD}(F:tG K x q st f fd)(l:ps.length=1:=by rfl)(h:∀(kV doc pm:aB)(an:Option au)(cdv ct u0:aB),bindArgs (xP x q (Bh st) (yC st) (bN st) .none kV doc pm an cdv ct) ⟨[u0],[]⟩=pure (ps.zip [u0]):=by intros; rfl):dw K fd ps []:=F.binds λ_ _ _ _ _ _ us hl=>match us,hl.ao l with | [_],_=>h _ _ _ _ _ _ _
theorem B2{st:cD}(F:tG K x q st f fd)(l:ps.length=2:=by rfl)(h:∀(kV doc pm:aB)(an:Option au)(cdv ct u0 u1:aB),bindArgs (xP x q (Bh st) (yC st) (bN st) .none kV doc pm an cdv ct) ⟨[u0,u1],[]⟩=pure (ps.zip [u0,u1]):=by intros; rfl):dw K fd ps []:=F.binds λ_ _ _ _ _ _ us hl=>match us,hl.ao l with | [_,_],_=>h _ _ _ _ _ _ _ _
theorem B3{st:cD}(F:tG K x q st f fd)(l:ps.length=3:=by rfl)(h:∀(kV doc pm:aB)(an:Option au)(cdv ct u0 u1 u2:aB),bindArgs (xP x q (Bh st) (yC st) (bN st) .none kV doc pm an cdv ct) ⟨[u0,u1,u2],[]⟩=pure (ps.zip [u0,u1,u2]):=by intros; rfl):dw K fd ps []:=F.binds λ_ _ _ _ _ _ us hl=>match us,hl.ao l with | [_,_,_],_=>h _ _ _ _ _ _ _ _ _
theorem B4{st:cD}(F:tG K x q st f fd)(l:ps.length=4:=by rfl)(h:∀(kV doc pm:aB)(an:Option au)(cdv ct u0 u1 u2 u3:aB),bindArgs (xP x q (Bh st) (yC st) (bN st) .none kV doc pm an cdv ct) ⟨[u0,u1,u2,u3],[]⟩=pure (ps.zip [u0,u1,u2,u3]):=by intros; rfl):dw K fd ps []:=F.binds λ_ _ _ _ _ _ us hl=>match us,hl.ao l with | [_,_,_,_],_=>h _ _ _ _ _ _ _ _ _ _
theorem all_mk{f1 f2 f4 f8:au}(X:K.In h)(G:h.Ns qT mg)(hfa:mg "law" = some (.ref fa))(pS:Gz K "SkewError" (some (.ref cS)))(p0:Gz K "NoBound" (some (.ref e0)))(p1:Gz K "NoPlacing" (some (.ref e1)))(p2:Gz K "NoRow" (some (.ref e2)))(p3:Gz K "NoWord" (some (.ref e3)))(p4:Gz K "TooMany" (some (.ref e4)))(p5:Gz K "NoNumber" (some (.ref e5)))(p6:Gz K "NoOrder" (some (.ref e6)))(p7:Gz K "NoHouse" (some (.ref e7)))(p8:Gz K "NoRun" (some (.ref e8)))(p9:Gz K "NoReading" (some (.ref e9)))(p10:Gz K "NoLetter" (some (.ref e10)))(p11:Gz K "NoMerge" (some (.ref iV)))(p12:Gz K "NoText" (some (.ref e12)))(p13:Gz K "NoCall" (some (.ref e13)))(p14:Gz K "NoKept" (some (.ref e14)))(F1:FA K "is_whole" Wq f1 d1)(F2:FA K "is_name" RD f2 d2)(F3:FA K "has_parts" WW f3 d3)(F4:FA K "is_rising" Pz f4 d4)(F5:FA K "is_named_number" Xm f5 d5)(F6:FA K "is_clock" Qu f6 d6)(F7:FA K "is_run" Jw f7 d7)(F8:FA K "is_house" Rq f8 d8)(F9:FA K "rows_in" Oe f9 d9)(F10:FA K "row_names" Qy f10 d10)(F11:FA K "are_unlike" WM f11 d11)(F12:FA K "are_houses" JC f12 d12)(F13:FA K "is_letter" VD f13 d13)(F14:FA K "are_letters" Fq f14 d14)(F15:FA K "is_ledger" Ti f15 d15)(F16:FA K "house_names" Ov f16 d16)(F17:FA K "merged_run" Jg f17 d17)(F18:FA K "merged_runs" Ri f18 d18)(F19:FA K "merged_house" Yw f19 d19)(F20:FA K "merged_houses" Hf f20 d20)(F21:FA K "merged_letters" Qf f21 d21)(F22:FA K "merged" Uv f22 d22)(F23:FA K "_law_mixed" Vk f23 d23)(F24:FA K "_law_pack" Zq f24 d24)(F25:FA K "_law_take" XH f25 d25)(F26:FA K "_law_names" Gb f26 d26)(F27:FA K "_law_house" Yc f27 d27)(F28:FA K "_law_letters" Ry f28 d28)(F29:FA K "_law_ledger" Y5 f29 d29)(F30:FA K "_law_part" Mf f30 d30)(F31:FA K "_law_by_reading" K3 f31 d31)(F32:FA K "_law_due" Mt f32 d32)(F33:FA K "_law_names_in" Rg f33 d33)(F34:FA K "_law_bent" HX f34 d34)(F35:FA K "_law_is_ledger" Ia f35 d35)(F36:FA K "_law_can" WQ f36 d36)(F37:FA K "_law_seen" Vv f37 d37)(F38:FA K "_law_right" Xn f38 d38)(F39:FA K "_law_houses" Qz f39 d39)(F40:FA K "_law_great_right" Sv f40 d40)(F41:FA K "_law_back_right" Qo f41 d41)(F42:FA K "law" Vw f42 d42)(y1:Gz K "LONGEST_NAME" (some (.int 8 t8)))(y2:Gz K "MOST_HOUSES" (some (.int 6 t6)))(y3:Gz K "MOST_ROWS" (some (.int 24 tR)))(y4:Gz K "MOST_LETTERS" (some (.int 24 tL)))(z1:Gz K "isinstance" none)(z2:Gz K "int" none)(z3:Gz K "bool" none)(z4:Gz K "str" none)(z5:Gz K "tuple" none)(z6:Gz K "len" none)(z7:Gz K "all" none)(z8:Gz K "zip" none)(z9:Gz K "set" none)(z10:Gz K "sorted" none)(z11:Gz K "divmod" none)(z12:Gz K "range" none)(z13:Gz K "max" none)(z14:Gz K "min" none)(z15:Gz K "abs" none)(z16:Gz K "list" none)(z17:Gz K "dict" none)(z18:Gz K "any" none)(zV:Gz K "ValueError" none)(x3:Ox K (.ref cS) (.type "BaseException")=some true)(u1:Bl K (.ref iV) "__getattribute__" = some (some (.builtin "BaseException.__getattribute__")))(u2:Bl K (.ref iV) "__getattr__" = some none)(u3:Bl K (.ref iV) "__class__" = some (some (.builtin "object.__class__")))(u4:PL K iV (.type "object")=some true)(u5:Ox K (.ref iV) (.type "BaseException")=some true)(u6:(bI iV == bI cS)=false)(u7:kh K (.ref iV) (.ref cS)=some true)(u8:kh K (.ref iV) (.type "ValueError")=some true)(q0:kh K (.ref iV) (.ref e0)=some false)(q1:kh K (.ref iV) (.ref e1)=some false)(q2:kh K (.ref iV) (.ref e2)=some false)(q3:kh K (.ref iV) (.ref e3)=some false)(q4:kh K (.ref iV) (.ref e4)=some false)(q5:kh K (.ref iV) (.ref e5)=some false)(q6:kh K (.ref iV) (.ref e6)=some false)(q7:kh K (.ref iV) (.ref e7)=some false)(q8:kh K (.ref iV) (.ref e8)=some false)(q9:kh K (.ref iV) (.ref e9)=some false)(q10:kh K (.ref iV) (.ref e10)=some false)(q11:kh K (.ref iV) (.ref iV)=some true)(q12:kh K (.ref iV) (.ref e12)=some false)(q13:kh K (.ref iV) (.ref e13)=some false)(q14:kh K (.ref iV) (.ref e14)=some false)(u9:Dg K iV [.type "ValueError",.type "Exception",.type "BaseException",.type "object"] "ValueError.__new__" = true): ∃ fd:oA,(∀(s:aH)(v:aB),FJ s fd ⟨[v],[]⟩ [("_law_script",v)])/\∀ base:bD,K.In base->base.Ns qT mg->bM l.prog w K mg base bR 12 fa fd ["_law_script"] (O6 K):=by have e:=hfa.symm.ao (jo X G F42.a);cases e;have T:Txt mg t8 t6 tR tL:=⟨nQ X G z1,nQ X G z2,nQ X G z3,nQ X G z4,nQ X G z5,nQ X G z6,nQ X G z7,nQ X G z8,nQ X G z9,nQ X G z10,nQ X G z11,nQ X G z12,nQ X G z13,nQ X G z14,nQ X G z15,nQ X G z16,nQ X G z17,nQ X G z18,jo X G y1,jo X G y2,jo X G y3,jo X G y4⟩;have C:afA K mg cS iV e0 e13 e7 e14 e10 e5 e6 e1 e9 e2 e8 e12 e3 e4:=⟨akF u1 u2 u3 u4 u5,jo X G pS,jo X G p11,nQ X G zV,air x3 u6 u7,q11,u8,jo X G p0,jo X G p13,jo X G p7,jo X G p14,jo X G p10,jo X G p5,jo X G p6,jo X G p1,jo X G p9,jo X G p2,jo X G p8,jo X G p12,jo X G p3,jo X G p4,(kA q0 (kA q13 (kA q7 (kA q14 (kA q10 (kA q5 (kA q6 (kA q1 (kA q9 (rfl)))))))))),(kA q2 (kA q8 (kA q12 (kA q3 (kA q4 (rfl))))))⟩;have b1:dw K d1 ["thing"] []:=B1 F1.F;have b2:dw K d2 ["thing"] []:=B1 F2.F;have b3:dw K d3 ["thing","many"] []:=B2 F3.F;have b4:dw K d4 ["values"] []:=B1 F4.F;have b5:dw K d5 ["thing"] []:=B1 F5.F;have b6:dw K d6 ["name","low","high","drift"] []:=B4 F6.F;have b7:dw K d7 ["thing"] []:=B1 F7.F;have b8:dw K d8 ["thing"] []:=B1 F8.F;have b9:dw K d9 ["house"] []:=B1 F9.F;have b10:dw K d10 ["houses"] []:=B1 F10.F;have b11:dw K d11 ["names"] []:=B1 F11.F;have b12:dw K d12 ["thing"] []:=B1 F12.F;have b13:dw K d13 ["thing"] []:=B1 F13.F;have b14:dw K d14 ["thing","houses"] []:=B2 F14.F;have b15:dw K d15 ["thing"] []:=B1 F15.F;have b16:dw K d16 ["ledger"] []:=B1 F16.F;have b17:dw K d17 ["one","other"] []:=B2 F17.F;have b18:dw K d18 ["one","other"] []:=B2 F18.F;have b19:dw K d19 ["one","other"] []:=B2 F19.F;have b20:dw K d20 ["one","other"] []:=B2 F20.F;have b21:dw K d21 ["one","other"] []:=B2 F21.F;have b22:dw K d22 ["one","other"] []:=B2 F22.F;have b23:dw K d23 ["_law_cell"] []:=B1 F23.F;have b24:dw K d24 ["_law_script","_law_k"] []:=B2 F24.F;have b25:dw K d25 ["_law_pack_here","_law_size"] []:=B2 F25.F;have b26:dw K d26 ["_law_pack_here","_law_amount"] []:=B2 F26.F;have b27:dw K d27 ["_law_pack_here","_law_name","_law_names_here","_law_room"] []:=B4 F27.F;have b28:dw K d28 ["_law_pack_here","_law_houses_here","_law_hidden"] []:=B3 F28.F;have b29:dw K d29 ["_law_script","_law_k"] []:=B2 F29.F;have b30:dw K d30 ["_law_pack_here","_law_ledger_here"] []:=B2 F30.F;have b31:dw K d31 ["_law_run"] []:=B1 F31.F;have b32:dw K d32 ["_law_one","_law_other"] []:=B2 F32.F;have b33:dw K d33 ["_law_runs","_law_houses_here","_law_at"] []:=B3 F33.F;have b34:dw K d34 ["_law_pack_here","_law_ledger_here"] []:=B2 F34.F;have b35:dw K d35 ["_law_houses_here","_law_letters_here"] []:=B2 F35.F;have b36:dw K d36 ["_law_one","_law_other"] []:=B2 F36.F;have b37:dw K d37 ["_law_one","_law_other"] []:=B2 F37.F;have b38:dw K d38 ["_law_one","_law_other"] []:=B2 F38.F;have b39:dw K d39 ["_law_names_here","_law_begin","_law_amount"] []:=B3 F39.F;have b40:dw K d40 ["_law_pack_here"] []:=B1 F40.F;have b41:dw K d41 ["_law_pack_here","_law_ledger_here"] []:=B2 F41.F;have b42:dw K d42 ["_law_script"] []:=B1 F42.F;refine ⟨d42,λs v=>?_,λbase _ _=>?_⟩;obtain ⟨_,_,_,_,_,_,_,_,_,rfl,_⟩:=F42.F.ex;exact .of_eq rfl;have G1:bM l.prog w K mg base bR 1 f1 _ ["thing"] Ld:=aiF F1.F T;have G2:bM l.prog w K mg base bR 1 f2 _ ["thing"] Js:=aoM F2.F T;have G3:bM l.prog w K mg base bR 1 f3 _ ["thing","many"] EY:=agS F3.F T;have G4:bM l.prog w K mg base bR 1 f4 _ ["values"] QF:=aiV F4.F T;have G5:bM l.prog w K mg base bR 2 f5 _ ["thing"] Ul:=ao0 F5.F (cF X G F3 b3 G3) (cF X G F2 b2 G2) (cF X G F1 b1 G1);have G6:bM l.prog w K mg base bR 2 f6 _ ["name","low","high","drift"] Vz:=an1 F6.F T (cF X G F2 b2 G2) (cF X G F1 b1 G1);have G7:bM l.prog w K mg base bR 3 f7 _ ["thing"] Uz:=alE F7.F T (cF X G F5 b5 G5) (cF X G F4 b4 (G4.mono (by decide)));have G8:bM l.prog w K mg base bR 4 f8 _ ["thing"] Zi:=alY F8.F T (cF X G F3 b3 (G3.mono (by decide))) (cF X G F6 b6 (G6.mono (by decide))) (cF X G F7 b7 G7);have G9:bM l.prog w K mg base bR 1 f9 _ ["house"] Og:=ajR F9.F;have G10:bM l.prog w K mg base bR 2 f10 _ ["houses"] Wc:=apu F10.F (cF X G F9 b9 G9);have G11:bM l.prog w K mg base bR 1 f11 _ ["names"] Uh:=alM F11.F T;have G12:bM l.prog w K mg base bR 5 f12 _ ["thing"] V6:=amD F12.F T (cF X G F8 b8 G8) (cF X G F10 b10 (G10.mono (by decide))) (cF X G F11 b11 (G11.mono (by decide)));have G13:bM l.prog w K mg base bR 2 f13 _ ["thing"] Xh:=ag4 F13.F (cF X G F3 b3 G3) (cF X G F2 b2 G2) (cF X G F1 b1 G1);have G14:bM l.prog w K mg base bR 3 f14 _ ["thing","houses"] Z6:=alg F14.F T (cF X G F13 b13 G13) (cF X G F9 b9 (G9.mono (by decide))) (cF X G F4 b4 (G4.mono (by decide)));have G15:bM l.prog w K mg base bR 6 f15 _ ["thing"] Y4:=an5 F15.F (cF X G F3 b3 (G3.mono (by decide))) (cF X G F12 b12 G12) (cF X G F14 b14 (G14.mono (by decide)));have G16:bM l.prog w K mg base bR 1 f16 _ ["ledger"] VJ:=aoG F16.F T;have G17:bM l.prog w K mg base bR 1 f17 _ ["one","other"] Ye:=amT F17.F T;have G18:bM l.prog w K mg base bR 2 f18 _ ["one","other"] ZC:=ag9 F18.F T (cF X G F17 b17 G17);have G19:bM l.prog w K mg base (j7 l.prog w) 3 f19 _ ["one","other"] (Vh iV):=aiz F19.F u9 (jo X G p11) (cF X G F18 b18 G18);have G20:bM l.prog w K mg base (j7 l.prog w) 4 f20 _ ["one","other"] (Uj iV):=an3 F20.F T G19 (jo X G (F19.a)) F19.F.kp b19 (cF X G F16 b16 (G16.mono (by decide)));have G21:bM l.prog w K mg base (j7 l.prog w) 1 f21 _ ["one","other"] (YW iV):=anv F21.F u9 (jo X G p11) T;have G22:bM l.prog w K mg base (j7 l.prog w) 7 f22 _ ["one","other"] (Wi iV):=am2 F22.F u9 (jo X G p11) (G20.mono (by decide)) (jo X G (F20.a)) F20.F.kp b20 (G21.mono (by decide)) (jo X G (F21.a)) F21.F.kp b21 (cF X G F15 b15 G15);have G23:bM l.prog w K mg base bR 1 f23 _ ["_law_cell"] R7:=aoY F23.F;have G24:bM l.prog w K mg base bR 2 f24 _ ["_law_script","_law_k"] (Ph K):=akR F24.F T (cF X G F23 b23 G23);have G25:bM l.prog w K mg base bR 1 f25 _ ["_law_pack_here","_law_size"] yP:=ag1 F25.F T;have G26:bM l.prog w K mg base bR 2 f26 _ ["_law_pack_here","_law_amount"] Wk:=agA F26.F T (cF X G F25 b25 G25);have G27:bM l.prog w K mg base bR 2 f27 _ ["_law_pack_here","_law_name","_law_names_here","_law_room"] Vr:=amL F27.F T (cF X G F25 b25 G25);have G28:bM l.prog w K mg base bR 2 f28 _ ["_law_pack_here","_law_houses_here","_law_hidden"] RQ:=apD F28.F T (cF X G F25 b25 G25);have G29:bM l.prog w K mg base bR 3 f29 _ ["_law_script","_law_k"] (Z9 K):=ajO F29.F T (cF X G F24 b24 G24) (cF X G F26 b26 G26) (cF X G F25 b25 (G25.mono (by decide))) (cF X G F27 b27 G27) (cF X G F28 b28 G28);have G30:bM l.prog w K mg base bR 2 f30 _ ["_law_pack_here","_law_ledger_here"] Wj:=akP F30.F T (cF X G F25 b25 G25);have G31:bM l.prog w K mg base bR 1 f31 _ ["_law_run"] TV:=akd F31.F T;have G32:bM l.prog w K mg base bR 2 f32 _ ["_law_one","_law_other"] N6:=akD F32.F T (cF X G F31 b31 G31);have G33:bM l.prog w K mg base bR 1 f33 _ ["_law_runs","_law_houses_here","_law_at"] Vg:=akY F33.F T;have G34:bM l.prog w K mg base bR 2 f34 _ ["_law_pack_here","_law_ledger_here"] VB:=apk F34.F T (cF X G F25 b25 G25) (cF X G F33 b33 G33);have G35:bM l.prog w K mg base bR 1 f35 _ ["_law_houses_here","_law_letters_here"] Tz:=amP F35.F T;have G36:bM l.prog w K mg base bR 4 f36 _ ["_law_one","_law_other"] RZ:=ahi F36.F (cF X G F32 b32 (G32.mono (by decide))) (cF X G F35 b35 (G35.mono (by decide)));have G37:bM l.prog w K mg base bR 9 f37 _ ["_law_one","_law_other"] Nf:=aps F37.F T C (G22.mono (by decide)) (jo X G (F22.a)) F22.F.kp b22;have G38:bM l.prog w K mg base bR 10 f38 _ ["_law_one","_law_other"] RK:=ajz F38.F (cF X G F37 b37 G37) (cF X G F36 b36 (G36.mono (by decide))) (cF X G F32 b32 (G32.mono (by decide)));have G39:bM l.prog w K mg base bR 1 f39 _ ["_law_names_here","_law_begin","_law_amount"] Wz:=anZ F39.F T;have G40:bM l.prog w K mg base bR 11 f40 _ ["_law_pack_here"] VN:=anD F40.F T (cF X G F25 b25 (G25.mono (by decide))) (cF X G F39 b39 (G39.mono (by decide))) (cF X G F38 b38 G38);have G41:bM l.prog w K mg base bR 10 f41 _ ["_law_pack_here","_law_ledger_here"] YT:=anT F41.F T (cF X G F25 b25 (G25.mono (by decide))) (cF X G F37 b37 G37);exact anY F42.F T (cF X G F29 b29 (G29.mono (by decide))) (cF X G F24 b24 (G24.mono (by decide))) (cF X G F30 b30 (G30.mono (by decide))) (cF X G F34 b34 (G34.mono (by decide))) (cF X G F38 b38 (G38.mono (by decide))) (cF X G F41 b41 (G41.mono (by decide))) (cF X G F40 b40 G40)
theorem walk{q:dX}{d:DefRec}{K:Params->cH}(hn:l.most=some 63)(hdf:d.params.defaults=[])(hY:∀(w:cU)(h:bD),YP w h->(K w.params).In h)(F:∀(w:cU)(mg:Str->Option aB)(fa:au)(h:bD),(K w.params).In h->h.Ns qT mg->mg d.name=some (.ref fa) ->
     ∃ fd:oA,(∀(s:aH)(u:aB),FJ s fd ⟨[u],[]⟩ [("_law_script",u)])/\∀ base:bD,(K w.params).In base->base.Ns qT mg->bM l.prog w (K w.params) mg base bR 12 fa fd ["_law_script"] (O6 (K w.params))):
   PySem.W.WalkO q loose XP YP l.row.toRowW d [] (λf vs=>PySem.call f vs) :=
 amc (n:=63) (k:=12) (x:="_law_script") (CX:=λ_=>bR) (sp:=λw=>O6 (K w.params)) hn (by decide) hdf ⟨rfl,by decide,by decide⟩ hY F (λ_ _ a ns hl hb _ hS=>⟨a,ns,rfl,hS,hl,hb,λ_=>rfl⟩) λ_ _ _ _ _ z=>z
end K45
inductive PySem.W.Fast:Prop|tw14876020114254658806|tw4339468177409638587|tw3897121799596606111|tw7427624171063796731|tw10247232697852249110|tw2123659703138975306|tw12963218522704098399|tw18201360599761492458|tw5457455476203579845|tw16483113202922597774|tw2779956693407384464|tw6883133442879593709|tw14390498467487127867|tw3062243332585592978|tw10017685015522316819|tw14300119379238430630|tw4978642250403505949|tw14226691467077360871|tw11008990753193853222|tw9499796490307965259|tw1230213391901352073|tw17121487871214022558|tw12576380568803037470|tw9453314837596428606|tw1524799680695539726|tw12038931173830124251|tw3744510099591066317|tw6678027682436536798|tw11879314971360520214|tw225640787195681307|tw15294186176226233308|tw11084060767873441022|tw10152064784199561253|tw16621262578358704480|tw11507716589597798656|tw13048689079669709596|tw12559849559571045313|tw8715686908212448353|tw4431828100688440025|tw17138737387186579240|tw5409877621134377024|tw8085479156581968714|tw2291996785842785358|tw16036326243115363200|tw6001870218425135237|tw14333969136029266747|tw11917228306567949867|tw10535633192539399019|tw13944582543012471272|tw8557508677176826175|tw6536153463123599905|tw17261497824953907012|tw15001547749055904608|tw14856199688853101481|tw3944234815070364845|tw5899695255645883057|tw12841702474443302511|tw12512971845892233510|tw8483236428328018107|tw10273155197113167526|tw11872753482969100078|tw7018368369510945089|tw2479515422788944759|tw8393750528888327380|tw3499884046137044355|tw3786514292188016914|tw15684431863303122841|tw432913286484983012|tw15753003754804482804|tw766539781381448772|tw11847007766818938448|tw11125707712971512232|tw2800497503181695398|tw5705206567724425239|tw6490769148929578002|tw1775078547147259540|tw18436387816204671347|tw17791146890603973314|tw602590241851869346|tw8314750903962507269|tw15563058595658620453|tw10157654660091453926|tw9635935648359444858|tw12877758851958088510|tw14800713893532925383|tw12084287213708140539|tw235832944049933924|tw12352215961409471950|tw14838995401264125017|tw9971752054248795603|tw10434047201418707242|tw7661881114796446546|tw10487964737871093384|tw8016972252406409253|tw17752159836317794529|tw11379905544038733313|tw18425754801087928789|tw13141598512302642071|tw10975447277680434055|tw15831053217269894345|tw5713092193325178424|tw11202438837124950903|tw6866095050847889054|tw17409536227442257212|tw11570060465188977080|tw17749628445141296530|tw9903415476504168335|tw4607232783829855115|tw15647718481916880183|tw440699148501136316|tw2909832687568912758|tw15409892647560162598|tw13883767136863864840|tw17054882132887065058|tw10119238184012918816|tw11013956075243325956|tw4207369531294748713|tw10063895352979131506|tw17461457660354716182|tw7550094253509087510
open PySem PySem.W PyProof.Rows
set_option maxRecDepth 100000 in
set_option maxHeartbeats 0 in
theorem PySem.Challenge.cw_skewbooks_k45_what_is_not_merged_holds : PySem.Challenge.rw_skewbooks_k45_what_is_not_merged.Holds := by
 w_on; o_law; k_head; (case hw=>w_witness2)
 k_fill
 refine K45.walk (l:=PySem.Challenge.rw_skewbooks_k45_what_is_not_merged) rfl rfl (λw h Y=>PySem.W.kIn_of Y) ?F
 case F =>
   intro w mg fa h KX G hmg;apply K45.all_mk KX G hmg
   all_goals first | (unfold K45.Gz; k_is) | (apply K45.FA.mk; unfold K45.Gz; k_is; apply L2.RN <;> k_is) | k_is | kit_is | k_exc | (apply L2.RN <;> k_is) | (dsimp only; rfl) | rfl
