import PyProof.Rows.All
import Wide.All
import OpenK.AllK
import Wide.FinOn
import Lean
import PyProof.EqAt
import PyProof.EqKinds
import PyProof.TupleCall
import PySem.Challenge.RW_skewbooks_k44_ledgers_merged
import PyProof.P3In
import PyProof.Rows.All
set_option Elab.async false
set_option linter.all false
set_option maxRecDepth 100000
open PySem renaming wpAny_bind->Fi,wpAny_pure->aar,Shared->aat,Value->aau,Addr->abm,Program->acs,Paired->acN,sizeLine_eq->acO,wpAny_newObj_type->adC,World->adH,wpAny_call_entry->adP,wpAny_holding->adQ,boot_len->ad4,FuncData->aeF,wpAny_callSpecial?_slot->aeL,Around->aeN,wpAny_mono->ae5,Heap->ae9,codeAny_builtin->afo,wpAny_seqItems->afs,wpAny_truthy_bool->aft,mem_of_lookup->afB,wpAny_setState_of->afH,wpAny_field->afL,wpAny_standAt->agh,wpAny_setField->agj,IsTupleKey->agy,wpAny_typeNameOfWhole_keyiter->agA,Builtin->agM,codeAny_mono->agN,wpAny_ite_split->ag4,tupleKind_room_in1->ahy,plainId_quiet->ahz,builtinLookup_eq_fast->ahA,wpAny_typeNameOf_keyiter->aic,SetTable->aiH,wpAny_setField_rec->aiJ,wpAny_typeOf->aiM,wpAny_rule->aiY,PyData->ai6,wpAny_isInstance->amn,wpAny_specialOf->amv,wpAny_pyIter_tuple->amw,wpAny_passesOwn->amx,NameKind->amy,codeAny_of_tree->amC,wpAny_newList->amD,wpAny_attempt->amE,typeLookup_type->amI,wpAny_pyIter_list->amQ,wpAny_noted->amT,wpAny_dictEntries->amV,isSubtype_type->amZ,IsPair->am7,wpAny_notOrdered_dict->am8,Stmt->ane,wpAny_askSetting->ang,wpAny_pyIter_zip->anh,wpAny_forIn_list->anj,wpAny_updateSeq_pair->ank,wpAny_of_eq->anB,wpAny_loadPart'->anD,wpAny_setEntries_of->anG,wpAny_Call_Name_kw->anS,wpAny_letOwnedTupleGo_zip->aoc,wpAny_fieldsOf->aog,isSubtype_stop->aoh,wpAny_assign_Name->aom,wpAny_getItem_list_slice->aoo,wpAny_Call_method->aoq,DictEntry->aor,wpAny_comprehension_free->aot,wpAny_pyIter_slot->aov,wpAny_handled->aoP,wpAny_onRaise->aoW,noFill_tuple_add->aoY,entryFor_of_tree->ao5,wpAny_pyNext_list_item->ao7,richCompare_meets_room->ape,wpAny_isTrue_Compare1->apl,wpAny_execs_nil->apm,wpAny_pyNext_list_end->apn,call_meetsIn->apu,exec_Assign_Name_used->apx,weight_type_call_type->apz,wpAny_dictEpoch->apF,wpAny_isOneOf_keyiter->apG,wpAny_eqIsQuiet_tuple->apQ,call_meets->ap0,codeAny_call_builtin->ap3,IsPart->aqb,wpAny_runValue->aqc,wpAny_newTuple->aqe,wpAny_throw->aqp,GenState->aqs,intBits_le_64->aqt,seq_tuple_add->aqu,evalPart_none->aqw,Keyword->aqN,wpAny_sequenceKey->aqO,wpAny_storeSet_of->aqZ,wpAny_setEpoch_of->aq0,concat_meets->aq4,seqIndex_neg->aq5,IsZip->aq7,Result->arb,BindsTo->ard,seqIndex_of->arf,wpAny_letGo->ari,storedH_new->arj,wpAny_Name->arl,wpAny_load->arn,wpAny_call->aro,typeIs_str->arp,typeIs_int->arq,ZipApart->arv,CmpOp->arE
open List renaming length_map->aao,getElem?_eq_getElem->aaq,getElem?_map->aaJ,mem_cons_of_mem->aaM,mem_cons_self->aaU,nodup_iff_pairwise_ne->aa2,length_append->abe,mem_of_getElem?->abg,mem_map->abh,take_add_one->abj,length_take->abo,size_toArray->abp,mem_append->abq,map_append->abt,mem_map_of_mem->abv,mem_singleton->abw,mem_cons->abz,map_cons->abA,range->acy,pairwise_map->acK,all_eq_true->acL,length_cons->acM,replicate->acS,mem_append_right->acU,getElem?_eq_some_iff->acZ,take_length->adi,mem_range->adA,mem_flatMap->adG,map_map->adJ,take_of_length_le->adN,eq_nil_of_length_eq_zero->aeE,flatMap_append->aeJ,flatten_cons->aeR,nodup_append->aeS,filterMap_cons->aeT,getElem?_append_right->aeW,append_assoc->aeX,replicate_succ->ae1,length_drop->ae4,getElem?_eq_none->ae8,map_congr_left->afa,not_mem_nil->afd,getElem?_append_left->afe,length_range->afg,mem_of_mem_take->afi,getD->afp,getElem_of_mem->afq,lookup_cons->afz,append_nil->afK,mem_append_left->afM,getElem_mem->afR,length->af6,mem_filter->agm,nodup_cons->agu,take_append_drop->agv,find?_eq_none->agw,mem_iff_getElem->agB,take_sublist->agU,perm_ext_iff_of_nodup->ahn,length_replicate->ahq,length_nil->ahW,getElem?_inj->aie,pairwise_singleton->ain,flatten_append->aio,getElem_inj->aip,ext_getElem->ait,mem_flatten->aiu,drop_of_length_le->aiE,getElem_cons_drop->aiF,mem_filterMap->aiG,map_filterMap->aiI,find?_cons->aiQ,getElem_take->ai4,getD_eq_getElem?_getD->ai7,getElem?_set_ne->amd,pairwise_iff_getElem->amk,filter_cons->amm,sublist_append_left->ams,getElem?_cons_zero->amB,pairwise_cons->amH,getElem?_set_self->amK,reverse_cons->amU,take_zero->amY,map->am1,length_filter_le->am2,map_nil->am3,take_eq_take_iff->am6,getElem!_eq_getElem?_getD->ana,getElem?_toArray->anc,any_eq_true->anf,countP_cons->ani,any_cons->anm,length_reverse->anx,filter_eq_self->anJ,perm_append_singleton->anQ,length_eraseIdx_of_lt->anR,filterMap_map->anU,append_of_mem->anV,forIn_nil->anZ,drop_zero->aoa,drop_take->aob,flatMap_cons->aox,filterMap_cons_some->aoy,filterMap_filterMap->aoC,getElem?_cons_succ->aoL,all_cons->aoR,map_id->aoS,cons_append->ao0,flatMap_def->ao4,nil_sublist->ao6,find?_cons_of_pos->apf,find?_cons_of_neg->apg,of_mem_zip->apo,forIn_cons->apw,all_map->apI,eq_nil_or_concat->apK,concat_eq_append->apM,pairwise_flatMap->apW,pairwise_append->ap6,length_take_le'->ap7,range_eq_range'->ap8,getElem?_range->aqq,toList_toArray->aqr,zip_cons_cons->aqF,getElem?_drop->aqG,map_take->aqI,find?_append->aqT,mem_range'_1->aqU,filter_congr->aq2,foldl->ars
open PySem.Heap renaming get?_push_of_some->aap,get?_push_size->aa8,lt_size->abf,get?_update_self->aeO,size_push->aeV,SameBut->afh,get?_update_other->ag5,get?_push_ne->aqR,ExtBut->arh,IsTuple->arx
open PySem.W renaming Frag->aas,keepIn->aaw,mg_of->abu,nsIn->abI,codeIn->acE,fnOf->acV,mg_none_of->adR,kia_one->afw,kitOne->aiw,kdu_collect->anA,methodObj->aol,kas_sort->aoQ,cellsFrom_some->ao8,instObj->apk,OpenLaw->apZ,lookIn->aqa,kat_cons->aqE,kitx_list->aqL,kitx_dict->aqM,WData->arw,kat_yes->arB,kas_rev->arC,KatLex->arD
open Nat renaming le_refl->aav,zero_le->abV,ne_of_lt->acu,lt_of_lt_of_le->ado,le_trans->adS,lt_or_ge->afu,lt_succ_of_lt->afE,le_of_lt->afN,le_add_right->afO,lt_irrefl->agJ,ne_of_gt->aho,add_le_add_right->ahU,min_eq_left->aib,lt_succ_self->ais,le_of_lt_succ->ai5,mul_le_mul_right->amf,succ_pos->amr,le_succ_of_le->amX,mod_lt->ant,le_of_succ_le->aos,min_le_right->aoZ,le_of_not_lt->ao2,add_comm->apq,lt_trans->aps,sub_zero->apy,not_lt_zero->apR,le_of_ble_eq_true->apY,add_le_add_left->aqm,le_succ->aqn,lt_of_le_of_lt->aqz
open PySem.Value renaming ref->abk,none->acR,type->agO,int->amg,bool->amP,str->anu,notImplemented->ap4
open Bool renaming false_ne_true->abn,and_eq_true_iff->abx,true_and->aeK,eq_iff_iff->aeU,false_eq_true->ae6,and_eq_true->afr,false_and->amh,or_false->aoI,or_eq_true->apA,false_xor->aqh,eq_false_iff->aq1
open Array renaming length_toList->abr,getD_eq_getD_getElem?->adO,getElem?_toList->adT,getElem?_eq_getElem->afy,mem_toList_iff->ahR,getElem?_eq_none->amM,getElem?_replicate->aoB,toList_inj->ao3,mem_of_getElem?->apP,size_map->aqf,forIn_toList->aqJ,getD->aqX
open PyProof.Rows renaming boot_tuple->abU,boot_isinstance->aeH,boot_sorted->afm,boot_all->afG,slot_tuple_getitem->agb,callWith_type1->agV,listUpdate_at->amG,boot_list->amN,boot_set->anb,entry_list_sort->anz,seqEpoch_at->anC,StrsAre->an0,slot_list_sort->aod,args_list_sort->aoe,sortedHeap_old->aof,sortedHeap_at->aoO,subscriptTail_builtinR->ao9,plain_sorted->apB,entry_sorted->apC,args_sorted1->apD,AllBare->aqj,entry_tuple_getitem->aqk,kind_sorted->aqo,args_tuple_getitem->aqv,Subscript_->aqP,IsTup->aq9,IntsAre->arz
open Or renaming inl->acz,inr->aqB
open Option.some renaming inj->ac8
open PySem.SetTable renaming insertAt->adv,runEnd->ady,leap->afb,bits->afc,turns->afJ,below->aoi,toList_insertAt->aoz,grown->aqg,layClean->aqY,probe->ark
open Sum renaming inr->adz,inl->amu
open Prod renaming fst->adB,snd->afn,ext->anT
open PySem.Heap.SameBut renaming update->aeD,refl->aqQ
open PySem.NameKind renaming free->aeG,cell->agi
open PySem.PyData renaming canLayAll0->aeI,depthAll->aeY,canLay0->ae7,depth->afF,eqv->aix,str->aoE
open Int renaming eq_ofNat_of_zero_le->aeM,toNat_natCast->aeQ,fmod_eq_emod_of_nonneg->anM,fdiv_eq_ediv_of_nonneg->anN,emod_nonneg->apJ,zero_add->apO,emod_lt_of_pos->aqH
open PyProof.Rows.F renaming plain_set_update_loop->aeP,entry_set_update_loop->afx
open PySem.PassesOwn renaming never->aeZ
open PySem.F renaming plainAttrs_list->ae0,slot_list_append->afk,type_list_append->afl,slot_dict_keyiterator_next->afI,slot_tuple_iterator_next->afS,plainAttrs_dict->aij,slot_zip_next->aiW,args_dict_keyiterator_next_1->amj,entry_dict_keyiterator_next->amo,args_tuple_add_2->amq,args_tuple_iterator_next_1->amt,entry_tuple_add->amA,entry_tuple_iterator_next->amJ,slot_tuple_add->amL,slot_dict_get->am4,slot_dict_setdefault->anq,slot_NoneType_hash->anK,plain_extend_loop->aok,slot_dict_update->aou,slot_list_extend->aoF,type_list_extend->aoG,args_dict_get_3->aoJ,entry_type_call->aoM,plain_list_iadd->aoU,args_zip_next_1->aoV,entry_dict_get->apa,typeCall_set_1->apb,entry_set_init->apc,slot_dict_iter->apd,entry_zip_next->apj,slot_dict_pop->apv,plain_set_new->apU,slot_set_iter->apV
open PySem.Builtin.SmallTypes renaming nextOf->ae2,ownedTupleIsFree->afC,ownedTupleHandOut->aml
open PySem.Around renaming under_plainId->ae3,under_plain->aqD
open PySem.Obj renaming mapSeq->afj,mapFields->agk,data_mapFields->amF,isFreed_of_fields->apH,putSet->ap2,data_mapDictKeys->ap9,cls_mapFields->aqS
open Ne renaming symm->afv
open Sum.inr renaming inj->afA
open PySem.SeqAt renaming shaped->afD,canLay_of_shaped->amO,eqv_refl->am0
open Classical renaming byContradiction->agl,em->am9
open True renaming intro->agS
open PySem.Txt renaming slice->agW,slice->anv,slice_le->anW
open Option renaming map_eq_some_iff->ahl,isSome_iff_exists->ahX,map_some->aiR,isSome_map->aop,isSome_some->aqy
open PySem.SetTable.layClean renaming free->ahm
open PySem.Calls renaming spliced_cons->ahp,call_function_entry->ahC,callWith_builtin->aiy,evalArgs_plain->ame,spliced_nil->amR,Name_function_global->anL
open PySem.Str renaming ofString->ahr,length->amS
open PySem.Builtin.Slice renaming slicePlaces->ahB,sliceAdjust->ami,sliceApplied->anO
open False renaming elim->ahV
open PySem.Builtin.Tuple renaming tupleExact->ah2,tupleItemsOf->anP
open PySem.Builtin.List renaming listTooLong->ah5,listLengthHint->anF,listExtendWith->anH,listSameRef->aoD
open List.Pairwise renaming nil->ah8,imp_of_mem->aow
open List.Sublist renaming refl->amW
open PySem.W.WData renaming weight->anl,weightAll->aoX,int->aq3
open PySem.Builtin.Frozenset renaming updateFrom->ano
open PySem.Builtin.Dict_items renaming ownsTuple->anp
open PySem.Builtin.Str renaming strSliceIndices->anw
open PySem.Builtin.Int renaming intBits->anE
open List.cons renaming injEq->anI
open PySem.Source renaming order->anY
open PySem.SetFound renaming there->aoj
open PySem.Data renaming cell->aon,seq->aq8,fields->ara
open PySem.SetTable.probe renaming go->aoA
open PySem.Paired renaming length->aoH
open PySem.Code renaming compLoop->aoK,quiet_builtin->aqC
open PySem.Shared renaming TypeIs->aoN
open PySem.Builtin.Dict renaming updateFrom->aoT,pairItems->aph,showsAll->apE
open PySem.P renaming lt_str->aqd
open Sum.inl renaming inj->aqi
open PySem.Heap.IsSliceOf renaming new->aqx
open List.Perm renaming map->aqK
open PySem.SetTable.below renaming go->aqW
open PySem.pickOrder renaming go->aq6
open LawfulMonad renaming bind_assoc->aru
open Eq renaming symm->arA
namespace L2
open PySem PySem.Spec PyProof.Rows
abbrev Key:=Sum (Option Int) Str
def jP:Key->aau->Bool
 | .inl none,v=>match v with | .none=>true | _=>false
 | .inl (some k),v=>Value.isInt k v
 | .inr x,v=>Value.isStrOf x v
def afP (w:adH):Key->Int
 | .inl none=>0xFCA86420
 | .inl (some k)=>hashInt k
 | .inr x=>hashStr w x
theorem cH:∀ {k:Key} {v:aau},jP k v=true->(∃ i t,k=amu (some i)/\v=amg i t)∨(∃ x t,k=adz x/\v=anu x t)∨(k=amu none/\v=acR)
 | .inl (some i),v,h=>by
   obtain ⟨t,e⟩:=Value.isInt_shape (k:=i) (v:=v) h
   exact .inl ⟨i,t,rfl,e⟩
 | .inl none,v,h=>by
   cases v with
   | none=>exact .inr (.inr ⟨rfl,rfl⟩)
   | _=>cases h
 | .inr x,v,h=>by
   obtain ⟨t,e⟩:=Value.isStrOf_shape (x:=x) (v:=v) h
   exact .inr (.inl ⟨x,t,rfl,e⟩)
theorem rO (i:Int) (t:Tok):jP (.inl (some i)) (.int i t)=true:=by simp [jP,Value.isInt]
theorem rP (x:Str) (t:Tok):jP (.inr x) (.str x t)=true:=by simp [jP,Value.isStrOf]
theorem vC:jP (.inl none) .none=true:=rfl
theorem YL (a b:Int):decide ((amu (some a):Key)=amu (some b))=(a == b):=by
 by_cases e:a=b
 . subst e; simp
 . have h:¬ (amu (some a):Key)=amu (some b):=fun q=>e (ac8 (aqi q))
   rw [decide_eq_false h]
   exact (beq_eq_false_iff_ne.mpr e).symm
theorem YM (a b:Str):decide ((adz a:Key)=adz b)=decide (a=b):=by
 by_cases e:a=b
 . subst e; simp
 . have h:¬ (adz a:Key)=adz b:=fun q=>e (afA q)
   rw [decide_eq_false h,decide_eq_false e]
theorem O4 (a:Option Int) (b:Str):decide ((amu a:Key)=adz b)=false:=decide_eq_false (fun q=>nomatch q)
theorem O5 (a:Str) (b:Option Int):decide ((adz a:Key)=amu b)=false:=decide_eq_false (fun q=>nomatch q)
theorem YQ (a:Int):decide ((amu (some a):Key)=amu none)=false:=decide_eq_false (fun q=>nomatch (aqi q))
theorem YS (a:Int):decide ((amu none:Key)=amu (some a))=false:=decide_eq_false (fun q=>nomatch (aqi q))
theorem YT:decide ((amu none:Key)=amu none)=true:=decide_eq_true rfl
theorem Kw {prog:acs} {w:adH} {A:aeN} {E:aau->aat->Prop} {s:aat} {Q:Int->aat->Prop} (h:Q 0xFCA86420 { s with toks:=s.toks+1 }):wpAny (model prog w) A (pyHash .none) Q E s:=by
 have hT:s.TypeIs .none "NoneType":=rfl
 unfold pyHash
 have hv:[acR].any Value.onHeap=false:=rfl
 refine Fi ?_
 rw [cRoomFor,if_neg (by rw [hv]; exact abn)]; refine aar ?_
 refine Fi (amv hT PySem.F.slot_NoneType_hash.lookup ?_)
 show wpAny _ _ (if (some (Value.builtin "NoneType.__hash__") == some acR)=true then _ else _) Q E s
 rw [if_neg (by decide)]
 refine Fi (amv hT PySem.F.slot_NoneType_hash.lookup ?_)
 show wpAny _ _ (callSpecialIfBoundUnlessNone? .none "__hash__" _ >>= _) Q E s
 refine Fi (wpAny_callSpecialIfBoundUnlessNone?_slot hT anK
   (adP anK hT PySem.F.entry_NoneType_hash
     (show wpAny _ _ (do ret (<- mkInt 0xFCA86420)) _ _ s from wpAny_ret_mkInt ?_) (PySem.F.args_NoneType_hash_1 _)))
 show wpAny _ _ (if (decide (-(2:Int) ^ 63<=0xFCA86420) && decide ((0xFCA86420:Int)<2 ^ 63))=true then _ else _) Q E _
 rw [if_pos (by decide)]
 exact aar h
theorem Am {prog:acs} {w:adH} {A:aeN} {E:aau->aat->Prop} {s:aat} {Q:Bool->aat->Prop} (h:Q true s):wpAny (model prog w) A (eqBool .none .none) Q E s:=by
 have hb:(acR == acR)=true:=by decide
 unfold eqBool
 rw [if_pos hb]
 exact Fi (aiY (aar h))
def aU (prog:acs) (w:adH):PySem.KeyKind prog w Key where
 is:=jP
 hash:=afP w
 inj:=fun v a b ha hb=>by
   rcases cH ha with ⟨i,t,rfl,rfl⟩ | ⟨x,t,rfl,rfl⟩ | ⟨rfl,rfl⟩
   . rcases cH hb with ⟨j,u,rfl,e⟩ | ⟨y,u,rfl,e⟩ | ⟨rfl,e⟩
     . injection e with e1 _; rw [e1]
     . exact nomatch e
     . exact nomatch e
   . rcases cH hb with ⟨j,u,rfl,e⟩ | ⟨y,u,rfl,e⟩ | ⟨rfl,e⟩
     . exact nomatch e
     . injection e with e1 _; rw [e1]
     . exact nomatch e
   . rcases cH hb with ⟨j,u,rfl,e⟩ | ⟨y,u,rfl,e⟩ | ⟨rfl,e⟩
     . exact nomatch e
     . exact nomatch e
     . rfl
 byValue:=fun k v h=>by
   rcases cH h with ⟨i,t,rfl,rfl⟩ | ⟨x,t,rfl,rfl⟩ | ⟨rfl,rfl⟩ <;> rfl
 pyHash:=fun hv h=>by
   rcases cH hv with ⟨i,t,rfl,rfl⟩ | ⟨x,t,rfl,rfl⟩ | ⟨rfl,rfl⟩
   . exact wpAny_pyHash_int h
   . exact wpAny_pyHash_str h
   . exact Kw h
 eqBool:=fun hu hv h=>by
   rcases cH hu with ⟨i,t,rfl,rfl⟩ | ⟨x,t,rfl,rfl⟩ | ⟨rfl,rfl⟩
   . rcases cH hv with ⟨j,u,rfl,rfl⟩ | ⟨y,u,rfl,rfl⟩ | ⟨rfl,rfl⟩
     . rw [YL] at h; exact wpAny_eqBool_int h
     . rw [O4] at h; exact SeqAt.EqAt.int_str i t y u _ _ _ _ h
     . rw [YQ] at h; exact SeqAt.EqAt.int_none i t _ _ _ _ h
   . rcases cH hv with ⟨j,u,rfl,rfl⟩ | ⟨y,u,rfl,rfl⟩ | ⟨rfl,rfl⟩
     . rw [O5] at h; exact SeqAt.EqAt.str_int x t j u _ _ _ _ h
     . rw [YM] at h; exact wpAny_eqBool_str h
     . rw [O5] at h; exact SeqAt.EqAt.str_none x t _ _ _ _ h
   . rcases cH hv with ⟨j,u,rfl,rfl⟩ | ⟨y,u,rfl,rfl⟩ | ⟨rfl,rfl⟩
     . rw [YS] at h; exact SeqAt.EqAt.none_int j u _ _ _ _ h
     . rw [O4] at h; exact SeqAt.EqAt.none_str y u _ _ _ _ h
     . rw [YT] at h; exact Am h
 «strs»:=fun k x t v h=>by
   rcases cH h with ⟨i,u,rfl,e⟩ | ⟨y,u,rfl,e⟩ | ⟨rfl,e⟩
   . exact nomatch e
   . injection e with e1 _
     subst e1
     cases v <;> rfl
   . exact nomatch e
theorem CJ (prog:acs) (w:adH) (i:Int) (t:Tok):(aU prog w).is (.inl (some i)) (.int i t)=true:=rO i t
theorem iU (prog:acs) (w:adH) (x:Str) (t:Tok):(aU prog w).is (.inr x) (.str x t)=true:=rP x t
theorem Ao (prog:acs) (w:adH):(aU prog w).is (.inl none) .none=true:=vC
end L2
namespace L2
open PySem PySem.Spec PyProof.Rows
inductive V where
 | non | bl (b:Bool) | int (i:Int) | str (x:Str) | O6 (b:Array UInt8) | flt (b:UInt64) | ref (a:abm) | ty (n:String)
 deriving DecidableEq
def RelV:V->aau->Prop
 | .non,u=>u=acR
 | .bl b,u=>u=amP b
 | .int i,u=>∃ t,u=amg i t
 | .str x,u=>∃ t,u=anu x t
 | .O6 b,u=>∃ t,u=Value.bytes b t
 | .flt b,u=>∃ t,u=Value.float b t
 | .ref a,u=>u=abk a
 | .ty n,u=>u=agO n
abbrev Vals:List V->List aau->Prop:=acN RelV
theorem Vals.length {xs:List V} {us:List aau} (r:Vals xs us):xs.length=us.length:=aoH r
theorem Vals.get:∀ {xs:List V} {us:List aau} {i:Nat} {x:V},Vals xs us->xs[i]?=some x->∃ u,us[i]?=some u/\RelV x u
 | _,_,_,_,.nil,e=>by simp at e
 | _,_,0,_,.cons r _,e=>by simp at e; subst e; exact ⟨_,rfl,r⟩
 | _,_,i+1,x,.cons _ t,e=>by
   obtain ⟨u,h1,h2⟩:=Vals.get (i:=i) (x:=x) t (by simpa using e)
   exact ⟨u,by simpa using h1,h2⟩
theorem Vals.set {x:V} {u:aau} (r:RelV x u):∀ {xs:List V} {us:List aau} (i:Nat),Vals xs us->Vals (xs.set i x) (us.set i u)
 | _,_,_,.nil=>.nil
 | _,_,0,.cons _ t=>.cons r t
 | _,_,i+1,.cons q t=>.cons q (Vals.set r i t)
theorem Vals.append:∀ {xs ys:List V} {us ws:List aau},Vals xs us->Vals ys ws->Vals (xs++ys) (us++ws)
 | _,_,_,_,.nil,s=>s
 | _,_,_,_,.cons r t,s=>.cons r (Vals.append t s)
theorem Vals.take:∀ {xs:List V} {us:List aau} (n:Nat),Vals xs us->Vals (xs.take n) (us.take n)
 | _,_,0,_=>.nil
 | _,_,_+1,.nil=>.nil
 | _,_,n+1,.cons r t=>.cons r (Vals.take n t)
theorem Vals.drop:∀ {xs:List V} {us:List aau} (n:Nat),Vals xs us->Vals (xs.drop n) (us.drop n)
 | _,_,0,r=>r
 | _,_,_+1,.nil=>.nil
 | _,_,n+1,.cons _ t=>Vals.drop n t
def qN:Option V->Option aau->Prop
 | some v,some u=>RelV v u
 | none,none=>True
 | _,_=>False
def KV {κ:Type}:List (κ × V)->List (κ × aau)->Prop:=acN fun (p:κ × V) (q:κ × aau)=>p.1=q.1/\RelV p.2 q.2
def kV:Key->V
 | .inl none=>.non
 | .inl (some i)=>.int i
 | .inr x=>.str x
inductive HO where
 /-- a list -/
 | lst (xs:List V)
 /-- a tuple (never changes) -/
 | tup (xs:List V)
 /-- a dict whose keys are ints and texts; one whose keys are tuples of ints and texts (the empty one is both) -/
 | dK (kvs:List (Key × V)) | dT (kvs:List (List Key × V))
 /-- a set of ints: its members,its size -/
 | set (S:Int->Bool) (n:Nat)
 /-- an instance of the class at C,its dict at dx,its attributes -/
 | ins (C dx:abm) (fs:List (Str × V))
 /-- the dict of the instance at x -/
 | own (x:abm)
 /-- the dict of an exception -/
 | xd (fs:List (Str × V))
 /-- a bound method,f of x -/
 | met (f x:abm)
 /-- a range object lo,lo+1,.. below hi -/
 | rng (lo hi:Int)
 /-- a thing that is known to the object (the script; a dict while a loop walks it): read,never written while it is so -/
 | Jc (o:Obj) (u:HO)
 /-- a code object's table -/
 | YW (ps:Array aau)
 /-- any other thing,by what is true of its one object (a def of one's own: ao1 a S n:=HO.ext fun h=>..) -/
 | ext (φ:ae9->Prop)
abbrev Hp:=abm->Option HO
def upd (H:Hp) (a:abm) (o:HO):Hp:=fun b=>if b=a then some o else H b
theorem ao {H:Hp} {a:abm} {o:HO}:upd H a o a=some o:=by unfold upd; rw [if_pos rfl]
theorem aF {H:Hp} {a b:abm} {o:HO} (h:b≠a):upd H a o b=H b:=by unfold upd; rw [if_neg h]
theorem XQ {H:Hp} {a b:abm} {o u:HO} (h:H a=some o) (h':H b=some u) (d:o≠u):a≠b:=by
 intro e; subst e; rw [h] at h'; exact d (ac8 h')
theorem aD {H:Hp} {a b:abm} {o:HO} (h:H a=some o) (h':H b=none):a≠b:=by
 intro e; subst e; rw [h] at h'; cases h'
def jK (h:ae9) (a:abm) (items:Array aau):Prop:=∃ o,h.get? a=some o/\o.cls=.type "tuple"/\(∃ n,o.data=.seq items n)/\o.dict=none
theorem jK.to {h:ae9} {a:abm} {items:Array aau} (x:jK h a items):aq9 h a items:=let ⟨o,e,c,d,_⟩:=x; ⟨o,e,c,d⟩
theorem jK.new (h:ae9) (items:Array aau):jK (h.push { cls:=.type "tuple",data:=.seq items }) h.objs.size items:=⟨_,aa8 _ rfl,rfl,⟨_,rfl⟩,rfl⟩
section
variable (P:acs) (w:adH)
def cu (H:Hp) (h:ae9) (a:abm):HO->Prop
 | .lst xs=>xs.length<=sizeLine/\∃ (its:List aau) (n:Nat),Vals xs its/\h.get? a=some { cls:=.type "list",data:=.seq its.toArray n }
 | .tup xs=>xs.length<=sizeLine/\∃ its:List aau,Vals xs its/\jK h a its.toArray
 | .dK kvs=>kvs.length<=sizeLine/\(a == sysModules)=false/\∃ vs,KV kvs vs/\h.DictOf (aU P w) a vs
 | .dT kvs=>kvs.length<=sizeLine/\(a == sysModules)=false/\∃ xs:List (List Key × abm × aau),
     acN (fun (p:List Key × V) (q:List Key × abm × aau)=>p.1=q.1/\H q.2.1=some (.tup (p.1.map kV))/\RelV p.2 q.2.2) kvs xs /\
     ∃ o es ep,h.get? a=some o/\o.ExactDict/\o.data=.dict es ep/\es.toList=xs.map (entryOfKey (tupleKind (aU P w)))/\(xs.map (·.1)).Nodup
 | .set S n=>h.SetOf (intKind P w) a S n
 | .ins C dx fs=>H dx=some (.own a)/\fs.length<=1000/\dx≠a/\h.get? a=some (apk C dx) /\
     ∃ mA,h.Ns1 dx mA/\(∀ f,qN (fs.lookup f) (mA f))/\PySem.Within mA (fs.map (·.1))
 | .own _=>∃ o,h.get? a=some o
 | .xd fs=>∃ mA,h.Ns1 a mA/\∀ f,qN (fs.lookup f) (mA f)
 | .rng lo hi=>∃ t u v,h.get? a=some { cls:=.type "range",data:=.fields #[.int lo t,.int hi u,.int 1 v] }
 | .Jc o u=>h.get? a=some o/\cu H h a u
 | .YW ps=>h.get? a=some { cls:=.none,data:=.fields ps }
 | .met f x=>h.get? a=some (aol (.ref f) (.ref x))
 | .ext φ=>φ h/\(∃ o,h.get? a=some o)/\∀ h1 h2:ae9,φ h1->(∀ o,h1.get? a=some o->h2.get? a=some o)->φ h2
def pP (H:Hp) (h:ae9):Prop:=∀ a o,H a=some o->cu P w H h a o
end
section
variable {P:acs} {w:adH} {H H':Hp} {h h':ae9} {a:abm} {o:HO}
theorem cu.lt (x:cu P w H h a o):a<h.objs.size:=by
 cases o with
 | lst xs=>obtain ⟨_,_,_,_,e⟩:=x; exact abf e
 | tup xs=>obtain ⟨_,_,_,_,e,_⟩:=x; exact abf e
 | dK kvs=>obtain ⟨_,_,_,_,o,_,_,e,_⟩:=x; exact abf e
 | dT kvs=>obtain ⟨_,_,_,_,o,_,_,e,_⟩:=x; exact abf e
 | set S n=>obtain ⟨o,_,_,_,e,_⟩:=x; exact abf e
 | ins C dx fs=>obtain ⟨_,_,_,e,_⟩:=x; exact abf e
 | own y=>obtain ⟨_,e⟩:=x; exact abf e
 | xd fs=>obtain ⟨_,⟨_,_,_,e,_⟩,_⟩:=x; exact abf e
 | rng lo hi=>obtain ⟨_,_,_,e⟩:=x; exact abf e
 | Jc ob u=>obtain ⟨e,_⟩:=x; exact abf e
 | YW ps=>exact abf (show h.get? a=some _ from x)
 | met f y=>exact abf (show h.get? a=some _ from x)
 | ext φ=>obtain ⟨_,⟨_,e⟩,_⟩:=x; exact abf e
theorem Paired.YX {α β:Type} {F G:α->β->Prop}:∀ {l₁:List α} {l₂:List β},acN F l₁ l₂->(∀ a b,F a b->G a b)->acN G l₁ l₂
 | _,_,.nil,_=>.nil
 | _,_,.cons r t,f=>.cons (f _ _ r) (Paired.YX t f)
theorem cu.stay (x:cu P w H h a o) (k:∀ b u,(b=a∨H b=some (.own a))->h.get? b=some u->h'.get? b=some u)
   (ho:∀ b,H b=some (.own a)->H' b=some (.own a)) (ht:∀ b xs,H b=some (.tup xs)->H' b=some (.tup xs)):cu P w H' h' a o:=by
 induction o with
 | lst xs=>obtain ⟨z,its,n,r,e⟩:=x; exact ⟨z,its,n,r,k _ _ (.inl rfl) e⟩
 | tup xs=>obtain ⟨z,its,r,ob,e,c⟩:=x; exact ⟨z,its,r,ob,k _ _ (.inl rfl) e,c⟩
 | dK kvs=>obtain ⟨z,y,vs,r,ob,es,ep,e,c⟩:=x; exact ⟨z,y,vs,r,ob,es,ep,k _ _ (.inl rfl) e,c⟩
 | dT kvs =>
   obtain ⟨z,y,xs,r,ob,es,ep,e,c⟩:=x
   exact ⟨z,y,xs,Paired.YX r fun p q z=>⟨z.1,ht _ _ z.2.1,z.2.2⟩,ob,es,ep,k _ _ (.inl rfl) e,c⟩
 | set S n=>obtain ⟨ob,es,ep,t,e,c⟩:=x; exact ⟨ob,es,ep,t,k _ _ (.inl rfl) e,c⟩
 | ins C dx fs =>
   obtain ⟨d,z,ne,e,mA,⟨od,es,ep,e2,c⟩,r⟩:=x
   exact ⟨ho _ d,z,ne,k _ _ (.inl rfl) e,mA,⟨od,es,ep,k _ _ (.inr d) e2,c⟩,r⟩
 | own y=>obtain ⟨ob,e⟩:=x; exact ⟨ob,k _ _ (.inl rfl) e⟩
 | xd fs=>obtain ⟨mA,⟨od,es,ep,e,c⟩,r⟩:=x; exact ⟨mA,⟨od,es,ep,k _ _ (.inl rfl) e,c⟩,r⟩
 | rng lo hi=>obtain ⟨t,u,v,e⟩:=x; exact ⟨t,u,v,k _ _ (.inl rfl) e⟩
 | Jc ob u ih=>obtain ⟨e,q⟩:=x; exact ⟨k _ _ (.inl rfl) e,ih q⟩
 | YW ps =>
   have e:h.get? a=some { cls:=.none,data:=.fields ps }:=x
   show h'.get? a=some { cls:=.none,data:=.fields ps }
   exact k a _ (.inl rfl) e
 | met f y =>
   have e:h.get? a=some (aol (.ref f) (.ref y)):=x
   show h'.get? a=some (aol (.ref f) (.ref y))
   exact k a _ (.inl rfl) e
 | ext φ=>obtain ⟨p,⟨o,e⟩,st⟩:=x; exact ⟨st _ _ p fun o q=>k _ _ (.inl rfl) q,⟨o,k _ _ (.inl rfl) e⟩,st⟩
theorem pP.lt (x:pP P w H h) (e:H a=some o):a<h.objs.size:=(x a o e).lt
theorem pP.fresh (x:pP P w H h) (e:h.objs.size<=a):H a=none:=by
 cases q:H a with
 | none=>rfl
 | some u=>exact absurd (ado (x.lt q) e) (agJ _)
theorem pP.kept (x:pP P w H h) (k:∀ b u,h.get? b=some u->h'.get? b=some u):pP P w H h':=fun a o e =>
 (x a o e).stay (fun b u _ q=>k b u q) (fun _ q=>q) fun _ _ q=>q
theorem pP.laid (x:pP P w H h) (k:∀ b u,h.get? b=some u->h'.get? b=some u) (hp:h.objs.size<=a) (new:cu P w (upd H a o) h' a o):pP P w (upd H a o) h':=fun b u e=>by
 have hn:=x.fresh hp
 by_cases hb:b=a
 . subst hb; rw [ao] at e; cases e; exact new
 . rw [aF hb] at e
   exact (x b u e).stay (fun c v _ q=>k c v q) (fun c q=>by rw [aF (aD q hn)]; exact q) fun c xs q=>by rw [aF (aD q hn)]; exact q
end
def Rd (H:Hp) (a:abm) (u:HO):Prop:=H a=some u∨∃ o,H a=some (.Jc o u)
theorem Rd.ok {P:acs} {w:adH} {H:Hp} {h:ae9} {a:abm} {u:HO} (r:Rd H a u) (x:pP P w H h):cu P w H h a u:=by
 rcases r with r | ⟨o,r⟩
 . exact x a u r
 . obtain ⟨_,q⟩:=x a _ r
   exact q
def Mut:Option HO->Prop
 | some (.lst _)=>True
 | some (.dK _)=>True
 | some (.dT _)=>True
 | some (.set _ _)=>True
 | some (.ins _ _ _)=>True
 | some (.ext _)=>True
 | _=>False
section
variable {P:acs} {w:adH} {H:Hp} {h h':ae9} {x e:abm} {o':HO}
theorem pP.write (ok:pP P w H h) (mu:Mut (H x)) (he:e=x∨H e=some (.own x)) (k:∀ b u,b≠e->h.get? b=some u->h'.get? b=some u) (heo:∃ u,h'.get? e=some u)
   (new:cu P w (upd H x o') h' x o'):pP P w (upd H x o') h':=fun b u q=>by
 have aby:∀ c y,H c=some (.own y)->c≠x:=fun c y r z=>by subst z; rw [r] at mu; exact mu
 have afQ:∀ c xs,H c=some (.tup xs)->c≠x:=fun c xs r z=>by subst z; rw [r] at mu; exact mu
 by_cases hb:b=x
 . subst hb; rw [ao] at q; cases q; exact new
 . rw [aF hb] at q
   by_cases hbe:b=e
   . have q':H b=some (.own x):=by
       rcases he with z | z
       . exact absurd (hbe.trans z) hb
       . rw [hbe]; exact z
     rw [q] at q'; cases q'
     obtain ⟨v,hv⟩:=heo
     exact ⟨v,by rw [hbe]; exact hv⟩
   . refine (ok b u q).stay (fun c v hc r=>k c v ?_ r) (fun c r=>by rw [aF (aby c b r)]; exact r) fun c xs r=>by rw [aF (afQ c xs r)]; exact r
     rcases hc with rfl | hc
     . exact hbe
     . rintro rfl
       rcases he with z | z
       . exact aby c b hc z
       . rw [hc] at z; cases z; exact hb rfl
end
structure Un (fs ex:List abm) (H H':Hp) (h h':ae9):Prop where
 keep:∀ b o,h.get? b=some o->H b=none->b ∉ fs->b ∉ ex->h'.get? b=some o
 slot:∀ b o,h.get? b=some o->H b=none->b∈fs->b ∉ ex->∃ sl,h'.get? b=some { o with slots:=sl }
 free:∀ b o,h.get? b=some o->H b=none->b ∉ ex->H' b=none
 there:∀ b o,h.get? b=some o->b ∉ ex->∃ o',h'.get? b=some o'
 tups:∀ b xs,H b=some (.tup xs)->H' b=some (.tup xs)
 Aq:∀ b o u,H b=some (.Jc o u)->H' b=some (.Jc o u)
 CK:∀ b ps,H b=some (.YW ps)->∃ more,H' b=some (.YW (ps++more))
section
variable {fs fs' ex ex':List abm} {H H1 H2:Hp} {h h1 h2 h':ae9} {a x e:abm} {o:HO}
theorem Un.any (u:Un fs ex H H1 h h1) {b:abm} {ob:Obj} (q:h.get? b=some ob) (n:H b=none) (hx:b ∉ ex):∃ sl,h1.get? b=some { ob with slots:=sl }:=by
 by_cases hb:b∈fs
 . exact u.slot b ob q n hb hx
 . exact ⟨ob.slots,u.keep b ob q n hb hx⟩
theorem Un.kept (k:∀ b u,h.get? b=some u->h'.get? b=some u):Un fs ex H H h h' :=
 ⟨fun b ob q _ _ _=>k b ob q,fun b ob q _ _ _=>⟨ob.slots,k b ob q⟩,fun _ _ _ n _=>n,fun b ob q _=>⟨ob,k b ob q⟩,fun _ _ q=>q,fun _ _ _ q=>q,fun _ ps q=>⟨#[],by rw [q]; simp⟩⟩
theorem Un.refl:Un fs ex H H h h:=Un.kept fun _ _ q=>q
theorem Un.laid (k:∀ b u,h.get? b=some u->h'.get? b=some u) (hp:h.objs.size<=a) (hn:H a=none):Un fs ex H (upd H a o) h h' where
 keep:=fun b u q _ _ _=>k b u q
 slot:=fun b u q _ _ _=>⟨u.slots,k b u q⟩
 free:=fun b u q n _=>by rw [aF (acu (ado (abf q) hp))]; exact n
 there:=fun b u q _=>⟨u,k b u q⟩
 tups:=fun b xs q=>by rw [aF (aD q hn)]; exact q
 Aq:=fun b u xs q=>by rw [aF (aD q hn)]; exact q
 CK:=fun b ps q=>⟨#[],by rw [aF (aD q hn),q]; simp⟩
theorem Un.write (mu:Mut (H x)) (he:e=x∨H e=some (.own x)) (k:∀ b u,b≠e->h.get? b=some u->h'.get? b=some u) (heo:∃ u,h'.get? e=some u):Un fs ex H (upd H x o) h h':=by
 have hx:∀ b,H b=none->b≠x:=fun b n z=>by subst z; rw [n] at mu; exact mu
 have hb:∀ b,H b=none->b≠e:=fun b n z=>by
   subst z
   rcases he with r | r
   . exact hx b n r
   . rw [n] at r; cases r
 have hm:∀ b u,H b=some u->¬ Mut (some u)->b≠x:=fun b u q nm z=>by subst z; rw [q] at mu; exact nm mu
 refine ⟨fun b u q n _ _=>k b u (hb b n) q,fun b u q n _ _=>⟨u.slots,k b u (hb b n) q⟩,fun b u q n _=>by rw [aF (hx b n)]; exact n,fun b u q _=>?_,
   fun b xs q=>by rw [aF (hm b _ q fun z=>z)]; exact q,fun b u xs q=>by rw [aF (hm b _ q fun z=>z)]; exact q,fun b ps q=>⟨#[],by rw [aF (hm b _ q fun z=>z),q]; simp⟩⟩
 by_cases hbe:b=e
 . subst hbe; exact heo
 . exact ⟨u,k b u hbe q⟩
end
def trk (h:ae9) (H:Hp):List abm:=(acy h.objs.size).filter fun a=>(H a).isSome
def Ar (h:ae9) (H:Hp):ae9:=PySem.W.hideAll h (trk h H)
theorem Ky (h:ae9) (H:Hp):(Ar h H).objs.size=h.objs.size:=PySem.W.hideAll_size _ _
theorem O7 {h:ae9} {H:Hp} {b:abm} {o:Obj} (e:h.get? b=some o) (n:H b=none):(Ar h H).get? b=some o :=
 PySem.W.hideAll_get _ e fun hm=>by
   have q:(H b).isSome=true:=(agm.mp hm).2
   rw [n] at q; simp at q
theorem Vg {h:ae9} {H:Hp} {b:abm} {o:Obj} (e:(Ar h H).get? b=some o):h.get? b=some o/\H b=none:=by
 have e':h.get? b=some o:=PySem.W.of_hideAll (trk h H) e
 refine ⟨e',?_⟩
 cases q:H b with
 | none=>rfl
 | some x =>
   have hm:b∈trk h H:=agm.mpr ⟨adA.mpr (abf e'),by simp [q]⟩
   have z:(Ar h H).get? b=none:=PySem.W.hideAll_none (trk h H) hm
   rw [z] at e; cases e
end L2
namespace L2
open PySem PySem.Spec PyProof.Rows
structure Mod (K:aas) (mg:Str->Option aau) (base:ae9):Prop where
 kin:K.In base
 glob:base.Ns mainGlobals mg
 blt:∃ mb,base.Ns builtinsNs mb/\∀ x:Str,x≠"__name__"->mb x=bootBuiltins x
 nolimit:base.NoLimit
structure Cx where
 prog:acs
 w:adH
 K:aas
 mg:Str->Option aau
 base:ae9
 A:aeN
 N:List Str
 s₀:aat
 H₀:Hp
 env:Env
 outer:List Env
 stack:List Env
 ex:List abm
 fn:Str->Bool
 calm:Bool
 pn:List (abm × Obj)
 xe:aau->aat->Prop
def frs (l:List Env):List abm:=l.filterMap (·.frame)
abbrev Cx.fs (X:Cx):List abm:=frs X.outer
def Vis (sc:Scope) (x:Str):Prop:=sc.names.lookup x=some .local∨sc.names.lookup x=some .cell∨sc.names.lookup x=some .free
def Loc (sc:Scope) (x:Str):Prop:=sc.names.lookup x=some .local∨sc.names.lookup x=some .cell
def Look (env:Env) (h:ae9) (m:Str->Option aau) (x:Str) (u:aau):Prop :=
 (env.kindOf x=some .local/\m x=some u)∨((env.kindOf x=some .cell∨env.kindOf x=some .free)/\∃ c,env.cells.lookup x=some c/\h.IsCell c (some u))
structure Cx.Ok (X:Cx):Prop where
 mod:Mod X.K X.mg X.base
 kind:X.env.scope.kind=.function
 glob:X.env.globals=mainGlobals
 blt:X.env.builtins=builtinsNs
 above:X.s₀.heap.objs.size<=X.env.locals
 inj:∀ x y c,X.env.cells.lookup x=some c->X.env.cells.lookup y=some c->x=y
 has:∀ x,(X.env.kindOf x=some .cell∨X.env.kindOf x=some .free)->∃ c,X.env.cells.lookup x=some c
 cab:∀ x c,X.fn x=true->X.env.cells.lookup x=some c->X.s₀.heap.objs.size<=c
 hd:X.calm=true->X.A.handled=none
 frames:X.A.frames=some X.stack
 stk:X.stack=X.outer∨(X.stack=X.env :: X.outer/\X.env.frame=some X.env.locals)
 exf:∀ b∈X.ex,b≠X.env.locals/\∀ x c,X.env.cells.lookup x=some c->c≠b
 bs:∀ b o,X.base.get? b=some o->X.s₀.heap.get? b=some o/\X.H₀ b=none
 XR:X.base.objs.size<=X.s₀.heap.objs.size
 O8:∀ b o,X.base.get? b=some o->b ∉ X.ex
 Kz:∀ b∈X.ex,b ∉ X.fs
 vD:X.s₀.heap.FunFrames X.base X.outer
 frf:∀ b∈X.fs,X.H₀ b=none
structure Inv (X:Cx) (pins:List (abm × Obj)) (σ:List (Option V)) (H:Hp) (s:aat):Prop where
 ok:X.Ok
 os:s.os=X.s₀.os
 bare:aqj s.gens
 base:Un X.fs X.ex X.H₀ H X.s₀.heap s.heap
 loc:∃ m,s.heap.Ns X.env.locals m/\∀ (i:Nat) (x:Str) (v:V),X.N[i]?=some x->σ[i]?=some (some v)->Vis X.env.scope x->∃ u,RelV v u/\Look X.env s.heap m x u
 cell:∀ x c,X.env.cells.lookup x=some c->∃ v,s.heap.IsCell c v
 free:H X.env.locals=none
 jQ:∀ x c,X.env.cells.lookup x=some c->H c=none
 pin:∀ p∈X.pn++pins,s.heap.get? p.1=some p.2/\H p.1=none/\p.1≠X.env.locals/\p.1 ∉ X.fs/\∀ v,p.2.data≠.cell v
 hok:pP X.prog X.w H s.heap
 len:σ.length=X.N.length
section
variable {X:Cx} {pins:List (abm × Obj)} {σ:List (Option V)} {H H':Hp} {s:aat} {h':ae9}
theorem Cx.Ok.afT (ok:X.Ok) {b:abm} {o:Obj} (e:X.base.get? b=some o):b ∉ X.fs:=fun hb=>by
 have:=(ok.vD.mem hb).1
 rw [e] at this; cases this
theorem Inv.bs (I:Inv X pins σ H s):∀ b o,X.base.get? b=some o->s.heap.get? b=some o/\H b=none:=fun b o e =>
 ⟨I.base.keep b o (I.ok.bs b o e).1 (I.ok.bs b o e).2 (I.ok.afT e) (I.ok.O8 b o e),I.base.free b o (I.ok.bs b o e).1 (I.ok.bs b o e).2 (I.ok.O8 b o e)⟩
theorem Inv.bk (I:Inv X pins σ H s):∀ b o,X.base.get? b=some o->s.heap.get? b=some o:=fun b o e=>(I.bs b o e).1
theorem Inv.mod (I:Inv X pins σ H s):Mod X.K X.mg X.base:=I.ok.mod
theorem Inv.CN (I:Inv X pins σ H s):X.K.In s.heap:=I.ok.mod.kin.keeps I.bk
theorem Inv.lt (I:Inv X pins σ H s):X.env.locals<s.heap.objs.size:=let ⟨_,hn,_⟩:=I.loc; hn.lt
theorem Inv.sz (I:Inv X pins σ H s):X.s₀.heap.objs.size<=s.heap.objs.size:=adS I.ok.above (afN I.lt)
theorem Inv.afU (I:Inv X pins σ H s) {a:abm} (h:s.heap.objs.size<=a):a ∉ X.fs:=fun hb=>by
 obtain ⟨_,o,ho,_⟩:=I.ok.vD.mem hb
 exact absurd (ado (abf ho) (adS I.sz h)) (agJ _)
theorem Inv.YZ (I:Inv X pins σ H s):∀ x c,X.env.cells.lookup x=some c->c≠X.env.locals:=fun x c e z=>by
 obtain ⟨v,o,ho,hd⟩:=I.cell x c e
 obtain ⟨m,⟨o',es,ep,ho',hd',_⟩,_⟩:=I.loc
 rw [z,ho'] at ho; cases ho; rw [hd'] at hd; cases hd
theorem Inv.vD (I:Inv X pins σ H s):s.heap.FunFrames X.base X.outer:=by
 have all:∀ (l:List Env),(∀ b∈frs l,b∈X.fs)->X.s₀.heap.FunFrames X.base l->s.heap.FunFrames X.base l:=by
   intro l
   induction l with
   | nil=>intro _ _; trivial
   | cons env r ih =>
     intro hs hl
     obtain ⟨hk,⟨L,o,hf,hn,ho,hd⟩,hr⟩:=hl
     have hL:L∈X.fs:=hs L (by unfold frs; rw [aeT,hf]; exact aaU)
     obtain ⟨sl,e⟩:=I.base.slot L o ho (I.ok.frf L hL) hL fun z=>I.ok.Kz L z hL
     exact ⟨hk,⟨L,_,hf,hn,e,hd⟩,ih (fun b hb=>hs b (by unfold frs; rw [aeT,hf]; exact aaM _ hb)) hr⟩
 exact all X.outer (fun _ hb=>hb) I.ok.vD
theorem Inv.stack (I:Inv X pins σ H s):s.heap.FunFrames X.base X.stack:=by
 rcases I.ok.stk with e | ⟨e,hf⟩
 . rw [e]; exact I.vD
 . rw [e]
   obtain ⟨m,hn,_⟩:=I.loc
   refine .cons (by rw [I.ok.kind]; decide) hf hn ?_ I.vD
   exact Heap.get?_none_of_le (adS I.ok.XR I.ok.above)
theorem Inv.Gj (I:Inv X pins σ H s):∀ b∈frs X.stack,b∈X.env.locals :: X.fs:=fun b hb=>by
 rcases I.ok.stk with e | ⟨e,hf⟩
 . rw [e] at hb; exact aaM _ hb
 . rw [e] at hb
   unfold frs at hb
   rw [aeT,hf] at hb
   exact hb
theorem Inv.Jd (I:Inv X pins σ H s):∀ b∈frs X.stack,H b=none:=fun b hb=>by
 rcases abz.mp (I.Gj b hb) with e | hb
 . rw [e]; exact I.free
 . obtain ⟨_,o,ho,_⟩:=I.ok.vD.mem hb
   exact I.base.free b o ho (I.ok.frf b hb) fun z=>I.ok.Kz b z hb
theorem Inv.step {g':Array aqs} {t':Nat} {d':Drawn} {ch:List abm} (I:Inv X pins σ H s)
   (hch:∀ b∈ch,(b∈X.ex∨X.s₀.heap.objs.size<=b)/\b≠X.env.locals/\(∀ x c,X.env.cells.lookup x=some c->c≠b)/\∀ p∈X.pn++pins,p.1≠b)
   (keep:∀ b o,b≠X.env.locals->b ∉ X.fs->b ∉ ch->s.heap.get? b=some o->H b=none->h'.get? b=some o)
   (slot:∀ b o,b≠X.env.locals->b∈X.fs->b ∉ ch->s.heap.get? b=some o->H b=none->∃ sl,h'.get? b=some { o with slots:=sl }) (free:∀ b o,b ∉ ch->s.heap.get? b=some o->H b=none->H' b=none)
   (there:∀ b o,b ∉ ch->s.heap.get? b=some o->∃ o',h'.get? b=some o')
   (tups:∀ b xs,H b=some (.tup xs)->H' b=some (.tup xs)) (Aq:∀ b o u,H b=some (.Jc o u)->H' b=some (.Jc o u)) (CK:∀ b ps,H b=some (.YW ps)->∃ more,H' b=some (.YW (ps++more)))
   (ns:∀ m,s.heap.Ns X.env.locals m->h'.Ns X.env.locals m) (hok:pP X.prog X.w H' h') (hg:aqj g') :
   Inv X pins σ H' { s with heap:=h',gens:=g',drawn:=d',toks:=t' }:=by
 have neL:∀ b o,X.s₀.heap.get? b=some o->b≠X.env.locals:=fun b o e=>acu (ado (abf e) I.ok.above)
 have neC:∀ b o,X.s₀.heap.get? b=some o->b ∉ X.ex->b ∉ ch:=fun b o e hx hb=>by
   rcases (hch b hb).1 with z | z
   . exact hx z
   . exact absurd (ado (abf e) z) (agJ _)
 have cellK:∀ x c,X.env.cells.lookup x=some c->∀ v,s.heap.IsCell c v->h'.IsCell c v:=fun x c e v ⟨o,ho,hd⟩=>by
   have nch:c ∉ ch:=fun z=>(hch c z).2.2.1 x c e rfl
   by_cases hc:c∈X.fs
   . obtain ⟨sl,q⟩:=slot c o (I.YZ x c e) hc nch ho (I.jQ x c e)
     exact ⟨_,q,hd⟩
   . exact ⟨o,keep c o (I.YZ x c e) hc nch ho (I.jQ x c e),hd⟩
 refine ⟨I.ok,I.os,hg,⟨fun b o e n hb hx=>?_,fun b o e n hb hx=>?_,fun b o e n hx=>?_,fun b o e hx=>?_,fun b xs e=>tups b xs (I.base.tups b xs e),fun b o xs e=>Aq b o xs (I.base.Aq b o xs e),fun b ps e=>?_⟩,?_,fun x c e=>?_,?_,fun x c e=>?_,fun p hp=>?_,hok,I.len⟩
 . exact keep b o (neL b o e) hb (neC b o e hx) (I.base.keep b o e n hb hx) (I.base.free b o e n hx)
 . obtain ⟨sl,e1⟩:=I.base.slot b o e n hb hx
   obtain ⟨sl',e2⟩:=slot b _ (neL b o e) hb (neC b o e hx) e1 (I.base.free b o e n hx)
   exact ⟨sl',e2⟩
 . obtain ⟨o',e1⟩:=I.base.there b o e hx
   exact free b o' (neC b o e hx) e1 (I.base.free b o e n hx)
 . obtain ⟨o',e1⟩:=I.base.there b o e hx
   exact there b o' (neC b o e hx) e1
 . obtain ⟨m1,e1⟩:=I.base.CK b ps e
   obtain ⟨m2,e2⟩:=CK b _ e1
   exact ⟨m1++m2,by rw [e2,Array.append_assoc]⟩
 . obtain ⟨m,hn,hl⟩:=I.loc
   refine ⟨m,ns m hn,fun i x v e1 e2 e3=>?_⟩
   obtain ⟨u,r,l⟩:=hl i x v e1 e2 e3
   refine ⟨u,r,?_⟩
   rcases l with l | ⟨k,c,e,z⟩
   . exact .inl l
   . exact .inr ⟨k,c,e,cellK x c e _ z⟩
 . obtain ⟨v,z⟩:=I.cell x c e
   exact ⟨v,cellK x c e v z⟩
 . obtain ⟨m,⟨o,_,_,ho,_⟩,_⟩:=I.loc
   exact free _ o (fun z=>(hch _ z).2.1 rfl) ho I.free
 . obtain ⟨v,o,ho,hd⟩:=I.cell x c e
   exact free c o (fun z=>(hch c z).2.2.1 x c e rfl) ho (I.jQ x c e)
 . obtain ⟨e,n,ne,nf,d⟩:=I.pin p hp
   have nch:p.1 ∉ ch:=fun z=>(hch p.1 z).2.2.2 p hp rfl
   exact ⟨keep p.1 p.2 ne nf nch e n,free p.1 p.2 nch e n,ne,nf,d⟩
theorem Inv.un {t':Nat} (I:Inv X pins σ H s) (u:Un X.fs [] H H' s.heap h') (hok:pP X.prog X.w H' h'):Inv X pins σ H' { s with heap:=h',toks:=t' }:=by
 obtain ⟨m,⟨o,es,ep,ho,r⟩,_⟩:=id I.loc
 obtain ⟨sl,hL⟩:=u.any ho I.free (by simp)
 exact I.step (g':=s.gens) (d':=s.drawn) (ch:=[]) (fun _ z=>nomatch z) (fun b o _ hb _ e n=>u.keep b o e n hb (by simp)) (fun b o _ hb _ e n=>u.slot b o e n hb (by simp)) (fun b o _ e n=>u.free b o e n (by simp)) (fun b o _ e=>u.there b o e (by simp)) u.tups u.Aq u.CK (fun m' hm=>by
   obtain ⟨o',es',ep',ho',r'⟩:=hm
   rw [ho] at ho'; cases ho'
   exact ⟨_,es',ep',hL,r'⟩) hok I.bare
theorem Inv.call {g':Array aqs} {t':Nat} {d':Drawn} {ch:List abm} (I:Inv X pins σ H s) (u:Un (frs X.stack) ch H H' s.heap h') (hok:pP X.prog X.w H' h') (hg:aqj g')
   (hch:∀ b∈ch,(b∈X.ex∨X.s₀.heap.objs.size<=b)/\b≠X.env.locals/\(∀ x c,X.env.cells.lookup x=some c->c≠b)/\∀ p∈X.pn++pins,p.1≠b) :
   Inv X pins σ H' { s with heap:=h',gens:=g',drawn:=d',toks:=t' }:=by
 obtain ⟨m,⟨o,es,ep,ho,r⟩,_⟩:=id I.loc
 obtain ⟨sl,hL⟩:=u.any ho I.free fun z=>(hch _ z).2.1 rfl
 exact I.step (ch:=ch) hch (fun b o hL hb hc e n=>u.keep b o e n (fun z=>(abz.mp (I.Gj b z)).elim hL hb) hc) (fun b o _ _ hc e n=>u.any e n hc) (fun b o hc e n=>u.free b o e n hc) (fun b o hc e=>u.there b o e hc) u.tups u.Aq u.CK (fun m' hm=>by
   obtain ⟨o',es',ep',ho',r'⟩:=hm
   rw [ho] at ho'; cases ho'
   exact ⟨_,es',ep',hL,r'⟩) hok hg
theorem Inv.turned {t':Nat} {it:abm} (I:Inv X pins σ H s) (k:∀ b o,b≠it->s.heap.get? b=some o->h'.get? b=some o) (hn:H it=none) (hL:it≠X.env.locals)
   (h1:it∈X.ex∨X.s₀.heap.objs.size<=it) (h2:∀ x c,X.env.cells.lookup x=some c->c≠it) (h3:∀ p∈X.pn++pins,p.1≠it):Inv X pins σ H { s with heap:=h',toks:=t' }:=by
 have nit:∀ b u,H b=some u->b≠it:=fun b u e z=>by rw [z,hn] at e; cases e
 refine I.step (g':=s.gens) (d':=s.drawn) (ch:=[it]) (fun b hb=>?_) (fun b o _ _ hc e _=>k b o (fun z=>hc (by simp [z])) e) (fun b o _ _ hc e _=>⟨o.slots,k b o (fun z=>hc (by simp [z])) e⟩) (fun _ _ _ _ n=>n)
   (fun b o hc e=>⟨o,k b o (fun z=>hc (by simp [z])) e⟩) (fun _ _ e=>e) (fun _ _ _ e=>e) (fun b ps e=>⟨#[],by rw [e]; simp⟩) (fun m hm=>?_) (fun b u e=>?_) I.bare
 . have e:b=it:=by simpa using hb
   subst e
   exact ⟨h1,hL,h2,h3⟩
 . obtain ⟨o,es,ep,ho,r⟩:=hm
   exact ⟨o,es,ep,k _ o (afv hL) ho,r⟩
 . refine (I.hok b u e).stay (fun c v hc q=>k c v ?_ q) (fun _ q=>q) fun _ _ q=>q
   rcases hc with z | z
   . rw [z]; exact nit b u e
   . exact nit c _ z
theorem Inv.tok (I:Inv X pins σ H s) (t:Nat):Inv X pins σ H { s with toks:=t }:=I.un (h':=s.heap) (t':=t) Un.refl I.hok
theorem Inv.kept {t':Nat} (I:Inv X pins σ H s) (k:∀ b u,s.heap.get? b=some u->h'.get? b=some u):Inv X pins σ H { s with heap:=h',toks:=t' }:=I.un (Un.kept k) (I.hok.kept k)
theorem Inv.laid {a:abm} {o:HO} {t':Nat} (I:Inv X pins σ H s) (k:∀ b u,s.heap.get? b=some u->h'.get? b=some u) (hp:s.heap.objs.size<=a) (new:cu X.prog X.w (upd H a o) h' a o) :
   Inv X pins σ (upd H a o) { s with heap:=h',toks:=t' }:=I.un (Un.laid k hp (I.hok.fresh hp)) (I.hok.laid k hp new)
theorem Inv.write {x e:abm} {o:HO} {t':Nat} (I:Inv X pins σ H s) (mu:Mut (H x)) (he:e=x∨H e=some (.own x)) (k:∀ b u,b≠e->s.heap.get? b=some u->h'.get? b=some u) (heo:∃ u,h'.get? e=some u)
   (new:cu X.prog X.w (upd H x o) h' x o):Inv X pins σ (upd H x o) { s with heap:=h',toks:=t' }:=I.un (Un.write mu he k heo) (I.hok.write mu he k heo new)
theorem Inv.Je {XS:List (abm × Obj)} (I:Inv X pins σ H s) (h:∀ p∈XS,s.heap.get? p.1=some p.2/\H p.1=none/\p.1≠X.env.locals/\p.1 ∉ X.fs/\∀ v,p.2.data≠.cell v):Inv X XS σ H s :=
 ⟨I.ok,I.os,I.bare,I.base,I.loc,I.cell,I.free,I.jQ,fun p hp=>(abq.mp hp).elim (fun z=>I.pin p (afM _ z)) (h p),I.hok,I.len⟩
theorem CP {N:List Str} (hN:N.Nodup) {i j:Nat} {x:Str} (a:N[i]?=some x) (b:N[j]?=some x):i=j:=by
 obtain ⟨h1,e1⟩:=acZ.mp a
 obtain ⟨h2,e2⟩:=acZ.mp b
 exact (aip hN).mp (e1.trans e2.symm)
theorem rQ {M:Model} {A:aeN} {E:aau->aat->Prop} {i:Nat} {x:Str} {v:V} {u:aau} {Q:Unit->aat->Prop} (I:Inv X pins σ H s) (hN:X.N.Nodup) (hi:X.N[i]?=some x) (hx:Loc X.env.scope x) (r:RelV v u)
   (h:∀ s',Inv X pins (σ.set i (some v)) H s'->(∃ a,afh a s.heap s'.heap/\(a=X.env.locals∨X.env.cells.lookup x=some a))->Q () s') (hf:X.fn x=true∨X.env.scope.names.lookup x=some .local:=by first | exact .inl rfl | exact .inr rfl | assumption):wpAny M A (storeName X.env x u) Q E s:=by
 obtain ⟨m,hn,hl⟩:=id I.loc
 have hcls:(X.env.scope.kind == .class || (X.env.scope.kind == .module && X.env.locals != X.env.globals))=false:=by rw [I.ok.kind]; rfl
 have am5:i<σ.length:=by rw [I.len]; exact (acZ.mp hi).1
 have YZ:=I.YZ
 have tracked:∀ {a:abm} {h':ae9},(∃ o,s.heap.get? a=some o/\H a=none)->afh a s.heap h'->pP X.prog X.w H h':=fun {a h'} ha hs b ob e=>by
   obtain ⟨_,_,hfree⟩:=ha
   refine (I.hok b ob e).stay (fun c w' hc q=>(hs.2 c ?_).trans q) (fun _ q=>q) fun _ _ q=>q
   rintro rfl
   rcases hc with rfl | hc
   . rw [hfree] at e; cases e
   . rw [hfree] at hc; cases hc
 rcases hx with hk | hk
 . refine wpAny_storeName_local hk hn (fun h' hn' hs=>?_) hcls
   obtain ⟨oL,_,_,hoL,_⟩:=id hn
   refine h _ ⟨I.ok,I.os,I.bare,⟨fun b o e n hb hx=>?_,fun b o e n hb hx=>?_,I.base.free,fun b o e hx=>?_,I.base.tups,I.base.Aq,I.base.CK⟩,⟨_,hn',fun j y v' e1 e2 e3=>?_⟩,fun y c e=>?_,I.free,I.jQ,fun p hp=>?_,tracked ⟨oL,hoL,I.free⟩ hs,by simpa using I.len⟩ ⟨_,hs,.inl rfl⟩
   . exact (hs.2 b (acu (ado (abf e) I.ok.above))).trans (I.base.keep b o e n hb hx)
   . obtain ⟨sl,e1⟩:=I.base.slot b o e n hb hx
     exact ⟨sl,(hs.2 b (acu (ado (abf e) I.ok.above))).trans e1⟩
   . obtain ⟨o',e1⟩:=I.base.there b o e hx
     exact ⟨o',(hs.2 b (acu (ado (abf e) I.ok.above))).trans e1⟩
   . by_cases hj:j=i
     . subst hj
       rw [hi] at e1; cases e1
       rw [amK am5] at e2
       cases e2
       exact ⟨u,r,.inl ⟨hk,by simp⟩⟩
     . rw [amd (afv hj)] at e2
       obtain ⟨u',r',q⟩:=hl j y v' e1 e2 e3
       refine ⟨u',r',?_⟩
       rcases q with ⟨k,e⟩ | ⟨k,c,e,z⟩
       . refine .inl ⟨k,?_⟩
         have:y≠x:=fun e=>hj (CP hN e1 (e ▸ hi))
         simp [this,e]
       . exact .inr ⟨k,c,e,z.sameBut hs (YZ y c e)⟩
   . obtain ⟨w',z⟩:=I.cell y c e
     exact ⟨w',z.sameBut hs (YZ y c e)⟩
   . obtain ⟨e,n,ne,nf,d⟩:=I.pin p hp
     exact ⟨(hs.2 p.1 ne).trans e,n,ne,nf,d⟩
 . have hfn:X.fn x=true:=by
     rcases hf with z | z
     . exact z
     . rw [z] at hk; cases hk
   obtain ⟨c,hc⟩:=I.ok.has x (.inl hk)
   obtain ⟨w',z⟩:=I.cell x c hc
   refine wpAny_storeName_cell I.ok.kind hk hc z (fun h' hc' hs=>?_)
   obtain ⟨oc,hoc,afV⟩:=id z
   refine h { s with heap:=h' } ⟨I.ok,I.os,I.bare,⟨fun b o e n hb hx=>?_,fun b o e n hb hx=>?_,I.base.free,fun b o e hx=>?_,I.base.tups,I.base.Aq,I.base.CK⟩,⟨m,hn.sameBut hs (afv (YZ x c hc)),fun j y v' e1 e2 e3=>?_⟩,fun y c' e=>?_,I.free,I.jQ,fun p hp=>?_,tracked ⟨oc,hoc,I.jQ x c hc⟩ hs,by simpa using I.len⟩ ⟨c,hs,.inr hc⟩
   . exact (hs.2 b (acu (ado (abf e) (I.ok.cab x c hfn hc)))).trans (I.base.keep b o e n hb hx)
   . obtain ⟨sl,e1⟩:=I.base.slot b o e n hb hx
     exact ⟨sl,(hs.2 b (acu (ado (abf e) (I.ok.cab x c hfn hc)))).trans e1⟩
   . obtain ⟨o',e1⟩:=I.base.there b o e hx
     exact ⟨o',(hs.2 b (acu (ado (abf e) (I.ok.cab x c hfn hc)))).trans e1⟩
   . by_cases hj:j=i
     . subst hj
       rw [hi] at e1; cases e1
       rw [amK am5] at e2
       cases e2
       exact ⟨u,r,.inr ⟨.inl hk,c,hc,hc'⟩⟩
     . rw [amd (afv hj)] at e2
       obtain ⟨u',r',q⟩:=hl j y v' e1 e2 e3
       refine ⟨u',r',?_⟩
       rcases q with q | ⟨k,c',e,z'⟩
       . exact .inl q
       . refine .inr ⟨k,c',e,z'.sameBut hs ?_⟩
         rintro rfl
         exact hj (CP hN e1 (I.ok.inj _ _ _ e hc ▸ hi))
   . by_cases hcc:c'=c
     . subst hcc; exact ⟨_,hc'⟩
     . obtain ⟨w2,z2⟩:=I.cell y c' e
       exact ⟨w2,z2.sameBut hs hcc⟩
   . obtain ⟨e,n,ne,nf,d⟩:=I.pin p hp
     refine ⟨(hs.2 p.1 ?_).trans e,n,ne,nf,d⟩
     intro q
     rw [q,hoc] at e
     have q':oc=p.2:=ac8 e
     exact d w' (by rw [<- q']; exact afV)
theorem CQ {M:Model} {A:aeN} {E:aau->aat->Prop} {i:Nat} {x:Str} {v:V} {u:aau} {Q:Unit->aat->Prop} (I:Inv X pins σ H s) (hN:X.N.Nodup) (hi:X.N[i]?=some x) (hx:Loc X.env.scope x) (r:RelV v u)
   (h:∀ s',Inv X pins (σ.set i (some v)) H s'->Q () s') (hf:X.fn x=true∨X.env.scope.names.lookup x=some .local:=by first | exact .inl rfl | exact .inr rfl | assumption):wpAny M A (storeName X.env x u) Q E s :=
 rQ I hN hi hx r (fun s' I' _=>h s' I') hf
theorem Inv.call' {s':aat} {ch:List abm} (I:Inv X pins σ H s) (ho:s'.os=s.os) (u:Un (frs X.stack) ch H H' s.heap s'.heap) (hok:pP X.prog X.w H' s'.heap) (hg:aqj s'.gens)
   (hch:∀ b∈ch,(b∈X.ex∨X.s₀.heap.objs.size<=b)/\b≠X.env.locals/\(∀ x c,X.env.cells.lookup x=some c->c≠b)/\∀ p∈X.pn++pins,p.1≠b):Inv X pins σ H' s':=by
 obtain ⟨h',g',d',t',o'⟩:=s'
 have e:o'=s.os:=ho
 subst e
 exact I.call (g':=g') (t':=t') (d':=d') u hok hg hch
end
abbrev XK:=aau->Option abm->Hp->Prop
abbrev St:=List (Option V)
abbrev VK:=V->Hp->Prop
abbrev TE:=St->Hp->VK->Prop
abbrev TT:=St->Hp->(Bool->Hp->Prop)->Prop
abbrev TA:=St->Hp->(List V->Hp->Prop)->Prop
structure Ends where
 nx:St->Hp->Prop
 rt:VK
 bk:St->Hp->Prop:=fun _ _=>False
 ct:St->Hp->Prop:=fun _ _=>False
abbrev TS:=Ends->St->Hp->Prop
def EP (X:Cx) (pins:List (abm × Obj)) (σ:St) (Q:VK) (u:aau) (s':aat):Prop:=∃ v H',Inv X pins σ H' s'/\RelV v u/\Q v H'
def TP (X:Cx) (pins:List (abm × Obj)) (σ:St) (Q:Bool->Hp->Prop) (b:Bool) (s':aat):Prop:=∃ H',Inv X pins σ H' s'/\Q b H'
def AP (X:Cx) (pins:List (abm × Obj)) (σ:St) (Q:List V->Hp->Prop) (us:List aau) (s':aat):Prop:=∃ vs H',Inv X pins σ H' s'/\Vals vs us/\Q vs H'
def SP (X:Cx) (pins:List (abm × Obj)) (D:Ends) (f:Flow) (s':aat):Prop :=
 match f with
 | .next=>∃ σ' H',Inv X pins σ' H' s'/\D.nx σ' H'
 | .brk=>∃ σ' H',Inv X pins σ' H' s'/\D.bk σ' H'
 | .cont=>∃ σ' H',Inv X pins σ' H' s'/\D.ct σ' H'
 | .ret u=>∃ v σ' H',Inv X pins σ' H' s'/\RelV v u/\D.rt v H'
def PE (X:Cx) (e:Expr) (t:TE):Prop :=
 ∀ (pins:List (abm × Obj)) (s:aat) (σ:St) (H:Hp) (Q:VK),Inv X pins σ H s->t σ H Q->wpAny (model X.prog X.w) X.A (eval e X.env) (EP X pins σ Q) X.xe s
def PT (X:Cx) (e:Expr) (t:TT):Prop :=
 ∀ (pins:List (abm × Obj)) (s:aat) (σ:St) (H:Hp) (Q:Bool->Hp->Prop),Inv X pins σ H s->t σ H Q->wpAny (model X.prog X.w) X.A (isTrue e X.env (eval e X.env)) (TP X pins σ Q) X.xe s
def PW (X:Cx) (e:Expr) (t:TT):Prop :=
 ∀ (whole:Sem aau) (pins:List (abm × Obj)) (s:aat) (σ:St) (H:Hp) (Q:Bool->Hp->Prop),Inv X pins σ H s->t σ H Q->wpAny (model X.prog X.w) X.A (isTrue e X.env whole) (TP X pins σ Q) X.xe s
theorem PW.pt {X:Cx} {e:Expr} {t:TT} (h:PW X e t):PT X e t:=h _
def PA (X:Cx) (es:List Expr) (t:TA):Prop :=
 ∀ (pos:Pos) (pins:List (abm × Obj)) (s:aat) (σ:St) (H:Hp) (Q:List V->Hp->Prop),Inv X pins σ H s->t σ H Q->wpAny (model X.prog X.w) X.A (spliced (backTo pos (starEach es X.env))) (AP X pins σ Q) X.xe s
def PS (X:Cx) (st:ane) (t:TS):Prop :=
 ∀ (pins:List (abm × Obj)) (s:aat) (σ:St) (H:Hp) (D:Ends),Inv X pins σ H s->t D σ H->wpAny (model X.prog X.w) X.A (exec st X.env) (SP X pins D) X.xe s
def Oq (X:Cx) (st:List ane) (t:TS):Prop :=
 ∀ (pins:List (abm × Obj)) (s:aat) (σ:St) (H:Hp) (D:Ends),Inv X pins σ H s->t D σ H->wpAny (model X.prog X.w) X.A (execs st X.env) (SP X pins D) X.xe s
theorem dw {α:Type} {t:Sem α} {Q Q':α->aat->Prop} {M:Model} {A:aeN} {E:aau->aat->Prop} {s:aat} (h:wpAny M A t Q E s) (hQ:∀ a s,Q a s->Q' a s):wpAny M A t Q' E s:=ae5 h hQ fun _ _ x=>x
end L2
namespace L2
open PySem PySem.Spec PyProof.Rows
section
variable {X:Cx}
def afW (i:Nat):TE:=fun σ H Q=>∃ v,σ[i]?=some (some v)/\Q v H
def tC (v:V):TE:=fun _ H Q=>Q v H
theorem Y0 {i:Nat} {x:Str} {pos:Pos} (hN:X.N[i]?=some x) (hv:Vis X.env.scope x) (hd:(x == ("__debug__" : Str))=false:=by decide) (hcd:(x == ("__classdict__" : Str))=false:=by decide):PE X (.Name x pos) (afW i):=by
 intro pins s σ H Q I h
 obtain ⟨v,e,h⟩:=h
 obtain ⟨m,hn,hl⟩:=I.loc
 obtain ⟨u,r,l⟩:=hl i x v hN e hv
 have fin:EP X pins σ Q u s:=⟨v,H,I,r,h⟩
 rcases l with ⟨hk,hm⟩ | ⟨hk,c,hc,hcell⟩
 . exact arl (wpAny_loadName_local I.ok.kind hk hn hm fin) hd
 . rcases hk with hk | hk
   . exact arl (wpAny_loadName_cell I.ok.kind hk hc hcell fin) hd
   . exact arl (wpAny_loadName_free I.ok.kind hk hc hcell fin hcd) hd
theorem aC {i j pos}:PE X (.Constant (.int i) j pos) (tC (.int i)):=fun _ _ _ H _ I h=>wpAny_Constant_int ⟨.int i,H,I.tok _,⟨_,rfl⟩,h⟩
theorem je {b j pos}:PE X (.Constant (.bool b) j pos) (tC (.bl b)):=fun _ _ _ H _ I h=>Constant_bool ⟨.bl b,H,I,rfl,h⟩
theorem O9 {j pos}:PE X (.Constant .none j pos) (tC .non):=fun _ _ _ H _ I h=>Constant_none ⟨.non,H,I,rfl,h⟩
theorem Gk {x j pos}:PE X (.Constant (.str x) j pos) (tC (.str x)):=fun _ _ _ H _ I h=>Calls.Constant_str ⟨.str x,H,I.tok _,⟨_,rfl⟩,h⟩
def Gl (X:Cx) (x:Str):Prop:=X.env.kindOf x=some .globalImplicit
theorem Jf {E:aau->aat->Prop} {pins:List (abm × Obj)} {s:aat} {σ:St} {H:Hp} {x:Str} {u:aau} {pos:Pos} {Q:aau->aat->Prop} (I:Inv X pins σ H s) (hg:Gl X x) (hm:X.mg x=some u) (h:Q u s)
   (hd:(x == ("__debug__" : Str))=false:=by decide):wpAny (model X.prog X.w) X.A (eval (.Name x pos) X.env) Q E s :=
 anL I.ok.kind hg (Calls.loadGlobal_global (by rw [I.ok.glob]; exact I.mod.glob.keeps I.bk) hm h) hd
theorem rR {E:aau->aat->Prop} {pins:List (abm × Obj)} {s:aat} {σ:St} {H:Hp} {x:Str} {u:aau} {pos:Pos} {Q:aau->aat->Prop} (I:Inv X pins σ H s) (hg:Gl X x) (hm:X.mg x=none) (hv:bootBuiltins x=some u) (h:Q u s)
   (hn:x≠"__name__":=by decide) (hd:(x == ("__debug__" : Str))=false:=by decide):wpAny (model X.prog X.w) X.A (eval (.Name x pos) X.env) Q E s:=by
 obtain ⟨mb,h1,h2⟩:=I.mod.blt
 exact anL I.ok.kind hg (Calls.loadGlobal_builtin (by rw [I.ok.glob]; exact I.mod.glob.keeps I.bk) hm (by rw [I.ok.blt]; exact h1.keeps I.bk) ((h2 x hn).trans hv) h) hd
theorem uV {x:Str} {v:V} {u:aau} {pos:Pos} (hg:Gl X x) (hm:X.mg x=some u) (r:RelV v u) (hd:(x == ("__debug__" : Str))=false:=by decide):PE X (.Name x pos) (tC v) :=
 fun _ _ _ H _ I h=>Jf I hg hm ⟨v,H,I,r,h⟩ hd
theorem jg {x:Str} {v:V} {u:aau} {pos:Pos} (hg:Gl X x) (hm:X.mg x=none) (hv:bootBuiltins x=some u) (r:RelV v u) (hn:x≠"__name__":=by decide) (hd:(x == ("__debug__" : Str))=false:=by decide):PE X (.Name x pos) (tC v) :=
 fun _ _ _ H _ I h=>rR I hg hm hv ⟨v,H,I,r,h⟩ hn hd
variable {a b:Expr} {ta tb:TE} {pos:Pos}
def PC (X:Cx) (op:arE) (a b:Expr) (t:TE):Prop :=
 ∀ (pins:List (abm × Obj)) (s:aat) (σ:St) (H:Hp) (Q:VK),Inv X pins σ H s->t σ H Q ->
   wpAny (model X.prog X.w) X.A (eval a X.env) (fun v s₁=>wpAny (model X.prog X.w) X.A (eval b X.env) (fun u s₂=>wpAny (model X.prog X.w) X.A (compareOp op v u) (EP X pins σ Q) X.xe s₂) X.xe s₁) X.xe s
def tB (t:TE):TT:=fun σ H Q=>t σ H fun x H1=>∃ c,x=.bl c/\Q c H1
theorem Av {op:arE} {t:TE} (h:PC X op a b t) (h1:behindInMarks op b=false:=by first | exact abB _ (by decide) (by decide) | rfl):PT X (.Compare a [op] [b] pos) (tB t):=by
 intro pins s σ H Q I hw
 refine apl (dw (h pins s σ H _ I hw) fun v s1 h1=>dw h1 fun u s2 h2=>dw h2 fun c s3 ⟨x,H1,I1,r1,q1⟩=>?_) h1
 obtain ⟨d,rfl,q⟩:=q1
 cases r1
 exact aft ⟨H1,I1,q⟩
variable {tA UW:TT} {rest:List Expr}
def abC (t u:TT):TT:=fun σ H Q=>t σ H fun c H1=>if c=true then u σ H1 Q else Q false H1
def tOr (t u:TT):TT:=fun σ H Q=>t σ H fun c H1=>if c=true then Q true H1 else u σ H1 Q
def afX (t:TT):TT:=fun σ H Q=>t σ H fun c H1=>Q (!c) H1
theorem pw_and1 (ha:PT X a tA):PW X (.BoolOp .And [a] pos) tA:=by
 intro wh pins s σ H Q I h
 refine isTrue_and (dw (ha pins s σ H Q I h) fun c s1 e=>?_)
 cases c with
 | true=>exact isTrue_and_nil e
 | false=>exact e
theorem pw_or1 (ha:PT X a tA):PW X (.BoolOp .Or [a] pos) tA:=by
 intro wh pins s σ H Q I h
 refine isTrue_or (dw (ha pins s σ H Q I h) fun c s1 e=>?_)
 cases c with
 | false=>exact isTrue_or_nil e
 | true=>exact e
theorem pw_and (ha:PT X a tA) (hb:PW X (.BoolOp .And (b :: rest) pos) UW):PW X (.BoolOp .And (a :: b :: rest) pos) (abC tA UW):=by
 intro wh pins s σ H Q I h
 refine isTrue_and (dw (ha pins s σ H _ I h) fun c s1 ⟨H1,I1,q1⟩=>?_)
 cases c with
 | true=>exact hb wh pins s1 σ H1 Q I1 q1
 | false=>exact ⟨H1,I1,q1⟩
theorem pw_or (ha:PT X a tA) (hb:PW X (.BoolOp .Or (b :: rest) pos) UW):PW X (.BoolOp .Or (a :: b :: rest) pos) (tOr tA UW):=by
 intro wh pins s σ H Q I h
 refine isTrue_or (dw (ha pins s σ H _ I h) fun c s1 ⟨H1,I1,q1⟩=>?_)
 cases c with
 | true=>exact ⟨H1,I1,q1⟩
 | false=>exact hb wh pins s1 σ H1 Q I1 q1
theorem dN (ha:PT X a tA):PT X (.UnaryOp .Not a pos) (afX tA):=by
 intro pins s σ H Q I h
 exact isTrue_not (ha pins s σ H (fun c H1=>Q (!c) H1) I h)
theorem kW {op} {t:TE} (h:PE X a t):PE X (.BoolOp op [a] pos) t:=fun pins s σ H Q I hw=>BoolOp_one (h pins s σ H Q I hw)
end
end L2
namespace L2
open PySem PySem.Spec PyProof.Rows
def bY (K:aas) (H:Hp) (a:abm) (xs:List V):Prop :=
 Rd H a (.lst xs) ∨
   ∃ (o:Obj) (its:Array aau) (n:Nat),K.lookup a=some o/\o.cls=.type "list"/\o.dict=none/\o.data=.seq its n/\its.size<=sizeLine/\Vals xs its.toList
def bA (K:aas) (H:Hp) (a:abm) (xs:List V):Prop :=
 Rd H a (.tup xs) ∨
   ∃ (o:Obj) (its:Array aau) (n:Nat),K.lookup a=some o/\o.cls=.type "tuple"/\o.data=.seq its n/\its.size<=sizeLine/\Vals xs its.toList
def afY:aau->Option V
 | .none=>some .non
 | .bool b=>some (.bl b)
 | .int i _=>some (.int i)
 | .str x _=>some (.str x)
 | .bytes b _=>some (.O6 b)
 | .float b _=>some (.flt b)
 | .ref a=>some (.ref a)
 | .type n=>some (.ty n)
 | _=>none
theorem RelV.abs {x:V} {u:aau} (r:RelV x u):afY u=some x:=by
 cases x with
 | non=>cases r; rfl
 | bl _=>cases r; rfl
 | int _=>obtain ⟨t,rfl⟩:=r; rfl
 | str _=>obtain ⟨t,rfl⟩:=r; rfl
 | O6 _=>obtain ⟨t,rfl⟩:=r; rfl
 | flt _=>obtain ⟨t,rfl⟩:=r; rfl
 | ref _=>cases r; rfl
 | ty _=>cases r; rfl
theorem RelV.inj {x y:V} {u:aau} (r:RelV x u) (q:RelV y u):x=y:=ac8 (r.abs.symm.trans q.abs)
theorem Vals.inj:∀ {xs ys:List V} {us:List aau},Vals xs us->Vals ys us->xs=ys
 | _,_,_,.nil,.nil=>rfl
 | _,_,_,.cons r t,.cons r' t'=>by rw [r.inj r',Vals.inj t t']
section
variable {X:Cx} {pins:List (abm × Obj)} {σ:St} {H:Hp} {s:aat} {a:abm} {xs ys:List V}
theorem bY.of {K:aas} (h:H a=some (.lst xs)):bY K H a xs:=.inl (.inl h)
theorem bA.of {K:aas} (h:H a=some (.tup xs)):bA K H a xs:=.inl (.inl h)
theorem Inv.list (I:Inv X pins σ H s) (h:bY X.K H a xs):∃ its:List aau,Vals xs its/\PlainL s.heap a its.toArray/\xs.length<=sizeLine:=by
 rcases h with h | ⟨o,its,n,hk,hc,hd,hs,hz,r⟩
 . obtain ⟨z,its,n,r,e⟩:=h.ok I.hok
   exact ⟨its,r,⟨_,n,e,rfl,rfl,rfl⟩,z⟩
 . refine ⟨its.toList,r,⟨o,n,I.CN a o hk,hc,hd,by simpa using hs⟩,?_⟩
   have e:=r.length
   simp only [abr] at e
   omega
theorem Inv.tuple (I:Inv X pins σ H s) (h:bA X.K H a xs):∃ its:List aau,Vals xs its/\aq9 s.heap a its.toArray/\xs.length<=sizeLine:=by
 rcases h with h | ⟨o,its,n,hk,hc,hs,hz,r⟩
 . obtain ⟨z,its,r,p⟩:=h.ok I.hok
   exact ⟨its,r,p.to,z⟩
 . refine ⟨its.toList,r,⟨o,I.CN a o hk,hc,n,by simpa using hs⟩,?_⟩
   have e:=r.length
   simp only [abr] at e
   omega
theorem Inv.Pa (I:Inv X pins σ H s) (h:bY X.K H a xs) (h':bY X.K H a ys):xs=ys:=by
 obtain ⟨its,r,⟨o,n,e,_,_,d⟩,_⟩:=I.list h
 obtain ⟨its',r',⟨o',n',e',_,_,d'⟩,_⟩:=I.list h'
 rw [e] at e'; cases e'
 rw [d] at d'
 injection d' with d1 _
 have:its=its':=by simpa using congrArg Array.toList d1
 subst this
 exact r.inj r'
theorem Inv.KC (I:Inv X pins σ H s) (h:bA X.K H a xs) (h':bA X.K H a ys):xs=ys:=by
 obtain ⟨its,r,⟨o,e,_,n,d⟩,_⟩:=I.tuple h
 obtain ⟨its',r',⟨o',e',_,n',d'⟩,_⟩:=I.tuple h'
 rw [e] at e'; cases e'
 rw [d] at d'
 injection d' with d1 _
 have:its=its':=by simpa using congrArg Array.toList d1
 subst this
 exact r.inj r'
end
abbrev Cx.wish (X:Cx) (E:aau->aat->Prop):Cx:={ X with xe:=E }
abbrev Cx.nox (X:Cx):Cx:=X.wish fun _ _=>False
theorem Cx.Ok.wish {X:Cx} (ok:X.Ok) (E:aau->aat->Prop):(X.wish E).Ok :=
 ⟨ok.mod,ok.kind,ok.glob,ok.blt,ok.above,ok.inj,ok.has,ok.cab,ok.hd,ok.frames,ok.stk,ok.exf,ok.bs,ok.XR,ok.O8,ok.Kz,ok.vD,ok.frf⟩
theorem Cx.Ok.mC {X:Cx} {E:aau->aat->Prop} (ok:(X.wish E).Ok):X.Ok :=
 ⟨ok.mod,ok.kind,ok.glob,ok.blt,ok.above,ok.inj,ok.has,ok.cab,ok.hd,ok.frames,ok.stk,ok.exf,ok.bs,ok.XR,ok.O8,ok.Kz,ok.vD,ok.frf⟩
section
variable {X:Cx} {pins:List (abm × Obj)} {σ:St} {H:Hp} {s:aat} {E:aau->aat->Prop}
theorem Inv.wish (I:Inv X pins σ H s) (E:aau->aat->Prop):Inv (X.wish E) pins σ H s:=⟨I.ok.wish E,I.os,I.bare,I.base,I.loc,I.cell,I.free,I.jQ,I.pin,I.hok,I.len⟩
theorem Inv.mC (I:Inv (X.wish E) pins σ H s):Inv X pins σ H s:=⟨I.ok.mC,I.os,I.bare,I.base,I.loc,I.cell,I.free,I.jQ,I.pin,I.hok,I.len⟩
theorem SP.mC {D:Ends} {f:Flow} {s':aat} (h:SP (X.wish E) pins D f s'):SP X pins D f s':=by
 cases f with
 | next=>obtain ⟨σ',H',I,q⟩:=h; exact ⟨σ',H',I.mC,q⟩
 | brk=>obtain ⟨σ',H',I,q⟩:=h; exact ⟨σ',H',I.mC,q⟩
 | cont=>obtain ⟨σ',H',I,q⟩:=h; exact ⟨σ',H',I.mC,q⟩
 | ret u=>obtain ⟨v,σ',H',I,r,q⟩:=h; exact ⟨v,σ',H',I.mC,r,q⟩
theorem Oq.nox {st:List ane} {t:TS} (h:Oq X.nox st t):Oq X st t:=fun pins s σ H D I hw =>
 ae5 (h pins s σ H D (I.wish _) hw) (fun _ _ q=>q.mC) fun _ _ z=>ahV z
end
section
variable {X:Cx} {st:ane} {rest:List ane} {t u:TS} {e:Expr} {te:TE} {pos:Pos}
def abD:TS:=fun D σ H=>D.nx σ H
def Pg (t u:TS):TS:=fun D σ H=>t { D with nx:=u D } σ H
theorem bH:Oq X [] abD:=fun _ _ σ H _ I h=>apm ⟨σ,H,I,h⟩
theorem aB (h1:PS X st t) (h2:Oq X rest u):Oq X (st :: rest) (Pg t u):=by
 intro pins s σ H D I h
 refine wpAny_execs_cons (dw (h1 pins s σ H { D with nx:=u D } I h) fun f s1 q=>?_)
 cases f with
 | next =>
   obtain ⟨σ',H',I',q⟩:=q
   exact h2 pins s1 σ' H' D I' q
 | ret v=>exact q
 | brk=>exact q
 | cont=>exact q
theorem aG (h1:PS X st t):Oq X [st] t:=by
 intro pins s σ H D I h
 refine wpAny_execs_cons (dw (h1 pins s σ H D I h) fun f s1 q=>?_)
 cases f with
 | next=>exact apm q
 | ret v=>exact q
 | brk=>exact q
 | cont=>exact q
theorem Inv.quiet {pins:List (abm × Obj)} {σ:St} {H:Hp} {s:aat} (I:Inv X pins σ H s):interactive X.env=false:=by simp [interactive,I.ok.kind]
def abE (te:TE):TS:=fun D σ H=>te σ H fun _ H1=>D.nx σ H1
theorem iK (he:PE X e te) (hs:swapsWith e none pos.line X.env=pure false:=by rfl):PS X (.Expr e pos) (abE te):=by
 intro pins s σ H D I h
 exact wpAny_Expr_any (dw (he pins s σ H _ I h) fun v s1 ⟨x,H1,I1,r1,q1⟩=>⟨σ,H1,I1,q1⟩) I.quiet hs
def afZ (te:TE):TS:=fun D σ H=>te σ H D.rt
theorem aZ (he:PE X e te):PS X (.Return (some e) pos) (afZ te):=by
 intro pins s σ H D I h
 exact wpAny_Return_some (dw (he pins s σ H _ I h) fun v s1 ⟨x,H1,I1,r1,q1⟩=>⟨x,σ,H1,I1,r1,q1⟩)
def Ph (c:TT) (t u:TS):TS:=fun D σ H=>c σ H fun b H1=>if b=true then t D σ H1 else u D σ H1
theorem cP {c:Expr} {a b:List ane} {tc:TT} (hc:PT X c tc) (ha:Oq X a t) (hb:Oq X b u):PS X (.If c a b pos) (Ph tc t u):=by
 intro pins s σ H D I h
 refine wpAny_If (dw (hc pins s σ H _ I h) fun d s1 ⟨H1,I1,q1⟩=>?_)
 cases d with
 | true=>exact ha pins s1 σ H1 D I1 q1
 | false=>exact hb pins s1 σ H1 D I1 q1
def Y4:TS:=fun _ _ _=>False
theorem vG:PS X st Y4:=fun _ _ _ _ _ _ h=>h.elim
end
abbrev TG:=V->St->Hp->(St->Hp->Prop)->Prop
abbrev Y5:=List V->St->Hp->(St->Hp->Prop)->Prop
def PG (X:Cx) (target:Expr) (t:TG):Prop :=
 ∀ (pins:List (abm × Obj)) (s:aat) (σ:St) (H:Hp) (v:V) (u:aau) (Q:St->Hp->Prop),Inv X pins σ H s->RelV v u->t v σ H Q ->
   wpAny (model X.prog X.w) X.A (assign target X.env u) (fun _ s'=>∃ σ' H',Inv X pins σ' H' s'/\Q σ' H') X.xe s
def PGs (X:Cx) (ts:List Expr) (t:Y5):Prop :=
 ∀ (pins:List (abm × Obj)) (s:aat) (σ:St) (H:Hp) (vs:List V) (us:List aau) (Q:St->Hp->Prop),Inv X pins σ H s->Vals vs us->t vs σ H Q ->
   wpAny (model X.prog X.w) X.A (assignInOrder ((assignEach ts X.env).map (·.2)) us) (fun _ s'=>∃ σ' H',Inv X pins σ' H' s'/\Q σ' H') X.xe s
abbrev Y6:=V->V->V->Hp->(Hp->Prop)->Prop
def Y7 (X:Cx) (t:Y6):Prop :=
 ∀ (pins:List (abm × Obj)) (s:aat) (σ:St) (H:Hp) (o i v:V) (ov iv u:aau) (Q:Hp->Prop),Inv X pins σ H s->RelV o ov->RelV i iv->RelV v u->t o i v H Q ->
   wpAny (model X.prog X.w) X.A (setItem ov iv u) (fun _ s'=>∃ H',Inv X pins σ H' s'/\Q H') X.xe s
section
variable {X:Cx} {pos:Pos}
def CV (i:Nat):TG:=fun v σ H Q=>Q (σ.set i (some v)) H
theorem aH {i:Nat} {x:Str} (hN:X.N.Nodup) (hi:X.N[i]?=some x) (hx:Loc X.env.scope x) (hf:X.fn x=true∨X.env.scope.names.lookup x=some .local:=by first | exact .inl rfl | exact .inr rfl | assumption):PG X (.Name x pos) (CV i):=by
 intro pins s σ H v u Q I r h
 exact aom (CQ I hN hi hx r (fun s' I'=>⟨_,H,I',h⟩) hf)
def af0:Y5:=fun vs σ H Q=>vs=[]/\Q σ H
def abF (t:TG) (u:Y5):Y5:=fun vs σ H Q=>∃ v r,vs=v :: r/\t v σ H fun σ' H'=>u r σ' H' Q
theorem dg:PGs X [] af0:=by
 intro pins s σ H vs us Q I r h
 obtain ⟨e,h⟩:=h
 subst e
 cases r
 exact assignInOrder_nil ⟨σ,H,I,h⟩
theorem aR {e:Expr} {es:List Expr} {t:TG} {u:Y5} (h1:PG X e t) (h2:PGs X es u)
   (hs:(assignEach (e :: es) X.env).map (·.2)=assign e X.env :: (assignEach es X.env).map (·.2):=by rfl):PGs X (e :: es) (abF t u):=by
 intro pins s σ H vs us Q I r h
 obtain ⟨v,vr,e1,h⟩:=h
 subst e1
 cases r with
 | cons r rr =>
   rw [hs]
   refine assignInOrder_cons (dw (h1 pins s σ H _ _ _ I r h) fun _ s1 ⟨σ1,H1,I1,q1⟩=>?_)
   exact h2 pins s1 σ1 H1 _ _ Q I1 rr q1
def af2 (K:aas) (n:Nat) (t:Y5):TG:=fun v σ H Q=>∃ a xs,v=.ref a/\bA K H a xs/\xs.length=n/\t xs σ H Q
theorem eU {es:List Expr} {k:Nat} {t:Y5} {n:Nat} (hc:X.calm=true) (h:PGs X es t)
   (hn:(assignEach es X.env).length=n:=by rfl) (hst:(assignEach es X.env).findIdx? (·.1)=none:=by rfl):PG X (.Tuple es k pos) (af2 X.K n t):=by
 intro pins s σ H v u Q I r hw
 obtain ⟨a,xs,e1,hq,hl,hw⟩:=hw
 subst e1
 cases r
 obtain ⟨its,rv,ht,hz⟩:=I.tuple hq
 refine assign_Tuple_tuple (I.ok.hd hc) ht (by simp [hn,<- hl,rv.length]) hst fun h' hx=>?_
 have I1:Inv X pins σ H { s with heap:=h' }:=I.kept (t':=s.toks) fun b o e=>hx b o (acu (abf e)) e
 exact h pins _ σ H xs _ Q I1 (by simpa using rv) hw
def af3 (to ti:TE) (t:Y6):TG:=fun v σ H Q=>to σ H fun o H1=>ti σ H1 fun i H2=>t o i v H2 fun H3=>Q σ H3
theorem Pj {o i:Expr} {to ti:TE} {t:Y6} (ho:PE X o to) (hi:PE X i ti) (hs:Y7 X t)
   (ha:∀ v,assign (.Subscript o i pos) X.env v=(do
     let ov <- holding [v] (eval o X.env)
     let iv <- holding [v,ov] (eval i X.env)
     standAt pos
     holding [v,ov,iv] (setItem ov iv v)
     release [v,ov,iv] []):=by intro _; rfl):PG X (.Subscript o i pos) (af3 to ti t):=by
 intro pins s σ H v u Q I r h
 rw [ha]
 refine Fi (adQ (dw (ho pins s σ H _ I h) fun ov s1 ⟨x,H1,I1,r1,q1⟩=>?_))
 refine Fi (adQ (dw (hi pins s1 σ H1 _ I1 q1) fun iv s2 ⟨y,H2,I2,r2,q2⟩=>?_))
 refine Fi (agh (Fi (adQ (dw (hs pins s2 σ H2 x y v ov iv u _ I2 r1 r2 r q2) fun _ s3 ⟨H3,I3,q3⟩=>?_))))
 exact wpAny_release ⟨σ,H3,I3,q3⟩
def Pk (te:TE) (g:TG):TS:=fun D σ H=>te σ H fun x H1=>g x σ H1 D.nx
theorem vH {tg e:Expr} {te:TE} {g:TG} (he:PE X e te) (hg:PG X tg g) (hs:swapsWithSole [tg] e pos.line X.env=pure false:=by rfl) (hw:swappedStores [tg] e X.env=pure none:=by rfl)
   (h1:(assignEach [tg] X.env).map (·.2)=[assign tg X.env]:=by rfl):PS X (.Assign [tg] e pos) (Pk te g):=by
 intro pins s σ H D I h
 refine wpAny_Assign_stores (dw (he pins s σ H _ I h) fun v s1 ⟨x,H1,I1,r1,q1⟩=>?_) hs hw
 rw [h1]
 exact dw (hg pins s1 σ H1 x v _ I1 r1 q1) fun _ s2 q=>q
theorem aY {i:Nat} {x:Str} {e:Expr} {te:TE} {pos':Pos} (hN:X.N.Nodup) (hi:X.N[i]?=some x) (hx:Loc X.env.scope x) (he:PE X e te) (hs:swapsWith e (some (.Name x pos')) pos.line X.env=pure false:=by rfl) (hf:X.fn x=true∨X.env.scope.names.lookup x=some .local:=by first | exact .inl rfl | exact .inr rfl | assumption) :
   PS X (.Assign [.Name x pos'] e pos) (Pk te (CV i)):=by
 intro pins s σ H D I h
 refine wpAny_Assign_Name (dw (he pins s σ H _ I h) fun v s1 ⟨y,H1,I1,r1,q1⟩=>?_) hs
 exact CQ I1 hN hi hx r1 (fun s2 I2=>⟨_,H1,I2,q1⟩) hf
end
section
variable {X:Cx} {pos:Pos}
end
structure It where
 go:Nat->Hp->Prop
 Vh:Nat->Hp->V->Hp->Prop
 stop:Nat->Hp->Prop
def jq (X:Cx) (pins:List (abm × Obj)) (H:Hp) (b:abm):Prop :=
 H b=none/\b≠X.env.locals/\b ∉ X.fs/\(b∈X.ex∨X.s₀.heap.objs.size<=b)/\(∀ x c,X.env.cells.lookup x=some c->c≠b)/\∀ p∈X.pn++pins,p.1≠b
theorem Inv.CW {X:Cx} {pins:List (abm × Obj)} {σ:St} {H H':Hp} {s:aat} {b:abm} (I:Inv X pins σ H s) (hb:s.heap.objs.size<=b) (hn:H' b=none):jq X pins H' b:=by
 refine ⟨hn,aho (ado I.lt hb),I.afU hb,.inr (adS I.sz hb),fun x c e z=>?_,fun p hp z=>?_⟩
 . obtain ⟨v,q⟩:=I.cell x c e
   exact absurd (ado q.lt (by rw [z]; exact hb)) (agJ _)
 . exact absurd (ado (abf (I.pin p hp).1) (by rw [z]; exact hb)) (agJ _)
structure Turn (P:acs) (w:adH) (K:aas) (tg:Expr) (J:It) (fp:List abm) (it:abm) (tn:Nat->ae9->Prop):Prop where
 mem:it∈fp
 obj:∀ i h,tn i h->∀ b∈fp,∃ o,h.get? b=some o/\∀ v,o.data≠.cell v
 keep:∀ i h h',tn i h->(∀ b∈fp,∀ o,h.get? b=some o->h'.get? b=some o)->tn i h'
 item:∀ (X:Cx),X.prog=P->X.w=w->X.K=K->X.calm=true->∀ (i:Nat) (pins:List (abm × Obj)) (s:aat) (σ:St) (H:Hp) (E:aau->aat->Prop),Inv X pins σ H s->(∀ b∈fp,jq X pins H b)->tn i s.heap->J.go i H ->
   wpAny (model P w) X.A (pyNext (.ref it)) (fun r s1=>∃ u,r=some u /\
     wpAny (model P w) X.A (letOwnedTupleGo tg (.ref it) u) (fun _ s2=>∃ x H',Inv X pins σ H' s2/\RelV x u/\J.Vh i H x H'/\tn (i+1) s2.heap/\∀ b∈fp,H' b=none) E s1) E s
 done:∀ (X:Cx),X.prog=P->X.w=w->X.K=K->X.calm=true->∀ (i:Nat) (pins:List (abm × Obj)) (s:aat) (σ:St) (H:Hp) (E:aau->aat->Prop),Inv X pins σ H s->(∀ b∈fp,jq X pins H b)->tn i s.heap->J.stop i H ->
   wpAny (model P w) X.A (pyNext (.ref it)) (fun r s1=>r=none/\Inv X pins σ H s1) E s
 self:∀ (A:aeN) (i:Nat) (s:aat) (Q:aau->aat->Prop) (E:aau->aat->Prop),tn i s.heap->Q (.ref it) s->wpAny (model P w) A (pyIter (.ref it)) Q E s
abbrev TI:=St->Hp->(It->Hp->Prop)->Prop
def PIE (X:Cx) (pins:List (abm × Obj)) (σ:St) (tg:Expr) (R:It->Hp->Prop) (itv:aau) (s2:aat):Prop :=
 ∃ (it:abm) (fp:List abm) (tn:Nat->ae9->Prop) (J:It) (H':Hp),itv=.ref it/\Inv X pins σ H' s2/\Turn X.prog X.w X.K tg J fp it tn/\tn 0 s2.heap/\(∀ b∈fp,jq X pins H' b)/\R J H'
def PI (X:Cx) (tg iter:Expr) (wi:TI):Prop :=
 ∀ (pins:List (abm × Obj)) (s:aat) (σ:St) (H:Hp) (R:It->Hp->Prop),Inv X pins σ H s->wi σ H R ->
   wpAny (model X.prog X.w) X.A (eval iter X.env) (fun v s1=>wpAny (model X.prog X.w) X.A (pyIter v) (PIE X pins σ tg R) X.xe s1) X.xe s
theorem CZ {M:Model} {A:aeN} {E:aau->aat->Prop} {s:aat} {tg:Expr} {it:abm} {u:aau} {o:Obj} {n:String} {vs:Array aau} {Q:Unit->aat->Prop} (ho:s.heap.get? it=some o) (hc:o.cls=.type n) (hd:o.data=.fields vs)
   (hn:["enumerate","zip","dict_itemiterator","dict_reverseitemiterator","odict_iterator","itertools.zip_longest","itertools.pairwise"].contains n=false) (hQ:Q () s):wpAny M A (letOwnedTupleGo tg (.ref it) u) Q E s:=by
 unfold letOwnedTupleGo
 cases tg <;> first
   | exact aar hQ
   | (cases u <;> first
       | exact aar hQ
       | (refine Fi (arn ho ?_)
          rw [hc,hd]
          show wpAny M A (if (["enumerate","zip","dict_itemiterator","dict_reverseitemiterator","odict_iterator","itertools.zip_longest","itertools.pairwise"].contains n && vs[0]? == some (rawInt _))=true then _ else _) Q E s
          rw [if_neg (by intro h; rw [hn,amh] at h; cases h)]
          exact aar hQ))
def X3 (K:aas) (a:abm):It :=
 ⟨fun i H=>∃ xs x,bY K H a xs/\xs[i]?=some x,fun i H x H'=>H'=H/\∀ xs,bY K H a xs->xs[i]?=some x,fun i H=>∃ xs,bY K H a xs/\xs.length<=i⟩
def U0 (K:aas) (a:abm):It :=
 ⟨fun i H=>∃ xs x,bA K H a xs/\xs[i]?=some x,fun i H x H'=>H'=H/\∀ xs,bA K H a xs->xs[i]?=some x,fun i H=>∃ xs,bA K H a xs/\xs.length<=i⟩
def Y8 (lo:Int) (n:Nat):It:=⟨fun i _=>i<n,fun i H x H'=>H'=H/\x=.int (lo+i),fun i _=>n<=i⟩
theorem KD {P:acs} {w:adH} {K:aas} {tg:Expr} (a it:abm):Turn P w K tg (X3 K a) [it] it (fun i h=>h.IsListIter it a i) where
 mem:=by simp
 obj:=fun i h st b hb=>by
   have e:b=it:=by simpa using hb
   subst e
   obtain ⟨o,e,c,d⟩:=st
   exact ⟨o,e,fun v z=>by rw [d] at z; cases z⟩
 keep:=fun i h h' st k=>st.at fun o e=>k it (by simp) o e
 item:=by
   intro X hP hw hK hc i pins s σ H E I hf st hg
   subst hP hw hK
   obtain ⟨xs,x,hq,hx⟩:=hg
   obtain ⟨its,rv,p,hz⟩:=I.list hq
   obtain ⟨u,hu,ru⟩:=rv.get hx
   obtain ⟨f0,f1,f2,f3,f4,f5⟩:=hf it (by simp)
   refine ao7 st p.isList (x:=u) (by simpa using hu) fun h' st' sb=>?_
   have I1:Inv X pins σ H { s with heap:=h' }:=I.turned (t':=s.toks) (fun b o hb e=>(sb.2 b hb).trans e) f0 f1 f3 f4 f5
   obtain ⟨o,e,c,d⟩:=id st'
   exact ⟨u,rfl,CZ (s:={ s with heap:=h' }) e c d (by decide) ⟨x,H,I1,ru,⟨rfl,fun ys hy=>by rw [I.Pa hy hq]; exact hx⟩,st',fun b hb=>(hf b hb).1⟩⟩
 done:=by
   intro X hP hw hK hc i pins s σ H E I hf st hg
   subst hP hw hK
   obtain ⟨xs,hq,hx⟩:=hg
   obtain ⟨its,rv,p,hz⟩:=I.list hq
   obtain ⟨f0,f1,f2,f3,f4,f5⟩:=hf it (by simp)
   have hl:=rv.length
   exact apn (I.ok.hd hc) st p.isList (by simp; omega) fun h' eb=>⟨rfl,I.turned (t':=s.toks) (fun b o hb e=>eb b o hb e) f0 f1 f3 f4 f5⟩
 self:=fun _ _ _ _ _ st h=>wpAny_pyIter_listiter st h
theorem Gm {P:acs} {w:adH} {K:aas} {tg:Expr} (a it:abm):Turn P w K tg (U0 K a) [it] it (fun i h=>h.IsTupleIter it a i) where
 mem:=by simp
 obj:=fun i h st b hb=>by
   have e:b=it:=by simpa using hb
   subst e
   obtain ⟨o,e,c,d⟩:=st
   exact ⟨o,e,fun v z=>by rw [d] at z; cases z⟩
 keep:=fun i h h' st k=>st.at fun o e=>k it (by simp) o e
 item:=by
   intro X hP hw hK hc i pins s σ H E I hf st hg
   subst hP hw hK
   obtain ⟨xs,x,hq,hx⟩:=hg
   obtain ⟨its,rv,p,hz⟩:=I.tuple hq
   obtain ⟨u,hu,ru⟩:=rv.get hx
   obtain ⟨f0,f1,f2,f3,f4,f5⟩:=hf it (by simp)
   refine wpAny_pyNext_tuple_item st (show s.heap.IsTuple a its.toArray from p) (x:=u) (by simpa using hu) fun h' st' sb=>?_
   have I1:Inv X pins σ H { s with heap:=h' }:=I.turned (t':=s.toks) (fun b o hb e=>(sb.2 b hb).trans e) f0 f1 f3 f4 f5
   obtain ⟨o,e,c,d⟩:=id st'
   exact ⟨u,rfl,CZ (s:={ s with heap:=h' }) e c d (by decide) ⟨x,H,I1,ru,⟨rfl,fun ys hy=>by rw [I.KC hy hq]; exact hx⟩,st',fun b hb=>(hf b hb).1⟩⟩
 done:=by
   intro X hP hw hK hc i pins s σ H E I hf st hg
   subst hP hw hK
   obtain ⟨xs,hq,hx⟩:=hg
   obtain ⟨its,rv,p,hz⟩:=I.tuple hq
   obtain ⟨f0,f1,f2,f3,f4,f5⟩:=hf it (by simp)
   have hl:=rv.length
   exact wpAny_pyNext_tuple_end (I.ok.hd hc) st (show s.heap.IsTuple a its.toArray from p) (by simp; omega) fun h' eb=>⟨rfl,I.turned (t':=s.toks) (fun b o hb e=>eb b o hb e) f0 f1 f3 f4 f5⟩
 self:=fun _ _ _ _ _ st h=>wpAny_pyIter_tupleiter st h
theorem Gn {P:acs} {w:adH} {K:aas} {tg:Expr} (it:abm) (lo:Int) (n:Nat):Turn P w K tg (Y8 lo n) [it] it (fun i h=>IsRangeIter h it (lo+(i:Nat) * 1) ((n:Int)-(i:Nat)) 1) where
 mem:=by simp
 obj:=fun i h st b hb=>by
   have e:b=it:=by simpa using hb
   subst e
   exact ⟨_,st,fun v z=>by
     have z':ara _=aon v:=z
     cases z'⟩
 keep:=fun i h h' st k=>k it (by simp) _ st
 item:=by
   intro X hP hw hK hc i pins s σ H E I hf st hg
   subst hP hw hK
   obtain ⟨f0,f1,f2,f3,f4,f5⟩:=hf it (by simp)
   have W:=Walks.range (prog:=X.prog) (w:=X.w) (I.ok.hd hc) it lo 1 n
   refine W.item i s _ _ hg st fun v h' tk hv st' kk=>?_
   obtain ⟨t,rfl⟩:=hv
   have I1:Inv X pins σ H { s with heap:=h',toks:=tk }:=I.turned (fun b o hb e=>kk b o (by simpa using hb) e) f0 f1 f3 f4 f5
   refine ⟨_,rfl,CZ (s:={ s with heap:=h',toks:=tk }) (n:="range_iterator") st' rfl rfl (by decide) ⟨.int (lo+i),H,I1,⟨t,?_⟩,⟨rfl,rfl⟩,st',fun b hb=>(hf b hb).1⟩⟩
   rw [Int.mul_one]
 done:=by
   intro X hP hw hK hc i pins s σ H E I hf st hg
   subst hP hw hK
   obtain ⟨f0,f1,f2,f3,f4,f5⟩:=hf it (by simp)
   exact wpAny_pyNext_range_end (I.ok.hd hc) st (by have:n<=i:=hg; omega) fun h' eb=>⟨rfl,I.turned (t':=s.toks) (fun b o hb e=>eb b o hb e) f0 f1 f3 f4 f5⟩
 self:=fun _ _ _ _ _ st h=>wpAny_pyIter_rangeiter st h
end L2
namespace L2
open PySem PySem.Spec PyProof.Rows
section
variable {X:Cx} {tg:Expr}
def abG (K:aas) (tl:TE):TI:=fun σ H R=>tl σ H fun x H1=>∃ a,x=.ref a/\(∃ xs,bY K H1 a xs)/\R (X3 K a) H1
def af4 (K:aas) (tl:TE):TI:=fun σ H R=>tl σ H fun x H1=>∃ a,x=.ref a/\(∃ xs,bA K H1 a xs)/\R (U0 K a) H1
theorem iM {l:Expr} {tl:TE} (hl:PE X l tl):PI X tg l (abG X.K tl):=by
 intro pins s σ H R I h
 refine dw (hl pins s σ H _ I h) fun v s1 ⟨x,H1,I1,r1,q1⟩=>?_
 obtain ⟨a,e,⟨xs,hq⟩,q⟩:=q1
 subst e
 cases r1
 obtain ⟨its,rv,p,hz⟩:=I1.list hq
 refine amQ p.isList ?_
 refine ⟨s1.heap.objs.size,[s1.heap.objs.size],_,_,H1,rfl,I1.kept (t':=s1.toks) fun b o e=>aap _ e,KD a _,⟨_,aa8 _ rfl,rfl,rfl⟩,fun b hb=>?_,q⟩
 have e:b=s1.heap.objs.size:=by simpa using hb
 subst e
 exact I1.CW (aav _) (I1.hok.fresh (aav _))
theorem cI {l:Expr} {tl:TE} (hl:PE X l tl):PI X tg l (af4 X.K tl):=by
 intro pins s σ H R I h
 refine dw (hl pins s σ H _ I h) fun v s1 ⟨x,H1,I1,r1,q1⟩=>?_
 obtain ⟨a,e,⟨xs,hq⟩,q⟩:=q1
 subst e
 cases r1
 obtain ⟨its,rv,p,hz⟩:=I1.tuple hq
 refine amw (show s1.heap.IsTuple a its.toArray from p) ?_
 refine ⟨s1.heap.objs.size,[s1.heap.objs.size],_,_,H1,rfl,I1.kept (t':=s1.toks) fun b o e=>aap _ e,Gm a _,⟨_,aa8 _ rfl,rfl,rfl⟩,fun b hb=>?_,q⟩
 have e:b=s1.heap.objs.size:=by simpa using hb
 subst e
 exact I1.CW (aav _) (I1.hok.fresh (aav _))
theorem Pn {pins:List (abm × Obj)} {σ:St} {H:Hp} {s:aat} {R:It->Hp->Prop} {E:aau->aat->Prop} {lo hi:Int} {t u v:Tok} {tk:Nat} (I:Inv X pins σ H s) (h1:-(2 ^ 62)<=lo) (h2:lo<2 ^ 62) (h3:-(2 ^ 62)<=hi) (h4:hi<2 ^ 62)
   (q:R (Y8 lo (hi-lo).toNat) H):wpAny (model X.prog X.w) X.A (pyIter (.ref s.heap.objs.size)) (PIE X pins σ tg R) E { s with heap:=s.heap.push { cls:=.type "range",data:=.fields #[.int lo t,.int hi u,.int 1 v] },toks:=tk }:=by
 refine wpAny_pyIter_range (IsRange.new ..) (small_one h1 h2 h3 h4) ?_
 have I1:Inv X pins σ H { s with heap:=s.heap.push { cls:=.type "range",data:=.fields #[.int lo t,.int hi u,.int 1 v] },toks:=tk }:=I.kept fun b o e=>aap _ e
 refine ⟨(s.heap.push { cls:=.type "range",data:=.fields #[.int lo t,.int hi u,.int 1 v] }).objs.size,[(s.heap.push { cls:=.type "range",data:=.fields #[.int lo t,.int hi u,.int 1 v] }).objs.size],_,_,H,rfl,
   I1.kept (t':=tk) fun b o e=>aap _ e,Gn _ lo (hi-lo).toNat,?_,fun b hb=>?_,q⟩
 . have e1:lo+((0:Nat):Int) * 1=lo:=by simp
   have e2:(((hi-lo).toNat:Nat):Int)-((0:Nat):Int)=Builtin.Range.rangeSize lo hi 1:=by rw [rangeSize_one]; split <;> omega
   show IsRangeIter _ _ (lo+((0:Nat):Int) * 1) ((((hi-lo).toNat:Nat):Int)-((0:Nat):Int)) 1
   rw [e1,e2]
   exact aa8 _ rfl
 . have e:b=(s.heap.push { cls:=.type "range",data:=.fields #[.int lo t,.int hi u,.int 1 v] }).objs.size:=by simpa using hb
   subst e
   exact I1.CW (aav _) (I1.hok.fresh (aav _))
def abH (ta:TA):TI:=fun σ H R=>ta σ H fun vs H1=>∃ j:Int,vs=[.int j]/\-(2 ^ 62)<=j/\j<2 ^ 62/\R (Y8 0 j.toNat) H1
theorem gJ {a:Expr} {ta:TA} {p pos:Pos} (hg:Gl X "range") (hm:X.mg "range" = none) (ha:PA X [a] ta) (hs:starEach [a] X.env=[(false,eval a X.env)]:=by rfl):PI X tg (.Call (.Name "range" p) [a] [] pos) (abH ta):=by
 intro pins s σ H R I h
 refine Call_ (rR I hg hm boot_range (agV (dw (ha pos pins s σ H _ I h) fun us s1 ⟨vs,H1,I1,r1,q1⟩=>?_) hs rfl))
 obtain ⟨j,e,q1,q2,q⟩:=q1
 subst e
 cases r1 with
 | cons r rr =>
   cases rr
   obtain ⟨t,rfl⟩:=r
   exact call_range_1 (Pn I1 (by omega) (by omega) q1 q2 (by simpa using q))
def af5 (wi:TI) (g:TG) (tb:TS):TS:=fun D σ H=>wi σ H fun J H1=>∃ W:Nat->Nat->St->Hp->Prop,(∃ m,W 0 m σ H1)/\∀ i m σ H,W i m σ H ->
 (J.stop i H/\D.nx σ H)∨(J.go i H/\∃ N:St->Hp->Prop,(∀ σ' H',N σ' H'->∃ m',m'<m/\W (i+1) m' σ' H')/\∀ x H',J.Vh i H x H'->g x σ H' fun σ2 H2=>tb { D with nx:=N,ct:=N,bk:=D.nx } σ2 H2)
def rT (fp:List abm) (h:ae9):List (abm × Obj):=fp.filterMap fun b=>(h.get? b).map fun o=>(b,o)
theorem iy {fp:List abm} {h:ae9} {b:abm} {o:Obj} (hb:b∈fp) (e:h.get? b=some o):(b,o)∈rT fp h:=aiG.mpr ⟨b,hb,by rw [e]; rfl⟩
theorem KH {fp:List abm} {h:ae9} {p:abm × Obj} (hp:p∈rT fp h):p.1∈fp/\h.get? p.1=some p.2:=by
 obtain ⟨b,hb,e⟩:=aiG.mp hp
 cases q:h.get? b with
 | none=>rw [q] at e; cases e
 | some o =>
   rw [q] at e
   have e':(b,o)=p:=ac8 e
   subst e'
   exact ⟨hb,q⟩
theorem Inv.pinned {pins:List (abm × Obj)} {σ:St} {H:Hp} {s:aat} {fp:List abm} (I:Inv X pins σ H s) (hf:∀ b∈fp,jq X pins H b) (ho:∀ b∈fp,∃ o,s.heap.get? b=some o/\∀ v,o.data≠.cell v):Inv X (pins++rT fp s.heap) σ H s :=
 I.Je fun p hp=>(abq.mp hp).elim (fun z=>I.pin p (acU _ z)) fun z=>by
   obtain ⟨hb,e⟩:=KH z
   obtain ⟨f0,f1,f2,_⟩:=hf p.1 hb
   obtain ⟨o,e',d⟩:=ho p.1 hb
   rw [e] at e'; cases e'
   exact ⟨e,f0,f1,f2,d⟩
theorem Inv.mD {pins pl:List (abm × Obj)} {σ:St} {H:Hp} {s:aat} (I:Inv X (pins++pl) σ H s):Inv X pins σ H s:=I.Je fun p hp=>I.pin p (acU _ (afM _ hp))
theorem gC {iter:Expr} {body:List ane} {wi:TI} {g:TG} {tb:TS} {pos:Pos} (hp:PassesOwn (model X.prog X.w) X.A X.env X.xe) (hc:X.calm=true) (hi:PI X tg iter wi) (hg:PG X tg g) (hb:Oq X body tb)
   (hs:∀ x,foldedSetIterable iter X.env x=pure x:=by intro _; rfl):PS X (.For tg iter body [] pos) (af5 wi g tb):=by
 intro pins s σ H D I h
 refine wpAny_For (dw (hi pins s σ H _ I h) fun v s1 h1=>dw h1 fun itv s2 h2=>?_) hs
 obtain ⟨it,fp,tn,J,H2,e,I2,T,st2,f2,W,⟨m0,w0⟩,turn⟩:=h2
 subst e
 -- what stays true of the iterator's objects through the loop
 have stat:∀ {H':Hp},(∀ b∈fp,H' b=none)->∀ b∈fp,jq X pins H' b:=fun hn b hb=>⟨hn b hb,(f2 b hb).2⟩
 refine codeAny_forLoop_any (fun n s'=>∃ i σ' H',Inv X pins σ' H' s'/\tn i s'.heap/\(∀ b∈fp,H' b=none)/\W i n σ' H') ?_ m0 ⟨0,σ,H2,I2,st2,fun b hb=>(f2 b hb).1,w0⟩
 rintro n s3 ⟨i,σ3,H3,I3,st3,Y9,w3⟩
 rcases turn i n σ3 H3 w3 with ⟨stop,qn⟩ | ⟨go,N,hN,step⟩
 . refine amx hp (dw (T.done X rfl rfl rfl hc i pins s3 σ3 H3 X.xe I3 (stat Y9) st3 stop) fun r s4 ⟨hr,I4⟩=>?_)
   subst hr
   exact apm ⟨σ3,H3,I4,qn⟩
 . refine amx hp (dw (T.item X rfl rfl rfl hc i pins s3 σ3 H3 X.xe I3 (stat Y9) st3 go) fun r s4 ⟨u,hr,h4⟩=>?_)
   subst hr
   refine amx hp (dw h4 fun _ s5 ⟨x,H5,I5,r5,y5,st5,fr5⟩=>?_)
   have I5':=I5.pinned (stat fr5) (T.obj _ _ st5)
   refine amx hp (dw (hg _ s5 σ3 H5 x u _ I5' r5 (step x H5 y5)) fun _ s6 ⟨σ6,H6,I6,q6⟩=>?_)
   refine amx hp (dw (hb _ s6 σ6 H6 _ I6 q6) fun f s7 q7=>?_)
   have again:∀ {σ7:St} {H7:Hp},Inv X (pins++rT fp s5.heap) σ7 H7 s7->N σ7 H7->∃ m,m<n/\∃ i σ' H',Inv X pins σ' H' s7/\tn i s7.heap/\(∀ b∈fp,H' b=none)/\W i m σ' H':=fun {σ7 H7} I7 n7=>by
     obtain ⟨m',hm,w7⟩:=hN σ7 H7 n7
     refine ⟨m',hm,i+1,σ7,H7,I7.mD,T.keep _ _ _ st5 fun b hb o e=>(I7.pin (b,o) (acU _ (acU _ (iy hb e)))).1,fun b hb=>?_,w7⟩
     obtain ⟨o,e,d⟩:=T.obj _ _ st5 b hb
     exact (I7.pin (b,o) (acU _ (acU _ (iy hb e)))).2.1
   cases f with
   | next=>obtain ⟨σ7,H7,I7,n7⟩:=q7; exact again I7 n7
   | cont=>obtain ⟨σ7,H7,I7,n7⟩:=q7; exact again I7 n7
   | brk=>obtain ⟨σ7,H7,I7,q7⟩:=q7; exact ⟨σ7,H7,I7.mD,q7⟩
   | ret v=>obtain ⟨x7,σ7,H7,I7,r7,q7⟩:=q7; exact ⟨x7,σ7,H7,I7.mD,r7,q7⟩
end
theorem Dc {K:aas} {a:abm} {xs:List V} {g:TG} {tb:TS} {D:Ends} {σ:St} {H:Hp} (Pv:Nat->St->Hp->Prop) (h0:Pv 0 σ H) (hl:∀ i σ H,i<=xs.length->Pv i σ H->bY K H a xs)
   (hs:∀ i x σ H,xs[i]?=some x->Pv i σ H->g x σ H fun σ2 H2=>tb { D with nx:=Pv (i+1),ct:=Pv (i+1),bk:=D.nx } σ2 H2) (hd:∀ σ H,Pv xs.length σ H->D.nx σ H) :
   ∃ W:Nat->Nat->St->Hp->Prop,(∃ m,W 0 m σ H)/\∀ i m σ H,W i m σ H ->
     ((X3 K a).stop i H/\D.nx σ H)∨((X3 K a).go i H/\∃ N:St->Hp->Prop,(∀ σ' H',N σ' H'->∃ m',m'<m/\W (i+1) m' σ' H')/\∀ x H',(X3 K a).Vh i H x H'->g x σ H' fun σ2 H2=>tb { D with nx:=N,ct:=N,bk:=D.nx } σ2 H2):=by
 refine ⟨fun i m σ H=>m=xs.length-i/\i<=xs.length/\Pv i σ H,⟨xs.length,by simp,abV _,h0⟩,?_⟩
 rintro i m σ H ⟨rfl,hi,p⟩
 have q:=hl i σ H hi p
 by_cases hlt:i<xs.length
 . refine .inr ⟨⟨xs,xs[i],q,by simp [hlt]⟩,Pv (i+1),fun σ' H' p'=>⟨xs.length-(i+1),by omega,rfl,hlt,p'⟩,fun x H' y=>?_⟩
   obtain ⟨e,y⟩:=y
   subst e
   exact hs i x σ _ (y xs q) p
 . have e:i=xs.length:=by omega
   subst e
   exact .inl ⟨⟨xs,q,aav _⟩,hd σ H p⟩
theorem jB {K:aas} {a:abm} {xs:List V} {g:TG} {tb:TS} {D:Ends} {σ:St} {H:Hp} (Pv:Nat->St->Hp->Prop) (h0:Pv 0 σ H) (hl:∀ i σ H,i<=xs.length->Pv i σ H->bA K H a xs)
   (hs:∀ i x σ H,xs[i]?=some x->Pv i σ H->g x σ H fun σ2 H2=>tb { D with nx:=Pv (i+1),ct:=Pv (i+1),bk:=D.nx } σ2 H2) (hd:∀ σ H,Pv xs.length σ H->D.nx σ H) :
   ∃ W:Nat->Nat->St->Hp->Prop,(∃ m,W 0 m σ H)/\∀ i m σ H,W i m σ H ->
     ((U0 K a).stop i H/\D.nx σ H)∨((U0 K a).go i H/\∃ N:St->Hp->Prop,(∀ σ' H',N σ' H'->∃ m',m'<m/\W (i+1) m' σ' H')/\∀ x H',(U0 K a).Vh i H x H'->g x σ H' fun σ2 H2=>tb { D with nx:=N,ct:=N,bk:=D.nx } σ2 H2):=by
 refine ⟨fun i m σ H=>m=xs.length-i/\i<=xs.length/\Pv i σ H,⟨xs.length,by simp,abV _,h0⟩,?_⟩
 rintro i m σ H ⟨rfl,hi,p⟩
 have q:=hl i σ H hi p
 by_cases hlt:i<xs.length
 . refine .inr ⟨⟨xs,xs[i],q,by simp [hlt]⟩,Pv (i+1),fun σ' H' p'=>⟨xs.length-(i+1),by omega,rfl,hlt,p'⟩,fun x H' y=>?_⟩
   obtain ⟨e,y⟩:=y
   subst e
   exact hs i x σ _ (y xs q) p
 . have e:i=xs.length:=by omega
   subst e
   exact .inl ⟨⟨xs,q,aav _⟩,hd σ H p⟩
theorem jR {lo:Int} {n:Nat} {g:TG} {tb:TS} {D:Ends} {σ:St} {H:Hp} (Pv:Nat->St->Hp->Prop) (h0:Pv 0 σ H)
   (hs:∀ i σ H,i<n->Pv i σ H->g (.int (lo+i)) σ H fun σ2 H2=>tb { D with nx:=Pv (i+1),ct:=Pv (i+1),bk:=D.nx } σ2 H2) (hd:∀ σ H,Pv n σ H->D.nx σ H) :
   ∃ W:Nat->Nat->St->Hp->Prop,(∃ m,W 0 m σ H)/\∀ i m σ H,W i m σ H ->
     ((Y8 lo n).stop i H/\D.nx σ H)∨((Y8 lo n).go i H/\∃ N:St->Hp->Prop,(∀ σ' H',N σ' H'->∃ m',m'<m/\W (i+1) m' σ' H')/\∀ x H',(Y8 lo n).Vh i H x H'->g x σ H' fun σ2 H2=>tb { D with nx:=N,ct:=N,bk:=D.nx } σ2 H2):=by
 refine ⟨fun i m σ H=>m=n-i/\i<=n/\Pv i σ H,⟨n,by simp,abV _,h0⟩,?_⟩
 rintro i m σ H ⟨rfl,hi,p⟩
 by_cases hlt:i<n
 . refine .inr ⟨hlt,Pv (i+1),fun σ' H' p'=>⟨n-(i+1),by omega,rfl,hlt,p'⟩,fun x H' y=>?_⟩
   obtain ⟨e,y⟩:=y
   subst e y
   exact hs i σ _ hlt p
 . have e:i=n:=by omega
   subst e
   exact .inl ⟨aav _,hd σ H p⟩
end L2
namespace L2
open PySem PySem.Spec PyProof.Rows
abbrev R2:=V->V->Hp->VK->Prop
def gD (X:Cx) (f:aau->aau->Sem aau) (r:R2):Prop :=
 ∀ (pins:List (abm × Obj)) (s:aat) (σ:St) (H:Hp) (x y:V) (v u:aau) (Q:VK),Inv X pins σ H s->RelV x v->RelV y u->r x y H Q ->
   wpAny (model X.prog X.w) X.A (f v u) (EP X pins σ Q) X.xe s
def UnR (X:Cx) (f:aau->Sem aau) (r:V->Hp->VK->Prop):Prop :=
 ∀ (pins:List (abm × Obj)) (s:aat) (σ:St) (H:Hp) (x:V) (v:aau) (Q:VK),Inv X pins σ H s->RelV x v->r x H Q ->
   wpAny (model X.prog X.w) X.A (f v) (EP X pins σ Q) X.xe s
def gK (X:Cx) (f:aau) (r:List V->Hp->VK->Prop):Prop :=
 ∀ (pins:List (abm × Obj)) (s:aat) (σ:St) (H:Hp) (xs:List V) (us:List aau) (Q:VK),Inv X pins σ H s->Vals xs us->r xs H Q ->
   wpAny (model X.prog X.w) X.A (call f us) (EP X pins σ Q) X.xe s
def tOp (r:R2) (ta tb:TE):TE:=fun σ H Q=>ta σ H fun x H1=>tb σ H1 fun y H2=>r x y H2 Q
def tUn (r:V->Hp->VK->Prop) (ta:TE):TE:=fun σ H Q=>ta σ H fun x H1=>r x H1 Q
def rI (C:Int->Int->Prop) (g:Int->Int->V):R2:=fun x y H Q=>∃ i j,x=.int i/\y=.int j/\C i j/\Q (g i j) H
def U8 (g:Int->Int->V):R2:=fun x y H Q=>∃ i j,x=.int i/\y=.int j/\Q (g i j) H
section
variable {X:Cx} {a b c:Expr} {ta tb tc:TE} {pos:Pos}
theorem Za (ha:PE X a ta) (hb:PE X b tb) {pins:List (abm × Obj)} {s:aat} {σ:St} {H:Hp} {R:V->V->Hp->Prop} (I:Inv X pins σ H s)
   (h:ta σ H fun x H1=>tb σ H1 fun y H2=>R x y H2) {Q:aau->aat->Prop} {f:aau->aau->Sem aau}
   (hf:∀ v u s2 x y H2,Inv X pins σ H2 s2->RelV x v->RelV y u->R x y H2->wpAny (model X.prog X.w) X.A (f v u) Q X.xe s2) :
   wpAny (model X.prog X.w) X.A (eval a X.env) (fun v s₁=>wpAny (model X.prog X.w) X.A (eval b X.env) (fun u s₂=>wpAny (model X.prog X.w) X.A (f v u) Q X.xe s₂) X.xe s₁) X.xe s:=by
 refine dw (ha pins s σ H _ I h) fun v s1 ⟨x,H1,I1,r1,q1⟩=>?_
 refine dw (hb pins s1 σ H1 _ I1 q1) fun u s2 ⟨y,H2,I2,r2,q2⟩=>?_
 exact hf v u s2 x y H2 I2 r1 r2 q2
theorem bJ {op:Operator} {r:R2} (ho:gD X (binaryOp op) r) (ha:PE X a ta) (hb:PE X b tb):PE X (.BinOp a op b pos) (tOp r ta tb):=by
 intro pins s σ H Q I h
 exact wpAny_BinOp (Za ha hb I h fun v u s2 x y H2 I2 rx ry q=>ho pins s2 σ H2 x y v u Q I2 rx ry q)
theorem Pq {op:UnaryOp} {r:V->Hp->VK->Prop} (ho:UnR X (unaryOp op) r) (ha:PE X a ta):PE X (.UnaryOp op a pos) (tUn r ta):=by
 intro pins s σ H Q I h
 exact UnaryOp_ (dw (ha pins s σ H _ I h) fun v s1 ⟨x,H1,I1,r1,q1⟩=>ho pins s1 σ H1 x v Q I1 r1 q1)
theorem opI {f:aau->aau->Sem aau} {C:Int->Int->Prop} {g:Int->Int->Int}
   (rule:∀ (i j:Int) (t u:Tok) (s:aat) (Q:aau->aat->Prop) (E:aau->aat->Prop),C i j->Q (.int (g i j) s.toks) { s with toks:=s.toks+1 }->wpAny (model X.prog X.w) X.A (f (.int i t) (.int j u)) Q E s) :
   gD X f (rI C fun i j=>.int (g i j)):=by
 intro pins s σ H x y v u Q I rx ry h
 obtain ⟨i,j,rfl,rfl,hc,q⟩:=h
 obtain ⟨t,rfl⟩:=rx
 obtain ⟨t',rfl⟩:=ry
 exact rule i j t t' s _ _ hc ⟨.int (g i j),H,I.tok _,⟨_,rfl⟩,q⟩
theorem abJ {f:aau->aau->Sem aau} {g:Int->Int->Int}
   (rule:∀ (i j:Int) (t u:Tok) (s:aat) (Q:aau->aat->Prop) (E:aau->aat->Prop),Q (.int (g i j) s.toks) { s with toks:=s.toks+1 }->wpAny (model X.prog X.w) X.A (f (.int i t) (.int j u)) Q E s) :
   gD X f (U8 fun i j=>.int (g i j)):=by
 intro pins s σ H x y v u Q I rx ry h
 obtain ⟨i,j,rfl,rfl,q⟩:=h
 obtain ⟨t,rfl⟩:=rx
 obtain ⟨t',rfl⟩:=ry
 exact rule i j t t' s _ _ ⟨.int (g i j),H,I.tok _,⟨_,rfl⟩,q⟩
theorem Pr {f:aau->aau->Sem aau} {g:Int->Int->Bool}
   (rule:∀ (i j:Int) (t u:Tok) (s:aat) (Q:aau->aat->Prop) (E:aau->aat->Prop),Q (.bool (g i j)) s->wpAny (model X.prog X.w) X.A (f (.int i t) (.int j u)) Q E s) :
   gD X f (U8 fun i j=>.bl (g i j)):=by
 intro pins s σ H x y v u Q I rx ry h
 obtain ⟨i,j,rfl,rfl,q⟩:=h
 obtain ⟨t,rfl⟩:=rx
 obtain ⟨t',rfl⟩:=ry
 exact rule i j t t' s _ _ ⟨.bl (g i j),H,I,rfl,q⟩
def af7 (i j:Int):Prop:=0<j/\j<1073741824
def abK (i j:Int):Prop:=0<=j/\j<=1000000/\i.natAbs<2 ^ 64
def Vi (i j:Int):Prop:=(-(2 ^ 64)<i/\i<2 ^ 64)∨(-(2 ^ 64)<j/\j<2 ^ 64)
theorem Vi.ok {i j:Int} (h:Vi i j):IntMulOk i j:=by
 rcases h with ⟨h1,h2⟩ | ⟨h1,h2⟩
 . exact .of_left (aqt h1 h2)
 . exact .of_right (aqt h1 h2)
theorem Zb:gD X (binaryOp .Add) (U8 fun i j=>.int (i+j)):=abJ fun _ _ _ _ _ _ _ q=>add_int q
theorem Zc:gD X (binaryOp .Sub) (U8 fun i j=>.int (i-j)):=abJ fun _ _ _ _ _ _ _ q=>sub_int q
theorem Zd:gD X (binaryOp .Mult) (rI Vi fun i j=>.int (i * j)):=opI fun _ _ _ _ _ _ _ hc q=>mul_int q hc.ok
theorem Ze:gD X (binaryOp .Mod) (rI (fun _ j=>0<j) fun i j=>.int (i % j)):=opI fun i j _ _ _ _ _ hc q=>by
 have h1:(0:Int)<j:=hc
 exact mod_int' (by omega) (by rw [anM i (by omega)]; exact q)
theorem Zf:gD X (binaryOp .Pow) (rI abK fun i j=>.int (i ^ j.toNat)):=opI fun _ _ _ _ _ _ _ hc q=>pow_int_small hc.1 hc.2.1 hc.2.2 q
end
def abL:V->V->Bool
 | .non,.non=>true | .non,.int _=>true | .int _,.non=>true | .non,.bl _=>true | .bl _,.non=>true | .non,.str _=>true | .str _,.non=>true
 | .int _,.int _=>true | .bl _,.bl _=>true | .str _,.str _=>true | .O6 _,.O6 _=>true
 | .int _,.str _=>true | .str _,.int _=>true | .bl _,.str _=>true | .str _,.bl _=>true
 | _,_=>false
def rEq:R2:=fun x y H Q=>abL x y=true/\Q (.bl (decide (x=y))) H
def rNe:R2:=fun x y H Q=>abL x y=true/\Q (.bl (!decide (x=y))) H
theorem Jg {i j:Int}:decide (V.int i=V.int j)=(i == j):=by
 rw [aeU]
 simp
theorem Pu {i j:Bool}:decide (V.bl i=V.bl j)=(i == j):=by
 rw [aeU]
 simp
theorem Jh {i j:Str}:decide (V.str i=V.str j)=(i == j):=by
 rw [aeU]
 simp
theorem Ji {i j:Array UInt8}:decide (V.O6 i=V.O6 j)=(i.toList == j.toList):=by
 rw [aeU]
 cases i
 cases j
 simp
section
variable {X:Cx} {a b c:Expr} {ta tb tc:TE} {pos:Pos}
theorem bW {pins:List (abm × Obj)} {σ:St} {H:Hp} {s:aat} {Q:VK} {k k':Bool} (I:Inv X pins σ H s) (q:Q (.bl k) H) (e:k=k'):EP X pins σ Q (.bool k') s:=by
 subst e
 exact ⟨.bl k,H,I,rfl,q⟩
theorem abM:gD X (compareOp .Eq) rEq:=by
 intro pins s σ H x y v u Q I rx ry h
 obtain ⟨hs,q⟩:=h
 cases x with
 | non =>
   cases rx
   cases y with
   | non=>cases ry; exact PySem.EqNone.eq_none_none (bW I q (by simp))
   | bl j=>cases ry; exact PySem.EqNone.eq_none_bool (bW I q (by simp))
   | int j=>obtain ⟨t',rfl⟩:=ry; exact PySem.EqNone.eq_none_int (bW I q (by simp))
   | str j=>obtain ⟨t',rfl⟩:=ry; exact PySem.EqNone.eq_none_str (bW I q (by simp))
   | _=>exact absurd (show false=true from hs) abn
 | bl i =>
   cases rx
   cases y with
   | non=>cases ry; exact PySem.EqNone.eq_bool_none (bW I q (by simp))
   | bl j=>cases ry; exact eq_bool (bW I q Pu)
   | str j=>obtain ⟨t',rfl⟩:=ry; exact PySem.EqMixed.eq_bool_str (bW I q (by simp))
   | _=>exact absurd (show false=true from hs) abn
 | int i =>
   obtain ⟨t,rfl⟩:=rx
   cases y with
   | non=>cases ry; exact PySem.EqNone.eq_int_none (bW I q (by simp))
   | int j=>obtain ⟨t',rfl⟩:=ry; exact eq_int (bW I q Jg)
   | str j=>obtain ⟨t',rfl⟩:=ry; exact PySem.EqMixed.eq_int_str (bW I q (by simp))
   | _=>exact absurd (show false=true from hs) abn
 | str i =>
   obtain ⟨t,rfl⟩:=rx
   cases y with
   | non=>cases ry; exact PySem.EqNone.eq_str_none (bW I q (by simp))
   | bl j=>cases ry; exact PySem.EqMixed.eq_str_bool (bW I q (by simp))
   | int j=>obtain ⟨t',rfl⟩:=ry; exact PySem.EqMixed.eq_str_int (bW I q (by simp))
   | str j=>obtain ⟨t',rfl⟩:=ry; exact eq_str (bW I q Jh)
   | _=>exact absurd (show false=true from hs) abn
 | O6 i =>
   obtain ⟨t,rfl⟩:=rx
   cases y with
   | O6 j=>obtain ⟨t',rfl⟩:=ry; exact PySem.W.eq_bytes (bW I q Ji)
   | _=>exact absurd (show false=true from hs) abn
 | _=>cases y <;> exact absurd (show false=true from hs) abn
theorem abN:gD X (compareOp .NotEq) rNe:=by
 intro pins s σ H x y v u Q I rx ry h
 obtain ⟨hs,q⟩:=h
 cases x with
 | non =>
   cases rx
   cases y with
   | non=>cases ry; exact PySem.EqNone.ne_none_none (bW I q (by simp))
   | bl j=>cases ry; exact PySem.EqNone.ne_none_bool (bW I q (by simp))
   | int j=>obtain ⟨t',rfl⟩:=ry; exact PySem.EqNone.ne_none_int (bW I q (by simp))
   | str j=>obtain ⟨t',rfl⟩:=ry; exact PySem.EqNone.ne_none_str (bW I q (by simp))
   | _=>exact absurd (show false=true from hs) abn
 | bl i =>
   cases rx
   cases y with
   | non=>cases ry; exact PySem.EqNone.ne_bool_none (bW I q (by simp))
   | bl j=>cases ry; exact ne_bool (bW I q (congrArg not Pu))
   | str j=>obtain ⟨t',rfl⟩:=ry; exact PySem.EqMixed.ne_bool_str (bW I q (by simp))
   | _=>exact absurd (show false=true from hs) abn
 | int i =>
   obtain ⟨t,rfl⟩:=rx
   cases y with
   | non=>cases ry; exact PySem.EqNone.ne_int_none (bW I q (by simp))
   | int j=>obtain ⟨t',rfl⟩:=ry; exact ne_int (bW I q (congrArg not Jg))
   | str j=>obtain ⟨t',rfl⟩:=ry; exact PySem.EqMixed.ne_int_str (bW I q (by simp))
   | _=>exact absurd (show false=true from hs) abn
 | str i =>
   obtain ⟨t,rfl⟩:=rx
   cases y with
   | non=>cases ry; exact PySem.EqNone.ne_str_none (bW I q (by simp))
   | bl j=>cases ry; exact PySem.EqMixed.ne_str_bool (bW I q (by simp))
   | int j=>obtain ⟨t',rfl⟩:=ry; exact PySem.EqMixed.ne_str_int (bW I q (by simp))
   | str j=>obtain ⟨t',rfl⟩:=ry; exact ne_str (bW I q (congrArg not Jh))
   | _=>exact absurd (show false=true from hs) abn
 | O6 i =>
   obtain ⟨t,rfl⟩:=rx
   cases y with
   | O6 j=>obtain ⟨t',rfl⟩:=ry; exact PySem.W.ne_bytes (bW I q (congrArg not Ji))
   | _=>exact absurd (show false=true from hs) abn
 | _=>cases y <;> exact absurd (show false=true from hs) abn
theorem X4:gD X (compareOp .Lt) (U8 fun i j=>.bl (decide (i<j))):=Pr fun _ _ _ _ _ _ _ q=>lt_int q
theorem abO:gD X (compareOp .LtE) (U8 fun i j=>.bl (decide (i<=j))):=Pr fun _ _ _ _ _ _ _ q=>le_int q
theorem abP:gD X (compareOp .Gt) (U8 fun i j=>.bl (decide (j<i))):=Pr fun _ _ _ _ _ _ _ q=>gt_int q
theorem abQ:gD X (compareOp .GtE) (U8 fun i j=>.bl (decide (j<=i))):=Pr fun _ _ _ _ _ _ _ q=>ge_int q
theorem Zg:gD X (compareOp .Is) (fun x y H Q=>y=.non/\Q (.bl (decide (x=.non))) H):=by
 intro pins s σ H x y v u Q I rx ry h
 obtain ⟨rfl,q⟩:=h
 cases ry
 refine is_none_gen (bW I q ?_)
 cases x <;> first
   | (cases rx; rfl)
   | (obtain ⟨t,rfl⟩:=rx; rfl)
theorem bL (b:Expr) {op:arE} (h:op≠.In:=by decide) (h2:op≠.NotIn:=by decide):behindInMarks op b=false:=by
 have e1:(op == CmpOp.In)=false:=by cases op <;> first | rfl | exact absurd rfl h
 have e2:(op == CmpOp.NotIn)=false:=by cases op <;> first | rfl | exact absurd rfl h2
 cases b <;> simp [behindInMarks,e1,e2]
theorem iQ {op:arE} {r:R2} (ho:gD X (compareOp op) r) (ha:PE X a ta) (hb:PE X b tb) (hm:behindInMarks op b=false):PE X (.Compare a [op] [b] pos) (tOp r ta tb):=by
 intro pins s σ H Q I h
 exact wpAny_Compare1 (Za ha hb I h fun v u s2 x y H2 I2 rx ry q=>ho pins s2 σ H2 x y v u Q I2 rx ry q) hm
theorem rU:(sizeLine:Nat)<2 ^ 63:=by rw [acO]; decide
theorem Gp:gD X (binaryOp .Add) (fun x y H Q=>∃ i j,x=.str i/\y=.str j/\i.length+j.length<=sizeLine/\Q (.str (i++j)) H):=by
 intro pins s σ H x y v u Q I rx ry h
 obtain ⟨i,j,rfl,rfl,hz,q⟩:=h
 obtain ⟨t,rfl⟩:=rx
 obtain ⟨t',rfl⟩:=ry
 exact add_str (fun t' tk=>⟨.str (i++j),H,I.tok _,⟨_,rfl⟩,q⟩) hz
theorem vals1 {x:V} {us:List aau} (r:Vals [x] us):∃ u,us=[u]/\RelV x u:=by
 cases r with
 | cons r1 r2=>cases r2; exact ⟨_,rfl,r1⟩
theorem vals2 {x y:V} {us:List aau} (r:Vals [x,y] us):∃ u w',us=[u,w']/\RelV x u/\RelV y w':=by
 cases r with
 | cons r1 r2 =>
   cases r2 with
   | cons r3 r4=>cases r4; exact ⟨_,_,rfl,r1,r3⟩
theorem KJ (hc:X.calm=true):gK X (.builtin "max") (fun xs H Q=>∃ i j,xs=[.int i,.int j]/\Q (.int (if j > i then j else i)) H):=by
 intro pins s σ H xs us Q I r h
 obtain ⟨i,j,rfl,q⟩:=h
 obtain ⟨u,w',rfl,⟨t,rfl⟩,⟨t',rfl⟩⟩:=vals2 r
 refine max_two_ints (I.ok.hd hc) fun h' tk k=>⟨_,H,I.kept k,?_,q⟩
 by_cases hj:j > i
 . rw [if_pos hj,if_pos hj]; exact ⟨_,rfl⟩
 . rw [if_neg hj,if_neg hj]; exact ⟨_,rfl⟩
theorem Dd:gK X (.builtin "divmod") (fun xs H Q=>∃ i j,xs=[.int i,.int j]/\af7 i j/\∀ p,H p=none->Q (.ref p) (upd H p (.tup [.int (i / j),.int (i % j)]))):=by
 intro pins s σ H xs us Q I r h
 obtain ⟨i,j,rfl,⟨h1,h2⟩,q⟩:=h
 obtain ⟨u,w',rfl,⟨t,rfl⟩,⟨t',rfl⟩⟩:=vals2 r
 refine divmod_int (by omega) ?_ (.inl (PyProof.noPylong_small (by omega)))
 rw [anN i (by omega),anM i (by omega)]
 have hn:H s.heap.objs.size=none:=I.hok.fresh (aav _)
 refine ⟨.ref s.heap.objs.size,_,?_,rfl,q _ hn⟩
 refine I.laid (fun b o e=>aap _ e) (aav _) ⟨by simp only [acM,ahW]; rw [acO]; decide,[.int (i / j) s.toks,.int (i % j) (s.toks+1)],.cons ⟨_,rfl⟩ (.cons ⟨_,rfl⟩ .nil),?_⟩
 exact ⟨_,aa8 s.heap rfl,rfl,⟨0,rfl⟩,rfl⟩
end
end L2
namespace L2
open PySem PySem.Spec PyProof.Rows
structure Zh (h:ae9) (x dx C:abm) (mA:Str->Option aau):Prop where
 obj:h.get? x=some (apk C dx)
 ns:h.Ns1 dx mA
 ne:dx≠x
theorem KN {h:ae9} {dx:abm} {mA:Str->Option aau} (n:h.Ns1 dx mA):∃ od,h.get? dx=some od/\∀ name,aqa name od=some (mA name):=by
 obtain ⟨o,es,ep,ho,hd,hk,_,hm⟩:=n
 refine ⟨o,ho,fun name=>?_⟩
 have e:=hm name
 unfold nsFind findBy at e
 rw [<- Array.find?_toList] at e
 unfold aqa
 rw [hd]
 dsimp only
 split
 . rename_i y q
   rw [q] at e
   exact congrArg some e
 . rename_i q
   rw [q] at e
   have a:es.toList.any (·.refKey)=false:=by
     rw [List.any_eq_false]
     intro y hy
     obtain ⟨z,t,hkey⟩:=hk y (ahR.mp hy)
     simp [DictEntry.refKey,hkey]
   have a':¬ es.toList.any (·.refKey)=true:=by rw [a]; exact abn
   rw [if_neg a']
   exact congrArg some e
theorem Zh.look {h:ae9} {x dx C:abm} {mA:Str->Option aau} (I:Zh h x dx C mA):∃ od,PySem.W.InstAt h x (apk C dx) C (some od)/\∀ name,aqa name od=some (mA name) :=
 let ⟨od,ho,hl⟩:=KN I.ns
 ⟨od,⟨I.obj,rfl,rfl,ho⟩,hl⟩
section
variable {prog:acs} {w:adH} {A:aeN} {E:aau->aat->Prop} {s:aat} {K:aas} {x dx C f:abm} {mA:Str->Option aau} {name:Str} {v:aau}
end
theorem qN.some_of {v:V} {o:Option aau} (r:qN (some v) o):∃ u,o=some u/\RelV v u:=by
 cases o with
 | none=>exact (show False from r).elim
 | some u=>exact ⟨u,rfl,r⟩
section
variable {P:acs} {w:adH} {H H':Hp} {h h':ae9} {a C dx:abm} {fs fs':List (Str × V)}
theorem Vj (hok:pP P w H h) (e:H a=some (.ins C dx fs)):∃ mA,Zh h a dx C mA/\(∀ f,qN (fs.lookup f) (mA f))/\PySem.Within mA (fs.map (·.1))/\fs.length<=1000/\H dx=some (.own a):=by
 obtain ⟨d,z,ne,ob,mA,n,r,q⟩:=(show cu P w H h a (.ins C dx fs) from hok a _ e)
 exact ⟨mA,⟨ob,n,ne⟩,r,q,z,d⟩
end
structure Cls (K:aas) (C:abm):Prop where
 pg:PySem.W.plainGet K C Str.empty=true
 hd:PySem.W.hasDictIn K C=true
 po:PySem.W.plainOver K C=true
 sa:PySem.W.findIn K (.ref C) "__setattr__" = some (some (.builtin "object.__setattr__"))
theorem Cls.get {K:aas} {C:abm} (c:Cls K C) (f:Str):PySem.W.plainGet K C f=true:=c.pg
section
variable {X:Cx} {pins:List (abm × Obj)} {σ:St} {H:Hp} {s:aat} {a C dx:abm} {fs:List (Str × V)} {f:Str} {v:V} {A:aeN} {E:aau->aat->Prop}
end
section
variable {X:Cx} {o e value:Expr} {f:Str} {pos pos' tpos:Pos} {ta tv:TE}
end
section
variable {X:Cx} {pins:List (abm × Obj)} {σ:St} {H:Hp} {s:aat} {A:aeN} {E:aau->aat->Prop} {Q:aau->aat->Prop} {c:aau} {b:Bool}
inductive iV (K:aas) (H:Hp):V->aau->Prop where
 | non:iV K H .non (.type "NoneType")
 | bl (x:Bool):iV K H (.bl x) (.type "bool")
 | int (i:Int):iV K H (.int i) (.type "int")
 | str (x:Str):iV K H (.str x) (.type "str")
 | flt (x:UInt64):iV K H (.flt x) (.type "float")
 | lst {a:abm} {xs:List V} (e:H a=some (.lst xs)):iV K H (.ref a) (.type "list")
 | Jc {a:abm} {o:Obj} {xs:List V} (e:H a=some (.Jc o (.lst xs))):iV K H (.ref a) (.type "list")
 | tup {a:abm} {xs:List V} (e:H a=some (.tup xs)):iV K H (.ref a) (.type "tuple")
 | dK {a:abm} {kvs:List (Key × V)} (e:H a=some (.dK kvs)):iV K H (.ref a) (.type "dict")
 | dT {a:abm} {kvs:List (List Key × V)} (e:H a=some (.dT kvs)):iV K H (.ref a) (.type "dict")
 | ins {a C dx:abm} {fs:List (Str × V)} (e:H a=some (.ins C dx fs)) (cl:Cls K C) (ha:PySem.W.findIn K (.ref C) "__class__" = some (some (.builtin "object.__class__")))
     (hn:PySem.W.specialIn K (.builtin "object.__class__") "__get__" = some (some (.builtin "getset_descriptor.__get__"))) (htk:PySem.W.takesIn K (.builtin "object.__class__")=some true)
     (hm:PySem.W.mroIn K C (.type "object")=some true):iV K H (.ref a) (.ref C)
theorem KQ {x:V} {u t:aau} (I:Inv X pins σ H s) (rx:RelV x u) (ty:iV X.K H x t) (e:aiw X.K t c=some b) (h:∀ tk,Q (.bool b) { s with toks:=tk }) :
   wpAny (model X.prog X.w) A (call (.builtin "isinstance") [u,c]) Q E s:=by
 cases ty with
 | non=>cases (show u=acR from rx); exact afw PySem.W.kitx_none I.CN agS e (fun z=>nomatch z) h
 | bl y=>cases (show u=amP y from rx); exact afw PySem.W.kitx_bool I.CN agS e (fun z=>nomatch z) h
 | int i=>obtain ⟨t,q⟩:=(show ∃ t,u=amg i t from rx); cases q; exact afw PySem.W.kitx_int I.CN agS e (fun z=>nomatch z) h
 | str y=>obtain ⟨t,q⟩:=(show ∃ t,u=anu y t from rx); cases q; exact afw PySem.W.kitx_str I.CN agS e (fun z=>nomatch z) h
 | flt y=>obtain ⟨t,q⟩:=(show ∃ t,u=Value.float y t from rx); cases q; exact afw PySem.W.kitx_float I.CN agS e (fun z=>nomatch z) h
 | @lst a xs ea =>
   cases (show u=abk a from rx)
   obtain ⟨_,_,n,_,h1⟩:=(show cu X.prog X.w H s.heap a (.lst xs) from I.hok a _ ea)
   exact afw aqL I.CN ⟨_,h1,rfl⟩ e (fun z=>nomatch z) h
 | @Jc a ob xs ea =>
   cases (show u=abk a from rx)
   obtain ⟨_,_,_,n,_,h1⟩:=(show cu X.prog X.w H s.heap a (.Jc ob (.lst xs)) from I.hok a _ ea)
   exact afw aqL I.CN ⟨_,h1,rfl⟩ e (fun z=>nomatch z) h
 | @tup a xs ea =>
   cases (show u=abk a from rx)
   obtain ⟨_,_,_,p⟩:=(show cu X.prog X.w H s.heap a (.tup xs) from I.hok a _ ea)
   obtain ⟨o,h1,h2,_⟩:=p
   exact afw PySem.W.kitx_tuple I.CN ⟨o,h1,h2⟩ e (fun z=>nomatch z) h
 | @dK a kvs ea =>
   cases (show u=abk a from rx)
   obtain ⟨_,_,vs,_,p⟩:=(show cu X.prog X.w H s.heap a (.dK kvs) from I.hok a _ ea)
   obtain ⟨o,es,ep,h1,h2,_⟩:=p
   exact afw aqM I.CN ⟨o,h1,h2.1⟩ e (fun z=>nomatch z) h
 | @dT a kvs ea =>
   cases (show u=abk a from rx)
   obtain ⟨_,_,xs,_,o,es,ep,h1,h2,_⟩:=(show cu X.prog X.w H s.heap a (.dT kvs) from I.hok a _ ea)
   exact afw aqM I.CN ⟨o,h1,h2.1⟩ e (fun z=>nomatch z) h
 | @ins a C dx fs ea cl ha hn htk hm =>
   cases (show u=abk a from rx)
   obtain ⟨mA,O,_⟩:=Vj I.hok ea
   obtain ⟨od,J,_⟩:=O.look
   exact afw (PySem.W.kitx_own (cl.get _) cl.hd ha hn htk hm) I.CN J e (fun z=>nomatch z) h
end
end L2
namespace L2
open PySem PySem.Spec PyProof.Rows
structure jL (k:Nat) (A:aeN):Prop where
 hd:A.handled=none
 dp:A.depth+3 * k+5<recursionLimit
 un:A.units+16 * k+200<cLine
theorem jL.mono {j k:Nat} {A:aeN} (r:jL k A) (h:j<=k):jL j A:=⟨r.hd,by have:=r.dp; omega,by have:=r.un; omega⟩
theorem jL.deeper {k:Nat} {A:aeN} (r:jL (k+1) A) (env:Env):jL k (A.deeper env) :=
 ⟨r.hd,by have:=r.dp; show A.depth+1+3 * k+5<_; omega,by have:=r.un; show A.units+3+16 * k+200<_; omega⟩
theorem jL.depth {k:Nat} {A:aeN} (r:jL k A):A.depth<recursionLimit:=by have:=r.dp; omega
theorem jL.units {k:Nat} {A:aeN} (r:jL k A):A.units+64<cLine:=by have:=r.un; omega
theorem jL.Zi {k:Nat} {A:aeN} (r:jL k A):A.units<cLine:=by have:=r.un; omega
def abR:TA:=fun _ H Q=>Q [] H
def X5 (ta:TE) (tr:TA):TA:=fun σ H Q=>ta σ H fun x H1=>tr σ H1 fun xs H2=>Q (x :: xs) H2
section
variable {X:Cx} {e:Expr} {es:List Expr} {te:TE} {t:TA} {pos:Pos}
theorem ak:PA X [] abR:=fun _ _ _ _ H Q I h=>amR ⟨[],H,I,.nil,h⟩
theorem aj (ha:PE X e te) (hr:PA X es t) (hs:starEach (e :: es) X.env=(false,eval e X.env) :: starEach es X.env:=by rfl):PA X (e :: es) (X5 te t):=by
 intro pos pins s σ H Q I h
 rw [hs]
 show wpAny _ _ (spliced ((false,eval e X.env) :: backTo pos (starEach es X.env))) _ _ s
 refine ahp (dw (ha pins s σ H _ I h) fun u s1 ⟨x,H1,I1,r1,q1⟩=>?_)
 exact dw (hr pos pins s1 σ H1 _ I1 q1) fun us s2 ⟨xs,H2,I2,r2,q2⟩=>⟨x :: xs,H2,I2,.cons r1 r2,q2⟩
def af8 (t:TA):TE:=fun σ H Q=>t σ H fun xs H1=>xs.length<=sizeLine/\∀ p,H1 p=none->Q (.ref p) (upd H1 p (.tup xs))
def abS (t:TA):TE:=fun σ H Q=>t σ H fun xs H1=>xs.length<=sizeLine/\∀ p,H1 p=none->Q (.ref p) (upd H1 p (.lst xs))
theorem cN {x1} (h:PA X es t):PE X (.Tuple es x1 pos) (af8 t):=by
 intro pins s σ H Q I hq
 refine wpAny_Tuple_spliced (dw (h pos pins s σ H _ I hq) fun us s1 ⟨xs,H1,I1,r,z,q⟩=>⟨by rw [<- r.length]; exact z,?_⟩)
 have hf:H1 s1.heap.objs.size=none:=I1.hok.fresh (aav _)
 refine ⟨.ref s1.heap.objs.size,upd H1 s1.heap.objs.size (.tup xs),I1.laid (t':=s1.toks) (fun b u e=>aap _ e) (aav _) ?_,rfl,q _ hf⟩
 exact ⟨z,us,r,⟨_,aa8 _ rfl,rfl,⟨_,rfl⟩,rfl⟩⟩
theorem cW (h:PA X es t):PE X (.List es pos) (abS t):=by
 intro pins s σ H Q I hq
 refine wpAny_List_spliced (dw (h pos pins s σ H _ I hq) fun us s1 ⟨xs,H1,I1,r,z,q⟩=>⟨by rw [<- r.length]; exact z,?_⟩)
 have hf:H1 s1.heap.objs.size=none:=I1.hok.fresh (aav _)
 refine ⟨.ref s1.heap.objs.size,upd H1 s1.heap.objs.size (.lst xs),I1.laid (t':=s1.toks) (fun b u e=>aap _ e) (aav _) ?_,rfl,q _ hf⟩
 exact ⟨z,us,0,r,aa8 _ rfl⟩
end
abbrev Sp:=List V->Hp->VK->XK->Prop
abbrev Ot:=List Env->Hp->aat->XK->aau->aat->Prop
structure Vk (P:acs) (w:adH) (K:aas) (mg:Str->Option aau) (base:ae9) (A:aeN) (outer:List Env) (s:aat) (H:Hp):Prop where
 frames:A.frames=some outer
 mod:Mod K mg base
 bs:∀ b o,base.get? b=some o->s.heap.get? b=some o/\H b=none
 XR:base.objs.size<=s.heap.objs.size
 vD:s.heap.FunFrames base outer
 frf:∀ b∈frs outer,H b=none
 hok:pP P w H s.heap
 bare:aqj s.gens
def CE (outer:List Env) (P:acs) (w:adH) (H:Hp) (s:aat) (Q:VK) (u:aau) (s':aat):Prop :=
 ∃ v H',s'.os=s.os/\aqj s'.gens/\Un (frs outer) [] H H' s.heap s'.heap/\pP P w H' s'.heap/\RelV v u/\Q v H'
def CR (CX:Ot) (outer:List Env) (P:acs) (w:adH) (H:Hp) (s:aat) (Q:VK) (E:XK) (r:arb) (s':aat):Prop :=
 match r with
 | .ok (.ret u)=>CE outer P w H s Q u s'
 | .ok _=>False
 | .error e=>CX outer H s E e s'
structure aV (P:acs) (w:adH) (K:aas) (mg:Str->Option aau) (base:ae9) (CX:Ot) (k:Nat) (f:abm) (fd:aeF) (ps:List Str) (sp:Sp):Prop where
 len:∀ vs H Q E,sp vs H Q E->vs.length=ps.length
 run:∀ (A:aeN) (outer:List Env) (s:aat) (H:Hp) (args:Args) (us:List aau) (vs:List V) (Q:VK) (E:XK),jL k A->Vk P w K mg base A outer s H->ard s fd args (ps.zip us)->Vals vs us->sp vs H Q E ->
   codeAny (model P w) A (.call (.ref f) args) (CR CX outer P w H s Q E) s
theorem aV.mono {P:acs} {w:adH} {K:aas} {mg:Str->Option aau} {base:ae9} {CX:Ot} {j k:Nat} {f:abm} {fd:aeF} {ps:List Str} {sp:Sp} (F:aV P w K mg base CX j f fd ps sp) (h:j<=k) :
   aV P w K mg base CX k f fd ps sp:=⟨F.len,fun A outer s H args us vs Q E hr=>F.run A outer s H args us vs Q E (hr.mono h)⟩
section
variable {X:Cx} {pins:List (abm × Obj)} {σ:St} {H:Hp} {s s':aat}
theorem Inv.env0 (I:Inv X pins σ H s):Vk X.prog X.w X.K X.mg X.base X.A X.stack s H :=
 ⟨I.ok.frames,I.ok.mod,I.bs,adS I.ok.XR I.sz,I.stack,I.Jd,I.hok,I.bare⟩
theorem Inv.after {Q:VK} {u:aau} (I:Inv X pins σ H s) (h:CE X.stack X.prog X.w H s Q u s'):EP X pins σ Q u s':=by
 obtain ⟨v,H',os,bare,un,hok,r,q⟩:=h
 obtain ⟨hh,g,d,t,os'⟩:=s'
 obtain rfl:os'=s.os:=os
 exact ⟨v,H',I.call (h':=hh) (g':=g) (d':=d) (t':=t) (ch:=[]) un hok bare (fun b z=>absurd z (by simp)),r,q⟩
end
def abT (sp:Sp) (X6:List V) (E:XK) (t:TA):TE:=fun σ H Q=>t σ H fun vs H1=>sp (vs++X6) H1 Q E
def Binds (K:aas) (fd:aeF) (ps:List Str) (ds:List aau):Prop :=
 ∀ (s:aat) (us:List aau),K.In s.heap->(us++ds).length=ps.length->ard s fd ⟨us,[]⟩ (ps.zip (us++ds))
theorem Binds.all {K:aas} {fd:aeF} {ps:List Str} (h:∀ us:List aau,us.length=ps.length->bindArgs fd ⟨us,[]⟩=pure (ps.zip us)):Binds K fd ps []:=fun s us _ hl=>by
 rw [afK] at hl ⊢
 exact .of_eq (h us hl)
def Passes (CX:Ot) (X:Cx) (E:XK):Prop:=∀ (pins:List (abm × Obj)) (σ:St) (H:Hp) (s:aat) (e:aau) (s':aat),Inv X pins σ H s->CX X.stack H s E e s'->X.xe e s'
section
variable {X:Cx} {CX:Ot} {k:Nat} {f C:abm} {fd:aeF} {ps:List Str} {sp:Sp} {X6:List V} {ds:List aau} {E:XK} {x m:Str} {p pos apos:Pos} {e o:Expr} {es:List Expr} {ta:TE} {t:TA}
theorem Zj {pins:List (abm × Obj)} {σ:St} {H:Hp} {s:aat} {Q:VK} {us:List aau} {vs:List V} (F:aV X.prog X.w X.K X.mg X.base CX k f fd ps sp) (hr:jL k X.A) (hb:Binds X.K fd ps ds) (hd:Vals X6 ds) (hx:Passes CX X E)
   (I:Inv X pins σ H s) (r:Vals vs us) (h:sp (vs++X6) H Q E):wpAny (model X.prog X.w) X.A (call (.ref f) us) (EP X pins σ Q) X.xe s:=by
 have r2:Vals (vs++X6) (us++ds):=r.append hd
 have hl:(us++ds).length=ps.length:=by rw [<- r2.length]; exact F.len _ _ _ _ h
 refine aro (agN (F.run X.A X.stack s H ⟨us,[]⟩ (us++ds) (vs++X6) Q E hr I.env0 (hb s us I.CN hl) r2 h) fun r s' hq=>?_)
 cases r with
 | error e=>exact hx pins σ H s e s' I hq
 | ok fl =>
   cases fl with
   | ret u=>exact I.after hq
   | next=>exact ahV hq
   | brk=>exact ahV hq
   | cont=>exact ahV hq
theorem aJ (F:aV X.prog X.w X.K X.mg X.base CX k f fd ps sp) (hr:jL k X.A) (hg:Gl X x) (hm:X.mg x=some (.ref f)) (hk:aaw X.K (.ref f)=true) (hb:Binds X.K fd ps ds) (hd:Vals X6 ds) (hx:Passes CX X E)
   (ha:PA X (e :: es) t) (hdb:(x == ("__debug__" : Str))=false:=by decide) (he:starEach (e :: es) X.env=(false,eval e X.env) :: starEach es X.env:=by rfl) (hpl:(backTo pos (starEach es X.env)).any (·.1)=false:=by rfl) :
   PE X (.Call (.Name x p) (e :: es) [] pos) (abT sp X6 E t):=by
 intro pins s σ H Q I h
 refine anS (Jf I hg hm ?_ hdb)
 refine PySem.W.callWith_K (h₀:=X.base) I.ok.mod.kin hk (dw (ha pos pins s σ H _ I h) fun us s1 ⟨vs,H1,I1,r,q⟩=>⟨I1.CN,?_⟩) he hpl
 exact Zj F hr hb hd hx I1 r q
end
section
variable {X:Cx} {CX:Ot} {k:Nat} {f C:abm} {fd:aeF} {ps ks:List Str} {sp:Sp} {E:XK} {x m:Str} {p pos apos kpos:Pos} {e o:Expr} {es:List Expr} {kws:List aqN} {te ta:TE} {t tk:TA} {nm:Option Str}
variable {g:List aau->List aau->List aau} {gV:List V->List V->List V}
end
structure bB (N P:List Str) (sc:Scope):Prop where
 kind:sc.kind=.function
 co:sc.isCoroutine=false
 gen:sc.isGenerator=false
 nd:N.Nodup
 pre:N.take P.length=P
 par:∀ x∈P,sc.names.lookup x=some .local∨sc.names.lookup x=some .cell
 Zk:∀ y∈sc.names,y.2≠.free
theorem yM {kindOf:Str->Option amy} {x:Str}:∀ {binds:List (Str × aau)} {m:Str->Option aau},(∀ v,(x,v) ∉ binds)->bindL kindOf binds m x=m x
 | [],_,_=>rfl
 | (n,v) :: r,m,h=>by
   unfold bindL
   rw [yM fun w hw=>h w (aaM _ hw)]
   split
   . have:x≠n:=by rintro rfl; exact h v aaU
     simp [this]
   . rfl
theorem yN {kindOf:Str->Option amy} {x:Str}:∀ {binds:List (Str × aau)} {m:Str->Option aau},(∀ v,(x,v) ∉ binds)->bindC kindOf binds m x=m x
 | [],_,_=>rfl
 | (n,v) :: r,m,h=>by
   unfold bindC
   rw [yN fun w hw=>h w (aaM _ hw)]
   split
   . rfl
   . have:x≠n:=by rintro rfl; exact h v aaU
     simp [this]
theorem yO {kindOf:Str->Option amy} {x:Str} {v:aau}:∀ {P:List Str} {vs:List aau} {i:Nat} {m:Str->Option aau},P.Nodup->P[i]?=some x->vs[i]?=some v->kindOf x=some .local ->
   bindL kindOf (P.zip vs) m x=some v
 | [],_,_,_,_,h,_,_=>by simp at h
 | _ :: _,[],_,_,_,_,h,_=>by simp at h
 | p :: P,w :: vs,0,m,nd,h1,h2,hk=>by
   simp at h1 h2; subst h1; subst h2
   show bindL kindOf ((p,w) :: P.zip vs) m p=_
   unfold bindL
   rw [yM fun v hv=>(agu.mp nd).1 (apo hv).1,if_pos hk]
   simp
 | p :: P,w :: vs,i+1,m,nd,h1,h2,hk=>by
   show bindL kindOf ((p,w) :: P.zip vs) m x=_
   unfold bindL
   exact yO (i:=i) (agu.mp nd).2 (by simpa using h1) (by simpa using h2) hk
theorem yP {kindOf:Str->Option amy} {x:Str} {v:aau}:∀ {P:List Str} {vs:List aau} {i:Nat} {m:Str->Option aau},P.Nodup->P[i]?=some x->vs[i]?=some v->kindOf x≠some .local ->
   bindC kindOf (P.zip vs) m x=some v
 | [],_,_,_,_,h,_,_=>by simp at h
 | _ :: _,[],_,_,_,_,h,_=>by simp at h
 | p :: P,w :: vs,0,m,nd,h1,h2,hk=>by
   simp at h1 h2; subst h1; subst h2
   show bindC kindOf ((p,w) :: P.zip vs) m p=_
   unfold bindC
   rw [yN fun v hv=>(agu.mp nd).1 (apo hv).1,if_neg hk]
   simp
 | p :: P,w :: vs,i+1,m,nd,h1,h2,hk=>by
   show bindC kindOf ((p,w) :: P.zip vs) m x=_
   unfold bindC
   exact yP (i:=i) (agu.mp nd).2 (by simpa using h1) (by simpa using h2) hk
def start (N:List Str) (vs:List V):St:=vs.map some++acS (N.length-vs.length) none
def KR (CX:Ot) (P:acs) (w:adH) (K:aas) (mg:Str->Option aau) (base:ae9) (N:List Str) (qual:Str) (scope:Scope) (f:abm) (cd:aau) (A:aeN) (outer:List Env) (s:aat) (H:Hp) (E:XK):Cx where
 prog:=P
 w:=w
 K:=K
 mg:=mg
 base:=base
 A:=A.deeper (envOfC qual scope s.heap.objs.size f cd)
 N:=N
 s₀:=s
 H₀:=H
 env:=envOfC qual scope s.heap.objs.size f cd
 outer:=outer
 stack:=envOfC qual scope s.heap.objs.size f cd :: outer
 ex:=[]
 calm:=true
 fn:=fun _=>true
 pn:=[]
 xe:=fun e s'=>wpAny (model P w) (A.deeper (envOfC qual scope s.heap.objs.size f cd)) (leaving (envOfC qual scope s.heap.objs.size f cd) e) (fun _ s''=>CX outer H s E e s'') (fun e' s''=>CX outer H s E e' s'') s'
theorem vI {sc:Scope} {n:Nat} {x:Str} (h:sc.names.lookup x=some .cell):∃ c,(cellsFrom n sc.names []).lookup x=some c:=by
 have q:=ao8 sc.names n [] (.inl h)
 exact ahX.mp q
theorem KY {CX:Ot} {P:acs} {w:adH} {K:aas} {mg:Str->Option aau} {base:ae9} {N ps:List Str} {qual:Str} {scope:Scope} {f:abm} {cd:aau} {A:aeN} {outer:List Env} {s s1:aat} {H:Hp} {E:XK} {us:List aau} {vs:List V}
   (S:bB N ps scope) (hd:A.handled=none) (e0:Vk P w K mg base A outer s H) (hl:vs.length=ps.length) (r:Vals vs us)
   (x:InCallC s s.heap.objs.size (bindL (envOfC qual scope s.heap.objs.size f cd).kindOf (ps.zip us) fun _=>none) (cellsFrom (s.heap.objs.size+1) scope.names []) (bindC (envOfC qual scope s.heap.objs.size f cd).kindOf (ps.zip us) fun _=>none) s1) :
   Inv (KR CX P w K mg base N qual scope f cd A outer s H E) [] (start N vs) H s1:=by
 have hpl:ps.length<=N.length:=by have:=congrArg af6 S.pre; rw [abo] at this; omega
 obtain ⟨h1,tk,rfl,hk⟩:=x.done
 have noA:∀ b:abm,b ∉ (KR CX P w K mg base N qual scope f cd A outer s H E).ex:=fun b z=>absurd (show b∈([]:List abm) from z) (by simp)
 refine ⟨⟨e0.mod,S.kind,rfl,rfl,aav _,fun y z c h1 h2=>?_,fun y hy=>?_,fun y c _ h=>?_,fun _=>hd,Around.frames_deeper e0.frames,.inr ⟨rfl,rfl⟩,fun b z=>absurd z (noA b),e0.bs,e0.XR,fun b _ _=>noA b,fun b z=>absurd z (noA b),e0.vD,e0.frf⟩,
   rfl,e0.bare,Un.kept hk,⟨_,x.toInCall.ns,fun i y v h1 h2 h3=>?_⟩,fun y c h=>⟨_,x.cell y c h⟩,e0.hok.fresh (aav _),fun y c h=>?_,fun p hp=>absurd (show p∈([]:List (abm × Obj)) from hp) (by simp),e0.hok.kept hk,?_⟩
 . exact name_of_addr x.apart (afB h1) (afB h2)
 . have hy:scope.names.lookup y=some .cell∨scope.names.lookup y=some .free:=hy
   rcases hy with hy | hy
   . exact vI hy
   . exact absurd rfl (S.Zk _ (afB hy))
 . exact afN (x.above y c (afB h))
 . have hi:i<vs.length:=by
     unfold start at h2
     by_cases hi:i<vs.length
     . exact hi
     . rw [aeW (by simpa using hi)] at h2
       rw [List.getElem?_replicate] at h2
       split at h2 <;> cases h2
   have ha:vs[i]?=some v:=by
     unfold start at h2
     rw [afe (by simpa using hi),aaJ] at h2
     cases e:vs[i]? with
     | none=>rw [e] at h2; cases h2
     | some a=>rw [e] at h2; cases h2; rfl
   obtain ⟨u,hu,rv⟩:=r.get ha
   have hp:ps[i]?=some y:=by
     rw [<- S.pre,List.getElem?_take_of_lt (by omega)]; exact h1
   have ndP:ps.Nodup:=by rw [<- S.pre]; exact S.nd.sublist (agU _ _)
   refine ⟨u,rv,?_⟩
   rcases S.par y (abg hp) with k | k
   . exact .inl ⟨k,yO ndP hp hu k⟩
   . obtain ⟨c,e⟩:=vI (n:=s.heap.objs.size+1) k
     refine .inr ⟨.inl k,c,e,?_⟩
     have q:=x.cell y c e
     rw [yP ndP hp hu (by show scope.names.lookup y≠_; rw [k]; decide)] at q
     exact q
 . exact e0.hok.fresh (afN (x.above y c (afB h)))
 . unfold start
   show _=N.length
   rw [abe,aao,ahq]
   omega
theorem abW {CX:Ot} {P:acs} {w:adH} {K:aas} {mg:Str->Option aau} {base:ae9} {k:Nat} {f:abm} {name qual:Str} {params:Arguments} {body:List ane} {scope:Scope} {dV kV doc pm cdv ct oc:aau} {an od:Option abm}
   {osl:Array (Option aau)} {N ps:List Str} {sp:Sp} (lk:K.lookup f=some ⟨oc,od,.func (acV name qual params body scope dV kV doc pm an cdv ct),osl⟩) (hcd:acE K cdv qual=true) (S:bB N ps scope)
   (len:∀ vs H Q E,sp vs H Q E->vs.length=ps.length)
   (hbody:∀ (A:aeN) (outer:List Env) (s:aat) (H:Hp) (vs:List V) (Q:VK) (E:XK),jL k (A.deeper (envOfC qual scope s.heap.objs.size f cdv))->sp vs H Q E ->
     ∃ t,Oq (KR CX P w K mg base N qual scope f cdv A outer s H E) body t/\t { nx:=fun _ H'=>Q .non H',rt:=Q } (start N vs) H) :
   aV P w K mg base CX (k+1) f (acV name qual params body scope dV kV doc pm an cdv ct) ps sp:=by
 refine ⟨len,fun A outer s H args us vs Q E hr e0 hb r hsp=>?_⟩
 have hl:=len _ _ _ _ hsp
 have KX:K.In s.heap:=e0.mod.kin.keeps fun b o e=>(e0.bs b o e).1
 have lim:s.heap.NoLimit:=e0.mod.nolimit.keeps fun b o e=>(e0.bs b o e).1
 have hkind:∀ y∈ps.zip us,scope.names.lookup y.1=some .local∨(scope.names.lookup y.1=some .cell/\((cellsFrom (s.heap.objs.size+1) scope.names []).lookup y.1).isSome=true):=fun ⟨n,v⟩ hy=>by
   rcases S.par n (apo hy).1 with q | q
   . exact .inl q
   . exact .inr ⟨q,ao8 _ _ _ (.inl q)⟩
 refine codeAny_call_function hr.depth (KX _ _ lk) rfl S.co S.gen rfl (PySem.W.codeRec_of KX hcd) (hb _ _ _ _ ?_)
 refine wpAny_newFunctionEnv_cells S.kind hkind fun env he s1 x=>?_
 subst he
 refine ⟨lim.keeps x.toInCall.keep,codeAny_func ?_⟩
 obtain ⟨t,ht,hq⟩:=hbody A outer s H vs Q E (hr.deeper _) hsp
 have I:Inv (KR CX P w K mg base N qual scope f cdv A outer s H E) [] (start N vs) H s1:=KY S hr.hd e0 hl r x
 refine ae5 (ht [] s1 (start N vs) H _ I hq) (fun fl s' hs=>?_) fun e s' hs=>hs
 have fin:∀ {σ':St} {H':Hp} {v:V} {u:aau},Inv (KR CX P w K mg base N qual scope f cdv A outer s H E) [] σ' H' s'->RelV v u->Q v H'->CE outer P w H s Q u s' :=
   fun {σ' H' v u} J rv q=>⟨v,H',J.os,J.bare,J.base,J.hok,rv,q⟩
 cases fl with
 | ret u =>
   obtain ⟨v,σ',H',J,rv,q⟩:=hs
   exact fin J rv q
 | next =>
   obtain ⟨σ',H',J,q⟩:=hs
   exact fin (v:=V.non) (u:=acR) J rfl q
 | brk =>
   obtain ⟨_,_,_,q⟩:=hs
   exact ahV q
 | cont =>
   obtain ⟨_,_,_,q⟩:=hs
   exact ahV q
end L2
namespace L2
open PySem PySem.Spec PyProof.Rows
section
variable {X:Cx} {x:Str} {p pos:Pos} {e:Expr} {es:List Expr} {t:TA} {id T:String} {r:List V->Hp->VK->Prop}
def tCB (r:List V->Hp->VK->Prop) (t:TA):TE:=fun σ H Q=>t σ H fun vs H1=>r vs H1 Q
theorem aO (hc:gK X (.builtin id) r) (hg:Gl X x) (hm:X.mg x=none) (hv:bootBuiltins x=some (.builtin id)) (ha:PA X (e :: es) t) (hn:x≠"__name__":=by decide) (hdb:(x == ("__debug__" : Str))=false:=by decide)
   (he:starEach (e :: es) X.env=(false,eval e X.env) :: starEach es X.env:=by rfl) (hpl:(backTo pos (starEach es X.env)).any (·.1)=false:=by rfl):PE X (.Call (.Name x p) (e :: es) [] pos) (tCB r t):=by
 intro pins s σ H Q I h
 refine anS (rR I hg hm hv ?_ hn hdb)
 exact PyProof.Rows.callWith_builtin1 (dw (ha pos pins s σ H _ I h) fun us s1 ⟨vs,H1,I1,r1,q1⟩=>hc pins s1 σ H1 vs us Q I1 r1 q1) he hpl
theorem bD (hc:gK X (.type T) r) (hg:Gl X x) (hm:X.mg x=none) (hv:bootBuiltins x=some (.type T)) (ha:PA X (e :: es) t) (hn:x≠"__name__":=by decide) (hdb:(x == ("__debug__" : Str))=false:=by decide)
   (he:starEach (e :: es) X.env=(false,eval e X.env) :: starEach es X.env:=by rfl) (hpl:(backTo pos (starEach es X.env)).any (·.1)=false:=by rfl):PE X (.Call (.Name x p) (e :: es) [] pos) (tCB r t):=by
 intro pins s σ H Q I h
 refine anS (rR I hg hm hv ?_ hn hdb)
 exact agV (dw (ha pos pins s σ H _ I h) fun us s1 ⟨vs,H1,I1,r1,q1⟩=>hc pins s1 σ H1 vs us Q I1 r1 q1) he hpl
end
end L2
namespace HT
open PySem PyProof.Rows
section
open PySem.SeqAt
open PySem.AutoSeq1 (wpAny_loadPart')
open PySem.MeetsSeq PySem.MeetsSeq2 PySem.MeetsSeq3
end
section
variable {prog:acs} {w:adH} {A:aeN} {E:aau->aat->Prop} {s:aat}
theorem Vl {t b:abm} {vs ws:List aau} {Q:aau->aat->Prop} (ht:aq9 s.heap t vs.toArray) (hb:aq9 s.heap b ws.toArray) (hv:vs≠[])
   (h1:ws=[]->Q (.ref t) s) (h2:ws≠[]->Q (.ref s.heap.objs.size) { s with heap:=s.heap.push { cls:=.type "tuple",data:=.seq (vs++ws).toArray } })
   (hsz:vs.length+ws.length<=sizeLine):wpAny (model prog w) A (binaryOp .Add (.ref t) (.ref b)) Q E s:=by
 obtain ⟨⟨cls,dd,data,sl⟩,ho,hc,n,hd⟩:=id ht
 obtain ⟨⟨cls2,dd2,data2,sl2⟩,ho2,hc2,n2,hd2⟩:=id hb
 simp only at hc hd hc2 hd2
 subst hc hd hc2 hd2
 have e:vs.toArray++ws.toArray=(vs++ws).toArray:=by simp
 by_cases hw:ws=[]
 . exact aq4 ⟨_,ho,rfl⟩ ⟨_,ho2,rfl⟩ aoY aqu amL amA (amq _ _)
     (tuple_addW1 t b vs.toArray ws.toArray n n2 dd dd2 sl sl2 (by simpa using hv) (by simp [hw])) ⟨ho,ho2,h1 hw⟩
 . refine aq4 ⟨_,ho,rfl⟩ ⟨_,ho2,rfl⟩ aoY aqu amL amA (amq _ _)
     (tuple_addW2 t b vs.toArray ws.toArray n n2 dd dd2 sl sl2 (by simpa using hv) (by simpa using hw) (by rw [abp,abp]; exact hsz)) ⟨ho,ho2,?_⟩
   rw [e]
   exact h2 hw
def d8 (n d:Nat):Option Int->Nat
 | none=>d
 | some v=>if v<0 then (v+(n:Int)).toNat else min v.toNat n
theorem qO (n d:Nat):d8 n d none=d:=rfl
theorem jh (n d k:Nat):d8 n d (some (k:Int))=min k n:=by
 show (if (k:Int)<0 then ((k:Int)+(n:Int)).toNat else min (k:Int).toNat n)=min k n
 rw [if_neg (by omega),aeQ]
theorem Zm (n d:Nat) (hd:d<=n) (o:Option Int):d8 n d o<=n:=by
 cases o with
 | none=>exact hd
 | some v =>
   show (if v<0 then (v+(n:Int)).toNat else min v.toNat n)<=n
   by_cases hv:v<0
   . rw [if_pos hv]; omega
   . rw [if_neg hv]; exact aoZ _ _
theorem Jj (v:Int) (n d:Nat):(if v<0 then max (v+(n:Int)) 0 else min v (n:Int))=((d8 n d (some v):Nat):Int):=by
 show (if v<0 then max (v+(n:Int)) 0 else min v (n:Int))=(((if v<0 then (v+(n:Int)).toNat else min v.toNat n):Nat):Int)
 by_cases hv:v<0
 . simp only [if_pos hv]; omega
 . simp only [if_neg hv]; omega
theorem Gq (lo hi:Option Int) (n:Nat):ami lo hi 1 (n:Int)=(((d8 n 0 lo:Nat):Int),((d8 n n hi:Nat):Int)):=by
 have h1:¬ ((1:Int)<0):=by omega
 unfold ami
 simp only [h1,if_false]
 refine anT ?_ ?_
 . cases lo with
   | none=>rfl
   | some v=>exact Jj v n 0
 . cases hi with
   | none=>rfl
   | some v=>exact Jj v n n
theorem Gs (i j:Nat):ahB (i:Int) (j:Int) 1=j-i:=by
 unfold ahB
 have h1:(1:Int) > 0:=by omega
 simp only [h1,if_true,Int.ediv_one]
 split <;> omega
theorem vJ {v:aau} {o:Option Int} {Q:Option Int->aat->Prop} (p:aqb v o) (h:Q o s):wpAny (model prog w) A (Builtin.Slice.slicePartIndex v) Q E s:=by
 cases p with
 | none=>exact slicePart_none h
 | int i t=>exact slicePart_int h
theorem jT {sl:abm} {vl vu:aau} {lo hi:Option Int} {n:Nat} {Q:Int × Int × Nat->aat->Prop} (hs:s.heap.IsSliceOf sl vl vu .none) (pl:aqb vl lo) (pu:aqb vu hi)
   (h:Q (((d8 n 0 lo:Nat):Int),1,d8 n n hi-d8 n 0 lo) s):wpAny (model prog w) A (anO (.ref sl) (pure (n:Int))) Q E s:=by
 obtain ⟨os,hos,hcs,hds⟩:=id hs
 unfold anO Builtin.Slice.sliceFields
 refine Fi (Fi (afL hos hds (x:=vl) rfl (Fi (afL hos hds (x:=vu) rfl (Fi (afL hos hds (x:=.none) rfl (aar ?_)))))))
 refine Fi (slicePart_none ?_)
 show wpAny _ _ (if ((1:Int) == 0)=true then _ else _) _ _ s
 rw [if_neg (by decide)]
 refine Fi (vJ pl (Fi (vJ pu (Fi (aar ?_)))))
 show wpAny _ _ (match ami lo hi 1 (n:Int) with | (lo,hi)=>pure (lo,(1:Int),ahB lo hi 1)) _ _ s
 rw [Gq lo hi n]
 show wpAny _ _ (pure (((d8 n 0 lo:Nat):Int),(1:Int),ahB ((d8 n 0 lo:Nat):Int) ((d8 n n hi:Nat):Int) 1)) _ _ s
 rw [Gs]
 exact aar h
theorem Px (xs:Array aau) (i k:Nat):((acy k).filterMap fun (m:Nat)=>xs[((i:Int)+(m:Int) * 1).toNat]?).toArray=((xs.toList.drop i).take k).toArray:=by
 have e:(fun (m:Nat)=>xs[((i:Int)+(m:Int) * 1).toNat]?)=fun m=>xs[i+m]?:=by
   funext m
   have:((i:Int)+(m:Int) * 1).toNat=i+m:=by omega
   rw [this]
 rw [e]
 have:=pick_run xs i k
 rw [anU] at this
 have e2:((fun x=>xs[x]?)∘fun x=>i+x)=fun m=>xs[i+m]?:=rfl
 rw [e2] at this
 rw [this]
theorem qP {t sl:abm} {items:Array aau} {vl vu:aau} {lo hi:Option Int} {Q:aau->aat->Prop} (ht:aq9 s.heap t items) (hs:s.heap.IsSliceOf sl vl vu .none) (pl:aqb vl lo) (pu:aqb vu hi)
   (hw:¬ (d8 items.size 0 lo=0/\d8 items.size items.size hi=items.size))
   (h:Q (.ref s.heap.objs.size) { s with heap:=s.heap.push { cls:=.type "tuple",data:=.seq ((items.toList.drop (d8 items.size 0 lo)).take (d8 items.size items.size hi-d8 items.size 0 lo)).toArray } })
   (hsz:items.size<=sizeLine):wpAny (model prog w) A (getItem (.ref t) (.ref sl)) Q E s:=by
 have Jk:sizeOk (.seq ((items.toList.drop (d8 items.size 0 lo)).take (d8 items.size items.size hi-d8 items.size 0 lo)).toArray):=by
   show ((items.toList.drop (d8 items.size 0 lo)).take (d8 items.size items.size hi-d8 items.size 0 lo)).toArray.size<=sizeLine
   rw [abp,abo,ae4,abr]
   omega
 have hj:d8 items.size items.size hi<=items.size:=Zm _ _ (aav _) hi
 obtain ⟨os,hos,hcs,hds⟩:=id hs
 have hTs:s.TypeIs (.ref sl) "slice":=⟨os,hos,hcs⟩
 unfold getItem
 try with_reducible refine adQ ?_
 first | refine Fi (aar ?_) | skip
 refine Fi (aqO ht.typeIs (by decide) ?_)
 refine Fi (aeL (name:=ahr "__getitem__") ht.typeIs agb
   (adP agb ht.typeIs aqk ?_ (aqv _ _)))
 show wpAny _ _ (anP (.ref t) >>= _) _ _ s
 refine Fi (tupleItemsOf_ ht ?_)
 refine Fi (aiM hTs ?_)
 rw [if_pos (by decide)]
 refine Fi (jT hs pl pu ?_)
 have hno:¬ ((((d8 items.size 0 lo:Nat):Int) == 0 && (1:Int) == 1 && (d8 items.size items.size hi-d8 items.size 0 lo) == items.size)=true):=by
   intro q
   rw [afr,afr] at q
   have q1:((d8 items.size 0 lo:Nat):Int)=0:=eq_of_beq q.1.1
   have q2:d8 items.size items.size hi-d8 items.size 0 lo=items.size:=eq_of_beq q.2
   exact hw ⟨by omega,by omega⟩
 show wpAny _ _ (if (((d8 items.size 0 lo:Nat):Int) == 0 && (1:Int) == 1 && (d8 items.size items.size hi-d8 items.size 0 lo) == items.size)=true then _ else _) _ _ s
 rw [if_neg hno,Px]
 first
   | exact Fi (m:=ah2 _) (adC (aar ⟨_,rfl,aar h⟩) Jk)
   | exact Fi (m:=ah2 _) (adC (Fi (aar (aar ⟨_,rfl,aar h⟩))) Jk)
   | exact Fi (Fi (m:=ah2 _) (adC (aar (aar ⟨_,rfl,aar h⟩)) Jk))
   | exact Fi (Fi (m:=ah2 _) (adC (aar ⟨_,rfl,aar h⟩) Jk))
end
end HT
namespace L2
open PySem PySem.Spec PyProof.Rows
abbrev TO:=St->Hp->(Option Int->Hp->Prop)->Prop
def PO (X:Cx) (e:Option Expr) (t:TO):Prop :=
 ∀ (pins:List (abm × Obj)) (s:aat) (σ:St) (H:Hp) (Q:Option Int->Hp->Prop),Inv X pins σ H s->t σ H Q ->
   wpAny (model X.prog X.w) X.A (evalPart e X.env) (fun u s'=>∃ o H',Inv X pins σ H' s'/\aqb u o/\Q o H') X.xe s
def Vm:TO:=fun _ H Q=>Q none H
section
variable {X:Cx} {e:Expr} {te:TE} {lo hi:Option Expr} {tl th:TO} {pos p2:Pos}
theorem fU:PO X none Vm:=by
 intro pins s σ H Q I h
 rw [aqw]
 exact aar ⟨none,H,I,.none,h⟩
def SlR (X:Cx) (r:V->Option Int->Option Int->Hp->VK->Prop):Prop :=
 ∀ (pins:List (abm × Obj)) (s:aat) (σ:St) (H:Hp) (x:V) (v vl vu:aau) (lo hi:Option Int) (sl:abm) (Q:VK),Inv X pins σ H s->RelV x v->s.heap.IsSliceOf sl vl vu .none->aqb vl lo->aqb vu hi->r x lo hi H Q ->
   ∃ T id,typeLookup (.type T) "__getitem__" = pure (some (.builtin id))/\s.TypeIs v T/\wpAny (model X.prog X.w) X.A (getItem v (.ref sl)) (EP X pins σ Q) X.xe s
def tSl (r:V->Option Int->Option Int->Hp->VK->Prop) (te:TE) (tl th:TO):TE:=fun σ H Q=>te σ H fun x H1=>tl σ H1 fun l H2=>th σ H2 fun u H3=>r x l u H3 Q
theorem cT {r:V->Option Int->Option Int->Hp->VK->Prop} (hr:SlR X r) (he:PE X e te) (hl:PO X lo tl) (hu:PO X hi th):PE X (.Subscript e (.Slice lo hi none p2) pos) (tSl r te tl th):=by
 intro pins s σ H Q I h
 refine aqP (dw (he pins s σ H _ I h) fun v s1 ⟨x,H1,I1,r1,q1⟩=>?_)
 refine wpAny_Slice (dw (hl pins s1 σ H1 _ I1 q1) fun vl s2 ⟨l,H2,I2,pl,q2⟩=>dw (hu pins s2 σ H2 _ I2 q2) fun vu s3 ⟨u,H3,I3,pu,q3⟩=>?_)
 rw [aqw]
 refine aar ?_
 have I4:Inv X pins σ H3 { s3 with heap:=s3.heap.push { cls:=.type "slice",data:=.fields #[vl,vu,.none] } }:=I3.kept (t':=s3.toks) fun b ob q=>aap _ q
 obtain ⟨T,id,hT,ht,hg⟩:=hr pins { s3 with heap:=s3.heap.push { cls:=.type "slice",data:=.fields #[vl,vu,.none] } } σ H3 x v vl vu l u s3.heap.objs.size Q I4 r1 (aqx ..) pl pu q3
 show wpAny (model X.prog X.w) X.A (subscriptTail e (.Slice lo hi none p2) v (.ref s3.heap.objs.size)) (EP X pins σ Q) X.xe { s3 with heap:=s3.heap.push { cls:=.type "slice",data:=.fields #[vl,vu,.none] } }
 exact tail_any (ops:=[.ref s3.heap.objs.size,v]) ht hT hg (by with_unfolding_all rfl)
def mj (xs:List V) (lo hi:Option Int):List V:=(xs.drop (HT.d8 xs.length 0 lo)).take (HT.d8 xs.length xs.length hi-HT.d8 xs.length 0 lo)
theorem um (xs:List V) (lo hi:Option Int):(mj xs lo hi).length<=xs.length:=by
 unfold mj
 rw [abo,ae4]
 omega
def af9 (K:aas):V->Option Int->Option Int->Hp->VK->Prop:=fun x lo hi H Q=>∃ a xs,x=.ref a/\bA K H a xs /\
 ¬ (HT.d8 xs.length 0 lo=0/\HT.d8 xs.length xs.length hi=xs.length)/\∀ p,H p=none->Q (.ref p) (upd H p (.tup (mj xs lo hi)))
theorem Py:SlR X (af9 X.K):=by
 intro pins s σ H x v vl vu lo hi sl Q I rx hs pl pu h
 obtain ⟨a,xs,rfl,hx,hw,q⟩:=h
 cases rx
 obtain ⟨its,r,ht,hz⟩:=I.tuple hx
 have hlen:its.toArray.size=xs.length:=by rw [abp]; exact r.length.symm
 refine ⟨"tuple",_,PyProof.Rows.slot_tuple_getitem.lookup,ht.typeIs,?_⟩
 refine HT.qP ht hs pl pu (by rw [hlen]; exact hw) ?_ (by rw [hlen]; exact hz)
 rw [hlen]
 refine ⟨.ref s.heap.objs.size,_,I.laid (t':=s.toks) (o:=.tup (mj xs lo hi)) (fun b ob q=>aap _ q) (aav _) ?_,rfl,q _ (I.hok.fresh (aav _))⟩
 exact ⟨adS (um xs lo hi) hz,_,(r.drop (HT.d8 xs.length 0 lo)).take (HT.d8 xs.length xs.length hi-HT.d8 xs.length 0 lo),jK.new _ _⟩
def abX (K:aas):R2:=fun x y H Q=>∃ a b xs ys,x=.ref a/\y=.ref b/\bA K H a xs/\bA K H b ys/\xs≠[]/\xs.length+ys.length<=sizeLine /\
 (ys=[]->Q (.ref a) H)/\(ys≠[]->∀ p,H p=none->Q (.ref p) (upd H p (.tup (xs++ys))))
theorem Vals.nU {xs:List V} {us:List aau} (r:Vals xs us):us=[]↔xs=[]:=by
 cases r with
 | nil=>simp
 | cons _ _=>simp
theorem Vn:gD X (binaryOp .Add) (abX X.K):=by
 intro pins s σ H x y v u Q I rx ry h
 obtain ⟨a,b,xs,ys,rfl,rfl,ha,hb,hx,hz,q1,q2⟩:=h
 cases rx
 cases ry
 obtain ⟨its,r1,p1,_⟩:=I.tuple ha
 obtain ⟨its2,r2,p2,_⟩:=I.tuple hb
 refine HT.Vl p1 p2 (fun z=>hx (r1.nU.mp z)) (fun z=>⟨.ref a,H,I,rfl,q1 (r2.nU.mp z)⟩) (fun z=>?_) (by rw [<- r1.length,<- r2.length]; exact hz)
 refine ⟨.ref s.heap.objs.size,_,I.laid (t':=s.toks) (o:=.tup (xs++ys)) (fun b ob q=>aap _ q) (aav _) ?_,rfl,q2 (fun w=>z (r2.nU.mpr w)) _ (I.hok.fresh (aav _))⟩
 exact ⟨by rw [abe]; exact hz,_,r1.append r2,jK.new _ _⟩
end
end L2
namespace L2
open PySem PySem.Spec PyProof.Rows
def Pz (n:Nat) (i:Int):Option Nat:=if 0<=i then (if i<n then some i.toNat else none) else if -(n:Int)<=i then some (i+n).toNat else none
def Cz {α:Type} (xs:List α) (i:Int):Option α:=(Pz xs.length i).bind fun j=>xs[j]?
theorem Jl {n:Nat} {i:Int} {j:Nat} (h:Pz n i=some j):seqIndex? i n=some j/\j<n/\-(n:Int)<=i/\i<n:=by
 unfold Pz at h
 by_cases h0:0<=i
 . rw [if_pos h0] at h
   by_cases h1:i<n
   . rw [if_pos h1] at h
     have e:i.toNat=j:=ac8 h
     exact ⟨by rw [arf h0 h1,e],by omega,by omega,h1⟩
   . rw [if_neg h1] at h; cases h
 . rw [if_neg h0] at h
   by_cases h1:-(n:Int)<=i
   . rw [if_pos h1] at h
     have e:(i+n).toNat=j:=ac8 h
     exact ⟨by rw [aq5 (by omega) h1,e],by omega,h1,by omega⟩
   . rw [if_neg h1] at h; cases h
theorem Aw {α:Type} {xs:List α} {i:Int} {v:α} (h:Cz xs i=some v):∃ j,seqIndex? i xs.length=some j/\xs[j]?=some v/\j<xs.length/\-(xs.length:Int)<=i/\i<xs.length:=by
 unfold Cz at h
 cases e:Pz xs.length i with
 | none=>rw [e] at h; cases h
 | some j =>
   rw [e] at h
   obtain ⟨h1,h2,h3,h4⟩:=Jl e
   exact ⟨j,h1,h,h2,h3,h4⟩
theorem iR {α:Type} {xs:List α} {j:Nat} {v:α} (h:xs[j]?=some v):Cz xs (j:Int)=some v:=by
 have hj:j<xs.length:=(acZ.mp h).1
 have e:Pz xs.length (j:Int)=some j:=by
   unfold Pz
   rw [if_pos (by omega),if_pos (by omega)]; simp
 unfold Cz; rw [e]; exact h
def Vo (b:Expr):Prop:=∀ o i,subscripted b false o i=operate [o,i] (getItem o i)
def Zn (X:Cx) (r:R2):Prop :=
 ∀ (value slice:Expr) (pins:List (abm × Obj)) (s:aat) (σ:St) (H:Hp) (x y:V) (v u:aau) (Q:VK),Inv X pins σ H s->RelV x v->RelV y u->r x y H Q ->
   subscripted slice false v u=operate [v,u] (getItem v u)->wpAny (model X.prog X.w) X.A (subscriptTail value slice v u) (EP X pins σ Q) X.xe s
def MtR (X:Cx) (id:String) (r:V->List V->Hp->VK->Prop):Prop :=
 ∀ (pins:List (abm × Obj)) (s:aat) (σ:St) (H:Hp) (x:V) (xs:List V) (v:aau) (us:List aau) (Q:VK),Inv X pins σ H s->RelV x v->Vals xs us->r x xs H Q ->
   wpAny (model X.prog X.w) X.A (call (.builtin id) (v :: us)) (EP X pins σ Q) X.xe s
section
variable {X:Cx} {a b:Expr} {ta tb:TE} {pos:Pos}
theorem bG {r:R2} (hr:Zn X r) (ha:PE X a ta) (hb:PE X b tb) (hs:Vo b):PE X (.Subscript a b pos) (tOp r ta tb):=by
 intro pins s σ H Q I h
 exact aqP (Za ha hb I h fun v u s2 x y H2 I2 rx ry q=>hr a b pins s2 σ H2 x y v u Q I2 rx ry q (hs _ _))
def abY (K:aas):R2:=fun x y H Q=>∃ p xs i v,x=.ref p/\y=.int i/\bY K H p xs/\Cz xs i=some v/\Q v H
def abZ (K:aas):R2:=fun x y H Q=>∃ p xs i v,x=.ref p/\y=.int i/\bA K H p xs/\Cz xs i=some v/\Q v H
def ab0:R2:=fun x y H Q=>∃ z i c,x=.str z/\y=.int i/\z.length<=sizeLine/\Cz z.cps.toList i=some c/\Q (.str ⟨#[c]⟩) H
theorem Vp:Zn X (abY X.K):=by
 intro value slice pins s σ H x y v u Q I rx ry h hs
 obtain ⟨p,xs,i,z,rfl,rfl,hq,he,q⟩:=h
 cases rx
 obtain ⟨t,rfl⟩:=ry
 obtain ⟨its,r,pl,hz⟩:=I.list hq
 obtain ⟨j,h1,h2,h3,h4,h5⟩:=Aw he
 obtain ⟨w,ew,Df⟩:=r.get h2
 have hl:=r.length
 have hn:=rU
 have fin:EP X pins σ Q w s:=⟨z,H,I,Df,q⟩
 by_cases h0:0<=i
 . have hj:i.toNat=j:=by
     rw [arf h0 h5] at h1
     exact ac8 h1
   exact item_listR pl.isList h0 (by omega) (by rw [hj]; simpa using ew) fin hs
 . have hj:(i+(its.toArray.size:Int)).toNat=j:=by
     rw [aq5 (by omega) h4] at h1
     rw [abp,<- hl]
     exact ac8 h1
   exact ao9 (x:=w) pl.isList.typeIs slot_list_getitem.lookup
     (wpAny_getItem_list_neg (Q:=fun r s'=>r=w/\EP X pins σ Q r s') pl.isList (by omega) (by rw [abp] <;> omega) (by omega) (by rw [hj]; simpa using ew) ⟨rfl,fin⟩) hs
theorem Zo:Zn X (abZ X.K):=by
 intro value slice pins s σ H x y v u Q I rx ry h hs
 obtain ⟨p,xs,i,z,rfl,rfl,hq,he,q⟩:=h
 cases rx
 obtain ⟨t,rfl⟩:=ry
 obtain ⟨its,r,pl,hz⟩:=I.tuple hq
 obtain ⟨j,h1,h2,h3,h4,h5⟩:=Aw he
 obtain ⟨w,ew,Df⟩:=r.get h2
 have hl:=r.length
 have hn:=rU
 have fin:EP X pins σ Q w s:=⟨z,H,I,Df,q⟩
 exact ao9 (x:=w) pl.typeIs slot_tuple_getitem.lookup
   (getItem_tuple (j:=j) (Q:=fun r s'=>r=w/\EP X pins σ Q r s') pl (by omega) (by omega) (by rw [abp,<- hl]; exact h1) (by simpa using ew) ⟨rfl,fin⟩) hs
theorem Zq:Zn X ab0:=by
 intro value slice pins s σ H x y v u Q I rx ry h hs
 obtain ⟨z,i,c,rfl,rfl,hz,he,q⟩:=h
 obtain ⟨t,rfl⟩:=rx
 obtain ⟨t',rfl⟩:=ry
 obtain ⟨j,h1,h2,h3,h4,h5⟩:=Aw he
 have hl:z.cps.toList.length=z.length:=by simp [amS]
 rw [hl] at h1 h4 h5
 have hn:=rU
 exact tail_any (arp s z t) slot_str_getitem.lookup (getItem_str (c:=c) (by
   have e1:decide (i < -(2 ^ 63:Int))=false:=decide_eq_false (by omega)
   have e2:decide (i ≥ 2 ^ 63)=false:=decide_eq_false (by omega)
   rw [e1,e2,aoI]) (by rw [h1]; simpa using h2) ⟨.str ⟨#[c]⟩,H,I.tok _,⟨_,rfl⟩,q⟩) hs
theorem Gu (its:List aau) (n j:Nat) (u:aau):afj (·.setIfInBounds j u) { cls:=.type "list",data:=.seq its.toArray n }={ cls:=.type "list",data:=.seq (its.set j u).toArray n }:=by
 simp [afj]
theorem Inv.lst {pins:List (abm × Obj)} {σ:St} {H:Hp} {s:aat} {p:abm} {xs:List V} (I:Inv X pins σ H s) (h:H p=some (.lst xs)) :
   ∃ (its:List aau) (n:Nat),Vals xs its/\s.heap.get? p=some { cls:=.type "list",data:=.seq its.toArray n }/\xs.length<=sizeLine:=by
 obtain ⟨z,its,n,r,e⟩:=I.hok p _ h
 exact ⟨its,n,r,e,z⟩
theorem Inv.Zr {pins:List (abm × Obj)} {σ:St} {H:Hp} {s:aat} {p:abm} {xs ys:List V} {its its':List aau} {n n':Nat} {f:Obj->Obj} (I:Inv X pins σ H s) (h:H p=some (.lst xs))
   (ho:s.heap.get? p=some { cls:=.type "list",data:=.seq its.toArray n }) (hf:f { cls:=.type "list",data:=.seq its.toArray n }={ cls:=.type "list",data:=.seq its'.toArray n' }) (r:Vals ys its') (hz:ys.length<=sizeLine) (t:Nat) :
   Inv X pins σ (upd H p (.lst ys)) { s with heap:=s.heap.update p f,toks:=t }:=by
 have e:(s.heap.update p f).get? p=some { cls:=.type "list",data:=.seq its'.toArray n' }:=by
   rw [aeO f ho (by rw [hf] <;> rfl),hf]
 refine I.write (x:=p) (e:=p) (by rw [h]; trivial) (.inl rfl) (fun b u hb q=>(ag5 _ _ (afv hb)).trans q) ⟨_,e⟩ ?_
 exact ⟨hz,its',n',r,e⟩
def X7:V->V->V->Hp->(Hp->Prop)->Prop:=fun o i v H Q=>∃ p xs k j,o=.ref p/\i=.int k/\H p=some (.lst xs)/\Pz xs.length k=some j/\Q (upd H p (.lst (xs.set j v)))
theorem set_list:Y7 X X7:=by
 intro pins s σ H o i v ov iv u Q I ro ri rv h
 obtain ⟨p,xs,k,j,rfl,rfl,hp,hj,q⟩:=h
 cases ro
 obtain ⟨t,rfl⟩:=ri
 obtain ⟨its,n,r,ho,hz⟩:=I.lst hp
 obtain ⟨h1,h2,h3,h4⟩:=Jl hj
 have hl:=r.length
 have hn:=rU
 have I':Inv X pins σ (upd H p (.lst (xs.set j v))) { s with heap:=s.heap.update p (afj (·.setIfInBounds j u)) } :=
   I.Zr hp ho (Gu its n j u) (r.set rv j) (by rw [List.length_set]; exact hz) s.toks
 by_cases h0:0<=k
 . have hk:k.toNat=j:=by
     rw [arf h0 h4] at h1
     exact ac8 h1
   exact PySem.W.ki_setAt ho h0 (by omega) (by rw [abp,<- hl]; exact h4) (by rw [hk]; exact ⟨_,I',q⟩)
 . have hk:(k+(its.toArray.size:Int)).toNat=j:=by
     rw [aq5 (by omega) h3] at h1
     rw [abp,<- hl]
     exact ac8 h1
   exact PySem.W.ki_setBack ho (by omega) (by rw [abp,<- hl]; exact h3) (by omega) (by rw [hk]; exact ⟨_,I',q⟩)
theorem Ax (lo hi:Option Int) (n:Nat):(sliceBounds lo hi none n).1=((HT.d8 n 0 lo:Nat):Int)/\(sliceBounds lo hi none n).2.1=((HT.d8 n n hi:Nat):Int)/\(sliceBounds lo hi none n).2.2=1:=by
 refine ⟨?_,?_,rfl⟩
 . cases lo with
   | none=>simp [sliceBounds,HT.d8]
   | some i =>
     simp only [sliceBounds,HT.d8,Option.getD_none,show (1:Int) > 0 by decide,if_true]
     by_cases h:i<0
     . simp only [h,if_true] <;> omega
     . simp only [h,if_false] <;> omega
 . cases hi with
   | none=>simp [sliceBounds,HT.d8]
   | some i =>
     simp only [sliceBounds,HT.d8,Option.getD_none,show (1:Int) > 0 by decide,if_true]
     by_cases h:i<0
     . simp only [h,if_true] <;> omega
     . simp only [h,if_false] <;> omega
theorem yD (its:List aau) (lo hi:Option Int):slicePick its.toArray lo hi none=((its.drop (HT.d8 its.length 0 lo)).take (HT.d8 its.length its.length hi-HT.d8 its.length 0 lo)).toArray:=by
 obtain ⟨h1,h2,h3⟩:=Ax lo hi its.toArray.size
 unfold slicePick
 rw [h1,h2,h3]
 simp only [sliceRange_one,pick_run,abp] <;> rfl
def aga (K:aas):V->Option Int->Option Int->Hp->VK->Prop:=fun x lo hi H Q=>∃ a xs,x=.ref a/\bY K H a xs/\∀ p,H p=none->Q (.ref p) (upd H p (.lst (mj xs lo hi)))
theorem Jm:SlR X (aga X.K):=by
 intro pins s σ H x v vl vu lo hi sl Q I rx hs pl pu h
 obtain ⟨a,xs,rfl,hx,q⟩:=h
 cases rx
 obtain ⟨its,r,ht,hz⟩:=I.list hx
 have hlen:=r.length
 refine ⟨"list",_,slot_list_getitem.lookup,ht.isList.typeIs,?_⟩
 refine aoo ht.isList hs pl pu .none (by simp) ?_ (by rw [abp] <;> omega)
 rw [yD,<- hlen]
 refine ⟨.ref s.heap.objs.size,_,I.laid (t':=s.toks) (o:=.lst (mj xs lo hi)) (fun b ob q=>aap _ q) (aav _) ?_,rfl,q _ (I.hok.fresh (aav _))⟩
 exact ⟨adS (um xs lo hi) hz,_,0,(r.drop (HT.d8 xs.length 0 lo)).take (HT.d8 xs.length xs.length hi-HT.d8 xs.length 0 lo),aa8 _ rfl⟩
theorem bx:gK X (.builtin "len") (fun xs H Q=>∃ p ys,xs=[.ref p]/\(bY X.K H p ys∨bA X.K H p ys)/\Q (.int ys.length) H):=by
 intro pins s σ H xs us Q I r h
 obtain ⟨p,ys,rfl,hq,q⟩:=h
 obtain ⟨u,rfl,rx⟩:=vals1 r
 cases rx
 have hn:=rU
 rcases hq with hq | hq
 . obtain ⟨its,r',pl,hz⟩:=I.list hq
   have hlen:=r'.length
   exact Calls.call_len_list pl.isList (by simp only [abp] <;> omega) ⟨.int ys.length,H,I.tok _,⟨s.toks+1,by rw [abp,hlen]⟩,q⟩
 . obtain ⟨its,r',pl,hz⟩:=I.tuple hq
   have hlen:=r'.length
   exact len_tuple pl (by simp only [abp] <;> omega) ⟨.int ys.length,H,I.tok _,⟨s.toks+1,by rw [abp,hlen]⟩,q⟩
theorem Ay:gK X (.builtin "len") (fun xs H Q=>∃ z,xs=[.str z]/\z.length<=sizeLine/\Q (.int z.length) H):=by
 intro pins s σ H xs us Q I r h
 obtain ⟨z,rfl,hz,q⟩:=h
 obtain ⟨u,rfl,t,rfl⟩:=vals1 r
 have hn:=rU
 exact len_str (by omega) ⟨.int z.length,H,I.tok _,⟨_,rfl⟩,q⟩
theorem kY:gK X (.type "list") (fun xs H Q=>∃ p ys,xs=[.ref p]/\(bY X.K H p ys∨bA X.K H p ys)/\∀ l,H l=none->Q (.ref l) (upd H l (.lst ys))):=by
 intro pins s σ H xs us Q I r h
 obtain ⟨p,ys,rfl,hq,q⟩:=h
 obtain ⟨u,rfl,rx⟩:=vals1 r
 cases rx
 have fin:∀ (its:List aau),Vals ys its->ys.length<=sizeLine->∀ (h':ae9) (c':Nat),(∀ b o',s.heap.get? b=some o'->h'.get? b=some o') ->
     h'.get? s.heap.objs.size=some { cls:=.type "list",dict:=none,data:=.seq its.toArray c',slots:=#[] }->EP X pins σ Q (.ref s.heap.objs.size) { s with heap:=h' }:=fun its r' hz h' c' kp e =>
   ⟨.ref s.heap.objs.size,_,I.laid (t':=s.toks) kp (aav _) (show cu X.prog X.w _ h' _ (.lst ys) from ⟨hz,its,c',r',e⟩),rfl,q _ (I.hok.fresh (aav _))⟩
 rcases hq with hq | hq
 . obtain ⟨its,r',pl,hz⟩:=I.list hq
   have hlen:=r'.length
   obtain ⟨o,ho,hc,n,hd⟩:=pl.isList
   exact call_list_seq p (.inl rfl) ho hc hd (fun h' c' kp e=>fin its r' hz h' c' kp e) (by simp only [abp] <;> omega)
 . obtain ⟨its,r',pl,hz⟩:=I.tuple hq
   have hlen:=r'.length
   obtain ⟨o,ho,hc,n,hd⟩:=pl
   exact call_list_seq p (.inr rfl) ho hc hd (fun h' c' kp e=>fin its r' hz h' c' kp e) (by simp only [abp] <;> omega)
theorem bf:gK X (.type "tuple") (fun xs H Q=>∃ p ys,xs=[.ref p]/\((bY X.K H p ys/\∀ l,H l=none->Q (.ref l) (upd H l (.tup ys)))∨(bA X.K H p ys/\Q (.ref p) H))):=by
 intro pins s σ H xs us Q I r h
 obtain ⟨p,ys,rfl,h⟩:=h
 obtain ⟨u,rfl,rx⟩:=vals1 r
 cases rx
 rcases h with ⟨hq,q⟩ | ⟨hq,q⟩
 . obtain ⟨its,r',pl,hz⟩:=I.list hq
   have hlen:=r'.length
   refine call_tuple_list pl.isList (fun h' kp=>?_) (by simp only [abp] <;> omega)
   have I1:Inv X pins σ H { s with heap:=h' }:=I.kept (t':=s.toks) kp
   have I2:Inv X pins σ (upd H h'.objs.size (.tup ys)) { s with heap:=h'.push { cls:=.type "tuple",data:=.seq its.toArray } } :=
     I1.laid (t':=s.toks) (fun b o e=>aap _ e) (aav _) (show cu X.prog X.w _ _ _ (.tup ys) from ⟨hz,its,r',jK.new _ _⟩)
   exact ⟨.ref h'.objs.size,_,I2,rfl,q _ (I1.hok.fresh (aav _))⟩
 . obtain ⟨its,r',pl,hz⟩:=I.tuple hq
   exact call_tuple_same pl ⟨.ref p,H,I,rfl,q⟩
def tyV (K:aas) (T:String) (x:V) (H:Hp):Prop:=match x with
 | .str _=>T = "str"
 | .int _=>T = "int"
 | .ref p=>(T = "list"/\∃ xs,bY K H p xs)∨(T = "tuple"/\∃ o,K.lookup p=some o/\o.cls=.type "tuple"/\o.dict=none) ∨
     (T = "dict"/\((∃ kvs,H p=some (.dK kvs))∨∃ kvs,H p=some (.dT kvs)))∨(T = "set"/\∃ S n,H p=some (.set S n))
 | _=>False
theorem Zt {pins:List (abm × Obj)} {σ:St} {H:Hp} {s:aat} {T:String} {x:V} {v:aau} (I:Inv X pins σ H s) (r:RelV x v) (ty:tyV X.K T x H) :
   s.TypeIs v T/\∀ a,v=.ref a->∃ ob,s.heap.get? a=some ob/\ob.dict=none:=by
 cases x with
 | str z =>
   obtain ⟨t,rfl⟩:=r
   cases (show T = "str" from ty)
   exact ⟨arp s z t,fun _ e=>nomatch e⟩
 | int i =>
   obtain ⟨t,rfl⟩:=r
   cases (show T = "int" from ty)
   exact ⟨arq s i t,fun _ e=>nomatch e⟩
 | ref p =>
   cases r
   rcases ty with ⟨rfl,xs,hq⟩ | ⟨rfl,o,hk,hc,hd⟩ | ⟨rfl,hk⟩ | ⟨rfl,S,n,hk⟩
   . obtain ⟨its,_,pl,_⟩:=I.list hq
     refine ⟨pl.isList.typeIs,fun a e=>?_⟩
     cases e
     obtain ⟨o,n,e,c,hd,_⟩:=pl
     exact ⟨o,e,hd⟩
   . refine ⟨⟨o,I.CN p o hk,hc⟩,fun a e=>?_⟩
     cases e
     exact ⟨o,I.CN _ o hk,hd⟩
   . have z:∃ o,s.heap.get? p=some o/\o.ExactDict:=by
       rcases hk with ⟨kvs,hk⟩ | ⟨kvs,hk⟩
       . obtain ⟨_,_,_,_,o,_,_,e,ex,_⟩:=I.hok p _ hk
         exact ⟨o,e,ex⟩
       . obtain ⟨_,_,_,_,o,_,_,e,ex,_⟩:=I.hok p _ hk
         exact ⟨o,e,ex⟩
     obtain ⟨o,e,ex⟩:=z
     refine ⟨⟨o,e,ex.1⟩,fun a e2=>?_⟩
     cases e2
     exact ⟨o,e,ex.2.1⟩
   . obtain ⟨o,_,_,_,e,ex,_⟩:=I.hok p _ hk
     refine ⟨⟨o,e,ex.1⟩,fun a e2=>?_⟩
     cases e2
     exact ⟨o,e,ex.2.1⟩
 | _=>exact ahV ty
def tBM (K:aas) (T:String) (r:V->List V->Hp->VK->Prop) (to:TE) (t:TA):TE:=fun σ H Q=>to σ H fun x H1=>tyV K T x H1/\t σ H1 fun xs H2=>r x xs H2 Q
variable {o e:Expr} {es:List Expr} {to:TE} {t:TA} {name:Str} {apos cpos:Pos} {T id:String} {r:V->List V->Hp->VK->Prop}
theorem pD (pa:PlainAttrs T) (slot:Slot T name id) (hty:typeOf (.builtin id)=pure (.type "method_descriptor")) (hm:MtR X id r) (ho:PE X o to) (ha:PA X (e :: es) t)
   (hbase:attributeBase o name X.env (eval o X.env)=eval o X.env:=by rfl)
   (hfew:((backTo cpos (starEach (e :: es) X.env)).all (fun x=>!x.1) && (backToKw cpos (keywordEach [] X.env)).all (fun x=>x.1.isSome)
     && decide ((e :: es).length+([]:List aqN).length+(if ([]:List aqN).isEmpty then 0 else 1)<30))=true:=by rfl)
   (hline:(apos.endLine == cpos.line)=true:=by rfl) (hs:starEach (e :: es) X.env=(false,eval e X.env) :: starEach es X.env:=by rfl) (hplain:(backTo cpos (starEach es X.env)).any (·.1)=false:=by rfl) :
   PE X (.Call (.Attribute o name apos) (e :: es) [] cpos) (tBM X.K T r to t):=by
 intro pins s σ H Q I h
 refine wpAny_Call_method_late hbase hfew hline rfl (dw (ho pins s σ H _ I h) fun v s1 ⟨x,H1,I1,r1,ty,q1⟩=>?_)
 obtain ⟨h1,h2⟩:=Zt I1 r1 ty
 refine ⟨T,id,pa,slot,hty,h1,h2,?_⟩
 have hA:=ha cpos pins s1 σ H1 _ I1 q1
 rw [hs] at hA ⊢
 refine aiy (by show (false || (backTo cpos (starEach es X.env)).any (·.1))=false; rw [hplain] <;> rfl) (ame ?_)
 exact dw hA fun us s2 ⟨vs,H2,I2,r2,q2⟩=>hm pins s2 σ H2 x vs v us Q I2 r1 r2 q2
end
end L2
namespace L2
open PySem PySem.Spec PyProof.Rows
def MtM (X:Cx) (id:String) (r:V->List V->Hp->VK->Prop):Prop :=
 ∀ (pins:List (abm × Obj)) (s:aat) (σ:St) (H:Hp) (x:V) (xs:List V) (v:aau) (us:List aau) (Q:VK),Inv X pins σ H s->RelV x v->Vals xs us->r x xs H Q ->
   wpAny (model X.prog X.w) X.A (call (.builtin id) (v :: us)) (EP X pins σ Q) X.xe s
theorem Vals.one:∀ {x:V} {us:List aau},Vals [x] us->∃ u,us=[u]/\RelV x u
 | _,_,.cons r .nil=>⟨_,rfl,r⟩
theorem Vals.rep {xs:List V} {us:List aau} (h:Vals xs us):∀ k:Nat,Vals (acS k xs).flatten (acS k us).flatten
 | 0=>.nil
 | k+1=>by
   rw [ae1,ae1,aeR,aeR]
   exact Vals.append h (Vals.rep h k)
theorem foldl_rep (its:List aau):∀ (k:Nat) (acc:List aau),
   ars (fun x1 x2=>x1++x2) acc.toArray (acS k its.toArray)=(acc++(acS k its).flatten).toArray
 | 0,acc=>by simp
 | k+1,acc=>by
   have e:acc.toArray++its.toArray=(acc++its).toArray:=by simp
   have e2:(acc++its)++(acS k its).flatten=acc++(acS (k+1) its).flatten:=by
     rw [ae1,aeR,aeX]
   rw [<- e2,<- foldl_rep its k (acc++its),<- e,ae1,List.foldl_cons]
section
variable {X:Cx} {pins:List (abm × Obj)} {σ:St} {H:Hp} {s:aat} {l b:abm} {xs ys zs:List V}
theorem Inv.ab1 {its its':List aau} {n:Nat} {f:Array aau->Array aau} {t':Nat} (I:Inv X pins σ H s) (hH:H l=some (.lst xs))
   (e:s.heap.get? l=some { cls:=.type "list",data:=.seq its.toArray n }) (hf:f its.toArray=its'.toArray) (hv:Vals ys its') (hz:ys.length<=sizeLine) :
   Inv X pins σ (upd H l (.lst ys)) { s with heap:=s.heap.update l (afj f),toks:=t' }:=by
 have q:=PySem.IsL.update e f
 rw [hf] at q
 refine I.write (x:=l) (e:=l) (by rw [hH]; exact trivial) (.inl rfl) (fun b' u hb hu=>(ag5 s.heap (afj f) (afv hb)).trans hu) ⟨_,q⟩ ?_
 exact ⟨hz,its',_,hv,q⟩
theorem Inv.Vq {its:List aau} {t':Nat} (I:Inv X pins σ H s) (hv:Vals ys its) (hz:ys.length<=sizeLine) :
   Inv X pins σ (upd H s.heap.objs.size (.lst ys)) { s with heap:=s.heap.push { cls:=.type "list",data:=.seq its.toArray },toks:=t' } :=
 I.laid (fun _ _ q=>aap _ q) (aav _) ⟨hz,its,0,hv,aa8 _ rfl⟩
theorem Inv.fresh (I:Inv X pins σ H s):H s.heap.objs.size=none:=I.hok.fresh (aav _)
theorem Inv.Gv (I:Inv X pins σ H s) (hH:H l=some (.lst xs)):xs.length<=sizeLine/\∃ (its:List aau) (n:Nat),Vals xs its/\xs.length=its.length/\s.heap.get? l=some { cls:=.type "list",data:=.seq its.toArray n }:=by
 obtain ⟨z,its,n,r,e⟩:=I.hok l _ hH
 exact ⟨z,its,n,r,r.length,e⟩
theorem Dg {n:Nat} (h:n<=sizeLine):ah5 n=false:=by
 unfold ah5
 exact decide_eq_false (by omega)
end
section
variable {X:Cx}
def Vr:V->List V->Hp->VK->Prop:=fun x vs H Q=>∃ l xs y,x=.ref l/\vs=[y]/\H l=some (.lst xs)/\xs.length<sizeLine/\Q .non (upd H l (.lst (xs++[y])))
theorem fV:MtM X "list.append" Vr:=by
 intro pins s σ H x vs v us Q I rx rv h
 obtain ⟨l,xs,y,rfl,rfl,hH,hz,q⟩:=h
 cases rx
 obtain ⟨u,rfl,ru⟩:=rv.one
 obtain ⟨z,its,n,r,hl,e⟩:=I.Gv hH
 refine ap0 F.slot_list_append ⟨_,e,rfl⟩ F.entry_list_append (F.args_list_append_2 _ _) (PySem.list_append l its.toArray n u (by rw [abp]; omega)) ⟨e,?_⟩
 refine ⟨.non,_,I.ab1 (its':=its++[u]) hH e (by simp) (r.append (.cons ru .nil)) ?_,rfl,q⟩
 rw [abe,List.length_singleton]
 omega
def Vs:V->List V->Hp->VK->Prop:=fun x vs H Q=>∃ l b xs zs,x=.ref l/\vs=[.ref b]/\H l=some (.lst xs)/\H b=some (.lst zs)/\xs.length+zs.length<=sizeLine/\Q .non (upd H l (.lst (xs++zs)))
theorem yQ:MtM X "list.extend" Vs:=by
 intro pins s σ H x vs v us Q I rx rv h
 obtain ⟨l,b,xs,zs,rfl,rfl,hH,hB,hz,q⟩:=h
 cases rx
 obtain ⟨u,rfl,ru⟩:=rv.one
 cases ru
 obtain ⟨z,its,n,r,hl,e⟩:=I.Gv hH
 obtain ⟨z2,its2,n2,r2,hl2,e2⟩:=I.Gv hB
 have hsz:its.toArray.size+its2.toArray.size<=sizeLine:=by rw [abp,abp]; omega
 have PB:¬ (!its.toArray.isEmpty && ah5 (its.toArray.size+its2.toArray.size))=true:=by
   rw [Dg hsz,Bool.and_false]
   exact abn
 refine ap0 F.slot_list_extend ⟨_,e,rfl⟩ F.entry_list_extend (F.args_list_extend_2 _ _)
   (AutoSeq1.list_extend_list_list_0 l its.toArray n b its2.toArray n2 PB (by rw [abp]; omega) (by omega)) ⟨e,e2,?_⟩
 refine ⟨.non,_,I.ab1 (its':=its++its2) hH e (by simp) (r.append r2) ?_,rfl,q⟩
 rw [abe]
 omega
def agc:R2:=fun x y H Q=>∃ l b xs zs,x=.ref l/\y=.ref b/\H l=some (.lst xs)/\H b=some (.lst zs)/\xs.length+zs.length<=sizeLine/\∀ p,H p=none->Q (.ref p) (upd H p (.lst (xs++zs)))
theorem PJ:gD X (binaryOp .Add) agc:=by
 intro pins s σ H x y v u Q I rx ry h
 obtain ⟨l,b,xs,zs,rfl,rfl,hH,hB,hz,q⟩:=h
 cases rx
 cases ry
 obtain ⟨z,its,n,r,hl,e⟩:=I.Gv hH
 obtain ⟨z2,its2,n2,r2,hl2,e2⟩:=I.Gv hB
 refine PySem.P.add_list e e2 ?_ (by rw [abp,abp]; omega)
 have ea:its.toArray++its2.toArray=(its++its2).toArray:=by simp
 rw [ea]
 exact ⟨.ref _,_,I.Vq (t':=s.toks) (r.append r2) (by rw [abe]; omega),rfl,q _ I.fresh⟩
def agd:R2:=fun x y H Q=>∃ l k xs,x=.ref l/\y=.int k/\H l=some (.lst xs)/\-(2 ^ 63)<=k/\k<2 ^ 63/\xs.length * k.toNat<=sizeLine /\
 ∀ p,H p=none->Q (.ref p) (upd H p (.lst (acS k.toNat xs).flatten))
theorem len_rep {α:Type} (xs:List α) (k:Nat):(acS k xs).flatten.length=k * xs.length:=by
 induction k with
 | zero=>simp
 | succ k ih=>rw [ae1,aeR,abe,ih,Nat.succ_mul,apq]
theorem Zu:gD X (binaryOp .Mult) agd:=by
 intro pins s σ H x y v u Q I rx ry h
 obtain ⟨l,k,xs,rfl,rfl,hH,h1,h2,hz,q⟩:=h
 cases rx
 obtain ⟨t,rfl⟩:=ry
 obtain ⟨z,its,n,r,hl,e⟩:=I.Gv hH
 have hlen:its.toArray.size * k.toNat<=sizeLine:=by rw [abp,<- hl]; exact hz
 have hcap:¬ its.toArray.size * k.toNat > (2 ^ 63-1) / 8:=by
   have:(sizeLine:Nat)<=(2 ^ 63-1) / 8:=by decide
   omega
 have hfit:¬ (!Builtin.List.listFitsIndex k)=true:=by
   rw [fitsIndex_both h1 h2]
   exact abn
 have PB:¬ ah5 (its.toArray.size * k.toNat)=true:=by
   rw [Dg hlen]
   exact abn
 have hnew:ars (fun x1 x2=>x1++x2) #[] (acS (if its.toArray.isEmpty=true then 0 else k.toNat) its.toArray)=(acS k.toNat its).flatten.toArray:=by
   have f0:∀ m:Nat,ars (fun x1 x2=>x1++x2) #[] (acS m its.toArray)=(acS m its).flatten.toArray:=fun m=>by
     have:=foldl_rep its m []
     rw [List.nil_append] at this
     exact this
   rw [f0]
   cases its with
   | nil=>simp
   | cons a r'=>rw [if_neg (by simp)]
 refine wpAny_binaryOp_repeat_ref (T:="list") (U:="int") (by decide) ⟨_,e,rfl⟩ (fun s'=>arq s' k t) noFill_list_mul F.fills_int_mul F.slot_int_rmul repeat_list F.slot_int_index.lookup
   (ap0 F.slot_int_rmul (arq s k t) F.entry_int_rmul (F.args_int_rmul_2 _ _) (int___rmul___int_list k t l its.toArray n)
     ⟨e,rfl,⟨_,e,rfl⟩,ap0 F.slot_list_mul ⟨_,e,rfl⟩ F.entry_list_mul (F.args_list_mul_2 _ _) (AutoListH.list___mul___list_int_3 l its.toArray n k t hfit hcap PB) ⟨e,?_⟩⟩)
 rw [hnew]
 exact ⟨.ref _,_,I.Vq (t':=s.toks) (r.rep k.toNat) (by rw [len_rep,Nat.mul_comm]; exact hz),rfl,q _ I.fresh⟩
end
section
variable {prog:acs} {w:adH} {A:aeN} {E:aau->aat->Prop} {s:aat}
end
section
variable {X:Cx}
end
end L2
namespace L2
open PySem PySem.Spec PyProof.Rows
section
variable {κ:Type} [DecidableEq κ]
def cJ (kvs:List (κ × V)) (k:κ):Option V:=(kvs.find? fun kv=>decide (kv.1=k)).map (·.2)
def putK (kvs:List (κ × V)) (k:κ) (v:V):List (κ × V) :=
 if (kvs.any fun kv=>decide (kv.1=k))=true then kvs.map (fun kv=>if kv.1=k then (kv.1,v) else kv) else kvs++[(k,v)]
def fZ (kvs:List (κ × V)) (k:κ):List (κ × V):=kvs.filter fun kv=>decide (kv.1≠k)
theorem dF {p:κ × V} {r:List (κ × V)} {k:κ} (e:p.1=k):cJ (p :: r) k=some p.2:=by simp [cJ,aiQ,e]
theorem dG {p:κ × V} {r:List (κ × V)} {k:κ} (e:¬ p.1=k):cJ (p :: r) k=cJ r k:=by simp [cJ,aiQ,e]
theorem jU (k:κ):∀ kvs:List (κ × V),(kvs.any fun kv=>decide (kv.1=k))=(cJ kvs k).isSome
 | []=>rfl
 | p :: r=>by
   rw [anm]
   by_cases e:p.1=k
   . simp only [dF e,decide_eq_true e,Bool.true_or,aqy]
   . rw [dG e,decide_eq_false e,Bool.false_or]; exact jU k r
theorem Dh (k j:κ) (y:V):∀ kvs:List (κ × V),cJ (kvs.map fun kv=>if kv.1=k then (kv.1,y) else kv) j=(cJ kvs j).map fun x=>if j=k then y else x
 | []=>rfl
 | p :: r=>by
   have ih:=Dh k j y r
   rw [abA]
   by_cases h:p.1=k
   . rw [if_pos h]
     by_cases e:p.1=j
     . rw [dF (p:=(p.1,y)) e,dF e,aiR,if_pos (e.symm.trans h)]
     . rw [dG (p:=(p.1,y)) e,dG e,ih]
   . rw [if_neg h]
     by_cases e:p.1=j
     . rw [dF (p:=p) e,dF e,aiR,if_neg (fun z=>h (e.trans z))]
     . rw [dG (p:=p) e,dG e,ih]
theorem yR (k j:κ) (y:V):∀ kvs:List (κ × V),cJ kvs k=none->cJ (kvs++[(k,y)]) j=if j=k then some y else cJ kvs j
 | [],_=>by
   by_cases e:k=j
   . rw [if_pos e.symm]; exact dF (p:=(k,y)) e
   . rw [if_neg (fun z=>e z.symm)]; exact dG (p:=(k,y)) e
 | p :: r,hn=>by
   rw [ao0]
   have hk:¬ p.1=k:=fun z=>by rw [dF z] at hn; cases hn
   rw [dG hk] at hn
   have ih:=yR k j y r hn
   by_cases e:p.1=j
   . rw [dF e,dF e,if_neg (fun z=>hk (e.trans z))]
   . rw [dG e,dG e,ih]
theorem qQ (kvs:List (κ × V)) (k j:κ) (y:V):cJ (putK kvs k y) j=if j=k then some y else cJ kvs j:=by
 unfold putK
 by_cases a:(kvs.any fun kv=>decide (kv.1=k))=true
 . rw [if_pos a,Dh]
   rw [jU] at a
   by_cases e:j=k
   . obtain ⟨x,hx⟩:=ahX.mp a
     rw [if_pos e,e,hx,aiR,if_pos rfl]
   . rw [if_neg e]
     cases cJ kvs j with
     | none=>rfl
     | some x=>rw [aiR,if_neg e]
 . rw [if_neg a]
   refine yR k j y kvs ?_
   rw [jU] at a
   cases q:cJ kvs k with
   | none=>rfl
   | some x=>rw [q] at a; exact (a rfl).elim
theorem dH (kvs:List (κ × V)) (k:κ) (v:V):(putK kvs k v).length<=kvs.length+1:=by
 unfold putK
 split
 . rw [aao]; omega
 . rw [abe,acM,ahW]; omega
theorem jV {kvs:List (κ × V)} {k:κ} (v:V) (h:cJ kvs k=none):putK kvs k v=kvs++[(k,v)]:=by
 unfold putK
 rw [jU,h]
 exact if_neg (by decide)
theorem qN.jW {o:Option V} {u:Option aau} (r:qN o u):o.isSome=u.isSome:=by
 cases o with
 | none=>cases u with
   | none=>rfl
   | some _=>exact (show False from r).elim
 | some _=>cases u with
   | none=>exact (show False from r).elim
   | some _=>rfl
theorem qN.getD {o:Option V} {u:Option aau} {d:V} {d':aau} (r:qN o u) (rd:RelV d d'):RelV (o.getD d) (u.getD d'):=by
 cases o with
 | none=>cases u with
   | none=>exact rd
   | some _=>exact (show False from r).elim
 | some _=>cases u with
   | none=>exact (show False from r).elim
   | some _=>exact r
theorem KV.val {kvs:List (κ × V)} {vs:List (κ × aau)} (r:KV kvs vs) (k:κ):qN (cJ kvs k) (valueAt vs k):=by
 unfold KV at r
 induction r with
 | nil=>exact agS
 | @cons p q ps qs h t ih =>
   obtain ⟨h1,h2⟩:=h
   by_cases e:p.1=k
   . have e':q.1=k:=h1.symm.trans e
     have b:valueAt (q :: qs) k=some q.2:=by simp [valueAt,aiQ,e']
     rw [dF e,b]; exact h2
   . have e':¬ q.1=k:=fun z=>e (h1.trans z)
     have b:valueAt (q :: qs) k=valueAt qs k:=by simp [valueAt,aiQ,e']
     rw [dG e,b]; exact ih
theorem KV.any {kvs:List (κ × V)} {vs:List (κ × aau)} (r:KV kvs vs) (k:κ):(kvs.any fun kv=>decide (kv.1=k))=vs.any fun kv=>decide (kv.1=k):=by
 unfold KV at r
 induction r with
 | nil=>rfl
 | cons h t ih=>rw [anm,anm,ih,h.1]
theorem KV.repl {kvs:List (κ × V)} {vs:List (κ × aau)} (r:KV kvs vs) (k:κ) {y:V} {u:aau} (ry:RelV y u) :
   KV (kvs.map fun kv=>if kv.1=k then (kv.1,y) else kv) (vs.map fun kv=>if kv.1=k then (kv.1,u) else kv):=by
 unfold KV at r ⊢
 induction r with
 | nil=>exact .nil
 | @cons p q ps qs h t ih =>
   rw [abA,abA]
   refine .cons ?_ ih
   obtain ⟨h1,h2⟩:=h
   by_cases e:p.1=k
   . rw [if_pos e,if_pos (h1.symm.trans e)]; exact ⟨h1,ry⟩
   . rw [if_neg e,if_neg (fun z=>e (h1.trans z))]; exact ⟨h1,h2⟩
theorem KV.put {kvs:List (κ × V)} {vs:List (κ × aau)} (r:KV kvs vs) (k:κ) {y:V} {u:aau} (ry:RelV y u):KV (putK kvs k y) (stored vs k u):=by
 unfold putK stored
 rw [r.any k]
 by_cases e:(vs.any fun kv=>decide (kv.1=k))=true
 . rw [if_pos e,if_pos e]; exact r.repl k ry
 . rw [if_neg e,if_neg e]; exact Paired.snoc r ⟨rfl,ry⟩
theorem KV.drop {kvs:List (κ × V)} {vs:List (κ × aau)} (r:KV kvs vs) (k:κ):KV (fZ kvs k) (without vs k):=by
 unfold KV at r ⊢
 unfold fZ without
 induction r with
 | nil=>exact .nil
 | @cons p q ps qs h t ih =>
   obtain ⟨h1,h2⟩:=h
   rw [amm,amm]
   by_cases e:p.1=k
   . have a:¬ decide (p.1≠k)=true:=by simp [e]
     have b:¬ decide (q.1≠k)=true:=by simp [h1.symm.trans e]
     rw [if_neg a,if_neg b]; exact ih
   . have e':¬ q.1=k:=fun z=>e (h1.trans z)
     have a:decide (p.1≠k)=true:=by simp [e]
     have b:decide (q.1≠k)=true:=by simp [e']
     rw [if_pos a,if_pos b]; exact .cons ⟨h1,h2⟩ ih
theorem KV.keys {kvs:List (κ × V)} {vs:List (κ × aau)} (r:KV kvs vs):kvs.map (·.1)=vs.map (·.1):=by
 unfold KV at r
 induction r with
 | nil=>rfl
 | cons h t ih=>rw [abA,abA,ih,h.1]
theorem KV.length {kvs:List (κ × V)} {vs:List (κ × aau)} (r:KV kvs vs):kvs.length=vs.length:=aoH r
theorem PK (kvs:List (κ × V)) (k:κ):(fZ kvs k).length<=kvs.length:=am2 _ _
end
theorem pF {P:acs} {w:adH} {k:Key} {u:aau} (r:RelV (kV k) u):(aU P w).is k u=true:=by
 cases k with
 | inl i=>cases i with
   | none=>cases (show u=acR from r); exact Ao P w
   | some i=>obtain ⟨t,e⟩:=(show ∃ t,u=amg i t from r); subst e; exact CJ P w i t
 | inr x=>obtain ⟨t,e⟩:=(show ∃ t,u=anu x t from r); subst e; exact iU P w x t
theorem yS {P:acs} {w:adH}:∀ {ks:List Key} {us:List aau},Vals (ks.map kV) us->ItemsAre (aU P w) ks us
 | [],_,r=>by rw [am3] at r; cases r; exact .nil
 | k :: ks,_,r=>by
   rw [abA] at r
   cases r with
   | cons h t=>exact .cons (pF h) (yS t)
abbrev KT (H:Hp):List (List Key × V)->List (List Key × abm × aau)->Prop:=acN fun p q=>p.1=q.1/\H q.2.1=some (.tup (p.1.map kV))/\RelV p.2 q.2.2
theorem KT.val {H:Hp} {kvs:List (List Key × V)} {xs:List (List Key × abm × aau)} (r:KT H kvs xs) (k:List Key):qN (cJ kvs k) ((atKey xs k).map (·.2)):=by
 induction r with
 | nil=>exact agS
 | @cons p q ps qs h t ih =>
   obtain ⟨h1,_,h2⟩:=h
   by_cases e:p.1=k
   . have e':q.1=k:=h1.symm.trans e
     have b:atKey (q :: qs) k=some q.2:=by simp [atKey,aiQ,e']
     rw [dF e,b]; exact h2
   . have e':¬ q.1=k:=fun z=>e (h1.trans z)
     have b:atKey (q :: qs) k=atKey qs k:=by simp [atKey,aiQ,e']
     rw [dG e,b]; exact ih
theorem KT.repl {H:Hp} {kvs:List (List Key × V)} {xs:List (List Key × abm × aau)} (r:KT H kvs xs) (k:List Key) {y:V} {u:aau} (ry:RelV y u) :
   KT H (kvs.map fun kv=>if kv.1=k then (kv.1,y) else kv) (xs.map (putAt k u)):=by
 induction r with
 | nil=>exact .nil
 | @cons p q ps qs h t ih =>
   rw [abA,abA]
   refine .cons ?_ ih
   obtain ⟨h1,h2,h3⟩:=h
   unfold putAt
   by_cases e:p.1=k
   . rw [if_pos e,if_pos (h1.symm.trans e)]; exact ⟨h1,h2,ry⟩
   . rw [if_neg e,if_neg (fun z=>e (h1.trans z))]; exact ⟨h1,h2,h3⟩
theorem KT.put {H:Hp} {kvs:List (List Key × V)} {xs:List (List Key × abm × aau)} (r:KT H kvs xs) (k:List Key) {b:abm} {y:V} {u:aau} (hb:H b=some (.tup (k.map kV))) (ry:RelV y u) :
   KT H (putK kvs k y) (storedH xs k b u):=by
 have e:(kvs.any fun kv=>decide (kv.1=k))=(atKey xs k).isSome:=by
   rw [jU,(r.val k).jW,aop]
 unfold putK storedH
 rw [e]
 by_cases q:(atKey xs k).isSome=true
 . rw [if_pos q,if_pos q]; exact r.repl k ry
 . rw [if_neg q,if_neg q]; exact Paired.snoc r ⟨rfl,hb,ry⟩
theorem KT.keeps {H H':Hp} {kvs:List (List Key × V)} {xs:List (List Key × abm × aau)} (r:KT H kvs xs) (ht:∀ b ys,H b=some (.tup ys)->H' b=some (.tup ys)):KT H' kvs xs :=
 Paired.YX r fun _ _ z=>⟨z.1,ht _ _ z.2.1,z.2.2⟩
section
variable {P:acs} {w:adH} {H:Hp} {h:ae9} {a:abm}
theorem X8 {u:HO} (ok:pP P w H h) (e:Rd H a u):cu P w H h a u:=e.ok ok
theorem uo {kvs:List (Key × V)} (ok:pP P w H h) (e:Rd H a (.dK kvs)):kvs.length<=sizeLine/\(a == sysModules)=false/\∃ vs,KV kvs vs/\h.DictOf (aU P w) a vs :=
 show cu P w H h a (.dK kvs) from X8 ok e
theorem yU {kvs:List (Key × V)} (ok:pP P w H h) (e:H a=some (.dK kvs)):kvs.length<=sizeLine/\(a == sysModules)=false/\∃ vs,KV kvs vs/\h.DictOf (aU P w) a vs:=uo ok (.inl e)
theorem jM {ks:List Key} (ok:pP P w H h) (e:H a=some (.tup (ks.map kV))):(tupleKind (aU P w)).is h ks a:=by
 obtain ⟨_,its,r,o,h1,h2,⟨n,h3⟩,_⟩:=(show cu P w H h a (.tup (ks.map kV)) from ok a _ e)
 exact ⟨o,its.toArray,n,h1,h2,h3,by simpa using yS r⟩
theorem vK {kvs:List (List Key × V)} (ok:pP P w H h) (e:Rd H a (.dT kvs)):kvs.length<=sizeLine/\(a == sysModules)=false /\
   ∃ xs,KT H kvs xs/\h.DictOfH (tupleKind (aU P w)) a xs:=by
 obtain ⟨z,y,xs,r,o,es,ep,h1,h2,h3,h4,h5⟩:=(show cu P w H h a (.dT kvs) from X8 ok e)
 refine ⟨z,y,xs,r,o,es,ep,h1,h2,h3,h4,fun x hx=>?_,h5⟩
 have all:∀ {l:List (List Key × V)} {m:List (List Key × abm × aau)},KT H l m->∀ x∈m,(tupleKind (aU P w)).is h x.1 x.2.1:=by
   intro l m q
   induction q with
   | nil=>intro x hx; exact nomatch hx
   | @cons p q ps qs hq t ih =>
     intro x hx
     rcases abz.mp hx with e | hx
     . subst e
       exact jM ok (by rw [<- hq.1]; exact hq.2.1)
     . exact ih x hx
 exact all r x hx
theorem Yb {kvs:List (List Key × V)} (ok:pP P w H h) (e:H a=some (.dT kvs)):kvs.length<=sizeLine/\(a == sysModules)=false /\
   ∃ xs,KT H kvs xs/\h.DictOfH (tupleKind (aU P w)) a xs:=vK ok (.inl e)
end
def iW (H:Hp) (a:abm) (y:V) (r:Option V):Prop :=
 (∃ kvs k,Rd H a (.dK kvs)/\y=kV k/\r=cJ kvs k)∨∃ kvs k b,Rd H a (.dT kvs)/\y=.ref b/\H b=some (.tup (k.map kV))/\r=cJ kvs k
def Az (H:Hp) (a:abm) (y v:V) (H':Hp):Prop :=
 (∃ kvs k,H a=some (.dK kvs)/\y=kV k/\kvs.length<sizeLine/\H'=upd H a (.dK (putK kvs k v))) ∨
 ∃ kvs k b,H a=some (.dT kvs)/\y=.ref b/\H b=some (.tup (k.map kV))/\kvs.length<sizeLine/\H'=upd H a (.dT (putK kvs k v))
theorem iW.k {H:Hp} {a:abm} {kvs:List (Key × V)} {k:Key} (e:H a=some (.dK kvs)):iW H a (kV k) (cJ kvs k):=.inl ⟨kvs,k,.inl e,rfl,rfl⟩
theorem iW.t {H:Hp} {a b:abm} {kvs:List (List Key × V)} {k:List Key} (e:H a=some (.dT kvs)) (eb:H b=some (.tup (k.map kV))):iW H a (.ref b) (cJ kvs k):=.inr ⟨kvs,k,b,.inl e,rfl,eb,rfl⟩
theorem Az.k {H:Hp} {a:abm} {kvs:List (Key × V)} {k:Key} {v:V} (e:H a=some (.dK kvs)) (hl:kvs.length<sizeLine):Az H a (kV k) v (upd H a (.dK (putK kvs k v))):=.inl ⟨kvs,k,e,rfl,hl,rfl⟩
theorem Az.t {H:Hp} {a b:abm} {kvs:List (List Key × V)} {k:List Key} {v:V} (e:H a=some (.dT kvs)) (eb:H b=some (.tup (k.map kV))) (hl:kvs.length<sizeLine) :
   Az H a (.ref b) v (upd H a (.dT (putK kvs k v))):=.inr ⟨kvs,k,b,e,rfl,eb,hl,rfl⟩
section
variable {X:Cx} {pins:List (abm × Obj)} {σ:St} {H:Hp} {s:aat} {a:abm} {y v:V} {u r:aau} {o:Option V} {A:aeN} {E:aau->aat->Prop}
theorem Inv.big (I:Inv X pins σ H s):sysModules<s.heap.objs.size:=by
 have h:mainGlobals<s.heap.objs.size:=(I.mod.glob.keeps I.bk).lt
 exact aps (by decide) h
theorem KZ {Q:aau->aat->Prop} (hu:A.units+1<cLine) (I:Inv X pins σ H s) (g:iW H a y (some v)) (ry:RelV y u) (h:∀ w' s',Inv X pins σ H s'->RelV v w'->Q w' s') :
   wpAny (model X.prog X.w) A (getItem (.ref a) u) Q E s:=by
 rcases g with ⟨kvs,k,e,ey,l⟩ | ⟨kvs,k,b,e,ey,eb,l⟩
 . subst ey
   obtain ⟨z,hd,vs,rel,dd⟩:=uo I.hok e
   obtain ⟨w',hw,Df⟩:=qN.some_of (v:=v) (o:=valueAt vs k) (by rw [l]; exact rel.val k)
   exact wpAny_getItem_of (pF ry) dd.mapOf hw (h w' _ (I.tok _) Df)
 . subst ey
   cases (show u=abk b from ry)
   obtain ⟨z,hd,xs,rel,dd⟩:=vK I.hok e
   obtain ⟨w',hw,Df⟩:=qN.some_of (v:=v) (o:=(atKey xs k).map (·.2)) (by rw [l]; exact rel.val k)
   obtain ⟨p,hp,hp2⟩:=ahl.mp hw
   refine wpAny_getItem_heap (ahy hu) (jM I.hok eb) dd hp ?_
   rw [hp2]
   exact h w' _ (I.tok _) Df
theorem agf {Q:aau->aat->Prop} (hu:A.units+1<cLine) (I:Inv X pins σ H s) (g:iW H a y o) (ry:RelV y u) (h:∀ s',Inv X pins σ H s'->Q (.bool o.isSome) s') :
   wpAny (model X.prog X.w) A (compareOp .In u (.ref a)) Q E s:=by
 rcases g with ⟨kvs,k,e,ey,l⟩ | ⟨kvs,k,b,e,ey,eb,l⟩
 . subst ey
   obtain ⟨z,hd,vs,rel,dd⟩:=uo I.hok e
   refine wpAny_in_of (pF ry) hd dd.mapOf ?_
   rw [<- (rel.val k).jW,<- l]
   exact h _ (I.tok _)
 . subst ey
   cases (show u=abk b from ry)
   obtain ⟨z,hd,xs,rel,dd⟩:=vK I.hok e
   refine wpAny_in_heap (ahy hu) (jM I.hok eb) hd dd ?_
   have q:=(rel.val k).jW
   rw [aop] at q
   rw [<- q,<- l]
   exact h _ (I.tok _)
theorem Vt {Q:aau->aat->Prop} (hu:A.units+1<cLine) (I:Inv X pins σ H s) (g:iW H a y o) (ry:RelV y u) (h:∀ s',Inv X pins σ H s'->Q (.bool (!o.isSome)) s') :
   wpAny (model X.prog X.w) A (compareOp .NotIn u (.ref a)) Q E s:=by
 rcases g with ⟨kvs,k,e,ey,l⟩ | ⟨kvs,k,b,e,ey,eb,l⟩
 . subst ey
   obtain ⟨z,hd,vs,rel,dd⟩:=uo I.hok e
   refine wpAny_notIn_of (pF ry) hd dd.mapOf ?_
   rw [<- (rel.val k).jW,<- l]
   exact h _ (I.tok _)
 . subst ey
   cases (show u=abk b from ry)
   obtain ⟨z,hd,xs,rel,dd⟩:=vK I.hok e
   refine wpAny_notIn_heap (ahy hu) (jM I.hok eb) hd dd ?_
   have q:=(rel.val k).jW
   rw [aop] at q
   rw [<- q,<- l]
   exact h _ (I.tok _)
theorem kZ {h':ae9} {t':Nat} {ob:HO} (I:Inv X pins σ H s) (mu:Mut (H a)) (hs:afh a s.heap h') (he:∃ q,h'.get? a=some q) (new:cu X.prog X.w (upd H a ob) h' a ob) :
   Inv X pins σ (upd H a ob) { s with heap:=h',toks:=t' } :=
 I.write (x:=a) (e:=a) mu (.inl rfl) (fun b q hb z=>(hs.2 b hb).trans z) he new
theorem vM {P:acs} {w:adH} {H':Hp} {h':ae9} {kvs:List (Key × V)} {vs:List (Key × aau)} (z:kvs.length<=sizeLine) (hd:(a == sysModules)=false) (rel:KV kvs vs) (dd:h'.DictOf (aU P w) a vs) :
   cu P w H' h' a (.dK kvs):=⟨z,hd,vs,rel,dd⟩
theorem K3 {H':Hp} {Q:Unit->aat->Prop} (hu:A.units+1<cLine) (I:Inv X pins σ H s) (g:Az H a y v H') (ry:RelV y u) (rv:RelV v r) (h:∀ s',Inv X pins σ H' s'->Q () s') :
   wpAny (model X.prog X.w) A (setItem (.ref a) u r) Q E s:=by
 rcases g with ⟨kvs,k,e,ey,l,eH⟩ | ⟨kvs,k,b,e,ey,eb,l,eH⟩
 . subst ey eH
   obtain ⟨z,hd,vs,rel,dd⟩:=yU I.hok e
   have hz:vs.length<=sizeLine:=by rw [<- rel.length]; exact z
   have hl:(putK kvs k v).length<=sizeLine:=by have:=dH kvs k v; omega
   refine wpAny_setItem_pairs (hsz:=hz) (pF ry) dd fun h' Ou hs=>h _ ?_
   have he:∃ q,h'.get? a=some q:=let ⟨q,_,_,hq,_⟩:=Ou; ⟨q,hq⟩
   exact kZ I (by rw [e]; exact agS) hs he (vM hl hd (rel.put k rv) Ou)
 . subst ey eH
   cases (show u=abk b from ry)
   obtain ⟨z,hd,xs,rel,dd⟩:=Yb I.hok e
   have hz:xs.length<=sizeLine:=by rw [<- aoH rel]; exact z
   have hl:(putK kvs k v).length<=sizeLine:=by have:=dH kvs k v; omega
   refine wpAny_setItem_heap (hsz:=hz) (ahy hu) (jM I.hok eb) dd fun h' Ou hs=>h _ ?_
   obtain ⟨q,es,ep,hq,h2,h3,h4,_,h5⟩:=Ou
   refine kZ I (by rw [e]; exact agS) hs ⟨q,hq⟩ ⟨hl,hd,_,(rel.put k eb rv).keeps fun c ys ec=>?_,q,es,ep,hq,h2,h3,h4,h5⟩
   rw [aF (XQ ec e (fun z=>nomatch z))]
   exact ec
end
section
variable {X:Cx} {pins:List (abm × Obj)} {σ:St} {H:Hp} {s:aat} {a:abm} {kvs:List (Key × V)} {k:Key} {u:aau} {A:aeN} {E:aau->aat->Prop}
theorem ab2 {v:V} {more:List aau} {Q:aau->aat->Prop} (I:Inv X pins σ H s) (e:H a=some (.dK kvs)) (ry:RelV (kV k) u) (l:cJ kvs k=some v) (hm:more=[]∨∃ x,more=[x])
   (h:∀ w' s',Inv X pins σ (upd H a (.dK (fZ kvs k))) s'->RelV v w'->Q w' s'):wpAny (model X.prog X.w) A (call (.builtin "dict.pop") (.ref a :: u :: more)) Q E s:=by
 obtain ⟨z,hd,vs,rel,dd⟩:=yU I.hok e
 obtain ⟨w',hw,Df⟩:=qN.some_of (v:=v) (o:=valueAt vs k) (by rw [<- l]; exact rel.val k)
 have hp:(keyPart u).isSome=true:=by
   cases k with
   | inl i=>cases i with
     | none=>cases (show u=acR from ry); rfl
     | some i=>obtain ⟨t,q⟩:=(show ∃ t,u=amg i t from ry); subst q; rfl
   | inr x=>obtain ⟨t,q⟩:=(show ∃ t,u=anu x t from ry); subst q; rfl
 have ha:argsOk "dict.pop" ⟨.ref a :: u :: more,[]⟩:=by
   rcases hm with q | ⟨x,q⟩
   . subst q; exact PySem.F.args_dict_pop_2 _ _
   . subst q; exact PySem.F.args_dict_pop_3 _ _ _
 refine apu apv dd.typeIs PySem.F.entry_dict_pop ha (meets_dict_pop_there (aU X.prog X.w) a (pF ry) more hm hp)
   ⟨vs,w',dd,by rw [<- rel.length]; exact z,hw,fun h' Ou hs=>h w' _ ?_ Df⟩
 have he:∃ q,h'.get? a=some q:=let ⟨q,_,_,hq,_⟩:=Ou; ⟨q,hq⟩
 exact kZ I (by rw [e]; exact agS) hs he (vM (adS (PK kvs k) z) hd (rel.drop k) Ou)
theorem ab3 {Q:aau->aat->Prop} (I:Inv X pins σ H s) (e:Rd H a (.dK kvs)) (h:∀ t s',Inv X pins σ H s'->Q (.int kvs.length t) s'):wpAny (model X.prog X.w) A (call (.builtin "len") [.ref a]) Q E s:=by
 obtain ⟨z,hd,vs,rel,dd⟩:=uo I.hok e
 refine call_len_dict hd dd (by rw [<- rel.length]; rw [acO] at z; omega) ?_
 rw [<- rel.length]
 exact h _ _ (I.tok _)
end
def ab4 (i:Expr):Prop:=∀ ov iv,subscripted i false ov iv=operate [ov,iv] (getItem ov iv)
theorem Vu {prog:acs} {w:adH} {A:aeN} {E:aau->aat->Prop} {s:aat} {env:Env} {value slice:Expr} {pos:Pos} {T id:String} {Q:aau->aat->Prop}
   (hl:typeLookup (.type T) "__getitem__" = pure (some (.builtin id))) (hs:ab4 slice)
   (h:wpAny (model prog w) A (eval value env) (fun o s₁=>wpAny (model prog w) A (eval slice env) (fun i s₂=>s₂.TypeIs o T/\wpAny (model prog w) A (getItem o i) Q E s₂) E s₁) E s) :
   wpAny (model prog w) A (eval (.Subscript value slice pos) env) Q E s:=by
 refine aqP (ae5 h (fun o s₁ h₁=>ae5 h₁ (fun i s₂ h₂=>?_) fun _ _ x=>x) fun _ _ x=>x)
 obtain ⟨hT,h₂⟩:=h₂
 unfold subscriptTail
 refine Fi ?_
 rw [getitemInPython_of_ne hT.not_modules]
 refine Fi (amv hT hl ?_)
 have fin:wpAny (model prog w) A (subscripted slice false o i) (fun r s₃=>wpAny (model prog w) A (letTemporaryGo value o r >>= fun _=>pure r) Q E s₃) E s₂:=by
   rw [hs o i]
   exact wpAny_operating (ae5 h₂ (fun r s₃ h₃=>Fi (wpAny_letTemporaryGo (aar h₃))) fun _ _ x=>x)
 first
   | exact aar (Fi fin)
   | exact Fi (aar (Fi fin))
   | exact Fi fin
theorem Di {X:Cx} {pins:List (abm × Obj)} {σ:St} {H:Hp} {s:aat} {a:abm} {y:V} {o:Option V} (I:Inv X pins σ H s) (g:iW H a y o):s.TypeIs (.ref a) "dict":=by
 rcases g with ⟨kvs,k,e,_,_⟩ | ⟨kvs,k,b,e,_,_,_⟩
 . obtain ⟨_,_,vs,_,dd⟩:=uo I.hok e
   exact dd.typeIs
 . obtain ⟨_,_,xs,_,dd⟩:=vK I.hok e
   exact dd.typeIs
def ab5 (td ty:TE):TE:=fun σ H Q=>td σ H fun x H1=>ty σ H1 fun y H2=>∃ a v,x=.ref a/\iW H2 a y (some v)/\Q v H2
def agg (ty td:TE):TE:=fun σ H Q=>ty σ H fun y H1=>td σ H1 fun x H2=>∃ a o,x=.ref a/\iW H2 a y o/\Q (.bl o.isSome) H2
def Vv (ty td:TE):TE:=fun σ H Q=>ty σ H fun y H1=>td σ H1 fun x H2=>∃ a o,x=.ref a/\iW H2 a y o/\Q (.bl (!o.isSome)) H2
def ab6 (td ty tv:TE):TS:=fun D σ H=>tv σ H fun v H1=>td σ H1 fun x H2=>ty σ H2 fun y H3=>∃ a H4,x=.ref a/\Az H3 a y v H4/\D.nx σ H4
section
variable {X:Cx} {o i e value:Expr} {pos pos' tpos:Pos} {td ty tv:TE}
theorem jC (hu:X.A.units+1<cLine) (ho:PE X o td) (hi:PE X i ty) (hs:ab4 i):PE X (.Subscript o i pos) (ab5 td ty):=by
 intro pins s σ H Q I h
 refine Vu PySem.F.slot_dict_getitem.lookup hs (dw (ho pins s σ H _ I h) fun u s1 ⟨x,H1,I1,rx,q1⟩=>dw (hi pins s1 σ H1 _ I1 q1) fun iv s2 ⟨y,H2,I2,ry,a,v,ex,g,q2⟩=>?_)
 subst ex
 obtain rfl:u=abk a:=rx
 exact ⟨Di I2 g,KZ hu I2 g ry fun w' s3 I3 Df=>⟨v,H2,I3,Df,q2⟩⟩
theorem PL (hu:X.A.units+1<cLine) (hi:PE X i ty) (ho:PE X o td):PC X .In i o (agg ty td):=by
 intro pins s σ H Q I h
 refine dw (hi pins s σ H _ I h) fun iv s1 ⟨y,H1,I1,ry,q1⟩=>dw (ho pins s1 σ H1 _ I1 q1) fun u s2 ⟨x,H2,I2,rx,a,ov,ex,g,q2⟩=>?_
 subst ex
 obtain rfl:u=abk a:=rx
 exact agf hu I2 g ry fun s3 I3=>⟨.bl ov.isSome,H2,I3,rfl,q2⟩
theorem yV (hu:X.A.units+1<cLine) (hi:PE X i ty) (ho:PE X o td):PC X .NotIn i o (Vv ty td):=by
 intro pins s σ H Q I h
 refine dw (hi pins s σ H _ I h) fun iv s1 ⟨y,H1,I1,ry,q1⟩=>dw (ho pins s1 σ H1 _ I1 q1) fun u s2 ⟨x,H2,I2,rx,a,ov,ex,g,q2⟩=>?_
 subst ex
 obtain rfl:u=abk a:=rx
 exact Vt hu I2 g ry fun s3 I3=>⟨.bl (!ov.isSome),H2,I3,rfl,q2⟩
theorem Ba (hu:X.A.units+1<cLine) (ho:PE X o td) (hi:PE X i ty) (hv:PE X value tv) (hs:swapsWith value (some (.Subscript o i pos')) pos.line X.env=pure false) :
   PS X (.Assign [.Subscript o i pos'] value pos) (ab6 td ty tv):=by
 intro pins s σ H D I h
 refine wpAny_Assign_Subscript (dw (hv pins s σ H _ I h) fun r s1 ⟨v,H1,I1,rv,q1⟩=>dw (ho pins s1 σ H1 _ I1 q1) fun u s2 ⟨x,H2,I2,rx,q2⟩=>dw (hi pins s2 σ H2 _ I2 q2) fun iv s3 ⟨y,H3,I3,ry,a,H4,ex,g,q3⟩=>?_) hs
 subst ex
 obtain rfl:u=abk a:=rx
 exact K3 hu I3 g ry rv fun s4 I4=>⟨σ,H4,I4,q3⟩
end
theorem Dj {P:acs} {w:adH} {H:Hp} (h:ae9) (hb:sysModules<h.objs.size):cu P w H (h.push { cls:=.type "dict",data:=.dict #[] }) h.objs.size (.dK []) :=
 ⟨abV _,beq_eq_false_iff_ne.mpr (afv (acu hb)),[],.nil,Heap.DictOf.new h⟩
theorem PN {P:acs} {w:adH} {H:Hp} (h:ae9) (hb:sysModules<h.objs.size):cu P w H (h.push { cls:=.type "dict",data:=.dict #[] }) h.objs.size (.dT []) :=
 ⟨abV _,beq_eq_false_iff_ne.mpr (afv (acu hb)),[],.nil,_,#[],0,aa8 _ rfl,⟨rfl,rfl,rfl⟩,rfl,rfl,List.nodup_nil⟩
def Zv:TE:=fun _ H Q=>∀ p,H p=none->Q (.ref p) (upd H p (.dK []))
def Zw:TE:=fun _ H Q=>∀ p,H p=none->Q (.ref p) (upd H p (.dT []))
section
variable {X:Cx} {pos:Pos}
theorem vN:PE X (.Dict [] [] pos) Zv:=fun pins s σ H Q I h =>
 wpAny_Dict_empty ⟨.ref s.heap.objs.size,_,I.laid (a:=s.heap.objs.size) (o:=.dK []) (t':=s.toks) (fun _ _ q=>aap _ q) (aav _) (Dj s.heap I.big),rfl,h _ (I.hok.fresh (aav _))⟩
theorem Dk:PE X (.Dict [] [] pos) Zw:=fun pins s σ H Q I h =>
 wpAny_Dict_empty ⟨.ref s.heap.objs.size,_,I.laid (a:=s.heap.objs.size) (o:=.dT []) (t':=s.toks) (fun _ _ q=>aap _ q) (aav _) (PN s.heap I.big),rfl,h _ (I.hok.fresh (aav _))⟩
end
def iz (kvs more:List (Key × V)):List (Key × V):=more.foldl (fun acc kv=>putK acc kv.1 kv.2) kvs
theorem KV.merge:∀ {more:List (Key × V)} {rs:List (Key × aau)} {kvs:List (Key × V)} {vs:List (Key × aau)},KV more rs->KV kvs vs->KV (iz kvs more) (merged vs rs):=by
 intro more rs kvs vs r
 unfold KV at r
 induction r generalizing kvs vs with
 | nil=>intro q; exact q
 | @cons p q ps qs h t ih =>
   intro r0
   have e:KV (putK kvs p.1 p.2) (stored vs q.1 q.2):=by
     have:=r0.put p.1 h.2
     rw [<- h.1]; exact this
   exact ih e
theorem pG:∀ (more kvs:List (Key × V)),(iz kvs more).length<=kvs.length+more.length
 | [],kvs=>by show kvs.length<=kvs.length+0; omega
 | p :: r,kvs=>by
   have h1:=pG r (putK kvs p.1 p.2)
   have h2:=dH kvs p.1 p.2
   show (iz (putK kvs p.1 p.2) r).length<=_
   rw [acM]; omega
structure M1 (X:Cx) (o:Expr) (m:Str) (apos:Pos) (e:Expr) (cpos:Pos):Prop where
 base:attributeBase o m X.env (eval o X.env)=eval o X.env
 few:((backTo cpos (starEach [e] X.env)).all (fun x=>!x.1) && (backToKw cpos (keywordEach [] X.env)).all (fun x=>x.1.isSome)
   && decide (([e]:List Expr).length+([]:List aqN).length+(if ([]:List aqN).isEmpty then 0 else 1)<30))=true
 line:(apos.endLine == cpos.line)=true
 trees:backTo cpos (starEach [e] X.env)=[(false,eval e X.env)]
structure M2 (X:Cx) (o:Expr) (m:Str) (apos:Pos) (e f:Expr) (cpos:Pos):Prop where
 base:attributeBase o m X.env (eval o X.env)=eval o X.env
 few:((backTo cpos (starEach [e,f] X.env)).all (fun x=>!x.1) && (backToKw cpos (keywordEach [] X.env)).all (fun x=>x.1.isSome)
   && decide (([e,f]:List Expr).length+([]:List aqN).length+(if ([]:List aqN).isEmpty then 0 else 1)<30))=true
 line:(apos.endLine == cpos.line)=true
 trees:backTo cpos (starEach [e,f] X.env)=[(false,eval e X.env),(false,eval f X.env)]
def IsD (H:Hp) (a:abm):Prop:=(∃ kvs,Rd H a (.dK kvs))∨∃ kvs,Rd H a (.dT kvs)
theorem Gw {X:Cx} {pins:List (abm × Obj)} {σ:St} {H:Hp} {s:aat} {a:abm} (I:Inv X pins σ H s) (d:IsD H a) :
   s.TypeIs (.ref a) "dict"/\(∀ b,abk a=.ref b->∃ ob,s.heap.get? b=some ob/\ob.dict=none)/\(a == sysModules)=false:=by
 rcases d with ⟨kvs,e⟩ | ⟨kvs,e⟩
 . obtain ⟨_,hd,vs,_,dd⟩:=uo I.hok e
   refine ⟨dd.typeIs,fun b q=>?_,hd⟩
   cases q
   obtain ⟨ob,_,_,h1,h2,_⟩:=dd
   exact ⟨ob,h1,h2.2.1⟩
 . obtain ⟨_,hd,xs,_,dd⟩:=vK I.hok e
   refine ⟨dd.typeIs,fun b q=>?_,hd⟩
   cases q
   obtain ⟨ob,_,_,h1,h2,_⟩:=dd
   exact ⟨ob,h1,h2.2.1⟩
section
variable {X:Cx} {pins:List (abm × Obj)} {σ:St} {H:Hp} {s:aat} {a:abm} {y d:V} {u r:aau} {o:Option V} {A:aeN} {E:aau->aat->Prop}
theorem Zx {Q:aau->aat->Prop} (hu:A.units+1<cLine) (I:Inv X pins σ H s) (g:iW H a y o) (ry:RelV y u) (rd:RelV d r) (h:∀ w' s',Inv X pins σ H s'->RelV (o.getD d) w'->Q w' s') :
   wpAny (model X.prog X.w) A (call (.builtin "dict.get") [.ref a,u,r]) Q E s:=by
 rcases g with ⟨kvs,k,e,ey,l⟩ | ⟨kvs,k,b,e,ey,eb,l⟩
 . subst ey
   obtain ⟨z,hd,vs,rel,dd⟩:=uo I.hok e
   refine apu am4 dd.typeIs apa (aoJ _ _ _) (meets_dict_get_default (aU X.prog X.w) a (pF ry) hd r) ⟨_,dd.mapOf,h _ _ (I.tok _) ?_⟩
   rw [l]
   exact (rel.val k).getD rd
 . subst ey
   cases (show u=abk b from ry)
   obtain ⟨z,hd,xs,rel,dd⟩:=vK I.hok e
   refine apu am4 dd.typeIs apa (aoJ _ _ _) (meetsH_dict_get_default (tupleKind (aU X.prog X.w)) a b hd r) ⟨ahy hu,k,xs,jM I.hok eb,dd,h _ _ (I.tok _) ?_⟩
   rw [l]
   exact (rel.val k).getD rd
end
def Zy (td ty tx:TE):TE:=fun σ H Q=>td σ H fun x H1=>∃ a,x=.ref a/\IsD H1 a/\ty σ H1 fun y H2=>tx σ H2 fun z H3=>∃ o,iW H3 a y o/\Q (o.getD z) H3
def Zz (td ty:TE):TE:=fun σ H Q=>td σ H fun x H1=>∃ a,x=.ref a/\IsD H1 a/\ty σ H1 fun y H2=>∃ kvs k v,H2 a=some (.dK kvs)/\y=kV k/\cJ kvs k=some v/\Q v (upd H2 a (.dK (fZ kvs k)))
section
variable {X:Cx} {o e f:Expr} {apos cpos:Pos} {td ty tx:TE}
theorem PX (hu:X.A.units+1<cLine) (ho:PE X o td) (he:PE X e ty) (hf:PE X f tx) (m:M2 X o "get" apos e f cpos):PE X (.Call (.Attribute o "get" apos) [e,f] [] cpos) (Zy td ty tx):=by
 intro pins s σ H Q I h
 refine aoq m.base m.few m.line aij am4 PySem.F.type_dict_get (dw (ho pins s σ H _ I h) fun u s1 ⟨x,H1,I1,rx,a,ex,d,q1⟩=>?_)
 subst ex
 obtain rfl:u=abk a:=rx
 obtain ⟨t1,t2,_⟩:=Gw I1 d
 refine ⟨t1,t2,?_⟩
 rw [m.trees]
 refine aiy rfl (ame (ahp (dw (he pins s1 σ H1 _ I1 q1) fun iv s2 ⟨y,H2,I2,ry,q2⟩ =>
   ahp (dw (hf pins s2 σ H2 _ I2 q2) fun fv s3 ⟨z,H3,I3,rz,ov,g,q3⟩=>amR ?_))))
 exact Zx hu I3 g ry rz fun w' s4 I4 Df=>⟨_,H3,I4,Df,q3⟩
theorem Qa (ho:PE X o td) (he:PE X e ty) (m:M1 X o "pop" apos e cpos):PE X (.Call (.Attribute o "pop" apos) [e] [] cpos) (Zz td ty):=by
 intro pins s σ H Q I h
 refine aoq m.base m.few m.line aij apv PySem.F.type_dict_pop (dw (ho pins s σ H _ I h) fun u s1 ⟨x,H1,I1,rx,a,ex,d,q1⟩=>?_)
 subst ex
 obtain rfl:u=abk a:=rx
 obtain ⟨t1,t2,_⟩:=Gw I1 d
 refine ⟨t1,t2,?_⟩
 rw [m.trees]
 refine aiy rfl (ame (ahp (dw (he pins s1 σ H1 _ I1 q1) fun iv s2 ⟨y,H2,I2,ry,kvs,k,v,ea,ey,l,q2⟩=>amR ?_)))
 subst ey
 exact ab2 I2 ea ry l (.inl rfl) fun w' s3 I3 Df=>⟨v,_,I3,Df,q2⟩
end
section
variable {X:Cx} {pins:List (abm × Obj)} {σ:St} {H:Hp} {s:aat} {a:abm} {kvs:List (Key × V)} {A:aeN} {E:aau->aat->Prop}
end
section
variable {X:Cx} {pins:List (abm × Obj)} {σ:St} {H:Hp} {s:aat} {a:abm} {y:V} {u:aau} {A:aeN} {E:aau->aat->Prop}
end
end L2
namespace Att
open PySem PySem.W PySem.Calls PyProof.Rows
theorem uP {P:Params} {h:ae9}:∀ (ns:List Int) (vs:List aau),WellAll P h vs (ns.map WData.int)->arz vs ns:=by
 intro ns
 induction ns with
 | nil =>
   intro vs w
   rw [am3] at w
   cases w
   exact .nil
 | cons n ns ih =>
   intro vs w
   rw [abA] at w
   cases w with
   | cons a b =>
     cases a
     exact .cons _ _ (ih _ b)
theorem K4 {l:OpenLaw} {n:Nat} (hn:l.most=some n) {P:Params} {h:ae9} {args:List WData} {vals:List aau}
   (hpre:l.row.toRowW.claim.pre args=true) (hwl:WellAll P h vals args) :
   ∃ a vs ns,vals=[abk a]/\args=[WData.list (ns.map WData.int)]/\h.get? a=some { cls:=.type "list",data:=.seq vs.toArray }/\arz vs ns/\ns.length<=n:=by
 have hsh:WShape.hasAll [] args [.list .int]=true:=(pre_splitW hpre).1
 have hc:l.pre.holds [] { args:=args }=true:=(pre_splitW hpre).2
 obtain ⟨d,r,rfl,h1,h2⟩:=hasAllW_cons hsh
 obtain rfl:=hasAllW_nil h2
 obtain ⟨xs,rfl,h3⟩:=hasW_list h1
 obtain ⟨ns,rfl⟩:=items_int h3
 have hlen:ns.length<=n:=by
   unfold OpenLaw.pre at hc
   have h4:(WTm.not (.lt (.lit (.int (n:Int))) (.len (.arg 0)))).holds [] { args:=[.list (ns.map .int)] }=true:=by
     have h4:=(holds_andW hc).1
     rw [hn] at h4
     exact h4
   have h5:=condW_of h4 (w_not (w_lt w_lit (w_len_list (w_arg rfl))))
   rw [aao] at h5
   refine ao2 fun q=>?_
   have q':(n:Int)<((ns.length:Nat):Int):=by omega
   first
     | (rw [decide_eq_true q'] at h5; exact absurd h5 (by decide))
     | (simp at h5; omega)
 cases hwl with
 | cons w1 w2 =>
   cases w2
   cases w1 with
   | list ho hall=>exact ⟨_,_,ns,rfl,rfl,ho,uP ns _ hall,hlen⟩
theorem K5 (l:OpenLaw) (args:List WData):l.row.toRowW.claim.post args (.bool true) args=true :=
 postW_of (r:=l.row.toRowW) (X:=(true == true))
   (show WShape.has [] (.bool true) .bool=true by first | rfl | decide | simp [WShape.has,WShape.arms,WShape.armsAll])
   (show (WTm.eq .res (.lit (.bool true))).value [] { args:=args,res:=some (.bool true),after:=args }=some (.bool (true == true)) from w_eq_bool (w_res rfl) w_lit) rfl
section
variable {prog:acs} {w:adH} {A:aeN} {E:aau->aat->Prop} {s:aat} {K:Frag}
end
end Att
namespace L2
open PySem PySem.Spec PyProof.Rows
theorem yW:∀ {vs:List aau} {ns:List Int},arz vs ns->Vals (ns.map V.int) vs
 | _,_,.nil=>.nil
 | _,_,.cons n t h=>.cons ⟨t,rfl⟩ (yW h)
def Only (H:Hp):Prop:=∀ b,H b=none∨∃ o xs,H b=some (.Jc o (.lst xs))
theorem Qc {P:acs} {w:adH} {K:aas} {mg mb:Str->Option aau} {CX:Ot} {k:Nat} {fa a:abm} {fd:aeF} {x:Str} {sp:Sp} {s₁:aat} {vs:List aau} {ns:List Int}
   (KX:K.In s₁.heap) (hns:s₁.heap.Ns mainGlobals mg) (hb:s₁.heap.Ns builtinsNs mb) (hbb:∀ x:Str,x≠"__name__"->mb x=bootBuiltins x) (hlim:s₁.heap.NoLimit) (hg:s₁.gens=#[])
   (ha:s₁.heap.get? a=some { cls:=.type "list",data:=.seq vs.toArray }) (hi:arz vs ns) (hl:ns.length<=sizeLine) (hr:jL k callerA)
   (F:∀ base:ae9,K.In base->base.Ns mainGlobals mg->aV P w K mg base CX k fa fd [x] sp) (hbind:∀ (s:aat) (u:aau),ard s fd ⟨[u],[]⟩ [(x,u)])
   (hsp:∀ H:Hp,Only H->bY K H a (ns.map V.int)->sp [.ref a] H (fun v _=>v=.bl true) fun _ _ _=>False)
   (hCX:∀ H e s',CX [] H s₁ (fun _ _ _=>False) e s'->False) :
   codeAny (model P w) callerA (.call (.ref fa) ⟨[.ref a],[]⟩) (fun r s'=>r=.ok (.ret (.bool true))/\OldK s₁.heap s'.heap/\s'.os=s₁.os/\aqj s'.gens) s₁:=by
 have rv:=yW hi
 have lenV:=hi.length
 -- from an abstract heap in which nothing but the script may be tracked
 have core:∀ H:Hp,Only H->bY K H a (ns.map V.int)->pP P w H s₁.heap->(∀ b,H b≠none->b=a)->(H a≠none->K.lookup a=none) ->
     codeAny (model P w) callerA (.call (.ref fa) ⟨[.ref a],[]⟩) (fun r s'=>r=.ok (.ret (.bool true))/\OldK s₁.heap s'.heap/\s'.os=s₁.os/\aqj s'.gens) s₁:=by
   intro H hO hS hok hA hK
   have Jo:∀ {b:abm} {o:Obj},s₁.heap.get? b=some o->H b=none->(Ar s₁.heap H).get? b=some o:=fun e n=>O7 e n
   have noA:∀ {b:abm} {o:Obj} {es:Array aor} {ep:Nat},s₁.heap.get? b=some o->o.data=.dict es ep->H b=none:=fun {b o es ep} e d=>by
     cases q:H b with
     | none=>rfl
     | some u =>
       have e':b=a:=hA b (by rw [q]; simp)
       subst e'
       rw [ha] at e; cases e
       have d':aq8 vs.toArray _=Data.dict es ep:=d
       cases d'
   have nsK:∀ {b:abm} {m:Str->Option aau},s₁.heap.Ns b m->(Ar s₁.heap H).Ns b m:=fun {b m} ⟨o,es,ep,e,d,r⟩=>⟨o,es,ep,Jo e (noA e d),d,r⟩
   have hKb:K.In (Ar s₁.heap H):=fun b o e=>Jo (KX b o e) (by
     cases q:H b with
     | none=>rfl
     | some u =>
       have e':b=a:=hA b (by rw [q]; simp)
       subst e'
       rw [hK (by rw [q]; simp)] at e; cases e)
   have hM:Mod K mg (Ar s₁.heap H):=⟨hKb,nsK hns,⟨mb,nsK hb,hbb⟩,let ⟨mc,h1,h2⟩:=hlim; ⟨mc,nsK h1,h2⟩⟩
   have e0:Vk P w K mg (Ar s₁.heap H) callerA [] s₁ H:=⟨rfl,hM,fun b o e=>Vg e,Nat.le_of_eq (Ky _ _),trivial,fun b hb=>absurd (show b∈([]:List abm) from hb) (by simp),hok,.of_eq hg⟩
   refine agN ((F _ hKb (nsK hns)).run callerA [] s₁ H ⟨[.ref a],[]⟩ [.ref a] [.ref a] _ _ hr e0 (hbind s₁ (.ref a)) (.cons rfl .nil) (hsp H hO hS)) fun r s' h=>?_
   cases r with
   | error e=>exact (hCX H e s' h).elim
   | ok fl =>
     cases fl with
     | next=>exact ahV h
     | brk=>exact ahV h
     | cont=>exact ahV h
     | ret u =>
       obtain ⟨v,H',os,bare,un,hok',r',q⟩:=h
       have q':v=.bl true:=q
       subst q'
       obtain rfl:u=amP true:=r'
       refine ⟨rfl,OldK.of_keep fun b o e=>?_,os,bare⟩
       cases q:H b with
       | none=>exact un.keep b o e q (by intro z; exact absurd (show b∈([]:List abm) from z) (by simp)) (by simp)
       | some u =>
         rcases hO b with z | ⟨ob,xs,z⟩
         . rw [q] at z; cases z
         . have z2:=un.Aq b ob _ z
           obtain ⟨e1,_⟩:=hok b _ z
           obtain ⟨e2,_⟩:=hok' b _ z2
           rw [e] at e1; cases e1
           exact e2
 cases hk:K.lookup a with
 | some o =>
   -- the script is one of the module's own objects
   have e:=KX a o hk
   rw [ha] at e
   cases e
   refine core (fun _=>none) (fun _=>.inl rfl) (.inr ⟨_,vs.toArray,_,hk,rfl,rfl,rfl,by rw [abp,lenV]; exact hl,by simpa using rv⟩) (fun b u z=>by have z':(none:Option HO)=some u:=z; cases z') (fun b z=>absurd rfl z) fun z=>absurd rfl z
 | none =>
   refine core (fun b=>if b=a then some (.Jc { cls:=.type "list",data:=.seq vs.toArray } (.lst (ns.map V.int))) else none) (fun b=>?_) (.inl (.inr ⟨{ cls:=.type "list",data:=.seq vs.toArray },if_pos rfl⟩)) (fun b u z=>?_) (fun b z=>?_) fun _=>hk
   . by_cases hb:b=a
     . exact .inr ⟨_,_,if_pos hb⟩
     . exact .inl (if_neg hb)
   . by_cases hb:b=a
     . have z':=(if_pos hb).symm.trans z
       cases z'
       subst hb
       exact ⟨ha,by rw [aao]; exact hl,vs,_,rv,ha⟩
     . have z':=(if_neg hb).symm.trans z
       cases z'
   . by_cases hb:b=a
     . exact hb
     . exact absurd (if_neg hb) z
end L2
namespace L2
open PySem PySem.Spec PyProof.Rows
end L2
namespace L2
open PySem PySem.Spec PyProof.Rows
def bw (s:ane):Arguments:=match s with
 | .FunctionDef _ a _ _ _ _ _ _ _ _=>a
 | _=>{ posonlyargs:=[],args:=[],vararg:=none,kwonlyargs:=[],kw_defaults:=[],kwarg:=none,defaults:=[] }
def bh (s:ane):List ane:=match s with
 | .FunctionDef _ _ b _ _ _ _ _ _ _=>b
 | _=>[]
def au (s:ane):Scope:=match s with
 | .FunctionDef _ _ _ _ _ _ sc _ _ _=>sc
 | _=>{ kind:=.function,names:=[],isGenerator:=false,isCoroutine:=false }
abbrev cG:Ot:=fun _ _ _ _ _ _=>False
abbrev E0:XK:=fun _ _ _=>False
theorem aW {X:Cx}:Passes cG X E0:=fun _ _ _ _ _ _ _ h=>h.elim
structure lX (K:aas) (x qual:Str) (st:ane) (f:abm) (fd:aeF):Prop where
 ex:∃ (oc:aau) (od:Option abm) (kV doc pm:aau) (an:Option abm) (cdv ct:aau) (osl:Array (Option aau)),
   fd=acV x qual (bw st) (bh st) (au st) .none kV doc pm an cdv ct/\K.lookup f=some ⟨oc,od,.func fd,osl⟩/\acE K cdv qual=true
 kp:aaw K (.ref f)=true
section
variable {P:acs} {w:adH} {K:aas} {mg:Str->Option aau} {base:ae9}
theorem lX.ok {x qual:Str} {st:ane} {f:abm} {fd:aeF} {N ps:List Str} {k:Nat} {sp:Sp} (F:lX K x qual st f fd) (S:bB N ps (au st)) (len:∀ vs H Q E,sp vs H Q E->vs.length=ps.length)
   (hbody:∀ (cdv:aau) (A:aeN) (outer:List Env) (s:aat) (H:Hp) (vs:List V) (Q:VK) (E:XK),jL k (A.deeper (envOfC qual (au st) s.heap.objs.size f cdv))->sp vs H Q E ->
     ∃ t,Oq (KR cG P w K mg base N qual (au st) f cdv A outer s H E).nox (bh st) t/\t { nx:=fun _ H'=>Q .non H',rt:=Q } (start N vs) H):aV P w K mg base cG (k+1) f fd ps sp:=by
 obtain ⟨oc,od,kV,doc,pm,an,cdv,ct,osl,rfl,lk,hcd⟩:=F.ex
 refine abW lk hcd S len fun A outer s H vs Q E hr hsp=>?_
 obtain ⟨t,h,q⟩:=hbody cdv A outer s H vs Q E hr hsp
 exact ⟨t,h.nox,q⟩
theorem lX.binds {x qual:Str} {st:ane} {f:abm} {fd:aeF} {ps:List Str} (F:lX K x qual st f fd)
   (h:∀ (kV doc pm:aau) (an:Option abm) (cdv ct:aau) (us:List aau),us.length=ps.length->bindArgs (acV x qual (bw st) (bh st) (au st) .none kV doc pm an cdv ct) ⟨us,[]⟩=pure (ps.zip us)):Binds K fd ps []:=by
 obtain ⟨oc,od,kV,doc,pm,an,cdv,ct,osl,rfl,lk,hcd⟩:=F.ex
 exact .all (h kV doc pm an cdv ct)
theorem bU {x qual:Str} {st:ane} {f:abm} {oc:aau} {od an:Option abm} {osl:Array (Option aau)} {kV doc pm cdv ct:aau} (l:K.lookup f=some ⟨oc,od,.func (acV x qual (bw st) (bh st) (au st) .none kV doc pm an cdv ct),osl⟩)
   (c:acE K cdv qual=true) (k:aaw K (.ref f)=true):lX K x qual st f (acV x qual (bw st) (bh st) (au st) .none kV doc pm an cdv ct):=⟨⟨oc,od,kV,doc,pm,an,cdv,ct,osl,rfl,l,c⟩,k⟩
end
theorem iu {A:aeN} {k:Nat} (hr:jL k A):A.units+1<cLine:=aqz (aqm (by decide:1<=64) _) hr.units
section
variable {X:Cx}
end
theorem gO {c A B:Prop} [Decidable c] (h1:c->A) (h2:¬ c->B):if c then A else B:=by
 by_cases h:c
 . rw [if_pos h]
   exact h1 h
 . rw [if_neg h]
   exact h2 h
def Same (H H':Hp):Prop:=∀ b o,H b=some o->H' b=some o
theorem Same.refl (H:Hp):Same H H:=fun _ _ h=>h
theorem Same.trans {H H1 H2:Hp} (a:Same H H1) (b:Same H1 H2):Same H H2:=fun c o h=>b c o (a c o h)
end L2
namespace L2
open PySem PySem.Spec PyProof.Rows
section
variable {X:Cx}
theorem yX:gK X (.builtin "len") (fun xs H Q=>∃ a kvs,xs=[V.ref a]/\H a=some (.dK kvs)/\Q (.int kvs.length) H):=by
 intro pins s σ H xs us Q I r h
 obtain ⟨a,kvs,rfl,ha,q⟩:=h
 obtain ⟨u,rfl,ru⟩:=vals1 r
 cases ru
 exact ab3 I (.inl ha) fun t s' I'=>⟨.int kvs.length,H,I',⟨t,rfl⟩,q⟩
end
section
variable {κ:Type} [DecidableEq κ]
theorem Vw {kvs:List (κ × V)} {k:κ} {v:V} (h:cJ kvs k=some v):k∈kvs.map (·.1):=by
 have q:(kvs.any fun kv=>decide (kv.1=k))=true:=by
   rw [jU,h]
   all_goals rfl
 obtain ⟨p,hp,e⟩:=anf.mp q
 exact abh.mpr ⟨p,hp,of_decide_eq_true e⟩
theorem K6 {p:κ × V} {r:List (κ × V)} {k:κ} (e:p.1=k):fZ (p :: r) k=fZ r k:=by
 unfold fZ
 rw [amm,if_neg (by simp [e])]
theorem K7 {p:κ × V} {r:List (κ × V)} {k:κ} (e:¬ p.1=k):fZ (p :: r) k=p :: fZ r k:=by
 unfold fZ
 rw [amm,if_pos (by simp [e])]
end
end L2
set_option maxHeartbeats 4000000
namespace L2
open PySem PySem.Spec PyProof.Rows
def mF (scope sc:Scope):Scope :=
 { scope with names:=scope.names.map fun (n,k)=>if (k == .free && sc.kind == .function && sc.names.lookup n == some .cell) then (n,.cell) else (n,k) }
structure BI where
 cells:List (Str × abm)
 C:abm
 s:aat
 H:Hp
 fp:List abm
 pins:List (abm × Obj)
def Dl (scope:Scope) (cells:List (Str × abm)) (C:abm) (env:Env):Env :=
 { scope:=mF scope env.scope,locals:=C,globals:=env.globals,cells:=cells,qual:=env.qual,func:=none,code:=env.code,frame:=env.frame,builtins:=env.builtins }
def blk (X:Cx) (scope:Scope) (N:List Str) (b:BI):Cx where
 prog:=X.prog
 w:=X.w
 K:=X.K
 mg:=X.mg
 base:=X.base
 A:=X.A
 N:=N
 s₀:=b.s
 H₀:=b.H
 env:=Dl scope b.cells b.C X.env
 outer:=X.stack
 stack:=X.stack
 ex:=b.fp
 fn:=fun x=>scope.names.lookup x == some .cell
 calm:=X.calm
 pn:=X.pn++b.pins
 xe:=fun _ _=>False
def fJ (env:Env):List (Str × amy)->List (Str × abm)->List (Str × abm)
 | [],acc=>acc
 | (n,k) :: r,acc=>if k == .free then fJ env r ((n,(env.cells.lookup n).getD 0) :: acc) else fJ env r acc
theorem pQ (env:Env) (f:Str × amy->List (Str × abm)->Sem (ForInStep (List (Str × abm))))
   (hf:∀ n k cs,f (n,k) cs=if k == .free then (cellOf env n >>= fun a=>pure (.yield ((n,a) :: cs))) else pure (.yield cs)) :
   ∀ (names:List (Str × amy)) (acc:List (Str × abm)),(∀ y∈names,y.2=.free->∃ c,env.cells.lookup y.1=some c)->forIn names acc f=(pure (fJ env names acc):Sem _)
 | [],acc,_=>by rw [anZ]; rfl
 | (n,k) :: r,acc,h=>by
   rw [apw,hf]
   have hr:∀ y∈r,y.2=.free->∃ c,env.cells.lookup y.1=some c:=fun y hy=>h y (aaM _ hy)
   cases hk:k == aeG with
   | true =>
     obtain ⟨c,hc⟩:=h (n,k) aaU (beq_iff_eq.mp hk)
     have e1:cellOf env n=pure c:=by unfold cellOf; rw [show env.cells.lookup n=some c from hc]
     have e2:fJ env ((n,k) :: r) acc=fJ env r ((n,c) :: acc):=by
       show (if (k == aeG)=true then _ else _)=_
       rw [if_pos hk,show env.cells.lookup n=some c from hc]; rfl
     rw [e2,if_pos rfl,e1]
     exact pQ env f hf r ((n,c) :: acc) hr
   | false =>
     have e2:fJ env ((n,k) :: r) acc=fJ env r acc:=by
       show (if (k == aeG)=true then _ else _)=_
       rw [if_neg (by rw [hk]; exact abn)]
     rw [e2,if_neg abn]
     exact pQ env f hf r acc hr
theorem pH {scope:Scope} {env:Env} (h:∀ y∈scope.names,y.2=.free->∃ c,env.cells.lookup y.1=some c):closureFor scope env=pure (fJ env scope.names []):=by
 simp only [closureFor]
 rw [pQ env _ (fun n k cs=>by cases hk:k == aeG <;> simp [hk]) scope.names [] h]
 rfl
theorem jD {env:Env} {x:Str} {c:abm}:∀ (names:List (Str × amy)) (acc:List (Str × abm)),(fJ env names acc).lookup x=some c->acc.lookup x=some c∨((x,aeG)∈names/\c=(env.cells.lookup x).getD 0)
 | [],_,h=>.inl h
 | (n,k) :: r,acc,h=>by
   unfold fJ at h
   by_cases hk:(k == aeG)=true
   . rw [if_pos hk] at h
     rcases jD r _ h with z | ⟨z,e⟩
     . rw [afz] at z
       cases hx:x == n with
       | true =>
         rw [hx] at z
         have e1:x=n:=beq_iff_eq.mp hx
         have e2:k=aeG:=beq_iff_eq.mp hk
         exact .inr ⟨by rw [e1,e2]; exact aaU,by rw [e1]; exact (ac8 z).symm⟩
       | false=>rw [hx] at z; exact .inl z
     . exact .inr ⟨aaM _ z,e⟩
   . rw [if_neg hk] at h
     rcases jD r _ h with z | ⟨z,e⟩
     . exact .inl z
     . exact .inr ⟨aaM _ z,e⟩
theorem pU {env:Env} {x:Str}:∀ (names:List (Str × amy)) (acc:List (Str × abm)),((x,aeG)∈names∨∃ c,acc.lookup x=some c)->∃ c,(fJ env names acc).lookup x=some c
 | [],_,h=>h.elim (fun z=>nomatch z) fun z=>z
 | (n,k) :: r,acc,h=>by
   unfold fJ
   by_cases hk:(k == aeG)=true
   . rw [if_pos hk]
     refine pU r _ ?_
     by_cases hx:x=n
     . exact .inr ⟨_,by rw [afz,beq_iff_eq.mpr hx]⟩
     . rcases h with z | ⟨c,z⟩
       . rcases abz.mp z with e | z
         . exact absurd (congrArg adB e) hx
         . exact .inl z
       . exact .inr ⟨c,by rw [afz,beq_eq_false_iff_ne.mpr hx]; exact z⟩
   . rw [if_neg hk]
     refine pU r _ ?_
     rcases h with z | z
     . rcases abz.mp z with e | z
       . have e2:aeG=k:=congrArg afn e
         exact absurd (beq_iff_eq.mpr e2.symm) hk
       . exact .inl z
     . exact .inr z
theorem dD:∀ (names:List (Str × amy)) (n:Nat) (acc:List (Str × abm)),cellsFrom n names acc=cellsFrom n names []++acc
 | [],_,_=>rfl
 | (x,k) :: r,n,acc=>by
   unfold cellsFrom
   split
   . rw [dD r (n+1) ((x,n) :: acc),dD r (n+1) [(x,n)],aeX]; rfl
   . exact dD r n acc
theorem gQ {x:Str} {c:abm}:∀ (names:List (Str × amy)) (n:Nat) (acc:List (Str × abm)),(x,c)∈cellsFrom n names acc->(x,c)∈acc∨(x,agi)∈names
 | [],_,_,h=>.inl h
 | (y,k) :: r,n,acc,h=>by
   unfold cellsFrom at h
   split at h
   . rename_i hk
     rcases gQ r _ _ h with z | z
     . rcases abz.mp z with e | z
       . have e1:x=y:=congrArg adB e
         rw [e1,<- beq_iff_eq.mp hk]; exact .inr aaU
       . exact .inl z
     . exact .inr (aaM _ z)
   . rcases gQ r _ _ h with z | z
     . exact .inl z
     . exact .inr (aaM _ z)
theorem lookup_append {α:Type} {x:Str}:∀ (l m:List (Str × α)),(l++m).lookup x=match l.lookup x with | some c=>some c | none=>m.lookup x
 | [],m=>rfl
 | (y,c) :: l,m=>by
   rw [ao0,afz,afz]
   cases x == y with
   | true=>rfl
   | false=>exact lookup_append l m
theorem mG {α:Type} {x:Str}:∀ {l:List (Str × α)},(∀ c,(x,c) ∉ l)->l.lookup x=none
 | [],_=>rfl
 | (y,c) :: l,h=>by
   rw [afz]
   have hx:x≠y:=fun e=>h c (by rw [e]; exact aaU)
   rw [beq_eq_false_iff_ne.mpr hx]
   exact mG fun c hc=>h c (aaM _ hc)
theorem pI {sc:Scope} {x:Str}:∀ (names:List (Str × amy)),(names.map fun (n,k)=>if (k == aeG && sc.kind == .function && sc.names.lookup n == some .cell) then (n,agi) else (n,k)).lookup x =
   (names.lookup x).map fun k=>if (k == aeG && sc.kind == .function && sc.names.lookup x == some .cell) then agi else k
 | []=>rfl
 | (n,k) :: r=>by
   have ih:=pI (sc:=sc) (x:=x) r
   rw [abA]
   by_cases hc:(k == aeG && sc.kind == .function && sc.names.lookup n == some .cell)=true
   . show List.lookup x ((if (k == aeG && sc.kind == .function && sc.names.lookup n == some .cell)=true then (n,agi) else (n,k)) :: _)=_
     rw [if_pos hc,afz,afz]
     cases hx:x == n with
     | true =>
       have e:x=n:=beq_iff_eq.mp hx
       subst e
       show some agi=some (if (k == aeG && sc.kind == .function && sc.names.lookup x == some .cell)=true then agi else k)
       rw [if_pos hc]
     | false=>exact ih
   . show List.lookup x ((if (k == aeG && sc.kind == .function && sc.names.lookup n == some .cell)=true then (n,agi) else (n,k)) :: _)=_
     rw [if_neg hc,afz,afz]
     cases hx:x == n with
     | true =>
       have e:x=n:=beq_iff_eq.mp hx
       subst e
       show some k=some (if (k == aeG && sc.kind == .function && sc.names.lookup x == some .cell)=true then agi else k)
       rw [if_neg hc]
     | false=>exact ih
theorem vO {M:Model} {A:aeN} {E:aau->aat->Prop} {s:aat} {scope:Scope} {globals:abm} {cl:List (Str × abm)} {qual:Str} {env:Env} {Q:Env->aat->Prop}
   (hQ:Q (newEnv scope s.heap.objs.size globals (cellsFrom (s.heap.objs.size+1) scope.names cl) qual none .none (some env) builtinsNs) { s with heap:=pushCells (s.heap.push { cls:=.type "dict",data:=.dict #[] }) scope.names }) :
   wpAny M A (newFunctionEnv scope globals cl [] qual none .none (some env)) Q E s:=by
 simp only [newFunctionEnv,aqy,if_true]
 refine Fi (wpAny_alloc ?_)
 refine Fi (wpAny_layCells _ (fun name kind cells=>by cases hkc:kind == agi <;> simp [hkc]) _ _ _ _ ?_)
 rw [show ({ s with heap:=s.heap.push { cls:=.type "dict",data:=.dict #[] } }:aat).heap.objs.size=s.heap.objs.size+1 from aeV ..]
 simp only [anZ]
 exact Fi (aar (aar hQ))
structure pW (eY scope:Scope) (N' own cp:List Str) (ixs:List Nat):Prop where
 kind:scope.kind=.function
 nm:∀ y∈scope.names,scope.names.lookup y.1=some y.2
 free:∀ y∈scope.names,y.2=.free->eY.names.lookup y.1=some .cell∨eY.names.lookup y.1=some .free
 cap:∀ x∈cp,scope.names.lookup x=some .free
 ix:ixs.map (fun i=>N'[i]?)=cp.map some
 nd:(own++cp).Nodup
def Gx (own:List Str) (ix:List Nat) (σ:St):St:=own.map (fun _=>none)++ix.map fun i=>(σ[i]?).getD none
end L2
namespace L2
open PySem PySem.Spec PyProof.Rows
section
variable {X:Cx} {pins:List (abm × Obj)} {σ:St} {H:Hp} {s:aat}
abbrev ZC (s:aat) (scope:Scope):ae9:=pushCells (s.heap.push { cls:=.type "dict",data:=.dict #[] }) scope.names
abbrev U9 (X:Cx) (s:aat) (scope:Scope):List (Str × abm):=cellsFrom (s.heap.objs.size+1) scope.names (fJ X.env scope.names [])
abbrev uW (X:Cx) (pins:List (abm × Obj)) (s:aat) (H:Hp) (scope:Scope) (fp:List abm):BI:=⟨U9 X s scope,s.heap.objs.size,s,H,fp,pins⟩
theorem rW (s:aat) (scope:Scope) (b:abm) (o:Obj) (e:s.heap.get? b=some o):(ZC s scope).get? b=some o:=pushCells_keeps _ _ b o (aap _ e)
theorem Jp (s:aat) (scope:Scope):CellsOk (ZC s scope) (s.heap.objs.size+1) (cellsFrom (s.heap.objs.size+1) scope.names []):=by
 have ok:=cellsFrom_ok scope.names (s.heap.push { cls:=.type "dict",data:=.dict #[] }) (s.heap.objs.size+1) [] ⟨fun _ _ hm=>(nomatch hm),ah8⟩ (by rw [aeV]; exact aav _)
 rw [aeV] at ok
 exact ok
theorem jX {eY scope:Scope} {N' own cap:List Str} {ix:List Nat} (S:pW eY scope N' own cap ix) (hX:X.env.scope=eY) (I:Inv X pins σ H s) {x:Str} {c:abm} (h:(U9 X s scope).lookup x=some c) :
   ((x,c)∈cellsFrom (s.heap.objs.size+1) scope.names []/\s.heap.objs.size+1<=c/\scope.names.lookup x=some .cell)∨(X.env.cells.lookup x=some c/\scope.names.lookup x=some .free):=by
 have h':(cellsFrom (s.heap.objs.size+1) scope.names (fJ X.env scope.names [])).lookup x=some c:=h
 rw [dD,lookup_append] at h'
 cases e:(cellsFrom (s.heap.objs.size+1) scope.names []).lookup x with
 | some c' =>
   rw [e] at h'
   cases h'
   have m:=afB e
   refine .inl ⟨m,((Jp s scope).empty _ _ m).2,?_⟩
   rcases gQ _ _ _ m with z | z
   . exact nomatch z
   . exact S.nm _ z
 | none =>
   rw [e] at h'
   rcases jD _ _ h' with z | ⟨z,ec⟩
   . exact nomatch z
   . have hf:=S.free _ z rfl
     rw [<- hX] at hf
     obtain ⟨c',e'⟩:=I.ok.has x hf
     rw [e'] at ec
     exact .inr ⟨by rw [e',ec]; rfl,S.nm _ z⟩
theorem Dm {eY scope:Scope} {N' own cap:List Str} {ix:List Nat} (S:pW eY scope N' own cap ix) (hX:X.env.scope=eY) (I:Inv X pins σ H s) {x:Str} (hx:scope.names.lookup x=some .free) :
   ∃ c,X.env.cells.lookup x=some c/\(U9 X s scope).lookup x=some c:=by
 have m:=afB hx
 have hf:=S.free _ m rfl
 rw [<- hX] at hf
 obtain ⟨c,e⟩:=I.ok.has x hf
 refine ⟨c,e,?_⟩
 have n1:(cellsFrom (s.heap.objs.size+1) scope.names []).lookup x=none:=mG fun c' hc'=>by
   rcases gQ _ _ _ hc' with z | z
   . exact nomatch z
   . have:=S.nm _ z
     rw [hx] at this
     cases this
 obtain ⟨c',e'⟩:=pU (env:=X.env) (x:=x) scope.names [] (.inl m)
 show (cellsFrom (s.heap.objs.size+1) scope.names (fJ X.env scope.names [])).lookup x=some c
 rw [dD,lookup_append,n1]
 show (fJ X.env scope.names []).lookup x=some c
 rcases jD _ _ e' with z | ⟨_,z⟩
 . exact nomatch z
 . rw [e',z,e]; rfl
theorem kindB {scope sc:Scope} {x:Str}:(mF scope sc).names.lookup x=(scope.names.lookup x).map fun k=>if (k == aeG && sc.kind == .function && sc.names.lookup x == some .cell) then agi else k:=pI scope.names
theorem ab7 {eY scope:Scope} {own cap:List Str} {ix:List Nat} (S:pW eY scope X.N own cap ix) (hX:X.env.scope=eY) (I:Inv X pins σ H s) {h':ae9} {m:Str->Option aau} (keep:∀ x c v,X.env.cells.lookup x=some c->s.heap.IsCell c v->h'.IsCell c v)
   (i:Nat) (x:Str) (v:V) (e1:(own++cap)[i]?=some x) (e2:(Gx own ix σ)[i]?=some (some v)):∃ u,RelV v u/\Look (Dl scope (U9 X s scope) s.heap.objs.size X.env) h' m x u:=by
 have hi:¬ i<own.length:=fun hi=>by
   unfold Gx at e2
   rw [afe (by simpa using hi),aaJ] at e2
   cases q:own[i]? with
   | none=>rw [q] at e2; cases e2
   | some y=>rw [q] at e2; cases e2
 have e1':cap[i-own.length]?=some x:=by
   rw [aeW (by omega)] at e1
   exact e1
 have e2':∃ k,ix[i-own.length]?=some k/\σ[k]?=some (some v):=by
   unfold Gx at e2
   rw [aeW (by simpa using ao2 hi),aaJ,aao] at e2
   cases q:ix[i-own.length]? with
   | none=>rw [q] at e2; cases e2
   | some k =>
     rw [q] at e2
     have e3:(σ[k]?).getD none=some v:=ac8 e2
     cases q2:σ[k]? with
     | none=>rw [q2] at e3; cases e3
     | some z =>
       rw [q2] at e3
       exact ⟨k,rfl,by rw [q2,show z=some v from e3]⟩
 obtain ⟨k,hk,hv⟩:=e2'
 have hN:X.N[k]?=some x:=by
   have z:=congrArg (fun l=>l[i-own.length]?) S.ix
   simp only [aaJ] at z
   rw [hk,e1'] at z
   exact ac8 z
 have hx:=S.cap x (abg e1')
 have m':=afB hx
 have hf:=S.free _ m' rfl
 rw [<- hX] at hf
 obtain ⟨m0,_,hl⟩:=I.loc
 obtain ⟨u,r,l⟩:=hl k x v hN hv (hf.elim (fun z=>.inr (.inl z)) fun z=>.inr (.inr z))
 refine ⟨u,r,?_⟩
 have l':∃ c,X.env.cells.lookup x=some c/\s.heap.IsCell c (some u):=by
   rcases l with ⟨z,_⟩ | ⟨_,c,z,q⟩
   . rcases hf with y | y
     . rw [show X.env.kindOf x=some .cell from y] at z; cases z
     . rw [show X.env.kindOf x=some .free from y] at z; cases z
   . exact ⟨c,z,q⟩
 obtain ⟨c,ec,hc⟩:=l'
 obtain ⟨c',ec',eb⟩:=Dm S hX I hx
 rw [ec] at ec'
 cases ec'
 refine .inr ⟨?_,c,eb,keep x c _ ec hc⟩
 have kb:(Dl scope (U9 X s scope) s.heap.objs.size X.env).kindOf x=some (if (aeG == aeG && X.env.scope.kind == .function && X.env.scope.names.lookup x == some .cell) then agi else aeG):=by
   show (mF scope X.env.scope).names.lookup x=_
   rw [kindB,hx]; rfl
 rw [kb]
 by_cases q:(aeG == aeG && X.env.scope.kind == .function && X.env.scope.names.lookup x == some .cell)=true
 . rw [if_pos q]; exact .inl rfl
 . rw [if_neg q]; exact .inr rfl
theorem Jq {eY scope:Scope} {own cap:List Str} {ix:List Nat} {fp:List abm} (S:pW eY scope X.N own cap ix) (hX:X.env.scope=eY) (I:Inv X pins σ H s) (hf:∀ b∈fp,jq X pins H b) (ho:∀ b∈fp,∃ o,s.heap.get? b=some o) :
   Inv (blk X scope (own++cap) (uW X pins s H scope fp)) [] (Gx own ix σ) H { s with heap:=ZC s scope }:=by
 have kp:=rW s scope
 have own1:=Jp s scope
 have ltC:∀ x c,X.env.cells.lookup x=some c->c<s.heap.objs.size:=fun x c e=>by
   obtain ⟨v,o,e',_⟩:=I.cell x c e
   exact abf e'
 have Va:∀ b∈fp,b<s.heap.objs.size:=fun b hb=>let ⟨_,e⟩:=ho b hb; abf e
 have ab8:∀ b,b≠X.env.locals->b ∉ X.fs->b ∉ frs X.stack:=fun b h1 h2 hb=>by
   rcases abz.mp (I.Gj b hb) with e | e
   . exact h1 e
   . exact h2 e
 refine ⟨⟨I.ok.mod,S.kind,I.ok.glob,I.ok.blt,aav _,fun x y c h1 h2=>?_,fun x hx=>?_,fun x c hx h=>?_,I.ok.hd,I.ok.frames,.inl rfl,fun b hb=>⟨?_,fun x c h=>?_⟩,I.bs,adS I.ok.XR I.sz,fun b o e hb=>?_,fun b hb=>?_,I.stack,I.Jd⟩,
   rfl,I.bare,Un.kept kp,⟨fun _=>none,?_,fun i x v e1 e2 _=>ab7 S hX I (fun x c v _ hc=>hc.keeps kp) i x v e1 e2⟩,fun x c h=>?_,I.hok.fresh (aav _),fun x c h=>?_,fun p hp=>?_,I.hok.kept kp,?_⟩
 . rcases jX S hX I h1 with ⟨m1,l1,_⟩ | ⟨m1,_⟩ <;> rcases jX S hX I h2 with ⟨m2,l2,_⟩ | ⟨m2,_⟩
   . exact name_of_addr own1.apart m1 m2
   . exact absurd (ado (ltC _ _ m2) (aos l1)) (agJ _)
   . exact absurd (ado (ltC _ _ m1) (aos l2)) (agJ _)
   . exact I.ok.inj x y c m1 m2
 . have hx':(mF scope X.env.scope).names.lookup x=some .cell∨(mF scope X.env.scope).names.lookup x=some .free:=hx
   rw [kindB] at hx'
   cases q:scope.names.lookup x with
   | none=>rw [q] at hx'; rcases hx' with z | z <;> cases z
   | some k =>
     rw [q] at hx'
     cases k with
     | free=>obtain ⟨c,_,e⟩:=Dm S hX I q; exact ⟨c,e⟩
     | cell =>
       obtain ⟨c,e⟩:=vI (sc:=scope) (n:=s.heap.objs.size+1) q
       refine ⟨c,?_⟩
       show (cellsFrom (s.heap.objs.size+1) scope.names (fJ X.env scope.names [])).lookup x=some c
       rw [dD,lookup_append,e]
     | _=>rcases hx' with z | z <;> cases z
 . have hx':(scope.names.lookup x == some .cell)=true:=hx
   rcases jX S hX I h with ⟨_,l1,_⟩ | ⟨_,z⟩
   . show s.heap.objs.size<=c; omega
   . rw [z] at hx'; exact absurd hx' (by decide)
 . exact acu (Va b hb)
 . rcases jX S hX I h with ⟨_,l1,_⟩ | ⟨z,_⟩
   . intro z; rw [z] at l1; exact absurd (ado (Va b hb) (aos l1)) (agJ _)
   . exact (hf b hb).2.2.2.2.1 x c z
 . rcases (hf b hb).2.2.2.1 with z | z
   . exact I.ok.O8 b o e z
   . exact absurd (ado (ado (abf e) I.ok.XR) z) (agJ _)
 . exact ab8 b (hf b hb).2.1 (hf b hb).2.2.1
 . exact (Heap.Ns.new s.heap (.type "dict")).keeps (pushCells_keeps _ _)
 . rcases jX S hX I h with ⟨m1,_,_⟩ | ⟨z,_⟩
   . exact ⟨none,(own1.empty _ _ m1).1⟩
   . obtain ⟨v,q⟩:=I.cell x c z
     exact ⟨v,q.keeps kp⟩
 . rcases jX S hX I h with ⟨_,l1,_⟩ | ⟨z,_⟩
   . exact I.hok.fresh (by omega)
   . exact I.jQ x c z
 . have hp':p∈X.pn++pins:=by
     rcases abq.mp hp with z | z
     . exact z
     . exact nomatch z
   obtain ⟨e,n,ne,nf,d⟩:=I.pin p hp'
   exact ⟨kp _ _ e,n,acu (abf e),ab8 _ ne nf,d⟩
 . unfold Gx
   show (own.map (fun _=>(none:Option V))++ix.map fun i=>(σ[i]?).getD none).length=(own++cap).length
   have z:=congrArg af6 S.ix
   rw [aao,aao] at z
   rw [abe,abe,aao,aao,z]
theorem K8 {eY scope:Scope} {own cap:List Str} {ix:List Nat} {fp:List abm} {pl:List (abm × Obj)} {σ':St} {H':Hp} {s':aat} (S:pW eY scope X.N own cap ix) (hX:X.env.scope=eY) (I:Inv X pins σ H s) (hf:∀ b∈fp,jq X pins H b)
   (J:Inv (blk X scope (own++cap) (uW X pins s H scope fp)) pl σ' H' s'):Inv (blk X scope (own++cap) (uW X pins s H scope fp)) pl (Gx own ix σ) H' s':=by
 obtain ⟨m,hn,_⟩:=id J.loc
 refine ⟨J.ok,J.os,J.bare,J.base,⟨m,hn,fun i x v e1 e2 _=>ab7 S hX I (fun x c v ec hc=>?_) i x v e1 e2⟩,J.cell,J.free,J.jQ,J.pin,J.hok,?_⟩
 . obtain ⟨o,e,d⟩:=hc
   obtain ⟨sl,e'⟩:=J.base.any e (I.jQ x c ec) fun hb=>(hf c hb).2.2.2.2.1 x c ec rfl
   exact ⟨_,e',d⟩
 . have z:=congrArg af6 S.ix
   rw [aao,aao] at z
   show (Gx own ix σ).length=(own++cap).length
   unfold Gx
   rw [abe,abe,aao,aao,z]
theorem Jr {scope:Scope} {own cap:List Str} {fp:List abm} {σ':St} {H':Hp} {s':aat} {h':ae9} (I:Inv X pins σ H s) (hf:∀ b∈fp,jq X pins H b)
   (J:Inv (blk X scope (own++cap) (uW X pins s H scope fp)) [] σ' H' s') (hs:afh s.heap.objs.size s'.heap h'):Inv X pins σ H' { s' with heap:=h' }:=by
 have I1:Inv X pins σ H' s':=I.call' (ch:=fp) J.os J.base J.hok J.bare fun b hb=>⟨(hf b hb).2.2.2.1,(hf b hb).2.1,(hf b hb).2.2.2.2.1,(hf b hb).2.2.2.2.2⟩
 have n1:s.heap.objs.size≠X.env.locals:=aho I.lt
 refine I1.turned (it:=s.heap.objs.size) (t':=s'.toks) (fun b o hb e=>(hs.2 b hb).trans e) J.free n1 (.inr I.sz) (fun x c e z=>?_) fun p hp z=>?_
 . obtain ⟨v,o,e',_⟩:=I.cell x c e
   exact absurd z (acu (abf e'))
 . exact absurd z (acu (abf (I.pin p hp).1))
end
def Dn (X:Cx) (ifs:List Expr) (t:TT):Prop :=
 ∀ (pins:List (abm × Obj)) (s:aat) (σ:St) (H:Hp) (Q:Bool->Hp->Prop),Inv X pins σ H s->t σ H Q ->
   wpAny (model X.prog X.w) X.A (forIn ifs true fun c r=>if r=true then do let ok <- isTrue c X.env (eval c X.env); pure (ForInStep.yield ok) else pure (ForInStep.yield r)) (TP X pins σ Q) X.xe s
def K9:TT:=fun _ H Q=>Q true H
theorem bM {X:Cx}:Dn X [] K9:=fun _ _ _ H _ I h=>wpAny_tests_nil ⟨H,I,h⟩
theorem Bb {X:Cx} {c:Expr} {t:TT} (h:PT X c t):Dn X [c] t:=fun pins s σ H Q I hq=>wpAny_tests_one (h pins s σ H Q I hq)
def mH (J:It) (g:TG) (tt:TT) (act:St->Hp->(Hp->Prop)->Prop) (σ0:St) (End:Hp->Prop) (W:Nat->Nat->Hp->Prop):Prop :=
 ∀ i m H,W i m H->(J.stop i H/\End H)∨(J.go i H/\∀ x H',J.Vh i H x H'->g x σ0 H' fun σ2 H2=>tt σ2 H2 fun b H3 =>
   if b=true then act σ2 H3 fun H4=>∃ m',m'<m/\W (i+1) m' H4 else ∃ m',m'<m/\W (i+1) m' H3)
def oY (D:abm) (te:TE):St->Hp->(Hp->Prop)->Prop:=fun σ H R=>te σ H fun y H4=>∃ zs,H4 D=some (.lst zs)/\zs.length<sizeLine/\R (upd H4 D (.lst (zs++[y])))
def Qd (own:List Str) (ix:List Nat) (wi:TI) (g:BI->TG) (tt:BI->TT) (te:BI->TE):TE:=fun σ H Q=>wi σ H fun J H1=>∀ D,H1 D=none ->
 ∃ W:Nat->Nat->Hp->Prop,(∃ m,W 0 m (upd H1 D (.lst [])))/\∀ b,mH J (g b) (tt b) (oY D (te b)) (Gx own ix σ) (fun H'=>Q (.ref D) H') W
section
variable {X:Cx} {tg iter elt:Expr} {ifs:List Expr} {scope eY:Scope} {pos:Pos} {own cap:List Str} {ix:List Nat} {wi:TI} {g:BI->TG} {tt:BI->TT} {te:BI->TE}
theorem La {pins:List (abm × Obj)} {σ:St} {H:Hp} {s:aat} {J:It} {fp:List abm} {it D:abm} {tn:Nat->ae9->Prop} {End:Hp->Prop} {W:Nat->Nat->Hp->Prop} {m0:Nat} {s4:aat}
   (S:pW eY scope X.N own cap ix) (hX:X.env.scope=eY) (I:Inv X pins σ H s) (hf:∀ b∈fp,jq X pins H b) (hc:X.calm=true) (T:Turn X.prog X.w X.K tg J fp it tn)
   (hg:PG (blk X scope (own++cap) (uW X pins s H scope fp)) tg (g (uW X pins s H scope fp))) (ht:Dn (blk X scope (own++cap) (uW X pins s H scope fp)) ifs (tt (uW X pins s H scope fp)))
   (he:PE (blk X scope (own++cap) (uW X pins s H scope fp)) elt (te (uW X pins s H scope fp)))
   (hW:mH J (g (uW X pins s H scope fp)) (tt (uW X pins s H scope fp)) (oY D (te (uW X pins s H scope fp))) (Gx own ix σ) End W)
   (I4:Inv (blk X scope (own++cap) (uW X pins s H scope fp)) [] (Gx own ix σ) H s4) (ZD:tn 0 s4.heap) (w0:W 0 m0 H) :
   codeAny (model X.prog X.w) X.A (.compLoop (.ListComp elt [⟨tg,iter,ifs,0⟩] scope pos) 0 (.ref it) (.ref D) (Dl scope (U9 X s scope) s.heap.objs.size X.env))
     (fun r s'=>∃ H' σ',r=.ok .next/\Inv (blk X scope (own++cap) (uW X pins s H scope fp)) [] σ' H' s'/\End H') s4:=by
 have stat:∀ {H':Hp} {pl:List (abm × Obj)},(∀ b∈fp,H' b=none)->(∀ p∈pl,p.1 ∉ fp)->∀ b∈fp,jq (blk X scope (own++cap) (uW X pins s H scope fp)) [] H' b:=fun hn _ b hb=>by
   refine ⟨hn b hb,(I4.ok.exf b hb).1,I4.ok.Kz b hb,.inl hb,(I4.ok.exf b hb).2,fun p hp=>?_⟩
   have hp':p∈X.pn++pins:=by
     rcases abq.mp hp with z | z
     . exact z
     . exact nomatch z
   exact (hf b hb).2.2.2.2.2 p hp'
 refine codeAny_loop rfl (fun n s'=>∃ i H',Inv (blk X scope (own++cap) (uW X pins s H scope fp)) [] (Gx own ix σ) H' s'/\tn i s'.heap/\(∀ b∈fp,H' b=none)/\W i n H') ?_ m0 ⟨0,H,I4,ZD,fun b hb=>(hf b hb).1,w0⟩
 rintro n s3 ⟨i,H3,I3,st3,Y9,w3⟩
 show wpAny _ X.A ((compTurn (.ListComp elt [⟨tg,iter,ifs,0⟩] scope pos) 0 (.ref it) (.ref D) (Dl scope (U9 X s scope) s.heap.objs.size X.env)).onRaise (fun x=>do noteFrame x (Dl scope (U9 X s scope) s.heap.objs.size X.env); theTreesLotGoes x)) _ _ s3
 refine amT ?_
 rw [compTurn_list]
 have st0:=stat (pl:=[]) Y9 (fun _ z=>nomatch z)
 rcases hW i n H3 w3 with ⟨stop,qe⟩ | ⟨go,step⟩
 . refine Fi (agh (Fi (dw (T.done (blk X scope (own++cap) (uW X pins s H scope fp)) rfl rfl rfl hc i [] s3 _ H3 _ I3 st0 st3 stop) fun r s5 ⟨hr,I5⟩=>?_)))
   subst hr
   exact aar ⟨H3,_,rfl,I5,qe⟩
 . refine Fi (agh (Fi (dw (T.item (blk X scope (own++cap) (uW X pins s H scope fp)) rfl rfl rfl hc i [] s3 _ H3 _ I3 st0 st3 go) fun r s5 ⟨u,hr,h5⟩=>?_)))
   subst hr
   refine Fi (dw h5 fun _ s6 ⟨x,H6,I6,r6,y6,ZF,fr6⟩=>?_)
   have I6':=I6.pinned (stat (pl:=[]) fr6 (fun _ z=>nomatch z)) (T.obj _ _ ZF)
   refine Fi (ae5 (hg _ s6 _ H6 x u _ I6' r6 (step x H6 y6)) (fun _ s7 ⟨σ7,H7,I7,q7⟩=>?_) fun _ _ f=>f.elim)
   refine Fi (ae5 (ht _ s7 σ7 H7 _ I7 q7) (fun ok s8 ⟨H8,I8,q8⟩=>?_) fun _ _ f=>f.elim)
   have again:∀ {σ9:St} {H9:Hp} {s9:aat} {m':Nat},Inv (blk X scope (own++cap) (uW X pins s H scope fp)) ([]++rT fp s6.heap) σ9 H9 s9->m'<n->W (i+1) m' H9 ->
       ∃ m,m<n/\∃ i H',Inv (blk X scope (own++cap) (uW X pins s H scope fp)) [] (Gx own ix σ) H' s9/\tn i s9.heap/\(∀ b∈fp,H' b=none)/\W i m H':=fun {σ9 H9 s9 m'} I9 hm w9=>by
     refine ⟨m',hm,i+1,H9,K8 S hX I hf I9.mD,T.keep _ _ _ ZF fun b hb o e=>(I9.pin (b,o) (acU _ (acU _ (iy hb e)))).1,fun b hb=>?_,w9⟩
     obtain ⟨o,e,d⟩:=T.obj _ _ ZF b hb
     exact (I9.pin (b,o) (acU _ (acU _ (iy hb e)))).2.1
   cases ok with
   | false =>
     obtain ⟨m',hm,w9⟩:=q8
     exact aar ⟨rfl,again I8 hm w9⟩
   | true =>
     refine Fi (Fi (ae5 (he _ s8 σ7 H8 _ I8 q8) (fun y s9 ⟨v,H9,I9,r9,zs,hD,hz,m',hm,w9⟩=>?_) fun _ _ f=>f.elim))
     refine Fi (ae5 (fV (X:=blk X scope (own++cap) (uW X pins s H scope fp)) _ s9 σ7 H9 (.ref D) [v] (.ref D) [y] (fun _ H'=>∃ m',m'<n/\W (i+1) m' H') I9 rfl (.cons r9 .nil) ⟨D,zs,v,rfl,rfl,hD,hz,m',hm,w9⟩) (fun _ Dq ⟨_,uq,I10,_,m'',hm',w10⟩=>?_) fun _ _ f=>f.elim)
     exact aar (aar ⟨rfl,again I10 hm' w10⟩)
theorem vP {pins:List (abm × Obj)} {σ:St} {H:Hp} {s:aat} {Q:VK} {use:Option (aau->Sem Unit)} {Q':aau->aat->Prop} (hc:X.calm=true) (hX:X.env.scope=eY) (S:pW eY scope X.N own cap ix) (hi:PI X tg iter wi)
   (hg:∀ b,PG (blk X scope (own++cap) b) tg (g b)) (ht:∀ b,Dn (blk X scope (own++cap) b) ifs (tt b)) (he:∀ b,PE (blk X scope (own++cap) b) elt (te b))
   (hs:∀ x,foldedSetIterable iter X.env x=pure x) (I:Inv X pins σ H s) (h:Qd own ix wi g tt te σ H Q)
   (out:∀ (D C:abm) (H':Hp) (s':aat),Q (.ref D) H'->(∃ m,s'.heap.Ns C m)->jq X pins H' C->(∀ h',afh C s'.heap h'->Inv X pins σ H' { s' with heap:=h' }) ->
     compPost (model X.prog X.w) X.A X.xe use Q' (.ref D) C (.ok .next) s') :
   wpAny (model X.prog X.w) X.A (comprehension (.ListComp elt [⟨tg,iter,ifs,0⟩] scope pos) scope X.env (firstIterPos [⟨tg,iter,ifs,0⟩] pos) (newList []) false (eval iter X.env) use) Q' X.xe s:=by
 have hclos:=pH (scope:=scope) (env:=X.env) fun y hy hk=>by
   have hf:=S.free y hy hk
   rw [<- hX] at hf
   exact I.ok.has y.1 hf
 refine aot (use:=use) rfl hs hclos S.kind (fun y hy hk=>by rw [S.nm y hy,hk]) (dw (hi pins s σ H _ I h) fun v s1 h1=>dw h1 fun itv s2 h2=>?_)
 obtain ⟨it,fp,tn,J,H2,e,I2,T,st2,f2,hR⟩:=h2
 subst e
 refine adC ?_
 obtain ⟨W,⟨m0,w0⟩,hW⟩:=hR s2.heap.objs.size I2.fresh
 have I3:Inv X pins σ (upd H2 s2.heap.objs.size (.lst [])) { s2 with heap:=s2.heap.push { cls:=.type "list",data:=.seq ([]:List aau).toArray } }:=I2.Vq (t':=s2.toks) (its:=[]) .nil (abV _)
 have Va:∀ b∈fp,b<s2.heap.objs.size:=fun b hb=>let ⟨_,e,_⟩:=T.obj _ _ st2 b hb; abf e
 have f3:∀ b∈fp,jq X pins (upd H2 s2.heap.objs.size (.lst [])) b:=fun b hb=>⟨by rw [aF (acu (Va b hb))]; exact (f2 b hb).1,(f2 b hb).2⟩
 have st3:tn 0 (s2.heap.push { cls:=.type "list",data:=.seq ([]:List aau).toArray }):=T.keep _ _ _ st2 fun b hb o e=>aap _ e
 generalize hs3:({ s2 with heap:=s2.heap.push { cls:=.type "list",data:=.seq ([]:List aau).toArray } }:aat)=s3 at I3
 have Qe:tn 0 s3.heap:=by rw [<- hs3]; exact st3
 have ob3:∀ b∈fp,∃ o,s3.heap.get? b=some o:=fun b hb=>let ⟨o,e,_⟩:=T.obj _ _ Qe b hb; ⟨o,e⟩
 have I4:=Jq S hX I3 f3 ob3
 have ZD:tn 0 (ZC s3 scope):=T.keep _ _ _ Qe fun b _ o e=>rW s3 scope b o e
 refine vO ?_
 have loop:=La (iter:=iter) (pos:=pos) S hX I3 f3 hc T (hg _) (ht _) (he _) (hW _) I4 ZD w0
 have fin:codeAny (model X.prog X.w) X.A (.compLoop (.ListComp elt [⟨tg,iter,ifs,0⟩] scope pos) 0 (.ref it) (.ref s2.heap.objs.size) (Dl scope (U9 X s3 scope) s3.heap.objs.size X.env))
     (compPost (model X.prog X.w) X.A X.xe use Q' (.ref s2.heap.objs.size) s3.heap.objs.size) { s3 with heap:=ZC s3 scope }:=agN loop fun r s' ⟨H',σ',hr,J',q⟩=>by
   subst hr
   exact out _ _ H' s' q (let ⟨m,hn,_⟩:=J'.loc; ⟨m,hn⟩) (I3.CW (aav _) J'.free) fun h' hh=>Jr I3 f3 J' hh
 exact codeAny_compStart_list fin (T.self _ 0 _ _ _ ZD fin)
theorem cA (hc:X.calm=true) (hX:X.env.scope=eY) (S:pW eY scope X.N own cap ix) (hi:PI X tg iter wi) (hg:∀ b,PG (blk X scope (own++cap) b) tg (g b)) (ht:∀ b,Dn (blk X scope (own++cap) b) ifs (tt b))
   (he:∀ b,PE (blk X scope (own++cap) b) elt (te b)) (hs:∀ x,foldedSetIterable iter X.env x=pure x:=by intro _; rfl) :
   PE X (.ListComp elt [⟨tg,iter,ifs,0⟩] scope pos) (Qd own ix wi g tt te):=by
 intro pins s σ H Q I h
 rw [eval_ListComp]
 refine vP (use:=none) hc hX S hi hg ht he hs I h fun D C H' s' q hn _ hI=>?_
 obtain ⟨m,hn⟩:=hn
 exact ⟨m,hn,fun h' hh=>⟨.ref D,H',hI h' hh,rfl,q⟩⟩
theorem pX {i:Nat} {x:Str} {pos' spos:Pos} (hN:X.N.Nodup) (hx1:X.N[i]?=some x) (hx:X.env.scope.names.lookup x=some .local) (hc:X.calm=true) (hX:X.env.scope=eY) (S:pW eY scope X.N own cap ix) (hi:PI X tg iter wi)
   (hg:∀ b,PG (blk X scope (own++cap) b) tg (g b)) (ht:∀ b,Dn (blk X scope (own++cap) b) ifs (tt b)) (he:∀ b,PE (blk X scope (own++cap) b) elt (te b)) (hs:∀ x,foldedSetIterable iter X.env x=pure x:=by intro _; rfl)
   (hsw:swapsWith (.ListComp elt [⟨tg,iter,ifs,0⟩] scope pos) (some (.Name x pos')) spos.line X.env=pure true:=by rfl) :
   PS X (.Assign [.Name x pos'] (.ListComp elt [⟨tg,iter,ifs,0⟩] scope pos) spos) (Pk (Qd own ix wi g tt te) (CV i)):=by
 intro pins s σ H D I h
 rw [apx _ _ _ _ hsw]
 refine Fi (agh (Fi ?_))
 show wpAny _ X.A (do let _ <- comprehension (.ListComp elt [⟨tg,iter,ifs,0⟩] scope pos) scope X.env _ (newList []) false (eval iter X.env) (some (assign (.Name x pos') X.env))) _ _ s
 refine Fi (ae5 (vP (use:=some (assign (.Name x pos') X.env)) (Q':=fun _ s'=>SP X pins D .next s') hc hX S hi hg ht he hs I h fun D1 C H' s' q hn fC hI=>?_) (fun _ s' hq=>aar (aar hq)) fun _ _ e=>e)
 obtain ⟨m,hn⟩:=hn
 have I0:Inv X pins σ H' s':=by
   have z:=hI s'.heap (aqQ ..)
   exact z
 show wpAny _ X.A (assign (.Name x pos') X.env (.ref D1)) _ _ _
 refine aom (rQ I0 hN hx1 (.inl hx) (show RelV (.ref D1) (.ref D1) from rfl) (fun s2 I2 ⟨a,sb,ha⟩=>?_) (.inr hx))
 have na:C≠a:=by
   rcases ha with e | e
   . rw [e]; exact fC.2.1
   . intro z; exact fC.2.2.2.2.1 x a e z.symm
 refine ⟨m,hn.sameBut sb na,fun h' hh=>?_⟩
 refine ⟨_,H',?_,q⟩
 exact I2.turned (it:=C) (t':=s2.toks) (fun b o hb e=>(hh.2 b hb).trans e) fC.1 fC.2.1 fC.2.2.2.1 fC.2.2.2.2.1 fC.2.2.2.2.2
end
end L2
namespace L2
open PySem PySem.Spec PyProof.Rows
def Its (x:Str):It:=⟨fun i _=>i<x.cps.size,fun i H v H'=>H'=H/\∃ c,x.cps[i]?=some c/\v=.str ⟨#[c]⟩,fun i _=>x.cps.size<=i⟩
theorem Lb {P:acs} {w:adH} {K:aas} {tg:Expr} (it:abm) (x:Str) (t:Tok):Turn P w K tg (Its x) [it] it (fun i h=>h.IsStrIter it "str_ascii_iterator" x t i) where
 mem:=by simp
 obj:=fun i h st b hb=>by
   have e:b=it:=by simpa using hb
   subst e
   obtain ⟨o,e,c,d⟩:=st
   exact ⟨o,e,fun v z=>by rw [d] at z; cases z⟩
 keep:=fun i h h' st k=>let ⟨o,e,r⟩:=st; ⟨o,k it (by simp) o e,r⟩
 item:=by
   intro X hP hw hK hc i pins s σ H E I hf st hg
   subst hP hw hK
   have hg':i<x.cps.size:=hg
   obtain ⟨f0,f1,f2,f3,f4,f5⟩:=hf it (by simp)
   refine wpAny_pyNext_ascii_item st (c:=x.cps[i]) (by simp [hg']) fun h' st' sb=>?_
   have I1:Inv X pins σ H { s with heap:=h',toks:=s.toks+1 }:=I.turned (fun b o hb e=>(sb.2 b hb).trans e) f0 f1 f3 f4 f5
   obtain ⟨o,e,c,d⟩:=id st'
   exact ⟨_,rfl,CZ (s:={ s with heap:=h',toks:=s.toks+1 }) e c d (by decide) ⟨.str ⟨#[x.cps[i]]⟩,H,I1,⟨_,rfl⟩,⟨rfl,_,by simp [hg'],rfl⟩,st',fun b hb=>(hf b hb).1⟩⟩
 done:=by
   intro X hP hw hK hc i pins s σ H E I hf st hg
   subst hP hw hK
   have hg':x.cps.size<=i:=hg
   obtain ⟨f0,f1,f2,f3,f4,f5⟩:=hf it (by simp)
   exact wpAny_pyNext_ascii_end (I.ok.hd hc) st (by simp [hg']) fun h' eb=>⟨rfl,I.turned (t':=s.toks) (fun b o hb e=>eb b o hb e) f0 f1 f3 f4 f5⟩
 self:=fun _ _ _ _ _ st h=>wpAny_pyIter_striter_ascii st h
theorem Ld {P:acs} {w:adH} {K:aas} {tg:Expr} (it:abm) (x:Str) (t:Tok):Turn P w K tg (Its x) [it] it (fun i h=>h.IsStrIter it "str_iterator" x t i) where
 mem:=by simp
 obj:=fun i h st b hb=>by
   have e:b=it:=by simpa using hb
   subst e
   obtain ⟨o,e,c,d⟩:=st
   exact ⟨o,e,fun v z=>by rw [d] at z; cases z⟩
 keep:=fun i h h' st k=>let ⟨o,e,r⟩:=st; ⟨o,k it (by simp) o e,r⟩
 item:=by
   intro X hP hw hK hc i pins s σ H E I hf st hg
   subst hP hw hK
   have hg':i<x.cps.size:=hg
   obtain ⟨f0,f1,f2,f3,f4,f5⟩:=hf it (by simp)
   refine wpAny_pyNext_wide_item st (c:=x.cps[i]) (by simp [hg']) fun h' st' sb=>?_
   have I1:Inv X pins σ H { s with heap:=h',toks:=s.toks+1 }:=I.turned (fun b o hb e=>(sb.2 b hb).trans e) f0 f1 f3 f4 f5
   obtain ⟨o,e,c,d⟩:=id st'
   exact ⟨_,rfl,CZ (s:={ s with heap:=h',toks:=s.toks+1 }) e c d (by decide) ⟨.str ⟨#[x.cps[i]]⟩,H,I1,⟨_,rfl⟩,⟨rfl,_,by simp [hg'],rfl⟩,st',fun b hb=>(hf b hb).1⟩⟩
 done:=by
   intro X hP hw hK hc i pins s σ H E I hf st hg
   subst hP hw hK
   have hg':x.cps.size<=i:=hg
   obtain ⟨f0,f1,f2,f3,f4,f5⟩:=hf it (by simp)
   exact wpAny_pyNext_wide_end (I.ok.hd hc) st (by simp [hg']) fun h' eb=>⟨rfl,I.turned (t':=s.toks) (fun b o hb e=>eb b o hb e) f0 f1 f3 f4 f5⟩
 self:=fun _ _ _ _ _ st h=>wpAny_pyIter_striter_wide st h
def agn (tl:TE):TI:=fun σ H R=>tl σ H fun x H1=>∃ z,x=.str z/\R (Its z) H1
theorem ZG {X:Cx} {tg l:Expr} {tl:TE} (hl:PE X l tl):PI X tg l (agn tl):=by
 intro pins s σ H R I h
 refine dw (hl pins s σ H _ I h) fun v s1 ⟨x,H1,I1,r1,q1⟩=>?_
 obtain ⟨z,e,q⟩:=q1
 subst e
 obtain ⟨t,rfl⟩:=r1
 have fp:∀ b∈[s1.heap.objs.size],jq X pins H1 b:=fun b hb=>by
   have e:b=s1.heap.objs.size:=by simpa using hb
   subst e
   exact I1.CW (aav _) (I1.hok.fresh (aav _))
 cases ha:z.cps.all (·<128)
 . exact wpAny_pyIter_wide ha ⟨s1.heap.objs.size,[s1.heap.objs.size],_,_,H1,rfl,I1.kept (t':=s1.toks) fun b o e=>aap _ e,Ld _ z t,⟨_,aa8 _ rfl,rfl,rfl⟩,fp,q⟩
 . exact wpAny_pyIter_ascii ha ⟨s1.heap.objs.size,[s1.heap.objs.size],_,_,H1,rfl,I1.kept (t':=s1.toks) fun b o e=>aap _ e,Lb _ z t,⟨_,aa8 _ rfl,rfl,rfl⟩,fp,q⟩
section
variable {X:Cx}
theorem Le:gD X (compareOp .LtE) (fun x y H Q=>∃ i j,x=.str i/\y=.str j/\Q (.bl (!decide (j.cps.toList<i.cps.toList))) H):=by
 intro pins s σ H x y v u Q I rx ry h
 obtain ⟨i,j,rfl,rfl,q⟩:=h
 obtain ⟨t,rfl⟩:=rx
 obtain ⟨t',rfl⟩:=ry
 exact PySem.P.le_str ⟨.bl _,H,I,rfl,q⟩
theorem Dr {v:aau} {o:Option Int} (p:aqb v o):∃ l:Option (Int × Tok),v=partValue l/\l.map (·.1)=o:=by
 cases p with
 | none=>exact ⟨none,rfl,rfl⟩
 | int i t=>exact ⟨some (i,t),rfl,rfl⟩
theorem ZJ:SlR X (fun x lo hi H Q=>∃ z,x=.str z/\z.length<=sizeLine/\Q (.str (anv z lo hi)) H):=by
 intro pins s σ H x v vl vu lo hi sl Q I rx hs pl pu h
 obtain ⟨z,rfl,hz,q⟩:=h
 obtain ⟨t,rfl⟩:=rx
 obtain ⟨l,e1,f1⟩:=Dr pl
 obtain ⟨u,e2,f2⟩:=Dr pu
 subst e1 e2 f1 f2
 refine ⟨"str",_,F.slot_str_getitem.lookup,arp _ _ _,wpAny_getItem_str_slice (l:=l) (u:=u) (st:=none) hs rfl ?_⟩
 exact post_val_or_str ⟨adS (Txt.slice_le z _ _) hz,fun t' k=>⟨.str (anv z _ _),H,I.tok k,⟨t',rfl⟩,q⟩⟩
theorem Js:∀ {ys:List Str} {us:List aau},Vals (ys.map V.str) us->an0 us ys:=by
 intro ys
 induction ys with
 | nil=>intro us r; rw [am3] at r; cases r; exact .nil
 | cons y ys ih =>
   intro us r
   rw [abA] at r
   cases r with
   | cons r1 r2 =>
     obtain ⟨t,e⟩:=r1
     subst e
     exact .cons y t (ih r2)
theorem Qf:∀ {bs:List Bool} {us:List aau},Vals (bs.map V.bl) us->LSm.BoolsAre us bs:=by
 intro bs
 induction bs with
 | nil=>intro us r; rw [am3] at r; cases r; exact .nil
 | cons b bs ih =>
   intro us r
   rw [abA] at r
   cases r with
   | cons r1 r2 =>
     have e:_=amP b:=r1
     subst e
     exact .cons b (ih r2)
theorem jr (hc:X.calm=true):gK X (.builtin "all") (fun xs H Q=>∃ (p:abm) (bs:List Bool),xs=[.ref p]/\bY X.K H p (bs.map V.bl)/\Q (.bl (bs.all id)) H):=by
 intro pins s σ H xs us Q I r h
 obtain ⟨p,bs,rfl,hq,q⟩:=h
 obtain ⟨u,rfl,ru⟩:=vals1 r
 cases ru
 obtain ⟨its,rv,pl,_⟩:=I.list hq
 have hb:=Qf rv
 have hl:=pl.isList
 have hlt:p<s.heap.objs.size:=by obtain ⟨_,e,_⟩:=hl; exact abf e
 refine call_all_walk (amQ hl ?_)
 refine ⟨s.heap.objs.size,[s.heap.objs.size,p],[s.heap.objs.size],its.toArray.size,_,_,fun i=>(bs[i]?).getD true,rfl,Walks.list (A:=X.A.in1) (I.ok.hd hc) _ p (acu hlt) its.toArray,
   ⟨⟨_,aa8 _ rfl,rfl,rfl⟩,hl.push _⟩,fun i v s' Q' E' hP hQ=>?_,fun h' tk hk=>?_⟩
 . obtain ⟨b,e,rfl⟩:=hb.get i v (by simpa using hP)
   simp only [e,Option.getD_some] at hQ
   exact aft hQ
 . have e:((acy its.toArray.size).all fun i=>(bs[i]?).getD true)=bs.all id:=by
     rw [abp,hb.length]; exact LSm.range_all bs
   rw [e]
   exact ⟨.bl _,H,I.kept (LSm.kept_iter hk),rfl,q⟩
theorem gU:gK X (.builtin "isinstance") (fun xs H Q=>∃ x n t b,xs=[x,.ty n]/\iV X.K H x t/\aiw X.K t (.type n)=some b/\Q (.bl b) H):=by
 intro pins s σ H xs us Q I r h
 obtain ⟨x,n,t,b,rfl,ty,e,q⟩:=h
 obtain ⟨u,w',rfl,rx,ry⟩:=vals2 r
 have ry':w'=agO n:=ry
 subst ry'
 exact KQ I rx ty e fun tk=>⟨.bl b,H,I.tok tk,rfl,q⟩
mutual
inductive Dp (K:aas) (H:Hp):V->ai6->Prop
 | non:Dp K H .non .none
 | bl (b:Bool):Dp K H (.bl b) (.bool b)
 | int (i:Int):Dp K H (.int i) (.int i)
 | str (x:Str):Dp K H (.str x) (.str x)
 | lst {a:abm} {xs:List V} {ds:List ai6}:bY K H a xs->Ov K H xs ds->Dp K H (.ref a) (.list ds)
 | tup {a:abm} {xs:List V} {ds:List ai6}:bA K H a xs->Ov K H xs ds->Dp K H (.ref a) (.tuple ds)
inductive Ov (K:aas) (H:Hp):List V->List ai6->Prop
 | nil:Ov K H [] []
 | cons {x:V} {xs:List V} {d:ai6} {ds:List ai6}:Dp K H x d->Ov K H xs ds->Ov K H (x :: xs) (d :: ds)
end
mutual
theorem Dp.reads {pins:List (abm × Obj)} {σ:St} {H:Hp} {s:aat} (I:Inv X pins σ H s):∀ {x:V} {d:ai6} {u:aau},Dp X.K H x d->RelV x u->∃ as,Reads s.heap u d as
 | _,_,_,.non,r=>by cases (show _=acR from r); exact ⟨_,.none⟩
 | _,_,_,.bl b,r=>by cases (show _=amP b from r); exact ⟨_,.bool b⟩
 | _,_,_,.int i,r=>by obtain ⟨t,rfl⟩:=(show ∃ t,_=amg i t from r); exact ⟨_,.int i t⟩
 | _,_,_,.str x,r=>by obtain ⟨t,rfl⟩:=(show ∃ t,_=anu x t from r); exact ⟨_,.str x t⟩
 | _,_,_,.lst (a:=a) hq h,r=>by
   cases (show _=abk a from r)
   obtain ⟨its,rv,pl,_⟩:=I.list hq
   obtain ⟨as,q⟩:=Ov.reads I h rv
   obtain ⟨o,ho,hc,n,hd⟩:=pl.isList
   exact ⟨_,.list ho hc hd (by simpa using q)⟩
 | _,_,_,.tup (a:=a) hq h,r=>by
   cases (show _=abk a from r)
   obtain ⟨its,rv,pl,_⟩:=I.tuple hq
   obtain ⟨as,q⟩:=Ov.reads I h rv
   obtain ⟨o,ho,hc,n,hd⟩:=pl
   exact ⟨_,.tuple ho hc hd (by simpa using q)⟩
theorem Ov.reads {pins:List (abm × Obj)} {σ:St} {H:Hp} {s:aat} (I:Inv X pins σ H s):∀ {xs:List V} {ds:List ai6} {us:List aau},Ov X.K H xs ds->Vals xs us->∃ as,ReadsAll s.heap us ds as
 | _,_,_,.nil,r=>by cases r; exact ⟨_,.nil⟩
 | _,_,_,.cons h1 h2,r=>by
   cases r with
   | cons r1 r2 =>
     obtain ⟨as,q1⟩:=Dp.reads I h1 r1
     obtain ⟨bs,q2⟩:=Ov.reads I h2 r2
     exact ⟨_,.cons q1 q2⟩
end
def ago (K:aas):R2:=fun x y H Q=>∃ d e,Dp K H x d/\Dp K H y e/\afD d=true/\afD e=true/\Q (.bl (aix d e)) H
def ab9 (K:aas):R2:=fun x y H Q=>∃ d e,Dp K H x d/\Dp K H y e/\afD d=true/\afD e=true/\Q (.bl (!PyData.eqv d e)) H
theorem Gy (hu:X.A.units+64<cLine):gD X (compareOp .Eq) (ago X.K):=by
 intro pins s σ H x y v u Q I rx ry h
 obtain ⟨d,e,hd,he,sd,se,q⟩:=h
 obtain ⟨as,ra⟩:=hd.reads I rx
 obtain ⟨bs,rb⟩:=he.reads I ry
 exact eq_dataH ra rb sd se hu ⟨.bl _,H,I,rfl,q⟩
theorem rY (hu:X.A.units+64<cLine):gD X (compareOp .NotEq) (ab9 X.K):=by
 intro pins s σ H x y v u Q I rx ry h
 obtain ⟨d,e,hd,he,sd,se,q⟩:=h
 obtain ⟨as,ra⟩:=hd.reads I rx
 obtain ⟨bs,rb⟩:=he.reads I ry
 exact ne_dataH ra rb sd se hu ⟨.bl _,H,I,rfl,q⟩
end
end L2
namespace L2
open PySem PySem.Spec PyProof.Rows
section
variable {X:Cx} {a b c:Expr} {ta tb tc:TE} {pos:Pos}
def tV (i:Nat):TE:=fun σ H Q=>match σ[i]? with
 | some (some v)=>Q v H
 | _=>False
theorem pV (i:Nat) {x:Str} {pos:Pos} (hN:X.N[i]?=some x:=by rfl) (hv:Vis X.env.scope x:=by first | exact acz rfl | exact aqB (acz rfl) | exact aqB (aqB rfl)) (hd:(x == ("__debug__" : Str))=false:=by decide)
   (hcd:(x == ("__classdict__" : Str))=false:=by decide):PE X (.Name x pos) (tV i):=by
 intro pins s σ H Q I h
 refine Y0 hN hv hd hcd pins s σ H Q I ?_
 unfold tV at h
 cases e:σ[i]? with
 | none=>rw [e] at h; exact h.elim
 | some o =>
   rw [e] at h
   cases o with
   | none=>exact h.elim
   | some v=>exact ⟨v,e,h⟩
def fI (g:Int->Int->V):R2:=fun x y H Q=>match x,y with
 | .int i,.int j=>Q (g i j) H
 | _,_=>False
def Ow (C:Int->Int->Prop) (g:Int->Int->V):R2:=fun x y H Q=>match x,y with
 | .int i,.int j=>C i j/\Q (g i j) H
 | _,_=>False
theorem gD.fI {f:aau->aau->Sem aau} {g:Int->Int->V} (h:gD X f (U8 g)):gD X f (fI g):=by
 intro pins s σ H x y v u Q I rx ry q
 refine h pins s σ H x y v u Q I rx ry ?_
 cases x <;> cases y <;> first | exact ⟨_,_,rfl,rfl,q⟩ | exact (show False from q).elim
theorem gD.Ow {f:aau->aau->Sem aau} {C:Int->Int->Prop} {g:Int->Int->V} (h:gD X f (rI C g)):gD X f (Ow C g):=by
 intro pins s σ H x y v u Q I rx ry q
 refine h pins s σ H x y v u Q I rx ry ?_
 cases x <;> cases y <;> first | exact ⟨_,_,rfl,rfl,q.1,q.2⟩ | exact (show False from q).elim
theorem ji:gD X (binaryOp .Add) (fI fun i j=>.int (i+j)):=Zb.fI
theorem Lf:gD X (binaryOp .Sub) (fI fun i j=>.int (i-j)):=Zc.fI
theorem acd:gD X (binaryOp .Mult) (Ow Vi fun i j=>.int (i * j)):=Zd.Ow
theorem oMod:gD X (binaryOp .Mod) (Ow (fun _ j=>0<j) fun i j=>.int (i % j)):=Ze.Ow
def Yc (_ j:Int):Prop:=0<j/\j<4611686018427387904
theorem Qg:gD X (binaryOp .FloorDiv) (rI Yc fun i j=>.int (i / j)):=opI fun i j _ _ _ _ _ hc q=>by
 have h1:(0:Int)<j:=hc.1
 have h2:j<4611686018427387904:=hc.2
 refine floordiv_int (by omega) (by rw [anN i (by omega)]; exact q) (.inl (PyProof.noPylong_of_log2 ?_))
 have h3:j.natAbs≠0:=by omega
 have h4:j.natAbs<2 ^ 62:=by omega
 have:=(Nat.log2_lt h3).mpr h4
 omega
theorem oDiv:gD X (binaryOp .FloorDiv) (Ow Yc fun i j=>.int (i / j)):=Qg.Ow
theorem agp:gD X (binaryOp .Pow) (Ow abK fun i j=>.int (i ^ j.toNat)):=Zf.Ow
theorem oLt:gD X (compareOp .Lt) (fI fun i j=>.bl (decide (i<j))):=X4.fI
theorem oLe:gD X (compareOp .LtE) (fI fun i j=>.bl (decide (i<=j))):=abO.fI
theorem oGt:gD X (compareOp .Gt) (fI fun i j=>.bl (decide (j<i))):=abP.fI
theorem oGe:gD X (compareOp .GtE) (fI fun i j=>.bl (decide (j<=i))):=abQ.fI
theorem ZK:gD X (compareOp .Eq) (U8 fun i j=>.bl (decide (i=j))):=Pr fun _ _ _ _ _ _ _ q=>eq_int (by rw [Bool.beq_eq_decide_eq]; exact q)
theorem oEq:gD X (compareOp .Eq) (fI fun i j=>.bl (decide (i=j))):=ZK.fI
theorem ZL:UnR X (unaryOp .USub) (fun x H Q=>match x with | .int i=>Q (.int (-i)) H | _=>False):=by
 intro pins s σ H x v Q I rx h
 cases x with
 | int i=>obtain ⟨t,rfl⟩:=rx; exact neg_int ⟨.int (-i),H,I.tok _,⟨_,rfl⟩,h⟩
 | _=>exact (show False from h).elim
def fS (g:Str->Str->V):R2:=fun x y H Q=>match x,y with
 | .str i,.str j=>Q (g i j) H
 | _,_=>False
theorem ace:gD X (compareOp .LtE) (fS fun i j=>.bl (!decide (j.cps.toList<i.cps.toList))):=by
 intro pins s σ H x y v u Q I rx ry q
 refine Le pins s σ H x y v u Q I rx ry ?_
 cases x <;> cases y <;> first | exact ⟨_,_,rfl,rfl,q⟩ | exact (show False from q).elim
def agq:R2:=fun x y H Q=>match x,y with
 | .str i,.str j=>i.length+j.length<=sizeLine/\Q (.str (i++j)) H
 | _,_=>False
theorem ZM:gD X (binaryOp .Add) agq:=by
 intro pins s σ H x y v u Q I rx ry q
 refine Gp pins s σ H x y v u Q I rx ry ?_
 cases x <;> cases y <;> first | exact ⟨_,_,rfl,rfl,q.1,q.2⟩ | exact (show False from q).elim
def bF (Q:Bool->Hp->Prop):VK:=fun x H=>match x with
 | .bl k=>Q k H
 | _=>False
def tF (t:TE):TT:=fun σ H Q=>t σ H (bF Q)
theorem Yd {Q:Bool->Hp->Prop} {x:V} {H:Hp} (h:bF Q x H):∃ k,x=.bl k/\Q k H:=by
 cases x with
 | bl k=>exact ⟨k,rfl,h⟩
 | _=>exact (show False from h).elim
theorem oZ {op:arE} {r:R2} (ho:gD X (compareOp op) r) (ha:PE X a ta) (hb:PE X b tb) (hm:behindInMarks op b=false):PT X (.Compare a [op] [b] pos) (tF (tOp r ta tb)):=by
 intro pins s σ H Q I h
 refine apl (dw (ha pins s σ H _ I h) fun v s1 ⟨x,H1,I1,r1,q1⟩=>dw (hb pins s1 σ H1 _ I1 q1) fun u s2 ⟨y,H2,I2,r2,q2⟩ =>
   dw (ho pins s2 σ H2 x y v u _ I2 r1 r2 q2) fun c s3 ⟨z,H3,I3,r3,q3⟩=>?_) hm
 obtain ⟨k,e,q⟩:=Yd q3
 subst e
 cases r3
 exact aft ⟨H3,I3,q⟩
theorem Bc {e:Expr} {t:TE} (h:PE X e t) (he:∀ whole,isTrue e X.env whole=(do let v <- whole; standAt e.pos; holding [v] (truthy v)):=by intro _; rfl):PT X e (tF t):=by
 intro pins s σ H Q I hw
 refine isTrue_plain (dw (h pins s σ H _ I hw) fun v s1 ⟨x,H1,I1,r1,q1⟩=>?_) (he _)
 obtain ⟨d,rfl,q⟩:=Yd q1
 cases r1
 exact aft ⟨H1,I1,q⟩
def acf (r r':R2) (ta tb tc:TE):TE:=fun σ H Q=>ta σ H fun x H1=>tb σ H1 fun y H2=>r x y H2 (bF fun k H3=>if k=true then tc σ H3 fun w' H4=>r' y w' H4 Q else Q (.bl false) H3)
theorem agr {op op':arE} {r r':R2} (ho:gD X (compareOp op) r) (ho':gD X (compareOp op') r') (ha:PE X a ta) (hb:PE X b tb) (hc:PE X c tc)
   (hm:lastMarks [op,op'] [b,c]=false:=by with_unfolding_all rfl):PE X (.Compare a [op,op'] [b,c] pos) (acf r r' ta tb tc):=by
 intro pins s σ H Q I h
 refine Compare_chain (dw (ha pins s σ H _ I h) fun v s1 ⟨x,H1,I1,r1,q1⟩=>chain_link (dw (hb pins s1 σ H1 _ I1 q1) fun u s2 ⟨y,H2,I2,r2,q2⟩ =>
   dw (ho pins s2 σ H2 x y v u _ I2 r1 r2 q2) fun d s3 ⟨z,H3,I3,r3,q3⟩=>?_)) hm
 obtain ⟨k,e,q3⟩:=Yd q3
 subst e
 cases r3
 refine aft ?_
 cases k with
 | false=>exact ite_ff ⟨.bl false,H3,I3,rfl,q3⟩
 | true=>exact ite_tt (chain_last (dw (hc pins s3 σ H3 _ I3 q3) fun w' s4 ⟨z',H4,I4,r4,q4⟩=>ho' pins s4 σ H4 y z' u w' Q I4 r2 r4 q4))
theorem acg {op op':arE} {r r':R2} (ho:gD X (compareOp op) r) (ho':gD X (compareOp op') r') (ha:PE X a ta) (hb:PE X b tb) (hc:PE X c tc)
   (hm:lastMarks [op,op'] [b,c]=false:=by with_unfolding_all rfl):PT X (.Compare a [op,op'] [b,c] pos) (tF (acf r r' ta tb tc)):=by
 intro pins s σ H Q I h
 refine isTrue_chain (dw (ha pins s σ H _ I h) fun v s1 ⟨x,H1,I1,r1,q1⟩=>test_link (dw (hb pins s1 σ H1 _ I1 q1) fun u s2 ⟨y,H2,I2,r2,q2⟩ =>
   dw (ho pins s2 σ H2 x y v u _ I2 r1 r2 q2) fun d s3 ⟨z,H3,I3,r3,q3⟩=>?_)) hm
 obtain ⟨k,e,q3⟩:=Yd q3
 subst e
 cases r3
 refine aft ?_
 cases k with
 | false=>exact ite_ff ⟨H3,I3,q3⟩
 | true =>
   refine ite_tt (test_last (dw (hc pins s3 σ H3 _ I3 q3) fun w' s4 ⟨z',H4,I4,r4,q4⟩=>dw (ho' pins s4 σ H4 y z' u w' _ I4 r2 r4 q4) fun d' s5 ⟨z2,H5,I5,r5,q5⟩=>?_))
   obtain ⟨k2,e2,q5⟩:=Yd q5
   subst e2
   cases r5
   exact aft ⟨H5,I5,q5⟩
variable {rest:List Expr}
def ach (ta tb:TE):TE:=fun σ H Q=>ta σ H (bF fun c H1=>if c=true then tb σ H1 Q else Q (.bl false) H1)
def ags (ta tb:TE):TE:=fun σ H Q=>ta σ H (bF fun c H1=>if c=true then Q (.bl true) H1 else tb σ H1 Q)
def aci (ta:TE):TE:=fun σ H Q=>ta σ H (bF fun c H1=>Q (.bl (!c)) H1)
theorem mJ (ha:PE X a ta) (hb:PE X (.BoolOp .And (b :: rest) pos) tb):PE X (.BoolOp .And (a :: b :: rest) pos) (ach ta tb):=by
 intro pins s σ H Q I h
 refine BoolOp_and (dw (ha pins s σ H _ I h) fun v s1 ⟨x,H1,I1,r1,q1⟩=>?_)
 obtain ⟨c,rfl,q1⟩:=Yd q1
 cases r1
 refine aft ?_
 cases c with
 | true=>exact hb pins s1 σ H1 Q I1 q1
 | false=>exact ⟨.bl false,H1,I1,rfl,q1⟩
theorem agt (ha:PE X a ta) (hb:PE X (.BoolOp .Or (b :: rest) pos) tb):PE X (.BoolOp .Or (a :: b :: rest) pos) (ags ta tb):=by
 intro pins s σ H Q I h
 refine BoolOp_or (dw (ha pins s σ H _ I h) fun v s1 ⟨x,H1,I1,r1,q1⟩=>?_)
 obtain ⟨c,rfl,q1⟩:=Yd q1
 cases r1
 refine aft ?_
 cases c with
 | false=>exact hb pins s1 σ H1 Q I1 q1
 | true=>exact ⟨.bl true,H1,I1,rfl,q1⟩
theorem acj (ha:PE X a ta):PE X (.UnaryOp .Not a pos) (aci ta):=by
 intro pins s σ H Q I h
 refine UnaryOp_ (dw (ha pins s σ H _ I h) fun v s1 ⟨x,H1,I1,r1,q1⟩=>?_)
 obtain ⟨c,rfl,q1⟩:=Yd q1
 cases r1
 exact not_of (aft ⟨.bl (!c),H1,I1,rfl,q1⟩)
end
end L2
namespace L2
open PySem PySem.Spec PyProof.Rows
def Nx (n i:Nat) (Pv:Nat->Hp->Prop) (H:Hp):Prop:=∃ m',m'<n-i/\(m'=n-(i+1)/\i+1<=n/\Pv (i+1) H)
theorem nx {n i:Nat} {Pv:Nat->Hp->Prop} {H:Hp} (hi:i<n) (h:Pv (i+1) H):Nx n i Pv H:=⟨n-(i+1),by omega,rfl,hi,h⟩
section
variable {g:BI->TG} {tt:BI->TT} {te:BI->TE} {σ0:St} {D:abm} {End:Hp->Prop} {H1:Hp}
theorem nY {J:It} (n:Nat) (Pv:Nat->Hp->Prop) (h0:Pv 0 (upd H1 D (.lst []))) (stop:∀ H,Pv n H->J.stop n H/\End H)
   (turn:∀ i H,i<n->Pv i H->J.go i H/\∀ x H',J.Vh i H x H'->∀ b,g b x σ0 H' fun σ2 H2=>tt b σ2 H2 fun c H3=>if c=true then oY D (te b) σ2 H3 (Nx n i Pv) else Nx n i Pv H3) :
   ∃ W:Nat->Nat->Hp->Prop,(∃ m,W 0 m (upd H1 D (.lst [])))/\∀ b,mH J (g b) (tt b) (oY D (te b)) σ0 End W:=by
 refine ⟨fun i m H=>m=n-i/\i<=n/\Pv i H,⟨n,rfl,abV _,h0⟩,fun b i m H ⟨hm,hi,p⟩=>?_⟩
 subst hm
 by_cases hlt:i<n
 . exact .inr ⟨(turn i H hlt p).1,fun x H' y=>(turn i H hlt p).2 x H' y b⟩
 . have e:i=n:=by omega
   subst e
   exact .inl (stop H p)
theorem Qh {z:Str} (Pv:Nat->Hp->Prop) (h0:Pv 0 (upd H1 D (.lst []))) (stop:∀ H,Pv z.cps.size H->End H)
   (turn:∀ i c H,z.cps[i]?=some c->i<z.cps.size->Pv i H->∀ b,g b (.str ⟨#[c]⟩) σ0 H fun σ2 H2=>tt b σ2 H2 fun c H3=>if c=true then oY D (te b) σ2 H3 (Nx z.cps.size i Pv) else Nx z.cps.size i Pv H3) :
   ∃ W:Nat->Nat->Hp->Prop,(∃ m,W 0 m (upd H1 D (.lst [])))/\∀ b,mH (Its z) (g b) (tt b) (oY D (te b)) σ0 End W :=
 nY z.cps.size Pv h0 (fun H p=>⟨aav _,stop H p⟩) fun i H hi p=>⟨hi,fun x H' ⟨e,c,hc,hx⟩ b=>by subst e hx; exact turn i c _ hc hi p b⟩
theorem jY {K:aas} {a:abm} {xs:List V} (Pv:Nat->Hp->Prop) (h0:Pv 0 (upd H1 D (.lst []))) (hl:∀ i H,i<=xs.length->Pv i H->bY K H a xs) (stop:∀ H,Pv xs.length H->End H)
   (turn:∀ i x H,xs[i]?=some x->i<xs.length->Pv i H->∀ b,g b x σ0 H fun σ2 H2=>tt b σ2 H2 fun c H3=>if c=true then oY D (te b) σ2 H3 (Nx xs.length i Pv) else Nx xs.length i Pv H3) :
   ∃ W:Nat->Nat->Hp->Prop,(∃ m,W 0 m (upd H1 D (.lst [])))/\∀ b,mH (X3 K a) (g b) (tt b) (oY D (te b)) σ0 End W :=
 nY xs.length Pv h0 (fun H p=>⟨⟨xs,hl _ H (aav _) p,aav _⟩,stop H p⟩) fun i H hi p =>
   ⟨⟨xs,xs[i],hl i H (afN hi) p,by simp [hi]⟩,fun x H' ⟨e,y⟩ b=>by subst e; exact turn i x _ (y xs (hl i _ (afN hi) p)) hi p b⟩
theorem jt {K:aas} {a:abm} {xs:List V} (Pv:Nat->Hp->Prop) (h0:Pv 0 (upd H1 D (.lst []))) (hl:∀ i H,i<=xs.length->Pv i H->bA K H a xs) (stop:∀ H,Pv xs.length H->End H)
   (turn:∀ i x H,xs[i]?=some x->i<xs.length->Pv i H->∀ b,g b x σ0 H fun σ2 H2=>tt b σ2 H2 fun c H3=>if c=true then oY D (te b) σ2 H3 (Nx xs.length i Pv) else Nx xs.length i Pv H3) :
   ∃ W:Nat->Nat->Hp->Prop,(∃ m,W 0 m (upd H1 D (.lst [])))/\∀ b,mH (U0 K a) (g b) (tt b) (oY D (te b)) σ0 End W :=
 nY xs.length Pv h0 (fun H p=>⟨⟨xs,hl _ H (aav _) p,aav _⟩,stop H p⟩) fun i H hi p =>
   ⟨⟨xs,xs[i],hl i H (afN hi) p,by simp [hi]⟩,fun x H' ⟨e,y⟩ b=>by subst e; exact turn i x _ (y xs (hl i _ (afN hi) p)) hi p b⟩
theorem pY {lo:Int} {n:Nat} (Pv:Nat->Hp->Prop) (h0:Pv 0 (upd H1 D (.lst []))) (stop:∀ H,Pv n H->End H)
   (turn:∀ i H,i<n->Pv i H->∀ b,g b (.int (lo+i)) σ0 H fun σ2 H2=>tt b σ2 H2 fun c H3=>if c=true then oY D (te b) σ2 H3 (Nx n i Pv) else Nx n i Pv H3) :
   ∃ W:Nat->Nat->Hp->Prop,(∃ m,W 0 m (upd H1 D (.lst [])))/\∀ b,mH (Y8 lo n) (g b) (tt b) (oY D (te b)) σ0 End W :=
 nY n Pv h0 (fun H p=>⟨aav _,stop H p⟩) fun i H hi p=>⟨hi,fun x H' ⟨e,hx⟩ b=>by subst e hx; exact turn i _ hi p b⟩
end
structure cL (H1 H:Hp) (D:abm) (ys:List V):Prop where
 at':H D=some (.lst ys)
 same:Same H1 H
theorem cL.start {H1:Hp} {D:abm} (h:H1 D=none):cL H1 (upd H1 D (.lst [])) D []:=⟨ao,fun b o e=>by rw [aF (aD e h)]; exact e⟩
theorem cL.put {H1 H:Hp} {D:abm} {ys:List V} (h:H1 D=none) (G:cL H1 H D ys) (y:V):cL H1 (upd H D (.lst (ys++[y]))) D (ys++[y]):=⟨ao,fun b o e=>by rw [aF (aD e h)]; exact G.same b o e⟩
theorem Same.upd {H H1:Hp} {p:abm} {o:HO} (s:Same H H1) (h:H1 p=none):Same H (upd H1 p o):=fun b u e=>by rw [aF (aD (s b u e) h)]; exact s b u e
theorem Same.tup {K:aas} {H H':Hp} {a:abm} {xs:List V} (e:Same H H') (h:bA K H a xs):bA K H' a xs:=by
 rcases h with (h | ⟨o,h⟩) | h
 . exact .inl (.inl (e _ _ h))
 . exact .inl (.inr ⟨o,e _ _ h⟩)
 . exact .inr h
def Bd (T n:String):Bool:=T == n || (T == "bool" && n == "int")
theorem yE {K:aas} {H:Hp} {x:V} {T:String} (h:iV K H x (.type T)):aiw K (.type T) (.type "int")=some (Bd T "int")/\aiw K (.type T) (.type "bool")=some (Bd T "bool")/\aiw K (.type T) (.type "str")=some (Bd T "str")/\aiw K (.type T) (.type "tuple")=some (Bd T "tuple"):=by
 cases h <;> exact ⟨rfl,rfl,rfl,rfl⟩
end L2
namespace L2
open PySem PySem.Spec PyProof.Rows
section
variable {X:Cx} {a b:Expr} {tA UW:TT} {rest:List Expr} {pos:Pos}
theorem vQ (ha:PT X a tA) (hb:PW X (.BoolOp .Or (b :: rest) pos) UW):PT X (.BoolOp .Or (a :: b :: rest) pos) (tOr tA UW):=(pw_or ha hb).pt
theorem Ds (ha:PT X a tA) (hb:PW X (.BoolOp .And (b :: rest) pos) UW):PT X (.BoolOp .And (a :: b :: rest) pos) (abC tA UW):=(pw_and ha hb).pt
end
theorem lt1 {a b:Nat}:([a]<[b])↔a<b:=by simp [List.cons_lt_cons_iff]
end L2
namespace L2
open PySem PySem.Spec PyProof.Rows
theorem Qi {α β:Type} {f:α->β} {l:List α} {i:Nat} {c:α} (h:l[i]?=some c):(l.take (i+1)).map f=(l.take i).map f++[f c]:=by
 rw [abj,h,abt]; rfl
theorem take_all {α β:Type} {f:α->β} {l:List α} {n:Nat} (h:l.length<=n):(l.take n).map f=l.map f:=by rw [adN h]
theorem Dt {α β:Type} {f:α->β} {l:List α} {i m:Nat} (h:i<m) (hm:m<=sizeLine):((l.take i).map f).length<sizeLine:=by
 rw [aao,abo]; omega
theorem Vx {z:Str} {i c:Nat} (h:z.cps[i]?=some c):z.cps.toList[i]?=some c:=by simpa using h
end L2
namespace L2
open PySem PySem.Spec PyProof.Rows
def aP (p:abm) (H H':Hp):Prop:=∀ b o,b≠p->H b=some o->H' b=some o
theorem aP.of {p:abm} {H H':Hp} (s:Same H H'):aP p H H':=fun b o _ e=>s b o e
theorem aP.trans {p:abm} {H H1 H2:Hp} (a:aP p H H1) (b:aP p H1 H2):aP p H H2:=fun c o n e=>b c o n (a c o n e)
theorem aP.upd {p:abm} {H H1:Hp} {o:HO} (a:aP p H H1):aP p H (upd H1 p o):=fun c u n e=>by rw [aF n]; exact a c u n e
theorem aP.new {p q:abm} {H H1:Hp} {o:HO} (a:aP p H H1) (h:H1 q=none):aP p H (L2.upd H1 q o):=fun c u n e=>by rw [aF (aD (a c u n e) h)]; exact a c u n e
structure IxA (K:aas) (x y:V) (H:Hp) (Q:VK):Prop where
 h:abY K x y H Q
theorem Lg {X:Cx}:Zn X (IxA X.K):=fun a b pins s σ H x y v u Q I rx ry h hs=>Vp a b pins s σ H x y v u Q I rx ry h.h hs
theorem uQ {K:aas} {H:Hp} {p:abm} {xs:List V} {i:Int} {v:V} {Q:VK} (h:H p=some (.lst xs)) (e:Cz xs i=some v) (q:Q v H):IxA K (.ref p) (.int i) H Q:=⟨p,xs,i,v,rfl,rfl,bY.of h,e,q⟩
theorem acn {K:aas} {H:Hp} {p:abm} {xs:List V} {i:Int} {v:V} {Q:VK} (h:bY K H p xs) (e:Cz xs i=some v) (q:Q v H):IxA K (.ref p) (.int i) H Q:=⟨p,xs,i,v,rfl,rfl,h,e,q⟩
structure IxT (K:aas) (x y:V) (H:Hp) (Q:VK):Prop where
 h:abZ K x y H Q
theorem dO {X:Cx}:Zn X (IxT X.K):=fun a b pins s σ H x y v u Q I rx ry h hs=>Zo a b pins s σ H x y v u Q I rx ry h.h hs
theorem bV {K:aas} {H:Hp} {p:abm} {xs:List V} {i:Int} {v:V} {Q:VK} (h:bA K H p xs) (e:Cz xs i=some v) (q:Q v H):IxT K (.ref p) (.int i) H Q:=⟨p,xs,i,v,rfl,rfl,h,e,q⟩
structure IxS (x y:V) (H:Hp) (Q:VK):Prop where
 h:ab0 x y H Q
theorem ZP {X:Cx}:Zn X IxS:=fun a b pins s σ H x y v u Q I rx ry h hs=>Zq a b pins s σ H x y v u Q I rx ry h.h hs
theorem Qj {H:Hp} {z:Str} {i:Int} {c:Nat} {Q:VK} (hz:z.length<=sizeLine) (e:Cz z.cps.toList i=some c) (q:Q (.str ⟨#[c]⟩) H):IxS (.str z) (.int i) H Q:=⟨z,i,c,rfl,rfl,hz,e,q⟩
structure aco (o i v:V) (H:Hp) (Q:Hp->Prop):Prop where
 h:X7 o i v H Q
theorem acp {X:Cx}:Y7 X aco:=fun pins s σ H o i v ov iv u Q I ro ri rv h=>set_list pins s σ H o i v ov iv u Q I ro ri rv h.h
theorem setAt {H:Hp} {p:abm} {xs:List V} {i:Int} {j:Nat} {v:V} {Q:Hp->Prop} (h:H p=some (.lst xs)) (e:Pz xs.length i=some j) (q:Q (upd H p (.lst (xs.set j v)))):aco (.ref p) (.int i) v H Q:=⟨p,xs,i,j,rfl,rfl,h,e,q⟩
end L2
namespace L2
open PySem PySem.Spec PyProof.Rows
def Qk (z:Str) (lo hi:Option Int):Str:=⟨((z.cps.toList.drop (HT.d8 z.length 0 lo)).take (HT.d8 z.length z.length hi-HT.d8 z.length 0 lo)).toArray⟩
theorem ZQ (lo hi:Option Int) (n:Nat):anw lo hi 1 n=(acy (HT.d8 n n hi-HT.d8 n 0 lo)).map (HT.d8 n 0 lo+·):=by
 have a:∀ (v:Option Int) (d:Nat),d<=n->(match v with | none=>(d:Int) | some i=>(let i:=if i<0 then i+(n:Int) else i; max 0 (min i (n:Int))))=((HT.d8 n d v:Nat):Int):=fun v d hd=>by
   cases v with
   | none=>rfl
   | some i =>
     show max 0 (min (if i<0 then i+(n:Int) else i) (n:Int))=((if i<0 then (i+(n:Int)).toNat else min i.toNat n:Nat):Int)
     by_cases h:i<0
     . rw [if_pos h,if_pos h]; omega
     . rw [if_neg h,if_neg h]; omega
 rw [<- sliceRange_one]
 unfold anw
 have h1:=a lo 0 (abV _)
 have h2:=a hi n (aav _)
 simp only [show (1:Int) > 0 by decide,if_true] at h1 h2 ⊢
 rw [<- h1,<- h2]
 rfl
theorem vR (z:Str) (lo hi:Option Int):anv z lo hi=Qk z lo hi:=by
 unfold anv Qk
 rw [ZQ,pick_run]
 split
 . rename_i h
   have e:HT.d8 z.length z.length hi-HT.d8 z.length 0 lo=z.length:=by simpa using h
   have b:HT.d8 z.length z.length hi<=z.length:=by
     unfold HT.d8
     cases hi with
     | none=>exact aav _
     | some v=>simp only; split <;> omega
   by_cases h0:z.length=0
   . have e0:z.cps.toList=[]:=by
       apply aeE
       simpa [amS] using h0
     cases z with
     | mk cps =>
       have e1:cps=#[]:=by simpa using e0
       subst e1
       simp
   . have e1:HT.d8 z.length 0 lo=0:=by omega
     rw [e1,apy,show HT.d8 z.length z.length hi=z.length by omega,aoa,adN (by simp [amS])]
 . rfl
theorem Ql (z:Str) (k:Nat):anv z none (some (k:Int))=⟨(z.cps.toList.take k).toArray⟩:=by
 rw [vR]
 unfold Qk
 rw [HT.qO,HT.jh,aoa,apy]
 congr 2
 rw [am6]
 simp [amS]
 try omega
theorem Lh (z:Str) (i k:Nat):anv z (some (i:Int)) (some (k:Int))=⟨((z.cps.toList.take k).drop i).toArray⟩:=by
 rw [vR]
 unfold Qk
 rw [HT.jh,HT.jh,aob]
 have el:z.cps.toList.length=z.length:=by simp [amS]
 congr 1
 by_cases h:i<=z.length
 . rw [aib h]
   congr 1
   rw [am6,ae4,el]
   omega
 . rw [aiE (show z.cps.toList.length<=min i z.length by omega),aiE (show z.cps.toList.length<=i by omega)]
   simp
end L2
namespace L2
open PySem PySem.Spec PyProof.Rows
def ZR (t:TE):TO:=fun σ H Q=>t σ H fun x H1=>match x with
 | .int i=>Q (some i) H1
 | _=>False
theorem Bf {X:Cx} {e:Expr} {te:TE} (h:PE X e te):PO X (some e) (ZR te):=by
 intro pins s σ H Q I hw
 rw [evalPart_some]
 refine dw (h pins s σ H _ I hw) fun u s1 ⟨x,H1,I1,r1,q1⟩=>?_
 cases x with
 | int i=>obtain ⟨t,rfl⟩:=r1; exact ⟨some i,H1,I1,.int i t,q1⟩
 | _=>exact (show False from q1).elim
structure SlS (x:V) (lo hi:Option Int) (H:Hp) (Q:VK):Prop where
 h:∃ z,x=.str z/\z.length<=sizeLine/\Q (.str (anv z lo hi)) H
theorem Vy {X:Cx}:SlR X SlS:=fun pins s σ H x v vl vu lo hi sl Q I rx hs pl pu h=>ZJ pins s σ H x v vl vu lo hi sl Q I rx hs pl pu h.h
theorem Jt {z:Str} {lo hi:Option Int} {H:Hp} {Q:VK} (hz:z.length<=sizeLine) (q:Q (.str (anv z lo hi)) H):SlS (.str z) lo hi H Q:=⟨z,rfl,hz,q⟩
theorem app_list (a b:Str):(a++b).cps.toList=a.cps.toList++b.cps.toList:=by
 show (a.cps++b.cps).toList=_
 simp
theorem len_list (a:Str):a.cps.toList.length=a.length:=by simp [amS]
end L2
namespace L2
open PySem PySem.Spec PyProof.Rows
abbrev qR:=St->Hp->(St->Hp->Prop)->Prop
def CT (J:It) (g:TG) (tt:TT) (act:qR) (End:St->Hp->Prop) (W:Nat->Nat->St->Hp->Prop):Prop :=
 ∀ i m σ H,W i m σ H->(J.stop i H/\End σ H)∨(J.go i H/\∀ x H',J.Vh i H x H'->g x σ H' fun σ2 H2=>tt σ2 H2 fun b H3 =>
   if b=true then act σ2 H3 fun σ4 H4=>∃ m',m'<m/\W (i+1) m' σ4 H4 else ∃ m',m'<m/\W (i+1) m' σ2 H3)
def Du (X:Cx) (tail:Sem Unit) (act:qR):Prop :=
 ∀ (pins:List (abm × Obj)) (s:aat) (σ:St) (H:Hp) (R:St->Hp->Prop),Inv X pins σ H s->act σ H R ->
   wpAny (model X.prog X.w) X.A tail (fun _ s'=>∃ σ' H',Inv X pins σ' H' s'/\R σ' H') (fun _ _=>False) s
def ur (p:Pos) (tg:Expr) (ifs:List Expr) (env:Env) (it:aau) (tail:Sem Unit) (c:Code):Sem Fin:=do
 standAt p
 match <- pyNext it with
 | none=>pure (.done .next)
 | some v =>
   letOwnedTupleGo tg it v
   assign tg env v
   let mut ok:=true
   for c in ifs do
     if ok then ok <- isTrue c env (eval c env)
   if ok then tail
   again c
theorem Ye {X:Cx} {e:Expr} {depth:Nat} {acc:aau} {p:Pos} {tg:Expr} {ifs:List Expr} {tail:Sem Unit} {J:It} {fp:List abm} {it:abm} {tn:Nat->ae9->Prop} {g:TG} {tt:TT} {act:qR} {End:St->Hp->Prop} {W:Nat->Nat->St->Hp->Prop} {m0:Nat}
   {pins:List (abm × Obj)} {σ:St} {H:Hp} {s:aat} (hq:(aoK e depth (.ref it) acc X.env).quiet=true)
   (hden:∀ (Q:Fin->aat->Prop) (E:aau->aat->Prop) (s:aat),wpAny (model X.prog X.w) X.A (ur p tg ifs X.env (.ref it) tail (.compLoop e depth (.ref it) acc X.env)) Q (notedBy (model X.prog X.w) X.A X.env E) s ->
     wpAny (model X.prog X.w) (X.A.under (.compLoop e depth (.ref it) acc X.env)) ((model X.prog X.w).den (.compLoop e depth (.ref it) acc X.env)) Q E s)
   (Ju:∀ v s,X.xe v s->False) (hc:X.calm=true) (T:Turn X.prog X.w X.K tg J fp it tn) (hf:∀ b∈fp,jq X pins H b) (I:Inv X pins σ H s) (st:tn 0 s.heap) (hg:PG X tg g) (ht:Dn X ifs tt) (ha:Du X tail act)
   (hW:CT J g tt act End W) (w0:W 0 m0 σ H) :
   codeAny (model X.prog X.w) X.A (.compLoop e depth (.ref it) acc X.env) (fun r s'=>∃ σ' H',r=.ok .next/\Inv X pins σ' H' s'/\End σ' H') s:=by
 have stat:∀ {H':Hp},(∀ b∈fp,H' b=none)->∀ b∈fp,jq X pins H' b:=fun hn b hb=>⟨hn b hb,(hf b hb).2⟩
 refine codeAny_loop hq (fun n s'=>∃ i σ' H',Inv X pins σ' H' s'/\tn i s'.heap/\(∀ b∈fp,H' b=none)/\W i n σ' H') ?_ m0 ⟨0,σ,H,I,st,fun b hb=>(hf b hb).1,w0⟩
 rintro n s3 ⟨i,σ3,H3,I3,st3,Y9,w3⟩
 refine hden _ _ _ ?_
 unfold ur
 rcases hW i n σ3 H3 w3 with ⟨stop,qe⟩ | ⟨go,step⟩
 . refine Fi (agh (Fi (dw (T.done X rfl rfl rfl hc i pins s3 _ H3 _ I3 (stat Y9) st3 stop) fun r s5 ⟨hr,I5⟩=>?_)))
   subst hr
   exact aar ⟨σ3,H3,rfl,I5,qe⟩
 . refine Fi (agh (Fi (dw (T.item X rfl rfl rfl hc i pins s3 _ H3 _ I3 (stat Y9) st3 go) fun r s5 ⟨u,hr,h5⟩=>?_)))
   subst hr
   refine Fi (dw h5 fun _ s6 ⟨x,H6,I6,r6,y6,ZF,fr6⟩=>?_)
   have I6':=I6.pinned (stat fr6) (T.obj _ _ ZF)
   refine Fi (ae5 (hg _ s6 _ H6 x u _ I6' r6 (step x H6 y6)) (fun _ s7 ⟨σ7,H7,I7,q7⟩=>?_) fun v s' f=>(Ju v s' f).elim)
   refine Fi (ae5 (ht _ s7 σ7 H7 _ I7 q7) (fun ok s8 ⟨H8,I8,q8⟩=>?_) fun v s' f=>(Ju v s' f).elim)
   have again:∀ {σ9:St} {H9:Hp} {s9:aat} {m':Nat},Inv X (pins++rT fp s6.heap) σ9 H9 s9->m'<n->W (i+1) m' σ9 H9 ->
       ∃ m,m<n/\∃ i σ' H',Inv X pins σ' H' s9/\tn i s9.heap/\(∀ b∈fp,H' b=none)/\W i m σ' H':=fun {σ9 H9 s9 m'} I9 hm w9=>by
     refine ⟨m',hm,i+1,σ9,H9,I9.mD,T.keep _ _ _ ZF fun b hb o e=>(I9.pin (b,o) (acU _ (acU _ (iy hb e)))).1,fun b hb=>?_,w9⟩
     obtain ⟨o,e,d⟩:=T.obj _ _ ZF b hb
     exact (I9.pin (b,o) (acU _ (acU _ (iy hb e)))).2.1
   cases ok with
   | false =>
     obtain ⟨m',hm,w9⟩:=q8
     exact aar ⟨rfl,again I8 hm w9⟩
   | true =>
     refine Fi (ae5 (ha _ s8 σ7 H8 _ I8 q8) (fun _ s9 ⟨σ9,H9,I9,m',hm,w9⟩=>?_) fun _ _ f=>f.elim)
     exact aar ⟨rfl,again I9 hm w9⟩
def Yg (D:abm) (te:TE):qR:=fun σ H R=>te σ H fun y H4=>∃ zs,H4 D=some (.lst zs)/\zs.length<sizeLine/\R σ (upd H4 D (.lst (zs++[y])))
def aIn (wi:TI) (g:TG) (tt:TT) (act:qR):qR:=fun σ H R=>wi σ H fun J H1=>∃ W:Nat->Nat->St->Hp->Prop,(∃ m,W 0 m σ H1)/\CT J g tt act R W
section
variable {X:Cx} {elt kx vx iter tg:Expr} {te tk tv:TE} {D:abm} {wi:TI} {g:TG} {tt:TT} {act:qR} {ifs:List Expr} {scope:Scope} {pos:Pos}
theorem Qm (Ju:∀ v s,X.xe v s->False) (he:PE X elt te):Du X (do let _ <- call (.builtin "list.append") [.ref D,<- eval elt X.env]) (Yg D te):=by
 intro pins s σ H R I h
 refine Fi (ae5 (he _ s σ H _ I h) (fun y s9 ⟨v,H9,I9,r9,zs,hD,hz,w9⟩=>?_) fun v s' f=>(Ju v s' f).elim)
 refine Fi (ae5 (fV (X:=X) _ s9 σ H9 (.ref D) [v] (.ref D) [y] (fun _ H'=>R σ H') I9 rfl (.cons r9 .nil) ⟨D,zs,v,rfl,rfl,hD,hz,w9⟩) (fun _ Dq ⟨_,uq,I10,_,q⟩=>?_) fun v s' f=>(Ju v s' f).elim)
 exact aar ⟨σ,uq,I10,q⟩
theorem Li {pins:List (abm × Obj)} {σ:St} {H H':Hp} {s:aat} {a:abm} {y v:V} {u r:aau} {A:aeN} {E:aau->aat->Prop} {Q:Unit->aat->Prop} (I:Inv X pins σ H s) {kvs:List (Key × V)} {k:Key} (e:H a=some (.dK kvs)) (ey:y=kV k)
   (l:kvs.length<sizeLine) (eH:H'=upd H a (.dK (putK kvs k v))) (ry:RelV y u) (rv:RelV v r) (h:∀ s',Inv X pins σ H' s'->Q () s'):wpAny (model X.prog X.w) A (dictSet a u r) Q E s:=by
 subst ey eH
 obtain ⟨z,hd,vs,rel,dd⟩:=yU I.hok e
 have hz:vs.length<=sizeLine:=by rw [<- rel.length]; exact z
 have hl:(putK kvs k v).length<=sizeLine:=by have:=dH kvs k v; omega
 refine wpAny_dictSet_pairs (hsz:=hz) (pF ry) dd fun h' Ou hs=>h _ ?_
 have he:∃ q,h'.get? a=some q:=let ⟨q,_,_,hq,_⟩:=Ou; ⟨q,hq⟩
 exact kZ I (by rw [e]; exact agS) hs he (vM hl hd (rel.put k rv) Ou)
def Gz (D:abm) (tk tv:TE):qR:=fun σ H R=>tk σ H fun k H1=>tv σ H1 fun v H2=>∃ kvs kk,H2 D=some (.dK kvs)/\k=kV kk/\kvs.length<sizeLine/\R σ (upd H2 D (.dK (putK kvs kk v)))
theorem yZ (Ju:∀ v s,X.xe v s->False) (hk:PE X kx tk) (hv:PE X vx tv):Du X (do
   let kv <- eval kx X.env
   let vv <- holding [kv] (eval vx X.env)
   standAt { kx.pos with endLine:=vx.pos.endLine,endCol:=vx.pos.endCol }
   holding [kv,vv] (dictSet D kv vv)) (Gz D tk tv):=by
 intro pins s σ H R I h
 refine Fi (ae5 (hk _ s σ H _ I h) (fun y s1 ⟨k,H1,I1,r1,q1⟩=>?_) fun v s' f=>(Ju v s' f).elim)
 refine Fi (adQ (ae5 (hv _ s1 σ H1 _ I1 q1) (fun z s2 ⟨v,H2,I2,r2,kvs,kk,hD,ek,hl,q⟩=>?_) fun v s' f=>(Ju v s' f).elim))
 refine Fi (agh (adQ ?_))
 exact Li I2 hD ek hl rfl r1 r2 fun s' I'=>⟨σ,_,I',q⟩
end
end L2
namespace L2
open PySem PySem.Spec PyProof.Rows
theorem Jv {X:Cx} {e:Expr} {acc:aau} {p:Pos} {iter tg:Expr} {ifs:List Expr} {tail:Sem Unit} {wi:TI} {g:TG} {tt:TT} {act:qR}
   (hq:∀ it,(aoK e 1 (.ref it) acc X.env).quiet=true)
   (hden:∀ (it:abm) (Q:Fin->aat->Prop) (E:aau->aat->Prop) (s:aat),wpAny (model X.prog X.w) X.A (ur p tg ifs X.env (.ref it) tail (.compLoop e 1 (.ref it) acc X.env)) Q (notedBy (model X.prog X.w) X.A X.env E) s ->
     wpAny (model X.prog X.w) (X.A.under (.compLoop e 1 (.ref it) acc X.env)) ((model X.prog X.w).den (.compLoop e 1 (.ref it) acc X.env)) Q E s)
   (hst:∀ (it:abm) (R:arb->aat->Prop) (s:aat),codeAny (model X.prog X.w) X.A (.compLoop e 1 (.ref it) acc X.env) R s ->
     (∀ Q E,Q (.ref it) s->wpAny (model X.prog X.w) X.A (pyIter (.ref it)) Q E s)->codeAny (model X.prog X.w) X.A (.compStart e 1 (.ref it) acc X.env) R s)
   (Ju:∀ v s,X.xe v s->False) (hc:X.calm=true) (hi:PI X tg iter wi) (hg:PG X tg g) (ht:Dn X ifs tt) (ha:Du X tail act) (hs:∀ x,foldedSetIterable iter X.env x=pure x:=by intro _; rfl) :
   Du X (do
     let x <- eval iter X.env
     standAt iter.pos
     let x <- foldedSetIterable iter X.env x
     let _ <- runOwn (.compStart e 1 (<- holding [x] (pyIter x)) acc X.env) X.env) (aIn wi g tt act):=by
 intro pins s σ H R I h
 refine Fi (ae5 (hi pins s σ H _ I h) (fun v s1 h1=>?_) fun v s' f=>(Ju v s' f).elim)
 refine Fi (agh (Fi ?_))
 rw [hs]
 refine aar (Fi (adQ (ae5 h1 (fun itv s2 h2=>?_) fun v s' f=>(Ju v s' f).elim)))
 obtain ⟨it,fp,tn,J,H2,rfl,I2,T,st2,f2,W,⟨m0,w0⟩,hW⟩:=h2
 have loop:=Ye (p:=p) (hq it) (hden it) Ju hc T f2 I2 st2 hg ht ha hW w0
 refine Fi (wpAny_runOwn (agN (hst it _ _ loop fun Q E q=>T.self _ 0 _ _ _ st2 q) fun r s' ⟨σ',H',hr,I',q⟩=>?_))
 subst hr
 exact aar ⟨σ',H',I',q⟩
end L2
namespace L2
open PySem PySem.Spec PyProof.Rows
def Bg (own:List Str) (ix:List Nat) (o0:HO) (wi:TI) (g:BI->TG) (tt:BI->TT) (act:BI->abm->qR):TE:=fun σ H Q=>wi σ H fun J H1=>∀ D,H1 D=none ->
 ∃ W:Nat->Nat->St->Hp->Prop,(∃ m,W 0 m (Gx own ix σ) (upd H1 D o0))/\∀ b,CT J (g b) (tt b) (act b D) (fun _ H'=>Q (.ref D) H') W
def Qn (own:List Str) (ix:List Nat) (o0:abm->HO) (wi:TI) (g:BI->TG) (tt:BI->TT) (act:BI->abm->qR):TE:=fun σ H Q=>wi σ H fun J H1=>∀ D,H1 D=none ->
 ∃ W:Nat->Nat->St->Hp->Prop,(∃ m,W 0 m (Gx own ix σ) (upd H1 D (o0 D)))/\∀ b,CT J (g b) (tt b) (act b D) (fun _ H'=>Q (.ref D) H') W
section
variable {X:Cx} {e tg iter:Expr} {ifs:List Expr} {gs:List Comprehension} {scope eY:Scope} {pos:Pos} {own cap:List Str} {ix:List Nat} {wi:TI} {g:BI->TG} {tt:BI->TT} {act:BI->abm->qR} {tail:abm->Env->Sem Unit} {newAcc:Sem aau} {ob:Obj} {o0:HO} {p:Pos}
structure uw (X:Cx) (e:Expr) (depth:Nat) (p:Pos) (tg:Expr) (ifs:List Expr) (tail:abm->Env->Sem Unit):Prop where
 hq:∀ it D env,(aoK e depth (.ref it) (.ref D) env).quiet=true
 hden:∀ (it D:abm) (env:Env) (Q:Fin->aat->Prop) (E:aau->aat->Prop) (s:aat),wpAny (model X.prog X.w) X.A (ur p tg ifs env (.ref it) (tail D env) (.compLoop e depth (.ref it) (.ref D) env)) Q (notedBy (model X.prog X.w) X.A env E) s ->
     wpAny (model X.prog X.w) (X.A.under (.compLoop e depth (.ref it) (.ref D) env)) ((model X.prog X.w).den (.compLoop e depth (.ref it) (.ref D) env)) Q E s
 hst:∀ (it D:abm) (env:Env) (R:arb->aat->Prop) (s:aat),codeAny (model X.prog X.w) X.A (.compLoop e depth (.ref it) (.ref D) env) R s ->
     (∀ Q E,Q (.ref it) s->wpAny (model X.prog X.w) X.A (pyIter (.ref it)) Q E s)->codeAny (model X.prog X.w) X.A (.compStart e depth (.ref it) (.ref D) env) R s
theorem ux {pins:List (abm × Obj)} {σ:St} {H:Hp} {s:aat} {o0:abm->HO} {Q:VK} {use:Option (aau->Sem Unit)} {Q':aau->aat->Prop} (hcl:clausesOf e=⟨tg,iter,ifs,0⟩ :: gs) (C0:uw X e 0 p tg ifs tail)
   (hnew:∀ (pins:List (abm × Obj)) (σ:St) (H:Hp) (s:aat) (Q:aau->aat->Prop) (E:aau->aat->Prop),Inv X pins σ H s->(Inv X pins σ (upd H s.heap.objs.size (o0 s.heap.objs.size)) { s with heap:=s.heap.push ob }->Q (.ref s.heap.objs.size) { s with heap:=s.heap.push ob })->wpAny (model X.prog X.w) X.A newAcc Q E s)
   (hc:X.calm=true) (hX:X.env.scope=eY) (S:pW eY scope X.N own cap ix) (hi:PI X tg iter wi)
   (hg:∀ b,PG (blk X scope (own++cap) b) tg (g b)) (ht:∀ b,Dn (blk X scope (own++cap) b) ifs (tt b)) (ha:∀ b D,Du (blk X scope (own++cap) b) (tail D (blk X scope (own++cap) b).env) (act b D))
   (hs:∀ x,foldedSetIterable iter X.env x=pure x) (I:Inv X pins σ H s) (h:Qn own ix o0 wi g tt act σ H Q)
   (out:∀ (D C:abm) (H':Hp) (s':aat),Q (.ref D) H'->(∃ m,s'.heap.Ns C m)->jq X pins H' C->(∀ h',afh C s'.heap h'->Inv X pins σ H' { s' with heap:=h' }) ->
     compPost (model X.prog X.w) X.A X.xe use Q' (.ref D) C (.ok .next) s') :
   wpAny (model X.prog X.w) X.A (comprehension e scope X.env pos newAcc false (eval iter X.env) use) Q' X.xe s:=by
 have hclos:=pH (scope:=scope) (env:=X.env) fun y hy hk=>by
   have hf:=S.free y hy hk
   rw [<- hX] at hf
   exact I.ok.has y.1 hf
 refine aot (use:=use) hcl hs hclos S.kind (fun y hy hk=>by rw [S.nm y hy,hk]) (dw (hi pins s σ H _ I h) fun v s1 h1=>dw h1 fun itv s2 h2=>?_)
 obtain ⟨it,fp,tn,J,H2,e1,I2,T,st2,f2,hR⟩:=h2
 subst e1
 refine hnew _ _ _ _ _ _ I2 fun I3=>?_
 obtain ⟨W,⟨m0,w0⟩,hW⟩:=hR s2.heap.objs.size I2.fresh
 have Va:∀ b∈fp,b<s2.heap.objs.size:=fun b hb=>let ⟨_,e,_⟩:=T.obj _ _ st2 b hb; abf e
 have f3:∀ b∈fp,jq X pins (upd H2 s2.heap.objs.size (o0 s2.heap.objs.size)) b:=fun b hb=>⟨by rw [aF (acu (Va b hb))]; exact (f2 b hb).1,(f2 b hb).2⟩
 have st3:tn 0 (s2.heap.push ob):=T.keep _ _ _ st2 fun b hb o e=>aap _ e
 generalize hs3:({ s2 with heap:=s2.heap.push ob }:aat)=s3 at I3
 have Qe:tn 0 s3.heap:=by rw [<- hs3]; exact st3
 have ob3:∀ b∈fp,∃ o,s3.heap.get? b=some o:=fun b hb=>let ⟨o,e,_⟩:=T.obj _ _ Qe b hb; ⟨o,e⟩
 have I4:=Jq S hX I3 f3 ob3
 have ZD:tn 0 (ZC s3 scope):=T.keep _ _ _ Qe fun b _ o e=>rW s3 scope b o e
 refine vO ?_
 have f4:∀ b∈fp,jq (blk X scope (own++cap) (uW X pins s3 (upd H2 s2.heap.objs.size (o0 s2.heap.objs.size)) scope fp)) [] (upd H2 s2.heap.objs.size (o0 s2.heap.objs.size)) b:=fun b hb=>by
   refine ⟨(f3 b hb).1,(I4.ok.exf b hb).1,I4.ok.Kz b hb,.inl hb,(I4.ok.exf b hb).2,fun p hp=>?_⟩
   have hp':p∈X.pn++pins:=by
     rcases abq.mp hp with z | z
     . exact z
     . exact nomatch z
   exact (f3 b hb).2.2.2.2.2 p hp'
 have loop:=Ye (X:=blk X scope (own++cap) (uW X pins s3 (upd H2 s2.heap.objs.size (o0 s2.heap.objs.size)) scope fp)) (e:=e) (depth:=0) (acc:=.ref s2.heap.objs.size) (C0.hq _ _ _) (C0.hden _ _ _) (fun _ _ f=>f) hc T f4 I4 ZD (hg _) (ht _) (ha _ _) (hW _) w0
 have fin:codeAny (model X.prog X.w) X.A (.compLoop e 0 (.ref it) (.ref s2.heap.objs.size) (Dl scope (U9 X s3 scope) s3.heap.objs.size X.env))
     (compPost (model X.prog X.w) X.A X.xe use Q' (.ref s2.heap.objs.size) s3.heap.objs.size) { s3 with heap:=ZC s3 scope }:=agN loop fun r s' ⟨σ',H',hr,J',q⟩=>by
   subst hr
   exact out _ _ H' s' q (let ⟨m,hn,_⟩:=J'.loc; ⟨m,hn⟩) (I3.CW (aav _) J'.free) fun h' hh=>Jr I3 f3 J' hh
 exact C0.hst _ _ _ _ _ fin fun Q E q=>T.self _ 0 _ _ _ ZD q
theorem mK {pins:List (abm × Obj)} {σ:St} {H:Hp} {s:aat} {Q:VK} {use:Option (aau->Sem Unit)} {Q':aau->aat->Prop} (hcl:clausesOf e=⟨tg,iter,ifs,0⟩ :: gs) (C0:uw X e 0 p tg ifs tail)
   (hnew:∀ (pins:List (abm × Obj)) (σ:St) (H:Hp) (s:aat) (Q:aau->aat->Prop) (E:aau->aat->Prop),Inv X pins σ H s->(Inv X pins σ (upd H s.heap.objs.size o0) { s with heap:=s.heap.push ob }->Q (.ref s.heap.objs.size) { s with heap:=s.heap.push ob })->wpAny (model X.prog X.w) X.A newAcc Q E s)
   (hc:X.calm=true) (hX:X.env.scope=eY) (S:pW eY scope X.N own cap ix) (hi:PI X tg iter wi)
   (hg:∀ b,PG (blk X scope (own++cap) b) tg (g b)) (ht:∀ b,Dn (blk X scope (own++cap) b) ifs (tt b)) (ha:∀ b D,Du (blk X scope (own++cap) b) (tail D (blk X scope (own++cap) b).env) (act b D))
   (hs:∀ x,foldedSetIterable iter X.env x=pure x) (I:Inv X pins σ H s) (h:Bg own ix o0 wi g tt act σ H Q)
   (out:∀ (D C:abm) (H':Hp) (s':aat),Q (.ref D) H'->(∃ m,s'.heap.Ns C m)->jq X pins H' C->(∀ h',afh C s'.heap h'->Inv X pins σ H' { s' with heap:=h' }) ->
     compPost (model X.prog X.w) X.A X.xe use Q' (.ref D) C (.ok .next) s') :
   wpAny (model X.prog X.w) X.A (comprehension e scope X.env pos newAcc false (eval iter X.env) use) Q' X.xe s :=
 ux (o0:=fun _=>o0) hcl C0 hnew hc hX S hi hg ht ha hs I h out
end
section
variable {X:Cx} {elt kx vx tg iter rZ iter1:Expr} {ifs jd:List Expr} {scope:Scope} {pos:Pos}
def acq (elt:Expr) (D:abm) (env:Env):Sem Unit:=do let _ <- call (.builtin "list.append") [.ref D,<- eval elt env]
def tailD (kx vx:Expr) (D:abm) (env:Env):Sem Unit:=do
   let kv <- eval kx env
   let vv <- holding [kv] (eval vx env)
   standAt { kx.pos with endLine:=vx.pos.endLine,endCol:=vx.pos.endCol }
   holding [kv,vv] (dictSet D kv vv)
def zf (e iter:Expr) (D:abm) (env:Env):Sem Unit:=do
     let x <- eval iter env
     standAt iter.pos
     let x <- foldedSetIterable iter env x
     let _ <- runOwn (.compStart e 1 (<- holding [x] (pyIter x)) (.ref D) env) env
theorem ZS (it:aau) (D:abm) (env:Env):compTurn (.ListComp elt [⟨tg,iter,ifs,0⟩,⟨rZ,iter1,jd,0⟩] scope pos) 0 it (.ref D) env=ur iter.pos tg ifs env it (zf (.ListComp elt [⟨tg,iter,ifs,0⟩,⟨rZ,iter1,jd,0⟩] scope pos) iter1 D env) (.compLoop (.ListComp elt [⟨tg,iter,ifs,0⟩,⟨rZ,iter1,jd,0⟩] scope pos) 0 it (.ref D) env):=by
 unfold compTurn ur zf
 simp only [amB,aoL,bne_self_eq_false,ae6,if_false,aru,pure_bind]
 rfl
theorem ZV (it:aau) (D:abm) (env:Env):compTurn (.DictComp kx vx [⟨tg,iter,ifs,0⟩,⟨rZ,iter1,jd,0⟩] scope pos) 0 it (.ref D) env=ur iter.pos tg ifs env it (zf (.DictComp kx vx [⟨tg,iter,ifs,0⟩,⟨rZ,iter1,jd,0⟩] scope pos) iter1 D env) (.compLoop (.DictComp kx vx [⟨tg,iter,ifs,0⟩,⟨rZ,iter1,jd,0⟩] scope pos) 0 it (.ref D) env):=by
 unfold compTurn ur zf
 simp only [amB,aoL,bne_self_eq_false,ae6,if_false,aru,pure_bind]
 rfl
theorem su {e:Expr} {d:Nat} {gl:Comprehension} {it acc:aau} {env:Env} {R:arb->aat->Prop} {s:aat} (hf:(Code.compStart e d it acc env).isFrame=false) (hg:(clausesOf e)[d]?=some gl) (ha:gl.is_async=0) (hu:∀ A:aeN,A.under (.compStart e d it acc env)=A) (hq:(aoK e d it acc env).quiet=true)
   (hd:(model X.prog X.w).den (.compStart e d it acc env)=(compStart e d it acc env).onRaise (fun x=>do noteFrame x env; standAt theWindowsPlace))
   (h0:codeAny (model X.prog X.w) X.A (.compLoop e d it acc env) R s) (h:∀ Q E,Q it s->wpAny (model X.prog X.w) X.A (pyIter it) Q E s):codeAny (model X.prog X.w) X.A (.compStart e d it acc env) R s:=by
 refine amC ?_
 rw [hu,hd]
 refine wpAny_notedAt ?_
 unfold compStart
 rw [hg]
 simp only [Option.elim_some,ha]
 refine Fi (ang (wpAny_ite ?_))
 split
 . exact aar (And.intro hq h0)
 . refine Fi (aiY (Fi (agh (Fi (h _ _ ?_)))))
   exact aar (And.intro hq h0)
theorem ZW:uw X (.ListComp elt [⟨tg,iter,ifs,0⟩,⟨rZ,iter1,jd,0⟩] scope pos) 0 iter.pos tg ifs (zf (.ListComp elt [⟨tg,iter,ifs,0⟩,⟨rZ,iter1,jd,0⟩] scope pos) iter1) where
 hq:=fun _ _ _=>rfl
 hden:=fun it D env Q E s h=>by
   show wpAny _ X.A ((compTurn (.ListComp elt [⟨tg,iter,ifs,0⟩,⟨rZ,iter1,jd,0⟩] scope pos) 0 (.ref it) (.ref D) env).onRaise (fun x=>do noteFrame x env; theTreesLotGoes x)) _ _ s
   exact amT (by rw [ZS]; exact h)
 hst:=fun it D env R s h0 h=>su rfl rfl rfl (fun _=>rfl) rfl rfl h0 h
theorem Bh:uw X (.ListComp elt [⟨tg,iter,ifs,0⟩,⟨rZ,iter1,jd,0⟩] scope pos) 1 iter1.pos rZ jd (acq elt) where
 hq:=fun _ _ _=>rfl
 hden:=fun it D env Q E s h=>by
   show wpAny _ X.A ((compTurn (.ListComp elt [⟨tg,iter,ifs,0⟩,⟨rZ,iter1,jd,0⟩] scope pos) 1 (.ref it) (.ref D) env).onRaise (fun x=>do noteFrame x env; theTreesLotGoes x)) _ _ s
   exact amT h
 hst:=fun it D env R s h0 h=>su rfl rfl rfl (fun _=>rfl) rfl rfl h0 h
theorem ZX:uw X (.DictComp kx vx [⟨tg,iter,ifs,0⟩,⟨rZ,iter1,jd,0⟩] scope pos) 0 iter.pos tg ifs (zf (.DictComp kx vx [⟨tg,iter,ifs,0⟩,⟨rZ,iter1,jd,0⟩] scope pos) iter1) where
 hq:=fun _ _ _=>rfl
 hden:=fun it D env Q E s h=>by
   show wpAny _ X.A ((compTurn (.DictComp kx vx [⟨tg,iter,ifs,0⟩,⟨rZ,iter1,jd,0⟩] scope pos) 0 (.ref it) (.ref D) env).onRaise (fun x=>do noteFrame x env; theTreesLotGoes x)) _ _ s
   exact amT (by rw [ZV]; exact h)
 hst:=fun it D env R s h0 h=>su rfl rfl rfl (fun _=>rfl) rfl rfl h0 h
theorem Bj:uw X (.DictComp kx vx [⟨tg,iter,ifs,0⟩,⟨rZ,iter1,jd,0⟩] scope pos) 1 iter1.pos rZ jd (tailD kx vx) where
 hq:=fun _ _ _=>rfl
 hden:=fun it D env Q E s h=>by
   show wpAny _ X.A ((compTurn (.DictComp kx vx [⟨tg,iter,ifs,0⟩,⟨rZ,iter1,jd,0⟩] scope pos) 1 (.ref it) (.ref D) env).onRaise (fun x=>do noteFrame x env; theTreesLotGoes x)) _ _ s
   exact amT h
 hst:=fun it D env R s h0 h=>su rfl rfl rfl (fun _=>rfl) rfl rfl h0 h
theorem Qo {pins:List (abm × Obj)} {σ:St} {H:Hp} {s:aat} {Q:aau->aat->Prop} {E:aau->aat->Prop} (I:Inv X pins σ H s)
   (h:Inv X pins σ (upd H s.heap.objs.size (.lst [])) { s with heap:=s.heap.push { cls:=.type "list",data:=.seq ([]:List aau).toArray } }->Q (.ref s.heap.objs.size) { s with heap:=s.heap.push { cls:=.type "list",data:=.seq ([]:List aau).toArray } }):wpAny (model X.prog X.w) X.A (newList []) Q E s :=
 adC (h (I.Vq (t':=s.toks) (its:=[]) .nil (abV _)))
theorem Dv {pins:List (abm × Obj)} {σ:St} {H:Hp} {s:aat} {Q:aau->aat->Prop} {E:aau->aat->Prop} (I:Inv X pins σ H s)
   (h:Inv X pins σ (upd H s.heap.objs.size (.dK [])) { s with heap:=s.heap.push { cls:=.type "dict",data:=.dict #[] } }->Q (.ref s.heap.objs.size) { s with heap:=s.heap.push { cls:=.type "dict",data:=.dict #[] } }):wpAny (model X.prog X.w) X.A newDict Q E s :=
 adC (h (I.laid (a:=s.heap.objs.size) (o:=.dK []) (t':=s.toks) (fun _ _ q=>aap _ q) (aav _) (Dj s.heap I.big)))
end
section
variable {X:Cx} {elt kx vx tg iter rZ iter1:Expr} {ifs jd:List Expr} {scope eY:Scope} {pos:Pos} {own cap:List Str} {ix:List Nat} {wi:TI} {g g1:BI->TG} {tt Yh:BI->TT} {te tk tv:BI->TE} {Yi:BI->TI}
abbrev Z0 (own:List Str) (ix:List Nat) (wi:TI) (g:BI->TG) (tt:BI->TT) (Yi:BI->TI) (g1:BI->TG) (Yh:BI->TT) (te:BI->TE):TE:=Bg own ix (.lst []) wi g tt fun b D=>aIn (Yi b) (g1 b) (Yh b) (Yg D (te b))
abbrev Vz (own:List Str) (ix:List Nat) (wi:TI) (g:BI->TG) (tt:BI->TT) (Yi:BI->TI) (g1:BI->TG) (Yh:BI->TT) (tk tv:BI->TE):TE:=Bg own ix (.dK []) wi g tt fun b D=>aIn (Yi b) (g1 b) (Yh b) (Gz D (tk b) (tv b))
theorem Dw (hc:X.calm=true) (hX:X.env.scope=eY) (S:pW eY scope X.N own cap ix) (hi:PI X tg iter wi) (hg:∀ b,PG (blk X scope (own++cap) b) tg (g b)) (ht:∀ b,Dn (blk X scope (own++cap) b) ifs (tt b))
   (hi1:∀ b,PI (blk X scope (own++cap) b) rZ iter1 (Yi b)) (hg1:∀ b,PG (blk X scope (own++cap) b) rZ (g1 b)) (ht1:∀ b,Dn (blk X scope (own++cap) b) jd (Yh b))
   (he:∀ b,PE (blk X scope (own++cap) b) elt (te b)) (hs:∀ x,foldedSetIterable iter X.env x=pure x:=by intro _; rfl) (hs1:∀ env x,foldedSetIterable iter1 env x=pure x:=by intro _ _; rfl) :
   PE X (.ListComp elt [⟨tg,iter,ifs,0⟩,⟨rZ,iter1,jd,0⟩] scope pos) (Z0 own ix wi g tt Yi g1 Yh te):=by
 intro pins s σ H Q I h
 rw [eval_ListComp]
 refine mK (use:=none) rfl ZW (fun _ _ _ _ _ _=>Qo) hc hX S hi hg ht (fun b D=>Jv (acc:=.ref D) (fun it=>(Bh (X:=blk X scope (own++cap) b)).hq it D _) (fun it=>(Bh (X:=blk X scope (own++cap) b)).hden it D _) (fun it=>(Bh (X:=blk X scope (own++cap) b)).hst it D _) (fun _ _ f=>f) hc (hi1 b) (hg1 b) (ht1 b) (Qm (fun _ _ f=>f) (he b)) (hs1 _)) hs I h fun D C H' s' q hn _ hI=>?_
 obtain ⟨m,hn⟩:=hn
 exact ⟨m,hn,fun h' hh=>⟨.ref D,H',hI h' hh,rfl,q⟩⟩
theorem Dy {i:Nat} {x:Str} {pos' spos:Pos} (hN:X.N.Nodup) (hx1:X.N[i]?=some x) (hx:X.env.scope.names.lookup x=some .local) (hc:X.calm=true) (hX:X.env.scope=eY) (S:pW eY scope X.N own cap ix) (hi:PI X tg iter wi)
   (hg:∀ b,PG (blk X scope (own++cap) b) tg (g b)) (ht:∀ b,Dn (blk X scope (own++cap) b) ifs (tt b))
   (hi1:∀ b,PI (blk X scope (own++cap) b) rZ iter1 (Yi b)) (hg1:∀ b,PG (blk X scope (own++cap) b) rZ (g1 b)) (ht1:∀ b,Dn (blk X scope (own++cap) b) jd (Yh b))
   (hk:∀ b,PE (blk X scope (own++cap) b) kx (tk b)) (hv:∀ b,PE (blk X scope (own++cap) b) vx (tv b)) (hs:∀ x,foldedSetIterable iter X.env x=pure x:=by intro _; rfl) (hs1:∀ env x,foldedSetIterable iter1 env x=pure x:=by intro _ _; rfl)
   (hsw:swapsWith (.DictComp kx vx [⟨tg,iter,ifs,0⟩,⟨rZ,iter1,jd,0⟩] scope pos) (some (.Name x pos')) spos.line X.env=pure true:=by rfl) :
   PS X (.Assign [.Name x pos'] (.DictComp kx vx [⟨tg,iter,ifs,0⟩,⟨rZ,iter1,jd,0⟩] scope pos) spos) (Pk (Vz own ix wi g tt Yi g1 Yh tk tv) (CV i)):=by
 intro pins s σ H D I h
 rw [apx _ _ _ _ hsw]
 refine Fi (agh (Fi ?_))
 show wpAny _ X.A (do let _ <- comprehension (.DictComp kx vx [⟨tg,iter,ifs,0⟩,⟨rZ,iter1,jd,0⟩] scope pos) scope X.env _ newDict false (eval iter X.env) (some (assign (.Name x pos') X.env))) _ _ s
 refine Fi (ae5 (mK (use:=some (assign (.Name x pos') X.env)) (Q:=fun v H1=>CV i v σ H1 D.nx) (Q':=fun _ s'=>SP X pins D .next s') rfl ZX (fun _ _ _ _ _ _=>Dv) hc hX S hi hg ht
   (fun b D=>Jv (acc:=.ref D) (fun it=>(Bj (X:=blk X scope (own++cap) b)).hq it D _) (fun it=>(Bj (X:=blk X scope (own++cap) b)).hden it D _) (fun it=>(Bj (X:=blk X scope (own++cap) b)).hst it D _) (fun _ _ f=>f) hc (hi1 b) (hg1 b) (ht1 b) (yZ (fun _ _ f=>f) (hk b) (hv b)) (hs1 _)) hs I h fun D1 C H' s' q hn fC hI=>?_) (fun _ s' hq=>aar (aar hq)) fun _ _ e=>e)
 obtain ⟨m,hn⟩:=hn
 have I0:Inv X pins σ H' s':=by
   have z:=hI s'.heap (aqQ ..)
   exact z
 show wpAny _ X.A (assign (.Name x pos') X.env (.ref D1)) _ _ _
 refine aom (rQ I0 hN hx1 (.inl hx) (show RelV (.ref D1) (.ref D1) from rfl) (fun s2 I2 ⟨a,sb,ha⟩=>?_) (.inr hx))
 have na:C≠a:=by
   rcases ha with e | e
   . rw [e]; exact fC.2.1
   . intro z; exact fC.2.2.2.2.1 x a e z.symm
 refine ⟨m,hn.sameBut sb na,fun h' hh=>?_⟩
 refine ⟨_,H',?_,q⟩
 exact I2.turned (it:=C) (t':=s2.toks) (fun b o hb e=>(hh.2 b hb).trans e) fC.1 fC.2.1 fC.2.2.2.1 fC.2.2.2.2.1 fC.2.2.2.2.2
end
end L2
namespace L2
open PySem PySem.Spec PyProof.Rows
section
variable {X:Cx} {pins:List (abm × Obj)} {σ:St} {H:Hp} {s:aat} {h':ae9}
theorem Inv.uX {t':Nat} {its:List abm} (I:Inv X pins σ H s) (k:∀ b o,b ∉ its->s.heap.get? b=some o->h'.get? b=some o) (hf:∀ b∈its,jq X pins H b):Inv X pins σ H { s with heap:=h',toks:=t' }:=by
 have nit:∀ b u,H b=some u->b ∉ its:=fun b u e z=>by rw [(hf b z).1] at e; cases e
 refine I.step (g':=s.gens) (d':=s.drawn) (ch:=its) (fun b hb=>⟨(hf b hb).2.2.2.1,(hf b hb).2.1,(hf b hb).2.2.2.2.1,(hf b hb).2.2.2.2.2⟩) (fun b o _ _ hc e _=>k b o hc e) (fun b o _ _ hc e _=>⟨o.slots,k b o hc e⟩) (fun _ _ _ _ n=>n)
   (fun b o hc e=>⟨o,k b o hc e⟩) (fun _ _ e=>e) (fun _ _ _ e=>e) (fun b ps e=>⟨#[],by rw [e]; simp⟩) (fun m hm=>?_) (fun b u e=>?_) I.bare
 . obtain ⟨o,es,ep,ho,r⟩:=hm
   exact ⟨o,es,ep,k _ o (fun z=>(hf _ z).2.1 rfl) ho,r⟩
 . refine (I.hok b u e).stay (fun c v hc q=>k c v ?_ q) (fun _ q=>q) fun _ _ q=>q
   rcases hc with z | z
   . rw [z]; exact nit b u e
   . exact nit c _ z
end
def Itz (K:aas) (a b:abm) (xs ys:List V):It :=
 ⟨fun i H=>bY K H a xs/\bY K H b ys/\i<xs.length/\i<ys.length,fun i H v H'=>∃ T x y,H T=none/\v=.ref T/\xs[i]?=some x/\ys[i]?=some y/\H'=upd H T (.tup [x,y]),fun i H=>bY K H a xs/\bY K H b ys/\(xs.length<=i∨ys.length<=i)⟩
def acr (z TI TO i1 i2 a b:abm) (i:Nat) (h:ae9):Prop:=aq7 h z TI TO .none/\am7 h TI (.ref i1) (.ref i2)/\(∃ p q,am7 h TO p q)/\h.IsListIter i1 a i/\h.IsListIter i2 b i
theorem Qp {P:acs} {w:adH} {K:aas} {elts:List Expr} {k:Nat} {pos:Pos} (z TI TO i1 i2 a b:abm) (D:arv z TI TO i1 i2 a b) (xs ys:List V) :
   Turn P w K (.Tuple elts k pos) (Itz K a b xs ys) [z,TI,TO,i1,i2] z (acr z TI TO i1 i2 a b) where
 mem:=by simp
 obj:=fun i h st c hc=>by
   obtain ⟨hz,hTI,⟨p,q,hTO⟩,⟨o1,e1,c1,d1⟩,⟨o2,e2,c2,d2⟩⟩:=st
   simp only [abz,afd,or_false] at hc
   rcases hc with rfl | rfl | rfl | rfl | rfl
   . exact ⟨_,hz,fun v z=>by cases (show ara _=aon v from z)⟩
   . exact ⟨_,hTI,fun v z=>by cases (show aq8 _ _=aon v from z)⟩
   . exact ⟨_,hTO,fun v z=>by cases (show aq8 _ _=aon v from z)⟩
   . exact ⟨o1,e1,fun v z=>by rw [d1] at z; cases z⟩
   . exact ⟨o2,e2,fun v z=>by rw [d2] at z; cases z⟩
 keep:=fun i h h' st k=>by
   obtain ⟨hz,hTI,⟨p,q,hTO⟩,h1,h2⟩:=st
   exact ⟨k z (by simp) _ hz,k TI (by simp) _ hTI,⟨p,q,k TO (by simp) _ hTO⟩,h1.at fun o e=>k i1 (by simp) o e,h2.at fun o e=>k i2 (by simp) o e⟩
 item:=by
   intro X hP hw hK hc i pins s σ H E I hf st hg
   subst hP hw hK
   obtain ⟨hq1,hq2,l1,l2⟩:=hg
   obtain ⟨hz,hTI,⟨p,q,hTO⟩,h1,h2⟩:=st
   obtain ⟨Qq,VB,Lj,_⟩:=I.list hq1
   obtain ⟨its2,VD,Lk,_⟩:=I.list hq2
   have x1:xs[i]?=some xs[i]:=aaq l1
   have y1:ys[i]?=some ys[i]:=aaq l2
   obtain ⟨u,hu,ru⟩:=VB.get x1
   obtain ⟨u2,hu2,ru2⟩:=VD.get y1
   refine wpAny_pyNext_zip_item D hz hTI hTO h1 h2 Lj.isList Lk.isList (x:=u) (y:=u2) (by simpa using hu) (by simpa using hu2) fun h' a1 a2 a3 a4 a5 a6 a7=>?_
   refine ⟨_,rfl,aoc a1 fun h2' b1 b2=>?_⟩
   have kk:∀ c o,c ∉ [z,TI,TO,i1,i2]->s.heap.get? c=some o->h2'.get? c=some o:=fun c o hc e=>by
     simp only [abz,afd,or_false,not_or] at hc
     exact (b2.2 c hc.1).trans (a7 c o hc.1 hc.2.2.1 hc.2.2.2.1 hc.2.2.2.2 e)
   have ltz:z<s.heap.objs.size:=abf hz
   have nz:s.heap.objs.size≠z:=aho ltz
   have eT:h2'.get? s.heap.objs.size=some { cls:=.type "tuple",data:=.seq #[u,u2] }:=(b2.2 _ nz).trans a5
   have fresh:H s.heap.objs.size=none:=I.hok.fresh (aav _)
   have Va:∀ c∈[z,TI,TO,i1,i2],c<s.heap.objs.size:=fun c hc=>by
     simp only [abz,afd,or_false] at hc
     obtain ⟨o1,e1,_⟩:=h1
     obtain ⟨o2,e2,_⟩:=h2
     rcases hc with rfl | rfl | rfl | rfl | rfl
     . exact ltz
     . exact abf hTI
     . exact abf hTO
     . exact abf e1
     . exact abf e2
   have I1:Inv X pins σ (upd H s.heap.objs.size (.tup [xs[i],ys[i]])) { s with heap:=s.heap.push { cls:=.type "tuple",data:=.seq #[u,u2] } } :=
     I.laid (t':=s.toks) (fun _ _ e=>aap _ e) (aav _) ⟨by show 2<=sizeLine; rw [acO]; decide,[u,u2],.cons ru (.cons ru2 .nil),jK.new _ _⟩
   have hf1:∀ c∈[z,TI,TO,i1,i2],jq X pins (upd H s.heap.objs.size (.tup [xs[i],ys[i]])) c:=fun c hc=>⟨by rw [aF (acu (Va c hc))]; exact (hf c hc).1,(hf c hc).2⟩
   have I2:Inv X pins σ (upd H s.heap.objs.size (.tup [xs[i],ys[i]])) { s with heap:=h2' }:=I1.uX (t':=s.toks) (fun c o hc e=>by
     by_cases ec:c=s.heap.objs.size
     . subst ec
       have e':(s.heap.push { cls:=.type "tuple",data:=.seq #[u,u2] }).get? s.heap.objs.size=some o:=e
       rw [aa8 _ rfl] at e'
       cases e'
       exact eT
     . have e':(s.heap.push { cls:=.type "tuple",data:=.seq #[u,u2] }).get? c=some o:=e
       rw [aqR _ _ _ ec] at e'
       exact kk c o hc e') hf1
   refine ⟨.ref s.heap.objs.size,_,I2,rfl,⟨_,_,_,fresh,rfl,x1,y1,rfl⟩,⟨b1,?_,⟨u,u2,?_⟩,?_,?_⟩,fun c hc=>(hf1 c hc).1⟩
   . exact (b2.2 _ D.TIz).trans (a7 TI _ D.TIz D.TITO D.TIi1 D.TIi2 hTI)
   . exact (b2.2 _ D.TOz).trans a2
   . exact a3.at fun o e=>(b2.2 _ D.i1z).trans e
   . exact a4.at fun o e=>(b2.2 _ D.i2z).trans e
 done:=by
   intro X hP hw hK hc i pins s σ H E I hf st hg
   subst hP hw hK
   obtain ⟨hq1,hq2,hl⟩:=hg
   obtain ⟨hz,hTI,⟨p,q,hTO⟩,h1,h2⟩:=st
   obtain ⟨Qq,VB,Lj,_⟩:=I.list hq1
   obtain ⟨its2,VD,Lk,_⟩:=I.list hq2
   have e1:=VB.length
   have e2:=VD.length
   refine wpAny_pyNext_zip_end (I.ok.hd hc) D hz hTI hTO h1 h2 Lj.isList Lk.isList (by rcases hl with hl | hl <;> first | (left; simp; omega) | (right; simp; omega)) fun h' kk=>⟨rfl,I.uX (t':=s.toks) (fun c o hc e=>?_) hf⟩
   simp only [abz,afd,or_false,not_or] at hc
   exact kk c o hc.1 hc.2.2.1 hc.2.2.2.1 hc.2.2.2.2 e
 self:=fun _ _ _ _ _ st h=>anh st.1 h
def agx (K:aas) (ta:TA):TI:=fun σ H R=>ta σ H fun vs H1=>∃ a b xs ys,vs=[.ref a,.ref b]/\bY K H1 a xs/\bY K H1 b ys/\R (Itz K a b xs ys) H1
theorem Z1 {X:Cx} {a b:Expr} {ta:TA} {p pos:Pos} {elts:List Expr} {k:Nat} {tp:Pos} (hg:Gl X "zip") (hm:X.mg "zip" = none) (ha:PA X [a,b] ta) (hs:starEach [a,b] X.env=[(false,eval a X.env),(false,eval b X.env)]:=by rfl) (hs2:starEach [b] X.env=[(false,eval b X.env)]:=by rfl) :
   PI X (.Tuple elts k tp) (.Call (.Name "zip" p) [a,b] [] pos) (agx X.K ta):=by
 intro pins s σ H R I h
 refine Call_ (rR I hg hm (show bootBuiltins "zip" = some (.type "zip") by decide +kernel) (agV (dw (ha pos pins s σ H _ I h) fun us s1 ⟨vs,H1,I1,r1,q1⟩=>?_) (by rw [hs,hs2]) (by rw [hs2]; rfl)))
 obtain ⟨l1,l2,xs,ys,e,hq1,hq2,q⟩:=q1
 subst e
 obtain ⟨u,u',rfl,r,r'⟩:=vals2 r1
 cases (show u=abk l1 from r)
 cases (show u'=abk l2 from r')
 obtain ⟨Qq,VB,Lj,_⟩:=I1.list hq1
 obtain ⟨its2,VD,Lk,_⟩:=I1.list hq2
 have a1:l1<s1.heap.objs.size:=by obtain ⟨_,e,_⟩:=Lj.isList; exact abf e
 have a2:l2<s1.heap.objs.size:=by obtain ⟨_,e,_⟩:=Lk.isList; exact abf e
 refine call_zip_2 Lj.isList Lk.isList fun h' hz hTI hTO hi1 hi2 _ hk=>anh hz ?_
 refine ⟨_,_,_,_,H1,rfl,I1.kept (t':=s1.toks) hk,Qp _ _ _ _ _ l1 l2 (zipApart_new a1 a2) xs ys,⟨hz,hTI,⟨_,_,hTO⟩,hi1,hi2⟩,fun c hc=>?_,q⟩
 have le:s1.heap.objs.size<=c:=by
   simp only [abz,afd,or_false] at hc
   rcases hc with rfl | rfl | rfl | rfl | rfl
   . exact afO _ 4
   . exact afO _ 2
   . exact afO _ 3
   . exact aav _
   . exact afO _ 1
 exact I1.CW le (I1.hok.fresh le)
end L2
namespace L2
open PySem PySem.Spec PyProof.Rows
def uY (ks:List Key) (k:Key):Bool:=ks.any fun x=>decide (x=k)
theorem Jw {ks:List Key} {k:Key}:uY ks k=true↔k∈ks:=by
 unfold uY
 rw [anf]
 constructor
 . rintro ⟨x,h,e⟩
   rw [<- of_decide_eq_true e]; exact h
 . exact fun h=>⟨k,h,decide_eq_true rfl⟩
theorem Qs (ks:List Key) (k k':Key):uY (ks++[k]) k'=(uY ks k' || decide (k'=k)):=by
 unfold uY
 rw [List.any_append,anm,List.any_nil,aoI]
 congr 1
 rw [aeU,decide_eq_true_iff,decide_eq_true_iff]
 exact ⟨arA,arA⟩
def dB (ks:List Key):Nat->List Key
 | 0=>[]
 | i+1=>match ks[i]? with
   | some k=>if uY (dB ks i) k=true then dB ks i else dB ks i++[k]
   | none=>dB ks i
theorem n6 {ks:List Key} {i:Nat} {k:Key} (h:ks[i]?=some k):dB ks (i+1)=if uY (dB ks i) k=true then dB ks i else dB ks i++[k]:=by
 show (match ks[i]? with | some k=>_ | none=>_)=_
 rw [h]
theorem uZ (ks:List Key):∀ i,(dB ks i).length<=i
 | 0=>aav _
 | i+1=>by
   have:=uZ ks i
   unfold dB
   split
   . split
     . omega
     . rw [abe]; simp; omega
   . omega
theorem vU {ks:List Key} (h:ks.Nodup):∀ i,i<=ks.length->dB ks i=ks.take i
 | 0,_=>rfl
 | i+1,hi=>by
   have hi':i<ks.length:=hi
   have ek:ks[i]?=some ks[i]:=aaq hi'
   have e:=vU h i (afN hi')
   rw [n6 ek,e,if_neg,abj,ek]
   . rfl
   . intro z
     have z':=Jw.mp z
     obtain ⟨j,hj,ej⟩:=agB.mp z'
     rw [abo] at hj
     rw [ai4] at ej
     have:=(aip (i:=j) (j:=i) (h₀:=by omega) (h₁:=hi') h).mp ej
     omega
abbrev jj (led:Bool):Obj:={ cls:=.type "set",dict:=none,data:=.set #[] 0 (.fresh 0 0 led) }
section
variable {prog:acs} {w:adH} {A:aeN} {E:aau->aat->Prop} {s:aat}
theorem setLoop {R:arb->aat->Prop} {I:abm} {fp wr:List abm} {G:Array aqs->Array aqs->Prop} {P:Nat->aau->Prop} {St:Nat->aat->Prop} {ks:List Key} (W:WalksS prog w A.in1 I fp wr G ks.length P St) (Z:abm) (nZ:Z ∉ fp)
   (Z2:∀ i v,P i v->∃ k,ks[i]?=some k/\(aU prog w).is k v=true/\v.scannable=true) (few:ks.length+1<scanBound) :
   ∀ (j i:Nat) (s:aat),ks.length-i=j->i<=ks.length->St i s->s.heap.SetOf (aU prog w) Z (uY (dB ks i)) (dB ks i).length ->
     (∀ s',Moved (Z :: wr) G s s'->s'.heap.SetOf (aU prog w) Z (uY (dB ks ks.length)) (dB ks ks.length).length->R (.ok (.ret .none)) s') ->
     codeAny (model prog w) A (.builtin "set.update.loop" ⟨[.ref Z,.ref I],[]⟩) R s:=by
 have nW:Z ∉ wr:=fun z=>nZ (W.sub _ z)
 have sub:∀ b∈wr,b∈Z :: wr:=fun b z=>aaM _ z
 intro j
 induction j with
 | zero =>
   intro i s ej ei st zS out
   have ei':i=ks.length:=by omega
   subst ei'
   refine afo afx ?_
   rw [ae3 aeP _]
   show wpAny _ A.in1 (pyNext (.ref I) >>= _) _ _ s
   refine Fi (W.done s _ _ st fun s' mv=>?_)
   show wpAny _ A.in1 (ret acR) _ _ s'
   obtain ⟨o,es,ep,t,ho,rest⟩:=zS
   exact aar (out s' (mv.mono sub) ⟨o,es,ep,t,mv.heap Z _ nW ho,rest⟩)
 | succ j ih =>
   intro i s ej ei st zS out
   have lt:i<ks.length:=by omega
   refine afo afx ?_
   rw [ae3 aeP _]
   show wpAny _ A.in1 (pyNext (.ref I) >>= _) _ _ s
   refine Fi (W.item i s _ _ lt st fun v s' pv st' mv=>?_)
   obtain ⟨k,ek,hk,sc⟩:=Z2 i v pv
   have zS':s'.heap.SetOf (aU prog w) Z (uY (dB ks i)) (dB ks i).length:=let ⟨o,es,ep,t,ho,rest⟩:=zS; ⟨o,es,ep,t,mv.heap Z _ nW ho,rest⟩
   show wpAny _ A.in1 (holding [v] (setAdd Z v) >>= _) _ _ s'
   refine Fi (adQ ?_)
   unfold setAdd
   refine adQ ?_
   refine Fi ((aU prog w).pyHash hk ?_)
   have le:=uZ ks i
   refine wpAny_setAddHashed_of (knd:=aU prog w) (s:={ s' with toks:=s'.toks+1 }) hk sc zS' (by omega) fun h2 sb zS2=>?_
   have zS3:h2.SetOf (aU prog w) Z (uY (dB ks (i+1))) (dB ks (i+1)).length:=by
     have Ln:h2.SetOf (aU prog w) Z (fun k'=>uY (dB ks i) k' || decide (k'=k)) (if uY (dB ks i) k=true then (dB ks i).length else (dB ks i).length+1):=zS2
     rw [n6 ek]
     cases q:uY (dB ks i) k with
     | true =>
       rw [q,if_pos rfl] at Ln
       rw [if_pos rfl]
       have ef:(fun k'=>uY (dB ks i) k' || decide (k'=k))=uY (dB ks i):=funext fun k'=>by
         by_cases z:k'=k
         . subst z; rw [q]; rfl
         . rw [decide_eq_false z,aoI]
       rw [ef] at Ln
       exact Ln
     | false =>
       rw [q,if_neg abn] at Ln
       rw [if_neg abn,abe]
       have ef:(fun k'=>uY (dB ks i) k' || decide (k'=k))=uY (dB ks i++[k]):=funext fun k'=>(Qs _ _ _).symm
       rw [ef] at Ln
       exact Ln
   refine aar ⟨ahz aeP _,ih (i+1) _ (by omega) lt (W.frame _ s' _ _ st' (aqn _) fun b hb o e=>?_) zS3 fun s'' mv2 z2=>?_⟩
   . rw [sb.2 b (fun z:b=Z=>nZ (by rw [<- z]; exact hb))]; exact e
   . refine out s'' (Moved.trans W.gtrans ((mv.mono sub).then_heap (aqn _) fun b o hb e=>?_) mv2) z2
     rw [sb.2 b (fun z:b=Z=>hb (by rw [z]; exact aaU))]; exact e
theorem VF {l:abm} {items:Array aau} {ks:List Key} {Q:aau->aat->Prop} (hh:A.handled=none) (hl:s.heap.IsList l items) (hz:items.size=ks.length)
   (Z2:∀ (i:Nat) (v:aau),items[i]?=some v->∃ k,ks[i]?=some k/\(aU prog w).is k v=true/\v.scannable=true) (few:ks.length+1<scanBound)
   (h:∀ (h':ae9) (tk:Nat),h'.SetOf (aU prog w) s.heap.objs.size (uY (dB ks ks.length)) (dB ks ks.length).length->(∀ b o,s.heap.get? b=some o->h'.get? b=some o)->Q (.ref s.heap.objs.size) { s with heap:=h',toks:=tk }) :
   wpAny (model prog w) A (call (.type "set") [.ref l]) Q E s:=by
 obtain ⟨cm,tm,hmro⟩:=PySem.F.called_set.mro
 have made:=PySem.F.called_set.made
 have agz:=PySem.F.called_set.sub
 refine aro (amC ?_)
 show wpAny _ _ (callAny (.type "set") _) _ _ _
 refine aar ⟨aqC _ (by decide +kernel),afo aoM ?_⟩
 rw [aqD (apz "set" [.ref l] []) rfl]
 have c1:=PySem.F.called_set.notType
 have c2:=PySem.F.called_set.canCreate
 have c3:=apb (.ref l)
 repeat (any_goals (first | assumption | wp_step))
 generalize hN:s.heap.objs.size=N at h
 refine agN (code_set_new_1 (.ref l) (E:=E) (Q₁:=fun ob s1=>∃ led:Bool,ob=.ref s.heap.objs.size/\s1={ s with heap:=s.heap.push (jj led) }) fun led=>⟨led,rfl,rfl⟩) fun r s1 hr=>?_
 cases r with
 | error e=>exact hr
 | ok fl =>
   cases fl with
   | ret ob =>
     obtain ⟨led,rfl,rfl⟩:=hr
     have gS:(s.heap.push (jj led)).get? s.heap.objs.size=some (jj led):=aa8 _ rfl
     have hT:aoN { s with heap:=s.heap.push (jj led) } (.ref s.heap.objs.size) "set":=⟨_,gS,rfl⟩
     have li:=PySem.F.called_set.init.lookup
     have bi:=PySem.F.called_set.init.bind (.ref s.heap.objs.size)
     repeat (any_goals (first | assumption | wp_step))
     refine agN (ap3 (R:=wants (fun r s2=>r=.none/\∃ h' tk,s2={ s with heap:=h',toks:=tk }/\h'.SetOf (aU prog w) s.heap.objs.size (uY (dB ks ks.length)) (dB ks ks.length).length/\(∀ b o,s.heap.get? b=some o->h'.get? b=some o)) E)
       PySem.F.called_set.init.plain apc (check_set_init_1 hT ?_)) fun r2 s2 hr2=>?_
     . obtain ⟨ol,gl,cl,nl,dl⟩:=hl
       obtain ⟨oc,od,oa,os⟩:=ol
       simp only at cl dl
       subst cl dl
       have gl':(s.heap.push (jj led)).get? l=some { cls:=.type "list",dict:=od,data:=.seq items nl,slots:=os }:=aap _ gl
       have t1:=PySem.F.sub_list_set
       have t2:=PySem.F.sub_list_frozenset
       have t3:(agO "list" == agO "dict")=false:=by decide
       have lst:(s.heap.push (jj led)).IsList l items:=⟨_,gl',rfl,nl,rfl⟩
       unfold agM.«set.__init__» noKeywords ano
       generalize hPI:pyIter=PI
       wp_walk
       subst hPI
       refine amQ lst ?_
       refine (Fi (aqc ?_))
       have lS:l<s.heap.objs.size:=abf gl
       have h3:A.in1.in1.in1.handled=none:=by simp [hh]
       have sz:(s.heap.push (jj led)).objs.size=s.heap.objs.size+1:=aeV ..
       have n1:l≠(s.heap.push (jj led)).objs.size:=by rw [sz]; exact acu (afE lS)
       have n2:s.heap.objs.size ∉ [(s.heap.push (jj led)).objs.size,l]:=by
         rw [sz]
         intro z
         rcases abz.mp z with z | z
         . exact absurd z (acu (ais _))
         . exact absurd (abw.mp z) (aho lS)
       have W:=(Walks.list (prog:=prog) (w:=w) h3 _ l n1 items).toS
       rw [hz] at W
       refine setLoop W s.heap.objs.size n2 Z2 few (ks.length-0) 0 _ rfl (abV _) ⟨⟨_,aa8 _ rfl,rfl,rfl⟩,lst.push _⟩ ?_ fun s' mv z=>?_
       . have g2:((s.heap.push (jj led)).push { cls:=.type "list_iterator",data:=.fields #[.ref l,.int 0 0] }).get? s.heap.objs.size=some (jj led):=aap _ gS
         exact ⟨_,#[],0,_,g2,⟨rfl,rfl,rfl⟩,rfl,fun e he=>by simp at he,fun k=>by simp [dB,uY],by decide,rfl,rfl⟩
       . obtain ⟨h',g',d',tk',os'⟩:=s'
         obtain rfl:g'=s.gens:=mv.gens
         obtain rfl:d'=s.drawn:=mv.drawn
         obtain rfl:os'=s.os:=mv.os
         show wpAny _ _ _ _ _ _
         refine aar ?_
         show wpAny _ _ (ret acR) _ _ _
         refine aar ⟨rfl,h',tk',rfl,z,fun b o e=>?_⟩
         have lb:b<s.heap.objs.size:=abf e
         refine mv.heap b o (fun z=>?_) (aap _ (aap _ e))
         rcases abz.mp z with z | z
         . exact absurd z (acu lb)
         . exact absurd (abw.mp z) (by rw [sz]; exact acu (afE lb))
     . cases r2 with
       | error e=>exact hr2
       | ok Z4 =>
         cases Z4 with
         | ret r =>
           obtain ⟨rfl,h',tk,rfl,zS,kk⟩:=hr2
           repeat (any_goals (first | assumption | wp_step))
           subst hN
           exact h _ _ zS kk
         | _=>exact hr2.elim
   | _=>exact hr.elim
end
end L2
namespace L2
open PySem PySem.Spec PyProof.Rows
section
variable {X:Cx}
theorem zj (c:Nat):∀ (n:Nat) (a:Array Nat),(acS n (#[c]:Array Nat)).foldl (·++·) a=a++(acS n c).toArray
 | 0,a=>by simp
 | n+1,a=>by
   rw [ae1,List.foldl_cons,zj c n,ae1]
   apply Array.ext'
   simp
theorem VG:gD X (binaryOp .Mult) (fun x y H Q=>∃ (c:Nat) (n:Int),x=.str ⟨#[c]⟩/\y=.int n/\1<=n/\n<=1000/\Q (.str ⟨(acS n.toNat c).toArray⟩) H):=by
 intro pins s σ H x y v u Q I rx ry h
 obtain ⟨c,n,rfl,rfl,h1,h2,q⟩:=h
 obtain ⟨t,rfl⟩:=rx
 obtain ⟨t',rfl⟩:=ry
 have n1:¬ n<1:=by omega
 have l1:(⟨#[c]⟩:Str).length=1:=rfl
 refine PySem.P.mul_str (by rw [decide_eq_false (by omega),decide_eq_false (by omega)]; rfl) (fun _ _ z=>?_) (fun _ _=>?_) ?_
 . rw [l1] at z
   have:(1:Int)<=(2 ^ 63-1) / n:=by
     rw [Int.le_ediv_iff_mul_le (by omega)]
     omega
   have z':((1:Nat):Int) > (2 ^ 63-1) / n:=z
   omega
 . rw [l1,Nat.one_mul]
   show decide (n.toNat > sizeLine)=false
   rw [decide_eq_false_iff_not,acO]
   omega
 . rw [if_neg n1]
   by_cases e1:n=1
   . subst e1
     rw [if_pos (by simp)]
     exact ⟨.str ⟨#[c]⟩,H,I,⟨t,rfl⟩,q⟩
   . rw [if_neg (by
       intro z
       rw [apA] at z
       rcases z with z | z
       . exact e1 (beq_iff_eq.mp z)
       . rw [l1] at z; exact absurd z (by decide)),zj]
     have e2:(#[]:Array Nat)++(acS n.toNat c).toArray=(acS n.toNat c).toArray:=by simp
     rw [e2]
     refine ⟨?_,?_⟩
     . show (acS n.toNat c).toArray.size<=sizeLine
       rw [abp,ahq,acO]; omega
     . exact ⟨.str _,H,I.tok _,⟨_,rfl⟩,q⟩
end
end L2
namespace L2
open PySem PySem.Spec PyProof.Rows
section
variable {prog:acs} {w:adH} {A:aeN} {E:aau->aat->Prop} {s:aat}
theorem Qt (xs:Array aau):((acy xs.size).filterMap fun (m:Nat)=>xs[((xs.size:Int)-1+(m:Int) * (-1)).toNat]?)=xs.toList.reverse:=by
 have e:∀ m,m<xs.size->xs[((xs.size:Int)-1+(m:Int) * (-1)).toNat]?=xs.toList.reverse[m]?:=fun m hm=>by
   rw [List.getElem?_reverse (by simpa using hm),adT,abr]
   congr 1
   omega
 have e2:((acy xs.size).filterMap fun (m:Nat)=>xs[((xs.size:Int)-1+(m:Int) * (-1)).toNat]?)=(acy xs.toList.reverse.length).filterMap fun m=>xs.toList.reverse[m]?:=by
   rw [anx,abr]
   have e3:∀ l:List Nat,(∀ m∈l,m<xs.size)->(l.filterMap fun (m:Nat)=>xs[((xs.size:Int)-1+(m:Int) * (-1)).toNat]?)=l.filterMap fun m=>xs.toList.reverse[m]?:=by
     intro l
     induction l with
     | nil=>intro _; rfl
     | cons x l ih =>
       intro h
       rw [aeT,aeT,e x (h x aaU),ih fun m hm=>h m (aaM _ hm)]
   exact e3 _ fun m hm=>adA.mp hm
 rw [e2]
 generalize xs.toList.reverse=l
 induction l with
 | nil=>rfl
 | cons x l ih =>
   rw [acM,List.range_succ_eq_map,aeT]
   simp only [amB]
   rw [anU]
   congr 1
end
theorem VH:∀ {xs:List V} {us:List aau},Vals xs us->Vals xs.reverse us.reverse:=by
 intro xs us r
 induction r with
 | nil=>exact .nil
 | cons r _ ih =>
   rw [amU,amU]
   exact ih.append (.cons r .nil)
end L2
namespace L2
open PySem PySem.Spec PyProof.Rows
section
variable {X:Cx}
def Qu (P:acs) (w:adH) (p:abm) (ks:List Key):ae9->Prop:=fun h=>h.SetOf (aU P w) p (uY (dB ks ks.length)) (dB ks ks.length).length
theorem VJ:∀ {ks:List Key} {us:List aau},Vals (ks.map kV) us->∀ (i:Nat) (v:aau),us[i]?=some v->∃ k,ks[i]?=some k/\(aU X.prog X.w).is k v=true/\v.scannable=true:=by
 intro ks us r i v e
 obtain ⟨k,ek⟩:∃ k,ks[i]?=some k:=by
   have hl:=r.length
   rw [aao] at hl
   have:i<us.length:=by
     rcases afu i us.length with z | z
     . exact z
     . rw [ae8 z] at e; cases e
   exact ⟨ks[i],aaq (by omega)⟩
 obtain ⟨u,eu,ru⟩:=r.get (i:=i) (x:=kV k) (by rw [aaJ,ek]; rfl)
 rw [e] at eu
 cases eu
 refine ⟨k,ek,pF ru,?_⟩
 cases k with
 | inl j=>cases j with
   | none=>cases (show v=acR from ru); rfl
   | some j=>obtain ⟨t,rfl⟩:=(show ∃ t,v=amg j t from ru); rfl
 | inr x=>obtain ⟨t,rfl⟩:=(show ∃ t,v=anu x t from ru); rfl
theorem Qv (hc:X.calm=true):gK X (.type "set") (fun xs H Q=>∃ p ks,xs=[.ref p]/\bY X.K H p (ks.map kV)/\ks.length<4000/\∀ l,H l=none->Q (.ref l) (upd H l (.ext (Qu X.prog X.w l ks)))):=by
 intro pins s σ H xs us Q I r h
 obtain ⟨p,ks,rfl,hq,h40,q⟩:=h
 obtain ⟨u,rfl,ru⟩:=vals1 r
 cases ru
 obtain ⟨its,rv,pl,_⟩:=I.list hq
 have hlen:its.length=ks.length:=by rw [<- rv.length,aao]
 refine VF (I.ok.hd hc) pl.isList (by rw [abp]; exact hlen) (fun i v e=>VJ (X:=X) rv i v (by simpa using e)) (by unfold scanBound; omega) fun h' tk zS kk=>?_
 refine ⟨.ref s.heap.objs.size,_,I.laid (t':=tk) (o:=.ext (Qu X.prog X.w s.heap.objs.size ks)) kk (aav _) ⟨zS,?_,?_⟩,rfl,q _ (I.hok.fresh (aav _))⟩
 . obtain ⟨o,_,_,_,e,_⟩:=zS
   exact ⟨o,e⟩
 . intro h1 h2 z k
   obtain ⟨o,es,ep,t,e,rest⟩:=z
   exact ⟨o,es,ep,t,k o e,rest⟩
theorem Lp:gK X (.builtin "len") (fun xs H Q=>∃ p ks,xs=[.ref p]/\H p=some (.ext (Qu X.prog X.w p ks))/\Q (.int (dB ks ks.length).length) H):=by
 intro pins s σ H xs us Q I r h
 obtain ⟨p,ks,rfl,hp,q⟩:=h
 obtain ⟨u,rfl,ru⟩:=vals1 r
 cases ru
 obtain ⟨⟨o,es,ep,t,ho,hex,hd,hel,hmem,hb,hf,hn⟩,_⟩:=(show cu X.prog X.w H s.heap p (.ext (Qu X.prog X.w p ks)) from I.hok p _ hp)
 refine call_len_set ho hex hd hf (by unfold scanBound at hb; omega) ?_
 exact ⟨.int (dB ks ks.length).length,H,I.tok _,⟨_,by rw [hn]⟩,q⟩
theorem Lq:MtM X "dict.update" (fun x xs H Q=>∃ a b kvs more,x=.ref a/\xs=[.ref b]/\a≠b/\H a=some (.dK kvs)/\H b=some (.dK more)/\kvs.length+more.length<=sizeLine/\Q .non (upd H a (.dK (iz kvs more)))):=by
 intro pins s σ H x xs v us Q I rx rs h
 obtain ⟨a,b,kvs,more,rfl,rfl,ne,ha,hb,hz,q⟩:=h
 cases (show v=abk a from rx)
 obtain ⟨u,rfl,ru⟩:=vals1 rs
 cases ru
 obtain ⟨z1,d1,vs1,Z5,dd1⟩:=yU I.hok ha
 obtain ⟨z2,d2,vs2,Z6,dd2⟩:=yU I.hok hb
 refine apu aou dd1.typeIs PySem.F.entry_dict_update (PySem.F.args_dict_update_2 _ _) (meets_dict_update (aU X.prog X.w) a b ne d2) ⟨vs1,vs2,dd1,dd2,by rw [<- Z5.length,<- Z6.length]; exact hz,fun h' m1 m2 sb=>?_⟩
 have he:∃ q,h'.get? a=some q:=let ⟨q,_,_,hq,_⟩:=m1; ⟨q,hq⟩
 have hl:(iz kvs more).length<=sizeLine:=by
   refine adS ?_ hz
   clear hz q Z6 dd2 m1 m2 hb z2 ha Z5 dd1 z1
   induction more generalizing kvs with
   | nil=>exact aav _
   | cons p r ih =>
     have h1:=ih (kvs:=putK kvs p.1 p.2)
     have h2:=dH kvs p.1 p.2
     show (iz (putK kvs p.1 p.2) r).length<=_
     rw [acM]
     omega
 exact ⟨.non,_,kZ I (by rw [ha]; exact agS) sb he (vM hl d1 (Z6.merge Z5) m1),rfl,q⟩
end
section
variable {prog:acs} {w:adH} {A:aeN} {E:aau->aat->Prop} {s:aat}
theorem Lr {x:aau} {ss:List Str} {Q:aau->aat->Prop} (h64:ss.length<64)
   (col:∀ (R:List aau->aat->Prop),(∀ (h':ae9) (tk:Nat) (vs:List aau),(∀ b o,s.heap.get? b=some o->h'.get? b=some o)->an0 vs ss->R vs { s with heap:=h',toks:=tk })->wpAny (model prog w) A.in1 (collect x) R E s)
   (h:∀ (h1 h':ae9) (tk:Nat) (out:List aau) (ss':List Str) (n:Nat),(∀ b o,s.heap.get? b=some o->h1.get? b=some o)->(∀ b o,h1.get? b=some o->h'.get? b=some o)->h'.get? h1.objs.size=some (seqObj "list" out.toArray n)->an0 out ss'->ss'.Perm ss->sortedS ss'=true->Q (.ref h1.objs.size) { s with heap:=h',toks:=tk }) :
   wpAny (model prog w) A (call (.builtin "sorted") [x]) Q E s:=by
 refine ahC aqo apB apC (apD _) ?_
 unfold agM.«sorted»
 refine Fi (m:=checkCount "sorted" 1 1 _) (aar ?_)
 refine Fi (col _ fun h' tk vs kk hS=>?_)
 have hl:vs.length=ss.length:=by rw [<- hS.strs,aao]
 have mq:sizeLine=16777216:=acO
 refine Fi (amD ?_ (by omega))
 have g0:(h'.push (seqObj "list" vs.toArray 0)).get? h'.objs.size=some (seqObj "list" vs.toArray 0):=aa8 _ rfl
 refine Fi (adQ (adP aod (s:={ s with heap:=h'.push (seqObj "list" vs.toArray 0),toks:=tk }) ⟨_,g0,rfl⟩ anz
   (list_sort_treeK (s:={ s with heap:=h'.push (seqObj "list" vs.toArray 0),toks:=tk }) strKind_oneLt g0 hS.keysOf (fun v₁ v₂ rest e=>keyKind_strs (by rw [<- e]; exact hS)) (by omega) fun st' p1 p2=>⟨_,rfl,?_⟩) (aoe _)))
 obtain ⟨ss',q1,q2,q3⟩:=sorted_out_str hS p1 p2
 obtain ⟨n,hn⟩:=aoO (vs:=vs) (out:=(arrOf st').map (·.2)) g0
 refine aar ⟨_,rfl,h h' _ tk ((arrOf st').map (·.2)).toList ss' n kk (fun b o e1=>?_) (by rw [Array.toArray_toList]; exact hn) q1 q2 q3⟩
 have lt:b<h'.objs.size:=abf e1
 show (sortedHeap (h'.push (seqObj "list" vs.toArray 0)) h'.objs.size vs _).get? b=some o
 rw [aof (acu lt) (by rw [aeV]; exact afE lt)]
 exact aap _ e1
end
section
variable {X:Cx}
theorem VL:∀ {ss:List Str} {us:List aau},an0 us ss->Vals (ss.map V.str) us:=by
 intro ss us h
 induction h with
 | nil=>exact .nil
 | cons x t _ ih=>exact .cons ⟨t,rfl⟩ ih
theorem Jx:∀ {ss:List Str} {us:List aau},us.length=ss.length->(∀ (i:Nat) (v:aau),us[i]?=some v->∃ x t,ss[i]?=some x/\v=.str x t)->an0 us ss
 | [],[],_,_=>.nil
 | x :: ss,u :: us,hl,h=>by
   obtain ⟨y,t,e,rfl⟩:=h 0 u rfl
   cases (show some x=some y from e)
   exact .cons x t (Jx (by simpa using hl) fun i v e=>h (i+1) v (by simpa using e))
 | [],_ :: _,hl,_=>by simp at hl
 | _ :: _,[],hl,_=>by simp at hl
theorem Bk (hc:X.calm=true):gK X (.builtin "sorted") (fun xs H Q=>∃ p kvs ss,xs=[.ref p]/\H p=some (.dK kvs)/\kvs.map (·.1)=ss.map adz/\ss.length<64/\∀ l ss',H l=none->ss'.Perm ss->sortedS ss'=true->Q (.ref l) (upd H l (.lst (ss'.map V.str)))):=by
 intro pins s σ H xs us Q I r h
 obtain ⟨p,kvs,ss,rfl,hp,hk,h64,q⟩:=h
 obtain ⟨u,rfl,ru⟩:=vals1 r
 cases ru
 obtain ⟨z,d,vs,rel,dd⟩:=yU I.hok hp
 have hl:kvs.length=ss.length:=by have:=congrArg af6 hk; simpa using this
 have hvl:vs.length=ss.length:=by rw [<- rel.length]; exact hl
 have mq:sizeLine=16777216:=acO
 obtain ⟨ep,hat⟩:=dd.dictAt
 refine Lr h64 (fun R hR=>anA (A:=X.A.in1) (PySem.W.kdl_dict (knd:=aU X.prog X.w) (kvs:=vs) (ep:=ep) d) (by simpa using I.ok.hd hc) hat (by omega) fun h' tk acc kk hacc=>hR h' tk acc.toList kk ?_) fun h1 h' tk out ss' n k1 k2 ho hS hp2 hs=>?_
 . refine Jx (by rw [abr]; exact hacc.1.trans hvl) fun i v e=>?_
   obtain ⟨k,x,ek,hk'⟩:=hacc.2 i v (by simpa using e)
   have ek2:(kvs.map (·.1))[i]?=some k:=by
     rw [rel.keys,aaJ,ek]; rfl
   rw [hk,aaJ] at ek2
   cases es:ss[i]? with
   | none=>rw [es] at ek2; cases ek2
   | some y =>
     rw [es] at ek2
     cases (show some (adz y:Key)=some k from ek2)
     rcases cH (show jP (adz y) v=true from hk') with ⟨j,t,e1,e2⟩ | ⟨x',t,e1,e2⟩ | ⟨e1,e2⟩
     . cases e1
     . cases e1
       exact ⟨y,t,rfl,e2⟩
     . cases e1
 . have I1:Inv X pins σ H { s with heap:=h1,toks:=tk }:=I.kept k1
   have hl':ss'.length=ss.length:=hp2.length_eq
   exact ⟨.ref h1.objs.size,_,I1.laid (t':=tk) (o:=.lst (ss'.map V.str)) k2 (aav _) ⟨by rw [aao]; omega,out,n,VL hS,ho⟩,rfl,q _ _ (I1.hok.fresh (aav _)) hp2 hs⟩
end
end L2
namespace L2
open PySem PySem.Spec PyProof.Rows
def GC (h:ae9) (d:abm) (es:Array aor) (ep:Nat):Prop:=∃ o,h.get? d=some o/\o.ExactDict/\o.data=.dict es ep
section
variable {prog:acs} {w:adH} {A:aeN} {E:aau->aat->Prop} {s:aat}
theorem GC.typ {d:abm} {es:Array aor} {ep:Nat} (R:GC s.heap d es ep):s.TypeIs (.ref d) "dict":=let ⟨o,e,x,_⟩:=R; ⟨o,e,x.1⟩
theorem VN {d:abm} {es:Array aor} {ep:Nat} {Q:aau->aat->Prop} (nS:(d == sysModules)=false) (R:GC s.heap d es ep)
   (q:Q (.ref s.heap.objs.size) { s with heap:=s.heap.push { cls:=.type "dict_keyiterator",data:=.fields #[.ref d,.int 0 0,.int es.size 0,.int ep 0] } }):wpAny (model prog w) A (pyIter (.ref d)) Q E s:=by
 have T:=R.typ
 obtain ⟨o,e,_,dat⟩:=R
 refine aov T apd (adP apd T PySem.F.entry_dict_iter ?_ (PySem.F.args_dict_iter_1 _))
 unfold agM.«dict.__iter__»
 refine Fi ?_
 unfold Builtin.Dict.dictSlotNone
 refine Fi (am8 T ?_)
 show wpAny _ _ (pure (abk d)) _ _ s
 refine aar ?_
 show wpAny _ _ (apE d >>= _) _ _ s
 unfold apE
 rw [if_neg (by rw [nS]; exact abn)]
 refine Fi (aar (Fi (amV e dat (Fi (apF e dat ?_)))))
 refine Fi (adC (aar ⟨_,rfl,"dict_keyiterator",_,⟨_,aa8 _ rfl,rfl⟩,PySem.F.slot_dict_keyiterator_next.lookup,?_⟩))
 simpa [rawInt] using q
theorem VP {it d:abm} {i ep:Nat} {es:Array aor} {Q:Option aau->aat->Prop} (K:s.heap.IsKeyIter it d i es.size ep) (R:GC s.heap d es ep) (lt:i<es.size)
   (q:∀ h',h'.IsKeyIter it d (i+1) es.size ep->afh it s.heap h'->Q (some es[i].key) { s with heap:=h' }):wpAny (model prog w) A (pyNext (.ref it)) Q E s:=by
 obtain ⟨o,e,c,dt⟩:=id K
 obtain ⟨od,e2,_,dd⟩:=R
 unfold pyNext
 refine Fi (amE (aeL (name:=ahr "__next__") K.typeIs afI (adP afI K.typeIs amo ?_ (amj _))))
 refine Fi (aar (Fi (Fi ?_)))
 first | refine Fi (agA K.typeIs (aar ?_)) | refine Fi (aic K.typeIs (aar ?_))
 refine Fi (aog e dt ?_)
 have own:anp "dict_keyiterator" = false:=by decide
 simp only [own,ae6,if_false]
 show wpAny _ _ (if (abk d == acR)=true then _ else _) _ _ s
 rw [if_neg (show ¬ ((abk d == acR)=true) from abn)]
 refine Fi (aar (Fi (amV e2 dd ?_)))
 rw [if_neg (by simp)]
 refine Fi (aar (Fi (apF e2 dd ?_)))
 rw [if_neg (by simp)]
 refine aar ?_
 simp only [show ¬ ((i:Int)<0) from by omega,if_false,aeQ,afy lt]
 refine Fi ?_
 first | refine Fi (agA K.typeIs (aar ?_)) | refine Fi (aic K.typeIs (aar ?_))
 refine Fi (apG K.typeIs ?_)
 show wpAny _ _ (setField (.ref it) 1 (rawInt ((i:Int)+1)) >>= _) _ _ s
 refine Fi (agj e dt (by simp) ?_)
 have K':(s.heap.update it (agk (·.setIfInBounds 1 (rawInt ((i:Int)+1))))).IsKeyIter it d (i+1) es.size ep:=⟨_,aeO _ e (apH (amF dt _)),(aqS ..).trans c,by rw [amF dt]; simp [rawInt]⟩
 refine Fi (adQ (Fi (apG (s:={ s with heap:=s.heap.update it (agk (·.setIfInBounds 1 (rawInt ((i:Int)+1)))) }) K'.typeIs ?_)))
 show wpAny _ _ (pure es[i].key) _ _ _
 exact aar (aar ⟨_,rfl,aar (q _ K' (aeD ..))⟩)
theorem Z7 {it d:abm} {ep:Nat} {es:Array aor} {Q:Option aau->aat->Prop} (hh:A.handled=none) (K:s.heap.IsKeyIter it d es.size es.size ep) (R:GC s.heap d es ep) (q:∀ h',arh it s.heap h'->Q none { s with heap:=h' }) :
   wpAny (model prog w) A (pyNext (.ref it)) Q E s:=by
 obtain ⟨o,e,c,dt⟩:=id K
 obtain ⟨od,e2,_,dd⟩:=R
 unfold pyNext
 refine Fi (amE (aeL (name:=ahr "__next__") K.typeIs afI (adP afI K.typeIs amo ?_ (amj _))))
 refine Fi (aar (Fi (Fi ?_)))
 first | refine Fi (agA K.typeIs (aar ?_)) | refine Fi (aic K.typeIs (aar ?_))
 refine Fi (aog e dt ?_)
 have own:anp "dict_keyiterator" = false:=by decide
 simp only [own,ae6,if_false]
 show wpAny _ _ (if (abk d == acR)=true then _ else _) _ _ s
 rw [if_neg (show ¬ ((abk d == acR)=true) from abn)]
 refine Fi (aar (Fi (amV e2 dd ?_)))
 rw [if_neg (by simp)]
 refine Fi (aar (Fi (apF e2 dd ?_)))
 rw [if_neg (by simp)]
 refine aar ?_
 simp only [show ¬ ((es.size:Int)<0) from by omega,if_false,aeQ,amM (aav es.size)]
 refine Fi ?_
 first | refine Fi (agA K.typeIs (aar ?_)) | refine Fi (aic K.typeIs (aar ?_))
 show wpAny _ _ (setField (.ref it) 0 .none >>= _) _ _ s
 refine Fi (agj e dt (by simp) ?_)
 show wpAny _ _ (newExc (.type "StopIteration") [] >>= _) _ _ _
 refine Fi ?_
 simp only [newExc,newTuple]
 refine Fi (adC ?_ (by size_fits))
 refine Fi (m:=firstArgMember _ _) (anB (a:=acR) (by first | rfl | (simp only [firstArgMember]; rfl)) (adC ?_ (by size_fits)))
 simp only [raiseNew]
 refine Fi (aoP ?_)
 rw [show A.in1.handled=none from hh]
 refine (Fi (aar (aqp ?_)))
 refine (Fi (amn (T:="StopIteration") (b:=true) ⟨_,aa8 _ rfl,rfl⟩ aoh ?_))
 exact aar (q _ (((aeD ..).extBut.push _).push _))
theorem Qw {d:abm} {es:Array aor} {ep:Nat} (nS:(d == sysModules)=false):PySem.W.KdlSrc prog w "dict" d d es.size (fun i v=>∃ e,es[i]?=some e/\v=e.key) (fun h=>GC h d es ep) where
 type:=fun _ R=>R.typ
 there:=fun _ R=>let ⟨_,e,_⟩:=R; ⟨abf e,abf e⟩
 keep:=fun _ _ R hk=>let ⟨o,e,r⟩:=R; ⟨o,hk d (.inl rfl) o e,r⟩
 notList:=by decide
 notTuple:=by decide
 hint:=fun _ _ _ _ R q=>PySem.W.kdl_hint_dict R.typ q
 iter:=fun A s hh R=>by
   have lt:d<s.heap.objs.size:=let ⟨_,e,_⟩:=R; abf e
   have ne:d≠s.heap.objs.size:=acu lt
   refine ⟨_,fun i h=>h.IsKeyIter s.heap.objs.size d i es.size ep/\GC h d es ep,(fun _ _ q=>VN nS R q),⟨fun b hb=>by simp at hb; simp [hb],fun i h h' st hk=>?_,fun i s' Q E hi st q=>?_,fun s' Q E st q=>?_,fun i s' Q E st q=>wpAny_pyIter_keyiter st.1 q⟩,⟨⟨_,aa8 _ rfl,rfl,rfl⟩,let ⟨o,e,r⟩:=R; ⟨o,aap _ e,r⟩⟩⟩
   . obtain ⟨⟨o,e,r⟩,⟨o2,e2,r2⟩⟩:=st
     exact ⟨⟨o,hk _ (by simp) o e,r⟩,⟨o2,hk d (by simp) o2 e2,r2⟩⟩
   . refine VP st.1 st.2 hi fun h' K' sb=>?_
     exact q _ h' s'.toks ⟨es[i],by simp [hi],rfl⟩ ⟨K',let ⟨o,e,r⟩:=st.2; ⟨o,sb.extBut d o ne e,r⟩⟩ fun b o hb e=>sb.extBut b o (fun z=>hb (by simp [z])) e
   . exact Z7 hh st.1 st.2 fun h' he=>q h' s'.toks fun b o hb e=>he b o (fun z=>hb (by simp [z])) e
end
end L2
namespace L2
open PySem PySem.Spec PyProof.Rows PySem.W
def cX {α:Type} (n:Nat) (lt:Nat->Nat->Bool):KasT α->Option α
 | .ret a=>some a
 | .ask i j k=>if i<n/\j<n then cX n lt (k (lt i j)) else none
theorem vV {α:Type} {n:Nat} {lt:Nat->Nat->Bool} {ask:Nat->Nat->(Bool->aat->Prop)->aat->Prop} {s:aat} (ha:∀ i j C,i<n->j<n->C (lt i j) s->ask i j C s):∀ (t:KasT α) (a:α) (Q:α->aat->Prop),cX n lt t=some a->Q a s->t.kasWp ask Q s
 | .ret b,a,Q,h,q=>by
   cases (show some b=some a from h)
   exact q
 | .ask i j k,a,Q,h,q=>by
   have h':(if i<n/\j<n then cX n lt (k (lt i j)) else none)=some a:=h
   by_cases c:i<n/\j<n
   . rw [if_pos c] at h'
     exact ha i j _ c.1 c.2 (vV ha (k (lt i j)) a Q h' q)
   . rw [if_neg c] at h'; cases h'
theorem Dz {α:Type} {n:Nat} {lt lt':Nat->Nat->Bool} (h:∀ i j,i<n->j<n->lt i j=lt' i j):∀ t:KasT α,cX n lt t=cX n lt' t
 | .ret _=>rfl
 | .ask i j k=>by
   show (if i<n/\j<n then cX n lt (k (lt i j)) else none)=if i<n/\j<n then cX n lt' (k (lt' i j)) else none
   by_cases c:i<n/\j<n
   . rw [if_pos c,if_pos c,h i j c.1 c.2]; exact Dz h _
   . rw [if_neg c,if_neg c]
def rk (r:List Nat) (i j:Nat):Bool:=decide (r.getD i 0<r.getD j 0)
def GD (n:Nat) (r:List Nat):Bool:=match cX n (rk r) (aoQ n) with
 | some p=>(p.toList.map fun i=>r.getD i 0) == acy n && p.toList.all fun i=>decide (i<n)
 | none=>false
def GF (x:Nat):List Nat->List (List Nat)
 | []=>[[x]]
 | y :: l=>(x :: y :: l) :: (GF x l).map (y :: ·)
def perms:List Nat->List (List Nat)
 | []=>[[]]
 | x :: l=>(perms l).flatMap (GF x)
theorem vW (x:Nat):∀ (a b:List Nat),a++x :: b∈GF x (a++b)
 | [],[]=>aaU
 | [],_ :: _=>aaU
 | y :: a,b=>aaM _ (abh.mpr ⟨_,vW x a b,rfl⟩)
theorem zp:∀ (l l':List Nat),l'.Perm l->l'∈perms l
 | [],l',h=>by rw [List.Perm.eq_nil h]; exact aaU
 | x :: l,l',h=>by
   obtain ⟨a,b,rfl⟩:=anV (h.mem_iff.mpr aaU)
   have h2:(a++b).Perm l:=(List.perm_middle.symm.trans h).cons_inv
   exact adG.mpr ⟨a++b,zp l _ h2,vW x a b⟩
theorem Z8:((acy 7).all fun n=>n<2 || (perms (acy n)).all (GD n))=true:=by decide +kernel
theorem Qx {n:Nat} {r:List Nat} (h2:2<=n) (h6:n<=6) (hr:r.Perm (acy n)):GD n r=true:=by
 have h:=acL.mp Z8 n (adA.mpr (by omega))
 rw [apA] at h
 rcases h with h | h
 . have:=of_decide_eq_true h; omega
 . exact acL.mp h r (zp _ _ hr)
structure Strict {κ:Type} (lt:κ->κ->Bool):Prop where
 Ge:∀ a,lt a a=false
 trans:∀ a b c,lt a b=true->lt b c=true->lt a c=true
 tot:∀ a b,a≠b->lt a b=true∨lt b a=true
section
variable {κ:Type} {lt:κ->κ->Bool} (S:Strict lt)
include S
def rankOf (lt:κ->κ->Bool) (ks:List κ) (k:κ):Nat:=ks.countP fun k'=>lt k' k
omit S in
theorem zq {p q:κ->Bool} {ks:List κ} (h:∀ x∈ks,p x=true->q x=true) {z:κ} (hz:z∈ks) (h1:p z=false) (h2:q z=true):ks.countP p<ks.countP q:=by
 induction ks with
 | nil=>cases hz
 | cons x l ih =>
   have hl:l.countP p<=l.countP q:=List.countP_mono_left fun y hy=>h y (aaM _ hy)
   rcases abz.mp hz with e | e
   . subst e
     rw [ani,ani,h1,h2]
     simp; omega
   . have hlt:=ih (fun y hy=>h y (aaM _ hy)) e
     rw [ani,ani]
     cases hp:p x with
     | false=>simp; omega
     | true=>rw [h x aaU hp]; simp; omega
theorem u0 {ks:List κ} {a b:κ} (ha:a∈ks) (h:lt a b=true):rankOf lt ks a<rankOf lt ks b :=
 zq (fun x _ hx=>S.trans _ _ _ hx h) ha (S.Ge a) h
theorem DG {ks:List κ} {a b:κ} (ha:a∈ks) (hb:b∈ks):decide (rankOf lt ks a<rankOf lt ks b)=lt a b:=by
 cases h:lt a b with
 | true=>exact decide_eq_true (u0 S ha h)
 | false =>
   refine decide_eq_false fun z=>?_
   rcases am9 (a=b) with e | e
   . subst e; omega
   . rcases S.tot a b e with q | q
     . rw [h] at q; cases q
     . have:=u0 S hb q; omega
theorem GJ {ks:List κ} {a:κ} (ha:a∈ks):rankOf lt ks a<ks.length:=by
 have h:=zq (p:=fun k'=>lt k' a) (q:=fun _=>true) (ks:=ks) (fun _ _ _=>rfl) ha (S.Ge a) rfl
 rw [List.countP_true] at h
 exact h
theorem GK {ks:List κ} (hn:ks.Nodup):(ks.map (rankOf lt ks)).Perm (acy ks.length):=by
 have nd:(ks.map (rankOf lt ks)).Nodup:=by
   rw [aa2,acK]
   refine aow (fun {a b} ha hb h=>?_) (aa2.mp hn)
   intro z
   rcases S.tot a b h with q | q
   . have:=u0 S ha q; omega
   . have:=u0 S hb q; omega
 have sub:(ks.map (rankOf lt ks)) ⊆ acy ks.length:=fun x hx=>by
   obtain ⟨k,hk,rfl⟩:=abh.mp hx
   exact adA.mpr (GJ S hk)
 rw [ahn nd List.nodup_range]
 intro x
 constructor
 . exact fun h=>sub h
 . intro h
   apply agl
   intro hx
   have h1:(x :: ks.map (rankOf lt ks)).Nodup:=agu.mpr ⟨hx,nd⟩
   have h2:(x :: ks.map (rankOf lt ks)) ⊆ acy ks.length:=fun y hy=>by
     rcases abz.mp hy with e | e
     . rw [e]; exact h
     . exact sub e
   have:=h1.length_le_of_subset h2
   rw [acM,aao,afg] at this
   omega
theorem Qy {ks:List κ} (hn:ks.Nodup) (h2:2<=ks.length) (h6:ks.length<=6) (d:κ) :
   ∃ p:Array Nat,cX ks.length (fun i j=>lt (ks.getD i d) (ks.getD j d)) (aoQ ks.length)=some p/\(p.toList.map fun i=>ks.getD i d).Perm ks/\(p.toList.map fun i=>ks.getD i d).Pairwise (fun a b=>lt a b=true)/\∀ i∈p.toList,i<ks.length:=by
 have hp:=GK S hn
 have hc:=Qx h2 h6 hp
 have at':∀ i,i<ks.length->(ks.map (rankOf lt ks)).getD i 0=rankOf lt ks (ks.getD i d):=fun i hi=>by
   simp [afp,aaJ,aaq hi]
 have mem:∀ i,i<ks.length->ks.getD i d∈ks:=fun i hi=>by
   simp only [afp,aaq hi,Option.getD_some]
   exact afR hi
 have e:cX ks.length (fun i j=>lt (ks.getD i d) (ks.getD j d)) (aoQ ks.length)=cX ks.length (rk (ks.map (rankOf lt ks))) (aoQ ks.length):=Dz (fun i j hi hj=>by
   unfold rk
   rw [at' i hi,at' j hj,DG S (mem i hi) (mem j hj)]) _
 unfold GD at hc
 rw [<- e] at hc
 cases hr:cX ks.length (fun i j=>lt (ks.getD i d) (ks.getD j d)) (aoQ ks.length) with
 | none=>rw [hr] at hc; cases hc
 | some p =>
   rw [hr] at hc
   have hc':=abx.mp hc
   have h1:(p.toList.map fun i=>(ks.map (rankOf lt ks)).getD i 0)=acy ks.length:=by simpa using hc'.1
   have hb:∀ i∈p.toList,i<ks.length:=fun i hi=>of_decide_eq_true (acL.mp hc'.2 i hi)
   have h1':(p.toList.map fun i=>rankOf lt ks (ks.getD i d))=acy ks.length:=by
     rw [<- h1]
     exact afa fun i hi=>(at' i (hb i hi)).symm
   have pw:(p.toList.map fun i=>ks.getD i d).Pairwise (fun a b=>lt a b=true):=by
     have h3:(p.toList.map fun i=>rankOf lt ks (ks.getD i d)).Pairwise (·<·):=by rw [h1']; exact List.pairwise_lt_range
     rw [acK] at h3 ⊢
     refine aow (fun {a b} ha hb' h=>?_) h3
     rw [<- DG S (mem a (hb a ha)) (mem b (hb b hb'))]
     exact decide_eq_true h
   refine ⟨p,rfl,?_,pw,hb⟩
   have nd:(p.toList.map fun i=>ks.getD i d).Nodup:=by
     rw [aa2]
     refine pw.imp fun {a b} h z=>?_
     subst z
     rw [S.Ge] at h; cases h
   rw [ahn nd hn]
   have sub:(p.toList.map fun i=>ks.getD i d) ⊆ ks:=fun x hx=>by
     obtain ⟨i,hi,rfl⟩:=abh.mp hx
     exact mem i (hb i hi)
   have len:(p.toList.map fun i=>ks.getD i d).length=ks.length:=by
     have:=congrArg af6 h1'
     rw [aao,afg] at this
     rw [aao]; exact this
   intro x
   constructor
   . exact fun h=>sub h
   . intro h
     apply agl
     intro hx
     have q1:(x :: p.toList.map fun i=>ks.getD i d).Nodup:=agu.mpr ⟨hx,nd⟩
     have q2:(x :: p.toList.map fun i=>ks.getD i d) ⊆ ks:=fun y hy=>by
       rcases abz.mp hy with e | e
       . rw [e]; exact h
       . exact sub e
     have:=q1.length_le_of_subset q2
     rw [acM,len] at this
     omega
end
end L2
namespace L2
open PySem PySem.Spec PyProof.Rows PySem.W
def slt (a b:Str):Bool:=decide (a.cps.toList<b.cps.toList)
theorem VR {a b:Str} (h:a.cps.toList=b.cps.toList):a=b:=by
 cases a; cases b
 congr 1
 exact ao3.mp h
theorem ju:Strict slt where
 Ge:=fun a=>decide_eq_false (List.lt_irrefl _)
 trans:=fun a b c h1 h2=>decide_eq_true (List.lt_trans (of_decide_eq_true h1) (of_decide_eq_true h2))
 tot:=fun a b h=>by
   rcases am9 (a.cps.toList<b.cps.toList) with q | q
   . exact .inl (decide_eq_true q)
   . rcases am9 (b.cps.toList<a.cps.toList) with q2 | q2
     . exact .inr (decide_eq_true q2)
     . exact absurd (VR (List.le_antisymm q2 q)) h
def sy (a b:Str × Str):Bool:=if a.1=b.1 then (if a.2=b.2 then false else slt a.2 b.2) else slt a.1 b.1
theorem iB:Strict sy where
 Ge:=fun a=>by unfold sy; simp
 trans:=fun a b c h1 h2=>by
   unfold sy at h1 h2 ⊢
   have T:=ju.trans
   have R:=ju.Ge
   by_cases e1:a.1=b.1
   . rw [if_pos e1] at h1
     by_cases e2:b.1=c.1
     . rw [if_pos e2] at h2
       rw [if_pos (e1.trans e2)]
       by_cases f1:a.2=b.2
       . rw [if_pos f1] at h1; cases h1
       . rw [if_neg f1] at h1
         by_cases f2:b.2=c.2
         . rw [if_pos f2] at h2; cases h2
         . rw [if_neg f2] at h2
           have h3:=T _ _ _ h1 h2
           rw [if_neg (fun z=>by rw [z,R] at h3; cases h3)]
           exact h3
     . rw [if_neg e2] at h2
       rw [if_neg (fun z=>e2 (e1.symm.trans z)),e1]
       exact h2
   . rw [if_neg e1] at h1
     by_cases e2:b.1=c.1
     . rw [if_neg (fun z=>e1 (z.trans e2.symm)),<- e2]
       exact h1
     . rw [if_neg e2] at h2
       have h3:=T _ _ _ h1 h2
       rw [if_neg (fun z=>by rw [z,R] at h3; cases h3)]
       exact h3
 tot:=fun a b h=>by
   unfold sy
   by_cases e:a.1=b.1
   . have f:a.2≠b.2:=fun z=>h (anT e z)
     rw [if_pos e,if_neg f,if_pos e.symm,if_neg (afv f)]
     exact ju.tot _ _ f
   . rw [if_neg e,if_neg (afv e)]
     exact ju.tot _ _ e
def vX (h:ae9) (a:abm) (v:aau) (k:Str × Str):Prop:=∃ b o m t u,v=.ref b/\b≠a/\h.get? b=some o/\o.cls=.type "tuple"/\o.data=.seq #[.str k.1 t,.str k.2 u] m
inductive fj (h:ae9) (a:abm):List aau->List (Str × Str)->Prop
 | nil:fj h a [] []
 | cons {v:aau} {vs:List aau} {k:Str × Str} {ks:List (Str × Str)}:vX h a v k->fj h a vs ks->fj h a (v :: vs) (k :: ks)
theorem fj.len {h:ae9} {a:abm} {vs:List aau} {ks:List (Str × Str)} (p:fj h a vs ks):vs.length=ks.length:=by
 induction p with
 | nil=>rfl
 | cons _ _ ih=>rw [acM,acM,ih]
theorem fj.get {h:ae9} {a:abm} {vs:List aau} {ks:List (Str × Str)} (p:fj h a vs ks):∀ i,i<ks.length->vX h a (vs.getD i acR) (ks.getD i (default,default)):=by
 induction p with
 | nil=>intro i hi; cases hi
 | cons q _ ih =>
   intro i hi
   cases i with
   | zero=>exact q
   | succ i=>exact ih i (Nat.lt_of_succ_lt_succ hi)
theorem fj.keep {h h':ae9} {a:abm} {vs:List aau} {ks:List (Str × Str)} (p:fj h a vs ks) (k:∀ b o,b≠a->h.get? b=some o->h'.get? b=some o):fj h' a vs ks:=by
 induction p with
 | nil=>exact .nil
 | cons q _ ih =>
   obtain ⟨b,o,m,t,u,e,n,g,r⟩:=q
   exact .cons ⟨b,o,m,t,u,e,n,k b o n g,r⟩ ih
section
variable {prog:acs} {w:adH} {A:aeN} {E:aau->aat->Prop} {s:aat}
theorem V0 {a:abm} {v v':aau} {k k':Str × Str} {Q:Bool->aat->Prop} (p:vX s.heap a v k) (p':vX s.heap a v' k') (q:Q (sy k k') s):wpAny (model prog w) A (keyLt' (tuples' true) v v') Q E s:=by
 obtain ⟨b,o,m,t,u,rfl,_,g,c,d⟩:=p
 obtain ⟨b',o',m',t',u',rfl,_,g',c',d'⟩:=p'
 refine kat_lt g d g' d' ?_
 show arD prog w A true (decide (2<2)) Q [(.str k.1 t,.str k'.1 t'),(.str k.2 u,.str k'.2 u')] 0 s
 unfold sy at q
 refine aqE ((aU prog w).eqBool (iU _ _ _ _) (iU _ _ _ _) ?_)
 by_cases e:k.1=k'.1
 . rw [if_pos e] at q
   rw [show decide ((adz k.1:Key)=adz k'.1)=true from decide_eq_true (by rw [e])]
   refine arB (aqE ((aU prog w).eqBool (iU _ _ _ _) (iU _ _ _ _) ?_))
   by_cases f:k.2=k'.2
   . rw [if_pos f] at q
     rw [show decide ((adz k.2:Key)=adz k'.2)=true from decide_eq_true (by rw [f])]
     exact arB (kat_nil q)
   . rw [if_neg f] at q
     rw [show decide ((adz k.2:Key)=adz k'.2)=false from decide_eq_false (fun z=>f (afA z))]
     refine kat_no ?_
     show wpAny _ A (oneLt' false _ _) Q _ s
     exact kat_one _ _ (aqd q)
 . rw [if_neg e] at q
   rw [show decide ((adz k.1:Key)=adz k'.1)=false from decide_eq_false (fun z=>e (afA z))]
   refine kat_no ?_
   show wpAny _ A (oneLt' true _ _) Q _ s
   exact oneLt_str q
theorem Lw {h:ae9} {a:abm} {vs:List aau} {ks:List (Str × Str)} (p:fj h a vs ks):∃ fs,KatTups h vs fs/\fs.length=ks.length/\∀ v∈fs,∃ x t,v=anu x t:=by
 induction p with
 | nil=>exact ⟨[],.nil,rfl,fun v h=>by cases h⟩
 | cons q _ ih =>
   obtain ⟨fs,h1,h2,h3⟩:=ih
   obtain ⟨b,o,m,t,u,rfl,_,g,c,d⟩:=q
   refine ⟨.str _ t :: fs,.cons g c d (by rfl) h1,by rw [acM,acM,h2],fun v hv=>?_⟩
   rcases abz.mp hv with e | e
   . exact ⟨_,_,e⟩
   . exact h3 v e
theorem Lx {a:abm} {vs:List aau} {ks:List (Str × Str)} {n:Nat} {P:Fin->aat->Prop} (ho:s.heap.get? a=some (seqObj "list" vs.toArray n)) (hp:fj s.heap a vs ks) (hn:ks.Nodup) (h6:ks.length<=6)
   (h:∀ (l:List Nat),(∀ i∈l,i<ks.length)->(l.map fun i=>ks.getD i (default,default)).Perm ks->(l.map fun i=>ks.getD i (default,default)).Pairwise (fun x y=>sy x y=true)->P (.done (.ret .none)) { s with heap:=sortedHeap s.heap a vs (l.map fun i=>vs.getD i acR).toArray }) :
   wpAny (model prog w) A (agM.«list.sort» ⟨[.ref a],[]⟩) P E s:=by
 have mq:sizeLine=16777216:=acO
 have len:=hp.len
 rw [list_sort_plain]
 have la:a<s.heap.objs.size:=abf ho
 refine Fi (listItems_at ho rfl (Fi (amG ho rfl ?_ (by rw [abp]; omega) (abV _))))
 obtain ⟨e1,g1⟩:∃ e1,(s.heap.update a (afj fun _=>#[])).get? a=some (seqObj "list" #[] e1):=⟨_,get?_update_seq ho (fun _=>#[])⟩
 refine Fi (anC g1 rfl (Fi (aqe ?_ (by simp; omega))))
 refine Fi (amD ?_ (abV _))
 refine adQ ?_
 have g6:(((s.heap.update a (afj fun _=>#[])).push (seqObj "tuple" vs.toArray 0)).push (seqObj "list" #[] 0)).get? a=some (seqObj "list" #[] e1):=aap _ (aap _ g1)
 have kk:∀ b o,b≠a->s.heap.get? b=some o->(((s.heap.update a (afj fun _=>#[])).push (seqObj "tuple" vs.toArray 0)).push (seqObj "list" #[] 0)).get? b=some o:=fun b o nb e =>
   aap _ (aap _ (((aeD s.heap a _).2 b nb).trans e))
 show wpAny (model prog w) A _ P E { s with heap:=((s.heap.update a (afj fun _=>#[])).push (seqObj "tuple" vs.toArray 0)).push (seqObj "list" #[] 0) }
 dsimp only
 have sz:vs.toArray.size=vs.length:=by simp
 by_cases c2:vs.toArray.size<2
 . rw [if_pos c2,if_pos c2]
   refine Fi (aar ?_)
   rw [StateT.run_pure]
   refine Fi (aar ?_)
   dsimp only
   refine Fi (anC g6 rfl ?_)
   have em:((vs.toArray.zip vs.toArray).map (·.2))=vs.toArray:=by
     apply ao3.mp
     rw [Array.toList_map,Array.toList_zip]
     exact List.map_snd_zip (aav _)
   refine Fi (amG g6 rfl ?_ (abV _) (by show ((vs.toArray.zip vs.toArray).map (·.2)).size<=_; rw [em,sz]; omega))
   simp only [bne_self_eq_false,ae6,if_false]
   refine aar ?_
   show P _ { s with heap:=sortedHeap s.heap a vs ((vs.toArray.zip vs.toArray).map (·.2)) }
   rw [em]
   have all:∀ {α:Type} (xs:List α) (d:α),((acy xs.length).map fun i=>xs.getD i d)=xs:=fun xs d=>by
     apply ait
     . simp
     . intro i h1 h2
       simp [afp,h2]
   have fin:=h (acy ks.length) (fun i hi=>adA.mp hi) (by rw [all]) (by
     rw [all]
     match ks,len with
     | [],_=>exact ah8
     | [_],_=>exact ain _ _
     | _ :: _ :: _,len=>rw [sz,len,acM,acM] at c2; omega)
   rw [<- len,all] at fin
   exact fin
 . rw [if_neg c2,if_neg c2]
   have p6:=hp.keep kk
   obtain ⟨fs,t1,t2,t3⟩:=Lw p6
   obtain ⟨p,r1,r2,r3,r4⟩:=Qy iB hn (by omega) h6 (default,default)
   refine Fi (kat_kind (T:=.type "str") t1 (by omega) (fun v hv=>?_) rfl ?_)
   . obtain ⟨x,t,rfl⟩:=t3 v hv
     exact .now
   . refine Fi (ae5 (kat_run (ks:=vs) (vs:=vs) (κ:=tuples' true) (Q:=fun st' s'=>s'={ s with heap:=((s.heap.update a (afj fun _=>#[])).push (seqObj "tuple" vs.toArray 0)).push (seqObj "list" #[] 0) }/\arrOf st'=p.map (kas_item (vs.toArray.zip vs.toArray))/\failedOf st'=none/\p.size=vs.length)
       (G:=fun p' s'=>p'=p/\s'={ s with heap:=((s.heap.update a (afj fun _=>#[])).push (seqObj "tuple" vs.toArray 0)).push (seqObj "list" #[] 0) }) rfl (by omega) (by omega) (fun p' st' s' q1 q2 q3 ⟨q4,q5⟩=>by subst q4; exact ⟨q5,q2,q3,q1⟩)
       (vV (n:=ks.length) (lt:=fun i j=>sy (ks.getD i (default,default)) (ks.getD j (default,default))) (fun i j C hi hj hC=>V0 (p6.get i hi) (p6.get j hj) hC) _ p _ (by rw [len]; exact r1) ⟨rfl,rfl⟩)) ?_ fun _ _ e=>e)
     rintro ⟨⟨⟩,st'⟩ s' ⟨rfl,har,hf,hsz⟩
     dsimp only
     have em:=kat_snds (vs:=vs) rfl har
     refine Fi (anC g6 rfl ?_)
     have psz:p.toList.length=vs.length:=by rw [abr]; exact hsz
     refine Fi (amG g6 rfl ?_ (abV _) (by rw [em,abp,aao,psz]; omega))
     rw [hf]
     simp only [bne_self_eq_false,ae6,if_false]
     refine aar ?_
     show P _ { s with heap:=sortedHeap s.heap a vs ((arrOf st').map (·.2)) }
     rw [em]
     exact h p.toList r4 r2 r3
theorem GP {x:aau} {ks:List (Str × Str)} {T:List aau->Prop} {Q:aau->aat->Prop} (hn:ks.Nodup) (h6:ks.length<=6)
   (col:∀ (R:List aau->aat->Prop),(∀ (h':ae9) (tk:Nat) (vs:List aau),(∀ b o,s.heap.get? b=some o->h'.get? b=some o)->fj h' h'.objs.size vs ks->T vs->R vs { s with heap:=h',toks:=tk })->wpAny (model prog w) A.in1 (collect x) R E s)
   (h:∀ (h1 h':ae9) (tk:Nat) (vs:List aau) (l:List Nat) (n:Nat),(∀ b o,s.heap.get? b=some o->h1.get? b=some o)->(∀ b o,h1.get? b=some o->h'.get? b=some o)->T vs->vs.length=ks.length->h'.get? h1.objs.size=some (seqObj "list" (l.map fun i=>vs.getD i acR).toArray n) ->
     (∀ i∈l,i<ks.length)->(l.map fun i=>ks.getD i (default,default)).Perm ks->(l.map fun i=>ks.getD i (default,default)).Pairwise (fun x y=>sy x y=true)->Q (.ref h1.objs.size) { s with heap:=h',toks:=tk }) :
   wpAny (model prog w) A (call (.builtin "sorted") [x]) Q E s:=by
 refine (ahC aqo apB apC (apD _) ?_)
 unfold agM.«sorted»
 refine (Fi (m:=checkCount "sorted" 1 1 _) (aar ?_))
 refine Fi (col _ fun h' tk vs kk hS hT=>?_)
 have hl:=hS.len
 have mq:sizeLine=16777216:=acO
 refine Fi (amD ?_ (by omega))
 have g0:(h'.push (seqObj "list" vs.toArray 0)).get? h'.objs.size=some (seqObj "list" vs.toArray 0):=aa8 _ rfl
 refine Fi (adQ (adP aod (s:={ s with heap:=h'.push (seqObj "list" vs.toArray 0),toks:=tk }) ⟨_,g0,rfl⟩ anz
   (Lx (s:={ s with heap:=h'.push (seqObj "list" vs.toArray 0),toks:=tk }) g0 (hS.keep fun b o _ e=>aap _ e) hn h6 fun l l1 l2 l3=>⟨_,rfl,?_⟩) (aoe _)))
 obtain ⟨n,gn⟩:=aoO (vs:=vs) (out:=(l.map fun i=>vs.getD i acR).toArray) g0
 refine aar ⟨_,rfl,h h' _ tk vs l n kk (fun b o e1=>?_) hT hl gn l1 l2 l3⟩
 have lt:b<h'.objs.size:=abf e1
 show (sortedHeap (h'.push (seqObj "list" vs.toArray 0)) h'.objs.size vs _).get? b=some o
 rw [aof (acu lt) (by rw [aeV]; exact afE lt)]
 exact aap _ e1
end
def kP (k:Str × Str):List Key:=[adz k.1,adz k.2]
theorem GQ {a b:Str × Str} (h:kP a=kP b):a=b:=by
 unfold kP at h
 injection h with h1 h2
 injection h2 with h2 _
 exact anT (afA h1) (afA h2)
section
variable {X:Cx}
theorem pZ {α β:Type} {F:α->β->Prop}:∀ {l₁:List α} {l₂:List β},acN F l₁ l₂->∀ {i:Nat} {b:β},l₂[i]?=some b->∃ a,l₁[i]?=some a/\F a b
 | _,_,.nil,i,b,e=>by simp at e
 | _,_,.cons h r,i,b,e=>by
   cases i with
   | zero=>cases (show some _=some b from e); exact ⟨_,rfl,h⟩
   | succ i=>exact pZ r (by simpa using e)
theorem mL {H:Hp}:∀ {kvs:List (List Key × V)} {xs:List (List Key × abm × aau)},acN (fun (p:List Key × V) (q:List Key × abm × aau)=>p.1=q.1/\H q.2.1=some (.tup (p.1.map kV))/\RelV p.2 q.2.2) kvs xs->kvs.map (·.1)=xs.map (·.1)
 | _,_,.nil=>rfl
 | _,_,.cons h r=>by rw [abA,abA,h.1,mL r]
theorem DK {h:ae9} {a:abm}:∀ {vs:List aau} {ks:List (Str × Str)},vs.length=ks.length->(∀ i,i<ks.length->vX h a (vs.getD i acR) (ks.getD i (default,default)))->fj h a vs ks
 | [],[],_,_=>.nil
 | v :: vs,k :: ks,hl,f=>.cons (f 0 (amr _)) (DK (by simpa using hl) fun i hi=>f (i+1) (Nat.succ_lt_succ hi))
 | [],_ :: _,hl,_=>by simp at hl
 | _ :: _,[],hl,_=>by simp at hl
theorem Bl (hc:X.calm=true):gK X (.builtin "sorted") (fun xs H Q=>∃ (p:abm) (kvs:List (List Key × V)) (ks:List (Str × Str)),xs=[.ref p]/\H p=some (.dT kvs)/\kvs.map (·.1)=ks.map kP/\ks.length<=6 /\
   ∀ (l:abm) (as:List abm) (ks':List (Str × Str)),H l=none->ks'.Perm ks->ks'.Pairwise (fun x y=>sy x y=true)->as.length=ks'.length->(∀ (i:Nat) (a:abm) (k:Str × Str),as[i]?=some a->ks'[i]?=some k->H a=some (.tup ((kP k).map kV)))->Q (.ref l) (upd H l (.lst (as.map V.ref)))):=by
 intro pins s σ H xs us Q I r h
 obtain ⟨p,kvs,ks,rfl,hp,hk,h6,q⟩:=h
 obtain ⟨u,rfl,ru⟩:=vals1 r
 cases ru
 obtain ⟨z,d,xs,rel,o,es,ep,g1,g2,g3,g4,g5⟩:=(show cu X.prog X.w H s.heap p (.dT kvs) from I.hok p _ hp)
 have hkx:xs.map (·.1)=ks.map kP:=by
   rw [<- hk]
   exact (mL rel).symm
 have hn:ks.Nodup:=by
   rw [hkx] at g5
   rw [aa2] at g5 ⊢
   rw [acK] at g5
   exact g5.imp fun {a b} h e=>h (by rw [e])
 have hxl:xs.length=ks.length:=by have:=congrArg af6 hkx; simpa using this
 have Z9:es.size=ks.length:=by rw [<- abr,g4,aao,hxl]
 have mq:sizeLine=16777216:=acO
 have fact:∀ i,i<ks.length->(es[i]?).map (·.key)=some (abk (xs.map (·.2.1))[i]!)/\H (xs.map (·.2.1))[i]! = some (.tup ((kP (ks.getD i (default,default))).map kV)):=fun i hi=>by
   have ex:xs[i]?=some xs[i]:=aaq (by omega)
   obtain ⟨kv,ekv,e1,e2,_⟩:=pZ rel ex
   have ea:(xs.map (·.2.1))[i]! = xs[i].2.1:=by
     rw [ana,aaJ,ex]; rfl
   rw [ea]
   refine ⟨?_,?_⟩
   . rw [<- adT,g4,aaJ,ex]; rfl
   . rw [e1] at e2
     have e3:(xs.map (·.1))[i]?=some xs[i].1:=by rw [aaJ,ex]; rfl
     rw [hkx,aaJ,aaq hi] at e3
     have e4:kP ks[i]=xs[i].1:=ac8 e3
     have e5:ks.getD i (default,default)=ks[i]:=by simp [afp,hi]
     rw [e5,e4]; exact e2
 refine GP (T:=fun vs=>∀ i,i<ks.length->vs.getD i acR=.ref (xs.map (·.2.1))[i]!) hn h6 (fun R hR=>anA (A:=X.A.in1) (Qw (es:=es) (ep:=ep) d) (by simpa using I.ok.hd hc) ⟨o,g1,g2,g3⟩ (by omega) fun h' tk acc kk hacc=>?_) fun h1 h' tk vs l n k1 k2 hT hvl ho l1 l2 l3=>?_
 . have al:acc.toList.length=ks.length:=by rw [abr]; exact hacc.1.trans Z9
   have at':∀ i,i<ks.length->acc.toList.getD i acR=.ref (xs.map (·.2.1))[i]!:=fun i hi=>by
     have e1:acc.toList[i]?=some acc.toList[i]:=aaq (by omega)
     obtain ⟨e,ee,ev⟩:=hacc.2 i acc.toList[i] (by rw [<- adT]; exact e1)
     have f:=(fact i hi).1
     rw [ee] at f
     have f':e.key=abk (xs.map (·.2.1))[i]!:=ac8 f
     simp only [afp,e1,Option.getD_some]
     rw [ev,f']
   refine hR h' tk acc.toList kk (DK al fun i hi=>?_) at'
   rw [at' i hi]
   obtain ⟨_,its,rv,ob,e1,e2,⟨m,e3⟩,_⟩:=(show cu X.prog X.w H s.heap _ (.tup ((kP (ks.getD i (default,default))).map kV)) from I.hok _ _ (fact i hi).2)
   have g:=kk _ _ e1
   obtain ⟨v1,v2,rfl,r1,r2⟩:=vals2 (show Vals [V.str _,V.str _] its from rv)
   obtain ⟨t1,rfl⟩:=r1
   obtain ⟨t2,rfl⟩:=r2
   exact ⟨_,ob,m,t1,t2,rfl,acu (abf g),g,e2,e3⟩
 . have I1:Inv X pins σ H { s with heap:=h1,toks:=tk }:=I.kept k1
   have ll:l.length=ks.length:=by have:=l2.length_eq; simpa using this
   have eo:(l.map fun i=>vs.getD i acR)=(l.map fun i=>(xs.map (·.2.1))[i]!).map abk:=by
     rw [adJ]
     exact afa fun i hi=>hT i (l1 i hi)
   refine ⟨.ref h1.objs.size,_,I1.laid (t':=tk) (o:=.lst ((l.map fun i=>(xs.map (·.2.1))[i]!).map V.ref)) k2 (aav _) ⟨by rw [aao,aao]; omega,(l.map fun i=>(xs.map (·.2.1))[i]!).map abk,n,?_,by rw [<- eo]; exact ho⟩,rfl,
     q _ _ _ (I1.hok.fresh (aav _)) l2 l3 (by simp) fun j a k ea ek=>?_⟩
   . generalize (l.map fun i=>(xs.map (·.2.1))[i]!)=ys
     induction ys with
     | nil=>exact .nil
     | cons y ys ih=>exact .cons rfl ih
   . rw [aaJ] at ea ek
     cases ej:l[j]? with
     | none=>rw [ej] at ea; cases ea
     | some i =>
       rw [ej] at ea ek
       cases (show some _=some a from ea)
       cases (show some _=some k from ek)
       exact (fact i (l1 i (abg ej))).2
end
end L2
namespace L2
open PySem PySem.Spec PyProof.Rows
def Qz:List Str->List Str->Bool
 | [],[]=>false
 | [],_ :: _=>true
 | _ :: _,[]=>false
 | x :: xs,y :: ys=>if x=y then Qz xs ys else slt x y
section
open PySem.SeqAt
open PySem.AutoSeq1 (wpAny_loadPart')
open PySem.MeetsSeq PySem.MeetsSeq2 PySem.MeetsSeq3
theorem yF (l b:abm) (xs ys:Array aau) (n n2:Nat) (dd dd2:Option abm) (sl sl2:Array (Option aau)) (ss tt:List Str) (hi:an0 xs.toList ss) (hj:an0 ys.toList tt) :
   Meets (agM.«tuple.__lt__» ⟨[.ref l,.ref b],[]⟩)
     (fun _ R s=>s.heap.get? l=some { cls:=.type "tuple",dict:=dd,data:=.seq xs n,slots:=sl }/\s.heap.get? b=some { cls:=.type "tuple",dict:=dd2,data:=.seq ys n2,slots:=sl2 }/\R (.ok (.ret (.bool (Qz ss tt)))) s) :=
 .of_wp fun prog w A R s h=>by
   obtain ⟨hp,g,d,tk,os⟩:=s
   obtain ⟨hl,hb,h⟩:=h
   have f2:=AutoSeq1.sub_tuple_tuple
   have z1:xs.size=ss.length:=by rw [<- abr,<- hi.strs,aao]
   have z2:ys.size=tt.length:=by rw [<- abr,<- hj.strs,aao]
   wp_walk using anD hl,anD hb,anj _ (fun rest b s'=>b.1=none/\s'=⟨hp,g,d,tk,os⟩/\∃ (vs ws:List aau) (ss' tt':List Str),rest=vs.zip ws/\an0 vs ss'/\an0 ws tt'/\ss'.length+ys.size=tt'.length+xs.size/\R (.ok (.ret (.bool (Qz ss' tt')))) ⟨hp,g,d,tk,os⟩) _
   case turn =>
     rintro ⟨y,x⟩ rest b s' ⟨hb',rfl,vs,ws,ss',tt',hz,hv,hw,len,hR⟩
     cases hv with
     | nil=>rw [List.zip_nil_left] at hz; cases hz
     | cons a t hv' =>
       cases hw with
       | nil=>rw [List.zip_nil_right] at hz; cases hz
       | cons c u hw' =>
         rw [aqF] at hz
         injection hz with q1 q2
         injection q1 with q3 q4
         subst q3 q4
         have hR':R (.ok (.ret (.bool (if a=c then Qz _ _ else slt a c)))) ⟨hp,g,d,tk,os⟩:=hR
         simp only [acM] at len
         obtain ⟨e,he,hiff⟩:∃ e,SeqAt.EqAt A.in1 ⟨hp,g,d,tk,os⟩ (.str a t) (.str c u) e/\(e=true↔a=c):=⟨(a == c),SeqAt.EqAt.str_str a t c u,by simp⟩
         refine Fi (he prog w _ _ ?_)
         cases e with
         | true =>
           rw [if_pos (hiff.mp rfl)] at hR'
           wp_walk
           exact ⟨rfl,rfl,_,_,_,_,q2,hv',hw',by omega,hR'⟩
         | false =>
           rw [if_neg (fun q=>absurd (hiff.mpr q) abn)] at hR'
           have hri:∀ (E:aau->aat->Prop) (Q:aau->aat->Prop),Q (.bool (slt a c)) ⟨hp,g,d,tk,os⟩->wpAny (model prog w) A.in1 (richCompare .Lt (.str a t) (.str c u)) Q E ⟨hp,g,d,tk,os⟩:=fun E Q h=>aqd h
           wp_walk using hri
           exact ⟨_,rfl,by simpa using hR'⟩
   case fin =>
     rintro ⟨b1,b2⟩ s' ⟨hb',rfl,vs,ws,ss',tt',hz,hv,hw,len,hR⟩
     simp only at hb'
     subst hb'
     have e:Qz ss' tt'=decide (xs.size<ys.size):=by
       cases hv with
       | nil =>
         cases hw with
         | nil=>simp only [ahW] at len; exact (decide_eq_false (by omega)).symm
         | cons c u _=>simp only [ahW,acM] at len; exact (decide_eq_true (by omega)).symm
       | cons a t _ =>
         cases hw with
         | nil=>simp only [ahW,acM] at len; exact (decide_eq_false (by omega)).symm
         | cons c u _=>rw [aqF] at hz; cases hz
     rw [e] at hR
     wp_walk
     exact ⟨_,rfl,by simpa [Builtin.Tuple.tupleCompareSizes] using hR⟩
   case h=>exact ⟨rfl,rfl,xs.toList,ys.toList,ss,tt,rfl,hi,hj,by omega,h⟩
end
def Yj (K:aas):R2:=fun x y H Q=>(∃ i j,x=.int i/\y=.int j/\Q (.bl (decide (i<j))) H)∨∃ a b k k',x=.ref a/\y=.ref b/\bA K H a ((kP k).map kV)/\bA K H b ((kP k').map kV)/\Q (.bl (sy k k')) H
theorem V3 {X:Cx} (hu:X.A.units<cLine):gD X (compareOp .Lt) (Yj X.K):=by
 intro pins s σ H x y v u Q I rx ry h
 rcases h with ⟨i,j,rfl,rfl,q⟩ | ⟨a,b,k,k',rfl,rfl,ha,hb,q⟩
 . exact X4 pins s σ H _ _ v u Q I rx ry ⟨i,j,rfl,rfl,q⟩
 . cases (show v=abk a from rx)
   cases (show u=abk b from ry)
   obtain ⟨its,r1,p1,_⟩:=I.tuple ha
   obtain ⟨its2,r2,p2,_⟩:=I.tuple hb
   have i1:an0 its.toArray.toList [k.1,k.2]:=Js (ys:=[k.1,k.2]) (by have r':Vals [V.str k.1,V.str k.2] its:=r1; simpa using r')
   have i2:an0 its2.toArray.toList [k'.1,k'.2]:=Js (ys:=[k'.1,k'.2]) (by have r':Vals [V.str k'.1,V.str k'.2] its2:=r2; simpa using r')
   obtain ⟨⟨cls,dd,data,sl⟩,g1,c1,n1,d1⟩:=id p1
   obtain ⟨⟨cls2,dd2,data2,sl2⟩,g2,c2,n2,d2⟩:=id p2
   simp only at c1 d1 c2 d2
   subst c1 d1 c2 d2
   refine ape (op:=.Lt) ⟨_,g1,rfl⟩ ⟨_,g2,rfl⟩ PySem.F.slot_tuple_lt PySem.F.entry_tuple_lt (PySem.F.args_tuple_lt_2 _ _) (yF a b its.toArray its2.toArray n1 n2 dd dd2 sl sl2 _ _ i1 i2)
     ⟨g1,g2,show amP (sy k k')≠ap4/\EP X pins σ Q (.bool (sy k k')) s from ⟨(fun x=>nomatch x),⟨.bl (sy k k'),H,I,rfl,q⟩⟩⟩ hu
end L2
namespace L2
open PySem PySem.Spec PyProof.Rows
def bZ (H H':Hp):Prop:=∀ b xs,H b=some (.tup xs)->H' b=some (.tup xs)
theorem bZ.refl (H:Hp):bZ H H:=fun _ _ h=>h
theorem bZ.trans {H H1 H2:Hp} (a:bZ H H1) (b:bZ H1 H2):bZ H H2:=fun c o h=>b c o (a c o h)
theorem Same.tups {H H':Hp} (s:Same H H'):bZ H H':=fun b _ e=>s b _ e
theorem bZ.new {H H1:Hp} {p:abm} {o:HO} (s:bZ H H1) (h:H1 p=none):bZ H (upd H1 p o):=fun b u e=>by rw [aF (aD (s b u e) h)]; exact s b u e
theorem bZ.put {H H1:Hp} {p:abm} {o u:HO} (s:bZ H H1) (h:H1 p=some u) (nt:∀ xs,u≠.tup xs):bZ H (upd H1 p o):=fun b xs e=>by
 have e1:=s b xs e
 have ne:b≠p:=fun z=>by subst z; rw [h] at e1; exact nt xs (ac8 e1)
 rw [aF ne]; exact e1
theorem cL.more {H1 H H':Hp} {D:abm} {ys:List V} (G:cL H1 H D ys) (s:Same H H'):cL H1 H' D ys:=⟨s _ _ G.at',G.same.trans s⟩
theorem aL {α β:Type} {F:α->β->Prop}:∀ {l₁:List α} {l₂:List β},acN F l₁ l₂->∀ {i:Nat} {a:α},l₁[i]?=some a->∃ b,l₂[i]?=some b/\F a b
 | _,_,.nil,i,b,e=>by simp at e
 | _,_,.cons h r,i,b,e=>by
   cases i with
   | zero=>cases (show some _=some b from e); exact ⟨_,rfl,h⟩
   | succ i=>exact aL r (by simpa using e)
theorem aq {α β:Type} {F G:α->β->Prop} (f:∀ a b,F a b->G a b):∀ {l₁:List α} {l₂:List β},acN F l₁ l₂->acN G l₁ l₂
 | _,_,.nil=>.nil
 | _,_,.cons h r=>.cons (f _ _ h) (aq f r)
theorem aM {α β:Type} {F:α->β->Prop}:∀ {l₁ m₁:List α} {l₂ m₂:List β},acN F l₁ l₂->acN F m₁ m₂->acN F (l₁++m₁) (l₂++m₂)
 | _,_,_,_,.nil,q=>q
 | _,_,_,_,.cons h r,q=>.cons h (aM r q)
theorem vY {α β:Type} {F:α->β->Prop}:∀ {l₁:List α} {l₂:List β},acN F l₁ l₂->acN F l₁.reverse l₂.reverse
 | _,_,.nil=>.nil
 | _,_,.cons h r=>by rw [amU,amU]; exact aM (vY r) (.cons h .nil)
theorem uy {α β:Type} {F:α->β->Prop}:∀ {l₁:List α} {l₂:List β} (n:Nat),acN F l₁ l₂->acN F (l₁.take n) (l₂.take n)
 | _,_,0,_=>by rw [amY,amY]; exact .nil
 | _,_,n+1,.nil=>.nil
 | _,_,n+1,.cons h r=>.cons h (uy n r)
section
variable {g:BI->TG} {te:BI->TE} {σ0:St} {D:abm} {End:Hp->Prop} {H1:Hp}
theorem comp_map {K:aas} {a:abm} {xs:List V} {ys:List V} (hD:H1 D=none) (hT:bA K H1 a xs) (hz:xs.length<=sizeLine) (hl:ys.length=xs.length)
   (turn:∀ (i:Nat) (x:V) (H':Hp),xs[i]?=some x->Same H1 H'->∀ b (R:VK),(∀ eV y,ys[i]?=some y->Same H' eV->R y eV)->g b x σ0 H' fun σ2 H2=>te b σ2 H2 R)
   (fin:∀ H',Same H1 H'->H' D=some (.lst ys)->End H') :
   ∃ W:Nat->Nat->Hp->Prop,(∃ m,W 0 m (upd H1 D (.lst [])))/\∀ b,mH (U0 K a) (g b) (K9) (oY D (te b)) σ0 End W :=
 jt (xs:=xs) (fun i H'=>cL H1 H' D (ys.take i)) (cL.start hD) (fun i H' _ G=>G.same.tup hT) (fun H' G=>fin H' G.same (by have e:=G.at'; rw [<- hl,adi] at e; exact e)) (fun i x H' hx hi G b =>
   turn i x H' hx G.same b _ fun eV y hy s=>⟨_,(G.more s).at',by rw [abo]; omega,nx hi (by
     show cL H1 _ D (ys.take (i+1))
     rw [abj,hy]
     exact (G.more s).put hD _)⟩)
end
def NxS (n i:Nat) (Pv:Nat->St->Hp->Prop) (σ:St) (H:Hp):Prop:=∃ m',m'<n-i/\(m'=n-(i+1)/\i+1<=n/\Pv (i+1) σ H)
theorem nxs {n i:Nat} {Pv:Nat->St->Hp->Prop} {σ:St} {H:Hp} (hi:i<n) (h:Pv (i+1) σ H):NxS n i Pv σ H:=⟨n-(i+1),by omega,rfl,hi,h⟩
def WS (n:Nat) (Pv:Nat->St->Hp->Prop):Nat->Nat->St->Hp->Prop:=fun i m σ H=>m=n-i/\i<=n/\Pv i σ H
section
variable {g:TG} {act:qR} {End:St->Hp->Prop}
theorem Yk {J:It} (n:Nat) (Pv:Nat->St->Hp->Prop) (stop:∀ σ H,Pv n σ H->J.stop n H/\End σ H)
   (turn:∀ i σ H,i<n->Pv i σ H->J.go i H/\∀ x H',J.Vh i H x H'->g x σ H' fun σ2 H2=>act σ2 H2 (NxS n i Pv)):CT J g K9 act End (WS n Pv):=by
 intro i m σ H ⟨hm,hi,p⟩
 subst hm
 by_cases hlt:i<n
 . exact .inr ⟨(turn i σ H hlt p).1,fun x H' y=>(turn i σ H hlt p).2 x H' y⟩
 . have e:i=n:=by omega
   subst e
   exact .inl (stop σ H p)
theorem sG {K:aas} {a:abm} {xs:List V} (Pv:Nat->St->Hp->Prop) (hl:∀ i σ H,i<=xs.length->Pv i σ H->bA K H a xs) (stop:∀ σ H,Pv xs.length σ H->End σ H)
   (turn:∀ i x σ H,xs[i]?=some x->i<xs.length->Pv i σ H->g x σ H fun σ2 H2=>act σ2 H2 (NxS xs.length i Pv)):CT (U0 K a) g K9 act End (WS xs.length Pv) :=
 Yk xs.length Pv (fun σ H p=>⟨⟨xs,hl _ σ H (aav _) p,aav _⟩,stop σ H p⟩) fun i σ H hi p =>
   ⟨⟨xs,xs[i],hl i σ H (afN hi) p,by simp [hi]⟩,fun x H' ⟨e,y⟩=>by subst e; exact turn i x σ _ (y xs (hl i σ _ (afN hi) p)) hi p⟩
theorem Jy {K:aas} {a:abm} {xs:List V} (Pv:Nat->St->Hp->Prop) (hl:∀ i σ H,i<=xs.length->Pv i σ H->bY K H a xs) (stop:∀ σ H,Pv xs.length σ H->End σ H)
   (turn:∀ i x σ H,xs[i]?=some x->i<xs.length->Pv i σ H->g x σ H fun σ2 H2=>act σ2 H2 (NxS xs.length i Pv)):CT (X3 K a) g K9 act End (WS xs.length Pv) :=
 Yk xs.length Pv (fun σ H p=>⟨⟨xs,hl _ σ H (aav _) p,aav _⟩,stop σ H p⟩) fun i σ H hi p =>
   ⟨⟨xs,xs[i],hl i σ H (afN hi) p,by simp [hi]⟩,fun x H' ⟨e,y⟩=>by subst e; exact turn i x σ _ (y xs (hl i σ _ (afN hi) p)) hi p⟩
theorem Yl {n:Nat} {Pv:Nat->St->Hp->Prop} {σ:St} {H:Hp} (h:Pv 0 σ H):∃ m,WS n Pv 0 m σ H:=⟨n,rfl,abV _,h⟩
end
end L2
namespace HT
open PySem PySem.Spec PyProof.Rows
section
variable {prog:acs} {w:adH} {A:aeN} {E:aau->aat->Prop} {s:aat}
theorem QB {t b:abm} {ws:List aau} {Q:aau->aat->Prop} (ht:aq9 s.heap t (#[]:Array aau)) (hb:aq9 s.heap b ws.toArray)
   (h1:Q (.ref b) s):wpAny (model prog w) A (binaryOp .Add (.ref t) (.ref b)) Q E s:=by
 obtain ⟨⟨cls,dd,data,sl⟩,ho,hc,n,hd⟩:=id ht
 obtain ⟨⟨cls2,dd2,data2,sl2⟩,ho2,hc2,n2,hd2⟩:=id hb
 simp only at hc hd hc2 hd2
 subst hc hd hc2 hd2
 exact aq4 ⟨_,ho,rfl⟩ ⟨_,ho2,rfl⟩ aoY aqu amL amA (amq _ _)
     (tuple_addW0 t b #[] ws.toArray n n2 dd dd2 sl sl2 (by simp)) ⟨ho,ho2,h1⟩
theorem pA {t sl:abm} {items:Array aau} {vl vu:aau} {lo hi:Option Int} {Q:aau->aat->Prop} (ht:aq9 s.heap t items) (hs:s.heap.IsSliceOf sl vl vu .none) (pl:aqb vl lo) (pu:aqb vu hi)
   (hw:d8 items.size 0 lo=0/\d8 items.size items.size hi=items.size)
   (h:Q (.ref t) s):wpAny (model prog w) A (getItem (.ref t) (.ref sl)) Q E s:=by
 obtain ⟨os,hos,hcs,hds⟩:=id hs
 have hTs:s.TypeIs (.ref sl) "slice":=⟨os,hos,hcs⟩
 unfold getItem
 try with_reducible refine adQ ?_
 first | refine Fi (aar ?_) | skip
 refine Fi (aqO ht.typeIs (by decide) ?_)
 refine Fi (aeL (name:=ahr "__getitem__") ht.typeIs agb
   (adP agb ht.typeIs aqk ?_ (aqv _ _)))
 show wpAny _ _ (anP (.ref t) >>= _) _ _ s
 refine Fi (tupleItemsOf_ ht ?_)
 refine Fi (aiM hTs ?_)
 rw [if_pos (by decide)]
 refine Fi (jT hs pl pu ?_)
 have hyes:((((d8 items.size 0 lo:Nat):Int) == 0 && (1:Int) == 1 && (d8 items.size items.size hi-d8 items.size 0 lo) == items.size)=true):=by
   rw [hw.1,hw.2]; simp
 show wpAny _ _ (if (((d8 items.size 0 lo:Nat):Int) == 0 && (1:Int) == 1 && (d8 items.size items.size hi-d8 items.size 0 lo) == items.size)=true then _ else _) _ _ s
 rw [if_pos hyes]
 unfold Builtin.Tuple.tupleIsExact
 refine Fi ?_
 refine Fi (aiM ht.typeIs ?_)
 refine aar ?_
 rw [if_pos (by decide)]
 refine Fi (aiY ?_)
 exact aar ⟨_,rfl,aar h⟩
end
end HT
namespace L2
open PySem PySem.Spec PyProof.Rows
section
variable {X:Cx}
structure agC (x y:V) (H:Hp) (Q:VK):Prop where
 h:∃ a b xs ys,x=.ref a/\y=.ref b/\H a=some (.tup xs)/\H b=some (.tup ys)/\xs.length+ys.length<=sizeLine/\∀ p H',H' p=some (.tup (xs++ys))->Same H H'->Q (.ref p) H'
theorem qT:gD X (binaryOp .Add) agC:=by
 intro pins s σ H x y v u Q I rx ry ⟨h⟩
 obtain ⟨a,b,xs,ys,rfl,rfl,ha,hb,hz,q⟩:=h
 by_cases hx:xs=[]
 . subst hx
   cases rx
   cases ry
   obtain ⟨its,r1,p1,_⟩:=I.tuple (bA.of ha)
   obtain ⟨its2,r2,p2,_⟩:=I.tuple (bA.of hb)
   have e:its=[]:=r1.nU.mpr rfl
   subst e
   exact HT.QB p1 p2 ⟨.ref b,H,I,rfl,q b H hb (Same.refl H)⟩
 . refine Vn pins s σ H _ _ v u Q I rx ry ⟨a,b,xs,ys,rfl,rfl,bA.of ha,bA.of hb,hx,hz,fun e=>?_,fun _ p hp=>q p _ ao ((Same.refl H).upd hp)⟩
   subst e
   exact q a H (by rw [afK]; exact ha) (Same.refl H)
structure SlA (x:V) (lo hi:Option Int) (H:Hp) (Q:VK):Prop where
 h:∃ a xs,x=.ref a/\H a=some (.tup xs)/\∀ p H',H' p=some (.tup (mj xs lo hi))->Same H H'->Q (.ref p) H'
theorem Bm:SlR X SlA:=by
 intro pins s σ H x v vl vu lo hi sl Q I rx hs pl pu ⟨h⟩
 obtain ⟨a,xs,rfl,ha,q⟩:=h
 by_cases hw:HT.d8 xs.length 0 lo=0/\HT.d8 xs.length xs.length hi=xs.length
 . cases rx
   obtain ⟨its,r,ht,hz⟩:=I.tuple (bA.of ha)
   have hlen:its.toArray.size=xs.length:=by rw [abp]; exact r.length.symm
   refine ⟨"tuple",_,PyProof.Rows.slot_tuple_getitem.lookup,ht.typeIs,?_⟩
   refine HT.pA ht hs pl pu (by rw [hlen]; exact hw) ⟨.ref a,H,I,rfl,q a H ?_ (Same.refl H)⟩
   rw [ha]
   unfold mj
   rw [hw.1,hw.2,aoa,apy,adi]
 . exact Py pins s σ H _ v vl vu lo hi sl Q I rx hs pl pu ⟨a,xs,rfl,bA.of ha,hw,fun p hp=>q p _ ao ((Same.refl H).upd hp)⟩
end
end L2
namespace HT
open PySem PySem.Spec PyProof.Rows
section
variable {prog:acs} {w:adH} {A:aeN} {E:aau->aat->Prop} {s:aat}
end
end HT
namespace L2
open PySem PySem.Spec PyProof.Rows
section
variable {X:Cx}
end
end L2
namespace HT
open PySem PySem.Spec PyProof.Rows
theorem DN (l b:abm) (x:aau) (xs:List aau) (n n2:Nat) (dd dd2:Option abm) (sl sl2:Array (Option aau)) :
   Meets (agM.«list.__ne__» ⟨[.ref l,.ref b],[]⟩) (fun _ R s=>s.heap.get? l=some { cls:=.type "list",dict:=dd,data:=.seq ⟨x :: xs⟩ n,slots:=sl }/\s.heap.get? b=some { cls:=.type "list",dict:=dd2,data:=.seq #[] n2,slots:=sl2 }/\R (.ok (.ret (amP true))) s) :=
 .of_wp fun prog w A R s h=>by
   obtain ⟨hp,g,d,tk,os⟩:=s; obtain ⟨hl,hb,h⟩:=h; have f2:=AutoSeq1.sub_list_list
   wp_walk using anD hl,anD hb
   exact ⟨_,rfl,h⟩
section
variable {prog:acs} {w:adH} {A:aeN} {E:aau->aat->Prop} {s:aat}
theorem GR {t b:abm} {x:aau} {xs:List aau} {Q:aau->aat->Prop} (ht:s.heap.IsList t ⟨x :: xs⟩) (hb:s.heap.IsList b (#[]:Array aau)) (hu:A.units<cLine)
   (h:Q (.bool true) s):wpAny (model prog w) A (compareOp .NotEq (.ref t) (.ref b)) Q E s:=by
 obtain ⟨⟨cls,dd,data,sl⟩,ho,hc,n,hd⟩:=id ht
 obtain ⟨⟨cls2,dd2,data2,sl2⟩,ho2,hc2,n2,hd2⟩:=id hb
 simp only at hc hd hc2 hd2
 subst hc hd hc2 hd2
 exact ape (op:=.NotEq) ⟨_,ho,rfl⟩ ⟨_,ho2,rfl⟩ PySem.F.slot_list_ne PySem.F.entry_list_ne (PySem.F.args_list_ne_2 _ _) (DN t b x xs n n2 dd dd2 sl sl2)
   ⟨ho,ho2,show amP true≠ap4/\Q (.bool true) s from ⟨(fun x=>nomatch x),h⟩⟩ hu
end
end HT
namespace L2
open PySem PySem.Spec PyProof.Rows
section
variable {X:Cx}
structure NeL (x y:V) (H:Hp) (Q:VK):Prop where
 h:∃ a b xs,x=.ref a/\y=.ref b/\H a=some (.lst xs)/\H b=some (.lst [])/\Q (.bl (!xs.isEmpty)) H
theorem agD (hu:X.A.units+64<cLine):gD X (compareOp .NotEq) NeL:=by
 intro pins s σ H x y v u Q I rx ry ⟨h⟩
 obtain ⟨a,b,xs,rfl,rfl,ha,hb,q⟩:=h
 cases xs with
 | nil=>exact rY hu pins s σ H _ _ v u Q I rx ry ⟨.list [],.list [],.lst (bY.of ha) .nil,.lst (bY.of hb) .nil,rfl,rfl,q⟩
 | cons y ys =>
   cases rx
   cases ry
   obtain ⟨its,r1,p1,_⟩:=I.list (bY.of ha)
   obtain ⟨its2,r2,p2,_⟩:=I.list (bY.of hb)
   have e:its2=[]:=r2.nU.mpr rfl
   subst e
   cases r1 with
   | cons r3 r4=>exact HT.GR p1.isList p2.isList (by omega) ⟨.bl true,H,I,rfl,q⟩
end
end L2
namespace L2
open PySem PySem.Spec PyProof.Rows
structure SA (X:Cx) (es:List Expr) (t:TA):Prop where
 h:PA X es t
structure ST (X:Cx) (e:Expr) (t:TT):Prop where
 h:PT X e t
section
variable {X:Cx} {e a b c o tg elt iter:Expr} {es rest':List Expr} {te ta tb to:TE} {t:TA} {pos p p2 pos' apos cpos spos:Pos} {st:ane} {rest:List ane} {ts u:TS} {tA UW:TT} {lo hi:Option Expr} {tl th:TO} {x:Str} {id T:String} {name:Str}
 {scope eY:Scope} {own cap:List Str} {ix:List Nat} {wi:TI} {g:BI->TG} {tt:BI->TT} {tf:BI->TE} {ifs:List Expr} {i:Nat}
end
end L2
namespace gF
open PySem L2
theorem Jz {c:TT} {t e u:TS} {D:Ends} {σ:St} {H:Hp} (N:St->Hp->Prop) (h:∀ U:St->Hp->Prop,(∀ σ' H',N σ' H'->U σ' H')->Ph c t e { D with nx:=U } σ H) (hN:∀ σ' H',N σ' H'->u D σ' H'):Pg (Ph c t e) u D σ H:=h (u D) hN
theorem cV {te:TE} {g:TG} {u:TS} {D:Ends} {σ:St} {H:Hp} (h:∀ U:St->Hp->Prop,U=u D->te σ H fun x H1=>g x σ H1 U):Pg (Pk te g) u D σ H:=h (u D) rfl
theorem aX {G:Prop} (h:∀ R:Prop,R=G->R):G:=h G rfl
def isW:V->Bool
 | .int _=>true
 | _=>false
def Thing (K:aas) (H:Hp) (x:V):Prop:=(∃ T,iV K H x (.type T))/\∀ z,x=.str z->z.length<=sizeLine
def low (c:Nat):Bool:=97<=c && c<=122
def yG:V->Bool
 | .str z=>decide (1<=z.length) && decide (z.length<=8) && z.cps.toList.all low
 | _=>false
def qU (K:aas):Sp:=fun vs H Q _=>∃ x,vs=[x]/\Thing K H x/\Q (.bl (isW x)) H
def vZ (K:aas):Sp:=fun vs H Q _=>∃ x,vs=[x]/\Thing K H x/\∀ H',Same H H'->Q (.bl (yG x)) H'
section
variable {P:acs} {w:adH} {K:aas} {mg:Str->Option aau} {base:ae9} {t8 t6 tR tL:Tok}
theorem aac {H:Hp} {x:V} {T:String} (h:iV K H x (.type T)):(Bd T "int" && !Bd T "bool")=isW x:=by
 cases h <;> rfl
theorem aad (c:Nat):(!decide ((⟨#[c]⟩:Str).cps.toList<("a" : Str).cps.toList))=decide (97<=c)/\(!decide (("z" : Str).cps.toList<(⟨#[c]⟩:Str).cps.toList))=decide (c<=122):=by
 have ea:("a" : Str).cps.toList=[97]:=by decide +kernel
 have ez:("z" : Str).cps.toList=[122]:=by decide +kernel
 have es:(⟨#[c]⟩:Str).cps.toList=[c]:=rfl
 rw [ea,ez,es]
 constructor
 . rw [aeU]; simp [lt1]
 . rw [aeU]; simp [lt1]
end
end gF
namespace gF
open PySem L2
structure Good (z:Str):Prop where
 lo:1<=z.length
 hi:z.length<=8
 all:∀ c∈z.cps.toList,low c=true
theorem Good.yG {z:Str} (g:Good z):gF.yG (.str z)=true:=by
 have h:z.cps.toList.all low=true:=acL.mpr g.all
 simp [gF.yG,g.lo,g.hi,h]
abbrev Row:=Str × Int
structure aA where
 name:Str
 low:Int
 high:Int
 aQ:Int
 runs:List (List Row)
abbrev Letter:=(Str × Str) × Int × Option Int
def mO:Option Int->V
 | none=>.non
 | some i=>.int i
def cM (H:Hp) (v:V) (r:Row):Prop:=∃ a,v=.ref a/\H a=some (.tup [.str r.1,.int r.2])
def fu (H:Hp) (v:V) (rs:List Row):Prop:=∃ a vs,v=.ref a/\H a=some (.tup vs)/\acN (cM H) vs rs
def jN (H:Hp) (v:V) (rs:List (List Row)):Prop:=∃ a vs,v=.ref a/\H a=some (.tup vs)/\acN (fu H) vs rs
def bC (H:Hp) (v:V) (h:aA):Prop:=∃ a b,v=.ref a/\H a=some (.tup [.str h.name,.int h.low,.int h.high,.int h.aQ,b])/\jN H b h.runs
def fM (H:Hp) (v:V) (hs:List aA):Prop:=∃ a vs,v=.ref a/\H a=some (.tup vs)/\acN (bC H) vs hs
def cg (H:Hp) (v:V) (l:Letter):Prop:=∃ a,v=.ref a/\H a=some (.tup [.str l.1.1,.str l.1.2,.int l.2.1,mO l.2.2])
def fW (H:Hp) (v:V) (ls:List Letter):Prop:=∃ a vs,v=.ref a/\H a=some (.tup vs)/\acN (cg H) vs ls
def bK (H:Hp) (v:V) (hs:List aA) (ls:List Letter):Prop:=∃ a x y,v=.ref a/\H a=some (.tup [x,y])/\fM H x hs/\fW H y ls
section
variable {H H':Hp} {v:V} (s:bZ H H')
include s
theorem cM.ts {r:Row} (h:cM H v r):cM H' v r:=let ⟨a,e,g⟩:=h; ⟨a,e,s _ _ g⟩
theorem fu.ts {r:List Row} (h:fu H v r):fu H' v r:=let ⟨a,vs,e,g,p⟩:=h; ⟨a,vs,e,s _ _ g,aq (fun _ _ q=>cM.ts s q) p⟩
theorem jN.ts {r:List (List Row)} (h:jN H v r):jN H' v r:=let ⟨a,vs,e,g,p⟩:=h; ⟨a,vs,e,s _ _ g,aq (fun _ _ q=>fu.ts s q) p⟩
theorem bC.ts {r:aA} (h:bC H v r):bC H' v r:=let ⟨a,b,e,g,p⟩:=h; ⟨a,b,e,s _ _ g,jN.ts s p⟩
theorem fM.ts {r:List aA} (h:fM H v r):fM H' v r:=let ⟨a,vs,e,g,p⟩:=h; ⟨a,vs,e,s _ _ g,aq (fun _ _ q=>bC.ts s q) p⟩
theorem cg.ts {r:Letter} (h:cg H v r):cg H' v r:=let ⟨a,e,g⟩:=h; ⟨a,e,s _ _ g⟩
theorem fW.ts {r:List Letter} (h:fW H v r):fW H' v r:=let ⟨a,vs,e,g,p⟩:=h; ⟨a,vs,e,s _ _ g,aq (fun _ _ q=>cg.ts s q) p⟩
theorem bK.ts {hs:List aA} {ls:List Letter} (h:bK H v hs ls):bK H' v hs ls:=let ⟨a,x,y,e,g,p,q⟩:=h; ⟨a,x,y,e,s _ _ g,fM.ts s p,fW.ts s q⟩
end
structure iT (rs:List Row):Prop where
 ne:rs≠[]
 few:rs.length<=25
 names:∀ r∈rs,Good r.1
 rise:(rs.map afn).Pairwise (·<·)
structure cQ (h:aA):Prop where
 name:Good h.name
 wide:h.low<=h.high
 aQ:0<=h.aQ
 few:h.runs.length<=25
 runs:∀ r∈h.runs,iT r
def jf (h:aA):List Row:=h.runs.flatten
def bT (h:aA):List Str:=(jf h).map adB
def namesOf (hs:List aA):List Str:=hs.flatMap bT
structure cY (hs:List aA):Prop where
 lo:1<=hs.length
 hi:hs.length<=6
 all:∀ h∈hs,cQ h
 names:(hs.map aA.name).Nodup
 rows:(namesOf hs).Nodup
 few:(namesOf hs).length<=24
structure lg (hs:List aA) (l:Letter):Prop where
 sent:Good l.1.1
 taken:Good l.1.2
 least:1<=l.2.1
 most:∀ m,l.2.2=some m->l.2.1<=m
 GX:∃ h1∈hs,∃ h2∈hs,l.1.1∈bT h1/\l.1.2∈bT h2/\h1.name≠h2.name
structure dI (hs:List aA) (ls:List Letter):Prop where
 few:ls.length<=24
 all:∀ l∈ls,lg hs l
 rise:(ls.map adB).Pairwise (fun a b=>sy a b=true)
end gF
namespace gF
open PySem L2
inductive Da where
 | non | bl (b:Bool) | int (i:Int) | str (z:Str) | tup (xs:List Da) | oth
mutual
inductive cR (H:Hp):V->Da->Prop
 | non:cR H .non .non
 | bl (b:Bool):cR H (.bl b) (.bl b)
 | int (i:Int):cR H (.int i) (.int i)
 | str (z:Str) (h:z.length<=sizeLine):cR H (.str z) (.str z)
 | tup {a:abm} {vs:List V} {xs:List Da}:H a=some (.tup vs)->vs.length<=25->gG H vs xs->cR H (.ref a) (.tup xs)
 | lst {a:abm} {vs:List V}:H a=some (.lst vs)->cR H (.ref a) .oth
 | dic {a:abm} {kvs:List (Key × V)}:H a=some (.dK kvs)->cR H (.ref a) .oth
inductive gG (H:Hp):List V->List Da->Prop
 | nil:gG H [] []
 | cons {v:V} {vs:List V} {x:Da} {xs:List Da}:cR H v x->gG H vs xs->gG H (v :: vs) (x :: xs)
end
mutual
theorem cR.same {H H':Hp} (s:Same H H'):∀ {v:V} {d:Da},cR H v d->cR H' v d
 | _,_,.non=>.non
 | _,_,.bl b=>.bl b
 | _,_,.int i=>.int i
 | _,_,.str z h=>.str z h
 | _,_,.tup h l r=>.tup (s _ _ h) l (gG.same s r)
 | _,_,.lst h=>.lst (s _ _ h)
 | _,_,.dic h=>.dic (s _ _ h)
theorem gG.same {H H':Hp} (s:Same H H'):∀ {v:List V} {d:List Da},gG H v d->gG H' v d
 | _,_,.nil=>.nil
 | _,_,.cons h r=>.cons (cR.same s h) (gG.same s r)
end
theorem gG.len {H:Hp}:∀ {vs:List V} {xs:List Da},gG H vs xs->vs.length=xs.length
 | _,_,.nil=>rfl
 | _,_,.cons _ r=>by rw [acM,acM,r.len]
theorem gG.get {H:Hp}:∀ {vs:List V} {xs:List Da},gG H vs xs->∀ {i:Nat} {v:V},vs[i]?=some v->∃ x,xs[i]?=some x/\cR H v x
 | _,_,.nil,i,v,e=>by simp at e
 | _,_,.cons h r,i,v,e=>by
   cases i with
   | zero=>cases (show some _=some v from e); exact ⟨_,rfl,h⟩
   | succ i=>exact r.get (by simpa using e)
theorem gG.inv {H:Hp} {vs:List V} {x:Da} {xs:List Da} (h:gG H vs (x :: xs)):∃ v r,vs=v :: r/\cR H v x/\gG H r xs:=by
 cases h with
 | cons h r=>exact ⟨_,_,rfl,h,r⟩
theorem gG.agE {H:Hp} {vs:List V} (h:gG H vs []):vs=[]:=by cases h; rfl
theorem gG.agF {H:Hp} {vs:List V} {a:Da} (h:gG H vs [a]):∃ v1,vs=[v1]/\cR H v1 a:=by
 obtain ⟨v,r,rfl,h1,h2⟩:=h.inv
 obtain rfl:=h2.agE
 exact ⟨_,rfl,h1⟩
theorem gG.two {H:Hp} {vs:List V} {a b:Da} (h:gG H vs [a,b]):∃ v1 v2,vs=[v1,v2]/\cR H v1 a/\cR H v2 b:=by
 obtain ⟨v,r,rfl,h1,h2⟩:=h.inv
 obtain ⟨w,rfl,h3⟩:=h2.agF
 exact ⟨_,_,rfl,h1,h3⟩
theorem gG.four {H:Hp} {vs:List V} {a b c d:Da} (h:gG H vs [a,b,c,d]):∃ v1 v2 v3 v4,vs=[v1,v2,v3,v4]/\cR H v1 a/\cR H v2 b/\cR H v3 c/\cR H v4 d:=by
 obtain ⟨v,r,rfl,h1,h2⟩:=h.inv
 obtain ⟨w,r,rfl,h3,h4⟩:=h2.inv
 obtain ⟨x,y,rfl,h5,h6⟩:=h4.two
 exact ⟨_,_,_,_,rfl,h1,h3,h5,h6⟩
theorem gG.five {H:Hp} {vs:List V} {a b c d e:Da} (h:gG H vs [a,b,c,d,e]):∃ v1 v2 v3 v4 v5,vs=[v1,v2,v3,v4,v5]/\cR H v1 a/\cR H v2 b/\cR H v3 c/\cR H v4 d/\cR H v5 e:=by
 obtain ⟨v,r,rfl,h1,h2⟩:=h.inv
 obtain ⟨w,x,y,z,rfl,h3,h4,h5,h6⟩:=h2.four
 exact ⟨_,_,_,_,_,rfl,h1,h3,h4,h5,h6⟩
theorem qW {n:Nat} {xs:List Da} (h:xs.length=n+1):∃ x r,xs=x :: r/\r.length=n:=by
 cases xs with
 | nil=>cases h
 | cons x r=>exact ⟨x,r,rfl,Nat.succ.inj h⟩
theorem len2 {xs:List Da} (h:xs.length=2):∃ a b,xs=[a,b]:=by
 obtain ⟨a,r1,rfl,h1⟩:=qW h
 obtain ⟨b,r2,rfl,h2⟩:=qW h1
 obtain rfl:=aeE h2
 exact ⟨a,b,rfl⟩
theorem acv {xs:List Da} (h:xs.length=4):∃ a b c d,xs=[a,b,c,d]:=by
 obtain ⟨a,r1,rfl,h1⟩:=qW h
 obtain ⟨b,r2,rfl,h2⟩:=qW h1
 obtain ⟨c,d,rfl⟩:=len2 h2
 exact ⟨a,b,c,d,rfl⟩
theorem agG {xs:List Da} (h:xs.length=5):∃ a b c d e,xs=[a,b,c,d,e]:=by
 obtain ⟨a,r1,rfl,h1⟩:=qW h
 obtain ⟨b,c,d,e,rfl⟩:=acv h1
 exact ⟨a,b,c,d,e,rfl⟩
theorem cR.pB {H:Hp} {v:V} {xs:List Da} (h:cR H v (.tup xs)):∃ a vs,v=.ref a/\H a=some (.tup vs)/\vs.length<=25/\gG H vs xs:=by
 cases h with
 | tup h l r=>exact ⟨_,_,rfl,h,l,r⟩
def aae:Da->Bool
 | .tup _=>true
 | _=>false
def gP:Da->Bool
 | .int _=>true
 | _=>false
def pC:Da->Bool
 | .str z=>yG (.str z)
 | _=>false
def intD:Da->Int
 | .int i=>i
 | _=>0
def lB (d:Da) (n:Nat):Bool:=match d with
 | .tup xs=>decide (xs.length=n)
 | _=>false
def fO:Da->Bool
 | .tup [a,b]=>pC a && gP b
 | _=>false
def GZ:Da->Da
 | .tup [_,b]=>b
 | _=>.non
def gq {α:Type} (xs:List α):List (α × α):=xs.zip (xs.drop 1)
def qX (is:List Int):Bool:=(gq is).all fun p=>decide (p.1<p.2)
def zu (ks:List (Str × Str)):Bool:=(gq ks).all fun p=>sy p.1 p.2
def v7:Da->Bool
 | .tup xs=>!xs.isEmpty && (xs.all fO && qX (xs.map fun x=>intD (GZ x)))
 | _=>false
def mQ (n l h d:Da):Bool:=pC n && ((gP l && (gP h && gP d)) && (decide (intD l<=intD h) && decide (0<=intD d)))
def JB:Da->Bool
 | .tup rs=>rs.all v7
 | _=>false
def fP:Da->Bool
 | .tup [n,l,h,d,r]=>mQ n l h d && JB r
 | _=>false
def JC (l:Int):Da->Bool
 | .non=>true
 | .int i=>decide (l<=i)
 | _=>false
def dW:Da->Bool
 | .tup [s,t,l,m]=>pC s && (pC t && (gP l && (decide (1<=intD l) && JC (intD l) m)))
 | _=>false
theorem lC {y:Da} (h:fO y=true):∃ z j,y=.tup [.str z,.int j]/\yG (.str z)=true:=by
 unfold fO at h
 split at h
 . rename_i a b
   obtain ⟨h1,h2⟩:=abx.mp h
   cases b with
   | int j =>
     cases a with
     | str z=>exact ⟨z,j,rfl,h1⟩
     | _=>cases h1
   | _=>cases h2
 . cases h
theorem cR.kind {K:aas} {H:Hp} {v:V} {d:Da} (h:cR H v d):Thing K H v/\(∃ T,iV K H v (.type T)/\aiw K (.type T) (.type "tuple")=some (aae d))/\isW v=gP d/\yG v=pC d:=by
 cases h with
 | non=>exact ⟨⟨⟨_,.non⟩,fun z e=>by cases e⟩,⟨_,.non,(yE (K:=K) (iV.non (H:=H))).2.2.2⟩,rfl,rfl⟩
 | bl b=>exact ⟨⟨⟨_,.bl b⟩,fun z e=>by cases e⟩,⟨_,.bl b,(yE (K:=K) (iV.bl (H:=H) b)).2.2.2⟩,rfl,rfl⟩
 | int i=>exact ⟨⟨⟨_,.int i⟩,fun z e=>by cases e⟩,⟨_,.int i,(yE (K:=K) (iV.int (H:=H) i)).2.2.2⟩,rfl,rfl⟩
 | str z hz=>exact ⟨⟨⟨_,.str z⟩,fun y e=>by cases e; exact hz⟩,⟨_,.str z,(yE (K:=K) (iV.str (H:=H) z)).2.2.2⟩,rfl,rfl⟩
 | tup e l r=>exact ⟨⟨⟨_,.tup e⟩,fun z e=>by cases e⟩,⟨_,.tup e,(yE (K:=K) (iV.tup e)).2.2.2⟩,rfl,rfl⟩
 | lst e=>exact ⟨⟨⟨_,.lst e⟩,fun z e=>by cases e⟩,⟨_,.lst e,(yE (K:=K) (iV.lst e)).2.2.2⟩,rfl,rfl⟩
 | dic e=>exact ⟨⟨⟨_,.dK e⟩,fun z e=>by cases e⟩,⟨_,.dK e,(yE (K:=K) (iV.dK e)).2.2.2⟩,rfl,rfl⟩
def Bo (f:Da->Bool):Sp:=fun vs H Q _=>∃ (x:V) (d:Da),vs=[x]/\cR H x d/\∀ H',Same H H'->Q (.bl (f d)) H'
def oh:Sp:=fun vs H Q _=>∃ (x:V) (d:Da) (n:Nat),vs=[x,.int (n:Int)]/\cR H x d/\Q (.bl (lB d n)) H
def Bp:Sp:=fun vs H Q _=>∃ (x0 x1 x2 x3:V) (d0 d1 d2 d3:Da),vs=[x0,x1,x2,x3]/\cR H x0 d0/\cR H x1 d1/\cR H x2 d2/\cR H x3 d3/\∀ H',Same H H'->Q (.bl (mQ d0 d1 d2 d3)) H'
def QC (H:Hp) (xs:List V) (b:Bool):Prop:=(∃ is:List Int,xs=is.map V.int/\b=qX is)∨∃ (as:List abm) (ks:List (Str × Str)),xs=as.map V.ref/\acN (fun a k=>H a=some (.tup ((kP k).map kV))) as ks/\b=zu ks
def qY:Sp:=fun vs H Q _=>∃ (a:abm) (xs:List V) (b:Bool),vs=[.ref a]/\H a=some (.lst xs)/\xs.length<=60/\QC H xs b/\∀ H',Same H H'->Q (.bl b) H'
theorem qZ {K:aas} {H H':Hp} {a:abm} {xs:List V} (s:Same H H') (h:bY K H a xs):bY K H' a xs:=by
 rcases h with (h | ⟨o,h⟩) | h
 . exact .inl (.inl (s _ _ h))
 . exact .inl (.inr ⟨o,s _ _ h⟩)
 . exact .inr h
structure LtA (K:aas) (x y:V) (H:Hp) (Q:VK):Prop where
 h:Yj K x y H Q
theorem agH {X:Cx} (hu:X.A.units<cLine):gD X (compareOp .Lt) (LtA X.K):=fun pins s σ H x y v u Q I rx ry h=>V3 hu pins s σ H x y v u Q I rx ry h.h
theorem v8 {α:Type} (xs:List α):(gq xs).length=xs.length-1:=by unfold gq; rw [List.length_zip,ae4]; omega
theorem v9 {α:Type} {xs:List α} {i:Nat} {x y:α} (hx:xs[i]?=some x) (hy:xs[i+1]?=some y):(gq xs)[i]?=some (x,y):=by
 unfold gq
 exact PyProof.Rows.zip_get hx (by rw [aqG,apq]; exact hy)
theorem QC.bools {H:Hp} {xs:List V} {b:Bool} (h:QC H xs b):∃ bs:List Bool,bs.length=xs.length-1/\bs.all id=b/\∀ {K:aas} {i:Nat} {x y:V} {H':Hp} {Q:VK},xs[i]?=some x->xs[i+1]?=some y->Same H H'->(∀ c,bs[i]?=some c->Q (.bl c) H')->LtA K x y H' Q:=by
 rcases h with ⟨is,rfl,rfl⟩ | ⟨as,ks,rfl,pr,rfl⟩
 . refine ⟨(gq is).map fun p=>decide (p.1<p.2),by rw [aao,v8,aao],by unfold qX; rw [apI]; rfl,fun {K i x y H' Q} hx hy s q=>?_⟩
   rw [aaJ] at hx hy
   cases e1:is[i]? with
   | none=>rw [e1] at hx; cases hx
   | some j =>
     cases e2:is[i+1]? with
     | none=>rw [e2] at hy; cases hy
     | some k =>
       rw [e1] at hx; rw [e2] at hy
       exact ⟨.inl ⟨j,k,(ac8 hx).symm,(ac8 hy).symm,q _ (by rw [aaJ,v9 e1 e2]; rfl)⟩⟩
 . refine ⟨(gq ks).map fun p=>sy p.1 p.2,by rw [aao,v8,aao,pr.length],by unfold zu; rw [apI]; rfl,fun {K i x y H' Q} hx hy s q=>?_⟩
   rw [aaJ] at hx hy
   cases e1:as[i]? with
   | none=>rw [e1] at hx; cases hx
   | some j =>
     cases e2:as[i+1]? with
     | none=>rw [e2] at hy; cases hy
     | some k =>
       rw [e1] at hx; rw [e2] at hy
       obtain ⟨k1,g1,h1⟩:=aL pr e1
       obtain ⟨k2,g2,h2⟩:=aL pr e2
       exact ⟨.inr ⟨j,k,k1,k2,(ac8 hx).symm,(ac8 hy).symm,bA.of (s _ _ h1),bA.of (s _ _ h2),q _ (by rw [aaJ,v9 g1 g2]; rfl)⟩⟩
theorem Bq (xs:List Da) (f:Da->Bool):(xs.map f).all id=xs.all f:=by rw [apI]; rfl
section
variable {P:acs} {w:adH} {K:aas} {mg:Str->Option aau} {base:ae9} {t8 t6 tR tL:Tok}
end
end gF
namespace gF
open PySem L2
section
variable {P:acs} {w:adH} {K:aas} {mg:Str->Option aau} {base:ae9} {t8 t6 tR tL:Tok}
end
end gF
namespace gF
open PySem L2
def q9:Sp:=fun vs H Q _=>∃ (x:V) (h:aA),vs=[x]/\bC H x h/\cQ h/\∀ (l:abm) (zs:List V) (H':Hp),H l=none->H' l=some (.lst zs)->Same H H'->acN (cM H') zs (jf h)->Q (.ref l) H'
def wg:Sp:=fun vs H Q _=>∃ (a:abm) (ss:List Str),vs=[.ref a]/\H a=some (.lst (ss.map V.str))/\ss.length<=3800/\∀ H',Same H H'->Q (.bl (decide ss.Nodup)) H'
theorem zx {ks:List Key}:∀ i,i<=ks.length->(dB ks i).length=i->(ks.take i).Nodup
 | 0,_,_=>by rw [amY]; exact List.nodup_nil
 | i+1,hi,h=>by
   have hk:ks[i]?=some ks[i]:=aaq (by omega)
   have le:=uZ ks i
   rw [n6 hk] at h
   cases q:uY (dB ks i) ks[i] with
   | true=>rw [q,if_pos rfl] at h; omega
   | false =>
     rw [q,if_neg abn,abe] at h
     have h':(dB ks i).length=i:=by simpa using h
     have ih:=zx i (by omega) h'
     have e:dB ks i=ks.take i:=zy i (by omega) h'
     rw [abj,hk]
     rw [aeS]
     refine ⟨ih,by simp,fun a ha b hb z=>?_⟩
     have hb':b=ks[i]:=by simpa using hb
     rw [hb'] at z
     rw [e] at q
     have:=Jw.mpr (show ks[i]∈ks.take i by rw [<- z]; exact ha)
     rw [q] at this; cases this
where zy:∀ i,i<=ks.length->(dB ks i).length=i->dB ks i=ks.take i
 | 0,_,_=>rfl
 | i+1,hi,h=>by
   have hk:ks[i]?=some ks[i]:=aaq (by omega)
   have le:=uZ ks i
   rw [n6 hk] at h ⊢
   cases q:uY (dB ks i) ks[i] with
   | true=>rw [q,if_pos rfl] at h; omega
   | false =>
     rw [q,if_neg abn,abe] at h
     rw [if_neg abn,zy i (by omega) (by simpa using h),abj,hk]
     rfl
def p7:Sp:=fun vs H Q _=>∃ (x:V) (hs:List aA),vs=[x]/\fM H x hs/\hs.length<=6/\(∀ h∈hs,cQ h)/\∀ (l:abm) (H':Hp),H l=none->H' l=some (.lst ((namesOf hs).map V.str))->Same H H'->Q (.ref l) H'
theorem mU {α:Type}:∀ {l:List (List α)} {n:Nat},(∀ r∈l,r.length<=n)->l.flatten.length<=l.length * n
 | [],_,_=>by simp
 | r :: l,n,h=>by
   have h1:=h r aaU
   have h2:=mU fun q hq=>h q (aaM _ hq)
   rw [aeR,abe,acM,Nat.succ_mul]
   omega
theorem cQ.len {h:aA} (g:cQ h):(jf h).length<=625:=by
 have h1:=mU (n:=25) fun r hr=>(g.runs r hr).few
 have h2:h.runs.length * 25<=25 * 25:=amf 25 g.few
 show h.runs.flatten.length<=625
 omega
section
variable {P:acs} {w:adH} {K:aas} {mg:Str->Option aau} {base:ae9} {t8 t6 tR tL:Tok}
end
end gF
namespace gF
open PySem L2
theorem JD {z:Str} (h:yG (.str z)=true):Good z:=by
 simp only [yG,afr,decide_eq_true_iff] at h
 exact ⟨h.1.1,h.1.2,fun c hc=>acL.mp h.2 c hc⟩
def rowOf:Da->Row
 | .tup [.str z,.int j]=>(z,j)
 | _=>(⟨#[]⟩,0)
def runOf:Da->List Row
 | .tup xs=>xs.map rowOf
 | _=>[]
def bI:Da->aA
 | .tup [.str n,.int l,.int h,.int d,.tup rs]=>⟨n,l,h,d,rs.map runOf⟩
 | _=>⟨⟨#[]⟩,0,0,0,[]⟩
def mV:Da->List aA
 | .tup xs=>xs.map bI
 | _=>[]
theorem QD {is:List Int} (h:qX is=true):is.Pairwise (·<·):=by
 unfold qX at h
 have key:∀ (l:List Int),(gq l).all (fun p=>decide (p.1<p.2))=true->l.Pairwise (·<·):=by
   intro l
   induction l with
   | nil=>intro _; exact ah8
   | cons x l ih =>
     intro hl
     cases l with
     | nil=>exact ain _ _
     | cons y l =>
       have e:gq (x :: y :: l)=(x,y) :: gq (y :: l):=rfl
       rw [e,aoR] at hl
       obtain ⟨h1,h2⟩:=abx.mp hl
       have p:=ih h2
       refine amH.mpr ⟨fun z hz=>?_,p⟩
       have xy:x<y:=of_decide_eq_true h1
       rcases abz.mp hz with e | e
       . rw [e]; exact xy
       . have:=(amH.mp p).1 z e; omega
 exact key is h
theorem JF {H:Hp}:∀ {vs:List V} {xs:List Da},gG H vs xs->xs.all fO=true->acN (cM H) vs (xs.map rowOf)
 | _,_,.nil,_=>.nil
 | _,_,.cons h r,g=>by
   rw [aoR] at g
   obtain ⟨w1,w2⟩:=abx.mp g
   refine .cons ?_ (JF r w2)
   obtain ⟨z,j,rfl,_⟩:=lC w1
   obtain ⟨b,ws,rfl,hb,_,rr⟩:=h.pB
   obtain ⟨_,_,rfl,q1,q2⟩:=rr.two
   cases q1
   cases q2
   exact ⟨b,rfl,hb⟩
theorem aaf {H:Hp} {v:V} {d:Da} (h:cR H v d) (g:v7 d=true):fu H v (runOf d)/\iT (runOf d):=by
 cases h with
 | @tup a vs xs ha Ym r =>
   have g':(!xs.isEmpty && (xs.all fO && qX (xs.map fun x=>intD (GZ x))))=true:=g
   obtain ⟨g1,g2⟩:=abx.mp g'
   obtain ⟨g2,g3⟩:=abx.mp g2
   have pr:acN (cM H) vs (xs.map rowOf):=JF r g2
   have len:=r.len
   refine ⟨⟨a,vs,rfl,ha,pr⟩,?_,by show (xs.map rowOf).length<=25; rw [aao]; omega,fun x hx=>?_,?_⟩
   . intro e
     have:xs=[]:=by simpa [runOf] using e
     subst this
     cases g1
   . obtain ⟨y,hy,rfl⟩:=abh.mp hx
     obtain ⟨z,j,rfl,hz⟩:=lC (acL.mp g2 y hy)
     exact JD hz
   . have e:(xs.map fun x=>intD (GZ x))=(xs.map rowOf).map afn:=by
       rw [adJ]
       refine afa fun y hy=>?_
       obtain ⟨z,j,rfl,_⟩:=lC (acL.mp g2 y hy)
       rfl
     have:=QD g3
     rw [e] at this
     exact this
 | _=>cases g
theorem Hf {d:Da} (g:fP d=true):∃ n l h dr rs,d=.tup [.str n,.int l,.int h,.int dr,.tup rs]/\yG (.str n)=true/\l<=h/\0<=dr/\rs.all v7=true:=by
 unfold fP at g
 split at g
 . rename_i n l h dr r
   obtain ⟨g1,g2⟩:=abx.mp g
   unfold mQ at g1
   obtain ⟨c1,c2⟩:=abx.mp g1
   obtain ⟨c2,c3⟩:=abx.mp c2
   obtain ⟨c4,c5⟩:=abx.mp c2
   obtain ⟨c5,c6⟩:=abx.mp c5
   obtain ⟨c7,c8⟩:=abx.mp c3
   cases r with
   | tup rs =>
     cases n with
     | str n =>
       cases l with
       | int l =>
         cases h with
         | int h =>
           cases dr with
           | int dr=>exact ⟨n,l,h,dr,rs,rfl,c1,of_decide_eq_true c7,of_decide_eq_true c8,g2⟩
           | _=>cases c6
         | _=>cases c5
       | _=>cases c4
     | _=>cases c1
   | _=>cases g2
 . cases g
theorem JG {H:Hp}:∀ {vs:List V} {xs:List Da},gG H vs xs->xs.all v7=true->acN (fu H) vs (xs.map runOf)/\∀ r∈xs.map runOf,iT r
 | _,_,.nil,_=>⟨.nil,fun h hh=>by simp at hh⟩
 | _,_,.cons h r,g=>by
   rw [aoR] at g
   obtain ⟨w1,w2⟩:=abx.mp g
   obtain ⟨p1,p2⟩:=JG r w2
   obtain ⟨r1,r2⟩:=aaf h w1
   refine ⟨.cons r1 p1,fun y hy=>?_⟩
   rw [abA] at hy
   rcases abz.mp hy with e | e
   . rw [e]; exact r2
   . exact p2 y e
theorem QF {H:Hp} {v:V} {d:Da} (h:cR H v d) (g:fP d=true):bC H v (bI d)/\cQ (bI d):=by
 obtain ⟨n,l,hh,dr,rs,rfl,g1,g2,g3,g4⟩:=Hf g
 obtain ⟨a,vs,rfl,ha,_,r⟩:=h.pB
 obtain ⟨_,_,_,_,v5,rfl,q1,q2,q3,q4,q5⟩:=r.five
 cases q1
 cases q2
 cases q3
 cases q4
 obtain ⟨b,ws,rfl,hb,lw,rr⟩:=q5.pB
 have len:=rr.len
 have pr:=JG rr g4
 exact ⟨⟨a,.ref b,rfl,ha,b,ws,rfl,hb,pr.1⟩,JD g1,g2,g3,by show (rs.map runOf).length<=25; rw [aao]; omega,pr.2⟩
theorem sI {H:Hp}:∀ {vs:List V} {xs:List Da},gG H vs xs->xs.all fP=true->acN (bC H) vs (xs.map bI)/\∀ h∈xs.map bI,cQ h
 | _,_,.nil,_=>⟨.nil,fun h hh=>by simp at hh⟩
 | _,_,.cons h r,g=>by
   rw [aoR] at g
   obtain ⟨w1,w2⟩:=abx.mp g
   obtain ⟨p1,p2⟩:=sI r w2
   obtain ⟨r1,r2⟩:=QF h w1
   refine ⟨.cons r1 p1,fun y hy=>?_⟩
   rw [abA] at hy
   rcases abz.mp hy with e | e
   . rw [e]; exact r2
   . exact p2 y e
def jk:Da->Bool
 | .tup xs=>decide (1<=xs.length) && (decide (xs.length<=6) && (xs.all fP && (decide ((xs.map bI).map aA.name).Nodup && (decide (namesOf (xs.map bI)).Nodup && decide ((namesOf (xs.map bI)).length<=24)))))
 | _=>false
def keyOf:Da->Str × Str
 | .tup (.str a :: .str b :: _)=>(a,b)
 | _=>(⟨#[]⟩,⟨#[]⟩)
def cO (h:aA):List (Str × Str):=(jf h).map fun r=>(r.1,h.name)
def pairsOf (hs:List aA):List (Str × Str):=hs.flatMap cO
theorem Hg (h:aA):(cO h).map adB=bT h:=by unfold cO bT; rw [adJ]; rfl
theorem iY (hs:List aA):(pairsOf hs).map adB=namesOf hs:=by
 unfold pairsOf namesOf
 rw [List.map_flatMap]
 congr 1
 funext h
 exact Hg h
def lY (ps:List (Str × Str)) (n:Str):Option Str:=(ps.find? fun p=>decide (p.1=n)).map afn
def pJ (hs:List aA) (d:Da):Bool:=match lY (pairsOf hs) (keyOf d).1,lY (pairsOf hs) (keyOf d).2 with
 | some a,some b=>!decide (a=b)
 | _,_=>false
def mW (hs:List aA):Da->Bool
 | .tup xs=>decide (xs.length<=24) && (xs.all dW && (xs.all (pJ hs) && zu (xs.map keyOf)))
 | _=>false
def ou:Da->Bool
 | .tup [h,l]=>jk h && mW (mV h) l
 | _=>false
def Ly (kvs:List (Key × V)) (ps:List (Str × Str)):Prop:=∀ n,cJ kvs (.inr n)=(lY ps n).map V.str
theorem Ly.put {kvs:List (Key × V)} {ps:List (Str × Str)} {p:Str × Str} (h:Ly kvs ps) (nw:∀ q∈ps,q.1≠p.1):Ly (putK kvs (.inr p.1) (.str p.2)) (ps++[p]):=fun n=>by
 rw [qQ]
 unfold lY
 rw [aqT]
 by_cases e:n=p.1
 . subst e
   have z:ps.find? (fun q=>decide (q.1=p.1))=none:=agw.mpr fun q hq w=>nw q hq (of_decide_eq_true w)
   rw [if_pos rfl,z]
   simp
 . rw [if_neg (fun z=>e (afA z)),h n]
   unfold lY
   have z:([p]:List (Str × Str)).find? (fun q=>decide (q.1=n))=none:=agw.mpr fun q hq w=>by
     rw [abw.mp hq] at w
     exact e (of_decide_eq_true w).symm
   rw [z]
   cases ps.find? (fun q=>decide (q.1=n)) <;> rfl
def sJ:Sp:=fun vs H Q _=>∃ (x y:V) (hs:List aA) (d:Da),vs=[x,y]/\cR H x d/\fM H y hs/\cY hs/\∀ H',Same H H'->Q (.bl (mW hs d)) H'
theorem agI {X:Cx}:gD X (compareOp .Eq) (fS fun i j=>.bl (decide (i=j))):=by
 intro pins s σ H x y v u Q I rx ry q
 refine abM pins s σ H x y v u Q I rx ry ?_
 cases x <;> cases y <;> first
   | exact (show False from q).elim
   | (refine ⟨rfl,?_⟩
      rename_i i j
      have e:decide (V.str i=V.str j)=decide (i=j):=by rw [aeU]; simp
      rw [e]; exact q)
section
variable {P:acs} {w:adH} {K:aas} {mg:Str->Option aau} {base:ae9} {t8 t6 tR tL:Tok}
end
end gF
namespace gF
open PySem L2
theorem DP {d:Da} (g:dW d=true):∃ s t l m,d=.tup [.str s,.str t,.int l,m]:=by
 unfold dW at g
 split at g
 . rename_i s t l m
   obtain ⟨g1,g2⟩:=abx.mp g
   obtain ⟨g2,g3⟩:=abx.mp g2
   obtain ⟨g3,g4⟩:=abx.mp g3
   cases s with
   | str s =>
     cases t with
     | str t =>
       cases l with
       | int l=>exact ⟨s,t,l,m,rfl⟩
       | _=>cases g3
     | _=>cases g2
   | _=>cases g1
 . cases g
def PvH (O:abm) (hs:List aA) (H1:Hp):Nat->St->Hp->Prop:=fun i σ H'=>∃ (o1 o2 o3:Option V) (kvs:List (Key × V)),σ=[o1,o2,o3]/\H' O=some (.dK kvs)/\kvs.length<=(pairsOf (hs.take i)).length/\Ly kvs (pairsOf (hs.take i))/\Same H1 H'
def PvI (c d O:abm) (hs:List aA) (xs:List Da) (H2:Hp):Nat->St->Hp->Prop:=fun i σ H'=>H'=H2/\(xs.take i).all (pJ hs)=true/\∃ (o3 o4 o5 o6:Option V),σ=[some (.ref c),some (.ref d),some (.ref O),o3,o4,o5,o6]
def PvJ (D2:abm) (xs:List Da) (H2:Hp):Nat->Hp->Prop:=fun i H'=>∃ as:List abm,cL H' H' D2 (as.map V.ref)/\Same H2 H'/\acN (fun a k=>H' a=some (.tup ((kP k).map kV))) as ((xs.map keyOf).take i)
def PvK (x:V) (O l:abm) (hs:List aA) (h:aA) (i:Nat) (zs:List V) (H1 H3:Hp):Nat->St->Hp->Prop:=fun j σ eV=>∃ (o2 o3:Option V) (kvs':List (Key × V)),σ=[some x,o2,o3]/\eV O=some (.dK kvs')/\kvs'.length<=(pairsOf (hs.take i)++(cO h).take j).length/\Ly kvs' (pairsOf (hs.take i)++(cO h).take j)/\Same H1 eV/\eV l=some (.lst zs)/\bZ H3 eV
section
variable {P:acs} {w:adH} {K:aas} {mg:Str->Option aau} {base:ae9} {t8 t6 tR tL:Tok}
end
end gF
namespace gF
open PySem L2
open Builtin.Int in
theorem acw {X:Cx}:gD X (binaryOp .Mult) (Ow IntMulOk fun i j=>.int (i * j)):=(opI fun _ _ _ _ _ _ _ hc q=>PyProof.Rows.mul_int q hc:gD X (binaryOp .Mult) (rI IntMulOk fun i j=>.int (i * j))).Ow
def QG (n:Int):Prop:=anE n<=1048576
def Br:Sp:=fun vs H Q _=>∃ c:Int,vs=[.int c]/\anE c<=2000000/\∀ n:Int,0<=n->Q (.int n) H
def bN (H:Hp) (p:abm):Prop:=∃ n:Int,H p=some (.lst [.int n])/\0<=n
def Bs (K:aas):Sp:=fun vs H Q _=>∃ (a:abm) (ns:List Int) (k:Int),vs=[.ref a,.int k]/\bY K H a (ns.map V.int)/\(∀ n∈ns,QG n)/\ns.length<=63/\0<=k/\k<=1000/\∀ (p:abm) (H':Hp),H p=none->bN H' p->Same H H'->Q (.ref p) H'
def qb:Sp:=fun vs H Q _=>∃ (p:abm) (m:Int),vs=[.ref p,.int m]/\bN H p/\0<m/\m<1073741824/\∀ (d:Int) (H':Hp),0<=d->d<m->bN H' p->aP p H H'->Q (.int d) H'
section
variable {P:acs} {w:adH} {K:aas} {mg:Str->Option aau} {base:ae9} {t8 t6 tR tL:Tok}
end
end gF
namespace gF
open PySem L2
def QH:List Nat:=(acy 26).map (97+·)
def QJ (t:Nat):List Nat:=QH.drop t++QH.take t
def rA (t sz pick k:Nat):List Nat :=
 if pick=0 then acS (1+k % 8) ((QJ t).getD (k / 8) 0) else if pick=1 then (QJ t).getD (k % 26) 0 :: ((QJ t).drop 4).take sz else ((QJ t).drop 4).take sz++[(QJ t).getD (k % 26) 0]
def JH (l:List (List Nat)):Bool:=decide l.Nodup && l.all fun s=>decide (1<=s.length) && decide (s.length<=8) && s.all low
def qL:List Nat:=[113,113,113,113,113,113,113,114]
def qS:Str:=⟨qL.toArray⟩
theorem Bt:((acy 26).all fun t=>(acy 8).all fun sz=>(acy 3).all fun pick=>(acy 12).all fun k=>!decide (rA t sz pick k=qL))=true:=by decide +kernel
theorem DQ:((acy 26).all fun t=>(acy 8).all fun sz=>(acy 3).all fun pick=>JH ((acy 12).map (rA t sz pick)))=true:=by decide +kernel
def nameS (t sz pick k:Nat):Str:=⟨(rA t sz pick k).toArray⟩
def dX (t sz pick:Nat):List Str:=(acy 12).map (nameS t sz pick)
theorem Lz {t sz pick:Nat} (ht:t<26) (hz:sz<8) (hp:pick<3):(dX t sz pick).Nodup/\∀ s∈dX t sz pick,Good s:=by
 have h:=acL.mp (acL.mp (acL.mp DQ t (adA.mpr ht)) sz (adA.mpr hz)) pick (adA.mpr hp)
 unfold JH at h
 obtain ⟨h1,h2⟩:=abx.mp h
 have h1':=of_decide_eq_true h1
 constructor
 . unfold dX
   rw [aa2,acK] at h1' ⊢
   refine h1'.imp fun {a b} z e=>z ?_
   have:=congrArg (fun s:Str=>s.cps.toList) e
   simpa [nameS] using this
 . intro s hs
   obtain ⟨k,hk,rfl⟩:=abh.mp hs
   have h3:=acL.mp h2 (rA t sz pick k) (abh.mpr ⟨k,hk,rfl⟩)
   obtain ⟨h4,h5⟩:=abx.mp h3
   obtain ⟨h6,h7⟩:=abx.mp h4
   refine ⟨?_,?_,fun c hc=>acL.mp h5 c (by simpa [nameS] using hc)⟩
   . have:=of_decide_eq_true h6; simpa [nameS,amS] using this
   . have:=of_decide_eq_true h7; simpa [nameS,amS] using this
theorem QK {t sz pick:Nat} (ht:t<26) (hz:sz<8) (hp:pick<3):∀ s∈dX t sz pick,s≠qS:=by
 intro s hs e
 obtain ⟨k,hk,rfl⟩:=abh.mp hs
 have h:=acL.mp (acL.mp (acL.mp (acL.mp Bt t (adA.mpr ht)) sz (adA.mpr hz)) pick (adA.mpr hp)) k hk
 have:=congrArg (fun s:Str=>s.cps.toList) e
 have e2:rA t sz pick k=qL:=by simpa [nameS,qS] using this
 rw [e2] at h
 exact absurd h (by decide)
def abc:Str:="abcdefghijklmnopqrstuvwxyz"
theorem aag:abc.cps.toList=QH:=by decide +kernel
theorem u5 {t:Nat} (h:t<=26):(QJ t).length=26:=by
 unfold QJ
 rw [abe,ae4,abo,show QH.length=26 by decide]
 omega
theorem Bu:abc.length=26:=by decide +kernel
theorem QL {t:Nat} (ht:t<=26):(agW abc (some (t:Int)) none++agW abc none (some (t:Int))).cps.toList=QJ t:=by
 rw [app_list,Ql,vR]
 unfold Qk QJ
 rw [HT.jh,HT.qO,Bu,aag,aib ht,adN (by rw [ae4,show QH.length=26 by decide]; omega)]
theorem wj {l:List Nat} {k:Int} (h0:0<=k) (h1:k<l.length):Cz l k=some (l.getD k.toNat 0):=by
 obtain ⟨n,rfl⟩:=aeM h0
 refine iR ?_
 have hn:n<l.length:=by omega
 rw [aaq hn]
 simp [afp,hn]
section
variable {P:acs} {w:adH} {K:aas} {mg:Str->Option aau} {base:ae9} {t8 t6 tR tL:Tok}
end
end gF
namespace gF
open PySem L2
def LC (r:Row):ai6:=.tuple [.str r.1,.int r.2]
def wk (rs:List Row):ai6:=.list (rs.map LC)
theorem Good.ok {z:Str} (g:Good z):PyData.strOk z=true:=by
 unfold PyData.strOk
 rw [Array.all_eq_true_iff_forall_mem]
 intro c hc
 have h:=g.all c (by simpa using hc)
 unfold low at h
 have h2:=of_decide_eq_true (abx.mp h).2
 exact decide_eq_true (by omega)
theorem DR:∀ {rs:List Row},(∀ r∈rs,Good r.1)->afD (wk rs)=true:=by
 intro rs h
 have h1:aeI (rs.map LC)=true:=by
   induction rs with
   | nil=>rfl
   | cons r rs ih =>
     rw [abA]
     unfold aeI
     rw [ih fun q hq=>h q (aaM _ hq),Bool.and_true]
     unfold LC ae7 aeI
     have z:=(h r aaU).ok
     simp [ae7,aeI,z]
 have h2:aeY (rs.map LC)<=1:=by
   clear h h1
   induction rs with
   | nil=>exact abV _
   | cons r rs ih =>
     rw [abA]
     unfold aeY
     have e:afF (LC r)=1:=by simp [LC,afF,aeY]
     rw [e]
     omega
 unfold afD wk
 rw [afr]
 refine ⟨?_,?_⟩
 . unfold ae7; exact h1
 . unfold afF; exact decide_eq_true (by omega)
theorem V4 {K:aas} {H:Hp} {a:abm} {vs:List V} {rs:List Row} (ha:H a=some (.lst vs)) (p:acN (cM H) vs rs):Dp K H (.ref a) (wk rs):=by
 refine .lst (bY.of ha) ?_
 clear ha
 induction p with
 | nil=>exact .nil
 | cons h _ ih =>
   obtain ⟨b,rfl,hb⟩:=h
   exact .cons (.tup (bA.of hb) (.cons (.str _) (.cons (.int _) .nil))) ih
theorem QM (rs:List Row):aix (wk rs) (.list [])=rs.isEmpty:=by
 cases rs with
 | nil=>simp [wk,aix,PyData.eqvAll]
 | cons r rs=>simp [wk,aix,PyData.eqvAll]
structure Yn (K:aas) (x y:V) (H:Hp) (Q:VK):Prop where
 h:ab9 K x y H Q
theorem Hi {X:Cx} (hu:X.A.units+64<cLine):gD X (compareOp .NotEq) (Yn X.K):=fun pins s σ H x y v u Q I rx ry h=>rY hu pins s σ H x y v u Q I rx ry h.h
theorem QS {K:aas} {H:Hp} {a l:abm} {vs:List V} {rs:List Row} {Q:VK} (ha:H a=some (.lst vs)) (p:acN (cM H) vs rs) (g:∀ r∈rs,Good r.1) (hl:H l=some (.lst [])) (q:Q (.bl (!rs.isEmpty)) H):Yn K (.ref a) (.ref l) H Q :=
 ⟨wk rs,.list [],V4 ha p,.lst (bY.of hl) .nil,DR g,rfl,by rw [QM]; exact q⟩
theorem DW {α:Type} {xs:List α} {x:α}:Cz (xs++[x]) (-1)=some x:=by
 unfold Cz Pz
 have e:(xs++[x]).length=xs.length+1:=by simp
 rw [e,if_neg (by decide),if_pos (by omega)]
 have e2:((-1:Int)+((xs.length+1:Nat):Int)).toNat=xs.length:=by omega
 rw [e2]
 simp
structure HS (H0:Hp) (p R D:abm) (ss:List Str) (room:Int) (H:Hp) (vr:List V) (kvs:List (Key × V)) (runs:List (List Row)) (m:Nat):Prop where
 pack:bN H p
 same:aP p H0 H
 hR:H R=some (.lst vr)
 pR:acN (fu H) vr runs
 hD:H D=some (.dK kvs)
 keys:kvs.map (·.1)=(ss.take m).map adz
 vals:∀ n∈ss.take m,∃ i:Int,cJ kvs (.inr n)=some (.int i)
 le:m<=ss.length
 rm:(m:Int)<=room∨m=0
 good:∀ r∈runs,iT r
theorem aP.tups {p:abm} {H H':Hp} (hp:bN H p) (s:aP p H H'):bZ H H':=fun b xs e=>s b _ (fun z=>by obtain ⟨n,e',_⟩:=hp; rw [z,e'] at e; cases e) e
section
variable {H0 H H':Hp} {p R D:abm} {ss:List Str} {room:Int} {vr:List V} {kvs:List (Key × V)} {runs:List (List Row)} {m:Nat}
theorem HS.step (h:HS H0 p R D ss room H vr kvs runs m) (nR:R≠p) (nD:D≠p) (pk:bN H' p) (s:aP p H H'):HS H0 p R D ss room H' vr kvs runs m :=
 ⟨pk,h.same.trans s,s _ _ nR h.hR,aq (fun _ _ z=>z.ts (aP.tups h.pack s)) h.pR,s _ _ nD h.hD,h.keys,h.vals,h.le,h.rm,h.good⟩
theorem bN.new {q:abm} {o:HO} (h:bN H p) (hq:H q=none):bN (upd H q o) p:=by
 obtain ⟨n,e,n0⟩:=h
 exact ⟨n,by rw [aF (aD e hq)]; exact e,n0⟩
theorem bN.put {q:abm} {o:HO} (h:bN H p) (hq:q≠p):bN (upd H q o) p:=by
 obtain ⟨n,e,n0⟩:=h
 exact ⟨n,by rw [aF (afv hq)]; exact e,n0⟩
theorem HS.new {q:abm} {o:HO} (h:HS H0 p R D ss room H vr kvs runs m) (nR:R≠p) (nD:D≠p) (hq:H q=none):HS H0 p R D ss room (upd H q o) vr kvs runs m :=
 h.step nR nD (h.pack.new hq) ((aP.of (Same.refl H)).new hq)
theorem jV {kvs:List (Key × V)} {k:Key} {v:V} (h:k ∉ kvs.map (·.1)):putK kvs k v=kvs++[(k,v)]:=by
 unfold putK
 rw [if_neg]
 intro z
 obtain ⟨x,hx,e⟩:=anf.mp z
 exact h (abh.mpr ⟨x,hx,of_decide_eq_true e⟩)
theorem wu {n:Str} (hm:ss[m]?=some n):ss.take (m+1)=ss.take m++[n]:=by rw [abj,hm]; rfl
theorem zA {n:Str} (nd:ss.Nodup) (hm:ss[m]?=some n):n ∉ ss.take m:=fun z=>by
 obtain ⟨j,hj,ej⟩:=agB.mp z
 obtain ⟨hl,el⟩:=acZ.mp hm
 rw [abo] at hj
 rw [ai4] at ej
 have:=(aip (i:=j) (j:=m) (h₀:=by omega) (h₁:=hl) nd).mp (ej.trans el.symm)
 omega
theorem HS.put {L tp:abm} {vl:List V} {rs:List Row} {n:Str} {mo rd:Int} (h:HS H0 p R D ss room H vr kvs runs m) (nR:R≠p) (nD:D≠p) (nRD:R≠D) (nL:L≠p) (nLR:L≠R) (nLD:L≠D) (f0:H0 D=none) (fL:H0 L=none)
   (nd:ss.Nodup) (hm:ss[m]?=some n) (hr:(m:Int)<room) (hL:H L=some (.lst vl)) (pl:acN (cM H) vl rs) (ht:upd H D (.dK (putK kvs (.inr n) (.int mo))) tp=none) :
   HS H0 p R D ss room (upd (upd (upd H D (.dK (putK kvs (.inr n) (.int mo)))) tp (.tup [.str n,.int rd])) L (.lst (vl++[.ref tp]))) vr (putK kvs (.inr n) (.int mo)) runs (m+1) /\
   acN (cM (upd (upd (upd H D (.dK (putK kvs (.inr n) (.int mo)))) tp (.tup [.str n,.int rd])) L (.lst (vl++[.ref tp])))) (vl++[.ref tp]) (rs++[(n,rd)]):=by
 have t1:bZ H (upd H D (.dK (putK kvs (.inr n) (.int mo)))):=(bZ.refl H).put h.hD (fun _ z=>nomatch z)
 have t2:bZ H (upd (upd H D (.dK (putK kvs (.inr n) (.int mo)))) tp (.tup [.str n,.int rd])):=t1.new ht
 have hL1:upd H D (.dK (putK kvs (.inr n) (.int mo))) L=some (.lst vl):=by rw [aF nLD]; exact hL
 have nLt:L≠tp:=aD hL1 ht
 have hL2:upd (upd H D (.dK (putK kvs (.inr n) (.int mo)))) tp (.tup [.str n,.int rd]) L=some (.lst vl):=by rw [aF nLt]; exact hL1
 have t3:=t2.put (o:=.lst (vl++[.ref tp])) hL2 (fun _ z=>nomatch z)
 have hle:m<ss.length:=(acZ.mp hm).1
 have agK:(adz n:Key) ∉ kvs.map (·.1):=fun z=>by
   rw [h.keys] at z
   obtain ⟨y,hy,e⟩:=abh.mp z
   exact zA nd hm (by rw [<- afA e]; exact hy)
 refine ⟨⟨((h.pack.put nD).new ht).put nL,?_,?_,aq (fun _ _ z=>z.ts t3) h.pR,?_,?_,?_,hle,.inl (by omega),h.good⟩,?_⟩
 . intro b o hb e
   have n1:b≠D:=aD e f0
   have n2:b≠L:=aD e fL
   have e1:upd H D (.dK (putK kvs (.inr n) (.int mo))) b=some o:=by rw [aF n1]; exact h.same b o hb e
   rw [aF n2,aF (aD e1 ht)]
   exact e1
 . have e1:upd H D (.dK (putK kvs (.inr n) (.int mo))) R=some (.lst vr):=by rw [aF nRD]; exact h.hR
   rw [aF (afv nLR),aF (aD e1 ht)]
   exact e1
 . have e1:upd H D (.dK (putK kvs (.inr n) (.int mo))) D=some (.dK (putK kvs (.inr n) (.int mo))):=ao
   rw [aF (afv nLD),aF (aD e1 ht)]
   exact e1
 . rw [jV agK,abt,h.keys,wu hm,abt]; rfl
 . intro x hx
   rw [wu hm] at hx
   rw [qQ]
   by_cases e:(adz x:Key)=adz n
   . exact ⟨mo,if_pos e⟩
   . rw [if_neg e]
     rcases abq.mp hx with z | z
     . exact h.vals x z
     . exact absurd (by rw [abw.mp z]) e
 . refine aM (aq (fun _ _ z=>z.ts t3) pl) (.cons ⟨tp,rfl,?_⟩ .nil)
   rw [aF (afv nLt),ao]
end
theorem LK {rs:List Row} {n:Str} {rd:Int} (h:(rs.map afn).Pairwise (·<·)) (g:∀ r∈rs,r.2<rd):((rs++[(n,rd)]).map afn).Pairwise (·<·):=by
 rw [abt,ap6]
 refine ⟨h,ain _ _,fun a ha b hb=>?_⟩
 obtain ⟨r,hr,rfl⟩:=abh.mp ha
 have e:b=rd:=by simpa using hb
 rw [e]; exact g r hr
theorem Yo {a b c e d:Int} (h0:0<=d) (h4:d<4) (ha:0<=a/\a<=300) (hb:0<=b/\b<=300) (hc:0<=c/\c<=300) (he:0<=e/\e<=300):∃ w:Int,Cz [V.int a,.int b,.int c,.int e] d=some (.int w)/\0<=w/\w<=300:=by
 obtain ⟨n,rfl⟩:=aeM h0
 match n,h4 with
 | 0,_=>exact ⟨a,rfl,ha⟩
 | 1,_=>exact ⟨b,rfl,hb⟩
 | 2,_=>exact ⟨c,rfl,hc⟩
 | 3,_=>exact ⟨e,rfl,he⟩
 | n+4,h=>exact absurd h (by omega)
def NvR (p ln R D L:abm) (nm:Str) (room low wide aQ Hj mo:Int) (m:Nat) (x11 x14:V) (H:Hp) (ss:List Str) (vr vl:List V) (kvs:List (Key × V)) (runs:List (List Row)) (rs:List Row) (F:Int->Prop):St->Hp->Prop:=fun σ' H'=>∃ rd:Int,σ'=[some (.ref p),some (.str nm),some (.ref ln),some (.int room),some (.int low),some (.int wide),some (.int aQ),some (.int mo),some (.ref R),some (.ref D),some (.int (m:Int)),some x11,some (.int (low+Hj)),some (.ref L),some x14,some (.int rd)]/\HS H p R D ss room H' vr kvs runs m/\H' L=some (.lst vl)/\acN (cM H') vl rs/\F rd
section
variable {P:acs} {w:adH} {K:aas} {mg:Str->Option aau} {base:ae9} {t8 t6 tR tL:Tok}
end
end gF
namespace gF
open PySem L2
theorem agL {X:Cx}:gD X (compareOp .NotEq) (fS fun i j=>.bl (!decide (i=j))):=by
 intro pins s σ H x y v u Q I rx ry q
 refine abN pins s σ H x y v u Q I rx ry ?_
 cases x <;> cases y <;> first
   | exact (show False from q).elim
   | (refine ⟨rfl,?_⟩
      rename_i i j
      have e:decide (V.str i=V.str j)=decide (i=j):=by rw [aeU]; simp
      rw [e]; exact q)
theorem QT {κ:Type} [DecidableEq κ] {kvs:List (κ × V)} {k:κ} {v:V} {x:κ × V} (h:x∈putK kvs k v):x=(k,v)∨x∈kvs:=by
 unfold putK at h
 split at h
 . obtain ⟨y,hy,e⟩:=abh.mp h
   split at e
   . rename_i c
     exact .inl (by rw [<- e,c])
   . exact .inr (by rw [<- e]; exact hy)
 . rcases abq.mp h with z | z
   . exact .inr z
   . exact .inl (abw.mp z)
theorem QV {κ:Type} [DecidableEq κ] {kvs:List (κ × V)} {k:κ} (h:k∈kvs.map (·.1)):∃ v,cJ kvs k=some v/\(k,v)∈kvs:=by
 induction kvs with
 | nil=>simp at h
 | cons x r ih =>
   by_cases e:x.1=k
   . refine ⟨x.2,dF e,?_⟩
     rw [<- e]; exact aaU
   . rw [abA] at h
     rcases abz.mp h with z | z
     . exact absurd z.symm e
     . obtain ⟨v,h1,h2⟩:=ih z
       exact ⟨v,by rw [dG e]; exact h1,aaM _ h2⟩
def pK (kvs:List (Key × V)) (ps:List (Str × Str)):Prop:=∀ p∈ps,cJ kvs (.inr p.1)=some (.str p.2)
theorem pK.put {kvs:List (Key × V)} {ps:List (Str × Str)} {p:Str × Str} (h:pK kvs ps) (n:∀ q∈ps,q.1≠p.1):pK (putK kvs (.inr p.1) (.str p.2)) (ps++[p]):=fun q hq=>by
 rw [qQ]
 rcases abq.mp hq with z | z
 . rw [if_neg (fun e=>n q z (afA e))]; exact h q z
 . rw [abw.mp z,if_pos rfl]
def u6 (hs:List aA) (H:Hp) (kf:List (List Key × V)):Prop:=∀ kv∈kf,∃ l:Letter,kv.1=kP l.1/\cg H kv.2 l/\lg hs l
theorem u6.keys {hs:List aA} {H:Hp}:∀ {kf:List (List Key × V)},u6 hs H kf->∃ ks:List (Str × Str),kf.map (·.1)=ks.map kP/\ks.length=kf.length
 | [],_=>⟨[],rfl,rfl⟩
 | kv :: r,h=>by
   obtain ⟨l,e,_⟩:=h kv aaU
   obtain ⟨ks,e2,e3⟩:=u6.keys (kf:=r) fun x hx=>h x (aaM _ hx)
   exact ⟨l.1 :: ks,by rw [abA,abA,e,e2],by simp [e3]⟩
def cZ (nm:Str) (r:List Row):List (Str × Str):=r.map fun x=>(x.1,nm)
theorem uz (h:aA):cO h=h.runs.flatMap (cZ h.name):=by
 unfold cO jf cZ
 rw [List.map_flatten,ao4]
theorem DX {hs:List aA} {kvs:List (Key × V)} {n:Str} (ow:pK kvs (pairsOf hs)) (h:n∈namesOf hs):∃ hh∈hs,n∈bT hh/\cJ kvs (.inr n)=some (.str hh.name):=by
 obtain ⟨hh,m,hn⟩:=adG.mp h
 refine ⟨hh,m,hn,ow (n,hh.name) (adG.mpr ⟨hh,m,?_⟩)⟩
 obtain ⟨r,hr,er⟩:=abh.mp hn
 exact abh.mpr ⟨r,hr,by rw [er]⟩
theorem wz {hs:List aA} (g:∀ h∈hs,cQ h) {n:Str} (h:n∈namesOf hs):Good n:=by
 obtain ⟨hh,m,hn⟩:=adG.mp h
 obtain ⟨r,hr,er⟩:=abh.mp hn
 obtain ⟨run,hrun,hr2⟩:=aiu.mp hr
 rw [<- er]
 exact ((g hh m).runs run hrun).names r hr2
def PvC (p lh dh O:abm) (hs:List aA) (H:Hp):Nat->St->Hp->Prop:=fun i σ H'=>∃ (kv:List (Key × V)) (o4 o5 o6 o7:Option V),σ=[some (.ref p),some (.ref lh),some (.ref dh),some (.ref O),o4,o5,o6,o7,none,none,none,none,none,none,none,none]/\H' O=some (.dK kv)/\pK kv (pairsOf (hs.take i))/\kv.length<=(pairsOf (hs.take i)).length/\Same H H'
def PvD (p lh dh O a:abm) (hs:List aA) (hh:aA) (i:Nat) (H:Hp):Nat->St->Hp->Prop:=fun j σ H'=>∃ (kv:List (Key × V)) (o5 o6 o7:Option V),σ=[some (.ref p),some (.ref lh),some (.ref dh),some (.ref O),some (.ref a),o5,o6,o7,none,none,none,none,none,none,none,none]/\H' O=some (.dK kv)/\pK kv (pairsOf (hs.take i)++(hh.runs.take j).flatMap (cZ hh.name))/\kv.length<=(pairsOf (hs.take i)++(hh.runs.take j).flatMap (cZ hh.name)).length/\Same H H'
def PvE (p lh dh O a c2:abm) (hs:List aA) (hh:aA) (i j:Nat) (r:List Row) (H:Hp):Nat->St->Hp->Prop:=fun t σ H'=>∃ (kv:List (Key × V)) (o6 o7:Option V),σ=[some (.ref p),some (.ref lh),some (.ref dh),some (.ref O),some (.ref a),some (.ref c2),o6,o7,none,none,none,none,none,none,none,none]/\H' O=some (.dK kv)/\pK kv (pairsOf (hs.take i)++(hh.runs.take j).flatMap (cZ hh.name)++(cZ hh.name r).take t)/\kv.length<=(pairsOf (hs.take i)++(hh.runs.take j).flatMap (cZ hh.name)++(cZ hh.name r).take t).length/\Same H H'
section
variable {P:acs} {w:adH} {K:aas} {mg:Str->Option aau} {base:ae9} {t8 t6 tR tL:Tok}
end
end gF
namespace gF
open PySem L2
theorem mX {p:abm} {H Ha Hb:Hp} (s:Same H Ha) (n:H p=none) (b:aP p Ha Hb):Same H Hb:=fun c o e=>b c o (fun z=>by rw [z,n] at e; cases e) (s c o e)
theorem qd:∀ (more kvs:List (Key × V)),(more.map (·.1)).Nodup->(∀ k∈more.map (·.1),k ∉ kvs.map (·.1))->iz kvs more=kvs++more
 | [],kvs,_,_=>by rw [afK]; rfl
 | x :: r,kvs,nd,dj=>by
   rw [abA] at nd dj
   have nd':=agu.mp nd
   show iz (putK kvs x.1 x.2) r=_
   rw [jV (dj x.1 aaU),qd r _ nd'.2,aeX]
   . rfl
   . intro k hk z
     rw [abt] at z
     rcases abq.mp z with z | z
     . exact dj k (aaM _ hk) z
     . have:k=x.1:=by simpa using z
       exact nd'.1 (by rw [<- this]; exact hk)
theorem wA {kvs more:List (Key × V)} {k:Key}:cJ (kvs++more) k=(cJ kvs k).or (cJ more k):=by
 unfold cJ
 rw [aqT]
 cases kvs.find? (fun kv=>decide (kv.1=k)) <;> rfl
theorem zB {kvs:List (Key × V)} {k:Key} (h:k ∉ kvs.map (·.1)):cJ kvs k=none:=by
 cases e:cJ kvs k with
 | none=>rfl
 | some v=>exact absurd (Vw e) h
section
variable {P:acs} {w:adH} {K:aas} {mg:Str->Option aau} {base:ae9} {t8 t6 tR tL:Tok}
end
end gF
namespace gF
open PySem L2
def pL (r:Row):Da:=.tup [.str r.1,.int r.2]
def wB (rs:List Row):Da:=.tup (rs.map pL)
def Bv (rs:List (List Row)):Da:=.tup (rs.map wB)
def fB (h:aA):Da:=.tup [.str h.name,.int h.low,.int h.high,.int h.aQ,Bv h.runs]
def mY (hs:List aA):Da:=.tup (hs.map fB)
def Bw:Option Int->Da
 | none=>.non
 | some i=>.int i
def dJ (l:Letter):Da:=.tup [.str l.1.1,.str l.1.2,.int l.2.1,Bw l.2.2]
def jZ (ls:List Letter):Da:=.tup (ls.map dJ)
theorem Good.da {H:Hp} {z:Str} (g:Good z):cR H (.str z) (.str z):=.str z (by have:=g.hi; have mq:sizeLine=16777216:=acO; omega)
theorem oA {α:Type} {H:Hp} {R:V->α->Prop} {f:α->Da} {vs:List V} {xs:List α} (p:acN R vs xs) (h:∀ v x,x∈xs->R v x->cR H v (f x)):gG H vs (xs.map f):=by
 induction p with
 | nil=>exact .nil
 | cons r _ ih=>exact .cons (h _ _ (aaU ..) r) (ih fun v x hx=>h v x (aaM _ hx))
section
variable {H:Hp} {v:V}
theorem cM.da {r:Row} (h:cM H v r) (g:Good r.1):cR H v (pL r):=by
 obtain ⟨a,rfl,e⟩:=h
 exact .tup e (show 2<=25 by decide) (.cons g.da (.cons (.int _) .nil))
theorem fu.da {r:List Row} (h:fu H v r) (g:iT r):cR H v (wB r):=by
 obtain ⟨a,vs,rfl,e,p⟩:=h
 exact .tup e (by rw [p.length]; exact g.few) (oA p fun v x hx q=>q.da (g.names x hx))
theorem jN.da {rs:List (List Row)} (h:jN H v rs) (few:rs.length<=25) (g:∀ r∈rs,iT r):cR H v (Bv rs):=by
 obtain ⟨a,vs,rfl,e,p⟩:=h
 exact .tup e (by rw [p.length]; exact few) (oA p fun v x hx q=>q.da (g x hx))
theorem bC.da {h:aA} (a:bC H v h) (g:cQ h):cR H v (fB h):=by
 obtain ⟨a,b,rfl,e,p⟩:=a
 exact .tup e (show 5<=25 by decide) (.cons g.name.da (.cons (.int _) (.cons (.int _) (.cons (.int _) (.cons (p.da g.few g.runs) .nil)))))
theorem fM.da {hs:List aA} (a:fM H v hs) (few:hs.length<=25) (g:∀ h∈hs,cQ h):cR H v (mY hs):=by
 obtain ⟨a,vs,rfl,e,p⟩:=a
 exact .tup e (by rw [p.length]; exact few) (oA p fun v x hx q=>q.da (g x hx))
theorem V5 {m:Option Int}:cR H (mO m) (Bw m):=by
 cases m with
 | none=>exact .non
 | some i=>exact .int i
theorem cg.da {l:Letter} (h:cg H v l) (g1:Good l.1.1) (g2:Good l.1.2):cR H v (dJ l):=by
 obtain ⟨a,rfl,e⟩:=h
 exact .tup e (show 4<=25 by decide) (.cons g1.da (.cons g2.da (.cons (.int _) (.cons V5 .nil))))
theorem fW.da {ls:List Letter} (h:fW H v ls) (few:ls.length<=25) (g:∀ l∈ls,Good l.1.1/\Good l.1.2):cR H v (jZ ls):=by
 obtain ⟨a,vs,rfl,e,p⟩:=h
 exact .tup e (by rw [p.length]; exact few) (oA p fun v x hx q=>q.da (g x hx).1 (g x hx).2)
end
theorem sO {α:Type} {R:α->α->Prop}:∀ {l:List α},l.Pairwise R->∀ p∈gq l,R p.1 p.2
 | [],_,p,hp=>by simp [gq] at hp
 | [x],_,p,hp=>by simp [gq] at hp
 | x :: y :: l,h,p,hp=>by
   have e:gq (x :: y :: l)=(x,y) :: gq (y :: l):=rfl
   rw [e] at hp
   rcases abz.mp hp with z | z
   . rw [z]; exact (amH.mp h).1 y (aaU ..)
   . exact sO (amH.mp h).2 p z
theorem QW {is:List Int} (h:is.Pairwise (·<·)):qX is=true:=acL.mpr fun p hp=>decide_eq_true (sO h p hp)
theorem QX {ks:List (Str × Str)} (h:ks.Pairwise (fun a b=>sy a b=true)):zu ks=true:=acL.mpr fun p hp=>sO h p hp
theorem QZ {r:Row} (g:Good r.1):fO (pL r)=true:=by
 show (pC (.str r.1) && gP (.int r.2))=true
 rw [show pC (.str r.1)=true from g.yG]
 rfl
theorem aah {rs:List Row} (g:iT rs):v7 (wB rs)=true:=by
 show (!(rs.map pL).isEmpty && ((rs.map pL).all fO && qX ((rs.map pL).map fun x=>intD (GZ x))))=true
 have h1:(rs.map pL).isEmpty=false:=by
   have:=g.ne
   cases rs with
   | nil=>exact absurd rfl this
   | cons x xs=>rfl
 have h2:(rs.map pL).all fO=true:=acL.mpr fun d hd=>by
   obtain ⟨r,hr,rfl⟩:=abh.mp hd
   exact QZ (g.names r hr)
 have h3:((rs.map pL).map fun x=>intD (GZ x))=rs.map afn:=by rw [adJ]; rfl
 rw [h1,h2,h3,QW g.rise]
 rfl
theorem V6 {rs:List (List Row)} (g:∀ r∈rs,iT r):JB (Bv rs)=true:=by
 show (rs.map wB).all v7=true
 exact acL.mpr fun d hd=>by
   obtain ⟨r,hr,rfl⟩:=abh.mp hd
   exact aah (g r hr)
theorem Q0 {n:Str} {l h d:Int} (g:Good n) (hw:l<=h) (hd:0<=d):mQ (.str n) (.int l) (.int h) (.int d)=true:=by
 unfold mQ
 rw [show pC (.str n)=true from g.yG]
 show (true && ((true && (true && true)) && (decide (l<=h) && decide (0<=d))))=true
 rw [decide_eq_true hw,decide_eq_true hd]
 rfl
theorem Q5 {h:aA} (g:cQ h):fP (fB h)=true:=by
 show (mQ (.str h.name) (.int h.low) (.int h.high) (.int h.aQ) && JB (Bv h.runs))=true
 rw [Q0 g.name g.wide g.aQ,V6 g.runs]
 rfl
theorem Q6 (r:List Row):runOf (wB r)=r:=by
 show (r.map pL).map rowOf=r
 rw [adJ]
 exact aoS r
theorem Hl (h:aA):bI (fB h)=h:=by
 show aA.mk h.name h.low h.high h.aQ ((h.runs.map wB).map runOf)=h
 rw [adJ,show runOf∘wB=id from funext Q6,aoS]
theorem uD (hs:List aA):(hs.map fB).map bI=hs:=by
 rw [adJ,show bI∘fB=id from funext Hl,aoS]
theorem LQ {hs:List aA} (g:cY hs):jk (mY hs)=true:=by
 show (decide (1<=(hs.map fB).length) && (decide ((hs.map fB).length<=6) && ((hs.map fB).all fP && (decide (((hs.map fB).map bI).map aA.name).Nodup && (decide (namesOf ((hs.map fB).map bI)).Nodup && decide ((namesOf ((hs.map fB).map bI)).length<=24))))))=true
 have h2:(hs.map fB).all fP=true:=acL.mpr fun d hd=>by
   obtain ⟨r,hr,rfl⟩:=abh.mp hd
   exact Q5 (g.all r hr)
 rw [uD,h2,aao,decide_eq_true g.lo,decide_eq_true g.hi,decide_eq_true g.names,decide_eq_true g.rows,decide_eq_true g.few]
 rfl
theorem LR {hs:List aA} {l:Letter} (g:lg hs l):dW (dJ l)=true:=by
 obtain ⟨⟨s,t⟩,le,m⟩:=l
 have g1:=g.sent.yG
 have g2:=g.taken.yG
 have g3:=g.least
 cases m with
 | none=>simp [dJ,dW,Bw,JC,pC,gP,intD,g1,g2,g3]
 | some m =>
   have g4:=g.most m rfl
   simp [dJ,dW,Bw,JC,pC,gP,intD,g1,g2,g3,g4]
theorem Q7 {ps:List (Str × Str)} {n x:Str} (nd:(ps.map adB).Nodup) (h:(n,x)∈ps):lY ps n=some x:=by
 unfold lY
 induction ps with
 | nil=>simp at h
 | cons p ps ih =>
   rw [abA,agu] at nd
   by_cases e:p.1=n
   . rw [apf (by simp [e])]
     rcases abz.mp h with z | z
     . rw [<- z]; rfl
     . exact absurd (abh.mpr ⟨_,z,e.symm⟩) nd.1
   . rw [apg (by simp [e])]
     rcases abz.mp h with z | z
     . rw [<- z] at e; exact absurd rfl e
     . exact ih nd.2 z
theorem owner {hs:List aA} (nd:(namesOf hs).Nodup) {h:aA} {n:Str} (hh:h∈hs) (hn:n∈bT h):lY (pairsOf hs) n=some h.name:=by
 refine Q7 (by rw [iY]; exact nd) ?_
 obtain ⟨r,hr,e⟩:=abh.mp hn
 exact adG.mpr ⟨h,hh,abh.mpr ⟨r,hr,by rw [e]⟩⟩
theorem Ho {hs:List aA} {ls:List Letter} (gh:cY hs) (g:dI hs ls):mW hs (jZ ls)=true:=by
 show (decide ((ls.map dJ).length<=24) && ((ls.map dJ).all dW && ((ls.map dJ).all (pJ hs) && zu ((ls.map dJ).map keyOf))))=true
 have h2:(ls.map dJ).all dW=true:=acL.mpr fun d hd=>by
   obtain ⟨r,hr,rfl⟩:=abh.mp hd
   exact LR (g.all r hr)
 have h3:(ls.map dJ).all (pJ hs)=true:=acL.mpr fun d hd=>by
   obtain ⟨l,hr,rfl⟩:=abh.mp hd
   obtain ⟨h1,m1,h2,m2,n1,n2,ne⟩:=(g.all l hr).GX
   unfold pJ
   rw [show (keyOf (dJ l)).1=l.1.1 from rfl,show (keyOf (dJ l)).2=l.1.2 from rfl,owner gh.rows m1 n1,owner gh.rows m2 n2]
   show (!decide (h1.name=h2.name))=true
   rw [decide_eq_false ne]; rfl
 have h4:(ls.map dJ).map keyOf=ls.map adB:=by rw [adJ]; rfl
 rw [h2,h3,h4,QX g.rise,aao,decide_eq_true g.few]
 rfl
theorem zE {hs:List aA} {ls:List Letter} (gh:cY hs) (g:dI hs ls):ou (.tup [mY hs,jZ ls])=true:=by
 show (jk (mY hs) && mW ((hs.map fB).map bI) (jZ ls))=true
 rw [uD,LQ gh,Ho gh g]
 rfl
theorem bK.da {H:Hp} {v:V} {hs:List aA} {ls:List Letter} (h:bK H v hs ls) (gh:cY hs) (g:dI hs ls):cR H v (.tup [mY hs,jZ ls]):=by
 obtain ⟨a,x,y,rfl,e,h1,h2⟩:=h
 exact .tup e (show 2<=25 by decide) (.cons (h1.da (by have:=gh.hi; omega) gh.all) (.cons (h2.da (by have:=g.few; omega) fun l hl=>⟨(g.all l hl).sent,(g.all l hl).taken⟩) .nil))
end gF
namespace gF
open PySem L2
section
variable {σ:St} {H:Hp} {te ta tb:TE} {ts:TA} {d:Da} {ds xs ys:List Da} {i j:Int} {tl th:TO} {lo hi:Option Int} {K:aas}
end
section
variable {σ:St} {H:Hp} {te:TE} {ts:TA} {ds ods:List Da} {K:aas}
end
end gF
namespace gF
open PySem L2
section
variable {σ:St} {H:Hp} {te:TE} {ts:TA} {ds ods:List Da} {K:aas} {D:Ends} {t u:TS}
end
section
variable {n l h d r:Da}
end
end gF
namespace gF
open PySem L2
section
variable {g:BI->TG} {te:BI->TE} {σ0:St} {D:abm} {End:Hp->Prop} {H1:Hp}
end
section
variable {P:acs} {w:adH} {K:aas} {mg:Str->Option aau} {base:ae9} {t8 t6 tR tL:Tok}
end
end gF
namespace gF
open PySem L2
section
variable {P:acs} {w:adH} {K:aas} {mg:Str->Option aau} {base:ae9} {t8 t6 tR tL:Tok}
end
end gF
namespace gF
open PySem L2
section
variable {hs:List aA} {s t l m:Da} {xs:List Da}
end
section
variable {P:acs} {w:adH} {K:aas} {mg:Str->Option aau} {base:ae9} {t8 t6 tR tL:Tok}
end
end gF
namespace gF
open PySem L2
section
variable {P:acs} {w:adH} {K:aas} {mg:Str->Option aau} {base:ae9} {t8 t6 tR tL:Tok}
end
end gF
namespace gF
open PySem L2
section
variable {H:Hp} {v:V}
end
section
variable {g:BI->TG} {te:BI->TE} {σ0:St} {D:abm} {End:Hp->Prop} {H1:Hp}
end
section
variable {P:acs} {w:adH} {K:aas} {mg:Str->Option aau} {base:ae9} {t8 t6 tR tL:Tok}
end
end gF
namespace gF
open PySem L2
section
variable {g:BI->TG} {te:BI->TE} {σ0:St} {D:abm} {End:Hp->Prop} {H1:Hp}
end
section
variable {P:acs} {w:adH} {K:aas} {mg:Str->Option aau} {base:ae9} {t8 t6 tR tL:Tok}
end
end gF
namespace Fw
section
variable {α:Type} [DecidableEq α]
end
end Fw
namespace L2
open PySem PySem.Spec PyProof.Rows
section
variable {X:Cx}
end
end L2
namespace L2
open PySem PySem.Spec PyProof.Rows
section
variable {prog:acs} {w:adH} {A:aeN} {E:aau->aat->Prop} {s:aat} {z TI TO T i1 i2 l1 l2:abm} {k1 k2:Nat} {xs ys:Array aau}
end
end L2
namespace L2
open PySem PySem.Spec PyProof.Rows
section
variable {X:Cx} {pins:List (abm × Obj)} {σ:St} {H N:Hp} {s:aat} {h':ae9}
end
theorem zF:∀ Ts:List abm,Vals (Ts.map V.ref) (Ts.map abk)
 | []=>.nil
 | _ :: t=>.cons rfl (zF t)
end L2
namespace L2
open PySem PySem.Spec PyProof.Rows
section
variable {X:Cx} {elt kx vx tg iter:Expr} {ifs:List Expr} {scope eY:Scope} {pos:Pos} {own cap:List Str} {ix:List Nat} {wi:TI} {g:BI->TG} {tt:BI->TT} {tk tv:BI->TE}
theorem aai:uw X (.DictComp kx vx [⟨tg,iter,ifs,0⟩] scope pos) 0 iter.pos tg ifs (tailD kx vx) where
 hq:=fun _ _ _=>rfl
 hden:=fun it D env Q E s h=>by
   show wpAny _ X.A ((compTurn (.DictComp kx vx [⟨tg,iter,ifs,0⟩] scope pos) 0 (.ref it) (.ref D) env).onRaise (fun x=>do noteFrame x env; theTreesLotGoes x)) _ _ s
   exact amT h
 hst:=fun it D env R s h0 h=>su rfl rfl rfl (fun _=>rfl) rfl rfl h0 h
abbrev V7 (own:List Str) (ix:List Nat) (wi:TI) (g:BI->TG) (tt:BI->TT) (tk tv:BI->TE):TE:=Bg own ix (.dK []) wi g tt fun b D=>Gz D (tk b) (tv b)
theorem Ma (hc:X.calm=true) (hX:X.env.scope=eY) (S:pW eY scope X.N own cap ix) (hi:PI X tg iter wi) (hg:∀ b,PG (blk X scope (own++cap) b) tg (g b)) (ht:∀ b,Dn (blk X scope (own++cap) b) ifs (tt b))
   (hk:∀ b,PE (blk X scope (own++cap) b) kx (tk b)) (hv:∀ b,PE (blk X scope (own++cap) b) vx (tv b)) (hs:∀ x,foldedSetIterable iter X.env x=pure x:=by intro _; rfl) :
   PE X (.DictComp kx vx [⟨tg,iter,ifs,0⟩] scope pos) (V7 own ix wi g tt tk tv):=by
 intro pins s σ H Q I h
 show wpAny _ X.A (comprehension (.DictComp kx vx [⟨tg,iter,ifs,0⟩] scope pos) scope X.env _ newDict false (eval iter X.env)) _ _ s
 refine mK (use:=none) rfl aai (fun _ _ _ _ _ _=>Dv) hc hX S hi hg ht (fun b D=>yZ (fun _ _ f=>f) (hk b) (hv b)) hs I h fun D C H' s' q hn _ hI=>?_
 obtain ⟨m,hn⟩:=hn
 exact ⟨m,hn,fun h' hh=>⟨.ref D,H',hI h' hh,rfl,q⟩⟩
end
end L2
namespace L2
open PySem PySem.Spec PyProof.Rows
theorem sS:mroOf (.type "dict")=pure [.type "dict",.type "object"]:=by rw [mroOf_type]; kernel_rfl
theorem uR:typeLookup (.type "dict") "__new__" = pure (some (.builtin "dict.__new__")):=by rw [amI,ahA]; kernel_rfl
theorem DY:TypeCalled "dict" "dict.__new__" "dict.__init__" :=
 ⟨by decide +kernel,by decide +kernel,⟨_,_,sS⟩,madeBy_type sS uR (by decide +kernel),by decide +kernel,by rw [amZ]; kernel_rfl,PySem.F.slot_dict_init⟩
theorem uT (a:aau):checkTypeCall "dict" ⟨[a],[]⟩=pure ():=by kernel_rfl
theorem wC (a:aau):checkBuiltinCall "dict.__new__" ⟨[.type "dict",a],[]⟩=pure ():=by kernel_rfl
theorem wD:entryFor table "dict.__new__" = some agM.«dict.__new__»:=ao5 (by kernel_rfl)
theorem mZ:plainId "dict.__new__" = true:=by decide +kernel
theorem m6:entryFor table "dict.update.loop" = some agM.«dict.update.loop»:=ao5 (by kernel_rfl)
theorem gW:plainId "dict.update.loop" = true:=by decide +kernel
theorem yH:isSubtype (.type "dict") (.type "dict")=pure true:=by rw [amZ]; kernel_rfl
section
variable {prog:acs} {w:adH} {A:aeN} {E:aau->aat->Prop} {s:aat}
theorem yI (a:aau) {Q₁:aau->aat->Prop}
   (h:Q₁ (.ref s.heap.objs.size) { s with heap:=s.heap.push { cls:=.type "dict",data:=.dict #[] } }) :
   codeAny (model prog w) A (.call (.builtin "dict.__new__") ⟨[.type "dict",a],[]⟩) (wants Q₁ E) s:=by
 refine amC ?_
 show wpAny _ A.in1 (do checkBuiltinCall "dict.__new__" ⟨[.type "dict",a],[]⟩; again (.builtin "dict.__new__" ⟨[.type "dict",a],[]⟩)) _ _ s
 refine Fi (anB (wC a) (aar ⟨ahz mZ _,afo wD ?_⟩))
 rw [ae3 mZ _]
 have hsub:=yH
 have hmro:=sS
 have hty:∀ s:aat,s.TypeIs (.type "dict") "type":=fun _=>rfl
 obtain ⟨hp,g,d,tk,os⟩:=s
 unfold agM.«dict.__new__»
 repeat (any_goals (first | assumption | wp_step))
theorem Ea:typeLookup (.type "list") "keys" = pure none:=by rw [amI,ahA]; kernel_rfl
set_option maxRecDepth 8000 in
theorem V8 {a:abm} {o:Obj} {xs:Array aau} {k:Nat} {Q:Option aau->aat->Prop}
   (hx:s.heap.get? a=some o) (hc:o.cls=.type "list") (hdat:o.data=.seq xs k) (hd:o.dict=none) (hA:A.handled=none)
   (h:∀ h' tk e,Heap.NewExcOf s.heap h' e "AttributeError"->Q none { s with heap:=h',toks:=tk }) :
   wpAny (model prog w) A (getAttr? (.ref a) "keys") Q E s:=by
 obtain ⟨c,dct,dat,sl⟩:=o
 simp only at hc hdat hd
 subst hc hdat hd
 obtain ⟨hp,g,d,tk,os⟩:=s
 have hT:∀ tk',(⟨hp,g,d,tk',os⟩:aat).TypeIs (.ref a) "list":=fun _=>⟨_,hx,rfl⟩
 have f1:=sub_AttributeError
 have f3:=F.slot_list_getattribute.lookup
 have f4:=F.slot_list_getattribute.bind (.ref a)
 have f5:=am_list_getattr_none
 unfold getAttr? getAttrBy? getAttrBy
 repeat (any_goals (first | assumption | exact hT _ | ((with_reducible show wpAny _ _ (call (Value.builtin "list.__getattribute__") _ _) _ _ _); refine ap0 F.slot_list_getattribute (hT _) am_entry_list_getattribute (F.args_list_getattribute_2 _ _) (meets_getattribute_miss_list a xs k sl "keys" _ Ea (by decide +kernel) (by size_fits)) ⟨hx,hA,fun h' tk' e hx'=>?_⟩) | wp_step))
 obtain ⟨t',u',he⟩:=hx'.there
 show wpAny _ _ (getattributeRaised _ _ _ _ _ _ _) _ _ _
 unfold getattributeRaised
 repeat (any_goals (first | assumption | wp_step))
 exact h _ _ _ hx'.of
end
end L2
namespace L2
open PySem PySem.Spec PyProof.Rows
section
variable {prog:acs} {w:adH} {A:aeN} {E:aau->aat->Prop} {s:aat}
theorem IsTup.pairItems {T:abm} {x y:aau} {Q:List aau->aat->Prop} (h:aq9 s.heap T #[x,y]) (q:Q [x,y] s):wpAny (model prog w) A (aph (.ref T)) Q E s:=by
 obtain ⟨o,e,c,n,d⟩:=h
 unfold aph
 refine Fi (aiM (T:="tuple") ⟨o,e,c⟩ ?_)
 rw [if_pos (by decide)]
 exact Fi (afs e d (aar q))
variable {K:Type} [DecidableEq K] (knd:KeyKind prog w K)
theorem acA {R:arb->aat->Prop} {d it l:abm} {items:Array aau} {kvs:List (K × aau)} (hh:A.in1.handled=none) (n1:d≠it) (n2:d≠l) (n3:it≠l) (hb:kvs.length<=sizeLine) (hn:items.size=kvs.length) :
   ∀ (k i:Nat) (s:aat),kvs.length-i=k->i<=kvs.length->s.heap.DictOf knd d (merged [] (kvs.take i))->s.heap.IsListIter it l i->s.heap.IsList l items ->
   (∀ (j:Nat) (kv:K × aau),kvs[j]?=some kv->∃ T key,items[j]?=some (.ref T)/\aq9 s.heap T #[key,kv.2]/\knd.is kv.1 key=true/\T≠d/\T≠it) ->
   (∀ (h':ae9) (tk:Nat),h'.DictOf knd d (merged [] kvs)->(∀ b o,b≠d->b≠it->s.heap.get? b=some o->h'.get? b=some o)->R (.ok (.ret .none)) { s with heap:=h',toks:=tk }) ->
   codeAny (model prog w) A (.builtin "dict.update.loop" ⟨[.ref d,.ref it,rawInt i,.none],[]⟩) R s:=by
 intro k
 induction k with
 | zero =>
   intro i s hk hi hd hit hl ht hR
   have hin:i=kvs.length:=by omega
   refine afo m6 ?_
   rw [ae3 gW _]
   show wpAny _ A.in1 (pyNext (.ref it) >>= _) _ _ s
   refine Fi (apn hh hit hl (amM (by omega)) fun h' eb=>?_)
   show wpAny _ A.in1 (Builtin.Dict.addKeywords d [] >>= fun _=>ret acR) _ _ _
   refine Fi (aar (aar (hR h' s.toks ?_ fun b o _ b2 e=>eb b o b2 e)))
   rw [hin,adi] at hd
   obtain ⟨o,es,ep,ho,r⟩:=hd
   exact ⟨o,es,ep,eb _ _ n1 ho,r⟩
 | succ k ih =>
   intro i s hk hi hd hit hl ht hR
   have hlt:i<kvs.length:=by omega
   obtain ⟨kv,hkv⟩:∃ kv,kvs[i]?=some kv:=⟨kvs[i],aaq hlt⟩
   obtain ⟨T,key,hx,hT,hkey,t1,t2⟩:=ht i kv hkv
   refine afo m6 ?_
   rw [ae3 gW _]
   show wpAny _ A.in1 (pyNext (.ref it) >>= _) _ _ s
   refine Fi (ao7 hit hl hx fun h' g1 sb=>?_)
   have hT':aq9 h' T #[key,kv.2]:=by obtain ⟨o,e,r⟩:=hT; exact ⟨o,(sb.2 T t2).trans e,r⟩
   have hd':h'.DictOf knd d (merged [] (kvs.take i)):=by obtain ⟨o,es,ep,ho,r⟩:=hd; exact ⟨o,es,ep,(sb.2 d n1).trans ho,r⟩
   refine Fi (adQ (Fi (wpAny_tryCatch (IsTup.pairItems hT' ?_))))
   show wpAny _ A.in1 (holding [key,kv.2] (dictSet d key kv.2)) _ _ _
   refine adQ ?_
   unfold dictSet
   refine adQ (Fi (knd.pyHash hkey ?_))
   have hlm:(merged [] (kvs.take i)).length<=sizeLine:=by
     have z:=merged_length_le ([]:List (K × aau)) (kvs.take i)
     rw [ahW,abo] at z
     omega
   refine wpAny_dictSetHashed_pairs (s:={ s with heap:=h',toks:=s.toks+1 }) (hsz:=hlm) hkey hd' fun h2 hd2 Ox=>?_
   show wpAny _ A.in1 (again (.builtin "dict.update.loop" ⟨[.ref d,.ref it,rawInt ((i:Int)+1),.none],[]⟩)) _ _ _
   have kk:∀ b o,b≠d->b≠it->s.heap.get? b=some o->h2.get? b=some o:=fun b o b1 b2 e=>(Ox.2 b b1).trans ((sb.2 b b2).trans e)
   refine aar ⟨ahz gW _,ih (i+1) _ (by omega) hlt (by rw [merged_take_succ [] kvs i kv hkv]; exact hd2) (g1.at fun o e=>(Ox.2 it (afv n1)).trans e) (hl.at fun o e=>kk _ o (afv n2) (afv n3) e) (fun j kv2 hj=>?_) fun h3 tk hd3 k3=>?_⟩
   . obtain ⟨T2,key2,a1,⟨o,a2,a2'⟩,a3,a4,a5⟩:=ht j kv2 hj
     exact ⟨T2,key2,a1,⟨o,kk _ _ a4 a5 a2,a2'⟩,a3,a4,a5⟩
   . exact hR h3 tk hd3 fun b o b1 b2 e=>k3 b o b1 b2 (kk b o b1 b2 e)
end
section
variable {X:Cx}
theorem Eb {P:acs} {w:adH} {H:Hp} {h:ae9} (ok:pP P w H h):∀ (ps:List (abm × Key × V)) (its:List aau),Vals (ps.map fun p=>V.ref p.1) its->(∀ p∈ps,H p.1=some (.tup [kV p.2.1,p.2.2])) ->
   ∃ vs:List (Key × aau),KV (ps.map (·.2)) vs/\∀ (j:Nat) (kv:Key × aau),vs[j]?=some kv->∃ T key,its[j]?=some (.ref T)/\aq9 h T #[key,kv.2]/\(aU P w).is kv.1 key=true
 | [],_,.nil,_=>⟨[],.nil,fun j kv e=>by simp at e⟩
 | p :: ps,u :: us,.cons ru rv,hp=>by
   obtain ⟨vs,r,hv⟩:=Eb ok ps us rv fun q hq=>hp q (aaM _ hq)
   cases (show u=abk p.1 from ru)
   obtain ⟨_,its,r2,ob⟩:=(show cu P w H h p.1 (.tup [kV p.2.1,p.2.2]) from ok _ _ (hp p aaU))
   obtain ⟨k,v,rfl,rk,rw⟩:=vals2 r2
   refine ⟨(p.2.1,v) :: vs,.cons ⟨rfl,rw⟩ r,fun j kv e=>?_⟩
   cases j with
   | zero =>
     cases (show some (p.2.1,v)=some kv from e)
     exact ⟨p.1,k,rfl,ob.to,pF rk⟩
   | succ j=>exact hv j kv (by simpa using e)
theorem Hq (hc:X.calm=true):gK X (.type "dict") (fun xs H Q=>∃ (l:abm) (ps:List (abm × Key × V)),xs=[.ref l]/\H l=some (.lst (ps.map fun p=>.ref p.1))/\(∀ p∈ps,H p.1=some (.tup [kV p.2.1,p.2.2]))/\∀ d,H d=none->Q (.ref d) (upd H d (.dK (iz [] (ps.map (·.2)))))):=by
 intro pins s σ H xs us Q I r h
 obtain ⟨l,ps,rfl,hl,hp,q⟩:=h
 obtain ⟨u,rfl,ru⟩:=vals1 r
 cases ru
 obtain ⟨zl,its,n,rv,ln,el⟩:=I.Gv hl
 obtain ⟨vs,rel,hv⟩:=Eb I.hok ps its rv hp
 have lvs:vs.length=its.length:=by have z:=rel.length; rw [aao] at z; rw [aao] at ln; omega
 rw [ln] at zl
 have ll:l<s.heap.objs.size:=abf el
 refine callType_codes (Q₁:=fun obj s₁=>obj=.ref s.heap.objs.size/\s₁={ s with heap:=s.heap.push { cls:=.type "dict",data:=.dict #[] } }) DY (uT _) PySem.F.entry_dict_init (yI _ ⟨rfl,rfl⟩) fun obj s₁ h₁=>?_
 obtain ⟨rfl,rfl⟩:=h₁
 have up:∀ c o,s.heap.get? c=some o->(s.heap.push { cls:=.type "dict",data:=.dict #[] }).get? c=some o:=fun c o e=>aap _ e
 have dS:(s.heap.push { cls:=.type "dict",data:=.dict #[] }).DictOf (aU X.prog X.w) s.heap.objs.size []:=Heap.DictOf.new _
 refine ⟨⟨_,aa8 _ rfl,rfl⟩,PySem.F.args_dict_init_2 _ _,?_⟩
 unfold agM.«dict.__init__»
 refine Fi ?_
 unfold Builtin.Dict.selfAndRest
 refine Fi (am8 (Heap.DictOf.typeIs (s:={ s with heap:=s.heap.push { cls:=.type "dict",data:=.dict #[] } }) dS) ?_)
 refine aar ?_
 show wpAny _ _ (aoT "dict.__init__" s.heap.objs.size (.ref l) [] .none) _ _ _
 unfold aoT
 refine Fi (aiM (T:="list") ⟨_,up _ _ el,rfl⟩ ?_)
 rw [if_pos (by decide)]
 refine Fi (V8 (A:=X.A.in1.in1) (up _ _ el) rfl rfl rfl (I.ok.hd hc) fun h1 tk e ne=>?_)
 rw [if_pos (show (none:Option aau).isNone=true from rfl)]
 refine Fi (aiY ?_)
 have k1:∀ c o,s.heap.get? c=some o->h1.get? c=some o:=fun c o q=>ne.keeps c o (up c o q)
 have sz1:s.heap.objs.size<h1.objs.size:=by obtain ⟨o,_,_,e,_⟩:=dS; exact abf (ne.keeps _ _ e)
 have hl1:h1.IsList l its.toArray:=⟨_,k1 _ _ el,rfl,n,rfl⟩
 refine Fi (amQ (s:={ s with heap:=h1,toks:=tk }) hl1 ?_)
 have k2:∀ c o,h1.get? c=some o->(h1.push { cls:=.type "list_iterator",data:=.fields #[.ref l,.int 0 0] }).get? c=some o:=fun c o q=>aap _ q
 refine aar ⟨ahz gW _,?_⟩
 have dz:∀ c,c<s.heap.objs.size->c≠s.heap.objs.size/\c≠h1.objs.size:=fun c hc=>⟨acu hc,acu (aps hc sz1)⟩
 refine acA (A:=X.A.in1) (aU X.prog X.w) (d:=s.heap.objs.size) (it:=h1.objs.size) (l:=l) (items:=its.toArray) (kvs:=vs) (I.ok.hd hc) (acu sz1) (afv (dz l ll).1) (afv (dz l ll).2) (by omega) (by simp only [abp]; omega) _ 0 _ rfl (abV _)
   (by rw [amY]; exact (dS.keep ne.keeps).keep k2) ⟨_,aa8 _ rfl,rfl,rfl⟩ (hl1.at fun o q=>k2 _ o q) (fun j kv hj=>?_) fun h3 tk3 hd3 k3=>⟨rfl,?_⟩
 . obtain ⟨T,key,a1,⟨o,a2,a2'⟩,a3⟩:=hv j kv hj
   have lt:=abf a2
   exact ⟨T,key,by simpa using a1,⟨o,k2 _ _ (k1 _ _ a2),a2'⟩,a3,(dz T lt).1,(dz T lt).2⟩
 . have kk:∀ c o,s.heap.get? c=some o->h3.get? c=some o:=fun c o e=>k3 c o (dz c (abf e)).1 (dz c (abf e)).2 (k2 _ _ (k1 _ _ e))
   have rm:KV (iz [] (ps.map (·.2))) (merged [] vs):=rel.merge .nil
   have zm:(iz [] (ps.map (·.2))).length<=sizeLine:=by
     have z:=pG (ps.map (·.2)) []
     rw [ahW,aao] at z
     rw [aao] at ln
     omega
   exact ⟨.ref s.heap.objs.size,_,I.laid (t':=tk3) kk (aav _) (vM zm (beq_eq_false_iff_ne.mpr (afv (acu I.big))) rm hd3),rfl,q _ (I.hok.fresh (aav _))⟩
end
end L2
namespace L2
open PySem PySem.Spec PyProof.Rows
section
variable {X:Cx} {pins:List (abm × Obj)} {σ:St} {H:Hp} {s:aat}
end
section
variable {H1:Hp} {D:abm} {σ0:St} {g:BI->TG} {tt:BI->TT} {te:BI->TE} {End:Hp->Prop}
end
end L2
namespace HT
open PySem PySem.Spec PyProof.Rows
section
variable {prog:acs} {w:adH} {A:aeN} {E:aau->aat->Prop} {s:aat}
end
end HT
namespace L2
open PySem PySem.Spec PyProof.Rows
section
variable {X:Cx}
end
end L2
namespace L2
open PySem PySem.Spec PyProof.Rows
section
variable {X:Cx}
end
end L2
namespace L2
open PySem PySem.Spec PyProof.Rows
section
variable {prog:acs} {w:adH} {A:aeN} {E:aau->aat->Prop} {s:aat}
variable {K:Type} [DecidableEq K] (knd:KeyKind prog w K)
end
section
variable {X:Cx}
end
end L2
namespace HT
open PySem PySem.Spec PyProof.Rows
section
variable {prog:acs} {w:adH} {A:aeN} {E:aau->aat->Prop} {s:aat}
end
end HT
namespace L2
open PySem PySem.Spec PyProof.Rows
section
variable {X:Cx}
end
end L2
namespace L2
open PySem PySem.Spec PyProof.Rows
section
variable {X:Cx} {e e1 e2:Expr} {es:List Expr} {te:TE} {pos:Pos}
variable {tj:TJ}
end
end L2
namespace TP
open PySem PySem.Builtin PySem.Builtin.Str
end TP
namespace mz
open PySem L2 gF
def top (i:Nat):ane:=PySem.Challenge.pw_skewbooks_k44_ledgers_merged.main.body.getD i (.Pass ⟨0,0,0,0⟩)
abbrev sV:ane:=top 5
abbrev wF:ane:=top 6
abbrev sW:ane:=top 11
abbrev lD:ane:=top 12
abbrev sX:ane:=top 13
abbrev qg:ane:=top 14
abbrev Ec:ane:=top 15
abbrev qj:ane:=top 16
abbrev lE:ane:=top 17
abbrev iC:ane:=top 18
abbrev oE:ane:=top 19
abbrev jE:ane:=top 20
abbrev oF:ane:=top 21
abbrev gY:ane:=top 22
abbrev oG:ane:=top 23
abbrev lF:ane:=top 24
abbrev uE:ane:=top 26
abbrev ql:ane:=top 27
abbrev oH:ane:=top 28
abbrev gZ:ane:=top 29
abbrev iD:ane:=top 30
abbrev oJ:ane:=top 31
abbrev sZ:ane:=top 33
abbrev zG:ane:=top 34
abbrev zH:ane:=top 35
abbrev lG:ane:=top 36
abbrev j6:ane:=top 37
abbrev gH:ane:=top 38
abbrev jo:ane:=top 39
abbrev uF:ane:=top 40
abbrev jF:ane:=top 41
abbrev Ed:ane:=top 42
abbrev Bx:ane:=top 43
structure Txt (mg:Str->Option aau) (t8 t6 tR tL:Tok):Prop where
 V9:mg "isinstance" = none
 int:mg "int" = none
 bool:mg "bool" = none
 str:mg "str" = none
 tuple:mg "tuple" = none
 len:mg "len" = none
 all:mg "all" = none
 zip:mg "zip" = none
 set:mg "set" = none
 sorted:mg "sorted" = none
 divmod:mg "divmod" = none
 range:mg "range" = none
 max:mg "max" = none
 min:mg "min" = none
 abs:mg "abs" = none
 list:mg "list" = none
 dict:mg "dict" = none
 most:mg "LONGEST_NAME" = some (.int 8 t8)
 acB:mg "MOST_HOUSES" = some (.int 6 t6)
 acC:mg "MOST_ROWS" = some (.int 24 tR)
 acD:mg "MOST_LETTERS" = some (.int 24 tL)
def wG:Sp:=fun vs H Q _=>∃ (p:abm) (n:Nat),vs=[.ref p,.int (n:Int)]/\n<=12/\bN H p/\∀ (l:abm) (ss:List Str) (H':Hp),H l=none->H' l=some (.lst (ss.map V.str))->ss.length=n->ss.Nodup->(∀ s∈ss,Good s)->bN H' p->aP p H H'->Q (.ref l) H'
section
variable {P:acs} {w:adH} {K:aas} {mg:Str->Option aau} {base:ae9} {t8 t6 tR tL:Tok}
theorem Wa:bB ["thing"] ["thing"] (au sV):=⟨rfl,rfl,rfl,by decide +kernel,rfl,by decide +kernel,by decide +kernel⟩
theorem Q8 {f:abm} {fd:aeF} (F:lX K "is_whole" "is_whole" sV f fd) (T:Txt mg t8 t6 tR tL):aV P w K mg base cG 1 f fd ["thing"] (qU K):=by
 refine F.ok Wa (fun vs H Q E h=>?_) (fun cdv A outer s H vs Q E hr h=>?_)
 . obtain ⟨x,rfl,_⟩:=h
   rfl
 . obtain ⟨x,rfl,⟨⟨T',ty⟩,_⟩,q⟩:=h
   refine ⟨_,aG (aZ (mJ (aO gU rfl T.V9 aeH (aj (pV 0) (aj (jg (v:=.ty "int") rfl T.int PyProof.Rows.boot_int rfl) ak)))
     (kW (acj (aO gU rfl T.V9 aeH (aj (pV 0) (aj (jg (v:=.ty "bool") rfl T.bool PyProof.Rows.boot_bool rfl) ak))))))),?_⟩
   obtain ⟨k1,k2,_,_⟩:=yE ty
   have e:=aac ty
   refine ⟨x,_,_,_,rfl,ty,k1,?_⟩
   cases q1:Bd T' "int" with
   | false =>
     rw [q1] at e
     rw [<- e] at q
     exact q
   | true =>
     rw [q1] at e
     refine ⟨x,_,_,_,rfl,ty,k2,?_⟩
     show Q (.bl (!Bd T' "bool")) H
     rw [<- e] at q
     simpa using q
theorem aaj:bB ["thing"] ["thing"] (au wF):=⟨rfl,rfl,rfl,by decide +kernel,rfl,by decide +kernel,by decide +kernel⟩
theorem Wb {f:abm} {fd:aeF} (F:lX K "is_name" "is_name" wF f fd) (T:Txt mg t8 t6 tR tL):aV P w K mg base cG 1 f fd ["thing"] (vZ K):=by
 refine F.ok aaj (fun vs H Q E h=>?_) (fun cdv A outer s H vs Q E hr h=>?_)
 . obtain ⟨x,rfl,_⟩:=h
   rfl
 . obtain ⟨x,rfl,⟨⟨T',ty⟩,hz⟩,q⟩:=h
   refine ⟨_,aB (cP (vQ (dN (Bc (aO gU rfl T.V9 aeH (aj (pV 0) (aj (jg (v:=.ty "str") rfl T.str PyProof.Rows.boot_str rfl) ak)))))
       (pw_or1 (dN (acg oLe oLe aC (aO Ay rfl T.len ad4 (aj (pV 0) ak)) (uV (v:=.int 8) rfl T.most ⟨_,rfl⟩))))) (aG (aZ je)) bH)
     (aG (aZ (aO (jr rfl) rfl T.all afG (aj (cA (eY:=au wF) (own:=["sign"]) (cap:=[]) (ix:=[]) rfl rfl ⟨rfl,by decide +kernel,by decide +kernel,by decide +kernel,rfl,by decide +kernel⟩
       (ZG (pV 0)) (fun b=>aH (i:=0) (show (["sign"]:List Str).Nodup by decide +kernel) rfl (acz rfl)) (fun b=>bM) (fun b=>agr ace ace Gk (pV 0) Gk)) ak)))),?_⟩
   obtain ⟨_,_,k3,_⟩:=yE ty
   refine ⟨x,_,_,_,rfl,ty,k3,?_⟩
   cases q1:Bd T' "str" with
   | false =>
     have e:yG x=false:=by cases ty <;> first | rfl | exact absurd q1 (by decide)
     rw [e] at q
     exact q H (Same.refl H)
   | true =>
     obtain ⟨z,rfl⟩:∃ z,x=.str z:=by cases ty <;> first | exact ⟨_,rfl⟩ | exact absurd q1 (by decide)
     have hz':=hz z rfl
     refine ⟨z,rfl,hz',?_⟩
     refine gO (fun h1=>?_) (fun h1=>?_)
     . have h1':1<=z.length:=by have:=of_decide_eq_true h1; omega
       refine gO (fun h2=>?_) (fun h2=>?_)
       . have e:yG (.str z)=false:=by
           have h2':¬ z.length<=8:=by
             intro h
             have:decide ((z.length:Int)<=8)=true:=decide_eq_true (by omega)
             rw [this] at h2; cases h2
           simp [yG,h2']
         rw [e] at q
         exact q H (Same.refl H)
       . have h2':z.length<=8:=by
           have:¬ ¬ (z.length:Int)<=8:=fun h=>h2 (by rw [decide_eq_false h]; rfl)
           omega
         refine ⟨z,rfl,fun D hD=>Qh (fun i H'=>cL H H' D ((z.cps.toList.take i).map fun c=>V.bl (low c))) (cL.start hD) (fun H' G=>?_) (fun i c H' hc hi G b=>?_)⟩
         . refine ⟨D,z.cps.toList.map low,rfl,bY.of (by rw [G.at',take_all (by simp),adJ]; rfl),?_⟩
           have e:yG (.str z)=(z.cps.toList.map low).all id:=by
             simp [yG,h1',h2',apI]
           rw [e] at q
           exact q H' G.same
         . have hl:=aad c
           have sz:z.cps.size<=sizeLine:=hz'
           have fin:∀ (k:Bool),k=low c->Nx z.cps.size i (fun i H'=>cL H H' D ((z.cps.toList.take i).map fun c=>V.bl (low c))) (upd H' D (.lst ((z.cps.toList.take i).map (fun c=>V.bl (low c))++[.bl k]))):=fun k hk=>by
             subst hk
             refine nx hi ?_
             show cL H _ D ((z.cps.toList.take (i+1)).map fun c=>V.bl (low c))
             rw [Qi (Vx hc)]
             exact G.put hD _
           refine gO (fun h3=>?_) (fun h3=>?_)
           . refine ⟨_,G.at',Dt hi sz,fin _ ?_⟩
             have h3':decide (97<=c)=true:=hl.1.symm.trans h3
             show (!decide (("z" : Str).cps.toList<(⟨#[c]⟩:Str).cps.toList))=low c
             rw [hl.2]
             simp [low,of_decide_eq_true h3']
           . refine ⟨_,G.at',Dt hi sz,fin _ ?_⟩
             have h3':¬ 97<=c:=fun h=>h3 (hl.1.trans (decide_eq_true h))
             simp [low,h3']
     . have e:yG (.str z)=false:=by
         have h1':¬ 1<=z.length:=by
           intro h
           exact h1 (decide_eq_true (by omega))
         simp [yG,h1']
       rw [e] at q
       exact q H (Same.refl H)
theorem Q9:bB ["_law_cell"] ["_law_cell"] (au sZ):=⟨rfl,rfl,rfl,by decide +kernel,rfl,by decide +kernel,by decide +kernel⟩
theorem Ra {f:abm} {fd:aeF} (F:lX K "_law_mixed" "_law_mixed" sZ f fd):aV P w K mg base cG 1 f fd ["_law_cell"] Br:=by
 refine F.ok Q9 (fun vs H Q E h=>?_) (fun cdv A outer s H vs Q E hr h=>?_)
 . obtain ⟨c,rfl,_⟩:=h
   rfl
 . obtain ⟨c,rfl,hb,q⟩:=h
   refine ⟨_,(aG (aZ (bJ oMod (bJ acw (pV 0) aC) (bJ agp aC aC)))),?_⟩
   refine ⟨IntMulOk.of_le (m:=2000000) (n:=400) hb (by decide +kernel) (by decide),?_⟩
   refine ⟨⟨by decide,by decide,by decide⟩,by show (0:Int)<10 ^ Int.toNat 60; decide +kernel,?_⟩
   exact q _ (apJ _ (by decide +kernel))
theorem Wc:bB ["_law_script","_law_k"] ["_law_script","_law_k"] (au zG):=⟨rfl,rfl,rfl,by decide +kernel,rfl,by decide +kernel,by decide +kernel⟩
theorem Wd {f BJ:abm} {fd Ef:aeF} (F:lX K "_law_pack" "_law_pack" zG f fd) (T:Txt mg t8 t6 tR tL)
   (JK:aV P w K mg base cG 1 BJ Ef ["_law_cell"] Br) (JL:mg "_law_mixed" = some (.ref BJ)) (JM:aaw K (.ref BJ)=true) (JN:Binds K Ef ["_law_cell"] []):aV P w K mg base cG 2 f fd ["_law_script","_law_k"] (Bs K):=by
 refine F.ok Wc (fun vs H Q E h=>?_) (fun cdv A outer s H vs Q E hr h=>?_)
 . obtain ⟨a,ns,k,rfl,_⟩:=h
   rfl
 . obtain ⟨a,ns,k,rfl,ha,hb,hl,k0,k1,q⟩:=h
   have small:∀ z:Int,0<=z->z<=10000000->anE z<=1048576:=fun z z0 z1=>adS (aqt (by omega) (by omega)) (by decide)
   have fin:∀ n:Int,0<=n->abS (X5 (tC (.int n)) abR) ([]:St) H Q:=fun n n0=>⟨by show 1<=sizeLine; rw [acO]; decide,fun p hp=>q p _ hp ⟨n,ao,n0⟩ ((Same.refl H).upd hp)⟩
   refine ⟨_,(aB (cP (oZ oLt (pV 1) (aO bx rfl T.len ad4 (aj (pV 0) ak)) (bL _)) (aG (aZ (cW (aj (aJ JK hr rfl JL JM JN .nil aW (aj (bJ ji (bG Lg (pV 0) (pV 1) (fun _ _=>rfl)) (bJ acd aC (pV 1))) ak)) ak)))) bH) (aG (aZ (cW (aj (aJ JK hr rfl JL JM JN .nil aW (aj (bJ ji (bJ acd aC (pV 1)) aC) ak)) ak))))),?_⟩
   refine ⟨a,_,rfl,.inl ha,?_⟩
   refine gO (fun z=>?_) (fun z=>?_)
   . have lt:k<((ns.map V.int).length:Int):=of_decide_eq_true z
     obtain ⟨j,rfl⟩:=aeM k0
     rw [aao] at lt
     have hj:ns[j]?=some ns[j]:=aaq (by omega)
     refine acn ha (v:=.int ns[j]) (iR (by rw [aaJ,hj]; rfl)) ?_
     refine ⟨.inl ⟨by decide,by decide⟩,?_⟩
     have b1:=intBits_add_le (hb ns[j] (abg hj)) (small (23 * (j:Int)) (by omega) (by omega))
     refine ⟨_,rfl,adS b1 (by decide),fun n n0=>?_⟩
     exact fin n n0
   . refine ⟨.inl ⟨by decide,by decide⟩,?_⟩
     refine ⟨_,rfl,adS (small (5099 * k+7) (by omega) (by omega)) (by decide),fun n n0=>?_⟩
     exact fin n n0
theorem JQ:bB ["_law_pack_here","_law_size","_law_digit"] ["_law_pack_here","_law_size"] (au zH):=⟨rfl,rfl,rfl,by decide +kernel,rfl,by decide +kernel,by decide +kernel⟩
theorem Wf {f:abm} {fd:aeF} (F:lX K "_law_take" "_law_take" zH f fd) (T:Txt mg t8 t6 tR tL):aV P w K mg base cG 1 f fd ["_law_pack_here","_law_size"] qb:=by
 refine F.ok JQ (fun vs H Q E h=>?_) (fun cdv A outer s H vs Q E hr h=>?_)
 . obtain ⟨p,m,rfl,_⟩:=h
   rfl
 . obtain ⟨p,m,rfl,⟨n,hp,n0⟩,m0,m1,q⟩:=h
   refine ⟨_,(aB (vH (aO Dd rfl T.divmod PyProof.Rows.boot_divmod (aj (bG Lg (pV 0) aC (fun _ _=>rfl)) (aj (pV 1) ak))) (eU rfl (aR (Pj (pV 0) aC acp) (aR (aH (i:=2) JQ.nd rfl (acz rfl)) dg)))) (aG (aZ (pV 2)))),?_⟩
   refine uQ hp (i:=0) (by rfl) ?_
   refine ⟨n,m,rfl,⟨m0,m1⟩,fun t ht=>?_⟩
   have ne:p≠t:=aD hp ht
   refine ⟨t,_,rfl,bA.of ao,rfl,_,_,rfl,?_⟩
   refine setAt (j:=0) (show upd H t (.tup [.int (n / m),.int (n % m)]) p=some (.lst [.int n]) by rw [aF ne]; exact hp) (by rfl) ?_
   refine ⟨_,_,rfl,rfl,?_⟩
   refine q _ _ (apJ n (by omega)) (aqH n m0) ⟨n / m,ao,Int.ediv_nonneg n0 (by omega)⟩ ?_
   exact ((aP.of (Same.refl H)).new ht).upd
theorem j7:bB ["_law_pack_here","_law_amount","_law_letters_here","_law_turn","_law_pick","_law_size"] ["_law_pack_here","_law_amount"] (au lG):=⟨rfl,rfl,rfl,by decide +kernel,rfl,by decide +kernel,by decide +kernel⟩
theorem Rb {f dY:abm} {fd fG:aeF} (F:lX K "_law_names" "_law_names" lG f fd) (T:Txt mg t8 t6 tR tL)
   (cB:aV P w K mg base cG 1 dY fG ["_law_pack_here","_law_size"] qb) (cC:mg "_law_take" = some (.ref dY)) (cD:aaw K (.ref dY)=true) (cF:Binds K fG ["_law_pack_here","_law_size"] []):aV P w K mg base cG 2 f fd ["_law_pack_here","_law_amount"] wG:=by
 refine F.ok j7 (fun vs H Q E h=>?_) (fun cdv A outer s H vs Q E hr h=>?_)
 . obtain ⟨p,n,rfl,_⟩:=h
   rfl
 . obtain ⟨p,n,rfl,n12,hp,q⟩:=h
   have mq:sizeLine=16777216:=acO
   refine ⟨_,(aB (aY (i:=2) j7.nd rfl (aqB rfl) Gk) (aB (aY (i:=3) j7.nd rfl (acz rfl) (aJ cB hr rfl cC cD cF .nil aW (aj (pV 0) (aj aC ak)))) (aB (aY (i:=2) j7.nd rfl (aqB rfl) (bJ ZM (cT Vy (pV 2) (Bf (pV 3)) fU) (cT Vy (pV 2) fU (Bf (pV 3))))) (aB (aY (i:=4) j7.nd rfl (acz rfl) (aJ cB hr rfl cC cD cF .nil aW (aj (pV 0) (aj aC ak)))) (aB (aY (i:=5) j7.nd rfl (aqB rfl) (aJ cB hr rfl cC cD cF .nil aW (aj (pV 0) (aj aC ak)))) (aB (cP (oZ oEq (pV 4) aC (bL _)) (aG (aZ (cA (eY:=au lG) (own:=["_law_k"]) (cap:=["_law_letters_here"]) (ix:=[2]) rfl rfl ⟨rfl,by decide +kernel,by decide +kernel,by decide +kernel,rfl,by decide +kernel⟩ (gJ rfl T.range (aj (pV 1) ak)) (fun b=>(aH (i:=0) (show (["_law_k","_law_letters_here"]:List Str).Nodup by decide +kernel) rfl (acz rfl))) (fun b=>bM) (fun b=>(bJ VG (bG ZP (pV 1) (bJ oDiv (pV 0) aC) (fun _ _=>rfl)) (bJ ji aC (bJ oMod (pV 0) aC))))))) bH) (aB (cP (oZ oEq (pV 4) aC (bL _)) (aG (aZ (cA (eY:=au lG) (own:=["_law_k"]) (cap:=["_law_letters_here","_law_size"]) (ix:=[2,5]) rfl rfl ⟨rfl,by decide +kernel,by decide +kernel,by decide +kernel,rfl,by decide +kernel⟩ (gJ rfl T.range (aj (pV 1) ak)) (fun b=>(aH (i:=0) (show (["_law_k","_law_letters_here","_law_size"]:List Str).Nodup by decide +kernel) rfl (acz rfl))) (fun b=>bM) (fun b=>(bJ ZM (bG ZP (pV 1) (bJ oMod (pV 0) aC) (fun _ _=>rfl)) (cT Vy (pV 1) (Bf aC) (Bf (bJ ji aC (pV 2))))))))) bH) (aG (aZ (cA (eY:=au lG) (own:=["_law_k"]) (cap:=["_law_letters_here","_law_size"]) (ix:=[2,5]) rfl rfl ⟨rfl,by decide +kernel,by decide +kernel,by decide +kernel,rfl,by decide +kernel⟩ (gJ rfl T.range (aj (pV 1) ak)) (fun b=>(aH (i:=0) (show (["_law_k","_law_letters_here","_law_size"]:List Str).Nodup by decide +kernel) rfl (acz rfl))) (fun b=>bM) (fun b=>(bJ ZM (cT Vy (pV 1) (Bf aC) (Bf (bJ ji aC (pV 2)))) (bG ZP (pV 1) (bJ oMod (pV 0) aC) (fun _ _=>rfl)))))))))))))),?_⟩
   refine ⟨p,26,rfl,hp,by decide,by decide,fun t H1 t0 t1 hp1 s1=>?_⟩
   obtain ⟨t,rfl⟩:=aeM t0
   have ht:t<26:=by omega
   have la:abc.length<=sizeLine:=by rw [Bu]; omega
   refine Jt (z:=abc) la ?_
   refine Jt (z:=abc) la ?_
   have rt:=QL (t:=t) (by omega)
   refine ⟨by
     have z1:=anW abc (some (t:Int)) none
     have z2:=anW abc none (some (t:Int))
     rw [Bu] at z1 z2
     omega,?_⟩
   generalize agW abc (some (t:Int)) none++agW abc none (some (t:Int))=R at rt
   have lR:R.length=26:=by rw [<- len_list,rt]; exact u5 (by omega)
   refine ⟨p,3,rfl,hp1,by decide,by decide,fun pk H2 p0 p1 hp2 s2=>?_⟩
   obtain ⟨pick,rfl⟩:=aeM p0
   refine ⟨p,8,rfl,hp2,by decide,by decide,fun sz H3 z0 z1 hp3 s3=>?_⟩
   obtain ⟨size,rfl⟩:=aeM z0
   have s13:aP p H H3:=(s1.trans s2).trans s3
   obtain ⟨ok1,ok2⟩:=Lz (t:=t) (sz:=size) (pick:=pick) ht (by omega) (by omega)
   have ok3:=QK (t:=t) (sz:=size) (pick:=pick) ht (by omega) (by omega)
   have fin:∀ (D:abm) (H':Hp),H3 D=none->cL H3 H' D (((dX t size pick).take n).map V.str)->Q (.ref D) H':=fun D H' hD G=>by
     refine q D ((dX t size pick).take n) H' ?_ G.at' (by unfold dX; rw [abo,aao,afg]; omega) ((agU _ _).nodup ok1) (fun s hs=>ok2 s (afi hs)) (by obtain ⟨n,e,n0⟩:=hp3; exact ⟨n,G.same _ _ e,n0⟩) (s13.trans (aP.of G.same))
     cases e:H D with
     | none=>rfl
     | some o =>
       have nD:D≠p:=fun z=>by
         obtain ⟨n,e',_⟩:=hp3
         rw [<- z,hD] at e'; cases e'
       have:=s13 D o nD e
       rw [hD] at this; cases this
   have step:∀ (i:Nat),i<12->(dX t size pick).take (i+1)=(dX t size pick).take i++[nameS t size pick i]:=fun i hi=>by
     have e:(dX t size pick)[i]?=some (nameS t size pick i):=by unfold dX; rw [aaJ,aqq hi]; rfl
     rw [abj,e]; rfl
   have apr:(dX t size pick).length=12:=by unfold dX; rw [aao,afg]
   have put:∀ (i:Nat) (D:abm) (H':Hp) (z:Str),i<n->H3 D=none->cL H3 H' D (((dX t size pick).take i).map V.str)->z.cps.toList=rA t size pick i->∃ zs,H' D=some (.lst zs)/\zs.length<sizeLine/\Nx n i (fun i H'=>cL H3 H' D (((dX t size pick).take i).map V.str)) (upd H' D (.lst (zs++[.str z]))):=fun i D H' z hi hD G ez=>by
     refine ⟨_,G.at',by rw [aao,abo]; omega,nx hi ?_⟩
     show cL H3 _ D (((dX t size pick).take (i+1)).map V.str)
     have ez':z=nameS t size pick i:=by
       cases z with
       | mk c=>unfold nameS; congr 1; rw [<- ez]
     rw [step i (by omega),abt,ez']
     exact G.put hD _
   have acF:(agW R (some 4) (some (4+(size:Int)))).cps.toList=((QJ t).drop 4).take size:=by
     have e:agW R (some ((4:Nat):Int)) (some ((4+size:Nat):Int))=_:=Lh R 4 (4+size)
     have e2:agW R (some 4) (some (4+(size:Int)))=⟨((R.cps.toList.take (4+size)).drop 4).toArray⟩:=e
     rw [e2,rt,aob]
     simp
   have apt:(agW R (some 4) (some (4+(size:Int)))).length<=26:=by rw [<- lR]; exact anW R _ _
   refine gO (fun c1=>?_) (fun c1=>?_)
   . have pk0:pick=0:=by have:=of_decide_eq_true c1; omega
     refine ⟨(n:Int),rfl,by omega,by omega,fun D hD=>pY (lo:=0) (n:=n) (fun i H'=>cL H3 H' D (((dX t size pick).take i).map V.str)) (cL.start hD) (fun H' G=>fin D H' hD G) (fun i H' hi G b=>?_)⟩
     refine ⟨⟨by decide,by decide⟩,?_⟩
     refine Qj (z:=R) (by omega) (by rw [rt]; exact wj (by omega) (by rw [u5 (by omega)]; omega)) ?_
     refine ⟨by show (0:Int)<8; decide,?_⟩
     refine ⟨_,_,rfl,rfl,by omega,by omega,?_⟩
     refine put i D H' _ hi hD G ?_
     subst pk0
     unfold rA
     rw [if_pos rfl]
     show acS _ _=_
     congr 1
     . omega
     . congr 1; omega
   . refine gO (fun c2=>?_) (fun c2=>?_)
     . have Wg:pick=1:=by have:=of_decide_eq_true c2; omega
       refine ⟨(n:Int),rfl,by omega,by omega,fun D hD=>pY (lo:=0) (n:=n) (fun i H'=>cL H3 H' D (((dX t size pick).take i).map V.str)) (cL.start hD) (fun H' G=>fin D H' hD G) (fun i H' hi G b=>?_)⟩
       refine ⟨by show (0:Int)<26; decide,?_⟩
       refine Qj (z:=R) (by omega) (by rw [rt]; exact wj (by omega) (by rw [u5 (by omega)]; omega)) ?_
       refine Jt (z:=R) (by omega) ?_
       refine ⟨by show 1+_<=sizeLine; omega,?_⟩
       refine put i D H' _ hi hD G ?_
       subst Wg
       rw [app_list,acF]
       unfold rA
       rw [if_neg (by decide),if_pos rfl]
       have ei:((0+(i:Int)) % 26).toNat=i % 26:=by omega
       show (QJ t).getD ((0+(i:Int)) % 26).toNat 0 :: _=_
       rw [ei]
       rfl
     . have pk2:pick≠0/\pick≠1:=⟨fun e=>c1 (decide_eq_true (by rw [e]; rfl)),fun e=>c2 (decide_eq_true (by rw [e]; rfl))⟩
       refine ⟨(n:Int),rfl,by omega,by omega,fun D hD=>pY (lo:=0) (n:=n) (fun i H'=>cL H3 H' D (((dX t size pick).take i).map V.str)) (cL.start hD) (fun H' G=>fin D H' hD G) (fun i H' hi G b=>?_)⟩
       refine Jt (z:=R) (by omega) ?_
       refine ⟨by show (0:Int)<26; decide,?_⟩
       refine Qj (z:=R) (by omega) (by rw [rt]; exact wj (by omega) (by rw [u5 (by omega)]; omega)) ?_
       refine ⟨by show _+1<=sizeLine; omega,?_⟩
       refine put i D H' _ hi hD G ?_
       rw [app_list,acF]
       unfold rA
       rw [if_neg pk2.1,if_neg pk2.2]
       congr 1
       show [_]=[_]
       congr 2; omega
theorem Rc:bB ["thing","many"] ["thing","many"] (au sW):=⟨rfl,rfl,rfl,by decide +kernel,rfl,by decide +kernel,by decide +kernel⟩
theorem Rf {f:abm} {fd:aeF} (F:lX K "has_parts" "has_parts" sW f fd) (T:Txt mg t8 t6 tR tL):aV P w K mg base cG 1 f fd ["thing","many"] oh:=by
 refine F.ok Rc (fun vs H Q E h=>?_) (fun cdv A outer s H vs Q E hr h=>?_)
 . obtain ⟨x,d,n,rfl,_⟩:=h
   rfl
 . obtain ⟨x,d,n,rfl,hd,q⟩:=h
   obtain ⟨_,⟨T',ty,kt⟩,_⟩:=hd.kind (K:=K)
   refine ⟨_,(aG (aZ (mJ (aO gU rfl T.V9 aeH (aj (pV 0) (aj (jg (v:=.ty "tuple") rfl T.tuple abU rfl) ak))) (kW (iQ oEq (aO bx rfl T.len ad4 (aj (pV 0) ak)) (pV 1) (bL _)))))),?_⟩
   refine ⟨_,_,_,_,rfl,ty,kt,?_⟩
   cases d with
   | tup xs =>
     refine aX fun eG aK=>?_
     obtain ⟨a,vs,ez1,ha,Ym,r⟩:=hd.pB
     subst aK
     subst ez1
     refine ⟨a,vs,rfl,.inr (bA.of ha),?_⟩
     show Q (.bl (decide ((vs.length:Int)=(n:Int)))) H
     have e:decide ((vs.length:Int)=(n:Int))=decide (xs.length=n):=by
       rw [r.len,aeU,decide_eq_true_iff,decide_eq_true_iff]; omega
     rw [e]; exact q
   | _=>exact q
theorem Mf:bB ["values"] ["values"] (au lD):=⟨rfl,rfl,rfl,by decide +kernel,rfl,by decide +kernel,by decide +kernel⟩
theorem Mg {f:abm} {fd:aeF} (F:lX K "is_rising" "is_rising" lD f fd) (T:Txt mg t8 t6 tR tL):aV P w K mg base cG 1 f fd ["values"] qY:=by
 refine F.ok Mf (fun vs H Q E h=>?_) (fun cdv A outer s H vs Q E hr h=>?_)
 . obtain ⟨a,xs,b,rfl,_⟩:=h
   rfl
 . obtain ⟨a,xs,bb,rfl,ha,few,rise,q⟩:=h
   have mq:sizeLine=16777216:=acO
   refine ⟨_,(aG (aZ (aO (jr rfl) rfl T.all afG (aj (cA (eY:=au lD) (own:=["value","later"]) (cap:=[]) (ix:=[]) rfl rfl ⟨rfl,by decide +kernel,by decide +kernel,by decide +kernel,rfl,by decide +kernel⟩ (Z1 rfl T.zip (aj (pV 0) (aj (cT Jm (pV 0) (Bf aC) fU) ak))) (fun b=>(eU rfl (aR (aH (i:=0) (show (["value","later"]:List Str).Nodup by decide +kernel) rfl (acz rfl)) (aR (aH (i:=1) (show (["value","later"]:List Str).Nodup by decide +kernel) rfl (acz rfl)) dg)))) (fun b=>bM) (fun b=>(iQ (agH hr.Zi) (pV 0) (pV 1) (bL _)))) ak)))),?_⟩
   refine ⟨a,xs,rfl,bY.of ha,fun p hp=>?_⟩
   have e1:mj xs (some 1) none=xs.drop 1:=by
     unfold mj
     rw [HT.qO,show (some 1:Option Int)=some ((1:Nat):Int) from rfl,HT.jh]
     rcases afu 0 xs.length with z | z
     . rw [aib z,adN (by rw [ae4]; omega)]
     . have:xs=[]:=aeE (by omega)
       subst this; rfl
   rw [e1]
   have s1:Same H (upd H p (.lst (xs.drop 1))):=(Same.refl H).upd hp
   refine aX fun eG aK=>?_
   obtain ⟨bs,lb,eb,ask⟩:=rise.bools
   subst aK
   refine ⟨a,p,xs,xs.drop 1,rfl,bY.of (s1 _ _ ha),bY.of ao,fun D hD=>?_⟩
   have lp:(xs.drop 1).length=xs.length-1:=ae4
   refine nY (xs.drop 1).length (fun i H'=>cL (upd H p (.lst (xs.drop 1))) H' D ((bs.take i).map V.bl)) (cL.start hD) (fun H' G=>⟨⟨bY.of (G.same _ _ (s1 _ _ ha)),bY.of (G.same _ _ ao),.inr (aav _)⟩,?_⟩) (fun i H' hi G=>⟨⟨bY.of (G.same _ _ (s1 _ _ ha)),bY.of (G.same _ _ ao),by omega,hi⟩,fun x H2 y b=>?_⟩)
   . refine ⟨D,bs,rfl,bY.of (by have e:=G.at'; rw [adN (by omega)] at e; exact e),?_⟩
     rw [eb]
     exact q H' (s1.trans G.same)
   . refine aX fun eG aK=>?_
     obtain ⟨t,u,v,ht,ez2,hu',hv,ez3⟩:=y
     subst aK
     subst ez2
     subst ez3
     have s2:Same H' (upd H' t (.tup [u,v])):=(Same.refl H').upd ht
     have G2:=G.more s2
     refine ⟨t,[u,v],rfl,bA.of ao,rfl,u,[v],rfl,v,[],rfl,rfl,?_⟩
     refine ask hu' (by rw [aqG,apq] at hv; exact hv) (s1.trans G2.same) fun c hc=>?_
     refine ⟨_,G2.at',by rw [aao,abo]; omega,nx hi ?_⟩
     show cL _ _ D ((bs.take (i+1)).map V.bl)
     rw [abj,hc,abt]
     exact G2.put hD _
theorem Rg:bB ["thing"] ["thing"] (au sX):=⟨rfl,rfl,rfl,by decide +kernel,rfl,by decide +kernel,by decide +kernel⟩
theorem Rh {f dZ jw ig:abm} {fd fQ jG iZ:aeF} (F:lX K "is_named_number" "is_named_number" sX f fd)
   (lH:aV P w K mg base cG 1 dZ fQ ["thing","many"] oh) (lJ:mg "has_parts" = some (.ref dZ)) (lK:aaw K (.ref dZ)=true) (lM:Binds K fQ ["thing","many"] [])
   (tu:aV P w K mg base cG 1 jw jG ["thing"] (vZ K)) (tD:mg "is_name" = some (.ref jw)) (tE:aaw K (.ref jw)=true) (tG:Binds K jG ["thing"] [])
   (oK:aV P w K mg base cG 1 ig iZ ["thing"] (qU K)) (oM:mg "is_whole" = some (.ref ig)) (k_whole:aaw K (.ref ig)=true) (oN:Binds K iZ ["thing"] []):aV P w K mg base cG 2 f fd ["thing"] (Bo fO):=by
 refine F.ok Rg (fun vs H Q E h=>?_) (fun cdv A outer s H vs Q E hr h=>?_)
 . obtain ⟨x,d,rfl,_⟩:=h
   rfl
 . obtain ⟨x,d,rfl,hd,q⟩:=h
   refine ⟨_,(aG (aZ (mJ (aJ lH hr rfl lJ lK lM .nil aW (aj (pV 0) (aj aC ak))) (mJ (aJ tu hr rfl tD tE tG .nil aW (aj (bG dO (pV 0) aC (fun _ _=>rfl)) ak)) (kW (aJ oK hr rfl oM k_whole oN .nil aW (aj (bG dO (pV 0) aC (fun _ _=>rfl)) ak))))))),?_⟩
   refine ⟨x,d,2,rfl,hd,?_⟩
   have no:∀ d',lB d' 2=false->fO d'=false:=fun d' h=>by
     cases d' with
     | tup xs =>
       match xs,h with
       | [],_=>rfl
       | [_],_=>rfl
       | [_,_],h=>cases h
       | _ :: _ :: _ :: _,_=>rfl
     | _=>rfl
   cases e:lB d 2 with
   | false =>
     have z:=q H (Same.refl H)
     rw [no d e] at z
     exact z
   | true =>
     cases d with
     | tup xs =>
       refine aX fun eG aK=>?_
       obtain ⟨a,vs,ez4,ha,Ym,r⟩:=hd.pB
       subst aK
       subst ez4
       obtain ⟨y,z,rfl⟩:=len2 (of_decide_eq_true e)
       refine aX fun eG aK=>?_
       obtain ⟨v1,v2,ez5,h1,h2⟩:=r.two
       subst aK
       subst ez5
       refine bV (bA.of ha) (i:=0) (v:=v1) (by rfl) ?_
       refine aX fun eG aK=>?_
       obtain ⟨th,_,_,n1⟩:=h1.kind (K:=K)
       subst aK
       refine ⟨v1,rfl,th,fun H1 s1=>?_⟩
       rw [n1]
       cases e2:pC y with
       | false =>
         have w:=q H1 s1
         simp only [fO,e2,amh] at w
         exact w
       | true =>
         refine bV (bA.of (s1 _ _ ha)) (i:=1) (v:=v2) (by rfl) ?_
         refine aX fun eG aK=>?_
         obtain ⟨th2,_,w2,_⟩:=(h2.same s1).kind (K:=K)
         subst aK
         refine ⟨v2,rfl,th2,?_⟩
         rw [w2]
         have w:=q H1 s1
         simp only [fO,e2,aeK] at w
         exact w
     | _=>cases e
theorem Ri:bB ["name","low","high","drift"] ["name","low","high","drift"] (au qg):=⟨rfl,rfl,rfl,by decide +kernel,rfl,by decide +kernel,by decide +kernel⟩
theorem Rj {f jw ig:abm} {fd jG iZ:aeF} (F:lX K "is_clock" "is_clock" qg f fd) (T:Txt mg t8 t6 tR tL)
   (tu:aV P w K mg base cG 1 jw jG ["thing"] (vZ K)) (tD:mg "is_name" = some (.ref jw)) (tE:aaw K (.ref jw)=true) (tG:Binds K jG ["thing"] [])
   (oK:aV P w K mg base cG 1 ig iZ ["thing"] (qU K)) (oM:mg "is_whole" = some (.ref ig)) (k_whole:aaw K (.ref ig)=true) (oN:Binds K iZ ["thing"] []):aV P w K mg base cG 2 f fd ["name","low","high","drift"] Bp:=by
 refine F.ok Ri (fun vs H Q E h=>?_) (fun cdv A outer s H vs Q E hr h=>?_)
 . obtain ⟨x0,x1,x2,x3,d0,d1,d2,d3,rfl,_⟩:=h
   rfl
 . obtain ⟨x0,x1,x2,x3,d0,d1,d2,d3,rfl,h0,h1,h2,h3,q⟩:=h
   have mq:sizeLine=16777216:=acO
   obtain ⟨th0,_,_,n0⟩:=h0.kind (K:=K)
   refine ⟨_,(aB (cP (vQ (dN (Bc (aJ tu hr rfl tD tE tG .nil aW (aj (pV 0) ak)))) (pw_or1 (dN (Bc (aO (jr rfl) rfl T.all afG (aj (cA (eY:=au qg) (own:=["number"]) (cap:=[]) (ix:=[]) rfl rfl ⟨rfl,by decide +kernel,by decide +kernel,by decide +kernel,rfl,by decide +kernel⟩ (cI (cN (aj (pV 1) (aj (pV 2) (aj (pV 3) ak))))) (fun b=>(aH (i:=0) (show (["number"]:List Str).Nodup by decide +kernel) rfl (acz rfl))) (fun b=>bM) (fun b=>(aJ oK hr rfl oM k_whole oN .nil aW (aj (pV 0) ak)))) ak)))))) (aG (aZ je)) bH) (aG (aZ (mJ (iQ oLe (pV 1) (pV 2) (bL _)) (kW (iQ oGe (pV 3) aC (bL _))))))),?_⟩
   refine ⟨x0,rfl,th0,fun H1 s1=>?_⟩
   rw [n0]
   unfold mQ at q
   cases e0:pC d0 with
   | false=>rw [e0] at q; exact q H1 s1
   | true =>
     rw [e0,aeK] at q
     refine ⟨by show 3<=sizeLine; omega,fun p hp=>?_⟩
     refine ⟨p,rfl,⟨_,bA.of ao⟩,fun D hD=>comp_map (xs:=[x1,x2,x3]) (ys:=[gP d1,gP d2,gP d3].map V.bl) hD (bA.of ao) (by show 3<=sizeLine; omega) rfl (fun i x H' hx s2 b R hR=>?_) (fun H' s2 e=>?_)⟩
     . have S:=(s1.upd hp).trans s2
       have hx':∃ dd,cR H' x dd/\([gP d1,gP d2,gP d3].map V.bl)[i]?=some (.bl (gP dd)):=by
         match i,hx with
         | 0,hx=>cases hx; exact ⟨d1,h1.same S,rfl⟩
         | 1,hx=>cases hx; exact ⟨d2,h2.same S,rfl⟩
         | 2,hx=>cases hx; exact ⟨d3,h3.same S,rfl⟩
       obtain ⟨dd,hdd,ey⟩:=hx'
       refine aX fun eG aK=>?_
       obtain ⟨th,_,w,_⟩:=hdd.kind (K:=K)
       subst aK
       refine ⟨x,rfl,th,?_⟩
       rw [w]
       exact hR H' _ ey (Same.refl _)
     . refine ⟨D,[gP d1,gP d2,gP d3],rfl,bY.of e,?_⟩
       have ea:([gP d1,gP d2,gP d3]:List Bool).all id=(gP d1 && (gP d2 && gP d3)):=by simp
       rw [ea]
       have qq:=q H' ((s1.upd hp).trans s2)
       cases e1:(gP d1 && (gP d2 && gP d3)) with
       | false=>rw [e1] at qq; exact qq
       | true =>
         rw [e1,aeK] at qq
         obtain ⟨w1,w2⟩:=abx.mp e1
         obtain ⟨w2,w3⟩:=abx.mp w2
         cases h1 with
         | int i1 =>
           cases h2 with
           | int i2 =>
             cases h3 with
             | int i3 =>
               refine gO (fun z=>?_) (fun z=>?_)
               . have z':decide (intD (.int i1)<=intD (.int i2))=true:=z
                 rw [z',aeK] at qq
                 exact qq
               . have z':decide (intD (.int i1)<=intD (.int i2))=false:=(Bool.not_eq_true _).mp z
                 rw [z',amh] at qq
                 exact qq
             | _=>cases w3
           | _=>cases w2
         | _=>cases w1
theorem aak:bB ["thing"] ["thing"] (au Ec):=⟨rfl,rfl,rfl,by decide +kernel,rfl,by decide +kernel,by decide +kernel⟩
theorem aal {f BK jx:abm} {fd Eh j8:aeF} (F:lX K "is_run" "is_run" Ec f fd) (T:Txt mg t8 t6 tR tL)
   (Wh:aV P w K mg base cG 2 BK Eh ["thing"] (Bo fO)) (Wi:mg "is_named_number" = some (.ref BK)) (Wj:aaw K (.ref BK)=true) (Wk:Binds K Eh ["thing"] [])
   (wH:aV P w K mg base cG 2 jx j8 ["values"] qY) (wI:mg "is_rising" = some (.ref jx)) (wJ:aaw K (.ref jx)=true) (wK:Binds K j8 ["values"] []):aV P w K mg base cG 3 f fd ["thing"] (Bo v7):=by
 refine F.ok aak (fun vs H Q E h=>?_) (fun cdv A outer s H vs Q E hr h=>?_)
 . obtain ⟨x,d,rfl,_⟩:=h
   rfl
 . obtain ⟨x,d,rfl,hd,q⟩:=h
   have mq:sizeLine=16777216:=acO
   obtain ⟨_,⟨T',ty,kt⟩,_⟩:=hd.kind (K:=K)
   refine ⟨_,(aB (cP (vQ (dN (Bc (aO gU rfl T.V9 aeH (aj (pV 0) (aj (jg (v:=.ty "tuple") rfl T.tuple abU rfl) ak))))) (pw_or1 (oZ oEq (aO bx rfl T.len ad4 (aj (pV 0) ak)) aC (bL _)))) (aG (aZ je)) bH) (aB (cP (dN (Bc (aO (jr rfl) rfl T.all afG (aj (cA (eY:=au Ec) (own:=["row"]) (cap:=[]) (ix:=[]) rfl rfl ⟨rfl,by decide +kernel,by decide +kernel,by decide +kernel,rfl,by decide +kernel⟩ (cI (pV 0)) (fun b=>(aH (i:=0) (show (["row"]:List Str).Nodup by decide +kernel) rfl (acz rfl))) (fun b=>bM) (fun b=>(aJ Wh hr rfl Wi Wj Wk .nil aW (aj (pV 0) ak)))) ak)))) (aG (aZ je)) bH) (aG (aZ (aJ wH hr rfl wI wJ wK .nil aW (aj (cA (eY:=au Ec) (own:=["name","reading"]) (cap:=[]) (ix:=[]) rfl rfl ⟨rfl,by decide +kernel,by decide +kernel,by decide +kernel,rfl,by decide +kernel⟩ (cI (pV 0)) (fun b=>(eU rfl (aR (aH (i:=0) (show (["name","reading"]:List Str).Nodup by decide +kernel) rfl (acz rfl)) (aR (aH (i:=1) (show (["name","reading"]:List Str).Nodup by decide +kernel) rfl (acz rfl)) dg)))) (fun b=>bM) (fun b=>(pV 1))) ak)))))),?_⟩
   refine ⟨_,_,_,_,rfl,ty,kt,?_⟩
   cases d with
   | tup xs =>
     refine aX fun eG aK=>?_
     obtain ⟨a,vs,ez6,ha,Ym,r⟩:=hd.pB
     subst aK
     subst ez6
     have len:=r.len
     refine ⟨a,vs,rfl,.inr (bA.of ha),?_⟩
     refine gO (fun z=>?_) (fun z=>?_)
     . have e:xs=[]:=aeE (by have:=of_decide_eq_true z; omega)
       subst e
       exact q H (Same.refl H)
     . have ne:xs.isEmpty=false:=by
         cases xs with
         | nil=>exact absurd (decide_eq_true (by rw [len]; rfl)) z
         | cons _ _=>rfl
       have q':∀ H',Same H H'->Q (.bl (xs.all fO && qX (xs.map fun x=>intD (GZ x)))) H':=fun H' s=>by
         have w:=q H' s
         simp only [v7,ne,Bool.not_false,aeK] at w
         exact w
       refine ⟨a,rfl,⟨_,bA.of ha⟩,fun D hD=>comp_map (xs:=vs) (ys:=(xs.map fO).map V.bl) hD (bA.of ha) (by omega) (by rw [aao,aao]; omega) (fun i x H' hx s2 b R hR=>?_) (fun H' s2 e=>?_)⟩
       . obtain ⟨y,hy,ya⟩:=r.get hx
         exact ⟨x,y,rfl,ya.same s2,fun eV s=>hR eV _ (by rw [aaJ,aaJ,hy]; rfl) s⟩
       . refine ⟨D,_,rfl,bY.of e,?_⟩
         rw [Bq]
         cases ea:xs.all fO with
         | false =>
           have w:=q' H' s2
           rw [ea] at w
           exact w
         | true =>
           rw [ea] at q'
           have form:∀ (i:Nat) (y:Da),xs[i]?=some y->∃ p j,y=.tup [p,.int j]:=fun i y hy=>by
             refine aX fun eG aK=>?_
             obtain ⟨z,j,e,_⟩:=lC (acL.mp ea y (abg hy))
             subst aK
             exact ⟨_,j,e⟩
           refine ⟨a,rfl,⟨_,bA.of (s2 _ _ ha)⟩,fun D2 hD2=>comp_map (xs:=vs) (ys:=(xs.map fun x=>intD (GZ x)).map V.int) hD2 (bA.of (s2 _ _ ha)) (by omega) (by rw [aao,aao]; omega) (fun i x H2 hx s3 b R hR=>?_) (fun H2 s3 e2=>?_)⟩
           . obtain ⟨y,hy,ya⟩:=r.get hx
             obtain ⟨p,j,rfl⟩:=form i y hy
             refine aX fun eG aK=>?_
             obtain ⟨c,ws,ez7,hc,_,Df⟩:=(ya.same (s2.trans s3)).pB
             subst aK
             subst ez7
             refine aX fun eG aK=>?_
             obtain ⟨w1,w2,ez8,g1,g2⟩:=Df.two
             subst aK
             subst ez8
             cases g2 with
             | int _ =>
               refine ⟨c,_,rfl,bA.of hc,rfl,_,_,rfl,_,_,rfl,rfl,?_⟩
               exact hR H2 _ (by rw [aaJ,aaJ,hy]; rfl) (Same.refl _)
           . refine ⟨D2,_,_,rfl,e2,by rw [aao,aao]; omega,.inl ⟨_,rfl,rfl⟩,fun H3 s4=>?_⟩
             exact q' H3 ((s2.trans s3).trans s4)
   | _=>exact q H (Same.refl H)
theorem j9:bB ["thing","name","low","high","drift","runs"] ["thing"] (au qj):=⟨rfl,rfl,rfl,by decide +kernel,rfl,by decide +kernel,by decide +kernel⟩
theorem Rk {f dZ BL Rm:abm} {fd fQ Ei Rn:aeF} (F:lX K "is_house" "is_house" qj f fd) (T:Txt mg t8 t6 tR tL)
   (lH:aV P w K mg base cG 3 dZ fQ ["thing","many"] oh) (lJ:mg "has_parts" = some (.ref dZ)) (lK:aaw K (.ref dZ)=true) (lM:Binds K fQ ["thing","many"] [])
   (Wm:aV P w K mg base cG 3 BL Ei ["name","low","high","drift"] Bp) (Wn:mg "is_clock" = some (.ref BL)) (Wo:aaw K (.ref BL)=true) (Wq:Binds K Ei ["name","low","high","drift"] [])
   (acG:aV P w K mg base cG 3 Rm Rn ["thing"] (Bo v7)) (acH:mg "is_run" = some (.ref Rm)) (acI:aaw K (.ref Rm)=true) (acJ:Binds K Rn ["thing"] []):aV P w K mg base cG 4 f fd ["thing"] (Bo fP):=by
 refine F.ok j9 (fun vs H Q E h=>?_) (fun cdv A outer s H vs Q E hr h=>?_)
 . obtain ⟨x,d,rfl,_⟩:=h
   rfl
 . obtain ⟨x,d,rfl,hd,q⟩:=h
   have mq:sizeLine=16777216:=acO
   refine ⟨_,(aB (cP (dN (Bc (aJ lH hr rfl lJ lK lM .nil aW (aj (pV 0) (aj aC ak))))) (aG (aZ je)) bH) (aB (vH (pV 0) (eU rfl (aR (aH (i:=1) j9.nd rfl (acz rfl)) (aR (aH (i:=2) j9.nd rfl (acz rfl)) (aR (aH (i:=3) j9.nd rfl (acz rfl)) (aR (aH (i:=4) j9.nd rfl (acz rfl)) (aR (aH (i:=5) j9.nd rfl (acz rfl)) dg))))))) (aB (cP (vQ (dN (Bc (aJ Wm hr rfl Wn Wo Wq .nil aW (aj (pV 1) (aj (pV 2) (aj (pV 3) (aj (pV 4) ak))))))) (pw_or1 (dN (Bc (aO gU rfl T.V9 aeH (aj (pV 5) (aj (jg (v:=.ty "tuple") rfl T.tuple abU rfl) ak))))))) (aG (aZ je)) bH) (aG (aZ (aO (jr rfl) rfl T.all afG (aj (cA (eY:=au qj) (own:=["run"]) (cap:=[]) (ix:=[]) rfl rfl ⟨rfl,by decide +kernel,by decide +kernel,by decide +kernel,rfl,by decide +kernel⟩ (cI (pV 5)) (fun b=>(aH (i:=0) (show (["run"]:List Str).Nodup by decide +kernel) rfl (acz rfl))) (fun b=>bM) (fun b=>(aJ acG hr rfl acH acI acJ .nil aW (aj (pV 0) ak)))) ak))))))),?_⟩
   refine ⟨x,d,5,rfl,hd,?_⟩
   have no:∀ d',lB d' 5=false->fP d'=false:=fun d' h=>by
     cases d' with
     | tup xs =>
       match xs,h with
       | [],_=>rfl
       | [_],_=>rfl
       | [_,_],_=>rfl
       | [_,_,_],_=>rfl
       | [_,_,_,_],_=>rfl
       | [_,_,_,_,_],h=>cases h
       | _ :: _ :: _ :: _ :: _ :: _ :: _,_=>rfl
     | _=>rfl
   cases e:lB d 5 with
   | false =>
     have z:=q H (Same.refl H)
     rw [no d e] at z
     exact z
   | true =>
     cases d with
     | tup xs =>
       refine aX fun eG aK=>?_
       obtain ⟨a,vs,ez9,ha,Ym,r⟩:=hd.pB
       subst aK
       subst ez9
       refine aX fun eG aK=>?_
       obtain ⟨y1,y2,y3,y4,y5,agP⟩:=agG (of_decide_eq_true e)
       subst aK
       subst agP
       refine aX fun eG aK=>?_
       obtain ⟨v1,v2,v3,v4,v5,agQ,h1,h2,h3,h4,h5⟩:=r.five
       subst aK
       subst agQ
       refine ⟨a,_,rfl,bA.of ha,rfl,_,_,rfl,_,_,rfl,_,_,rfl,_,_,rfl,_,_,rfl,rfl,?_⟩
       refine ⟨v1,v2,v3,v4,y1,y2,y3,y4,rfl,h1,h2,h3,h4,fun H1 s1=>?_⟩
       cases ec:mQ y1 y2 y3 y4 with
       | false =>
         have w:=q H1 s1
         simp only [fP,ec,amh] at w
         exact w
       | true =>
         have q':∀ H',Same H H'->Q (.bl (JB y5)) H':=fun H' s=>by
           have w:=q H' s
           simp only [fP,ec,aeK] at w
           exact w
         refine aX fun eG aK=>?_
         obtain ⟨_,⟨T',ty,kt⟩,_⟩:=(h5.same s1).kind (K:=K)
         subst aK
         refine ⟨_,_,_,_,rfl,ty,kt,?_⟩
         cases y5 with
         | tup rs =>
           refine aX fun eG aK=>?_
           obtain ⟨c,ws,agR,hc,lw,rr⟩:=(h5.same s1).pB
           subst aK
           subst agR
           have len:=rr.len
           refine ⟨c,rfl,⟨_,bA.of hc⟩,fun D hD=>comp_map (xs:=ws) (ys:=(rs.map v7).map V.bl) hD (bA.of hc) (by omega) (by rw [aao,aao]; omega) (fun i x H' hx s2 b R hR=>?_) (fun H' s2 e=>?_)⟩
           . obtain ⟨y,hy,ya⟩:=rr.get hx
             exact ⟨x,y,rfl,ya.same s2,fun eV s=>hR eV _ (by rw [aaJ,aaJ,hy]; rfl) s⟩
           . refine ⟨D,_,rfl,bY.of e,?_⟩
             rw [Bq]
             exact q' H' (s1.trans s2)
         | _=>exact q' H1 s1
     | _=>cases e
theorem Mh:bB ["house"] ["house"] (au lE):=⟨rfl,rfl,rfl,by decide +kernel,rfl,by decide +kernel,by decide +kernel⟩
theorem Mi {f:abm} {fd:aeF} (F:lX K "rows_in" "rows_in" lE f fd):aV P w K mg base cG 1 f fd ["house"] q9:=by
 refine F.ok Mh (fun vs H Q E h=>?_) (fun cdv A outer s H vs Q E hr h=>?_)
 . obtain ⟨x,hh,rfl,_⟩:=h
   rfl
 . obtain ⟨x,hh,rfl,⟨a,b,rfl,ha,c,vs,rfl,hc,pr⟩,gd,q⟩:=h
   have mq:sizeLine=16777216:=acO
   refine ⟨_,(aG (aZ (Dw (eY:=au lE) (own:=["run","row"]) (cap:=[]) (ix:=[]) rfl rfl ⟨rfl,by decide +kernel,by decide +kernel,by decide +kernel,rfl,by decide +kernel⟩ (cI (bG dO (pV 0) aC (fun _ _=>rfl))) (fun b=>(aH (i:=0) (show (["run","row"]:List Str).Nodup by decide +kernel) rfl (acz rfl))) (fun b=>bM) (fun b=>cI (pV 0)) (fun b=>(aH (i:=1) (show (["run","row"]:List Str).Nodup by decide +kernel) rfl (acz rfl))) (fun b=>bM) (fun b=>pV 1)))),?_⟩
   refine bV (bA.of ha) (i:=4) (v:=.ref c) (by rfl) ?_
   refine ⟨c,rfl,⟨_,bA.of hc⟩,fun D hD=>⟨WS vs.length (fun i σ H'=>∃ o1 o2 zs,σ=[o1,o2]/\cL H H' D zs/\acN (cM H) zs (hh.runs.take i).flatten),Yl ⟨none,none,[],rfl,cL.start hD,.nil⟩,fun b=>sG (xs:=vs) _ (fun i σ H' _ hz1=>by obtain ⟨_,_,_,_,G,_⟩:=hz1; exact bA.of (G.same _ _ hc)) (fun σ H' hz2=>?_) (fun i x σ H' hx hi hz3=>?_)⟩⟩
   . refine aX fun eG aK=>?_
     obtain ⟨_,_,zs,_,G,pz⟩:=hz2
     subst aK
     refine q D zs H' hD G.at' G.same ?_
     rw [pr.length,adi] at pz
     exact aq (fun _ _ z=>z.ts G.same.tups) pz
   . refine aX fun eG aK=>?_
     obtain ⟨o1,o2,zs,e,G,pz⟩:=hz3
     subst aK
     subst e
     refine aX fun eG aK=>?_
     obtain ⟨r,hr',c2,ws,agT,hc2,pr2⟩:=aL pr hx
     subst aK
     subst agT
     have gr:=gd.runs r (abg hr')
     refine ⟨c2,rfl,⟨_,bA.of (G.same _ _ hc2)⟩,WS ws.length (fun j σ eV=>∃ o2 zs',σ=[some (.ref c2),o2]/\cL H eV D zs'/\acN (cM H) zs' ((hh.runs.take i).flatten++r.take j)),Yl ⟨o2,zs,rfl,G,by rw [amY,afK]; exact pz⟩,sG (xs:=ws) _ (fun j σ eV _ hz1=>by obtain ⟨_,_,_,G',_⟩:=hz1; exact bA.of (G'.same _ _ hc2)) (fun σ eV ⟨o2',zs',e',G',pz'⟩=>nxs hi ⟨_,_,zs',e',G',?_⟩) (fun j y σ eV hy hj hz3=>?_)⟩
     . rw [pr2.length,adi] at pz'
       rw [abj,hr',aio]
       simpa using pz'
     . refine aX fun eG aK=>?_
       obtain ⟨o2',zs',e',G',pz'⟩:=hz3
       subst aK
       subst e'
       obtain ⟨rr,hrr,ra⟩:=aL pr2 hy
       have hl:=pz'.length
       have hl1:=mU (l:=hh.runs.take i) (n:=25) fun q hq=>(gd.runs q (afi hq)).few
       have hl2:(hh.runs.take i).length<=25:=adS (ap7 i hh.runs) gd.few
       have hl3:(hh.runs.take i).length * 25<=25 * 25:=amf 25 hl2
       have hl4:=gr.few
       rw [abe,abo] at hl
       refine ⟨zs',G'.at',by omega,nxs hj ⟨_,zs'++[y],rfl,G'.put hD y,?_⟩⟩
       rw [abj,hrr,<- aeX]
       exact aM pz' (.cons ra .nil)
theorem Ej:bB ["houses"] ["houses"] (au iC):=⟨rfl,rfl,rfl,by decide +kernel,rfl,by decide +kernel,by decide +kernel⟩
theorem Ek {f jy:abm} {fd kj:aeF} (F:lX K "row_names" "row_names" iC f fd)
   (wL:aV P w K mg base cG 1 jy kj ["house"] q9) (wM:mg "rows_in" = some (.ref jy)) (wN:aaw K (.ref jy)=true) (wO:Binds K kj ["house"] []):aV P w K mg base cG 2 f fd ["houses"] p7:=by
 refine F.ok Ej (fun vs H Q E h=>?_) (fun cdv A outer s H vs Q E hr h=>?_)
 . obtain ⟨x,hs,rfl,_⟩:=h
   rfl
 . obtain ⟨x,hs,rfl,⟨c,vs,rfl,hc,pr⟩,h6,gd,q⟩:=h
   have mq:sizeLine=16777216:=acO
   refine ⟨_,(aG (aZ (Dw (eY:=au iC) (own:=["house","name","reading"]) (cap:=[]) (ix:=[]) rfl rfl ⟨rfl,by decide +kernel,by decide +kernel,by decide +kernel,rfl,by decide +kernel⟩ (cI (pV 0)) (fun b=>(aH (i:=0) (show (["house","name","reading"]:List Str).Nodup by decide +kernel) rfl (acz rfl))) (fun b=>bM) (fun b=>iM (aJ wL hr rfl wM wN wO .nil aW (aj (pV 0) ak))) (fun b=>(eU rfl (aR (aH (i:=1) (show (["house","name","reading"]:List Str).Nodup by decide +kernel) rfl (acz rfl)) (aR (aH (i:=2) (show (["house","name","reading"]:List Str).Nodup by decide +kernel) rfl (acz rfl)) dg)))) (fun b=>bM) (fun b=>pV 1)))),?_⟩
   refine ⟨c,rfl,⟨_,bA.of hc⟩,fun D hD=>⟨WS vs.length (fun i σ H'=>∃ o1 o2 o3,σ=[o1,o2,o3]/\cL H H' D (((hs.take i).flatMap bT).map V.str)),Yl ⟨none,none,none,rfl,cL.start hD⟩,fun b=>sG (xs:=vs) _ (fun i σ H' _ hz4=>by obtain ⟨_,_,_,_,G⟩:=hz4; exact bA.of (G.same _ _ hc)) (fun σ H' hz5=>?_) (fun i x σ H' hx hi hz6=>?_)⟩⟩
   . refine aX fun eG aK=>?_
     obtain ⟨_,_,_,_,G⟩:=hz5
     subst aK
     refine q D H' hD ?_ G.same
     have e:=G.at'
     rw [pr.length,adi] at e
     exact e
   . refine aX fun eG aK=>?_
     obtain ⟨o1,o2,o3,e,G⟩:=hz6
     subst aK
     subst e
     obtain ⟨h,hh',ha⟩:=aL pr hx
     have gh:=gd h (abg hh')
     refine ⟨x,h,rfl,ha.ts G.same.tups,gh,fun l zs H2 hl el s2 pz=>?_⟩
     have nlD:l≠D:=fun z=>by subst z; rw [G.at'] at hl; cases hl
     have G2:=G.more s2
     refine ⟨l,rfl,⟨_,bY.of el⟩,WS zs.length (fun j σ eV=>∃ o2 o3,σ=[some x,o2,o3]/\cL H eV D (((hs.take i).flatMap bT++((jf h).take j).map adB).map V.str)/\eV l=some (.lst zs)/\bZ H2 eV),Yl ⟨o2,o3,rfl,by simpa using G2,el,bZ.refl _⟩,Jy (xs:=zs) _ (fun j σ eV _ hz4=>by obtain ⟨_,_,_,_,e',_⟩:=hz4; exact bY.of e') (fun σ eV ⟨o2',o3',e',G',_,_⟩=>nxs hi ⟨_,_,_,e',?_⟩) (fun j y σ eV hy hj hz6=>?_)⟩
     . rw [pz.length,adi] at G'
       rw [abj,hh',aeJ]
       simpa [bT] using G'
     . refine aX fun eG aK=>?_
       obtain ⟨o2',o3',e',G',el',t'⟩:=hz6
       subst aK
       subst e'
       obtain ⟨rr,hrr,ra⟩:=aL pz hy
       obtain ⟨ra1,rfl,ra2⟩:=ra.ts t'
       refine ⟨ra1,_,rfl,bA.of ra2,rfl,_,_,rfl,_,_,rfl,rfl,?_⟩
       have hl1:((hs.take i).flatMap bT).length<=(hs.take i).length * 625:=by
         rw [ao4]
         have z:=mU (l:=(hs.take i).map bT) (n:=625) fun q hq=>by
           obtain ⟨k,hk,rfl⟩:=abh.mp hq
           have z1:=(gd k (afi hk)).len
           show ((jf k).map adB).length<=625
           rw [aao]; exact z1
         rw [aao] at z
         exact z
       have hl2:(hs.take i).length<=6:=adS (ap7 i hs) h6
       have hl3:(hs.take i).length * 625<=6 * 625:=amf 625 hl2
       have hl4:=gh.len
       refine ⟨_,G'.at',by rw [aao,abe,aao,abo]; omega,nxs hj ⟨_,_,rfl,?_,?_,t'.put G'.at' (fun _ z=>nomatch z)⟩⟩
       . have z:=G'.put hD (V.str rr.1)
         rw [abj,hrr]
         simpa using z
       . rw [aF nlD]; exact el'
theorem Mj:bB ["names"] ["names"] (au oE):=⟨rfl,rfl,rfl,by decide +kernel,rfl,by decide +kernel,by decide +kernel⟩
theorem Ml {f:abm} {fd:aeF} (F:lX K "are_unlike" "are_unlike" oE f fd) (T:Txt mg t8 t6 tR tL):aV P w K mg base cG 1 f fd ["names"] wg:=by
 refine F.ok Mj (fun vs H Q E h=>?_) (fun cdv A outer s H vs Q E hr h=>?_)
 . obtain ⟨x,hs,rfl,_⟩:=h
   rfl
 . obtain ⟨a,ss,rfl,ha,few,q⟩:=h
   have ek:(ss.map (adz:Str->Key)).map kV=ss.map V.str:=by rw [adJ]; rfl
   refine ⟨_,(aG (aZ (iQ oEq (aO Lp rfl T.len ad4 (aj (bD (Qv rfl) rfl T.set anb (aj (pV 0) ak)) ak)) (aO bx rfl T.len ad4 (aj (pV 0) ak)) (bL _)))),?_⟩
   refine ⟨a,ss.map adz,rfl,bY.of (by rw [ek]; exact ha),by rw [aao]; omega,fun l hl=>?_⟩
   refine ⟨l,ss.map adz,rfl,ao,?_⟩
   have s1:=(Same.refl H).upd (o:=.ext (Qu P w l (ss.map adz))) hl
   refine ⟨a,ss.map V.str,rfl,.inl (bY.of (s1 _ _ ha)),?_⟩
   show Q (.bl (decide (((dB (ss.map adz) (ss.map (adz:Str->Key)).length).length:Int)=((ss.map V.str).length:Int)))) _
   have e:decide (((dB (ss.map adz) (ss.map (adz:Str->Key)).length).length:Int)=((ss.map V.str).length:Int))=decide ss.Nodup:=by
     rw [aeU,decide_eq_true_iff,decide_eq_true_iff,aao,aao]
     constructor
     . intro z
       have z2:=zx (ks:=ss.map (adz:Str->Key)) ss.length (by rw [aao]; exact aav _) (by omega)
       rw [adN (by rw [aao]; exact aav _)] at z2
       rw [aa2,acK] at z2
       rw [aa2]
       exact z2.imp fun h e=>h (by rw [e])
     . intro z
       have nk:(ss.map (adz:Str->Key)).Nodup:=by
         rw [aa2,acK]
         exact (aa2.mp z).imp fun h z=>h (afA z)
       rw [vU nk _ (by rw [aao]; exact aav _),abo,aao]
       omega
   rw [e]
   exact q _ s1
end
end mz
namespace mz
open PySem L2 gF
section
variable {P:acs} {w:adH} {K:aas} {mg:Str->Option aau} {base:ae9} {t8 t6 tR tL:Tok}
theorem zJ:bB ["thing","names"] ["thing"] (au jE):=⟨rfl,rfl,rfl,by decide +kernel,rfl,by decide +kernel,by decide +kernel⟩
theorem Mp {f BP qm wQ:abm} {fd El uG zK:aeF} (F:lX K "are_houses" "are_houses" jE f fd) (T:Txt mg t8 t6 tR tL)
   (Wr:aV P w K mg base cG 4 BP El ["thing"] (Bo fP)) (Ws:mg "is_house" = some (.ref BP)) (Wt:aaw K (.ref BP)=true) (Wu:Binds K El ["thing"] [])
   (Hr:aV P w K mg base cG 4 qm uG ["houses"] p7) (Ht:mg "row_names" = some (.ref qm)) (Hu:aaw K (.ref qm)=true) (Hv:Binds K uG ["houses"] [])
   (Em:aV P w K mg base cG 4 wQ zK ["names"] wg) (En:mg "are_unlike" = some (.ref wQ)) (Eo:aaw K (.ref wQ)=true) (Ep:Binds K zK ["names"] []):aV P w K mg base cG 5 f fd ["thing"] (Bo jk):=by
 refine F.ok zJ (fun vs H Q E h=>?_) (fun cdv A outer s H vs Q E hr h=>?_)
 . obtain ⟨x,d,rfl,_⟩:=h
   rfl
 . obtain ⟨x,d,rfl,hd,q⟩:=h
   have mq:sizeLine=16777216:=acO
   obtain ⟨_,⟨T',ty,kt⟩,_⟩:=hd.kind (K:=K)
   refine ⟨_,(aB (cP (vQ (dN (Bc (aO gU rfl T.V9 aeH (aj (pV 0) (aj (jg (v:=.ty "tuple") rfl T.tuple abU rfl) ak))))) (pw_or1 (dN (acg oLe oLe aC (aO bx rfl T.len ad4 (aj (pV 0) ak)) (uV (v:=.int 6) rfl T.acB ⟨_,rfl⟩))))) (aG (aZ je)) bH) (aB (cP (dN (Bc (aO (jr rfl) rfl T.all afG (aj (cA (eY:=au jE) (own:=["house"]) (cap:=[]) (ix:=[]) rfl rfl ⟨rfl,by decide +kernel,by decide +kernel,by decide +kernel,rfl,by decide +kernel⟩ (cI (pV 0)) (fun b=>(aH (i:=0) (show (["house"]:List Str).Nodup by decide +kernel) rfl (acz rfl))) (fun b=>bM) (fun b=>(aJ Wr hr rfl Ws Wt Wu .nil aW (aj (pV 0) ak)))) ak)))) (aG (aZ je)) bH) (aB (aY (i:=1) zJ.nd rfl (acz rfl) (aJ Hr hr rfl Ht Hu Hv .nil aW (aj (pV 0) ak))) (aG (aZ (mJ (aJ Em hr rfl En Eo Ep .nil aW (aj (cA (eY:=au jE) (own:=["house"]) (cap:=[]) (ix:=[]) rfl rfl ⟨rfl,by decide +kernel,by decide +kernel,by decide +kernel,rfl,by decide +kernel⟩ (cI (pV 0)) (fun b=>(aH (i:=0) (show (["house"]:List Str).Nodup by decide +kernel) rfl (acz rfl))) (fun b=>bM) (fun b=>(bG dO (pV 0) aC (fun _ _=>rfl)))) ak)) (mJ (aJ Em hr rfl En Eo Ep .nil aW (aj (pV 1) ak)) (kW (iQ oLe (aO bx rfl T.len ad4 (aj (pV 1) ak)) (uV (v:=.int 24) rfl T.acC ⟨_,rfl⟩) (bL _)))))))))),?_⟩
   refine ⟨_,_,_,_,rfl,ty,kt,?_⟩
   cases d with
   | tup xs =>
     refine aX fun eG aK=>?_
     obtain ⟨c,vs,agX,hc,Ym,r⟩:=hd.pB
     subst aK
     subst agX
     have len:=r.len
     have q:∀ H',Same H H'->Q (.bl (decide (1<=xs.length) && (decide (xs.length<=6) && (xs.all fP && (decide ((xs.map bI).map aA.name).Nodup && (decide (namesOf (xs.map bI)).Nodup && decide ((namesOf (xs.map bI)).length<=24))))))) H':=q
     refine ⟨c,vs,rfl,.inr (bA.of hc),?_⟩
     refine gO (fun z=>?_) (fun z=>?_)
     . have z1:1<=xs.length:=by have:=of_decide_eq_true z; omega
       rw [decide_eq_true z1,aeK] at q
       by_cases z2:xs.length<=6
       . rw [decide_eq_true z2,aeK] at q
         refine gO (fun w=>by rw [decide_eq_true (show (vs.length:Int)<=6 by omega)] at w; cases w) (fun w=>?_)
         refine ⟨c,rfl,⟨_,bA.of hc⟩,fun D hD=>comp_map (xs:=vs) (ys:=(xs.map fP).map V.bl) hD (bA.of hc) (by omega) (by rw [aao,aao]; omega) (fun i x H' hx s2 b R hR=>?_) (fun H' s2 e=>?_)⟩
         . obtain ⟨y,hy,ya⟩:=r.get hx
           exact ⟨x,y,rfl,ya.same s2,fun eV s=>hR eV _ (by rw [aaJ,aaJ,hy]; rfl) s⟩
         . refine ⟨D,_,rfl,bY.of e,?_⟩
           rw [Bq]
           cases ea:xs.all fP with
           | false=>rw [ea] at q; exact q H' s2
           | true =>
             rw [ea,aeK] at q
             obtain ⟨pr,gd⟩:=sI r ea
             have hc2:=s2 _ _ hc
             have lh:(xs.map bI).length<=6:=by rw [aao]; exact z2
             refine ⟨.ref c,xs.map bI,rfl,⟨c,vs,rfl,hc2,aq (fun _ _ z=>z.ts s2.tups) pr⟩,lh,gd,fun l H2 hl el s3=>?_⟩
             refine ⟨c,rfl,⟨_,bA.of (s3 _ _ hc2)⟩,fun D2 hD2=>comp_map (xs:=vs) (ys:=(xs.map bI).map fun h=>V.str h.name) hD2 (bA.of (s3 _ _ hc2)) (by omega) (by rw [aao,aao]; omega) (fun i x H3 hx s4 b R hR=>?_) (fun H3 s4 e2=>?_)⟩
             . obtain ⟨h,hh',ha⟩:=aL pr hx
               refine aX fun eG aK=>?_
               obtain ⟨a1,b1,agY,g1,_⟩:=ha.ts ((s2.trans s3).trans s4).tups
               subst aK
               subst agY
               refine bV (bA.of g1) (i:=0) (v:=.str h.name) (by rfl) ?_
               exact hR H3 _ (by rw [aaJ,hh']; rfl) (Same.refl _)
             . refine ⟨D2,(xs.map bI).map aA.name,rfl,by rw [adJ]; exact e2,by rw [aao]; omega,fun H4 s5=>?_⟩
               have S4:=(((s2.trans s3).trans s4).trans s5)
               cases en:decide ((xs.map bI).map aA.name).Nodup with
               | false=>rw [en] at q; exact q H4 S4
               | true =>
                 rw [en,aeK] at q
                 have el4:=(s4.trans s5) _ _ el
                 have big:(namesOf (xs.map bI)).length<=625 * 6:=by
                   unfold namesOf
                   rw [ao4]
                   have z:=mU (l:=(xs.map bI).map bT) (n:=625) fun q hq=>by
                     obtain ⟨k,hk,rfl⟩:=abh.mp hq
                     have z1:=(gd k hk).len
                     show ((jf k).map adB).length<=625
                     rw [aao]; exact z1
                   rw [aao] at z
                   have:(xs.map bI).length * 625<=6 * 625:=amf 625 lh
                   omega
                 refine ⟨l,namesOf (xs.map bI),rfl,el4,by omega,fun H5 s6=>?_⟩
                 cases er:decide (namesOf (xs.map bI)).Nodup with
                 | false=>rw [er] at q; exact q H5 (S4.trans s6)
                 | true =>
                   rw [er,aeK] at q
                   refine ⟨l,_,rfl,.inl (bY.of (s6 _ _ el4)),?_⟩
                   have e9:decide ((((namesOf (xs.map bI)).map V.str).length:Int)<=24)=decide ((namesOf (xs.map bI)).length<=24):=by
                     rw [aao,aeU,decide_eq_true_iff,decide_eq_true_iff]; omega
                   show Q (.bl (decide ((((namesOf (xs.map bI)).map V.str).length:Int)<=24))) H5
                   rw [e9]
                   exact q H5 (S4.trans s6)
       . rw [decide_eq_false z2] at q
         refine gO (fun w=>q H (Same.refl H)) (fun w=>?_)
         exact absurd (by rw [decide_eq_false (show ¬ (vs.length:Int)<=6 by omega)]; rfl) w
     . have z1:¬ 1<=xs.length:=fun w=>z (decide_eq_true (by omega))
       rw [decide_eq_false z1] at q
       exact q H (Same.refl H)
   | _=>exact q H (Same.refl H)
theorem kE:bB ["thing","sent","taken","least","most"] ["thing"] (au oF):=⟨rfl,rfl,rfl,by decide +kernel,rfl,by decide +kernel,by decide +kernel⟩
theorem Mq {f dZ jw ig:abm} {fd fQ jG iZ:aeF} (F:lX K "is_letter" "is_letter" oF f fd)
   (lH:aV P w K mg base cG 1 dZ fQ ["thing","many"] oh) (lJ:mg "has_parts" = some (.ref dZ)) (lK:aaw K (.ref dZ)=true) (lM:Binds K fQ ["thing","many"] [])
   (tu:aV P w K mg base cG 1 jw jG ["thing"] (vZ K)) (tD:mg "is_name" = some (.ref jw)) (tE:aaw K (.ref jw)=true) (tG:Binds K jG ["thing"] [])
   (oK:aV P w K mg base cG 1 ig iZ ["thing"] (qU K)) (oM:mg "is_whole" = some (.ref ig)) (k_whole:aaw K (.ref ig)=true) (oN:Binds K iZ ["thing"] []):aV P w K mg base cG 2 f fd ["thing"] (Bo dW):=by
 refine F.ok kE (fun vs H Q E h=>?_) (fun cdv A outer s H vs Q E hr h=>?_)
 . obtain ⟨x,d,rfl,_⟩:=h
   rfl
 . obtain ⟨x,d,rfl,hd,q⟩:=h
   refine ⟨_,(aB (cP (dN (Bc (aJ lH hr rfl lJ lK lM .nil aW (aj (pV 0) (aj aC ak))))) (aG (aZ je)) bH) (aB (vH (pV 0) (eU rfl (aR (aH (i:=1) kE.nd rfl (acz rfl)) (aR (aH (i:=2) kE.nd rfl (acz rfl)) (aR (aH (i:=3) kE.nd rfl (acz rfl)) (aR (aH (i:=4) kE.nd rfl (acz rfl)) dg)))))) (aB (cP (vQ (dN (Bc (aJ tu hr rfl tD tE tG .nil aW (aj (pV 1) ak)))) (pw_or1 (dN (Bc (aJ tu hr rfl tD tE tG .nil aW (aj (pV 2) ak)))))) (aG (aZ je)) bH) (aB (cP (vQ (dN (Bc (aJ oK hr rfl oM k_whole oN .nil aW (aj (pV 3) ak)))) (pw_or1 (oZ oLt (pV 3) aC (bL _)))) (aG (aZ je)) bH) (aG (aZ (agt (iQ Zg (pV 4) O9 (bL _)) (kW (mJ (aJ oK hr rfl oM k_whole oN .nil aW (aj (pV 4) ak)) (kW (iQ oGe (pV 4) (pV 3) (bL _)))))))))))),?_⟩
   refine ⟨x,d,4,rfl,hd,?_⟩
   have no:∀ d',lB d' 4=false->dW d'=false:=fun d' h=>by
     cases d' with
     | tup xs =>
       match xs,h with
       | [],_=>rfl
       | [_],_=>rfl
       | [_,_],_=>rfl
       | [_,_,_],_=>rfl
       | [_,_,_,_],h=>cases h
       | _ :: _ :: _ :: _ :: _ :: _,_=>rfl
     | _=>rfl
   cases e:lB d 4 with
   | false =>
     have z:=q H (Same.refl H)
     rw [no d e] at z
     exact z
   | true =>
     cases d with
     | tup xs =>
       refine aX fun eG aK=>?_
       obtain ⟨a,vs,agZ,ha,Ym,r⟩:=hd.pB
       subst aK
       subst agZ
       refine aX fun eG aK=>?_
       obtain ⟨y1,y2,y3,y4,ag0⟩:=acv (of_decide_eq_true e)
       subst aK
       subst ag0
       refine aX fun eG aK=>?_
       obtain ⟨v1,v2,v3,v4,ag1,h1,h2,h3,h4⟩:=r.four
       subst aK
       subst ag1
       refine ⟨a,_,rfl,bA.of ha,rfl,_,_,rfl,_,_,rfl,_,_,rfl,_,_,rfl,rfl,?_⟩
       refine aX fun eG aK=>?_
       obtain ⟨th1,_,_,n1⟩:=h1.kind (K:=K)
       subst aK
       refine ⟨_,rfl,th1,fun H1 s1=>?_⟩
       rw [n1]
       have q:∀ H',Same H H'->Q (.bl (pC y1 && (pC y2 && (gP y3 && (decide (1<=intD y3) && JC (intD y3) y4))))) H':=q
       cases e1:pC y1 with
       | false=>rw [e1] at q; exact q H1 s1
       | true =>
         rw [e1,aeK] at q
         refine aX fun eG aK=>?_
         obtain ⟨th2,_,_,n2⟩:=(h2.same s1).kind (K:=K)
         subst aK
         refine ⟨_,rfl,th2,fun H2 s2=>?_⟩
         rw [n2]
         have S:=s1.trans s2
         cases e2:pC y2 with
         | false=>rw [e2] at q; exact q H2 S
         | true =>
           rw [e2,aeK] at q
           refine aX fun eG aK=>?_
           obtain ⟨th3,_,w3,_⟩:=(h3.same S).kind (K:=K)
           subst aK
           refine ⟨_,rfl,th3,?_⟩
           rw [w3]
           cases e3:gP y3 with
           | false=>rw [e3] at q; exact q H2 S
           | true =>
             rw [e3,aeK] at q
             cases h3 with
             | int i3 =>
               refine gO (fun z=>?_) (fun z=>?_)
               . have z':decide (1<=intD (.int i3))=false:=decide_eq_false (by have:=of_decide_eq_true z; show ¬ (1:Int)<=i3; omega)
                 rw [z',amh] at q
                 exact q H2 S
               . have z':decide (1<=intD (.int i3))=true:=decide_eq_true (by
                   have:¬ i3<1:=fun w=>z (decide_eq_true w)
                   show (1:Int)<=i3; omega)
                 rw [z',aeK] at q
                 refine ⟨rfl,?_⟩
                 refine aX fun eG aK=>?_
                 obtain ⟨th4,_,w4,_⟩:=(h4.same S).kind (K:=K)
                 subst aK
                 cases h4 with
                 | non=>exact q H2 S
                 | int i4 =>
                   refine ⟨_,rfl,th4,?_⟩
                   exact q H2 S
                 | bl b4=>exact ⟨_,rfl,th4,q H2 S⟩
                 | str z4 hz4=>exact ⟨_,rfl,th4,q H2 S⟩
                 | tup g1 g2 g3=>exact ⟨_,rfl,th4,q H2 S⟩
                 | lst g1=>exact ⟨_,rfl,th4,q H2 S⟩
                 | dic g1=>exact ⟨_,rfl,th4,q H2 S⟩
             | _=>cases e3
     | _=>cases e
theorem iG:bB ["thing","houses","owners","sent","taken","least","most"] ["thing","houses"] (au gY):=⟨rfl,rfl,rfl,by decide +kernel,rfl,by decide +kernel,by decide +kernel⟩
theorem Hw {f wR jy jx:abm} {fd zL kj j8:aeF} (F:lX K "are_letters" "are_letters" gY f fd) (T:Txt mg t8 t6 tR tL)
   (Ro:aV P w K mg base cG 2 wR zL ["thing"] (Bo dW)) (Rp:mg "is_letter" = some (.ref wR)) (Rq:aaw K (.ref wR)=true) (Rr:Binds K zL ["thing"] [])
   (wL:aV P w K mg base cG 2 jy kj ["house"] q9) (wM:mg "rows_in" = some (.ref jy)) (wN:aaw K (.ref jy)=true) (wO:Binds K kj ["house"] [])
   (wH:aV P w K mg base cG 2 jx j8 ["values"] qY) (wI:mg "is_rising" = some (.ref jx)) (wJ:aaw K (.ref jx)=true) (wK:Binds K j8 ["values"] []):aV P w K mg base cG 3 f fd ["thing","houses"] sJ:=by
 refine F.ok iG (fun vs H Q E h=>?_) (fun cdv A outer s H vs Q E hr h=>?_)
 . obtain ⟨x,y,hs,d,rfl,_⟩:=h
   rfl
 . obtain ⟨x,y,hs,da,rfl,hda,⟨d,ws,rfl,hd,ph⟩,gh,q⟩:=h
   have mq:sizeLine=16777216:=acO
   have ag2:=ph.length
   have h6:=gh.hi
   obtain ⟨_,⟨T',ty,kt⟩,_⟩:=hda.kind (K:=K)
   refine ⟨_,(aB (cP (vQ (dN (Bc (aO gU rfl T.V9 aeH (aj (pV 0) (aj (jg (v:=.ty "tuple") rfl T.tuple abU rfl) ak))))) (pw_or1 (oZ oGt (aO bx rfl T.len ad4 (aj (pV 0) ak)) (uV (v:=.int 24) rfl T.acD ⟨_,rfl⟩) (bL _)))) (aG (aZ je)) bH) (aB (cP (dN (Bc (aO (jr rfl) rfl T.all afG (aj (cA (eY:=au gY) (own:=["letter"]) (cap:=[]) (ix:=[]) rfl rfl ⟨rfl,by decide +kernel,by decide +kernel,by decide +kernel,rfl,by decide +kernel⟩ (cI (pV 0)) (fun b=>(aH (i:=0) (show (["letter"]:List Str).Nodup by decide +kernel) rfl (acz rfl))) (fun b=>bM) (fun b=>(aJ Ro hr rfl Rp Rq Rr .nil aW (aj (pV 0) ak)))) ak)))) (aG (aZ je)) bH) (aB (Dy (i:=2) iG.nd rfl rfl (eY:=au gY) (own:=["house","row","reading"]) (cap:=[]) (ix:=[]) rfl rfl ⟨rfl,by decide +kernel,by decide +kernel,by decide +kernel,rfl,by decide +kernel⟩ (cI (pV 1)) (fun b=>(aH (i:=0) (show (["house","row","reading"]:List Str).Nodup by decide +kernel) rfl (acz rfl))) (fun b=>bM) (fun b=>iM (aJ wL hr rfl wM wN wO .nil aW (aj (pV 0) ak))) (fun b=>(eU rfl (aR (aH (i:=1) (show (["house","row","reading"]:List Str).Nodup by decide +kernel) rfl (acz rfl)) (aR (aH (i:=2) (show (["house","row","reading"]:List Str).Nodup by decide +kernel) rfl (acz rfl)) dg)))) (fun b=>bM) (fun b=>pV 1) (fun b=>(bG dO (pV 0) aC (fun _ _=>rfl)))) (aB (gC aeZ rfl (cI (pV 0)) (eU rfl (aR (aH (i:=3) iG.nd rfl (acz rfl)) (aR (aH (i:=4) iG.nd rfl (acz rfl)) (aR (aH (i:=5) iG.nd rfl (acz rfl)) (aR (aH (i:=6) iG.nd rfl (acz rfl)) dg))))) (aG (cP (vQ (Av (yV (iu hr) (pV 3) (pV 2))) (pw_or (Av (yV (iu hr) (pV 4) (pV 2))) (pw_or1 (oZ agI (jC (iu hr) (pV 2) (pV 3) (fun _ _=>rfl)) (jC (iu hr) (pV 2) (pV 4) (fun _ _=>rfl)) (bL _))))) (aG (aZ je)) bH))) (aG (aZ (aJ wH hr rfl wI wJ wK .nil aW (aj (cA (eY:=au gY) (own:=["letter"]) (cap:=[]) (ix:=[]) rfl rfl ⟨rfl,by decide +kernel,by decide +kernel,by decide +kernel,rfl,by decide +kernel⟩ (cI (pV 0)) (fun b=>(aH (i:=0) (show (["letter"]:List Str).Nodup by decide +kernel) rfl (acz rfl))) (fun b=>bM) (fun b=>(cT Py (pV 0) fU (Bf aC)))) ak)))))))),?_⟩
   refine ⟨_,_,_,_,rfl,ty,kt,?_⟩
   cases da with
   | tup xs =>
     refine aX fun eG aK=>?_
     obtain ⟨c,vs,ag3,hc,l25,r⟩:=hda.pB
     subst aK
     subst ag3
     have len:=r.len
     have q:∀ H',Same H H'->Q (.bl (decide (xs.length<=24) && (xs.all dW && (xs.all (pJ hs) && zu (xs.map keyOf))))) H':=q
     refine ⟨c,vs,rfl,.inr (bA.of hc),?_⟩
     refine gO (fun z=>?_) (fun z=>?_)
     . rw [decide_eq_false (show ¬ xs.length<=24 by have:=of_decide_eq_true z; omega)] at q
       exact q H (Same.refl H)
     rw [decide_eq_true (show xs.length<=24 by
       have:¬ (24:Int)<(vs.length:Int):=fun w=>z (decide_eq_true w)
       omega),aeK] at q
     refine ⟨c,rfl,⟨_,bA.of hc⟩,fun D hD=>comp_map (xs:=vs) (ys:=(xs.map dW).map V.bl) hD (bA.of hc) (by omega) (by rw [aao,aao]; omega) (fun i x H' hx s2 b R hR=>?_) (fun H1 s1 e=>?_)⟩
     . obtain ⟨y,hy,ya⟩:=r.get hx
       exact ⟨x,y,rfl,ya.same s2,fun eV s=>hR eV _ (by rw [aaJ,aaJ,hy]; rfl) s⟩
     refine ⟨D,_,rfl,bY.of e,?_⟩
     rw [Bq]
     cases ea:xs.all dW with
     | false=>rw [ea] at q; exact q H1 s1
     | true =>
     rw [ea,aeK] at q
     have hc1:=s1 _ _ hc
     have hd1:=s1 _ _ hd
     refine ⟨d,rfl,⟨_,bA.of hd1⟩,fun O hO=>⟨WS ws.length (PvH O hs H1),Yl ⟨none,none,none,[],rfl,ao,abV _,fun n=>rfl,(Same.refl H1).upd hO⟩,fun b=>sG (xs:=ws) _ (fun i σ H' _ hz7=>by obtain ⟨_,_,_,_,_,_,_,_,G⟩:=hz7; exact bA.of (G _ _ hd1)) (fun σ H2 hz8=>?_) (fun i x σ H' hx hi hz9=>?_)⟩⟩
     . refine aX fun eG aK=>?_
       obtain ⟨_,_,_,kvs,_,eO,kl,ow,s2⟩:=hz8
       subst aK
       rw [ag2,adi] at kl ow
       have hc2:=s2 _ _ hc1
       have S2:Same H H2:=s1.trans s2
       have Yp:∀ (i:Nat) (y:Da),xs[i]?=some y->∃ s t l m,y=.tup [.str s,.str t,.int l,m]:=fun i y hy=>DP (acL.mp ea y (abg hy))
       refine ⟨c,rfl,⟨_,bA.of hc2⟩,jB (xs:=vs) (PvI c d O hs xs H2) ⟨rfl,rfl,none,none,none,none,rfl⟩ (fun i σ H' _ hz7=>by obtain ⟨e',_⟩:=hz7; rw [e']; exact bA.of hc2) (fun i x σ H' hx hz8=>?_) (fun σ H' hz9=>?_)⟩
       . refine aX fun eG aK=>?_
         obtain ⟨e',al,o3,o4,o5,o6,eσ⟩:=hz8
         subst aK
         have e2':=e'.symm
         subst e2' eσ
         obtain ⟨y,hy,ya⟩:=r.get hx
         refine aX fun eG aK=>?_
         obtain ⟨s,t,l,m,ag6⟩:=Yp i y hy
         subst aK
         subst ag6
         refine aX fun eG aK=>?_
         obtain ⟨a1,us,ag7,g1,_,ru⟩:=(ya.same S2).pB
         subst aK
         subst ag7
         refine aX fun eG aK=>?_
         obtain ⟨_,_,_,u4,ag8,q1,q2,q3,q4⟩:=ru.four
         subst aK
         subst ag8
         cases q1
         cases q2
         cases q3
         have bad:pJ hs (.tup [.str s,.str t,.int l,m])=false->Q (.bl false) H2:=fun hb=>by
           have w:=q H2 S2
           have:xs.all (pJ hs)=false:=by
             rw [List.all_eq_false]
             exact ⟨_,abg hy,by rw [hb]; decide⟩
           rw [this,amh] at w
           exact w
         have eo:pJ hs (.tup [.str s,.str t,.int l,m])=(match lY (pairsOf hs) s,lY (pairsOf hs) t with | some a,some b=>!decide (a=b) | _,_=>false):=rfl
         refine ⟨a1,_,rfl,bA.of g1,rfl,_,_,rfl,_,_,rfl,_,_,rfl,_,_,rfl,rfl,?_⟩
         refine ⟨O,_,rfl,iW.k (k:=adz s) eO,_,rfl,?_⟩
         rw [ow s]
         cases e1:lY (pairsOf hs) s with
         | none=>exact bad (by rw [eo,e1])
         | some n1 =>
           refine ⟨O,_,rfl,iW.k (k:=adz t) eO,_,rfl,?_⟩
           rw [ow t]
           cases e2:lY (pairsOf hs) t with
           | none=>exact bad (by rw [eo,e1,e2])
           | some n2 =>
             have w1:cJ kvs (.inr s)=some (.str n1):=by rw [ow s,e1]; rfl
             have w2:cJ kvs (.inr t)=some (.str n2):=by rw [ow t,e2]; rfl
             refine ⟨O,_,rfl,w1 ▸ iW.k (k:=adz s) eO,?_⟩
             refine ⟨O,_,rfl,w2 ▸ iW.k (k:=adz t) eO,?_⟩
             refine gO (fun z=>?_) (fun z=>?_)
             . refine bad ?_
               rw [eo,e1,e2]
               show (!decide (n1=n2))=false
               rw [z]; rfl
             . refine ⟨rfl,?_,_,_,_,_,rfl⟩
               rw [abj,hy,List.all_append,al,aeK]
               show (pJ hs _ && true)=true
               rw [eo,e1,e2,Bool.and_true]
               show (!decide (n1=n2))=true
               rw [(Bool.not_eq_true _).mp z]; rfl
       . refine aX fun eG aK=>?_
         obtain ⟨e',al,o3,o4,o5,o6,eσ⟩:=hz9
         subst aK
         have e2':=e'.symm
         subst e2' eσ
         rw [adN (by omega)] at al
         rw [al,aeK] at q
         refine ⟨c,rfl,⟨_,bA.of hc2⟩,fun D2 hD2=>jt (xs:=vs) (PvJ D2 xs H2) ⟨[],⟨ao,Same.refl _⟩,(Same.refl H2).upd hD2,.nil⟩ (fun i H' _ ag9=>by obtain ⟨_,_,s3,_⟩:=ag9; exact bA.of (s3 _ _ hc2)) (fun H3 aha=>?_) (fun i x H3 hx hi ahb b=>?_)⟩
         . refine aX fun eG aK=>?_
           obtain ⟨as,G,s3,pa⟩:=aha
           subst aK
           have e4:(xs.map keyOf).take vs.length=xs.map keyOf:=adN (by rw [aao]; omega)
           rw [e4] at pa
           have l4:=pa.length
           rw [aao] at l4
           refine ⟨D2,_,_,rfl,G.at',by rw [aao]; omega,.inr ⟨as,xs.map keyOf,rfl,pa,rfl⟩,fun H4 s4=>?_⟩
           exact q H4 ((S2.trans s3).trans s4)
         . refine aX fun eG aK=>?_
           obtain ⟨as,G,s3,pa⟩:=ahb
           subst aK
           obtain ⟨y,hy,ya⟩:=r.get hx
           refine aX fun eG aK=>?_
           obtain ⟨s,t,l,m,ahc⟩:=Yp i y hy
           subst aK
           subst ahc
           refine aX fun eG aK=>?_
           obtain ⟨a1,us,ahd,g1,_,ru⟩:=(ya.same (S2.trans s3)).pB
           subst aK
           subst ahd
           refine aX fun eG aK=>?_
           obtain ⟨_,_,_,u4,ahe,q1,q2,q3,q4⟩:=ru.four
           subst aK
           subst ahe
           cases q1
           cases q2
           cases q3
           have l4:=pa.length
           rw [abo,aao] at l4
           refine ⟨a1,_,rfl,bA.of g1,by show ¬ ((0:Nat)=0/\(2:Nat)=4); decide,fun p hp=>?_⟩
           have nD:D2≠p:=fun z=>by subst z; rw [G.at'] at hp; cases hp
           refine ⟨as.map V.ref,by rw [aF nD]; exact G.at',by rw [aao]; omega,nx hi ⟨as++[p],?_,?_,?_⟩⟩
           . rw [abt]; exact ⟨ao,Same.refl _⟩
           . intro b' o' e'
             rw [aF (aD e' hD2)]
             exact ((Same.refl H3).upd hp) _ _ (s3 _ _ e')
           . rw [abj,aaJ,hy]
             refine aM (aq (fun a k (z:H3 a=some (.tup ((kP k).map kV)))=>?_) pa) (.cons ?_ .nil)
             . have na:a≠D2:=fun y=>by subst y; rw [G.at'] at z; cases z
               rw [aF na,aF (aD z hp)]; exact z
             . rw [aF (afv nD),ao]; rfl
     . refine aX fun eG aK=>?_
       obtain ⟨o1,o2,o3,kvs,e',eO,kl,ow,s2⟩:=hz9
       subst aK
       subst e'
       obtain ⟨h,hh',ha⟩:=aL ph hx
       have gh1:=gh.all h (abg hh')
       refine ⟨x,h,rfl,ha.ts (s1.trans s2).tups,gh1,fun l zs H3 hl el s3 pz=>?_⟩
       have nlO:l≠O:=fun z=>by subst z; rw [eO] at hl; cases hl
       have nd:(pairsOf (hs.take i)++cO h).map adB |>.Nodup:=by
         have z:=gh.rows
         rw [<- iY] at z
         have z2:pairsOf (hs.take (i+1))=pairsOf (hs.take i)++cO h:=by
           unfold pairsOf
           rw [abj,hh',aeJ]
           simp
         rw [<- z2]
         have z3:(pairsOf hs)=pairsOf (hs.take (i+1))++pairsOf (hs.drop (i+1)):=by
           unfold pairsOf
           rw [<- aeJ,agv]
         rw [z3,abt] at z
         exact (aeS.mp z).1
       refine ⟨l,rfl,⟨_,bY.of el⟩,WS zs.length (PvK x O l hs h i zs H1 H3),Yl ⟨o2,o3,kvs,rfl,s3 _ _ eO,by simpa using kl,by simpa using ow,s2.trans s3,el,bZ.refl _⟩,Jy (xs:=zs) _ (fun j σ eV _ ahf=>by obtain ⟨_,_,_,_,_,_,_,_,e',_⟩:=ahf; exact bY.of e') (fun σ eV ⟨o2',o3',kvs',e',eO',kl',ow',s',_,_⟩=>nxs hi ⟨_,_,_,kvs',e',eO',?_,?_,s'⟩) (fun j y σ eV hy hj ahg=>?_)⟩
       . have z2:pairsOf (hs.take (i+1))=pairsOf (hs.take i)++cO h:=by
           unfold pairsOf
           rw [abj,hh',aeJ]
           simp
         rw [show (cO h).take zs.length=cO h from adN (by rw [pz.length]; unfold cO; rw [aao]; exact aav _)] at kl'
         rw [z2]; exact kl'
       . have z2:pairsOf (hs.take (i+1))=pairsOf (hs.take i)++cO h:=by
           unfold pairsOf
           rw [abj,hh',aeJ]
           simp
         rw [show (cO h).take zs.length=cO h from adN (by rw [pz.length]; unfold cO; rw [aao]; exact aav _)] at ow'
         rw [z2]; exact ow'
       . refine aX fun eG aK=>?_
         obtain ⟨o2',o3',kvs',e',eO',kl',ow',s',el',t'⟩:=ahg
         subst aK
         subst e'
         obtain ⟨rr,hrr,ra⟩:=aL pz hy
         obtain ⟨ra1,rfl,ra2⟩:=ra.ts t'
         have hp:(cO h)[j]?=some (rr.1,h.name):=by unfold cO; rw [aaJ,hrr]; rfl
         refine aX fun eG aK=>?_
         obtain ⟨xa,xb,ahh,xg,_⟩:=ha.ts (s1.trans s').tups
         subst aK
         subst ahh
         refine ⟨ra1,_,rfl,bA.of ra2,rfl,_,_,rfl,_,_,rfl,rfl,?_⟩
         refine bV (bA.of xg) (i:=0) (v:=.str h.name) (by rfl) ?_
         have ap:pairsOf (hs.take i)++(cO h).take (j+1)=(pairsOf (hs.take i)++(cO h).take j)++[(rr.1,h.name)]:=by
           rw [abj,hp,aeX]; rfl
         have big:(pairsOf (hs.take i)++(cO h).take j).length<=24:=by
           have z:=gh.few
           rw [<- iY,aao] at z
           have z2:(pairsOf hs)=pairsOf (hs.take i)++(cO h++pairsOf (hs.drop (i+1))):=by
             unfold pairsOf
             have e1:hs=hs.take i++(h :: hs.drop (i+1)):=by
               obtain ⟨li,fi⟩:=acZ.mp hh'
               rw [<- fi,aiF,agv]
             conv=>lhs; rw [e1]
             rw [aeJ,aox]
           rw [z2,abe,abe] at z
           rw [abe,abo]
           omega
         refine ⟨kvs',adz rr.1,eO',rfl,by omega,nxs hj ⟨_,_,_,rfl,ao,?_,?_,?_,?_,t'.put eO' (fun _ z=>nomatch z)⟩⟩
         . have z:=dH kvs' (adz rr.1) (V.str h.name)
           rw [ap,abe]
           exact adS z (ahU kl' 1)
         . rw [ap]
           refine Ly.put (p:=(rr.1,h.name)) ow' fun p hp' z=>?_
           have Wv:((pairsOf (hs.take i)++(cO h).take j)++[(rr.1,h.name)]).map adB |>.Nodup:=by
             rw [<- ap]
             refine List.Sublist.nodup ?_ nd
             exact (List.Sublist.append (amW _) (agU _ _)).map _
           rw [abt] at Wv
           exact (aeS.mp Wv).2.2 p.1 (abv hp') rr.1 (by simp) z
         . intro b' o' e'
           rw [aF (aD e' hO)]; exact s' _ _ e'
         . rw [aF nlO]; exact el'
   | _=>exact q H (Same.refl H)
theorem Mr:bB ["thing"] ["thing"] (au oG):=⟨rfl,rfl,rfl,by decide +kernel,rfl,by decide +kernel,by decide +kernel⟩
theorem Ms {f dZ wU tH:abm} {fd fQ zM wV:aeF} (F:lX K "is_ledger" "is_ledger" oG f fd)
   (lH:aV P w K mg base cG 5 dZ fQ ["thing","many"] oh) (lJ:mg "has_parts" = some (.ref dZ)) (lK:aaw K (.ref dZ)=true) (lM:Binds K fQ ["thing","many"] [])
   (Rt:aV P w K mg base cG 5 wU zM ["thing"] (Bo jk)) (Ru:mg "are_houses" = some (.ref wU)) (Rv:aaw K (.ref wU)=true) (Rw:Binds K zM ["thing"] [])
   (Mt:aV P w K mg base cG 5 tH wV ["thing","houses"] sJ) (Mu:mg "are_letters" = some (.ref tH)) (Mv:aaw K (.ref tH)=true) (Mw:Binds K wV ["thing","houses"] []):aV P w K mg base cG 6 f fd ["thing"] (Bo ou):=by
 refine F.ok Mr (fun vs H Q E h=>?_) (fun cdv A outer s H vs Q E hr h=>?_)
 . obtain ⟨x,d,rfl,_⟩:=h
   rfl
 . obtain ⟨x,d,rfl,hd,q⟩:=h
   refine ⟨_,(aG (aZ (mJ (aJ lH hr rfl lJ lK lM .nil aW (aj (pV 0) (aj aC ak))) (mJ (aJ Rt hr rfl Ru Rv Rw .nil aW (aj (bG dO (pV 0) aC (fun _ _=>rfl)) ak)) (kW (aJ Mt hr rfl Mu Mv Mw .nil aW (aj (bG dO (pV 0) aC (fun _ _=>rfl)) (aj (bG dO (pV 0) aC (fun _ _=>rfl)) ak)))))))),?_⟩
   refine ⟨x,d,2,rfl,hd,?_⟩
   have no:∀ d',lB d' 2=false->ou d'=false:=fun d' h=>by
     cases d' with
     | tup xs =>
       match xs,h with
       | [],_=>rfl
       | [_],_=>rfl
       | [_,_],h=>cases h
       | _ :: _ :: _ :: _,_=>rfl
     | _=>rfl
   cases e:lB d 2 with
   | false =>
     have z:=q H (Same.refl H)
     rw [no d e] at z
     exact z
   | true =>
     cases d with
     | tup xs =>
       refine aX fun eG aK=>?_
       obtain ⟨a,vs,ahi,ha,Ym,r⟩:=hd.pB
       subst aK
       subst ahi
       obtain ⟨y,z,rfl⟩:=len2 (of_decide_eq_true e)
       refine aX fun eG aK=>?_
       obtain ⟨v1,v2,ahj,h1,h2⟩:=r.two
       subst aK
       subst ahj
       have q:∀ H',Same H H'->Q (.bl (jk y && mW (mV y) z)) H':=q
       refine bV (bA.of ha) (i:=0) (v:=v1) (by rfl) ?_
       refine ⟨v1,y,rfl,h1,fun H1 s1=>?_⟩
       cases e1:jk y with
       | false=>rw [e1] at q; exact q H1 s1
       | true =>
         rw [e1,aeK] at q
         have ha1:=s1 _ _ ha
         refine bV (bA.of ha1) (i:=1) (v:=v2) (by rfl) ?_
         refine bV (bA.of ha1) (i:=0) (v:=v1) (by rfl) ?_
         have gh:fM H1 v1 (mV y)/\cY (mV y):=by
           cases y with
           | tup ys =>
             refine aX fun eG aK=>?_
             obtain ⟨c,ws,ahk,hc,_,rr⟩:=(h1.same s1).pB
             subst aK
             subst ahk
             simp only [jk,afr,decide_eq_true_iff] at e1
             refine aX fun eG aK=>?_
             obtain ⟨w1,w2,w3,w4,w5,w6⟩:=e1
             subst aK
             obtain ⟨p1,p2⟩:=sI rr w3
             exact ⟨⟨c,ws,rfl,hc,p1⟩,by show 1<=(ys.map bI).length; rw [aao]; exact w1,by show (ys.map bI).length<=6; rw [aao]; exact w2,p2,w4,w5,w6⟩
           | _=>cases e1
         refine ⟨v2,v1,mV y,z,rfl,h2.same s1,gh.1,gh.2,fun H2 s2=>?_⟩
         exact q H2 (s1.trans s2)
     | _=>cases e
end
end mz
namespace mz
open PySem L2 gF
def offs (rs:List Row) (m:Str->Int):List Int:=rs.map fun r=>r.2-m r.1
def jO (rs:List Row) (d:Int) (m:Str->Int):Bool:=decide (∀ a∈offs rs m,∀ b∈offs rs m,a-b<=d)
def Mx (h:aA) (m:Str->Int) (r:Row):Bool:=decide (h.low<=r.2-m r.1) && decide (r.2-m r.1<=h.high)
def lZ (m:Str->Int) (p:Str × Str):Bool:=decide (1<=m p.2-m p.1)
def wW (h:aA) (m:Str->Int):Bool:=(jf h).all (Mx h m) && (((bT h).zip ((bT h).drop 1)).all (lZ m) && h.runs.all fun r=>jO r h.aQ m)
def JR (l:Letter) (m:Str->Int):Bool:=decide (l.2.1<=m l.1.2-m l.1.1) && (match l.2.2 with | none=>true | some z=>decide (m l.1.2-m l.1.1<=z))
def qp (m:Str->Int):List Str->Bool
 | a :: b :: r=>lZ m (a,b) && qp m (b :: r)
 | _=>true
theorem JT (m:Str->Int):∀ l:List Str,(l.zip (l.drop 1)).all (lZ m)=qp m l
 | []=>rfl
 | [_]=>rfl
 | a :: b :: r=>by
   have z:=JT m (b :: r)
   show (lZ m (a,b) && ((b :: r).zip r).all (lZ m))=(lZ m (a,b) && qp m (b :: r))
   rw [<- z]; rfl
theorem Er (m:Str->Int):∀ (l:List Str) (n:Str),qp m (l++[n])=(qp m l && (match l.getLast? with | none=>true | some a=>lZ m (a,n)))
 | [],n=>rfl
 | [a],n=>by simp [qp]
 | a :: b :: r,n=>by
   have z:=Er m (b :: r) n
   show (lZ m (a,b) && qp m ((b :: r)++[n]))=_
   rw [z,List.getLast?_cons_cons]
   show _=(lZ m (a,b) && qp m (b :: r) && _)
   rw [Bool.and_assoc]
theorem qt {h:aA} {m:Str->Int}:wW h m=true↔(∀ r∈jf h,Mx h m r=true)/\qp m (bT h)=true/\∀ r∈h.runs,jO r h.aQ m=true:=by
 unfold wW
 rw [afr,afr,JT,acL,acL]
def intOf:V->Int
 | .int i=>i
 | _=>0
def gA (kvs:List (Key × V)) (n:Str):Int:=match cJ kvs (.inr n) with | some v=>intOf v | none=>0
theorem JV {kvs:List (Key × V)} {n:Str} {i:Int} (h:cJ kvs (.inr n)=some (.int i)):gA kvs n=i:=by unfold gA; rw [h]; rfl
theorem Es {kvs:List (Key × V)} {n x:Str} {i:Int}:gA (putK kvs (.inr n) (.int i)) x=if x=n then i else gA kvs x:=by
 unfold gA
 rw [qQ]
 by_cases e:x=n
 . rw [if_pos e,if_pos (by rw [e])]; rfl
 . rw [if_neg e,if_neg (fun z=>e (afA z))]
theorem Mz {a b:List (Key × V)} {n:Str} {i:Int} (h:cJ a (.inr n)=some (.int i)):gA (a++b) n=gA a n:=by
 unfold gA; rw [wA,h]; rfl
theorem MF {a b:List (Key × V)} {n:Str} (h:cJ a (.inr n)=none):gA (a++b) n=gA b n:=by
 unfold gA; rw [wA,h]; rfl
theorem wX {m m':Str->Int}:∀ {l:List Str},(∀ n∈l,m n=m' n)->qp m l=qp m' l
 | [],_=>rfl
 | [_],_=>rfl
 | a :: b :: r,h=>by
   show (lZ m (a,b) && qp m (b :: r))=(lZ m' (a,b) && qp m' (b :: r))
   rw [wX (l:=b :: r) fun n hn=>h n (aaM _ hn)]
   unfold lZ
   rw [h a aaU,h b (aaM _ aaU)]
theorem Rx {m m':Str->Int} {rs:List Row} (h:∀ r∈rs,m r.1=m' r.1):offs rs m=offs rs m':=by
 unfold offs
 exact afa fun r hr=>by rw [h r hr]
theorem wY {m m':Str->Int} {rs:List Row} {d:Int} (h:∀ r∈rs,m r.1=m' r.1):jO rs d m=jO rs d m':=by
 unfold jO; rw [Rx h]
theorem zO {h:aA} {m m':Str->Int} (e:∀ n∈bT h,m n=m' n):wW h m=wW h m':=by
 rw [aeU,qt,qt,wX e]
 have er:∀ r∈jf h,m r.1=m' r.1:=fun r hr=>e _ (abv hr)
 have ed:∀ r∈h.runs,jO r h.aQ m=jO r h.aQ m':=fun r hr=>wY fun q hq=>er q (aiu.mpr ⟨r,hr,hq⟩)
 have e2:∀ r∈jf h,Mx h m r=Mx h m' r:=fun r hr=>by unfold Mx; rw [er r hr]
 exact ⟨fun ⟨a,b,c⟩=>⟨fun r hr=>(e2 r hr) ▸ a r hr,b,fun r hr=>(ed r hr) ▸ c r hr⟩,fun ⟨a,b,c⟩=>⟨fun r hr=>(e2 r hr).symm ▸ a r hr,b,fun r hr=>(ed r hr).symm ▸ c r hr⟩⟩
theorem Et {one other:Str} {m:Str->Int} {g1 g2 lst:Int} {mo:Option Int} (e1:m one=g1) (e2:m other=g2) (h1:lst<=g2-g1) (h2:∀ x,mo=some x->g2-g1<=x):JR ((one,other),lst,mo) m=true:=by
 unfold JR
 dsimp only
 rw [e1,e2,decide_eq_true h1]
 cases mo with
 | none=>rfl
 | some x=>exact decide_eq_true (h2 x rfl)
def Gf (low wide aQ off:Int) (M:Str->Int) (mo:Int) (runs:List (List Row)) (rs:List Row):Prop :=
 (∀ r∈runs.flatten++rs,low<=r.2-M r.1/\r.2-M r.1<=low+wide/\M r.1<=mo/\-20<=M r.1)/\qp M ((runs.flatten++rs).map adB)=true/\(∀ r∈runs,jO r aQ M=true) /\
 ∀ r∈rs,r.2-M r.1=off∨(r.2-M r.1=off+1/\0<aQ/\off+1<=low+wide)
def BR (low wide aQ off mo:Int) (rd:Int):Prop:=rd=mo+off∨(rd=mo+off+1/\0<aQ/\off+1<=low+wide)
section
variable {low wide aQ off mo:Int} {M:Str->Int} {runs:List (List Row)} {rs:List Row}
theorem Ry:Gf low wide aQ off M mo [] []:=⟨fun r hr=>by simp at hr,rfl,fun r hr=>by simp at hr,fun r hr=>by simp at hr⟩
theorem JW {o:Int} (h:Gf low wide aQ off M mo runs []):Gf low wide aQ o M mo runs []:=⟨h.1,h.2.1,h.2.2.1,fun r hr=>by simp at hr⟩
theorem Eu {Ew:Int} (h:Gf low wide aQ off M mo runs rs) (l:mo<=Ew):Gf low wide aQ off M Ew runs rs:=⟨fun r hr=>by have:=h.1 r hr; omega,h.2⟩
theorem Rz (h:Gf low wide aQ off M mo runs rs) (d0:0<=aQ):jO rs aQ M=true:=by
 unfold jO offs
 refine decide_eq_true fun a ha b hb=>?_
 obtain ⟨r,hr,rfl⟩:=abh.mp ha
 obtain ⟨q,hq,rfl⟩:=abh.mp hb
 have:=h.2.2.2 r hr
 have:=h.2.2.2 q hq
 omega
theorem RB {o:Int} (h:Gf low wide aQ off M mo runs rs) (d0:0<=aQ):Gf low wide aQ o M mo (runs++[rs]) []:=by
 have e:(runs++[rs]).flatten++[]=runs.flatten++rs:=by simp
 refine ⟨by rw [e]; exact h.1,by rw [e]; exact h.2.1,fun r hr=>?_,fun r hr=>by simp at hr⟩
 rcases abq.mp hr with z | z
 . exact h.2.2.1 r z
 . rw [abw.mp z]; exact Rz h d0
theorem aam {kvs:List (Key × V)} {n:Str} {rd Ew:Int} (h:Gf low wide aQ off (gA kvs) mo runs rs) (lt:mo+1<=Ew) (l20:-20<=Ew) (nn:n ∉ (runs.flatten++rs).map adB) (ok:BR low wide aQ off Ew rd) (o0:low<=off) (o1:off<=low+wide):Gf low wide aQ off (gA (putK kvs (.inr n) (.int Ew))) Ew runs (rs++[(n,rd)]):=by
 have ne:∀ r∈runs.flatten++rs,gA (putK kvs (.inr n) (.int Ew)) r.1=gA kvs r.1:=fun r hr=>by
   rw [Es,if_neg fun z=>nn (abh.mpr ⟨r,hr,z⟩)]
 have nw:gA (putK kvs (.inr n) (.int Ew)) n=Ew:=by rw [Es,if_pos rfl]
 generalize gA (putK kvs (.inr n) (.int Ew))=M' at ne nw
 refine ⟨fun r hr=>?_,?_,fun r hr=>?_,fun r hr=>?_⟩
 . rw [<- aeX] at hr
   rcases abq.mp hr with z | z
   . have:=h.1 r z; rw [ne r z]; omega
   . rw [abw.mp z]; show low<=rd-M' n/\rd-M' n<=low+wide/\M' n<=Ew/\-20<=M' n; rw [nw]; unfold BR at ok; omega
 . rw [<- aeX,abt]
   show qp M' (_++[n])=true
   rw [Er,wX (m':=gA kvs) (fun x hx=>by obtain ⟨r,hr,rfl⟩:=abh.mp hx; exact ne r hr),h.2.1,aeK]
   cases e:((runs.flatten++rs).map adB).getLast? with
   | none=>rfl
   | some a =>
     obtain ⟨r,hr,rfl⟩:=abh.mp (List.mem_of_getLast? e)
     have:=h.1 r hr
     show decide (1<=M' n-M' r.1)=true
     rw [nw,ne r hr]
     exact decide_eq_true (by omega)
 . rw [wY fun q hq=>ne q (afM _ (aiu.mpr ⟨r,hr,hq⟩))]; exact h.2.2.1 r hr
 . rcases abq.mp hr with z | z
   . rw [ne r (acU _ z)]; exact h.2.2.2 r z
   . rw [abw.mp z]; show rd-M' n=off∨_; rw [nw]; unfold BR at ok; omega
theorem Ww {r:Row} {d rd:Int} (h:Gf low wide aQ off M mo runs rs) (hr:r∈rs) (d0:0<=d) (ok:BR low wide aQ off (mo+1+d) rd) (le:rd<=r.2):BR low wide aQ off (mo+1+d) (r.2+1):=by
 have:=h.1 r (acU _ hr)
 have:=h.2.2.2 r hr
 unfold BR at ok ⊢
 omega
theorem Wx (h:Gf low wide aQ off M mo runs []) (l0:-20<=low) (l1:low<=20) (w0:0<=wide) (w1:wide<=300) (m1:mo<=660):∀ r∈runs.flatten,-1000<=r.2/\r.2<=1000:=fun r hr=>by
 have:=h.1 r (afM _ hr)
 omega
theorem aan {nm:Str} (h:Gf low wide aQ off M mo runs []):wW ⟨nm,low,low+wide,aQ,runs⟩ M=true:=by
 have e:runs.flatten++[]=runs.flatten:=by simp
 have h1:=h.1
 have h2:=h.2.1
 rw [e] at h1 h2
 refine qt.mpr ⟨fun r hr=>?_,h2,h.2.2.1⟩
 have:=h1 r hr
 unfold Mx
 rw [afr]
 exact ⟨decide_eq_true this.1,decide_eq_true this.2.1⟩
end
end mz
namespace mz
open PySem L2 gF
structure GoodW (h:aA):Prop extends cQ h where
 narrow:h.high-h.low<=300
 apL:-1000<=h.low
 anr:h.high<=1000
 near:∀ r∈jf h,-1000<=r.2/\r.2<=1000
def tK:Sp:=fun vs H Q _=>∃ (p:abm) (nm:Str) (ln:abm) (ss:List Str) (room:Int),vs=[.ref p,.str nm,.ref ln,.int room]/\bN H p/\Good nm/\H ln=some (.lst (ss.map V.str))/\ss.length<=12/\ss.Nodup/\(∀ s∈ss,Good s) /\
 ∀ (r d:abm) (hv:V) (h:aA) (kvs:List (Key × V)) (m:Nat) (H':Hp),H r=none->H d=none->H' r=some (.tup [hv,.ref d])->bC H' hv h->GoodW h->h.name=nm->bT h=ss.take m->m<=ss.length->((m:Int)<=room∨m=0) ->
   H' d=some (.dK kvs)->kvs.map (·.1)=(ss.take m).map adz->(∀ n∈ss.take m,∃ i:Int,cJ kvs (.inr n)=some (.int i))->bN H' p->aP p H H'->wW h (gA kvs)=true->Q (.ref r) H'
def BW (mo:Int) (m i:Nat):Prop:=-20<=mo/\mo<=60+40 * (m:Int)+5 * (i:Int)
def PwA (p ln R D:abm) (nm:Str) (room low wide aQ:Int) (H:Hp) (ss:List Str):Nat->St->Hp->Prop:=fun i σ H'=>∃ (mo:Int) (m:Nat) (vr:List V) (kvs:List (Key × V)) (runs:List (List Row)) (tM RD Gg Hy Gh:Option V),σ=[some (.ref p),some (.str nm),some (.ref ln),some (.int room),some (.int low),some (.int wide),some (.int aQ),some (.int mo),some (.ref R),some (.ref D),some (.int (m:Int)),tM,RD,Gg,Hy,Gh]/\HS H p R D ss room H' vr kvs runs m/\runs.flatten.map adB=ss.take m/\runs.length<=i/\Gf low wide aQ 0 (gA kvs) mo runs []/\BW mo m i
def PwB (p ln R D L:abm) (nm:Str) (room low wide aQ Hj:Int) (H:Hp) (ss:List Str) (i:Nat) (vr:List V) (runs:List (List Row)):Nat->St->Hp->Prop:=fun j σ eV=>∃ (mo:Int) (m:Nat) (kvs:List (Key × V)) (vl:List V) (rs:List Row) (Hy Gh:Option V),σ=[some (.ref p),some (.str nm),some (.ref ln),some (.int room),some (.int low),some (.int wide),some (.int aQ),some (.int mo),some (.ref R),some (.ref D),some (.int (m:Int)),some (.int (0+(i:Int))),some (.int (low+Hj)),some (.ref L),Hy,Gh]/\HS H p R D ss room eV vr kvs runs m/\eV L=some (.lst vl)/\acN (cM eV) vl rs/\(runs.flatten++rs).map adB=ss.take m/\rs.length<=j/\(rs.map afn).Pairwise (·<·)/\Gf low wide aQ (low+Hj) (gA kvs) mo runs rs/\BW mo m i
section
variable {P:acs} {w:adH} {K:aas} {mg:Str->Option aau} {base:ae9} {t8 t6 tR tL:Tok}
theorem bQ:bB ["_law_pack_here","_law_name","_law_names_here","_law_room","_law_low","_law_wide","_law_drift","_law_moment","_law_runs","_law_hidden","_law_at","_law_turn","_law_off","_law_rows","_law_step","_law_reading"] ["_law_pack_here","_law_name","_law_names_here","_law_room"] (au j6):=⟨rfl,rfl,rfl,by decide +kernel,rfl,by decide +kernel,by decide +kernel⟩
theorem HF {f dY:abm} {fd fG:aeF} (F:lX K "_law_house" "_law_house" j6 f fd) (T:Txt mg t8 t6 tR tL)
   (cB:aV P w K mg base cG 1 dY fG ["_law_pack_here","_law_size"] qb) (cC:mg "_law_take" = some (.ref dY)) (cD:aaw K (.ref dY)=true) (cF:Binds K fG ["_law_pack_here","_law_size"] []):aV P w K mg base cG 2 f fd ["_law_pack_here","_law_name","_law_names_here","_law_room"] tK:=by
 refine F.ok bQ (fun vs H Q E h=>?_) (fun cdv A outer s H vs Q E hr h=>?_)
 . obtain ⟨p,nm,ln,ss,room,rfl,_⟩:=h
   rfl
 . obtain ⟨p,nm,ln,ss,room,rfl,hp,gn,hln,few,nd,gs,q⟩:=h
   have mq:sizeLine=16777216:=acO
   have nln:ln≠p:=fun z=>by
     obtain ⟨n,e,_⟩:=hp
     rw [z,e] at hln
     cases ss with
     | nil=>cases hln
     | cons s ss=>cases hln
   refine ⟨_,(aB (aY (i:=4) bQ.nd rfl (acz rfl) (bJ Lf (aJ cB hr rfl cC cD cF .nil aW (aj (pV 0) (aj aC ak))) aC)) (aB (aY (i:=5) bQ.nd rfl (acz rfl) (bG Lg (cW (aj aC (aj aC (aj aC (aj aC ak))))) (aJ cB hr rfl cC cD cF .nil aW (aj (pV 0) (aj aC ak))) (fun _ _=>rfl))) (aB (aY (i:=6) bQ.nd rfl (acz rfl) (bG Lg (cW (aj aC (aj aC (aj aC (aj aC ak))))) (aJ cB hr rfl cC cD cF .nil aW (aj (pV 0) (aj aC ak))) (fun _ _=>rfl))) (aB (aY (i:=7) bQ.nd rfl (acz rfl) (bJ Lf (aJ cB hr rfl cC cD cF .nil aW (aj (pV 0) (aj aC ak))) aC)) (aB (aY (i:=8) bQ.nd rfl (acz rfl) (cW ak)) (aB (aY (i:=9) bQ.nd rfl (acz rfl) vN) (aB (aY (i:=10) bQ.nd rfl (acz rfl) aC) (aB (gC aeZ rfl (gJ rfl T.range (aj (aJ cB hr rfl cC cD cF .nil aW (aj (pV 0) (aj aC ak))) ak)) (aH (i:=11) bQ.nd rfl (acz rfl)) (aB (aY (i:=12) bQ.nd rfl (acz rfl) (bJ ji (pV 4) (aJ cB hr rfl cC cD cF .nil aW (aj (pV 0) (aj (bJ ji (pV 5) aC) ak))))) (aB (aY (i:=13) bQ.nd rfl (acz rfl) (cW ak)) (aB (gC aeZ rfl (gJ rfl T.range (aj (bJ ji aC (aJ cB hr rfl cC cD cF .nil aW (aj (pV 0) (aj aC ak)))) ak)) (aH (i:=14) bQ.nd rfl (acz rfl)) (aG (cP (Ds (oZ oLt (pV 10) (pV 3) (bL _)) (pw_and1 (oZ oLt (pV 10) (aO bx rfl T.len ad4 (aj (pV 2) ak)) (bL _)))) (aB (aY (i:=7) bQ.nd rfl (acz rfl) (bJ ji (bJ ji (pV 7) aC) (aJ cB hr rfl cC cD cF .nil aW (aj (pV 0) (aj aC ak))))) (aB (aY (i:=15) bQ.nd rfl (acz rfl) (bJ ji (pV 7) (pV 12))) (aB (cP (Ds (oZ (Hi hr.units) (pV 13) (cW ak) (bL _)) (pw_and (oZ oLe (bJ ji (pV 12) aC) (bJ ji (pV 4) (pV 5)) (bL _)) (pw_and (oZ oEq (aJ cB hr rfl cC cD cF .nil aW (aj (pV 0) (aj aC ak))) aC (bL _)) (pw_and1 (oZ oGt (pV 6) aC (bL _)))))) (aG (aY (i:=15) bQ.nd rfl (acz rfl) (bJ ji (pV 15) aC))) bH) (aB (cP (Ds (oZ (Hi hr.units) (pV 13) (cW ak) (bL _)) (pw_and1 (oZ oLe (pV 15) (bG dO (bG Lg (pV 13) (Pq ZL aC) (fun _ _=>rfl)) aC (fun _ _=>rfl)) (bL _)))) (aG (aY (i:=15) bQ.nd rfl (acz rfl) (bJ ji (bG dO (bG Lg (pV 13) (Pq ZL aC) (fun _ _=>rfl)) aC (fun _ _=>rfl)) aC))) bH) (aB (Ba (iu hr) (pV 9) (bG Lg (pV 2) (pV 10) (fun _ _=>rfl)) (pV 7) rfl) (aB (iK (pD ae0 afk afl fV (pV 13) (aj (cN (aj (bG Lg (pV 2) (pV 10) (fun _ _=>rfl)) (aj (pV 15) ak))) ak))) (aG (aY (i:=10) bQ.nd rfl (acz rfl) (bJ ji (pV 10) aC))))))))) bH))) (aB (cP (oZ (Hi hr.units) (pV 13) (cW ak) (bL _)) (aG (iK (pD ae0 afk afl fV (pV 8) (aj (bD bf rfl T.tuple abU (aj (pV 13) ak)) ak)))) bH) (aG (aY (i:=7) bQ.nd rfl (acz rfl) (bJ ji (pV 7) (aJ cB hr rfl cC cD cF .nil aW (aj (pV 0) (aj aC ak))))))))))) (aG (aZ (cN (aj (cN (aj (pV 1) (aj (pV 4) (aj (bJ ji (pV 4) (pV 5)) (aj (pV 6) (aj (bD bf rfl T.tuple abU (aj (pV 8) ak)) ak)))))) (aj (pV 9) ak))))))))))))),?_⟩
   refine cV fun U1 Wy=>?_
   refine ⟨p,41,rfl,hp,by decide,by decide,fun d1 H1 d10 d11 hp1 s1=>?_⟩
   show U1 _ _
   subst Wy
   refine cV fun U2 hU2=>?_
   refine ⟨by show 4<=sizeLine; omega,fun l1 hl1=>?_⟩
   refine ⟨p,4,rfl,hp1.new hl1,by decide,by decide,fun d2 H2 d2a d2b hp2 s2=>?_⟩
   have nl1:l1≠p:=fun z=>by obtain ⟨n,e,_⟩:=hp1; rw [<- z,hl1] at e; cases e
   obtain ⟨wide,ew,w0,w1⟩:=Yo (a:=0) (b:=3) (c:=40) (e:=300) d2a d2b (by decide) (by decide) (by decide) (by decide)
   refine uQ (s2 l1 _ nl1 ao) ew ?_
   show U2 _ _
   subst hU2
   have S2:aP p H H2:=((aP.of (Same.refl H)).trans s1 |>.new hl1).trans s2
   refine cV fun U3 hU3=>?_
   refine ⟨by show 4<=sizeLine; omega,fun l2 hl2=>?_⟩
   refine ⟨p,4,rfl,hp2.new hl2,by decide,by decide,fun d3 H3 d3a d3b hp3 s3=>?_⟩
   have nl2:l2≠p:=fun z=>by obtain ⟨n,e,_⟩:=hp2; rw [<- z,hl2] at e; cases e
   obtain ⟨aQ,ed,dr0,dr1⟩:=Yo (a:=0) (b:=1) (c:=2) (e:=9) d3a d3b (by decide) (by decide) (by decide) (by decide)
   refine uQ (s3 l2 _ nl2 ao) ed ?_
   show U3 _ _
   subst hU3
   have S3:aP p H H3:=(S2.new hl2).trans s3
   refine cV fun U4 hU4=>?_
   refine ⟨p,60,rfl,hp3,by decide,by decide,fun d4 H4 d40 d41 hp4 s4=>?_⟩
   show U4 _ _
   subst hU4
   have S4:aP p H H4:=S3.trans s4
   refine cV fun U5 hU5=>?_
   refine ⟨abV _,fun R hR=>?_⟩
   show U5 _ _
   subst hU5
   have nR:R≠p:=fun z=>by obtain ⟨n,e,_⟩:=hp4; rw [<- z,hR] at e; cases e
   have fR:H R=none:=by
     cases e:H R with
     | none=>rfl
     | some o=>have:=S4 R o nR e; rw [hR] at this; cases this
   refine cV fun U6 hU6=>?_
   refine fun D hD=>?_
   show U6 _ _
   subst hU6
   have hp5:=hp4.new (o:=.lst []) hR
   have S5:aP p H (upd H4 R (.lst [])):=S4.new hR
   have nD:D≠p:=fun z=>by obtain ⟨n,e,_⟩:=hp5; rw [<- z,hD] at e; cases e
   have nRD:R≠D:=aD ao hD
   have fD:H D=none:=by
     cases e:H D with
     | none=>rfl
     | some o=>have:=S5 D o nD e; rw [hD] at this; cases this
   have nlD:ln≠D:=aD hln fD
   refine ⟨p,6,rfl,hp5.new hD,by decide,by decide,fun n1 H6 n1a n1b hp6 s6=>?_⟩
   have S6:aP p H H6:=(S5.new hD).trans s6
   obtain ⟨low,hlow⟩:∃ low,low=d1-20:=⟨_,rfl⟩
   refine ⟨n1,rfl,by omega,by omega,jR (lo:=0) (n:=n1.toNat) (PwA p ln R D nm room low wide aQ H ss) ?_ (fun i σ H' hi ahs=>?_) (fun σ H' aht=>?_)⟩
   . exact ⟨_,0,[],[],[],none,none,none,none,none,by subst hlow; rfl,⟨hp6,S6,s6 R _ nR (by rw [aF nRD]; exact ao),.nil,s6 D _ nD ao,rfl,fun n hn=>by simp at hn,abV _,.inr rfl,fun r hr=>by simp at hr⟩,rfl,abV _,Ry,by unfold BW; omega⟩
   . refine aX fun eG aK=>?_
     obtain ⟨mo,m,vr,kvs,runs,tM,RD,Gg,Hy,Gh,eσ,S,fl,rl,fe,mb⟩:=ahs
     subst aK
     subst eσ
     refine ⟨p,wide+1,rfl,S.pack,by omega,by omega,fun Hj Ha apS apT hpa sa=>?_⟩
     have Sa:=S.step nR nD hpa sa
     refine ⟨abV _,fun L hL=>?_⟩
     have Sb:=Sa.new (o:=.lst []) nR nD hL
     have nLp:L≠p:=fun z=>by obtain ⟨n,e,_⟩:=Sa.pack; rw [<- z,hL] at e; cases e
     have nLR:L≠R:=fun z=>by rw [z,Sa.hR] at hL; cases hL
     have nLD:L≠D:=fun z=>by rw [z,Sa.hD] at hL; cases hL
     have fL:H L=none:=by
       cases e:H L with
       | none=>rfl
       | some o=>have:=Sa.same L o nLp e; rw [hL] at this; cases this
     refine ⟨p,3,rfl,Sb.pack,by decide,by decide,fun n2 Hc n2a n2b hpc sc=>?_⟩
     have Sc:=Sb.step nR nD hpc sc
     have hLc:Hc L=some (.lst []):=sc L _ nLp ao
     refine ⟨1+n2,rfl,by omega,by omega,jR (lo:=0) (n:=(1+n2).toNat) (PwB p ln R D L nm room low wide aQ Hj H ss i vr runs) ?_ (fun j σ eV hj ahu=>?_) (fun σ eV ahv=>?_)⟩
     . exact ⟨mo,m,kvs,[],[],_,_,rfl,Sc,hLc,.nil,by rw [afK]; exact fl,abV _,ah8,JW fe,mb⟩
     . refine aX fun eG aK=>?_
       obtain ⟨mo,m,kvs,vl,rs,Hy,Gh,eσ,S,hL',pl,Oz,rl',ris,fe,mb⟩:=ahu
       subst aK
       subst eσ
       have gr:∀ r∈rs,Good r.1:=fun r hr=>gs r.1 (by
         have z:r.1∈ss.take m:=by rw [<- Oz,abt]; exact acU _ (abv hr)
         exact afi z)
       have skip:∃ (Ew:Int) (m':Nat) (kvs':List (Key × V)) (vl':List V) (rs':List Row) (ahw ahx:Option V),([some (.ref p),some (.str nm),some (.ref ln),some (.int room),some (.int low),some (.int wide),some (.int aQ),some (.int mo),some (.ref R),some (.ref D),some (.int (m:Int)),some (.int (0+(i:Int))),some (.int (low+Hj)),some (.ref L),some (.int (0+(j:Int))),Gh]:St)=[some (.ref p),some (.str nm),some (.ref ln),some (.int room),some (.int low),some (.int wide),some (.int aQ),some (.int Ew),some (.ref R),some (.ref D),some (.int (m':Int)),some (.int (0+(i:Int))),some (.int (low+Hj)),some (.ref L),ahw,ahx] /\
         HS H p R D ss room eV vr kvs' runs m'/\eV L=some (.lst vl')/\acN (cM eV) vl' rs'/\(runs.flatten++rs').map adB=ss.take m'/\rs'.length<=j+1/\(rs'.map afn).Pairwise (·<·)/\Gf low wide aQ (low+Hj) (gA kvs') Ew runs rs'/\BW Ew m' i:=⟨mo,m,kvs,vl,rs,_,_,rfl,S,hL',pl,Oz,amX rl',ris,fe,mb⟩
       refine gO (fun c1=>?_) (fun c1=>skip)
       refine ⟨ln,_,rfl,.inl (bY.of (S.same ln _ nln hln)),?_⟩
       refine gO (fun c2=>?_) (fun c2=>skip)
       clear skip
       have hroom:(m:Int)<room:=of_decide_eq_true c1
       have hlen:m<ss.length:=by
         have z:(m:Int)<((ss.map V.str).length:Int):=of_decide_eq_true c2
         rw [aao] at z; omega
       refine aX fun Rz1 RG=>?_
       obtain ⟨n,hn⟩:∃ n,ss[m]?=some n:=⟨ss[m],aaq hlen⟩
       subst RG
       refine cV fun V1 hV1=>?_
       refine ⟨p,30,rfl,S.pack,by decide,by decide,fun d5 Hd d50 d51 hpd sd=>?_⟩
       show V1 _ _
       subst hV1
       refine cV fun V2 hV2=>?_
       show V2 _ _
       subst hV2
       have Sd:=S.step nR nD hpd sd
       have hLd:Hd L=some (.lst vl):=sd L _ nLp hL'
       have pld:acN (cM Hd) vl rs:=aq (fun _ _ z=>z.ts (aP.tups S.pack sd)) pl
       refine Jz (NvR p ln R D L nm room low wide aQ Hj (mo+1+d5) m (.int (0+(i:Int))) (.int (0+(j:Int))) H ss vr vl kvs runs rs (BR low wide aQ (low+Hj) (mo+1+d5))) (fun U hU=>?_) (fun σ2 H2 hN2=>?_)
       . have RJ:∀ (rd:Int) (H9:Hp),BR low wide aQ (low+Hj) (mo+1+d5) rd->HS H p R D ss room H9 vr kvs runs m->H9 L=some (.lst vl)->acN (cM H9) vl rs->U [some (.ref p),some (.str nm),some (.ref ln),some (.int room),some (.int low),some (.int wide),some (.int aQ),some (.int (mo+1+d5)),some (.ref R),some (.ref D),some (.int (m:Int)),some (.int (0+(i:Int))),some (.int (low+Hj)),some (.ref L),some (.int (0+(j:Int))),some (.int rd)] H9:=fun rd H9 x0 x1 x2 x3=>hU _ _ ⟨rd,rfl,x1,x2,x3,x0⟩
         refine ⟨abV _,fun e1 he1=>?_⟩
         have Se:=Sd.new (o:=.lst []) nR nD he1
         have hLe:upd Hd e1 (.lst []) L=some (.lst vl):=(aF (aD hLd he1)).trans hLd
         have Yq:acN (cM (upd Hd e1 (.lst []))) vl rs:=aq (fun _ _ z=>z.ts ((bZ.refl Hd).new he1)) pld
         refine QS hLe Yq gr ao ?_
         generalize (!rs.isEmpty)=bb
         cases bb with
         | false=>exact RJ _ _ (.inl rfl) Se hLe Yq
         | true =>
           refine gO (fun k1=>?_) (fun k1=>RJ _ _ (.inl rfl) Se hLe Yq)
           refine ⟨p,3,rfl,Se.pack,by decide,by decide,fun d6 Hh _ _ hph sh=>?_⟩
           have Sh:=Se.step nR nD hph sh
           have hLh:Hh L=some (.lst vl):=sh L _ nLp hLe
           have plh:acN (cM Hh) vl rs:=aq (fun _ _ z=>z.ts (aP.tups Se.pack sh)) Yq
           exact gO (fun k2=>gO (fun k3=>RJ _ _ (.inr ⟨rfl,of_decide_eq_true k3,of_decide_eq_true k1⟩) Sh hLh plh) (fun k3=>RJ _ _ (.inl rfl) Sh hLh plh)) (fun k2=>RJ _ _ (.inl rfl) Sh hLh plh)
       refine aX fun Rz1 RG=>?_
       obtain ⟨rd,ap1,Sx,hLx,plx,rok⟩:=hN2
       subst RG
       subst ap1
       refine Jz (NvR p ln R D L nm room low wide aQ Hj (mo+1+d5) m (.int (0+(i:Int))) (.int (0+(j:Int))) H ss vr vl kvs runs rs (fun rd=>(∀ r∈rs,r.2<rd)/\BR low wide aQ (low+Hj) (mo+1+d5) rd)) (fun U hU=>?_) (fun σ3 H3 hN3=>?_)
       . refine ⟨abV _,fun fa hfa=>?_⟩
         have Sga:=Sx.new (o:=.lst []) nR nD hfa
         have MJ:upd H2 fa (.lst []) L=some (.lst vl):=(aF (aD hLx hfa)).trans hLx
         have RK:acN (cM (upd H2 fa (.lst []))) vl rs:=aq (fun _ _ z=>z.ts ((bZ.refl _).new hfa)) plx
         refine QS MJ RK gr ao ?_
         rcases apK rs with er | ⟨rs0,rl0,er⟩
         . subst er
           exact hU _ _ ⟨_,rfl,Sga,MJ,RK,fun r hr=>by simp at hr,rok⟩
         . rw [apM] at er
           have ne:(!rs.isEmpty)=true:=by rw [er]; simp
           rw [ne]
           have acP:∃ vl0 vL,vl=vl0++[vL]/\∀ Hx,acN (cM Hx) vl rs->cM Hx vL rl0:=by
             have hv:vl≠[]:=fun z=>by
               have:=pl.length
               rw [z,er] at this
               simp at this
             obtain ⟨vl0,vL,ev⟩:=(apK vl).resolve_left hv
             rw [apM] at ev
             refine ⟨vl0,vL,ev,fun Hx px=>?_⟩
             have l1:=px.length
             rw [ev,er,abe,abe] at l1
             have e1:vl[vl0.length]?=some vL:=by rw [ev]; simp
             obtain ⟨r,hr,ra⟩:=aL px e1
             have e2:rs[vl0.length]?=some rl0:=by
               have:vl0.length=rs0.length:=by simpa using l1
               rw [er,this]; simp
             rw [e2] at hr
             cases hr
             exact ra
           refine aX fun eG aK=>?_
           obtain ⟨vl0,vL,evl,acQ⟩:=acP
           obtain ⟨gaa,rfl,gba⟩:=acQ _ RK
           subst aK
           have RL:∀ rd:Int,rl0.2<rd->∀ r∈rs,r.2<rd:=fun rd h r hr=>by
             rw [er] at hr ris
             rcases abq.mp hr with z | z
             . rw [abt] at ris
               have:=(ap6.mp ris).2.2 r.2 (abv z) rl0.2 (by simp)
               omega
             . rw [abw.mp z]; exact h
           refine uQ MJ (i:=-1) (v:=.ref gaa) (by rw [evl]; exact DW) ?_
           refine bV (bA.of gba) (i:=1) (v:=.int rl0.2) (by rfl) ?_
           refine gO (fun cc=>?_) (fun cc=>?_)
           . refine uQ MJ (i:=-1) (v:=.ref gaa) (by rw [evl]; exact DW) ?_
             refine bV (bA.of gba) (i:=1) (v:=.int rl0.2) (by rfl) ?_
             exact hU _ _ ⟨_,rfl,Sga,MJ,RK,RL _ (by omega),Ww fe (by rw [er]; simp) d50 rok (of_decide_eq_true cc)⟩
           . have cc2:¬ rd<=rl0.2:=fun z=>cc (decide_eq_true z)
             exact hU _ _ ⟨_,rfl,Sga,MJ,RK,RL _ (by omega),rok⟩
       refine aX fun Rz1 RG=>?_
       obtain ⟨rd,ap5,Sy,hLy,ply,lt,rok⟩:=hN3
       subst RG
       subst ap5
       refine uQ (Sy.same ln _ nln hln) (i:=(m:Int)) (v:=.str n) (iR (by rw [aaJ,hn]; rfl)) ?_
       refine ⟨D,_,rfl,Az.k (k:=adz n) Sy.hD (by have z:=congrArg af6 Sy.keys; rw [aao,aao,abo] at z; omega),?_⟩
       have hLq:upd H3 D (.dK (putK kvs (.inr n) (.int (mo+1+d5)))) L=some (.lst vl):=(aF nLD).trans hLy
       refine ⟨.inl ⟨rfl,_,bY.of hLq⟩,?_⟩
       refine uQ ((aF nlD).trans (Sy.same ln _ nln hln)) (i:=(m:Int)) (v:=.str n) (iR (by rw [aaJ,hn]; rfl)) ?_
       refine ⟨by show 2<=sizeLine; omega,fun tp htp=>?_⟩
       obtain ⟨Sq,pq⟩:=HS.put (rd:=rd) Sy nR nD nRD nLp nLR nLD fD fL nd hn hroom hLy ply htp
       refine ⟨L,vl,_,rfl,rfl,(aF (aD hLq htp)).trans hLq,by have z:=ply.length; omega,?_⟩
       exact ⟨_,m+1,_,_,rs++[(n,rd)],_,_,rfl,Sq,ao,pq,by rw [<- aeX,abt,Oz,wu hn]; rfl,by rw [abe]; exact ahU rl' 1,LK ris lt,aam fe (by omega) (by unfold BW at mb; omega) (fun z=>zA nd hn (Oz ▸ z)) rok (by omega) (by omega),by unfold BW at mb ⊢; omega⟩
     . refine aX fun eG aK=>?_
       obtain ⟨mo,m,kvs,vl,rs,Hy,Gh,eσ,S,hL',pl,Oz,rl',ris,fe,mb⟩:=ahv
       subst aK
       subst eσ
       have gr:∀ r∈rs,Good r.1:=fun r hr=>gs r.1 (by
         have z:r.1∈ss.take m:=by rw [<- Oz,abt]; exact acU _ (abv hr)
         exact afi z)
       refine ⟨abV _,fun e1 he1=>?_⟩
       have Se:=S.new (o:=.lst []) nR nD he1
       have hLe:upd eV e1 (.lst []) L=some (.lst vl):=(aF (aD hL' he1)).trans hL'
       have Yq:acN (cM (upd eV e1 (.lst []))) vl rs:=aq (fun _ _ z=>z.ts ((bZ.refl _).new he1)) pl
       have lr:=Yq.length
       have lrr:=Se.pR.length
       refine QS hLe Yq gr ao ?_
       refine gO (fun c1=>?_) (fun c1=>?_)
       . have rne:rs≠[]:=fun z=>by rw [z] at c1; cases c1
         refine ⟨.inl ⟨rfl,_,bY.of Se.hR⟩,?_⟩
         refine ⟨L,vl,rfl,.inl ⟨bY.of hLe,fun t9 ht9=>?_⟩⟩
         have St:=Se.new (o:=.tup vl) nR nD ht9
         refine ⟨R,vr,_,rfl,rfl,St.hR,by omega,?_⟩
         have tt:bZ (upd (upd eV e1 (.lst [])) t9 (.tup vl)) (upd (upd (upd eV e1 (.lst [])) t9 (.tup vl)) R (.lst (vr++[.ref t9]))):=(bZ.refl _).put St.hR (fun _ z=>nomatch z)
         have Su:HS H p R D ss room (upd (upd (upd eV e1 (.lst [])) t9 (.tup vl)) R (.lst (vr++[.ref t9]))) (vr++[.ref t9]) kvs (runs++[rs]) m:=by
           refine ⟨St.pack.put nR,fun b o hb e=>?_,ao,?_,(aF (afv nRD)).trans St.hD,St.keys,St.vals,St.le,St.rm,fun r hr=>?_⟩
           . rw [aF (aD e fR)]; exact St.same b o hb e
           . refine aM (aq (fun _ _ z=>z.ts tt) St.pR) (.cons ⟨t9,vl,rfl,tt _ _ ao,aq (fun _ _ z=>z.ts (((bZ.refl _).new ht9).trans tt)) Yq⟩ .nil)
           . rcases abq.mp hr with z | z
             . exact St.good r z
             . rw [abw.mp z]
               exact ⟨rne,by omega,gr,ris⟩
         refine ⟨p,5,rfl,Su.pack,by decide,by decide,fun d9 Hz d90 d91 hpz sz=>?_⟩
         exact ⟨_,m,_,kvs,runs++[rs],_,_,_,_,_,rfl,Su.step nR nD hpz sz,by rw [aio]; simpa using Oz,by rw [abe]; exact ahU rl 1,Eu (RB fe dr0) (by omega),by unfold BW at mb ⊢; omega⟩
       . have rne:rs=[]:=by
           cases rs with
           | nil=>rfl
           | cons r rs=>exact absurd rfl c1
         subst rne
         refine ⟨p,5,rfl,Se.pack,by decide,by decide,fun d9 Hz d90 d91 hpz sz=>?_⟩
         exact ⟨_,m,_,kvs,runs,_,_,_,_,_,rfl,Se.step nR nD hpz sz,by simpa using Oz,amX rl,Eu (JW fe) (by omega),by unfold BW at mb ⊢; omega⟩
   . refine aX fun eG aK=>?_
     obtain ⟨mo,m,vr,kvs,runs,tM,RD,Gg,Hy,Gh,eσ,S,fl,rl,fe,mb⟩:=aht
     subst aK
     subst eσ
     have lr:=S.pR.length
     refine ⟨R,vr,rfl,.inl ⟨bY.of S.hR,fun t1 h1=>?_⟩⟩
     have Sa:=S.new (o:=.tup vr) nR nD h1
     refine ⟨by show 5<=sizeLine; omega,fun t2 h2=>?_⟩
     have Sb:=Sa.new (o:=.tup [.str nm,.int low,.int (low+wide),.int aQ,.ref t1]) nR nD h2
     refine ⟨by show 2<=sizeLine; omega,fun t3 h3=>?_⟩
     have Sc:=Sb.new (o:=.tup [.ref t2,.ref D]) nR nD h3
     have nt3:t3≠p:=fun z=>by obtain ⟨n,e,_⟩:=Sb.pack; rw [<- z,h3] at e; cases e
     have ft3:H t3=none:=by
       cases e:H t3 with
       | none=>rfl
       | some o=>have:=Sb.same t3 o nt3 e; rw [h3] at this; cases this
     refine q t3 D (.ref t2) ⟨nm,low,low+wide,aQ,runs⟩ kvs m _ ft3 fD ao ⟨t2,.ref t1,rfl,(aF (aD ao h3)).trans ao,t1,vr,rfl,?_,Sc.pR⟩ ⟨⟨gn,by show low<=low+wide; omega,dr0,by show runs.length<=25; omega,Sc.good⟩,by show low+wide-low<=300; omega,by show -1000<=low; omega,by show low+wide<=1000; omega,Wx fe (by omega) (by omega) (by omega) (by omega) (by unfold BW at mb; have:=Sc.le; omega)⟩ rfl fl Sc.le Sc.rm Sc.hD Sc.keys Sc.vals Sc.pack Sc.same (aan fe)
     have e1:upd (upd H' t1 (.tup vr)) t2 (.tup [.str nm,.int low,.int (low+wide),.int aQ,.ref t1]) t1=some (.tup vr):=(aF (aD ao h2)).trans ao
     exact (aF (aD e1 h3)).trans e1
end
end mz
namespace mz
open PySem L2 gF
def RM (hs:List aA) (M:Str->Int) (l:Letter):Prop:=lg hs l/\JR l M=true
def wZ (hs:List aA) (M:Str->Int) (H:Hp) (kf:List (List Key × V)):Prop:=∀ kv∈kf,∃ l:Letter,kv.1=kP l.1/\cg H kv.2 l/\RM hs M l
theorem wZ.keys {hs:List aA} {M:Str->Int} {H:Hp} {kf:List (List Key × V)} (h:wZ hs M H kf):∃ ks:List (Str × Str),kf.map (·.1)=ks.map kP/\ks.length=kf.length :=
 u6.keys (hs:=hs) (H:=H) fun kv hkv=>let ⟨l,a,b,c⟩:=h kv hkv; ⟨l,a,b,c.1⟩
def lN:Sp:=fun vs H Q _=>∃ (p lh dh:abm) (vh:List V) (hs:List aA) (kvs:List (Key × V)),vs=[.ref p,.ref lh,.ref dh]/\bN H p/\H lh=some (.lst vh)/\acN (bC H) vh hs/\hs.length<=6/\(∀ h∈hs,cQ h)/\(namesOf hs).Nodup/\(namesOf hs).length<=24 /\
 H dh=some (.dK kvs)/\kvs.map (·.1)=(namesOf hs).map adz/\(∀ n∈namesOf hs,∃ i:Int,cJ kvs (.inr n)=some (.int i)) /\
 ∀ (x:V) (ls:List Letter) (H':Hp),fW H' x ls->dI hs ls->ls.length<=6->(∀ l∈ls,JR l (gA kvs)=true)->bN H' p->aP p H H'->Q x H'
def PwF (p lh dh O l8 F:abm) (hs:List aA) (M:Str->Int) (H2:Hp):Nat->St->Hp->Prop:=fun i σ H'=>∃ (kf:List (List Key × V)) (o4 o5 o6 o7 xq tM RD Gg Hy Gh:Option V),σ=[some (.ref p),some (.ref lh),some (.ref dh),some (.ref O),o4,o5,o6,o7,some (.ref l8),some (.ref F),xq,tM,RD,Gg,Hy,Gh]/\bN H' p/\aP p H2 H'/\H' F=some (.dT kf)/\kf.length<=i/\wZ hs M H' kf
section
variable {P:acs} {w:adH} {K:aas} {mg:Str->Option aau} {base:ae9} {t8 t6 tR tL:Tok}
theorem bR:bB ["_law_pack_here","_law_houses","_law_hidden","_law_home","_law_house_here","_law_run","_law_name","_law_reading","_law_rows","_law_found","_law_turn","_law_one","_law_other","_law_gap","_law_slack","_law_most"] ["_law_pack_here","_law_houses","_law_hidden"] (au gH):=⟨rfl,rfl,rfl,by decide +kernel,rfl,by decide +kernel,by decide +kernel⟩
theorem BX {f dY:abm} {fd fG:aeF} (F:lX K "_law_letters" "_law_letters" gH f fd) (T:Txt mg t8 t6 tR tL)
   (cB:aV P w K mg base cG 1 dY fG ["_law_pack_here","_law_size"] qb) (cC:mg "_law_take" = some (.ref dY)) (cD:aaw K (.ref dY)=true) (cF:Binds K fG ["_law_pack_here","_law_size"] []):aV P w K mg base cG 2 f fd ["_law_pack_here","_law_houses","_law_hidden"] lN:=by
 refine F.ok bR (fun vs H Q E h=>?_) (fun cdv A outer s H vs Q E hr h=>?_)
 . obtain ⟨p,lh,dh,vh,hs,kvs,rfl,_⟩:=h
   rfl
 . obtain ⟨p,lh,dh,vh,hs,kvs,rfl,hp,hlh,ph,h6,gh,nd,few,Wz,keys,vals,q⟩:=h
   have mq:sizeLine=16777216:=acO
   have nlh:lh≠p:=fun z=>by
     obtain ⟨n,e,_⟩:=hp
     rw [z,e] at hlh
     cases ph with
     | nil=>cases hlh
     | cons h _=>obtain ⟨a,b,rfl,_⟩:=h; cases hlh
   have ndh:dh≠p:=fun z=>by obtain ⟨n,e,_⟩:=hp; rw [z,e] at Wz; cases Wz
   refine ⟨_,(aB (aY (i:=3) bR.nd rfl (acz rfl) vN) (aB (gC aeZ rfl (iM (pV 1)) (aH (i:=4) bR.nd rfl (acz rfl)) (aG (gC aeZ rfl (cI (bG dO (pV 4) aC (fun _ _=>rfl))) (aH (i:=5) bR.nd rfl (acz rfl)) (aG (gC aeZ rfl (cI (pV 5)) (eU rfl (aR (aH (i:=6) bR.nd rfl (acz rfl)) (aR (aH (i:=7) bR.nd rfl (acz rfl)) dg))) (aG (Ba (iu hr) (pV 3) (pV 6) (bG dO (pV 4) aC (fun _ _=>rfl)) rfl))))))) (aB (aY (i:=8) bR.nd rfl (acz rfl) (aO (Bk rfl) rfl T.sorted afm (aj (pV 2) ak))) (aB (aY (i:=9) bR.nd rfl (aqB rfl) Dk) (aB (gC aeZ rfl (gJ rfl T.range (aj (aJ cB hr rfl cC cD cF .nil aW (aj (pV 0) (aj aC ak))) ak)) (aH (i:=10) bR.nd rfl (acz rfl)) (aG (cP (oZ oGt (aO bx rfl T.len ad4 (aj (pV 8) ak)) aC (bL _)) (aB (aY (i:=11) bR.nd rfl (acz rfl) (bG Lg (pV 8) (aJ cB hr rfl cC cD cF .nil aW (aj (pV 0) (aj (aO bx rfl T.len ad4 (aj (pV 8) ak)) ak))) (fun _ _=>rfl))) (aB (aY (i:=12) bR.nd rfl (acz rfl) (bG Lg (pV 8) (aJ cB hr rfl cC cD cF .nil aW (aj (pV 0) (aj (aO bx rfl T.len ad4 (aj (pV 8) ak)) ak))) (fun _ _=>rfl))) (aB (aY (i:=13) bR.nd rfl (acz rfl) (bJ Lf (jC (iu hr) (pV 2) (pV 12) (fun _ _=>rfl)) (jC (iu hr) (pV 2) (pV 11) (fun _ _=>rfl)))) (aB (aY (i:=14) bR.nd rfl (acz rfl) (aJ cB hr rfl cC cD cF .nil aW (aj (pV 0) (aj aC ak)))) (aG (cP (Ds (oZ agL (jC (iu hr) (pV 3) (pV 11) (fun _ _=>rfl)) (jC (iu hr) (pV 3) (pV 12) (fun _ _=>rfl)) (bL _)) (pw_and1 (oZ oGt (pV 13) aC (bL _)))) (aB (aY (i:=15) bR.nd rfl (acz rfl) (bG Lg (cW (aj O9 (aj (pV 13) (aj (bJ ji (pV 13) (pV 14)) ak)))) (aJ cB hr rfl cC cD cF .nil aW (aj (pV 0) (aj aC ak))) (fun _ _=>rfl))) (aG (Ba (iu hr) (pV 9) (cN (aj (pV 11) (aj (pV 12) ak))) (cN (aj (pV 11) (aj (pV 12) (aj (aO (KJ rfl) rfl T.max PyProof.Rows.boot_max (aj aC (aj (bJ Lf (pV 13) (pV 14)) ak))) (aj (pV 15) ak))))) rfl))) bH)))))) bH))) (aG (aZ (bD bf rfl T.tuple abU (aj (cA (eY:=au gH) (own:=["_law_pair"]) (cap:=["_law_found"]) (ix:=[9]) rfl rfl ⟨rfl,by decide +kernel,by decide +kernel,by decide +kernel,rfl,by decide +kernel⟩ (iM (aO (Bl rfl) rfl T.sorted afm (aj (pV 9) ak))) (fun b=>(aH (i:=0) (show (["_law_pair","_law_found"]:List Str).Nodup by decide +kernel) rfl (acz rfl))) (fun b=>bM) (fun b=>(jC (iu hr) (pV 1) (pV 0) (fun _ _=>rfl)))) ak))))))))),?_⟩
   refine fun O hO=>?_
   have s0:Same H (upd H O (.dK [])):=(Same.refl H).upd hO
   have ahD:(pairsOf hs).length<=24:=by
     have z:=few
     rw [<- iY,aao] at z
     exact z
   have ndP:((pairsOf hs).map adB).Nodup:=by rw [iY]; exact nd
   have acT:∀ (A:List (Str × Str)) (x:Str × Str) (B:List (Str × Str)) (kv:List (Key × V)),pairsOf hs=A++x :: B->pK kv A->kv.length<=A.length->pK (putK kv (.inr x.1) (.str x.2)) (A++[x])/\(putK kv (.inr x.1) (.str x.2)).length<=(A++[x]).length/\kv.length<sizeLine:=fun A x B kv e ow kl=>by
     have l1:=ahD
     rw [e,abe,acM] at l1
     refine ⟨pK.put ow fun y hy z=>?_,?_,by omega⟩
     . rw [e,abt,abA] at ndP
       exact (aeS.mp ndP).2.2 y.1 (abv hy) x.1 aaU z
     . have z:=dH kv (.inr x.1) (V.str x.2)
       rw [abe]
       exact adS z (ahU kl 1)
   refine ⟨lh,rfl,⟨_,bY.of (s0 _ _ hlh)⟩,Dc (xs:=vh) (PvC p lh dh O hs H) ⟨[],none,none,none,none,rfl,ao,fun x hx=>by simp [pairsOf] at hx,abV _,s0⟩ (fun i σ H' _ ahE=>by obtain ⟨_,_,_,_,_,_,_,_,_,s⟩:=ahE; exact bY.of (s _ _ hlh)) (fun i x σ H' hx ahF=>?_) (fun σ H1 ahG=>?_)⟩
   . refine aX fun eG aK=>?_
     obtain ⟨kv,o4,o5,o6,o7,eσ,eO,ow,kl,s⟩:=ahF
     subst aK
     subst eσ
     obtain ⟨hh,hhi,ha⟩:=aL ph hx
     have gd:=gh hh (abg hhi)
     refine aX fun eG aK=>?_
     obtain ⟨a,b,ahH,ga,c,vr,ahI,gc,pr⟩:=ha
     subst aK
     subst ahH
     subst ahI
     refine bV (bA.of (s _ _ ga)) (i:=4) (v:=.ref c) (by rfl) ?_
     have e0:pairsOf hs=pairsOf (hs.take i)++(cO hh++pairsOf (hs.drop (i+1))):=by
       unfold pairsOf
       have e1:hs=hs.take i++(hh :: hs.drop (i+1)):=by
         obtain ⟨li,fi⟩:=acZ.mp hhi
         rw [<- fi,aiF,agv]
       conv=>lhs; rw [e1]
       rw [aeJ,aox]
     refine ⟨c,rfl,⟨_,bA.of (s _ _ gc)⟩,jB (xs:=vr) (PvD p lh dh O a hs hh i H) ⟨kv,o5,o6,o7,rfl,eO,by simpa using ow,by simpa using kl,s⟩ (fun j σ H' _ ahJ=>by obtain ⟨_,_,_,_,_,_,_,_,s⟩:=ahJ; exact bA.of (s _ _ gc)) (fun j y σ H' hy ahK=>?_) (fun σ H' ahL=>?_)⟩
     . refine aX fun eG aK=>?_
       obtain ⟨kv,o5,o6,o7,eσ,eO,ow,kl,s⟩:=ahK
       subst aK
       subst eσ
       refine aX fun eG aK=>?_
       obtain ⟨r,hr',c2,ws,ahM,g2,pr2⟩:=aL pr hy
       subst aK
       subst ahM
       have e1:cO hh=(hh.runs.take j).flatMap (cZ hh.name)++(cZ hh.name r++(hh.runs.drop (j+1)).flatMap (cZ hh.name)):=by
         rw [uz]
         have e1:hh.runs=hh.runs.take j++(r :: hh.runs.drop (j+1)):=by
           obtain ⟨li,fi⟩:=acZ.mp hr'
           rw [<- fi,aiF,agv]
         conv=>lhs; rw [e1]
         rw [aeJ,aox]
       refine ⟨c2,rfl,⟨_,bA.of (s _ _ g2)⟩,jB (xs:=ws) (PvE p lh dh O a c2 hs hh i j r H) ⟨kv,o6,o7,rfl,eO,by simpa using ow,by simpa using kl,s⟩ (fun t σ H' _ ahN=>by obtain ⟨_,_,_,_,_,_,_,s⟩:=ahN; exact bA.of (s _ _ g2)) (fun t z σ H' hz ahO=>?_) (fun σ H' ahP=>?_)⟩
       . refine aX fun eG aK=>?_
         obtain ⟨kv,o6,o7,eσ,eO,ow,kl,s⟩:=ahO
         subst aK
         subst eσ
         refine aX fun eG aK=>?_
         obtain ⟨rr,hrr,ra1,ahQ,ra2⟩:=aL pr2 hz
         subst aK
         subst ahQ
         have hp':(cZ hh.name r)[t]?=some (rr.1,hh.name):=by unfold cZ; rw [aaJ,hrr]; rfl
         refine ⟨ra1,_,rfl,bA.of (s _ _ ra2),rfl,_,_,rfl,_,_,rfl,rfl,?_⟩
         refine bV (bA.of (s _ _ ga)) (i:=0) (v:=.str hh.name) (by rfl) ?_
         have e2:cZ hh.name r=(cZ hh.name r).take t++((rr.1,hh.name) :: (cZ hh.name r).drop (t+1)):=by
           obtain ⟨li,fi⟩:=acZ.mp hp'
           rw [<- fi,aiF,agv]
         obtain ⟨w1,w2,w3⟩:=acT (pairsOf (hs.take i)++(hh.runs.take j).flatMap (cZ hh.name)++(cZ hh.name r).take t) (rr.1,hh.name) ((cZ hh.name r).drop (t+1)++((hh.runs.drop (j+1)).flatMap (cZ hh.name)++pairsOf (hs.drop (i+1)))) kv (by
           rw [e0,e1]
           conv=>lhs; rw [e2]
           simp only [aeX,ao0]) ow kl
         refine ⟨O,_,rfl,Az.k (k:=adz rr.1) eO w3,?_⟩
         refine ⟨_,_,_,rfl,ao,?_,?_,fun b' o' e'=>by rw [aF (aD e' hO)]; exact s _ _ e'⟩
         . rw [abj,hp',<- aeX]; exact w1
         . rw [abj,hp',<- aeX]; exact w2
       . refine aX fun eG aK=>?_
         obtain ⟨kv,o6,o7,eσ,eO,ow,kl,s⟩:=ahP
         subst aK
         subst eσ
         have l2:=pr2.length
         have e2:(cZ hh.name r).take ws.length=cZ hh.name r:=adN (by unfold cZ; rw [aao]; omega)
         rw [e2] at ow kl
         refine ⟨kv,_,_,_,rfl,eO,?_,?_,s⟩
         . rw [abj,hr',aeJ]; simpa using ow
         . rw [abj,hr',aeJ]; simpa using kl
     . refine aX fun eG aK=>?_
       obtain ⟨kv,o5,o6,o7,eσ,eO,ow,kl,s⟩:=ahL
       subst aK
       subst eσ
       rw [pr.length,adi,<- uz] at ow kl
       have e2:pairsOf (hs.take (i+1))=pairsOf (hs.take i)++cO hh:=by
         unfold pairsOf
         rw [abj,hhi,aeJ]
         simp
       exact ⟨kv,_,_,_,_,rfl,eO,by rw [e2]; exact ow,by rw [e2]; exact kl,s⟩
   . refine aX fun eG aK=>?_
     obtain ⟨kvo,o4,o5,o6,o7,eσ,eO,ow,kl,s1⟩:=ahG
     subst aK
     subst eσ
     rw [ph.length,adi] at ow kl
     -- abl=sorted(hidden)
     refine ⟨dh,kvs,namesOf hs,rfl,s1 _ _ Wz,keys,by omega,fun l8 ss hl8 pm so=>?_⟩
     have s2:Same H1 (upd H1 l8 (.lst (ss.map V.str))):=(Same.refl H1).upd hl8
     generalize eH2:upd H1 l8 (.lst (ss.map V.str))=H2 at s2
     have h8:H2 l8=some (.lst (ss.map V.str)):=by rw [<- eH2]; exact ao
     have sH:Same H H2:=s1.trans s2
     have hp2:bN H2 p:=by obtain ⟨n,e,n0⟩:=hp; exact ⟨n,sH _ _ e,n0⟩
     refine fun F hF=>?_
     have nF:F≠p:=fun z=>by obtain ⟨n,e,_⟩:=hp2; rw [<- z,hF] at e; cases e
     have n8:l8≠p:=fun z=>by
       obtain ⟨n,e,_⟩:=hp2
       rw [<- z,h8] at e
       cases ss with
       | nil=>cases e
       | cons s ss=>cases e
     have nO:O≠p:=fun z=>by obtain ⟨n,e,_⟩:=hp2; rw [<- z,s2 _ _ eO] at e; cases e
     have lss:ss.length=(namesOf hs).length:=pm.length_eq
     have MK:∀ x∈ss,x∈namesOf hs:=fun x hx=>pm.mem_iff.mp hx
     refine ⟨p,7,rfl,hp2.new hF,by decide,by decide,fun n7 H3 n7a n7b hp3 s3=>?_⟩
     have SB3:aP p H2 H3:=((aP.of (Same.refl H2)).new hF).trans s3
     refine ⟨n7,rfl,by omega,by omega,jR (lo:=0) (n:=n7.toNat) (PwF p lh dh O l8 F hs (gA kvs) H2) ⟨[],_,_,_,_,_,_,_,_,_,_,rfl,hp3,SB3,s3 F _ nF ao,abV _,fun x hx=>by simp at hx⟩ (fun i σ H' hi ahS=>?_) (fun σ H' ahT=>?_)⟩
     . refine aX fun eG aK=>?_
       obtain ⟨kf,o4,o5,o6,o7,xq,tM,RD,Gg,Hy,Gh,eσ,pk,sb,eF,kl,fo⟩:=ahS
       subst aK
       subst eσ
       refine ⟨l8,_,rfl,.inl (bY.of (sb l8 _ n8 h8)),?_⟩
       refine gO (fun c1=>?_) (fun c1=>⟨kf,_,_,_,_,_,_,_,_,_,_,rfl,pk,sb,eF,amX kl,fo⟩)
       have many:1<ss.length:=by
         have z:(1:Int)<((ss.map V.str).length:Int):=of_decide_eq_true c1
         rw [aao] at z; omega
       have pick:∀ d:Int,0<=d->d<((ss.map V.str).length:Int)->∃ x,x∈ss/\Cz (ss.map V.str) d=some (.str x):=fun d d0 d1=>by
         obtain ⟨n,rfl⟩:=aeM d0
         rw [aao] at d1
         have hn:n<ss.length:=by omega
         exact ⟨ss[n],afR hn,iR (by rw [aaJ,aaq hn]; rfl)⟩
       have WD:(0:Int)<((ss.map V.str).length:Int)/\((ss.map V.str).length:Int)<1073741824:=by rw [aao]; omega
       refine cV fun W1 hW1=>?_
       refine ⟨l8,_,rfl,.inl (bY.of (sb l8 _ n8 h8)),?_⟩
       refine ⟨p,_,rfl,pk,WD.1,WD.2,fun d1 Ha d1a d1b pka sa=>?_⟩
       have sba:=sb.trans sa
       obtain ⟨one,m1,e1⟩:=pick d1 d1a d1b
       refine uQ (sba l8 _ n8 h8) e1 ?_
       show W1 _ _
       subst hW1
       refine cV fun W2 hW2=>?_
       refine ⟨l8,_,rfl,.inl (bY.of (sba l8 _ n8 h8)),?_⟩
       refine ⟨p,_,rfl,pka,WD.1,WD.2,fun d2 Hb d2a d2b pkb Ox=>?_⟩
       have sbb:=sba.trans Ox
       obtain ⟨other,m2,e2⟩:=pick d2 d2a d2b
       refine uQ (sbb l8 _ n8 h8) e2 ?_
       show W2 _ _
       subst hW2
       refine cV fun W3 hW3=>?_
       obtain ⟨g2,eg2⟩:=vals other (MK _ m2)
       obtain ⟨g1,eg1⟩:=vals one (MK _ m1)
       have hdb:Hb dh=some (.dK kvs):=sbb dh _ ndh (sH _ _ Wz)
       refine ⟨dh,_,rfl,eg2 ▸ iW.k (k:=adz other) hdb,?_⟩
       refine ⟨dh,_,rfl,eg1 ▸ iW.k (k:=adz one) hdb,?_⟩
       show W3 _ _
       subst hW3
       refine cV fun W4 hW4=>?_
       refine ⟨p,9,rfl,pkb,by decide,by decide,fun sk Hc sk0 sk1 pkc sc=>?_⟩
       show W4 _ _
       subst hW4
       have sbc:=sbb.trans sc
       have eFc:Hc F=some (.dT kf):=(sa.trans (Ox.trans sc)) F _ nF eF
       have foc:wZ hs (gA kvs) Hc kf:=fun kv hkv=>by
         refine aX fun eG aK=>?_
         obtain ⟨l,w1,w2,w3⟩:=fo kv hkv
         subst aK
         exact ⟨l,w1,w2.ts (aP.tups pk (sa.trans (Ox.trans sc))),w3⟩
       refine aX fun eG aK=>?_
       obtain ⟨hh1,q1,q2,q3⟩:=DX ow (MK _ m1)
       subst aK
       refine aX fun eG aK=>?_
       obtain ⟨hh2,r1,r2,r3⟩:=DX ow (MK _ m2)
       subst aK
       have hOc:Hc O=some (.dK kvo):=sbc O _ nO (s2 _ _ eO)
       refine ⟨O,_,rfl,q3 ▸ iW.k (k:=adz one) hOc,?_⟩
       refine ⟨O,_,rfl,r3 ▸ iW.k (k:=adz other) hOc,?_⟩
       have skip:∀ (σ:St),(∃ o4 o5 o6 o7 xq tM RD Gg Hy Gh:Option V,σ=[some (.ref p),some (.ref lh),some (.ref dh),some (.ref O),o4,o5,o6,o7,some (.ref l8),some (.ref F),xq,tM,RD,Gg,Hy,Gh])->∃ (kf:List (List Key × V)) (o4 o5 o6 o7 xq tM RD Gg Hy Gh:Option V),σ=[some (.ref p),some (.ref lh),some (.ref dh),some (.ref O),o4,o5,o6,o7,some (.ref l8),some (.ref F),xq,tM,RD,Gg,Hy,Gh]/\bN Hc p/\aP p H2 Hc/\Hc F=some (.dT kf)/\kf.length<=i+1/\wZ hs (gA kvs) Hc kf:=fun σ ⟨a4,a5,a6,a7,a10,a11,a12,a13,a14,a15,e⟩=>⟨kf,a4,a5,a6,a7,a10,a11,a12,a13,a14,a15,e,pkc,sbc,eFc,amX kl,foc⟩
       refine gO (fun c2=>?_) (fun c2=>skip _ ⟨_,_,_,_,_,_,_,_,_,_,rfl⟩)
       have hne:hh1.name≠hh2.name:=fun z=>by
         rw [decide_eq_true z] at c2
         cases c2
       refine gO (fun c3=>?_) (fun c3=>skip _ ⟨_,_,_,_,_,_,_,_,_,_,rfl⟩)
       have aql:0<g2-g1:=of_decide_eq_true c3
       refine cV fun W5 hW5=>?_
       refine ⟨by show 3<=sizeLine; omega,fun l3 hl3=>?_⟩
       have nl3:l3≠p:=fun z=>by obtain ⟨n,e,_⟩:=pkc; rw [<- z,hl3] at e; cases e
       refine ⟨p,3,rfl,pkc.new hl3,by decide,by decide,fun d3 Hd d3a d3b pkd sd=>?_⟩
       have scd:aP p Hc Hd:=((aP.of (Same.refl Hc)).new hl3).trans sd
       obtain ⟨mo,emo,hmo⟩:∃ mo:Option Int,Cz [V.non,.int (g2-g1),.int (g2-g1+sk)] d3=some (mO mo)/\∀ m,mo=some m->g2-g1<=m:=by
         obtain ⟨n,rfl⟩:=aeM d3a
         match n,d3b with
         | 0,_=>exact ⟨none,rfl,fun m e=>nomatch e⟩
         | 1,_=>exact ⟨some (g2-g1),rfl,fun m e=>by cases e; exact Int.le_refl _⟩
         | 2,_=>exact ⟨some (g2-g1+sk),rfl,fun m e=>by cases e; omega⟩
         | n+3,h=>exact absurd h (by omega)
       refine uQ (sd l3 _ nl3 ao) emo ?_
       show W5 _ _
       subst hW5
       refine ⟨1,g2-g1-sk,rfl,?_⟩
       obtain ⟨lst,ahY,hl1,hl2⟩:∃ lst:Int,lst=(if g2-g1-sk > 1 then g2-g1-sk else 1)/\1<=lst/\lst<=g2-g1:=⟨_,rfl,by split <;> omega,by split <;> omega⟩
       rw [<- ahY]
       refine ⟨by show 4<=sizeLine; omega,fun t1 ht1=>?_⟩
       refine ⟨by show 2<=sizeLine; omega,fun t2 ht2=>?_⟩
       have eFd:Hd F=some (.dT kf):=scd F _ nF eFc
       have eF1:upd Hd t1 (.tup [.str one,.str other,.int lst,mO mo]) F=some (.dT kf):=(aF (aD eFd ht1)).trans eFd
       have eF2:upd (upd Hd t1 (.tup [.str one,.str other,.int lst,mO mo])) t2 (.tup [.str one,.str other]) F=some (.dT kf):=(aF (aD eF1 ht2)).trans eF1
       refine ⟨F,_,rfl,Az.t (k:=kP (one,other)) eF2 ao (by omega),?_⟩
       have tt:bZ Hc (upd (upd (upd Hd t1 (.tup [.str one,.str other,.int lst,mO mo])) t2 (.tup [.str one,.str other])) F (.dT (putK kf (kP (one,other)) (.ref t1)))):=(((aP.tups pkc scd).new ht1).new ht2).put eF2 (fun _ z=>nomatch z)
       have HJ:upd (upd (upd Hd t1 (.tup [.str one,.str other,.int lst,mO mo])) t2 (.tup [.str one,.str other])) F (.dT (putK kf (kP (one,other)) (.ref t1))) t1=some (.tup [.str one,.str other,.int lst,mO mo]):=by
         rw [aF (aD eFd ht1).symm,aF (aD ao ht2)]; exact ao
       refine ⟨_,_,_,_,_,_,_,_,_,_,_,rfl,((pkd.new ht1).new ht2).put nF,fun b o hb e=>?_,ao,?_,fun kv hkv=>?_⟩
       . have z1:=(sbc.trans scd) b o hb e
         rw [aF (aD e hF)]
         exact (((aP.of (Same.refl Hd)).new ht1).new ht2) b o hb z1
       . exact adS (dH kf (kP (one,other)) (.ref t1)) (ahU kl 1)
       . rcases QT hkv with z | z
         . subst z
           exact ⟨((one,other),lst,mo),rfl,⟨t1,rfl,HJ⟩,⟨wz gh (MK _ m1),wz gh (MK _ m2),hl1,fun m e=>by have:=hmo m e; show lst<=m; omega,hh1,q1,hh2,r1,q2,r2,hne⟩,Et (JV eg1) (JV eg2) hl2 hmo⟩
         . refine aX fun eG aK=>?_
           obtain ⟨l,w1,w2,w3⟩:=foc kv z
           subst aK
           exact ⟨l,w1,w2.ts tt,w3⟩
     . refine aX fun eG aK=>?_
       obtain ⟨kf,o4,o5,o6,o7,xq,tM,RD,Gg,Hy,Gh,eσ,pk,sb,eF,kl,fo⟩:=ahT
       subst aK
       subst eσ
       obtain ⟨ks,ek,lk⟩:=fo.keys
       refine ⟨F,kf,ks,rfl,eF,ek,by omega,fun l9 as ks' hl9 pm' pw la ha=>?_⟩
       have lks:ks'.length=ks.length:=pm'.length_eq
       have s9:Same H' (upd H' l9 (.lst (as.map V.ref))):=(Same.refl H').upd hl9
       generalize Vb:upd H' l9 (.lst (as.map V.ref))=H9 at s9
       have h9:H9 l9=some (.lst (as.map V.ref)):=by rw [<- Vb]; exact ao
       refine ⟨l9,rfl,⟨_,bY.of h9⟩,fun D hD=>jY (xs:=as.map V.ref) (fun i eV=>∃ (zs:List V) (ls:List Letter),cL H9 eV D zs/\acN (cg H9) zs ls/\ls.map adB=ks'.take i/\∀ l∈ls,RM hs (gA kvs) l) ⟨[],[],cL.start hD,.nil,rfl,fun l hl=>by simp at hl⟩ (fun i eV _ ahZ=>by obtain ⟨_,_,G,_⟩:=ahZ; exact bY.of (G.same _ _ h9)) (fun eV ah0=>?_) (fun i x eV hx hi ah1 b=>?_)⟩
       . refine aX fun eG aK=>?_
         obtain ⟨zs,ls,G,pz,el,gl⟩:=ah0
         subst aK
         have lx:ks'.take (as.map V.ref).length=ks':=adN (by rw [aao]; omega)
         rw [lx] at el
         have l1:=congrArg af6 el
         rw [aao] at l1
         have l2:=pz.length
         refine ⟨D,zs,rfl,.inl ⟨bY.of G.at',fun t ht=>?_⟩⟩
         refine q (.ref t) ls _ ⟨t,zs,rfl,ao,aq (fun _ _ z=>z.ts (G.same.tups.new ht)) pz⟩ ⟨by omega,fun l hl=>(gl l hl).1,by rw [el]; exact pw⟩ (by omega) (fun l hl=>(gl l hl).2) ?_ ?_
         . obtain ⟨n,e,n0⟩:=pk
           exact (show bN eV p from ⟨n,G.same _ _ (s9 _ _ e),n0⟩).new ht
         . exact (((aP.of sH).trans (sb.trans (aP.of (s9.trans G.same)))).new ht)
       . refine aX fun eG aK=>?_
         obtain ⟨zs,ls,G,pz,el,gl⟩:=ah1
         subst aK
         rw [aaJ] at hx
         obtain ⟨a,ea,rfl⟩:∃ a,as[i]?=some a/\x=V.ref a:=by
           cases e:as[i]? with
           | none=>rw [e] at hx; cases hx
           | some a=>rw [e] at hx; exact ⟨a,rfl,(ac8 hx).symm⟩
         have li:i<ks'.length:=by rw [aao] at hi; omega
         have eki:ks'[i]?=some ks'[i]:=aaq li
         have hka:H' a=some (.tup ((kP ks'[i]).map kV)):=ha i a _ ea eki
         have mk:kP ks'[i]∈kf.map (·.1):=by
           rw [ek]
           exact abv (pm'.mem_iff.mp (afR li))
         obtain ⟨v,ev,mv⟩:=QV mk
         refine aX fun eG aK=>?_
         obtain ⟨l,w1,w2,w3⟩:=fo _ mv
         subst aK
         have el1:l.1=ks'[i]:=(GQ w1).symm
         have sg:Same H' eV:=s9.trans G.same
         refine ⟨F,v,rfl,ev ▸ iW.t (k:=kP ks'[i]) (sg _ _ eF) (sg _ _ hka),?_⟩
         have l2:=pz.length
         have l1:=congrArg af6 el
         rw [aao,abo] at l1
         refine ⟨zs,G.at',by omega,nx hi ⟨zs++[v],ls++[l],G.put hD v,aM pz (.cons (w2.ts s9.tups) .nil),?_,fun l' hl'=>?_⟩⟩
         . rw [abt,el,abj,eki]
           show _++[l.1]=_++[ks'[i]]
           rw [el1]
         . rcases abq.mp hl' with z | z
           . exact gl l' z
           . rw [abw.mp z]; exact w3
end
end mz
namespace mz
open PySem L2 gF
def qu (K:aas):Sp:=fun vs H Q _=>∃ (a:abm) (ns:List Int) (k:Int),vs=[.ref a,.int k]/\bY K H a (ns.map V.int)/\(∀ n∈ns,QG n)/\ns.length<=63/\0<=k/\k<=100/\∀ (x:V) (hs:List aA) (ls:List Letter) (H':Hp),bK H' x hs ls->cY hs->dI hs ls->(namesOf hs).length<=10->ls.length<=6->(∀ h∈hs,GoodW h)->Same H H'->Q x H'
def PvG (a hd ln lc lh dh:abm) (k d4:Int) (ss nmL:List Str) (H3:Hp):Nat->St->Hp->Prop:=fun i σ H'=>∃ (vh:List V) (hs:List aA) (kvs:List (Key × V)) (m:Nat) (o8 o9 xq tM:Option V),σ=[some (.ref a),some (.int k),some (.ref hd),some (.ref ln),some (.int (1+d4)),some (.ref lc),some (.ref lh),some (.ref dh),some (.int (10-(m:Int))),o8,o9,xq,tM]/\H' lh=some (.lst vh)/\acN (bC H') vh hs/\H' dh=some (.dK kvs)/\kvs.map (·.1)=(namesOf hs).map adz/\(∀ n∈namesOf hs,∃ i:Int,cJ kvs (.inr n)=some (.int i))/\namesOf hs=ss.take m/\m<=10/\hs.length=i/\hs.map aA.name=nmL.take i/\(∀ h∈hs,GoodW h)/\(∀ h∈hs,wW h (gA kvs)=true)/\Same H3 H'
section
variable {P:acs} {w:adH} {K:aas} {mg:Str->Option aau} {base:ae9} {t8 t6 tR tL:Tok}
theorem cj:bB ["_law_script","_law_k","_law_head","_law_names_here","_law_amount","_law_called","_law_houses","_law_hidden","_law_room","_law_j","_law_rest","_law_house_here","_law_more"] ["_law_script","_law_k"] (au jo):=⟨rfl,rfl,rfl,by decide +kernel,rfl,by decide +kernel,by decide +kernel⟩
theorem Ey {f qw BZ dY tO m8:abm} {fd rB Ez fG xr rC:aeF} (F:lX K "_law_ledger" "_law_ledger" jo f fd) (T:Txt mg t8 t6 tR tL)
   (tQ:aV P w K mg base cG 2 qw rB ["_law_script","_law_k"] (Bs K)) (tU:mg "_law_pack" = some (.ref qw)) (tW:aaw K (.ref qw)=true) (tX:Binds K rB ["_law_script","_law_k"] [])
   (JX:aV P w K mg base cG 2 BZ Ez ["_law_pack_here","_law_amount"] wG) (JZ:mg "_law_names" = some (.ref BZ)) (J0:aaw K (.ref BZ)=true) (J1:Binds K Ez ["_law_pack_here","_law_amount"] [])
   (cB:aV P w K mg base cG 2 dY fG ["_law_pack_here","_law_size"] qb) (cC:mg "_law_take" = some (.ref dY)) (cD:aaw K (.ref dY)=true) (cF:Binds K fG ["_law_pack_here","_law_size"] [])
   (MN:aV P w K mg base cG 2 tO xr ["_law_pack_here","_law_name","_law_names_here","_law_room"] tK) (MP:mg "_law_house" = some (.ref tO)) (M6:aaw K (.ref tO)=true) (M7:Binds K xr ["_law_pack_here","_law_name","_law_names_here","_law_room"] [])
   (EY:aV P w K mg base cG 2 m8 rC ["_law_pack_here","_law_houses","_law_hidden"] lN) (Fb:mg "_law_letters" = some (.ref m8)) (Fe:aaw K (.ref m8)=true) (Fg:Binds K rC ["_law_pack_here","_law_houses","_law_hidden"] []):aV P w K mg base cG 3 f fd ["_law_script","_law_k"] (qu K):=by
 refine F.ok cj (fun vs H Q E h=>?_) (fun cdv A outer s H vs Q E hr h=>?_)
 . obtain ⟨a,ns,k,rfl,_⟩:=h
   rfl
 . obtain ⟨a,ns,k,rfl,ha,hb,hl,k0,k1,q⟩:=h
   have mq:sizeLine=16777216:=acO
   refine ⟨_,(aB (aY (i:=2) cj.nd rfl (acz rfl) (aJ tQ hr rfl tU tW tX .nil aW (aj (pV 0) (aj (pV 1) ak)))) (aB (aY (i:=3) cj.nd rfl (acz rfl) (aJ JX hr rfl JZ J0 J1 .nil aW (aj (pV 2) (aj aC ak)))) (aB (aY (i:=4) cj.nd rfl (acz rfl) (bJ ji aC (aJ cB hr rfl cC cD cF .nil aW (aj (pV 2) (aj aC ak))))) (aB (aY (i:=5) cj.nd rfl (acz rfl) (aJ JX hr rfl JZ J0 J1 .nil aW (aj (pV 2) (aj aC ak)))) (aB (aY (i:=6) cj.nd rfl (acz rfl) (cW ak)) (aB (aY (i:=7) cj.nd rfl (acz rfl) vN) (aB (aY (i:=8) cj.nd rfl (acz rfl) aC) (aB (gC aeZ rfl (gJ rfl T.range (aj (pV 4) ak)) (aH (i:=9) cj.nd rfl (acz rfl)) (aB (aY (i:=10) cj.nd rfl (acz rfl) (cT Jm (pV 3) (Bf (aO yX rfl T.len ad4 (aj (pV 7) ak))) (Bf aC))) (aB (vH (aJ MN hr rfl MP M6 M7 .nil aW (aj (aJ tQ hr rfl tU tW tX .nil aW (aj (pV 0) (aj (bJ ji (bJ ji (pV 1) aC) (pV 9)) ak))) (aj (bG Lg (pV 5) (pV 9) (fun _ _=>rfl)) (aj (pV 10) (aj (pV 8) ak))))) (eU rfl (aR (aH (i:=11) cj.nd rfl (acz rfl)) (aR (aH (i:=12) cj.nd rfl (acz rfl)) dg)))) (aB (iK (pD ae0 afk afl fV (pV 6) (aj (pV 11) ak))) (aB (iK (pD aij aou PySem.F.type_dict_update Lq (pV 7) (aj (pV 12) ak))) (aG (aY (i:=8) cj.nd rfl (acz rfl) (bJ Lf aC (aO yX rfl T.len ad4 (aj (pV 7) ak)))))))))) (aG (aZ (cN (aj (bD bf rfl T.tuple abU (aj (pV 6) ak)) (aj (aJ EY hr rfl Fb Fe Fg .nil aW (aj (aJ tQ hr rfl tU tW tX .nil aW (aj (pV 0) (aj (bJ ji (pV 1) aC) ak))) (aj (pV 6) (aj (pV 7) ak)))) ak))))))))))))),?_⟩
   refine cV fun U1 Wy=>?_
   refine ⟨a,ns,k,rfl,ha,hb,hl,k0,by omega,fun hd H1 fhd Wg s1=>?_⟩
   show U1 _ _
   subst Wy
   refine cV fun U2 hU2=>?_
   refine ⟨hd,12,rfl,by decide,Wg,fun ln ss H2 fln eln l12 nd gs pk2 Ox=>?_⟩
   show U2 _ _
   subst hU2
   have S2:Same H H2:=mX s1 fhd Ox
   refine cV fun U3 hU3=>?_
   refine ⟨hd,4,rfl,pk2,by decide,by decide,fun d4 H3a d4a d4b ah3 acW=>?_⟩
   show U3 _ _
   subst hU3
   have S3a:Same H H3a:=mX S2 fhd acW
   refine cV fun U3b ah4=>?_
   refine ⟨hd,4,rfl,by decide,ah3,fun lc nmL H3 flc elc lnm ndm gsm OD sb3=>?_⟩
   show U3b _ _
   subst ah4
   have S3:Same H H3:=mX S3a fhd sb3
   have acX:ln≠hd:=fun z=>by obtain ⟨n,e,_⟩:=Wg; rw [<- z,fln] at e; cases e
   have acY:H3 ln=some (.lst (ss.map V.str)):=sb3 ln _ acX (acW ln _ acX eln)
   refine cV fun U4 hU4=>?_
   refine ⟨abV _,fun lh flh=>?_⟩
   show U4 _ _
   subst hU4
   refine cV fun U5 hU5=>?_
   refine fun dh fdh=>?_
   show U5 _ _
   subst hU5
   have S4:Same H3 (upd (upd H3 lh (.lst [])) dh (.dK [])):=((Same.refl H3).upd flh).upd fdh
   have nld:lh≠dh:=aD ao fdh
   have aqA:=S4 _ _ acY
   have e12:ss.length=12:=l12
   refine ⟨1+d4,rfl,by omega,by omega,jR (lo:=0) (n:=(1+d4).toNat) (PvG a hd ln lc lh dh k d4 ss nmL H3) ⟨[],[],[],0,none,none,none,none,rfl,(aF nld).trans ao,.nil,ao,rfl,fun n hn=>by simp [namesOf] at hn,rfl,by decide,rfl,rfl,fun h hh=>by simp at hh,fun h hh=>by simp at hh,S4⟩ (fun i σ H' hi ah6=>?_) (fun σ H' ah7=>?_)⟩
   . refine aX fun eG aK=>?_
     obtain ⟨vh,hs,kvs,m,o8,o9,xq,tM,eσ,elh,ph,edh,keys,vals,nms,m10,lhs,hnm,gh,kh,S⟩:=ah6
     subst aK
     subst eσ
     have i4:i<4:=by omega
     have lkv:kvs.length=m:=by
       have z:=congrArg af6 keys
       rw [aao,aao,nms,abo] at z
       omega
     have SH:Same H H':=S3.trans S
     refine ⟨dh,kvs,rfl,edh,?_⟩
     refine ⟨ln,_,rfl,bY.of (S _ _ acY),fun lr flr=>?_⟩
     have aax:mj (ss.map V.str) (some (kvs.length:Int)) (some 10)=((ss.take 10).drop m).map V.str:=by
       unfold mj
       rw [show (some 10:Option Int)=some ((10:Nat):Int) from rfl,HT.jh,HT.jh,aao,l12,lkv,aib (show m<=12 by omega),aib (show 10<=12 by decide),<- List.map_drop,<- aqI,aob]
     rw [aax]
     have s5:Same H' (upd H' lr (.lst (((ss.take 10).drop m).map V.str))):=(Same.refl H').upd flr
     generalize Yr:upd H' lr (.lst (((ss.take 10).drop m).map V.str))=H5 at s5
     have elr:H5 lr=some (.lst (((ss.take 10).drop m).map V.str)):=by rw [<- Yr]; exact ao
     have SH5:Same H H5:=SH.trans s5
     refine ⟨a,ns,k+1+(0+(i:Int)),rfl,qZ SH5 ha,hb,hl,by omega,by omega,fun p H6 fp zP s6=>?_⟩
     obtain ⟨nm,enm⟩:∃ nm,nmL[i]?=some nm:=⟨nmL[i]'(by rw [lnm]; exact i4),aaq _⟩
     have eat:Cz (nmL.map V.str) (0+(i:Int))=some (.str nm):=by
       rw [apO]
       exact iR (by rw [aaJ,enm]; rfl)
     refine uQ (xs:=nmL.map V.str) (s6 _ _ (s5 _ _ (S _ _ elc))) eat ?_
     have gnm:Good nm:=gsm nm (abg enm)
     have s7:Same H5 H6:=s6
     have J2:bN H6 p:=zP
     have ssl:((ss.take 10).drop m).length=10-m:=by rw [ae4,abo]; omega
     have sub:((ss.take 10).drop m).Sublist ss:=(List.drop_sublist _ _).trans (agU _ _)
     refine ⟨p,nm,lr,(ss.take 10).drop m,10-(m:Int),rfl,J2,gnm,s7 _ _ elr,by omega,sub.nodup nd,fun s hs'=>gs s (sub.subset hs'),fun r d hv hh kv m' H8 fr fd er hat ghh ehn HN le rm ed J3 vals2 HW sb8 kph=>?_⟩
     have fp5:H5 p=none:=fp
     have S8:Same H5 H8:=mX s7 fp5 sb8
     refine ⟨r,_,rfl,bA.of er,rfl,_,_,rfl,_,_,rfl,rfl,?_⟩
     have RN:H8 lh=some (.lst vh):=S8 _ _ (s5 _ _ elh)
     have aay:H8 dh=some (.dK kvs):=S8 _ _ (s5 _ _ edh)
     refine ⟨.inl ⟨rfl,_,bY.of RN⟩,?_⟩
     have lv:=ph.length
     refine ⟨lh,vh,_,rfl,rfl,RN,by omega,?_⟩
     have ndd:dh≠d:=fun z=>by
       rw [<- z] at fd
       have w:=(s7 _ _ (s5 _ _ edh))
       cases (fd.symm.trans w)
     have Ys:dh≠lh:=fun z=>by rw [z,RN] at aay; cases aay
     have ah9:d≠lh:=fun z=>by rw [z,RN] at ed; cases ed
     have aaz:upd H8 lh (.lst (vh++[hv])) dh=some (.dK kvs):=(aF Ys).trans aay
     have ed9:upd H8 lh (.lst (vh++[hv])) d=some (.dK kv):=(aF ah9).trans ed
     have aia:kv.length=m':=by
       have z:=congrArg af6 J3
       rw [aao,aao,abo] at z
       omega
     refine ⟨.inr (.inr (.inl ⟨rfl,.inl ⟨_,aaz⟩⟩)),?_⟩
     refine ⟨dh,d,kvs,kv,rfl,rfl,ndd,aaz,ed9,by omega,?_⟩
     have mm:m+m'<=10:=by omega
     have e10:namesOf (hs++[hh])=ss.take (m+m'):=by
       have z:namesOf (hs++[hh])=namesOf hs++bT hh:=by unfold namesOf; rw [aeJ]; simp
       rw [z,nms,HN,aob,List.take_take,List.take_add,aib (by omega)]
     have ndk:(ss.take (m+m')).Nodup:=(agU _ _).nodup nd
     have aaA:ss.take (m+m')=ss.take m++((ss.take 10).drop m).take m':=by
       rw [<- e10]
       unfold namesOf
       rw [aeJ]
       have z:hs.flatMap bT=ss.take m:=nms
       rw [z,<- HN]; simp
     have inj:∀ l:List Str,l.Nodup->(l.map (adz:Str->Key)).Nodup:=fun l hl=>by
       rw [aa2,acK]
       exact (aa2.mp hl).imp fun h z=>h (afA z)
     have ac0:=inj _ ndk
     rw [aaA,abt] at ac0
     obtain ⟨nda,ndb,ndc⟩:=aeS.mp ac0
     have emk:iz kvs kv=kvs++kv:=qd kv kvs (by rw [J3]; exact ndb) (fun x hx z=>by
       rw [J3] at hx
       rw [keys,nms] at z
       exact ndc x z x hx rfl)
     rw [emk]
     have tt:bZ H8 (upd (upd H8 lh (.lst (vh++[hv]))) dh (.dK (kvs++kv))):=((bZ.refl H8).put RN (fun _ z=>nomatch z)).put aaz (fun _ z=>nomatch z)
     refine ⟨dh,_,rfl,ao,?_⟩
     refine ⟨vh++[hv],hs++[hh],kvs++kv,m+m',some (.int (0+(i:Int))),some (.ref lr),some hv,some (.ref d),?_,(aF (afv Ys)).trans ao,?_,ao,?_,?_,e10,mm,by rw [abe,lhs]; rfl,?_,?_,?_,?_⟩
     . have el:(10-((kvs++kv).length:Int))=10-((m+m':Nat):Int):=by rw [abe,lkv,aia]
       show [_,_,_,_,_,_,_,_,some (V.int (10-((kvs++kv).length:Int))),_,_,_,_]=_
       rw [el]
     . refine aM (aq (fun _ _ z=>(z.ts s5.tups).ts (S8.tups.trans tt)) ph) (.cons (hat.ts tt) .nil)
     . rw [abt,keys,J3,e10,nms,aaA,abt]
     . intro n hn
       rw [e10,aaA] at hn
       rw [wA]
       rcases abq.mp hn with z | z
       . obtain ⟨v,ev⟩:=vals n (by rw [nms]; exact z)
         exact ⟨v,by rw [ev]; rfl⟩
       . obtain ⟨v,ev⟩:=vals2 n z
         refine ⟨v,?_⟩
         have no:cJ kvs (.inr n)=none:=zB (fun y=>by
           rw [keys,nms] at y
           exact ndc (adz n) y (adz n) (abv z) rfl)
         rw [no,ev]; rfl
     . rw [abt,hnm,abj,enm,<- ehn]; rfl
     . intro h hh'
       rcases abq.mp hh' with z | z
       . exact gh h z
       . rw [abw.mp z]; exact ghh
     . have a1:∀ n∈namesOf hs,gA (kvs++kv) n=gA kvs n:=fun n hn=>by
         obtain ⟨v,ev⟩:=vals n hn
         exact Mz ev
       have a2:∀ n∈bT hh,gA (kvs++kv) n=gA kv n:=fun n hn=>MF (zB (fun y=>by
           rw [keys,nms] at y
           rw [HN] at hn
           exact ndc (adz n) y (adz n) (abv hn) rfl))
       intro h hh'
       rcases abq.mp hh' with z | z
       . rw [zO fun n hn=>a1 n (adG.mpr ⟨h,z,hn⟩)]; exact kh h z
       . rw [abw.mp z,zO a2]; exact kph
     . intro b o e
       have z:=S8 _ _ (s5 _ _ (S _ _ e))
       have n1:b≠lh:=aD e flh
       have n2:b≠dh:=fun y=>by
         rw [y] at e
         have:=(aF (o:=.lst []) (afv nld)).trans e
         rw [fdh] at this; cases this
       rw [aF n2,aF n1]; exact z
   . refine aX fun eG aK=>?_
     obtain ⟨vh,hs,kvs,m,o8,o9,xq,tM,eσ,elh,ph,edh,keys,vals,nms,m10,lhs,hnm,gh,kh,S⟩:=ah7
     subst aK
     subst eσ
     have SH:Same H H':=S3.trans S
     have lv:=ph.length
     have ln':hs.length<=4:=by omega
     refine ⟨lh,vh,rfl,.inl ⟨bY.of elh,fun t1 rD=>?_⟩⟩
     have s5:Same H' (upd H' t1 (.tup vh)):=(Same.refl H').upd rD
     generalize Yr:upd H' t1 (.tup vh)=H5 at s5
     have HJ:H5 t1=some (.tup vh):=by rw [<- Yr]; exact ao
     refine ⟨a,ns,k+5,rfl,qZ (SH.trans s5) ha,hb,hl,by omega,by omega,fun p H6 fp zP s6=>?_⟩
     have s56:Same H' H6:=s5.trans s6
     have ndn:(namesOf hs).Nodup:=by rw [nms]; exact (agU _ _).nodup nd
     have ac1:(namesOf hs).length<=24:=by rw [nms,abo]; omega
     refine ⟨p,lh,dh,vh,hs,kvs,rfl,zP,s56 _ _ elh,aq (fun _ _ z=>z.ts s56.tups) ph,by omega,(fun h hh=>(gh h hh).tocQ),ndn,ac1,s56 _ _ edh,keys,vals,fun x ls H7 lat gl l6 kls J2 sb7=>?_⟩
     have S7:Same H5 H7:=mX s6 fp sb7
     refine ⟨by show 2<=sizeLine; omega,fun t ft=>?_⟩
     have S7t:Same H5 (upd H7 t (.tup [.ref t1,x])):=S7.upd ft
     refine q (.ref t) hs ls _ ⟨t,.ref t1,x,rfl,ao,⟨t1,vh,rfl,S7t _ _ HJ,aq (fun _ _ z=>z.ts (s5.trans S7t).tups) ph⟩,lat.ts ((bZ.refl H7).new ft)⟩ ⟨by omega,by omega,(fun h hh=>(gh h hh).tocQ),by rw [hnm]; exact (agU _ _).nodup ndm,ndn,ac1⟩ gl (by rw [nms,abo]; omega) l6 gh (SH.trans (s5.trans S7t))
end
end mz
namespace L2
open PySem PySem.Spec PyProof.Rows PySem.W
namespace ST
abbrev Pb:=SetTable.Probe
def CG (m:Nat) (p:Pb):Pb:=if p.more > 0 then { p with j:=p.j+1,more:=p.more-1 } else { p with j:=(afb m p.i p.perturb).1,more:=ady m (afb m p.i p.perturb).1-(afb m p.i p.perturb).1,i:=(afb m p.i p.perturb).1,perturb:=(afb m p.i p.perturb).2 }
theorem RP (t:aiH) (p:Pb):t.advance p=CG t.mask p:=rfl
def sq (m:Nat) (p:Pb):Nat->Pb
 | 0=>p
 | n+1=>CG m (sq m p n)
theorem tY (m:Nat) (p:Pb) (a:Nat):∀ b,sq m p (a+b)=sq m (sq m p a) b
 | 0=>rfl
 | b+1=>by show CG m (sq m p (a+b))=CG m (sq m (sq m p a) b); rw [tY m p a b]
def at0 (m i q:Nat):Pb:={ j:=i,more:=ady m i-i,i:=i,perturb:=q,dummy:=none }
def st (m:Nat) (h:Int):Pb:=at0 m (afc h % (m+1)) (afc h)
theorem ac2 (t:aiH) (h:Int):t.probeStart h=st t.mask h:=rfl
def lp (m i q:Nat):Nat->Nat × Nat
 | 0=>(i,q)
 | n+1=>afb m (lp m i q n).1 (lp m i q n).2
theorem Fj (m i q:Nat):∀ n,lp m i q (n+1)=lp m (afb m i q).1 (afb m i q).2 n
 | 0=>rfl
 | n+1=>by show afb m (lp m i q (n+1)).1 (lp m i q (n+1)).2=afb m _ _; rw [Fj m i q n]
theorem RQ (m i q a:Nat):∀ b,lp m i q (a+b)=lp m (lp m i q a).1 (lp m i q a).2 b
 | 0=>rfl
 | b+1=>by show afb m (lp m i q (a+b)).1 (lp m i q (a+b)).2=afb m _ _; rw [RQ m i q a b]
theorem aif (m i:Nat):ady m i-i<=9:=by unfold ady; split <;> omega
theorem Ca (m i q:Nat):∀ r,r<=ady m i-i->sq m (at0 m i q) r={ j:=i+r,more:=ady m i-i-r,i:=i,perturb:=q,dummy:=none }
 | 0,_=>rfl
 | r+1,h=>by
   show CG m (sq m (at0 m i q) r)=_
   rw [Ca m i q r (by omega)]
   unfold CG
   rw [if_pos (show ady m i-i-r > 0 by omega)]
   congr 1
theorem xu (m i q:Nat):sq m (at0 m i q) (ady m i-i+1)=at0 m (afb m i q).1 (afb m i q).2:=by
 show CG m (sq m (at0 m i q) (ady m i-i))=_
 rw [Ca m i q _ (aav _)]
 unfold CG
 rw [if_neg (show ¬ ady m i-i-(ady m i-i) > 0 by omega)]
 rfl
theorem Yt (m i q:Nat):∀ n,∃ c,c<=10 * n/\sq m (at0 m i q) c=at0 m (lp m i q n).1 (lp m i q n).2
 | 0=>⟨0,aav _,rfl⟩
 | n+1=>by
   obtain ⟨c,hc,e⟩:=Yt m i q n
   have r9:=aif m (lp m i q n).1
   refine ⟨c+(ady m (lp m i q n).1-(lp m i q n).1+1),by omega,?_⟩
   rw [tY,e,xu]
   rfl
theorem ac3 (m i q:Nat):∀ n,(lp m i q n).2=q / 32 ^ n
 | 0=>by show q=_; simp
 | n+1=>by
   show (lp m i q n).2 / 32=_
   rw [ac3 m i q n,Nat.div_div_eq_div_mul,Nat.pow_succ]
theorem J4 (h:Int):afc h<2 ^ 64:=by
 unfold afc
 have a:0<=h % (2 ^ 64:Int):=apJ _ (by decide)
 have b:h % (2 ^ 64:Int)<2 ^ 64:=aqH _ (by decide)
 omega
theorem ac4 (m i q:Nat) (hi:i<=m):∀ n,(lp m i q n).1<=m
 | 0=>hi
 | n+1=>by
   show (_ % (m+1))<=m
   exact ai5 (ant _ (amr _))
def WK (m:Nat):Bool:=(acy (m+1)).all fun i=>(acy (m+1)).all fun j=>(acy (m+1)).any fun n=>(lp m i 0 n).1 == j
theorem aii:WK 7=true:=by decide +kernel
theorem ac5:WK 31=true:=by decide +kernel
theorem aaB {m:Nat} (c:WK m=true) {i j:Nat} (hi:i<=m) (hj:j<=m):∃ n,n<=m/\(lp m i 0 n).1=j:=by
 have a:=acL.mp (acL.mp c i (adA.mpr (by omega))) j (adA.mpr (by omega))
 obtain ⟨n,hn,e⟩:=anf.mp a
 exact ⟨n,by have:=adA.mp hn; omega,beq_iff_eq.mp e⟩
theorem Yu {m:Nat} (c:WK m=true) {i q j:Nat} (hq:q<2 ^ 64) (hi:i<=m) (hj:j<=m):∃ n,n<=13+m/\(lp m i q n).1=j:=by
 have z:(lp m i q 13).2=0:=by
   rw [ac3]
   exact Nat.div_eq_of_lt (ado hq (by decide))
 obtain ⟨n,hn,e⟩:=aaB c (ac4 m i q hi 13) hj
 exact ⟨13+n,by omega,by rw [RQ,z]; exact e⟩
theorem meets {m:Nat} (c:WK m=true) (h:Int) {j:Nat} (hj:j<=m):∃ n,n<10 * afJ m/\(sq m (st m h) n).j=j:=by
 obtain ⟨n,hn,e⟩:=Yu (i:=afc h % (m+1)) c (J4 h) (ai5 (ant _ (amr _))) hj
 obtain ⟨c,hc,e2⟩:=Yt m (afc h % (m+1)) (afc h) n
 exact ⟨c,by unfold afJ; omega,by unfold st; rw [e2]; exact e⟩
theorem M8 {m i:Nat} (h:i<=m):ady m i<=m:=by unfold ady; split <;> omega
theorem Fl (m:Nat) (h:Int) (n:Nat):(sq m (st m h) n).j<=m:=by
 have key:∀ n,(sq m (st m h) n).j+(sq m (st m h) n).more<=m:=by
   have go:∀ i,i<=m->i+(ady m i-i)<=m:=fun i hi=>by have:=M8 hi; omega
   intro n
   induction n with
   | zero=>exact go _ (ai5 (ant _ (amr _)))
   | succ n ih =>
     show (CG m (sq m (st m h) n)).j+(CG m (sq m (st m h) n)).more<=m
     unfold CG
     split
     . show _+1+(_-1)<=m; omega
     . exact go _ (ai5 (ant _ (amr _)))
 have:=key n; omega
theorem least {p:Nat->Prop} (hd:∀ n,p n∨¬ p n):∀ n,p n->∃ k,k<=n/\p k/\∀ l,l<k->¬ p l:=by
 intro n
 induction n using Nat.strongRecOn with
 | ind n ih =>
   intro hn
   rcases am9 (∃ l,l<n/\p l) with ⟨l,hl,pl⟩ | z
   . obtain ⟨k,hk,r⟩:=ih l hl pl
     exact ⟨k,by omega,r⟩
   . exact ⟨n,aav _,hn,fun l hl pl=>z ⟨l,hl,pl⟩⟩
section
variable {α:Type}
def fm (m:Nat) (f:Nat->Option α):List α:=(acy (m+1)).filterMap f
theorem fmc {β:Type} {f g:α->Option β}:∀ {l:List α},(∀ x∈l,f x=g x)->l.filterMap f=l.filterMap g
 | [],_=>rfl
 | x :: l,h=>by rw [aeT,aeT,h x aaU,fmc fun y hy=>h y (aaM _ hy)]
def put (f:Nat->Option α) (j:Nat) (x:α):Nat->Option α:=fun i=>if i=j then some x else f i
def lo (f:Nat->Option α) (j:Nat):List α:=(acy j).filterMap f
def hi (m:Nat) (f:Nat->Option α) (j:Nat):List α:=(List.range' (j+1) (m-j)).filterMap f
theorem RT {m j:Nat} (h:j<=m):acy (m+1)=acy j++j :: List.range' (j+1) (m-j):=by
 rw [ap8,ap8,show m+1=j+(m-j+1) by omega,<- List.range'_append_1,List.range'_succ,Nat.zero_add]
theorem m9 (f:Nat->Option α) {m j:Nat} (h:j<=m):fm m f=lo f j++((f j).toList++hi m f j):=by
 unfold fm lo hi
 rw [RT h,List.filterMap_append,aeT]
 cases f j <;> rfl
theorem aaC {f:Nat->Option α} {j:Nat} {x:α}:lo (put f j x) j=lo f j:=by
 unfold lo
 refine fmc fun i hi=>?_
 unfold put
 rw [if_neg (by have:=adA.mp hi; omega)]
theorem aaD {m:Nat} {f:Nat->Option α} {j:Nat} {x:α}:hi m (put f j x) j=hi m f j:=by
 unfold hi
 refine fmc fun i hi=>?_
 unfold put
 rw [if_neg (by have:=(aqU.mp hi).1; omega)]
theorem xG {f:Nat->Option α} {m j:Nat} {x:α} (h:j<=m) (n:f j=none):fm m (put f j x)=lo f j++x :: hi m f j/\fm m f=lo f j++hi m f j:=by
 rw [m9 (put f j x) h,m9 f h,aaC,aaD,n]
 refine ⟨?_,rfl⟩
 show _++((if j=j then some x else f j).toList++_)=_
 rw [if_pos rfl]; rfl
theorem J5 {f:Nat->Option α} {m j:Nat} {x:α} (h:j<=m) (n:f j=none):(fm m (put f j x)).Perm (x :: fm m f):=by
 obtain ⟨a,b⟩:=xG (x:=x) h n
 rw [a,b]
 exact List.perm_middle
theorem J6 {f:Nat->Option α} {m:Nat} (h:(fm m f).length<=m):∃ j,j<=m/\f j=none:=by
 rcases am9 (∃ j,j<=m/\f j=none) with z | z
 . exact z
 . exfalso
   have all:∀ j,j<=m->(f j).isSome=true:=fun j hj=>by
     cases e:f j with
     | none=>exact absurd ⟨j,hj,e⟩ z
     | some _=>rfl
   have len:∀ l:List Nat,(∀ j∈l,j<=m)->(l.filterMap f).length=l.length:=by
     intro l
     induction l with
     | nil=>intro _; rfl
     | cons j l ih =>
       intro hl
       obtain ⟨x,e⟩:=ahX.mp (all j (hl j aaU))
       rw [aoy e,acM,acM,ih fun i hi=>hl i (aaM _ hi)]
   have:=len (acy (m+1)) (fun j hj=>by have:=adA.mp hj; omega)
   rw [afg] at this
   unfold fm at h
   omega
theorem ni {f:Nat->Option α} {m:Nat} {x:α}:x∈fm m f↔∃ j,j<=m/\f j=some x:=by
 unfold fm
 rw [aiG]
 constructor
 . rintro ⟨j,hj,e⟩; exact ⟨j,by have:=adA.mp hj; omega,e⟩
 . rintro ⟨j,hj,e⟩; exact ⟨j,adA.mpr (by omega),e⟩
theorem xH {β:Type} (g:α->β) (f:Nat->Option α) (m:Nat):(fm m f).map g=fm m fun j=>(f j).map g:=by
 unfold fm; rw [aiI]
def qM (f:Nat->Option α):Nat->Option Nat:=fun j=>if (f j).isSome then some j else none
theorem oO (f:Nat->Option α) (l:List Nat):(l.filterMap (qM f)).length=(l.filterMap f).length:=by
 induction l with
 | nil=>rfl
 | cons j l ih =>
   have e:qM f j=if (f j).isSome then some j else none:=rfl
   rw [aeT,aeT,e]
   cases f j with
   | none=>simpa using ih
   | some _=>simpa using ih
theorem WL {f:Nat->Option α} {j:Nat} {x:α}:qM (put f j x)=put (qM f) j j:=by
 funext i
 unfold qM put
 by_cases e:i=j
 . subst e; simp
 . simp [e]
end
theorem xJ (xs:Array Nat) (j c:Nat) (hp:∀ k,k<xs.size->(xs.getD k j<j↔k<c)):∀ f lo hi,lo<=c->c<=hi->hi<=xs.size->hi-lo<=f->aqW xs j f lo hi=c
 | 0,lo,hi,h1,h2,h3,h4=>by show lo=c; omega
 | f+1,lo,hi,h1,h2,h3,h4=>by
   unfold aqW
   by_cases e:lo<hi
   . rw [if_pos e]
     have e1:(lo+hi) / 2<hi:=by omega
     have e0:lo<=(lo+hi) / 2:=by omega
     have p:=hp ((lo+hi) / 2) (by omega)
     dsimp only
     by_cases q:xs.getD ((lo+hi) / 2) j<j
     . rw [if_pos q]
       have:=p.mp q
       exact xJ xs j c hp f _ _ (by omega) h2 h3 (by omega)
     . rw [if_neg q]
       have:¬ (lo+hi) / 2<c:=fun z=>q (p.mpr z)
       exact xJ xs j c hp f _ _ h1 (by omega) (by omega) (by omega)
   . rw [if_neg e]; omega
theorem below_app {l1 l2:List Nat} {j:Nat} (h1:∀ x∈l1,x<j) (h2:∀ x∈l2,j<=x) {xs:Array Nat} (e:xs.toList=l1++l2):aoi xs j=l1.length:=by
 have sz:xs.size=l1.length+l2.length:=by rw [<- abr,e,abe]
 unfold aoi
 refine xJ xs j l1.length (fun k hk=>?_) _ _ _ (abV _) (by omega) (aav _) (by omega)
 have g:xs.getD k j=(l1++l2).getD k j:=by
   rw [<- e,adO,ai7,adT]
 rw [g]
 constructor
 . intro lt
   rcases afu k l1.length with z | z
   . exact z
   . exfalso
     have hk2:k-l1.length<l2.length:=by omega
     rw [ai7,aeW z,aaq hk2,Option.getD_some] at lt
     have:=h2 _ (afR hk2)
     omega
 . intro lt
   rw [ai7,afe lt,aaq lt,Option.getD_some]
   exact h1 _ (afR lt)
section
variable {α:Type} {f:Nat->Option α} {m j:Nat} {t:aiH}
theorem ac6 {x:Nat} (h:x∈lo (qM f) j):x<j:=by
 obtain ⟨i,hi,e⟩:=aiG.mp h
 unfold qM at e
 split at e
 . cases e; exact adA.mp hi
 . cases e
theorem ac7 {x:Nat} (h:x∈hi m (qM f) j):j<x:=by
 obtain ⟨i,hi,e⟩:=aiG.mp h
 unfold qM at e
 split at e
 . cases e; have:=(aqU.mp hi).1; omega
 . cases e
theorem J7 (hp:t.place.toList=fm m (qM f)) (hj:j<=m):aoi t.place j=(lo f j).length:=by
 rw [m9 _ hj] at hp
 rw [below_app (l1:=lo (qM f) j) (fun x hx=>ac6 hx) (fun x hx=>?_) hp]
 . exact oO f _
 . rcases abq.mp hx with z | z
   . unfold qM at z
     split at z
     . simp at z; omega
     . simp at z
   . have:=ac7 z; omega
theorem M9 (hp:t.place.toList=fm m (qM f)) (hd:t.dummies=#[]) (hj:j<=m) (n:f j=none):t.slot j=.empty:=by
 unfold SetTable.slot
 dsimp only
 have nin:∀ i,t.place[i]?≠some j:=fun i e=>by
   have z:j∈t.place.toList:=ahR.mpr (apP e)
   rw [hp] at z
   obtain ⟨i,_,e⟩:=ni.mp z
   unfold qM at e
   split at e
   . cases e
     rename_i h
     rw [n] at h; cases h
   . cases e
 rw [if_neg (by simpa using nin _),hd]
 rw [if_neg]
 unfold SetTable.has
 simp
theorem zQ (hp:t.place.toList=fm m (qM f)) (hj:j<=m) {x:α} (e:f j=some x):t.slot j=.live (lo f j).length:=by
 unfold SetTable.slot
 dsimp only
 have b:=J7 hp hj
 have g:t.place[(lo f j).length]?=some j:=by
   rw [<- adT,hp,m9 _ hj,aeW (show (lo (qM f) j).length<=(lo f j).length from Nat.le_of_eq (oO f (acy j)))]
   have z:(lo f j).length-(lo (qM f) j).length=0:=by
     have:=oO f (acy j)
     unfold lo; omega
   rw [z]
   unfold qM
   rw [e]; rfl
 rw [b,g,if_pos (by simp)]
theorem aaE {xs:Array α} (hx:xs.toList=fm m f) (hj:j<=m) {x:α} (e:f j=some x):xs[(lo f j).length]?=some x:=by
 rw [<- adT,hx,m9 _ hj,aeW (aav _),Nat.sub_self,e]
 rfl
theorem Nb (hp:t.place.toList=fm m (qM f)) (hd:t.dummies=#[]) (hj:j<=m) (n:f j=none) (x:α) :
   t.put j=({ t with place:=adv t.place (lo f j).length j },(lo f j).length)/\(adv t.place (lo f j).length j).toList=fm m (qM (put f j x)):=by
 have b:=J7 hp hj
 have no:qM f j=none:=by unfold qM; rw [n]; rfl
 refine ⟨?_,?_⟩
 . unfold SetTable.put
   dsimp only
   rw [b,hd,if_neg]
   unfold SetTable.has
   simp
 . rw [aoz,hp,WL,(xG (x:=j) hj no).1,(xG (x:=j) hj no).2]
   have l:(lo f j).length=(lo (qM f) j).length:=(oO f _).symm
   rw [l]
   simp
theorem WM {xs:Array α} (hx:xs.toList=fm m f) (hj:j<=m) (n:f j=none) (x:α):(adv xs (lo f j).length x).toList=fm m (put f j x):=by
 rw [aoz,hx,(xG (x:=x) hj n).1,(xG (x:=x) hj n).2]
 simp
end
end ST
end L2
namespace L2
open PySem PySem.Spec PyProof.Rows PySem.W
namespace ST
section
variable {κ:Type} {hs:κ->Int} {f:Nat->Option (κ × abm)} {m:Nat} {t:aiH} {es:Array (Int × aau)}
def ent (hs:κ->Int) (x:κ × abm):Int × aau:=(hs x.1,.ref x.2)
def Reach (hs:κ->Int) (m:Nat) (f:Nat->Option (κ × abm)):Prop:=∀ j x,j<=m->f j=some x->∃ n,(sq m (st m (hs x.1)) n).j=j/\∀ l,l<n->(f (sq m (st m (hs x.1)) l).j).isSome=true
structure Tb (hs:κ->Int) (m:Nat) (f:Nat->Option (κ × abm)) (t:aiH) (es:Array (Int × aau)):Prop where
 mask:t.mask=m
 cy:WK m=true
 odd:m % 2=1
 dum:t.dummies=#[]
 place:t.place.toList=fm m (qM f)
 ents:es.toList=fm m fun j=>(f j).map (ent hs)
 reach:Reach hs m f
 room:(fm m f).length * 5<m * 3
theorem Tb.size (T:Tb hs m f t es):es.size=(fm m f).length:=by
 rw [<- abr,T.ents,<- xH,aao]
theorem Tb.ac9 (T:Tb hs m f t es):t.place.size=(fm m f).length:=by
 rw [<- abr,T.place]; exact oO f _
theorem fits_of {n:Nat} (hd:t.dummies=#[]) (hp:t.place.size=n) (hm:n<=t.mask):t.fits n=true:=by
 unfold SetTable.fits SetTable.fill
 rw [hd]
 simp only [afr,beq_iff_eq,decide_eq_true_eq]
 exact ⟨hp,by show t.place.size+0<=t.mask; omega⟩
theorem Tb.fits (T:Tb hs m f t es):t.fits es.size=true:=fits_of T.dum (by rw [T.ac9,T.size]) (by rw [T.size,T.mask]; have:=T.room; omega)
theorem Tb.free (T:Tb hs m f t es) (h:Int):∃ N,N<10 * afJ m/\f (sq m (st m h) N).j=none/\∀ l,l<N->∃ x,f (sq m (st m h) l).j=some x:=by
 obtain ⟨j,hj,e⟩:=J6 (f:=f) (m:=m) (by have:=T.room; omega)
 obtain ⟨n,hn,e2⟩:=meets T.cy h hj
 obtain ⟨N,hN,p,q⟩:=least (p:=fun n=>f (sq m (st m h) n).j=none) (fun n=>am9 _) n (by rw [e2]; exact e)
 refine ⟨N,by omega,p,fun l hl=>?_⟩
 cases z:f (sq m (st m h) l).j with
 | none=>exact absurd z (q l hl)
 | some x=>exact ⟨x,rfl⟩
theorem Tb.found (T:Tb hs m f t es) {k:κ} {b:abm} {j N:Nat} (hj:j<=m) (e:f j=some (k,b)) (hN:f (sq m (st m (hs k)) N).j=none):∃ n,n<N/\f (sq m (st m (hs k)) n).j=some (k,b):=by
 obtain ⟨n,en,all⟩:=T.reach j _ hj e
 refine ⟨n,?_,by rw [en]; exact e⟩
 rcases Nat.lt_trichotomy n N with z | z | z
 . exact z
 . subst z
   rw [en,e] at hN; cases hN
 . have:=all N z
   rw [hN] at this; cases this
theorem Reach.more {j:Nat} {k:κ} {b:abm} (R:Reach hs m f) {N:Nat} (n:f j=none) (eN:(sq m (st m (hs k)) N).j=j) (all:∀ l,l<N->∃ x,f (sq m (st m (hs k)) l).j=some x):Reach hs m (put f j (k,b)):=by
 have up:∀ i,(f i).isSome=true->(put f j (k,b) i).isSome=true:=fun i h=>by
   unfold put; split
   . rfl
   . exact h
 intro i x hi e
 unfold put at e
 split at e
 . cases e
   rename_i eij
   exact ⟨N,eN.trans eij.symm,fun l hl=>up _ (by obtain ⟨x,e⟩:=all l hl; rw [e]; rfl)⟩
 . obtain ⟨n,en,al⟩:=R i x hi e
   exact ⟨n,en,fun l hl=>up _ (al l hl)⟩
theorem RV {hashAt:Nat->Int} {h:Int} {p:Pb} (hm:t.mask=m) (hp:t.place.toList=fm m (qM f)) (hd:t.dummies=#[]) (hin:∀ n,(sq m p n).j<=m) :
   ∀ (F:Nat) (N:Nat),N<F->f (sq m p N).j=none->(∀ l,l<N->∃ x,f (sq m p l).j=some x) ->
     (aoA t hashAt h F p=some (.empty (sq m p N).j p.dummy)/\∀ l,l<N->hashAt (lo f (sq m p l).j).length≠h) ∨
     ∃ n,n<N/\aoA t hashAt h F p=some (.candidate (sq m p n).j (lo f (sq m p n).j).length (sq m p (n+1)))/\hashAt (lo f (sq m p n).j).length=h/\∀ l,l<n->hashAt (lo f (sq m p l).j).length≠h:=by
 intro F
 induction F generalizing p with
 | zero=>intro N hN; omega
 | succ F ih =>
   intro N hN e all
   unfold aoA
   by_cases z:N=0
   . subst z
     rw [show t.slot p.j=.empty from M9 hp hd (hin 0) e]
     exact .inl ⟨rfl,fun l hl=>by omega⟩
   . obtain ⟨x,ex⟩:=all 0 (by omega)
     rw [show t.slot p.j=.live (lo f p.j).length from zQ hp (hin 0) ex]
     dsimp only
     by_cases q:hashAt (lo f p.j).length=h
     . refine .inr ⟨0,by omega,?_,q,fun l hl=>by omega⟩
       rw [if_pos (beq_iff_eq.mpr q),RP,hm]
       rfl
     . rw [if_neg (by rw [beq_iff_eq]; exact q),RP,hm]
       have sh:∀ n,sq m (CG m p) n=sq m p (n+1):=fun n=>by rw [apq,tY]; rfl
       have sh0:(CG m p).dummy=p.dummy:=by unfold CG; split <;> rfl
       have key:=ih (p:=CG m p) (fun n=>by rw [sh]; exact hin _) (N-1) (by omega) (by rw [sh,show N-1+1=N by omega]; exact e) (fun l hl=>by rw [sh]; exact all _ (by omega))
       have ahead:∀ {c:Nat},(∀ l,l<c->hashAt (lo f (sq m (CG m p) l).j).length≠h)->∀ l,l<c+1->hashAt (lo f (sq m p l).j).length≠h:=fun {c} a l hl=>by
         cases l with
         | zero=>exact q
         | succ l=>have:=a l (by omega); rw [sh] at this; exact this
       rcases key with ⟨k1,k2⟩ | ⟨n,hn,k1,k2,k3⟩
       . refine .inl ⟨?_,fun l hl=>ahead k2 l (by omega)⟩
         rw [k1,sh,show N-1+1=N by omega,sh0]
       . refine .inr ⟨n+1,by omega,?_,?_,ahead k3⟩
         . rw [k1,sh,sh]
         . rw [<- sh]; exact k2
theorem J8 {own:Array (Option Nat)}:∀ (F i q:Nat),(∃ d,d<F/\(own.getD (lp m i q d).1 (some 0))=none) ->
   ∃ j n,ahm m own F i q=some j/\(sq m (at0 m i q) n).j=j/\own.getD j (some 0)=none/\∀ l,l<n->(own.getD (sq m (at0 m i q) l).j (some 0)).isSome=true
 | 0,i,q,h=>by obtain ⟨d,hd,_⟩:=h; omega
 | F+1,i,q,h=>by
   unfold ahm
   cases e:(acy (ady m i+1-i)).find? fun k=>(own.getD (i+k) (some 0)).isNone with
   | some k =>
     obtain ⟨hk,as,bs,eab,ha⟩:=List.find?_eq_some_iff_append.mp e
     have hk2:own.getD (i+k) (some 0)=none:=by simpa using hk
     have aik:as.length=k/\k<ady m i+1-i:=by
       have g:(acy (ady m i+1-i))[as.length]?=some k:=by rw [eab]; simp
       obtain ⟨h1,h2⟩:=acZ.mp g
       rw [List.getElem_range] at h2
       rw [afg] at h1
       omega
     have pos:∀ r,r<=k->(sq m (at0 m i q) r).j=i+r:=fun r hr=>by rw [Ca m i q r (by have:=aik.2; omega)]
     refine ⟨i+k,k,rfl,pos k (aav _),hk2,fun l hl=>?_⟩
     rw [pos l (by omega)]
     have mem:l∈as:=by
       have g:(acy (ady m i+1-i))[l]?=some l:=by rw [aqq (by omega)]
       rw [eab,afe (by omega)] at g
       exact abg g
     have:=ha l mem
     cases z:own.getD (i+l) (some 0) with
     | none=>rw [z] at this; simp at this
     | some _=>rfl
   | none =>
     have no:=agw.mp e
     have pos:∀ r,r<=ady m i-i->(own.getD (i+r) (some 0)).isSome=true:=fun r hr=>by
       have ge:i<=ady m i:=by unfold ady; split <;> omega
       have:=no r (adA.mpr (by omega))
       cases z:own.getD (i+r) (some 0) with
       | none=>rw [z] at this; simp at this
       | some _=>rfl
     obtain ⟨d,hd,ed⟩:=h
     have d1:d≠0:=fun z=>by
       subst z
       have:=pos 0 (abV _)
       have ed':own.getD i (some 0)=none:=ed
       rw [Nat.add_zero,ed'] at this; cases this
     obtain ⟨d',rfl⟩:∃ d',d=d'+1:=⟨d-1,by omega⟩
     rw [Fj] at ed
     obtain ⟨j,n,k1,k2,k3,k4⟩:=J8 F (afb m i q).1 (afb m i q).2 ⟨d',by omega,ed⟩
     refine ⟨j,ady m i-i+1+n,k1,by rw [tY,xu]; exact k2,k3,fun l hl=>?_⟩
     rcases afu l (ady m i-i+1) with z | z
     . rw [Ca m i q l (by omega)]; exact pos l (by omega)
     . rw [show l=ady m i-i+1+(l-(ady m i-i+1)) by omega,tY,xu]
       exact k4 _ (by omega)
structure Laid (m:Nat) (hash:Array Int) (own:Array (Option Nat)) (k:Nat):Prop where
 size:own.size=m+1
 perm:(fm m fun j=>own.getD j none).Perm (acy k)
 reach:∀ j i,j<=m->own.getD j none=some i->∃ n,(sq m (st m (hash.getD i 0)) n).j=j/\∀ l,l<n->(own.getD (sq m (st m (hash.getD i 0)) l).j none).isSome=true
theorem ada {own:Array (Option Nat)} {j:Nat} {d d':Option Nat} (h:j<own.size):own.getD j d=own.getD j d':=by simp [aqX,h]
theorem Laid.more {hash:Array Int} {own:Array (Option Nat)} {k:Nat} (c:WK m=true) (L:Laid m hash own k) (hk:k<=m) :
   ∃ j,ahm m own (afJ m) (afc (hash.getD k 0) % (m+1)) (afc (hash.getD k 0))=some j/\Laid m hash (own.setIfInBounds j (some k)) (k+1):=by
 have sw:∀ {j},j<=m->own.getD j (some 0)=own.getD j none:=fun hj=>ada (by rw [L.size]; omega)
 obtain ⟨j0,hj0,e0⟩:=J6 (f:=fun j=>own.getD j none) (m:=m) (by rw [L.perm.length_eq,afg]; exact hk)
 obtain ⟨d,hd,ed⟩:=Yu (i:=afc (hash.getD k 0) % (m+1)) c (J4 (hash.getD k 0)) (ai5 (ant _ (amr _))) hj0
 obtain ⟨j,n,f1,f2,f3,f4⟩:=J8 (m:=m) (own:=own) (afJ m) (afc (hash.getD k 0) % (m+1)) (afc (hash.getD k 0)) ⟨d,by unfold afJ; omega,by rw [ed,sw hj0]; exact e0⟩
 have hj:j<=m:=by rw [<- f2]; exact Fl m (hash.getD k 0) n
 have g:∀ i,(own.setIfInBounds j (some k)).getD i none=put (fun j=>own.getD j none) j k i:=fun i=>by
   unfold put
   have hs:j<own.size:=by rw [L.size]; omega
   rw [adO,Array.getElem?_setIfInBounds]
   by_cases e:i=j
   . subst e; rw [if_pos rfl,if_pos rfl,if_pos hs]; rfl
   . rw [if_neg (afv e),if_neg e,<- adO]
 have gf:(fun i=>(own.setIfInBounds j (some k)).getD i none)=put (fun j=>own.getD j none) j k:=funext g
 have n0:own.getD j none=none:=by rw [<- sw hj]; exact f3
 refine ⟨j,f1,by rw [Array.size_setIfInBounds]; exact L.size,?_,?_⟩
 . rw [gf,List.range_succ]
   exact (J5 hj n0).trans ((L.perm.cons k).trans (anQ k _).symm)
 . intro i x hi e
   have up:∀ i,(own.getD i none).isSome=true->((own.setIfInBounds j (some k)).getD i none).isSome=true:=fun i h=>by
     rw [g]; unfold put; split
     . rfl
     . exact h
   rw [g] at e
   unfold put at e
   split at e
   . cases e
     rename_i eij
     exact ⟨n,f2.trans eij.symm,fun l hl=>up _ (by rw [<- sw (Fl m (hash.getD k 0) l)]; exact f4 l hl)⟩
   . obtain ⟨n,en,al⟩:=L.reach i x hi e
     exact ⟨n,en,fun l hl=>up _ (al l hl)⟩
theorem aaF {hash:Array Int} (c:WK m=true) (hk:hash.size<=m+1):∃ own,aqY m hash=some own/\Laid m hash own hash.size:=by
 unfold aqY
 have key:∀ k,k<=hash.size->∃ own,(hash.toList.take k).foldl (fun acc h=>(do
   let (owner,k) <- acc
   let j <- ahm m owner (afJ m) (afc h % (m+1)) (afc h)
   pure (owner.setIfInBounds j (some k),k+1))) (some (Array.replicate (m+1) none,0))=some (own,k)/\Laid m hash own k:=by
   intro k
   induction k with
   | zero =>
     intro _
     refine ⟨_,rfl,by simp,?_,fun j i _ e=>?_⟩
     . have:(fm m fun j=>(Array.replicate (m+1) (none:Option Nat)).getD j none)=[]:=by
         unfold fm
         rw [List.filterMap_eq_nil_iff]
         intro j hj
         rw [adO,aoB]
         split <;> rfl
       rw [this]; exact .refl _
     . rw [adO,aoB] at e
       split at e <;> cases e
   | succ k ih =>
     intro h
     obtain ⟨own,e,L⟩:=ih (by omega)
     have gk:hash.toList[k]?=some (hash.getD k 0):=by rw [adT,adO,afy (by omega)]; rfl
     obtain ⟨j,ej,L2⟩:=L.more c (by omega)
     refine ⟨_,?_,L2⟩
     rw [abj,gk,List.foldl_append,e]
     show ((ahm m own (afJ m) (afc (hash.getD k 0) % (m+1)) (afc (hash.getD k 0))).bind fun j=>some (own.setIfInBounds j (some k),k+1))=_
     rw [ej]; rfl
 obtain ⟨own,e,L⟩:=key hash.size (aav _)
 rw [<- abr,adi] at e
 refine ⟨own,?_,L⟩
 rw [<- Array.foldl_toList]
 have e':=e
 rw [abr] at e'
 rw [e']
 rfl
theorem WQ {n:Nat} {fg mv:Nat} {led plain:Bool} (hx:es.toList=fm n fun j=>(f j).map (ent hs)) (c:WK m=true) (od:m % 2=1) (hk:(fm n f).length * 5<m * 3) :
   ∃ t' order f',SetTable.laid m fg mv led plain (es.map (·.1))=some (t',order)/\t'.led=led/\t'.plain=plain/\t'.moves=mv/\Tb hs m f' t' (order.filterMap (es[·]?))/\(fm m f').Perm (fm n f):=by
 have hz:es.size=(fm n f).length:=by rw [<- abr,hx,<- xH,aao]
 obtain ⟨own,e,L⟩:=aaF (m:=m) (hash:=es.map (·.1)) c (by rw [aqf,hz]; omega)
 have esz:es.toList.length=(fm n f).length:=by rw [abr]; exact hz
 have hget:∀ i:Nat,es[i]?=((fm n f)[i]?).map (ent hs):=fun i=>by
   rw [<- adT,hx,<- xH,aaJ]
 have lt:∀ j i,j<=m->own.getD j none=some i->i<(fm n f).length:=fun j i hj e=>by
   have:=L.perm.mem_iff.mp (ni.mpr ⟨j,hj,e⟩)
   rw [aqf,hz] at this
   exact adA.mp this
 have f'e:∀ j i,j<=m->own.getD j none=some i->∃ x,(fm n f)[i]?=some x:=fun j i hj e=>⟨_,aaq (lt j i hj e)⟩
 have adb:((acy (m+1)).filterMap fun j=>(own.getD j none).map (j,·)).map (·.1)=fm m (qM fun j=>(own.getD j none).bind fun i=>(fm n f)[i]?):=by
   rw [aiI]
   refine fmc fun j hj=>?_
   have hj':j<=m:=by have:=adA.mp hj; omega
   unfold qM
   dsimp only
   rcases Option.eq_none_or_eq_some (own.getD j none) with q | ⟨i,q⟩
   . rw [if_neg (by rw [q]; exact abn),q]; rfl
   . obtain ⟨x,ex⟩:=f'e j i hj' q
     rw [if_pos (by rw [q]; show ((fm n f)[i]?).isSome=true; rw [ex]; rfl),q]; rfl
 have ade:((acy (m+1)).filterMap fun j=>(own.getD j none).map (j,·)).map (·.2)=fm m fun j=>own.getD j none:=by
   rw [aiI]
   refine fmc fun j hj=>?_
   cases own.getD j none <;> rfl
 have perm:(fm m fun j=>(own.getD j none).bind fun i=>(fm n f)[i]?).Perm (fm n f):=by
   have z:(fm m fun j=>(own.getD j none).bind fun i=>(fm n f)[i]?)=(fm m fun j=>own.getD j none).filterMap fun i=>(fm n f)[i]?:=by
     unfold fm; rw [aoC]
   rw [z]
   refine (L.perm.filterMap _).trans ?_
   rw [aqf,hz,List.filterMap_getElem?_range_length]
 refine ⟨_,_,fun j=>(own.getD j none).bind fun i=>(fm n f)[i]?,by unfold SetTable.laid; rw [e]; rfl,rfl,rfl,rfl,⟨rfl,c,od,rfl,?_,?_,?_,by rw [perm.length_eq]; exact hk⟩,perm⟩
 . rw [<- adb]
 . rw [Array.toList_filterMap,aqr,ade]
   unfold fm
   rw [aoC]
   refine fmc fun j _=>?_
   cases own.getD j none with
   | none=>rfl
   | some i=>show es[i]?=((fm n f)[i]?).map _; rw [hget]
 . intro j x hj e
   dsimp only at e
   cases q:own.getD j none with
   | none=>rw [q] at e; cases e
   | some i =>
     rw [q] at e
     have ex:(fm n f)[i]?=some x:=e
     have hh:(es.map (·.1)).getD i 0=hs x.1:=by
       rw [adO,Array.getElem?_map,hget,ex]; rfl
     obtain ⟨n1,en,al⟩:=L.reach j i hj q
     rw [hh] at en al
     refine ⟨n1,en,fun l hl=>?_⟩
     obtain ⟨i',ei'⟩:=ahX.mp (al l hl)
     obtain ⟨x',ex'⟩:=f'e _ i' (Fl m (hs x.1) l) ei'
     dsimp only
     rw [ei']
     show ((fm n f)[i']?).isSome=true
     rw [ex']; rfl
end
end ST
end L2
namespace L2
open PySem PySem.Spec PyProof.Rows PySem.W
namespace ST
theorem Fo (m:Nat) (h:Int):∀ n,(sq m (st m h) n).dummy=none
 | 0=>rfl
 | n+1=>by
   show (CG m (sq m (st m h) n)).dummy=none
   unfold CG
   split <;> exact Fo m h n
section
variable {prog:acs} {w:adH} {K:Type} [DecidableEq K] {knd:KeyKind prog w K} {A:aeN} {E:aau->aat->Prop} {s:aat}
abbrev tk (knd:KeyKind prog w K):HeapKind prog w (List K):=tupleKind knd
theorem RW {k:List K} {a:abm} {Q:Bool->aat->Prop} (hk:agy knd s.heap k a) (h:Q false s):wpAny (model prog w) A (ofAClassStatement 8 (.ref a)) Q E s:=by
 have hT:=hk.typeIs
 obtain ⟨o,items,n,ho,_,hd,hi⟩:=hk
 unfold ofAClassStatement
 refine Fi (aiM hT ?_)
 dsimp only
 rw [if_pos (by decide)]
 refine Fi (aar ?_)
 rw [if_neg (by decide)]
 refine Fi (afs ho hd ?_)
 dsimp only
 refine Fi ?_
 show wpAny _ _ (forIn items _ _) _ _ s
 rw [<- aqJ]
 refine anj _ (fun rest r s'=>r.1=none/\s'=s/\∀ v∈rest,carriedByValue v=true) _ ?_ ?_ _ _ ⟨rfl,rfl,hi.byValue⟩
 . rintro v rest r s' ⟨hr,rfl,hall⟩
   have e:ofAClassStatement 7 v=pure false:=by
     have:=hall v aaU
     unfold ofAClassStatement
     cases v <;> first | rfl | cases this
   rw [e]
   refine Fi (aar ?_)
   simp only [ae6,if_false]
   exact aar ⟨rfl,rfl,fun u hu'=>hall u (aaM _ hu')⟩
 . rintro ⟨r1,r2⟩ s' ⟨hr,rfl,_⟩
   simp only at hr
   subst hr
   exact aar h
theorem WR {k:List K} {b:abm} {l:List aau} {Q:Bool->aat->Prop} (hk:agy knd s.heap k b) (hl:∀ v∈l,∃ k' b',v=abk b'/\agy knd s.heap k' b') (h:Q false s):wpAny (model prog w) A (searchCouldBeSeen (.ref b) l) Q E s:=by
 unfold searchCouldBeSeen
 refine Fi ?_
 refine anj _ (fun rest r s'=>r.1=none/\s'=s/\∀ v∈rest,∃ k' b',v=abk b'/\agy knd s.heap k' b') _ ?_ ?_ _ _ ⟨rfl,rfl,hl⟩
 . rintro v rest r s' ⟨hr,rfl,hall⟩
   obtain ⟨k',b',rfl,hk'⟩:=hall v aaU
   have nx:∀ u∈rest,∃ k' b',u=abk b'/\agy knd s'.heap k' b':=fun u hu=>hall u (aaM _ hu)
   dsimp only
   refine ag4 (fun _=>aar ⟨rfl,rfl,nx⟩) (fun _=>?_)
   refine Fi (apQ hk ?_)
   rw [if_neg (by decide)]
   refine Fi (apQ hk' ?_)
   rw [if_neg (by decide)]
   refine Fi (RW hk ?_)
   rw [if_neg (by decide)]
   refine Fi (RW hk' ?_)
   rw [if_neg (by decide)]
   exact aar ⟨rfl,rfl,nx⟩
 . rintro ⟨r1,r2⟩ s' ⟨hr,rfl,_⟩
   simp only at hr
   subst hr
   exact aar h
variable {a b:abm} {o:Obj} {es:Array (Int × aau)} {ep:Nat} {t:aiH} {m:Nat} {f:Nat->Option (List K × abm)} {k:List K}
theorem Nf {Q:SetFound->aat->Prop} (hr:A.units<cLine) (hk:agy knd s.heap k b) (ho:s.heap.get? a=some o) (hd:o.data=.set es ep t) (T:Tb (tk knd).hash m f t es) (hf:∀ j x,j<=m->f j=some x->agy knd s.heap x.1 x.2)
   {N:Nat} (hN:N<10 * afJ m) (eN:f (sq m (st m ((tk knd).hash k)) N).j=none) (aN:∀ l,l<N->∃ x,f (sq m (st m ((tk knd).hash k)) l).j=some x)
   (h1:(∃ j b',j<=m/\f j=some (k,b'))->Q (.there none) s) (h2:(∀ j b',j<=m->f j≠some (k,b'))->Q (.free (sq m (st m ((tk knd).hash k)) N).j false) s) :
   ∀ (d n0 F:Nat) (sd:Option Pb),N-n0=d->n0<=N->d<F->sd.getD (st m ((tk knd).hash k))=sq m (st m ((tk knd).hash k)) n0->(∀ l,l<n0->∀ b',f (sq m (st m ((tk knd).hash k)) l).j≠some (k,b')) ->
     wpAny (model prog w) A (setSearchFrom a (.ref b) ((tk knd).hash k) true F sd) Q E s:=by
 intro d
 induction d using Nat.strongRecOn with
 | ind d ih =>
   intro n0 F sd ed hn0 hF esd no
   obtain ⟨F,rfl⟩:∃ F',F=F'+1:=⟨F-1,by omega⟩
   have S:∀ n,sq m (sq m (st m ((tk knd).hash k)) n0) n=sq m (st m ((tk knd).hash k)) (n0+n):=fun n=>(tY _ _ _ _).symm
   have IN:∀ n,(sq m (st m ((tk knd).hash k)) n).j<=m:=Fl m _
   unfold setSearchFrom
   refine Fi (afH ho hd T.fits ?_)
   dsimp only
   rw [if_neg (by unfold SetTable.gaveWay; rw [T.mask]; have:=T.odd; simp [this])]
   have pe:=RV (t:=t) (f:=f) (h:=(tk knd).hash k) (p:=sq m (st m ((tk knd).hash k)) n0) (hashAt:=fun i=>(es[i]?.map (·.1)).getD 0) T.mask T.place T.dum (fun n=>by rw [S]; exact IN _) (10 * afJ m) (N-n0) (by omega)
     (by rw [S,show n0+(N-n0)=N by omega]; exact eN) (fun l hl=>by rw [S]; exact aN _ (by omega))
   have hsh:∀ n,n<N->∃ x,f (sq m (st m ((tk knd).hash k)) n).j=some x/\es[(lo f (sq m (st m ((tk knd).hash k)) n).j).length]?=some (ent (tk knd).hash x):=fun n hn=>by
     obtain ⟨x,ex⟩:=aN n hn
     have z:(lo f (sq m (st m ((tk knd).hash k)) n).j).length=(lo (fun j=>(f j).map (ent (tk knd).hash)) (sq m (st m ((tk knd).hash k)) n).j).length:=by
       unfold lo; rw [<- aiI,aao]
     exact ⟨x,ex,by rw [z]; exact aaE T.ents (IN n) (by rw [ex]; rfl)⟩
   have nok:∀ n,n<N->(es[(lo f (sq m (st m ((tk knd).hash k)) n).j).length]?.map (·.1)).getD 0≠(tk knd).hash k->∀ b',f (sq m (st m ((tk knd).hash k)) n).j≠some (k,b'):=fun n hn z b' e=>by
     obtain ⟨x,ex,ee⟩:=hsh n hn
     rw [e] at ex; cases ex
     rw [ee] at z
     exact z rfl
   rw [show (sd.getD (t.probeStart ((tk knd).hash k)))=sq m (st m ((tk knd).hash k)) n0 from by rw [ac2,T.mask]; exact esd]
   rcases pe with ⟨p1,p2⟩ | ⟨n,hn,p1,p2,p3⟩
   . have p1':t.probe (fun i=>(es[i]?.map (·.1)).getD 0) ((tk knd).hash k) (sq m (st m ((tk knd).hash k)) n0)=some (.empty (sq m (st m ((tk knd).hash k)) N).j none):=by
       unfold ark
       rw [T.mask,p1,S,show n0+(N-n0)=N by omega,Fo]
     erw [p1']
     refine aar (h2 fun j b' hj e=>?_)
     obtain ⟨l,hl,el⟩:=T.found hj e eN
     rcases afu l n0 with z | z
     . exact no l z b' el
     . have q:=p2 (l-n0) (by omega)
       rw [S,show n0+(l-n0)=l by omega] at q
       exact nok l hl q b' el
   . have p1':t.probe (fun i=>(es[i]?.map (·.1)).getD 0) ((tk knd).hash k) (sq m (st m ((tk knd).hash k)) n0)=some (.candidate (sq m (st m ((tk knd).hash k)) (n0+n)).j (lo f (sq m (st m ((tk knd).hash k)) (n0+n)).j).length (sq m (st m ((tk knd).hash k)) (n0+n+1))):=by
       unfold ark
       rw [T.mask,p1,S,S]
       rfl
     erw [p1']
     dsimp only
     obtain ⟨x,ex,ee⟩:=hsh (n0+n) (by omega)
     obtain ⟨k',b'⟩:=x
     have hk':=hf _ _ (IN _) ex
     have rest:wpAny (model prog w) A (match es[(lo f (sq m (st m ((tk knd).hash k)) (n0+n)).j).length]? with
         | some (_,y)=>do
           let equal <- holding [y] (eqBool y (abk b))
           let (es',_,t') <- setState a
           if (true && equal)=true then pure (aoj none) else
             match t'.sameMemory t.moves t.mask with
             | some adf =>
               match if adf=true then t'.slot (sq m (st m ((tk knd).hash k)) (n0+n)).j else SetTable.Slot.empty with
               | .live i' =>
                 match es'[i']? with
                 | some (_,y')=>do
                   let __do_lift <- isSame y' y
                   let still <- pure (if __do_lift=true then some i' else none)
                   match still with
                   | none=>do
                     rule "set.search.anew"
                     setSearchFrom a (abk b) ((tk knd).hash k) true F none
                   | some i'=>if equal=true then pure (aoj (some i')) else setSearchFrom a (abk b) ((tk knd).hash k) true F (some (sq m (st m ((tk knd).hash k)) (n0+n+1)))
                 | none=>do
                   let still <- pure none
                   match still with
                   | none=>do
                     rule "set.search.anew"
                     setSearchFrom a (abk b) ((tk knd).hash k) true F none
                   | some i'=>if equal=true then pure (aoj (some i')) else setSearchFrom a (abk b) ((tk knd).hash k) true F (some (sq m (st m ((tk knd).hash k)) (n0+n+1)))
               | _=>do
                 let still <- pure none
                 match still with
                 | none=>do
                   rule "set.search.anew"
                   setSearchFrom a (abk b) ((tk knd).hash k) true F none
                 | some i'=>if equal=true then pure (aoj (some i')) else setSearchFrom a (abk b) ((tk knd).hash k) true F (some (sq m (st m ((tk knd).hash k)) (n0+n+1)))
             | _=>unsupported "set.changed-during-lookup:is-the-new-block-at-the-old-address"
         | _=>unsupported "internal:set-entry") Q E s:=by
       rw [ee]
       dsimp only [ent]
       refine Fi (adQ ((tk knd).eqBool hr hk' hk ?_))
       refine Fi (afH ho hd T.fits ?_)
       dsimp only
       by_cases e:k'=k
       . rw [if_pos (by rw [decide_eq_true e]; rfl)]
         exact aar (h1 ⟨_,b',IN _,by rw [ex,e]⟩)
       . rw [if_neg (by rw [decide_eq_false e]; decide)]
         rw [show t.sameMemory t.moves t.mask=some true from by unfold SetTable.sameMemory; simp]
         dsimp only
         rw [if_pos rfl,zQ T.place (IN _) ex]
         dsimp only
         rw [ee]
         dsimp only [ent]
         refine Fi (wpAny_isSame_ref_self (Fi (aar ?_)))
         rw [if_pos rfl]
         dsimp only
         rw [if_neg (by rw [decide_eq_false e]; decide)]
         refine ih (N-(n0+n+1)) (by omega) (n0+n+1) F _ rfl (by omega) (by omega) rfl fun l hl b2=>?_
         rcases afu l n0 with z | z
         . exact no l z b2
         . rcases afu l (n0+n) with z2 | z2
           . have q:=p3 (l-n0) (by omega)
             rw [S,show n0+(l-n0)=l by omega] at q
             exact nok l (by omega) q b2
           . have:l=n0+n:=by omega
             rw [this,ex]
             intro q
             cases q
             exact e rfl
     cases t.led with
     | true=>exact rest
     | false =>
       refine Fi (WR hk (fun v hv=>?_) ?_)
       . obtain ⟨e,he,rfl⟩:=abh.mp hv
         have he2:e∈es:=(Array.mem_filter.mp (ahR.mp he)).1
         have he3:e∈es.toList:=ahR.mpr he2
         rw [T.ents] at he3
         obtain ⟨j,hj,ej⟩:=ni.mp he3
         obtain ⟨x,ex2,rfl⟩:=ahl.mp ej
         exact ⟨x.1,x.2,rfl,hf _ _ hj ex2⟩
       . exact rest
end
end ST
end L2
namespace L2
open PySem PySem.Spec PyProof.Rows PySem.W
namespace ST
section
variable {prog:acs} {w:adH} {K:Type} [DecidableEq K] {knd:KeyKind prog w K} {A:aeN} {E:aau->aat->Prop} {s:aat}
theorem adg {k:List K} {a:abm} {Q:Bool->aat->Prop} (hk:agy knd s.heap k a) (h:∀ b,Q b s):wpAny (model prog w) A (hashByValue 8 (.ref a)) Q E s:=by
 have hT:=hk.typeIs
 obtain ⟨o,items,n,ho,_,hd,hi⟩:=hk
 unfold hashByValue
 refine Fi (amv hT PySem.F.slot_tuple_hash.lookup ?_)
 dsimp only
 refine Fi (afs ho hd ?_)
 rw [Option.getD_some]
 refine Fi ?_
 show wpAny _ _ (forIn items _ _) _ _ s
 rw [<- aqJ]
 refine anj _ (fun rest r s'=>s'=s/\∀ v∈rest,carriedByValue v=true) _ ?_ ?_ _ _ ⟨rfl,hi.byValue⟩
 . rintro v rest r s' ⟨rfl,hall⟩
   have e:∃ b,hashByValue 7 v=pure b:=by
     have:=hall v aaU
     unfold hashByValue
     cases v <;> first | exact ⟨_,rfl⟩ | cases this
   obtain ⟨b,e⟩:=e
   rw [e]
   refine Fi (aar ?_)
   cases b with
   | true =>
     rw [if_neg (by decide)]
     exact aar ⟨rfl,fun u hu'=>hall u (aaM _ hu')⟩
   | false =>
     rw [if_pos (by decide)]
     exact aar (aar (h _))
 . rintro ⟨r1,r2⟩ s' ⟨rfl,_⟩
   cases r1 with
   | none=>exact aar (h _)
   | some b=>exact aar (h _)
def SetT (knd:KeyKind prog w K) (G:List K × abm->Prop) (h:ae9) (a:abm) (ks:List (List K)):Prop:=∃ o es ep t m f,h.get? a=some o/\o.ExactSet/\o.data=.set es ep t/\Tb (tk knd).hash m f t es/\(m=7∨m=31)/\t.led=!(w.params.followText "set-order") /\
 (∀ j x,j<=m->f j=some x->agy knd h x.1 x.2/\G x)/\((fm m f).map (·.1)).Perm ks/\ks.Nodup
theorem SetT.mono {G G':List K × abm->Prop} {h:ae9} {a:abm} {ks:List (List K)} (z:SetT knd G h a ks) (g:∀ x,G x->G' x):SetT knd G' h a ks:=by
 obtain ⟨o,es,ep,t,m,f,ho,hx,hd,T,hm,hl,hf,r⟩:=z
 exact ⟨o,es,ep,t,m,f,ho,hx,hd,T,hm,hl,fun j x hj e=>⟨(hf j x hj e).1,g _ (hf j x hj e).2⟩,r⟩
theorem tup_ne {h:ae9} {a b:abm} {o:Obj} {k:List K} (ho:h.get? a=some o) (hx:o.ExactSet) (hk:agy knd h k b):b≠a:=fun e=>by
 obtain ⟨o',_,_,ho',hc,_⟩:=hk
 subst e
 rw [ho] at ho'; cases ho'
 rw [hx.1] at hc
 exact absurd (Value.type.inj hc) (by decide)
theorem J9 {h h':ae9} {a b:abm} {k:List K} (sb:afh a h h') (n:b≠a) (hk:agy knd h k b):agy knd h' k b:=by
 obtain ⟨o',its,n',ho',r⟩:=hk
 exact ⟨o',its,n',(sb.2 b n).trans ho',r⟩
theorem Fp {h:ae9} {a:abm} {o:Obj} {es es':Array (Int × aau)} {ep:Nat} {t t':aiH} (ho:h.get? a=some o) (hd:o.data=.set es ep t) :
   (h.update a (ap2 es' t')).get? a=some { o with data:=.set es' (ep+1) t' }/\afh a h (h.update a (ap2 es' t')):=by
 have:=aeO (ap2 es' t') ho (by rw [putSet_of es' t' hd]; rfl)
 rw [putSet_of es' t' hd] at this
 exact ⟨this,Heap.size_update _ _ _,fun b n=>ag5 _ _ (afv n)⟩
theorem aaG {G:List K × abm->Prop} {a b:abm} {ks:List (List K)} {k:List K} {Q:Bool->aat->Prop} (hr:A.units<cLine) (Z:SetT knd G s.heap a ks) (hk:agy knd s.heap k b) (nb:G (k,b)) (few:ks.length<=17)
   (q:∀ h' r,afh a s.heap h'->SetT knd G h' a (if k∈ks then ks else ks++[k])->Q r { s with heap:=h' }):wpAny (model prog w) A (setAddHashed a (.ref b) ((tk knd).hash k)) Q E s:=by
 obtain ⟨o,es,ep,t,m,f,ho,hx,hd,T,hm,hl,hf,pk,nd⟩:=id Z
 unfold setAddHashed setAddHashedIn
 refine adQ (Fi (afH ho hd T.fits ?_))
 dsimp only
 rw [if_neg (by unfold byScan; simp [Value.scannable])]
 obtain ⟨N,hN,eN,aN⟩:=T.free ((tk knd).hash k)
 have IN:=Fl m ((tk knd).hash k) N
 have adh:k∈ks↔∃ j b',j<=m/\f j=some (k,b'):=by
   rw [<- pk.mem_iff,abh]
   constructor
   . rintro ⟨⟨k',b'⟩,hx,rfl⟩
     obtain ⟨j,hj,e⟩:=ni.mp hx
     exact ⟨j,b',hj,e⟩
   . rintro ⟨j,b',hj,e⟩
     exact ⟨(k,b'),ni.mpr ⟨j,hj,e⟩,rfl⟩
 unfold setSearch
 refine Fi (Nf hr hk ho hd T (fun j x hj e=>(hf j x hj e).1) hN eN aN (fun e=>?_) (fun ne=>?_) N 0 100000 none rfl (abV _) ?_ rfl (fun l hl=>absurd hl (apR _)))
 . have z:=q s.heap false ⟨rfl,fun _ _=>rfl⟩
   rw [if_pos (adh.mpr e)] at z
   exact aar (z Z)
 . have nk:k ∉ ks:=fun z=>by
     obtain ⟨j,b',hj,e⟩:=adh.mp z
     exact ne j b' hj e
   rw [if_neg nk] at q
   dsimp only
   refine Fi (afH ho hd T.fits ?_)
   have PP:=Nb T.place T.dum IN eN (k,b)
   generalize ej:(sq m (st m ((tk knd).hash k)) N).j=j at eN IN PP
   rw [PP.1]
   dsimp only
   have bne:b≠a:=tup_ne ho hx hk
   have em:∀ i,(put f j (k,b) i).map (ent (tk knd).hash)=put (fun j=>(f j).map (ent (tk knd).hash)) j (ent (tk knd).hash (k,b)) i:=fun i=>by
     unfold put; split <;> rfl
   have el:(lo f j).length=(lo (fun j=>(f j).map (ent (tk knd).hash)) j).length:=by unfold lo; rw [<- aiI,aao]
   have hx':(adv es (lo f j).length ((tk knd).hash k,abk b)).toList=fm m fun i=>(put f j (k,b) i).map (ent (tk knd).hash):=by
     rw [funext em,el]
     exact WM T.ents IN (by rw [eN]; rfl) _
   have pf:=J5 (x:=(k,b)) IN eN
   have RX:(fm m (put f j (k,b))).length=(fm m f).length+1:=by rw [pf.length_eq]; rfl
   have HX:(fm m f).length=ks.length:=by rw [<- pk.length_eq,aao]
   have sz:(adv es (lo f j).length ((tk knd).hash k,abk b)).size=ks.length+1:=by rw [<- abr,hx',<- xH,aao,RX,HX]
   have psz:(adv t.place (lo f j).length j).size=ks.length+1:=by rw [<- abr,PP.2]; exact (oO _ _).trans (RX.trans (by rw [HX]))
   have pk':((fm m (put f j (k,b))).map (·.1)).Perm (ks++[k]):=(pf.map _).trans ((pk.cons k).trans (anQ k ks).symm)
   have nd':(ks++[k]).Nodup:=by
     rw [aeS]
     exact ⟨nd,by simp,fun x hx y hy e=>nk (by rw [abw.mp hy] at e; rw [<- e]; exact hx)⟩
   have R':Reach (tk knd).hash m (put f j (k,b)):=T.reach.more eN ej aN
   have hf':∀ {h':ae9},afh a s.heap h'->∀ i x,i<=m->put f j (k,b) i=some x->agy knd h' x.1 x.2/\G x:=fun {h'} sb i x hi e=>by
     unfold put at e
     split at e
     . cases e; exact ⟨J9 sb bne hk,nb⟩
     . exact ⟨J9 sb (tup_ne ho hx (hf i x hi e).1) (hf i x hi e).1,(hf i x hi e).2⟩
   have mq:sizeLine=16777216:=acO
   have behind:∀ t2:aiH,t2.mask=m->t2.dummies=#[]->t2.place=adv t.place (lo f j).length j->t2.led=t.led ->
       wpAny (model prog w) A (do
         storeSet a (adv es (lo f j).length ((tk knd).hash k,abk b)) t2
         if (!false && t2.tooFull)=true then do
           setRelay a (aqg (es.size+1))
           pure true
         else pure true) Q E s:=fun t2 m2 d2 p2 l2=>by
     refine Fi (aqZ ho hd ?_ (by rw [sz]; omega))
     obtain ⟨g1,sb1⟩:=Fp (es':=adv es (lo f j).length ((tk knd).hash k,abk b)) (t':=t2) ho hd
     generalize s.heap.update a (ap2 (adv es (lo f j).length ((tk knd).hash k,abk b)) t2)=h1 at g1 sb1
     have fit:t2.fits (adv es (lo f j).length ((tk knd).hash k,abk b)).size=true:=fits_of d2 (by rw [p2,psz,sz]) (by rw [sz,m2]; have:=T.room; omega)
     have fl:t2.tooFull=decide ((ks.length+1) * 5 ≥ m * 3):=by
       unfold SetTable.tooFull SetTable.fill
       rw [p2,psz,d2,m2]
       rfl
     by_cases tf:(ks.length+1) * 5 ≥ m * 3
     . rw [if_pos (by rw [fl,decide_eq_true tf]; rfl)]
       have m7:m=7:=by rcases hm with e | e <;> omega
       have k4:ks.length=4:=by have:=T.room; rw [HX] at this; omega
       have es4:es.size=4:=by rw [T.size,HX,k4]
       refine Fi ?_
       unfold setRelay
       refine Fi (afH (s:={ s with heap:=h1 }) g1 rfl fit ?_)
       dsimp only
       rw [es4,show aqg (4+1)=20 from rfl,show SetTable.sizeAbove 20=32 from rfl]
       rw [if_neg (by omega)]
       obtain ⟨t3,ord,f3,e3,l3,_,_,T3,P3⟩:=WQ (m:=31) (fg:=t2.finger) (mv:=t2.movedTo 31) (led:=t2.led) (plain:=t2.plain) hx' ac5 rfl (by rw [RX,HX]; omega)
       have er:t2.relaid ((adv es (lo f j).length ((tk knd).hash k,abk b)).map (·.1)) 20=some (t3,ord):=e3
       have s3:(ord.filterMap ((adv es (lo f j).length ((tk knd).hash k,abk b))[·]?)).size=(adv es (lo f j).length ((tk knd).hash k,abk b)).size:=by rw [T3.size,P3.length_eq,RX,HX,sz]
       refine Fi ?_
       rw [er]
       show wpAny _ _ (if ((ord.filterMap ((adv es (lo f j).length ((tk knd).hash k,abk b))[·]?)).size != (adv es (lo f j).length ((tk knd).hash k,abk b)).size)=true then _ else _) _ _ _
       rw [if_neg (by rw [s3]; simp)]
       refine aar ?_
       dsimp only
       refine aqZ (s:={ s with heap:=h1 }) g1 rfl (aar ?_) (by rw [s3,sz]; omega)
       obtain ⟨g2,Ox⟩:=Fp (es':=ord.filterMap ((adv es (lo f j).length ((tk knd).hash k,abk b))[·]?)) (t':=t3) g1 rfl
       generalize h1.update a (ap2 (ord.filterMap ((adv es (lo f j).length ((tk knd).hash k,abk b))[·]?)) t3)=h2 at g2 Ox
       have sb:afh a s.heap h2:=⟨Ox.1.trans sb1.1,fun b n=>(Ox.2 b n).trans (sb1.2 b n)⟩
       refine q h2 true sb ⟨_,_,_,t3,31,f3,g2,hx,rfl,T3,.inr rfl,by rw [l3,l2]; exact hl,fun i x hi e=>?_,(P3.map _).trans pk',nd'⟩
       obtain ⟨i',hi',e'⟩:=ni.mp (P3.mem_iff.mp (ni.mpr ⟨i,hi,e⟩))
       exact hf' sb i' x hi' e'
     . rw [if_neg (by rw [fl,decide_eq_false tf]; decide)]
       exact aar (q h1 true sb1 ⟨_,_,_,t2,m,_,g1,hx,rfl,⟨m2,T.cy,T.odd,d2,by rw [p2]; exact PP.2,hx',R',by rw [RX,HX]; omega⟩,hm,by rw [l2]; exact hl,hf' sb1,pk',nd'⟩)
   have fin:∀ r:Bool,wpAny (model prog w) A (do
         storeSet a (adv es (lo f j).length ((tk knd).hash k,abk b)) (if r=true then { t with place:=adv t.place (lo f j).length j } else { t with place:=adv t.place (lo f j).length j,plain:=false })
         if (!false && (if r=true then { t with place:=adv t.place (lo f j).length j } else { t with place:=adv t.place (lo f j).length j,plain:=false }:aiH).tooFull)=true then do
           setRelay a (aqg (es.size+1))
           pure true
         else pure true) Q E s:=fun r=>by
     cases r with
     | true=>exact behind _ T.mask T.dum rfl rfl
     | false=>exact behind _ T.mask T.dum rfl rfl
   refine ag4 (fun _=>Fi (adg hk fin)) (fun _=>Fi (aar (fin true)))
 . have:m=7∨m=31:=hm
   unfold afJ at hN
   rcases hm with rfl | rfl <;> omega
end
end ST
end L2
namespace L2
open PySem PySem.Spec PyProof.Rows
section
variable {X:Cx} {pins:List (abm × Obj)} {σ:St} {H H':Hp} {s:aat}
variable {e:Expr} {te:TE} {st:ane} {ts:TS}
end
end L2
namespace L2
open PySem PySem.Spec PyProof.Rows PySem.W
section
variable {prog:acs} {w:adH} {A:aeN} {E:aau->aat->Prop} {s:aat}
end
section
variable {X:Cx}
end
end L2
namespace L2
open PySem PySem.Spec PyProof.Rows PySem.W
def jz (w:adH):Bool:=w.params.followText "set-order"
section
variable {prog:acs} {w:adH} {A:aeN} {E:aau->aat->Prop} {s:aat}
end
section
variable {prog:acs} {w:adH} {A:aeN} {E:aau->aat->Prop} {s:aat}
theorem WT (x:aau) {Q₁:aau->aat->Prop} (h:Q₁ (.ref s.heap.objs.size) { s with heap:=s.heap.push (jj (!jz w)) }) :
   codeAny (model prog w) A (.call (.builtin "set.__new__") ⟨[.type "set",x],[]⟩) (wants Q₁ E) s:=by
 refine amC ?_
 have h0:=h
 show wpAny _ A.in1 (do checkBuiltinCall "set.__new__" ⟨[.type "set",x],[]⟩; again (.builtin "set.__new__" ⟨[.type "set",x],[]⟩)) _ _ s
 refine Fi (anB (PySem.F.newCall_set_1 x) (aar ⟨ahz apU _,afo PySem.F.entry_set_new ?_⟩))
 rw [ae3 apU _]
 unfold agM.«set.__new__»; unfold Builtin.Frozenset.newClass; have hsub:=PySem.sub_set_self
 obtain ⟨h1,g1,d1,k1,o1⟩:=s
 dsimp only
 wp_walk
 refine ang (aar (?_)); dsimp only; simp only [newObj]
 exact Fi (wpAny_alloc (aar (aar h0)))
end
end L2
namespace L2
open PySem PySem.Spec PyProof.Rows PySem.W
namespace ST
section
variable {prog:acs} {w:adH} {A:aeN} {E:aau->aat->Prop} {s:aat} {ex:List abm}
abbrev WW (prog:acs) (w:adH) (h:ae9) (k:List Key) (b:abm):Prop:=agy (aU prog w) h k b
def nj (ms:List (List Key × abm)):Prop:=∀ l:List (List Key),l.Nodup->(∀ k∈l,k∈ms.map (·.1))->l.length<=17
theorem nj.mono {ms Gi:List (List Key × abm)} (f:nj ms) (h:∀ x∈Gi,x∈ms):nj Gi:=fun l nd hl=>f l nd fun k hk=>by
 obtain ⟨x,hx,e⟩:=abh.mp (hl k hk)
 exact abh.mpr ⟨x,h x hx,e⟩
theorem fX {α:Type} [DecidableEq α]:∀ {l U:List α},l.Nodup->(∀ k∈l,k∈U)->l.length<=U.length
 | [],_,_,_=>abV _
 | k :: l,U,nd,h=>by
   obtain ⟨a,b⟩:=agu.mp nd
   have hk:=h k aaU
   have z:=fX b (U:=U.erase k) fun x hx=>(List.mem_erase_of_ne (show x≠k from fun e=>a (by rw [<- e]; exact hx))).mpr (h x (aaM _ hx))
   rw [List.length_erase_of_mem hk] at z
   have:0<U.length:=List.length_pos_of_mem hk
   rw [acM]; omega
theorem nj.of {ms:List (List Key × abm)} {U:List (List Key)} (h:U.length<=17) (s:∀ x∈ms,x.1∈U):nj ms:=fun l nd hl=>adS (fX nd fun k hk=>by
 obtain ⟨x,hx,rfl⟩:=abh.mp (hl k hk)
 exact s x hx) h
def qx (prog:acs) (w:adH) (ex:List abm) (h:ae9) (a:abm) (ms:List (List Key × abm)):Prop:=∃ ks',SetT (aU prog w) (fun x=>x.2 ∉ ex/\x∈ms) h a ks'/\∀ k,k∈ks'↔k∈ms.map (·.1)
theorem qx.keep {h h':ae9} {a:abm} {ks:List (List Key × abm)} {wr ex':List abm} (z:qx prog w ex h a ks) (na:a ∉ wr) (sub:∀ b∈wr,b∈ex) (sub':∀ b∈ex',b∈ex) (kk:∀ b o,b ∉ wr->h.get? b=some o->h'.get? b=some o):qx prog w ex' h' a ks:=by
 obtain ⟨ks',⟨o,es,ep,t,m,f,ho,hx,hd,T,hm,hl,hf,r⟩,r2⟩:=z
 refine ⟨ks',⟨o,es,ep,t,m,f,kk a o na ho,hx,hd,T,hm,hl,fun j x hj e=>?_,r⟩,r2⟩
 obtain ⟨⟨o',its,n',ho',r'⟩,nx,mx⟩:=hf j x hj e
 exact ⟨⟨o',its,n',kk _ _ (fun z=>nx (sub _ z)) ho',r'⟩,fun z=>nx (sub' _ z),mx⟩
theorem qx.nil {h:ae9} {a:abm} (ho:h.get? a=some (jj (!jz w))):qx prog w ex h a [] :=
 ⟨[],⟨_,#[],0,_,7,fun _=>none,ho,⟨rfl,rfl,rfl⟩,rfl,⟨rfl,aii,rfl,rfl,rfl,rfl,(fun j x _ e=>by cases e),by decide⟩,.inl rfl,rfl,(fun j x _ e=>by cases e),.refl _,.nil⟩,fun k=>Iff.rfl⟩
theorem adk {a b:abm} {ks:List (List Key × abm)} {k:List Key} {Q:Bool->aat->Prop} (hr:A.units<cLine) (Z:qx prog w ex s.heap a ks) (hk:WW prog w s.heap k b) (nb:b ∉ ex) (few:nj ks)
   (q:∀ h' tk r,afh a s.heap h'->s.toks<=tk->qx prog w ex h' a (ks++[(k,b)])->Q r { s with heap:=h',toks:=tk }):wpAny (model prog w) A (setAdd a (.ref b)) Q E s:=by
 obtain ⟨ks',z,mk⟩:=Z
 have ln:ks'.length<=17:=by
   obtain ⟨_,_,_,_,_,_,_,_,_,_,_,_,_,_,nd⟩:=id z
   exact few ks' nd fun k hk=>(mk k).mp hk
 unfold setAdd
 refine adQ (Fi ((tk (aU prog w)).pyHash hr hk ?_))
 have z:=z.mono (G':=fun x=>x.2 ∉ ex/\x∈ks++[(k,b)]) fun x hx=>⟨hx.1,afM _ hx.2⟩
 refine aaG (s:={ s with toks:=_ }) hr z hk ⟨nb,acU _ (abw.mpr rfl)⟩ ln fun h' r sb z'=>q h' _ r sb (afO _ _) ⟨_,z',fun k2=>?_⟩
 . rw [abt,abq,abA,am3,abw]
   split
   . rename_i hin
     rw [mk]
     exact ⟨.inl,fun z=>z.elim id fun e=>by rw [e]; exact (mk k).mp hin⟩
   . rw [abq,abw,mk]
theorem adl {R:arb->aat->Prop} {I:abm} {fp wr:List abm} {G:Array aqs->Array aqs->Prop} {P:Nat->aau->Prop} {St:Nat->aat->Prop} {ks:List (List Key × abm)} {h0:ae9} (hr:A.in1.units<cLine) (W:WalksS prog w A.in1 I fp wr G ks.length P St) (Z:abm) (nZ:Z ∉ fp)
   (Z2:∀ i v,P i v->∃ k b,ks[i]?=some (k,b)/\v=.ref b/\b ∉ Z :: wr/\WW prog w h0 k b) (few:nj ks) :
   ∀ (j i:Nat) (s:aat),ks.length-i=j->i<=ks.length->St i s->(∀ b o,b ∉ Z :: wr->h0.get? b=some o->s.heap.get? b=some o)->qx prog w wr s.heap Z (ks.take i) ->
     (∀ s',Moved (Z :: wr) G s s'->qx prog w wr s'.heap Z ks->R (.ok (.ret .none)) s') ->
     codeAny (model prog w) A (.builtin "set.update.loop" ⟨[.ref Z,.ref I],[]⟩) R s:=by
 have nW:Z ∉ wr:=fun z=>nZ (W.sub _ z)
 have sub:∀ b∈wr,b∈Z :: wr:=fun b z=>aaM _ z
 intro j
 induction j with
 | zero =>
   intro i s ej ei st k0 zS out
   have ei':i=ks.length:=by omega
   subst ei'
   refine afo afx ?_
   rw [ae3 aeP _]
   show wpAny _ A.in1 (pyNext (.ref I) >>= _) _ _ s
   refine Fi (W.done s _ _ st fun s' mv=>?_)
   show wpAny _ A.in1 (ret acR) _ _ s'
   rw [adi] at zS
   exact aar (out s' (mv.mono sub) (zS.keep nW (fun _ z=>z) (fun _ z=>z) mv.heap))
 | succ j ih =>
   intro i s ej ei st k0 zS out
   have lt:i<ks.length:=by omega
   refine afo afx ?_
   rw [ae3 aeP _]
   show wpAny _ A.in1 (pyNext (.ref I) >>= _) _ _ s
   refine Fi (W.item i s _ _ lt st fun v s' pv st' mv=>?_)
   obtain ⟨k,b,ek,rfl,nb,o',its,n',ho',r'⟩:=Z2 i v pv
   have nbw:b ∉ wr:=fun z=>nb (sub _ z)
   have zS':=zS.keep (ex':=wr) nW (fun _ z=>z) (fun _ z=>z) mv.heap
   show wpAny _ A.in1 (holding [.ref b] (setAdd Z (.ref b)) >>= _) _ _ s'
   refine Fi (adQ (adk hr zS' ⟨o',its,n',mv.heap b _ nbw (k0 b _ nb ho'),r'⟩ nbw (few.mono fun x hx=>afi hx) fun h2 tk r sb tk1 zS2=>?_))
   have et:ks.take i++[(k,b)]=ks.take (i+1):=by rw [abj,ek]; rfl
   rw [et] at zS2
   refine aar ⟨ahz aeP _,ih (i+1) _ (by omega) lt (W.frame _ s' _ _ st' tk1 fun c hc o e=>?_) (fun c o hc e=>?_) zS2 fun s'' mv2 z2=>?_⟩
   . rw [sb.2 c (fun z:c=Z=>nZ (by rw [<- z]; exact hc))]; exact e
   . show h2.get? c=some o
     rw [sb.2 c (fun z=>hc (by rw [z]; exact aaU))]
     exact mv.heap c o (fun z=>hc (sub _ z)) (k0 c o hc e)
   . refine out s'' (Moved.trans W.gtrans ((mv.mono sub).then_heap tk1 fun c o hc e=>?_) mv2) z2
     rw [sb.2 c (fun z:c=Z=>hc (by rw [z]; exact aaU))]; exact e
theorem adn {l:abm} {items:Array aau} {ks:List (List Key × abm)} {Q:aau->aat->Prop} (hh:A.handled=none) (hu:A.units+8<cLine) (hl:s.heap.IsTuple l items) (hz:items.size=ks.length)
   (Z2:∀ (i:Nat) (v:aau),items[i]?=some v->∃ k b,ks[i]?=some (k,b)/\v=.ref b/\WW prog w s.heap k b) (few:nj ks)
   (h:∀ (h':ae9) (tk:Nat),qx prog w [] h' s.heap.objs.size ks->(∀ b o,s.heap.get? b=some o->h'.get? b=some o)->Q (.ref s.heap.objs.size) { s with heap:=h',toks:=tk }) :
   wpAny (model prog w) A (call (.type "set") [.ref l]) Q E s:=by
 obtain ⟨cm,tm,hmro⟩:=PySem.F.called_set.mro
 have made:=PySem.F.called_set.made
 have agz:=PySem.F.called_set.sub
 refine aro (amC ?_)
 show wpAny _ _ (callAny (.type "set") _) _ _ _
 refine aar ⟨aqC _ (by decide +kernel),afo aoM ?_⟩
 rw [aqD (apz "set" [.ref l] []) rfl]
 have c1:=PySem.F.called_set.notType
 have c2:=PySem.F.called_set.canCreate
 have c3:=apb (.ref l)
 repeat (any_goals (first | assumption | wp_step))
 generalize hN:s.heap.objs.size=N at h
 refine agN (WT (.ref l) (E:=E) (Q₁:=fun ob s1=>ob=.ref s.heap.objs.size/\s1={ s with heap:=s.heap.push (jj (!jz w)) }) ⟨rfl,rfl⟩) fun r s1 hr=>?_
 cases r with
 | error e=>exact hr
 | ok fl =>
   cases fl with
   | ret ob =>
     obtain ⟨rfl,rfl⟩:=hr
     have gS:(s.heap.push (jj (!jz w))).get? s.heap.objs.size=some (jj (!jz w)):=aa8 _ rfl
     have hT:aoN { s with heap:=s.heap.push (jj (!jz w)) } (.ref s.heap.objs.size) "set":=⟨_,gS,rfl⟩
     have li:=PySem.F.called_set.init.lookup
     have bi:=PySem.F.called_set.init.bind (.ref s.heap.objs.size)
     repeat (any_goals (first | assumption | wp_step))
     refine agN (ap3 (R:=wants (fun r s2=>r=.none/\∃ h' tk,s2={ s with heap:=h',toks:=tk }/\qx prog w [] h' s.heap.objs.size ks/\(∀ b o,s.heap.get? b=some o->h'.get? b=some o)) E)
       PySem.F.called_set.init.plain apc (check_set_init_1 hT ?_)) fun r2 s2 hr2=>?_
     . obtain ⟨ol,gl,cl,nl,dl⟩:=hl
       obtain ⟨oc,od,oa,os⟩:=ol
       simp only at cl dl
       subst cl dl
       have gl':(s.heap.push (jj (!jz w))).get? l=some { cls:=.type "tuple",dict:=od,data:=.seq items nl,slots:=os }:=aap _ gl
       have t1:=PySem.F.sub_tuple_set
       have t2:=PySem.F.sub_tuple_frozenset
       have t3:(agO "tuple" == agO "dict")=false:=by decide
       have lst:(s.heap.push (jj (!jz w))).IsTuple l items:=⟨_,gl',rfl,nl,rfl⟩
       unfold agM.«set.__init__» noKeywords ano
       generalize hPI:pyIter=PI
       wp_walk
       subst hPI
       refine amw lst ?_
       refine (Fi (aqc ?_))
       have lS:l<s.heap.objs.size:=abf gl
       have h3:A.in1.in1.in1.handled=none:=by simp [hh]
       have sz:(s.heap.push (jj (!jz w))).objs.size=s.heap.objs.size+1:=aeV ..
       have n1:l≠(s.heap.push (jj (!jz w))).objs.size:=by rw [sz]; exact acu (afE lS)
       have n2:s.heap.objs.size ∉ [(s.heap.push (jj (!jz w))).objs.size,l]:=by
         rw [sz]
         intro z
         rcases abz.mp z with z | z
         . exact absurd z (acu (ais _))
         . exact absurd (abw.mp z) (aho lS)
       have W:=(Walks.tuple (prog:=prog) (w:=w) h3 _ l n1 items).toS
       rw [hz] at W
       refine adl (h0:=s.heap) ?_ W s.heap.objs.size n2 (fun i v e=>?_) few (ks.length-0) 0 _ rfl (abV _) ⟨⟨_,aa8 _ rfl,rfl,rfl⟩,?_⟩ (fun b o _ e=>aap _ (aap _ e)) ?_ fun s' mv z=>?_
       . simp only [Around.in1_units]; omega
       . obtain ⟨k,b,e1,e2,tb⟩:=Z2 i v e
         refine ⟨k,b,e1,e2,fun z=>?_,tb⟩
         have lb:b<s.heap.objs.size:=by obtain ⟨o',_,_,ho',_⟩:=tb; exact abf ho'
         rcases abz.mp z with z | z
         . exact absurd z (acu lb)
         . exact absurd (abw.mp z) (by rw [sz]; exact acu (afE lb))
       . exact ⟨_,aap _ gl',rfl,nl,rfl⟩
       . exact qx.nil (aap _ gS)
       . obtain ⟨h',g',d',tk',os'⟩:=s'
         obtain rfl:g'=s.gens:=mv.gens
         obtain rfl:d'=s.drawn:=mv.drawn
         obtain rfl:os'=s.os:=mv.os
         show wpAny _ _ _ _ _ _
         refine aar ?_
         show wpAny _ _ (ret acR) _ _ _
         refine aar ⟨rfl,h',tk',rfl,z.keep (wr:=[]) (fun z=>by cases z) (fun _ z=>by cases z) (fun _ z=>by cases z) (fun _ _ _ e=>e),fun b o e=>?_⟩
         have lb:b<s.heap.objs.size:=abf e
         refine mv.heap b o (fun z=>?_) (aap _ (aap _ e))
         rcases abz.mp z with z | z
         . exact absurd z (acu lb)
         . exact absurd (abw.mp z) (by rw [sz]; exact acu (afE lb))
     . cases r2 with
       | error e=>exact hr2
       | ok Z4 =>
         cases Z4 with
         | ret r =>
           obtain ⟨rfl,h',tk,rfl,zS,kk⟩:=hr2
           repeat (any_goals (first | assumption | wp_step))
           subst hN
           exact h _ _ zS kk
         | _=>exact hr2.elim
   | _=>exact hr.elim
end
end ST
end L2
namespace L2
open PySem PySem.Spec PyProof.Rows PySem.W
section
variable {prog:acs} {w:adH} {A:aeN} {E:aau->aat->Prop} {s:aat}
end
end L2
namespace L2
open PySem PySem.Spec PyProof.Rows PySem.W
theorem lO:Slot "set_iterator" "__next__" "set_iterator.__next__":=.of (owner:="set_iterator") (n:="__next__") (by rw [amI,ahA]; kernel_rfl) (by decide +kernel) (by decide +kernel) (by decide +kernel) (by first | exact .inl (by decide +kernel) | exact .inr (by decide +kernel)) (by rw [amZ]; kernel_rfl)
theorem Ka:Slot "set_iterator" "__iter__" "set_iterator.__iter__":=.of (owner:="set_iterator") (n:="__iter__") (by rw [amI,ahA]; kernel_rfl) (by decide +kernel) (by decide +kernel) (by decide +kernel) (by first | exact .inl (by decide +kernel) | exact .inr (by decide +kernel)) (by rw [amZ]; kernel_rfl)
theorem zR:entryFor table "set_iterator.__next__" = some agM.«set_iterator.__next__»:=ao5 (by kernel_rfl)
theorem Ng:entryFor table "set_iterator.__iter__" = some agM.«dict_keyiterator.__iter__»:=entryFor_alias (id':="dict_keyiterator.__iter__") (by kernel_rfl) rfl (by decide +kernel) (by kernel_rfl)
theorem Ia:entryFor table "set.__iter__" = some agM.«frozenset.__iter__»:=entryFor_alias (id':="frozenset.__iter__") (by kernel_rfl) rfl (by decide +kernel) (by kernel_rfl)
theorem Fq:Manifest.owners.lookup (String.ofList ['r','o','t','a','r','e','t','i','_','t','e','s'].reverse)=some Manifest.sig_set_iterator:=by kernel_rfl
theorem zT (a:aau):argsOk "set_iterator.__next__" ⟨[a],[]⟩:=by unfold argsOk; rw [signature?_of (id:="set_iterator.__next__") (n:=['_','_','t','x','e','n','_','_']) (o:=['r','o','t','a','r','e','t','i','_','t','e','s']) (by kernel_rfl) Fq]; kernel_rfl
theorem Nh (a:aau):argsOk "set_iterator.__iter__" ⟨[a],[]⟩:=by unfold argsOk; rw [signature?_of (id:="set_iterator.__iter__") (n:=['_','_','r','e','t','i','_','_']) (o:=['r','o','t','a','r','e','t','i','_','t','e','s']) (by kernel_rfl) Fq]; kernel_rfl
end L2
namespace L2
open PySem PySem.Spec PyProof.Rows PySem.W
def Ib (w:adH) (a:abm) (ep:Nat) (es:Array (Int × aau)):List (Int × aau):=if jz w then (pickOrder (w.params.setOrder a ep) es).toList else es.toList
section
variable {prog:acs} {w:adH} {A:aeN} {E:aau->aat->Prop} {s:aat} {a it:abm} {p:Nat->Bool} {ep:Nat}
theorem u9 {Q:Bool->aat->Prop} (q:Q (jz w) s):wpAny (model prog w) A setsByText Q E s:=Fi (ang (aar q))
end
end L2
namespace L2
open PySem PySem.Spec PyProof.Rows PySem.W
theorem qy {α:Type}:∀ (l:List α) (i:Nat) (h:i<l.length),(l[i] :: l.eraseIdx i).Perm l
 | x :: l,0,_=>.refl _
 | x :: l,i+1,h=>by
   have h':i<l.length:=by simpa using h
   simp only [List.getElem_cons_succ,List.eraseIdx_cons_succ]
   exact (List.Perm.swap _ _ _).trans ((qy l i h').cons x)
theorem Kc {α:Type} (f:Nat->Nat):∀ (n k:Nat) (l:List α) (out:Array α),l.length=n->(aq6 f n k l out).toList.Perm (out.toList++l)
 | 0,k,l,out,h=>by
   have e:l=[]:=aeE h
   subst e
   simp [aq6]
 | n+1,k,l,out,h=>by
   have lt:f k % l.length<l.length:=ant _ (by omega)
   unfold aq6
   rw [aaq lt]
   dsimp only
   refine (Kc f n (k+1) (l.eraseIdx (f k % l.length)) _ (by rw [anR lt]; omega)).trans ?_
   rw [Array.toList_push,aeX]
   exact List.Perm.append_left _ (qy l _ lt)
theorem zU {w:adH} {a:abm} {ep:Nat} {es:Array (Int × aau)}:(Ib w a ep es).Perm es.toList:=by
 unfold Ib
 split
 . exact (Kc _ es.size 0 es.toList #[] (by simp)).trans (by simp)
 . exact .refl _
theorem Ni:typeLookup (.type "set") "__len__" = pure (some (.builtin "set.__len__")):=by rw [amI,ahA]; kernel_rfl
section
variable {prog:acs} {w:adH} {A:aeN} {E:aau->aat->Prop} {s:aat} {r:abm} {Q:Bool->aat->Prop}
theorem RZ (hT:s.TypeIs (.ref r) "set") (q:Q false s):wpAny (model prog w) A (anF (.ref r)) Q E s:=by
 unfold anF
 refine Fi (amv hT Ni ?_)
 generalize hid:("set.__len__" : String)=idS
 wp_delta
 rw [show splitId idS=some ("set","__len__") from by subst hid; decide +kernel]
 subst hid
 refine Fi (amn (T:="set") (b:=true) hT (by rw [amZ]; kernel_rfl) ?_)
 refine ag4 (fun z=>absurd z (by decide)) (fun _=>?_)
 refine ag4 (fun _=>?_) (fun z=>absurd (by decide +kernel) z)
 exact Fi (aiM hT (aar q))
end
section
variable {X:Cx}
end
end L2
namespace L2
open PySem PySem.Spec PyProof.Rows PySem.W
namespace SA
structure SO (N:Nat) (lt:Nat->Nat->Bool):Prop where
 aqV:∀ i j,i<N->j<N->lt i j=true->lt j i=false
 trans:∀ i j k,i<N->j<N->k<N->lt i j=true->lt j k=true->lt i k=true
 tot:∀ i j,i<N->j<N->i≠j->lt i j=true∨lt j i=true
def Gd (N:Nat) (p:Array Nat):Prop:=p.toList.Perm (acy N)
theorem iH {α β:Type} {N:Nat} {lt:Nat->Nat->Bool} {f:α->KasT β}:∀ t:KasT α,cX N lt (t.bind f)=(cX N lt t).bind fun a=>cX N lt (f a)
 | .ret _=>rfl
 | .ask i j k=>by
   show (if i<N/\j<N then cX N lt ((k (lt i j)).bind f) else none)=(if i<N/\j<N then cX N lt (k (lt i j)) else none).bind _
   by_cases c:i<N/\j<N
   . rw [if_pos c,if_pos c]; exact iH _
   . rw [if_neg c,if_neg c]; rfl
section
variable {N:Nat} {lt:Nat->Nat->Bool} {p:Array Nat}
theorem xK {α:Type} {i j:Nat} {k:Bool->KasT α} (hi:i<N) (hj:j<N):cX N lt (.ask i j k)=cX N lt (k (lt i j)):=by
 show (if i<N/\j<N then cX N lt (k (lt i j)) else none)=_
 rw [if_pos ⟨hi,hj⟩]
theorem Gd.size (g:Gd N p):p.size=N:=by
 have:=g.length_eq
 rw [abr,afg] at this
 exact this
theorem getD_some {i:Nat} (h:i<p.size):p[i]?=some (p.getD i 0):=by
 simp [aqX,h]
theorem vg {q:Array Nat} {i j:Nat} (h:q[i]?=p[j]?):q.getD i 0=p.getD j 0:=by
 rw [adO,adO,h]
theorem Gd.lo (g:Gd N p) {i:Nat} (h:i<N):p.getD i 0<N:=by
 have e:=getD_some (p:=p) (by rw [g.size]; exact h)
 have m:p.getD i 0∈p.toList:=ahR.mpr (apP e)
 exact adA.mp (g.mem_iff.mp m)
theorem Gd.ne (g:Gd N p) {i j:Nat} (hi:i<N) (hj:j<N) (h:i≠j):p.getD i 0≠p.getD j 0:=fun e=>by
 have nd:p.toList.Nodup:=g.nodup_iff.mpr List.nodup_range
 have hi':i<p.toList.length:=by rw [abr,g.size]; exact hi
 have hj':j<p.toList.length:=by rw [abr,g.size]; exact hj
 have e1:p.toList[i]=p.toList[j]:=by
   have a:=getD_some (p:=p) (i:=i) (by rw [g.size]; exact hi)
   have b:=getD_some (p:=p) (i:=j) (by rw [g.size]; exact hj)
   rw [<- adT] at a b
   rw [aaq hi'] at a
   rw [aaq hj'] at b
   rw [ac8 a,ac8 b,e]
 exact h ((aip nd).mp e1)
theorem Gd.of {q:Array Nat} (g:Gd N p) (h:q.Perm p):Gd N q:=(Array.perm_iff_toList_perm.mp h).trans g
def Vc (lt:Nat->Nat->Bool) (p:Array Nat) (m:Nat):Prop:=∀ i j,i<j->j<m->lt (p.getD i 0) (p.getD j 0)=true
def Dsc (lt:Nat->Nat->Bool) (p:Array Nat) (m:Nat):Prop:=∀ i j,i<j->j<m->lt (p.getD j 0) (p.getD i 0)=true
variable (S:SO N lt)
include S
theorem other (g:Gd N p) {i j:Nat} (hi:i<N) (hj:j<N) (h:i≠j) (n:lt (p.getD i 0) (p.getD j 0)=false):lt (p.getD j 0) (p.getD i 0)=true:=by
 rcases S.tot _ _ (g.lo hi) (g.lo hj) (g.ne hi hj h) with z | z
 . rw [n] at z; cases z
 . exact z
theorem R0 (g:Gd N p) {n:Nat} (h1:1<=n) (hn:n<N) (a:Vc lt p n) (l:lt (p.getD (n-1) 0) (p.getD n 0)=true):Vc lt p (n+1):=fun i j ij hj=>by
 by_cases c:j<n
 . exact a i j ij c
 . obtain rfl:j=n:=by omega
   by_cases c2:i=j-1
   . rw [c2]; exact l
   . exact S.trans _ _ _ (g.lo (by omega)) (g.lo (by omega)) (g.lo hn) (a i (j-1) (by omega) (by omega)) l
theorem R5 (g:Gd N p) {n:Nat} (h1:1<=n) (hn:n<N) (a:Dsc lt p n) (l:lt (p.getD n 0) (p.getD (n-1) 0)=true):Dsc lt p (n+1):=fun i j ij hj=>by
 by_cases c:j<n
 . exact a i j ij c
 . obtain rfl:j=n:=by omega
   by_cases c2:i=j-1
   . rw [c2]; exact l
   . exact S.trans _ _ _ (g.lo hn) (g.lo (by omega)) (g.lo (by omega)) l (a i (j-1) (by omega) (by omega))
theorem Ie (g:Gd N p):∀ (f n:Nat),1<=n->n+f<=N->Vc lt p n->∃ m,cX N lt (kas_asc p f n)=some m/\n<=m/\m<=n+f/\Vc lt p m/\(m<n+f->lt (p.getD m 0) (p.getD (m-1) 0)=true)
 | 0,n,_,_,a=>⟨n,rfl,aav _,aav _,a,fun h=>absurd h (by omega)⟩
 | f+1,n,h1,h2,a=>by
   unfold kas_asc
   rw [xK (g.lo (by omega)) (g.lo (by omega))]
   cases c:lt (p.getD n 0) (p.getD (n-1) 0) with
   | true=>exact ⟨n,rfl,aav _,by omega,a,fun _=>c⟩
   | false =>
     obtain ⟨m,r,m1,m2,m3,m4⟩:=Ie g f (n+1) (by omega) (by omega) (R0 S g h1 (by omega) a (other S g (by omega) (by omega) (by omega) c))
     exact ⟨m,r,by omega,by omega,m3,fun h=>m4 (by omega)⟩
theorem R6 (g:Gd N p):∀ (f n:Nat),1<=n->n+f<=N->Dsc lt p n->∃ m,cX N lt (kas_desc f p n 0)=some (p,m,0)/\n<=m/\m<=n+f/\Dsc lt p m
 | 0,n,_,_,a=>⟨n,rfl,aav _,aav _,a⟩
 | f+1,n,h1,h2,a=>by
   unfold kas_desc
   rw [xK (g.lo (by omega)) (g.lo (by omega))]
   cases c:lt (p.getD n 0) (p.getD (n-1) 0) with
   | true =>
     obtain ⟨m,r,m1,m2,m3⟩:=R6 g f (n+1) (by omega) (by omega) (R5 S g h1 (by omega) a c)
     exact ⟨m,r,by omega,by omega,m3⟩
   | false =>
     show ∃ m,cX N lt (.ask (p.getD (n-1) 0) (p.getD n 0) _)=_/\_
     rw [xK (g.lo (by omega)) (g.lo (by omega)),other S g (by omega) (by omega) (by omega) c]
     exact ⟨n,rfl,aav _,by omega,a⟩
omit S in
theorem aaH (g:Gd N p) {n:Nat} (hn:n<=N) (a:Dsc lt p n):Gd N (arC p 0 n)/\Vc lt (arC p 0 n) n:=by
 refine ⟨g.of (mirror_perm _ _ _ _),fun i j ij hj=>?_⟩
 have e:∀ k,k<n->(arC p 0 n).getD k 0=p.getD (n-1-k) 0:=fun k hk=>vg (by
   unfold arC
   rw [getElem?_mirror_all (by rw [g.size]; exact hn)]
   rw [if_pos ⟨abV _,hk⟩,show 0+n-1-k=n-1-k by omega])
 rw [e i (by omega),e j hj]
 exact a _ _ (by omega) (by omega)
theorem R7 (g:Gd N p) (h2:2<=N):∃ m p',cX N lt (kas_count N p)=some (m,p')/\1<=m/\m<=N/\Gd N p'/\Vc lt p' m:=by
 unfold kas_count
 rw [iH]
 obtain ⟨m,r,m1,m2,m3,m4⟩:=Ie S g (N-1) 1 (aav _) (by omega) (fun i j ij hj=>absurd ij (by omega))
 rw [r]
 show ∃ _ _,cX N lt (if (m == N)=true then _ else _)=_/\_
 by_cases c:m=N
 . rw [if_pos (beq_iff_eq.mpr c)]
   exact ⟨m,p,rfl,m1,by omega,g,m3⟩
 . rw [if_neg (fun z=>c (beq_iff_eq.mp z))]
   by_cases c1:m > 1
   . rw [if_pos c1,xK (g.lo (by omega)) (g.lo (by omega)),m3 0 (m-1) (by omega) (by omega)]
     exact ⟨m,p,rfl,m1,by omega,g,m3⟩
   . rw [if_neg c1]
     obtain rfl:m=1:=by omega
     unfold kas_descPart
     rw [iH]
     have d2:Dsc lt p 2:=fun i j ij hj=>by
       obtain rfl:j=1:=by omega
       obtain rfl:i=0:=by omega
       exact m4 (by omega)
     obtain ⟨q,rq,q1,q2,q3⟩:=R6 S g (N-2) 2 (by omega) (by omega) d2
     rw [show N-(1+1)=N-2 by omega,rq]
     show ∃ _ _,cX N lt (kas_tail3 q N p)=_/\_
     unfold kas_tail3
     obtain ⟨g',a'⟩:=aaH g (by omega) q3
     obtain ⟨k,rk',k1,k2,k3,_⟩:=Ie S g' (N-q) q (by omega) (by omega) a'
     rw [iH,rk']
     exact ⟨k,_,rfl,by omega,by omega,g',k3⟩
theorem xM (g:Gd N p) {k:Nat} (hk:k<N) (a:Vc lt p k):∀ (f l r:Nat),l<=r->r<=k->r-l<=f->(∀ i,i<l->lt (p.getD i 0) (p.getD k 0)=true)->(∀ i,r<=i->i<k->lt (p.getD k 0) (p.getD i 0)=true) ->
   ∃ m,cX N lt (kas_place p k f l r)=some m/\m<=k/\(∀ i,i<m->lt (p.getD i 0) (p.getD k 0)=true)/\∀ i,m<=i->i<k->lt (p.getD k 0) (p.getD i 0)=true
 | 0,l,r,h1,h2,h3,lo,hi=>⟨l,rfl,by omega,lo,fun i a b=>hi i (by omega) b⟩
 | f+1,l,r,h1,h2,h3,lo,hi=>by
   unfold kas_place
   by_cases c:l ≥ r
   . rw [if_pos c]
     exact ⟨l,rfl,by omega,lo,fun i a b=>hi i (by omega) b⟩
   . rw [if_neg c,xK (g.lo hk) (g.lo (by omega))]
     cases d:lt (p.getD k 0) (p.getD ((l+r) / 2) 0) with
     | true =>
       refine xM g hk a f l ((l+r) / 2) (by omega) (by omega) (by omega) lo fun i h4 h5=>?_
       by_cases e:i=(l+r) / 2
       . rw [e]; exact d
       . exact S.trans _ _ _ (g.lo hk) (g.lo (by omega)) (g.lo (by omega)) d (a _ _ (by omega) h5)
     | false =>
       refine xM g hk a f ((l+r) / 2+1) r (by omega) h2 (by omega) (fun i h4=>?_) hi
       have z:=other S g hk (by omega) (by omega) d
       by_cases e:i=(l+r) / 2
       . rw [e]; exact z
       . exact S.trans _ _ _ (g.lo (by omega)) (g.lo (by omega)) (g.lo hk) (a _ _ (by omega) (by omega)) z
theorem R8:∀ (f:Nat) {p:Array Nat} {k:Nat},Gd N p->1<=k->k+f=N->Vc lt p k->∃ p',cX N lt (kas_bin f p k)=some p'/\Gd N p'/\Vc lt p' N
 | 0,p,k,g,_,e,a=>⟨p,rfl,g,by rw [<- e]; exact a⟩
 | f+1,p,k,g,h1,e,a=>by
   unfold kas_bin
   rw [iH]
   obtain ⟨m,r,m1,lo,hi⟩:=xM S g (k:=k) (by omega) a k 0 k (abV _) (aav _) (by omega) (fun i h=>absurd h (by omega)) (fun i h h'=>absurd h (by omega))
   rw [r]
   have g':Gd N (bubble p k (k-m)):=g.of (bubble_perm _ _ _)
   refine R8 f g' (by omega) (by omega) fun i j ij hj=>?_
   have v:∀ t,(bubble p k (k-m)).getD t 0=if t=m then p.getD k 0 else if m<t/\t<=k then p.getD (t-1) 0 else p.getD t 0:=fun t=>by
     have z:=getElem?_bubble (xs:=p) (src:=k) (by rw [g.size]; omega) (k-m) (by omega) t
     rw [show k-(k-m)=m by omega] at z
     by_cases c:t=m
     . rw [if_pos c] at z ⊢; exact vg z
     . rw [if_neg c] at z ⊢
       by_cases c2:m<t/\t<=k
       . rw [if_pos c2] at z ⊢; exact vg z
       . rw [if_neg c2] at z ⊢; exact vg z
   rw [v i,v j]
   by_cases c:i=m
   . rw [if_pos c,if_neg (by omega),if_pos (by omega)]
     exact hi _ (by omega) (by omega)
   . rw [if_neg c]
     by_cases c2:m<i/\i<=k
     . rw [if_pos c2,if_neg (by omega),if_pos (by omega)]
       exact a _ _ (by omega) (by omega)
     . rw [if_neg c2]
       by_cases c3:j=m
       . rw [if_pos c3]; exact lo _ (by omega)
       . rw [if_neg c3]
         by_cases c4:m<j/\j<=k
         . rw [if_pos c4]; exact a _ _ (by omega) (by omega)
         . rw [if_neg c4]; exact a _ _ ij (by omega)
theorem WX (h2:2<=N):∃ p,cX N lt (aoQ N)=some p/\Gd N p/\Vc lt p N:=by
 unfold aoQ
 rw [iH]
 obtain ⟨m,p',r,m1,m2,g,a⟩:=R7 S (p:=(acy N).toArray) (by show ((acy N).toArray.toList).Perm _; rw [aqr]) h2
 rw [r]
 show ∃ p,cX N lt (if m<N then kas_bin (N-max m 1) p' (max m 1) else .ret p')=some p/\_
 rw [show max m 1=m by omega]
 by_cases c:m<N
 . rw [if_pos c]
   exact R8 S (N-m) g m1 (by omega) a
 . rw [if_neg c]
   obtain rfl:m=N:=by omega
   exact ⟨p',rfl,g,a⟩
end
end SA
theorem R9 {κ:Type} {lt:κ->κ->Bool} (S:Strict lt) {ks:List κ} (hn:ks.Nodup) (h2:2<=ks.length) (d:κ) :
   ∃ p:Array Nat,cX ks.length (fun i j=>lt (ks.getD i d) (ks.getD j d)) (aoQ ks.length)=some p/\(p.toList.map fun i=>ks.getD i d).Perm ks/\(p.toList.map fun i=>ks.getD i d).Pairwise (fun a b=>lt a b=true)/\p.toList.Perm (acy ks.length):=by
 have so:SA.SO ks.length (fun i j=>lt (ks.getD i d) (ks.getD j d)):=by
   refine ⟨fun i j _ _ h=>?_,fun i j k _ _ _ h1 h2=>S.trans _ _ _ h1 h2,fun i j hi hj ne=>S.tot _ _ fun e=>ne ?_⟩
   . cases c:lt (ks.getD j d) (ks.getD i d) with
     | false=>rfl
     | true=>have z:=S.trans _ _ _ h c; rw [S.Ge] at z; cases z
   . simp only [afp,aaq hi,aaq hj,Option.getD_some] at e
     exact (aip hn).mp e
 obtain ⟨p,r,g,a⟩:=SA.WX so h2
 have all:((acy ks.length).map fun i=>ks.getD i d)=ks:=by
   apply ait
   . simp
   . intro i h1 h2
     simp [afp,h2]
 refine ⟨p,r,?_,?_,g⟩
 . have z:=aqK (fun i=>ks.getD i d) g
   rw [all] at z
   exact z
 . rw [acK,amk]
   intro i j hi hj ij
   have sz:=g.size
   rw [abr] at hi hj
   have z:=a i j ij (by omega)
   have ei:p.getD i 0=p.toList[i]'(by rw [abr]; exact hi):=by simp [aqX,hi]
   have ej:p.getD j 0=p.toList[j]'(by rw [abr]; exact hj):=by simp [aqX,hj]
   rw [ei,ej] at z
   exact z
end L2
namespace L2
open PySem PySem.Spec PyProof.Rows PySem.W
structure Kd (α:Type) where
 key:α->Key
 val:α->aau->Prop
 lt:α->α->Bool
 ty:String
 inj:∀ a b,key a=key b->a=b
 strict:Strict lt
 is:∀ x v,val x v->jP (key x) v=true
 first:∀ (prog:acs) (w:adH) (A:aeN) (E:aau->aat->Prop) (s:aat) (x y:α) (v u:aau) (Q:Bool->aat->Prop),val x v->val y u->Q (lt x y) s->wpAny (model prog w) A (oneLt' true v u) Q E s
 next:∀ (prog:acs) (w:adH) (A:aeN) (E:aau->aat->Prop) (s:aat) (x y:α) (v u:aau) (Q:Bool->aat->Prop),val x v->val y u->Q (lt x y) s->wpAny (model prog w) A (oneLt' false v u) Q E s
 aaI:(agO ty != agO "tuple")=true
 same:(agO ty == agO ty)=true
 vv:α->V
 rel:∀ x u,RelV (vv x) u->val x u
 looks:∀ (M:Model) (h:ae9) (x:α) (v:aau),val x v->Looks M h (typeOf v) (.type ty)
def kdS:Kd Str where
 key:=adz
 val x v:=∃ t,v=.str x t
 lt:=slt
 ty:="str"
 inj:=fun _ _ h=>afA h
 strict:=ju
 is:=fun x v ⟨t,e⟩=>by rw [e]; exact rP x t
 first:=fun _ _ _ _ _ _ _ _ _ _ ⟨_,e⟩ ⟨_,e'⟩ q=>by rw [e,e']; exact oneLt_str q
 next:=fun _ _ _ _ _ _ _ _ _ _ ⟨_,e⟩ ⟨_,e'⟩ q=>by rw [e,e']; exact kat_one _ _ (aqd q)
 aaI:=rfl
 same:=rfl
 vv:=V.str
 rel:=fun _ _ h=>h
 looks:=fun _ _ _ _ ⟨_,e⟩=>by rw [e]; exact .now
def kdI:Kd Int where
 key i:=amu (some i)
 val x v:=∃ t,v=.int x t
 lt i j:=decide (i<j)
 ty:="int"
 inj:=fun _ _ h=>ac8 (aqi h)
 strict:=⟨fun a=>decide_eq_false (by omega),fun a b c h1 h2=>decide_eq_true (by have:=of_decide_eq_true h1; have:=of_decide_eq_true h2; omega),fun a b h=>by
   rcases Int.lt_or_gt_of_ne h with z | z
   . exact .inl (decide_eq_true z)
   . exact .inr (decide_eq_true z)⟩
 is:=fun x v ⟨t,e⟩=>by rw [e]; exact rO x t
 first:=fun _ _ _ _ _ _ _ _ _ _ ⟨_,e⟩ ⟨_,e'⟩ q=>by rw [e,e']; exact oneLt_int q
 next:=fun _ _ _ _ _ _ _ _ _ _ ⟨_,e⟩ ⟨_,e'⟩ q=>by rw [e,e']; exact kat_one _ _ (PySem.P.lt_int q)
 aaI:=rfl
 same:=rfl
 vv:=V.int
 rel:=fun _ _ h=>h
 looks:=fun _ _ _ _ ⟨_,e⟩=>by rw [e]; exact .now
section
variable {α β:Type} [DecidableEq α] [DecidableEq β] [Inhabited α] [Inhabited β] (K1:Kd α) (K2:Kd β)
def Nj (a b:α × β):Bool:=if a.1=b.1 then (if a.2=b.2 then false else K2.lt a.2 b.2) else K1.lt a.1 b.1
omit [Inhabited α] [Inhabited β] in
theorem qz:Strict (Nj K1 K2) where
 Ge:=fun a=>by unfold Nj; rw [if_pos rfl,if_pos rfl]
 trans:=fun a b c h1 h2=>by
   unfold Nj at h1 h2 ⊢
   by_cases e1:a.1=b.1
   . rw [if_pos e1] at h1
     by_cases f1:a.2=b.2
     . rw [if_pos f1] at h1; cases h1
     . rw [if_neg f1] at h1
       by_cases e2:b.1=c.1
       . rw [if_pos e2] at h2
         by_cases f2:b.2=c.2
         . rw [if_pos f2] at h2; cases h2
         . rw [if_neg f2] at h2
           have z:=K2.strict.trans _ _ _ h1 h2
           rw [if_pos (e1.trans e2),if_neg (fun y=>by rw [y,K2.strict.Ge] at z; cases z)]
           exact z
       . rw [if_neg e2] at h2
         rw [e1,if_neg e2]; exact h2
   . rw [if_neg e1] at h1
     by_cases e2:b.1=c.1
     . rw [<- e2,if_neg e1]; exact h1
     . rw [if_neg e2] at h2
       have z:=K1.strict.trans _ _ _ h1 h2
       rw [if_neg (fun y=>by rw [y,K1.strict.Ge] at z; cases z)]
       exact z
 tot:=fun a b h=>by
   unfold Nj
   by_cases e:a.1=b.1
   . have f:a.2≠b.2:=fun z=>h (anT e z)
     rw [if_pos e,if_neg f,if_pos e.symm,if_neg (afv f)]
     exact K2.strict.tot _ _ f
   . rw [if_neg e,if_neg (afv e)]
     exact K1.strict.tot _ _ e
omit [DecidableEq α] [DecidableEq β] [Inhabited α] [Inhabited β]
def Sg (h:ae9) (a:abm) (v:aau) (k:α × β):Prop:=∃ b o m v1 v2 rest,v=.ref b/\b≠a/\h.get? b=some o/\o.cls=.type "tuple"/\o.data=.seq (v1 :: v2 :: rest:List aau).toArray m/\K1.val k.1 v1/\K2.val k.2 v2/\∀ u∈rest,∃ q:Key,jP q u=true
inductive gM (h:ae9) (a:abm):List aau->List (α × β)->Prop
 | nil:gM h a [] []
 | cons {v:aau} {vs:List aau} {k:α × β} {ks:List (α × β)}:Sg K1 K2 h a v k->gM h a vs ks->gM h a (v :: vs) (k :: ks)
variable {K1 K2}
theorem gM.len {h:ae9} {a:abm} {vs:List aau} {ks:List (α × β)} (p:gM K1 K2 h a vs ks):vs.length=ks.length:=by
 induction p with
 | nil=>rfl
 | cons _ _ ih=>rw [acM,acM,ih]
theorem gM.get [Inhabited α] [Inhabited β] {h:ae9} {a:abm} {vs:List aau} {ks:List (α × β)} (p:gM K1 K2 h a vs ks):∀ i,i<ks.length->Sg K1 K2 h a (vs.getD i acR) (ks.getD i (default,default)):=by
 induction p with
 | nil=>intro i hi; exact absurd hi (apR _)
 | cons q _ ih =>
   intro i hi
   cases i with
   | zero=>exact q
   | succ i=>exact ih i (by simpa using hi)
theorem gM.keep {h h':ae9} {a:abm} {vs:List aau} {ks:List (α × β)} (p:gM K1 K2 h a vs ks) (k:∀ b o,b≠a->h.get? b=some o->h'.get? b=some o):gM K1 K2 h' a vs ks:=by
 induction p with
 | nil=>exact .nil
 | cons q _ ih =>
   obtain ⟨b,o,m,v1,v2,rest,e,nb,g,r⟩:=q
   exact .cons ⟨b,o,m,v1,v2,rest,e,nb,k b o nb g,r⟩ ih
theorem gM.of [Inhabited α] [Inhabited β] {h:ae9} {a:abm}:∀ {vs:List aau} {ks:List (α × β)},vs.length=ks.length->(∀ i,i<ks.length->Sg K1 K2 h a (vs.getD i acR) (ks.getD i (default,default)))->gM K1 K2 h a vs ks
 | [],[],_,_=>.nil
 | v :: vs,k :: ks,hl,f=>.cons (f 0 (amr _)) (gM.of (by simpa using hl) fun i hi=>f (i+1) (Nat.succ_lt_succ hi))
 | [],_ :: _,hl,_=>by simp at hl
 | _ :: _,[],hl,_=>by simp at hl
end
section
variable {α β:Type} [DecidableEq α] [DecidableEq β] [Inhabited α] [Inhabited β] {K1:Kd α} {K2:Kd β}
variable {prog:acs} {w:adH} {A:aeN} {E:aau->aat->Prop} {s:aat}
omit [DecidableEq α] [DecidableEq β] [Inhabited α] [Inhabited β] in
theorem Ft {b fin:Bool} {Q:Bool->aat->Prop} (q:Q fin s):∀ (rest:List aau) (i:Nat),(∀ u∈rest,∃ q:Key,jP q u=true)->arD prog w A b fin Q (rest.zip rest) i s
 | [],_,_=>kat_nil q
 | u :: r,i,h=>by
   obtain ⟨k,hk⟩:=h u aaU
   refine aqE ((aU prog w).eqBool (show (aU prog w).is k u=true from hk) (show (aU prog w).is k u=true from hk) ?_)
   rw [decide_eq_true rfl]
   exact arB (Ft q r (i+1) fun v hv=>h v (aaM _ hv))
omit [Inhabited α] [Inhabited β] in
theorem WY {a:abm} {v v':aau} {k k':α × β} {Q:Bool->aat->Prop} (p:Sg K1 K2 s.heap a v k) (p':Sg K1 K2 s.heap a v' k') (hd:k=k'->v=v') (q:Q (Nj K1 K2 k k') s):wpAny (model prog w) A (keyLt' (tuples' true) v v') Q E s:=by
 obtain ⟨b,o,m,v1,v2,rest,rfl,_,g,c,d,h1,h2,h3⟩:=p
 obtain ⟨b',o',m',u1,u2,rest',rfl,_,g',c',d',h1',h2',h3'⟩:=p'
 unfold Nj at q
 have k1:(aU prog w).is (K1.key k.1) v1=true:=K1.is _ _ h1
 have k2:(aU prog w).is (K2.key k.2) v2=true:=K2.is _ _ h2
 have k1':(aU prog w).is (K1.key k'.1) u1=true:=K1.is _ _ h1'
 have k2':(aU prog w).is (K2.key k'.2) u2=true:=K2.is _ _ h2'
 by_cases e:k.1=k'.1
 . rw [if_pos e] at q
   by_cases f:k.2=k'.2
   . rw [if_pos f] at q
     have eb:b=b':=Value.ref.inj (hd (anT e f))
     subst eb
     rw [g] at g'
     cases g'
     refine kat_lt g d g d ?_
     show arD prog w A true (decide (_<_)) Q ((v1 :: v2 :: rest).zip (v1 :: v2 :: rest)) 0 s
     rw [decide_eq_false (agJ _)]
     refine Ft q _ 0 fun u hu=>?_
     rcases abz.mp hu with rfl | hu
     . exact ⟨_,K1.is _ _ h1⟩
     . rcases abz.mp hu with rfl | hu
       . exact ⟨_,K2.is _ _ h2⟩
       . exact h3 u hu
   . rw [if_neg f] at q
     refine kat_lt g d g' d' ?_
     show arD prog w A true (decide (_<_)) Q ((v1,u1) :: (v2,u2) :: rest.zip rest') 0 s
     refine aqE ((aU prog w).eqBool k1 k1' ?_)
     rw [show decide (K1.key k.1=K1.key k'.1)=true from decide_eq_true (by rw [e])]
     refine arB (aqE ((aU prog w).eqBool k2 k2' ?_))
     rw [show decide (K2.key k.2=K2.key k'.2)=false from decide_eq_false (fun z=>f (K2.inj _ _ z))]
     refine kat_no ?_
     show wpAny _ A (oneLt' false _ _) Q _ s
     exact K2.next _ _ _ _ _ _ _ _ _ _ h2 h2' q
 . rw [if_neg e] at q
   refine kat_lt g d g' d' ?_
   show arD prog w A true (decide (_<_)) Q ((v1,u1) :: (v2,u2) :: rest.zip rest') 0 s
   refine aqE ((aU prog w).eqBool k1 k1' ?_)
   rw [show decide (K1.key k.1=K1.key k'.1)=false from decide_eq_false (fun z=>e (K1.inj _ _ z))]
   refine kat_no ?_
   show wpAny _ A (oneLt' true _ _) Q _ s
   exact K1.first _ _ _ _ _ _ _ _ _ _ h1 h1' q
omit [DecidableEq α] [DecidableEq β] [Inhabited α] [Inhabited β] in
theorem Nk {h:ae9} {a:abm} {vs:List aau} {ks:List (α × β)} (p:gM K1 K2 h a vs ks):∃ fs,KatTups h vs fs/\fs.length=ks.length/\∀ v∈fs,∃ x,K1.val x v:=by
 induction p with
 | nil=>exact ⟨[],.nil,rfl,fun v h=>by cases h⟩
 | cons q _ ih =>
   obtain ⟨fs,h1,h2,h3⟩:=ih
   obtain ⟨b,o,m,v1,v2,rest,rfl,_,g,c,d,hv,_⟩:=q
   refine ⟨v1 :: fs,.cons g c d (by rfl) h1,by rw [acM,acM,h2],fun v hv'=>?_⟩
   rcases abz.mp hv' with e | e
   . rw [e]; exact ⟨_,hv⟩
   . exact h3 v e
theorem W0 {γ:Type} [Inhabited γ] {ks:List γ} (hn:ks.Nodup) {i j:Nat} {d:γ} (hi:i<ks.length) (hj:j<ks.length) (e:ks.getD i d=ks.getD j d):i=j:=by
 simp only [afp,aaq hi,aaq hj,Option.getD_some] at e
 exact (aip hn).mp e
theorem zV {a:abm} {vs:List aau} {ks:List (α × β)} {n:Nat} {P:Fin->aat->Prop} (ho:s.heap.get? a=some (seqObj "list" vs.toArray n)) (hp:gM K1 K2 s.heap a vs ks) (hn:ks.Nodup) (h6:ks.length<64)
   (h:∀ (l:List Nat),l.Perm (acy ks.length)->(l.map fun i=>ks.getD i (default,default)).Perm ks->(l.map fun i=>ks.getD i (default,default)).Pairwise (fun x y=>Nj K1 K2 x y=true)->P (.done (.ret .none)) { s with heap:=sortedHeap s.heap a vs (l.map fun i=>vs.getD i acR).toArray }) :
   wpAny (model prog w) A (agM.«list.sort» ⟨[.ref a],[]⟩) P E s:=by
 have mq:sizeLine=16777216:=acO
 have len:=hp.len
 rw [list_sort_plain]
 have la:a<s.heap.objs.size:=abf ho
 refine Fi (listItems_at ho rfl (Fi (amG ho rfl ?_ (by rw [abp]; omega) (abV _))))
 obtain ⟨e1,g1⟩:∃ e1,(s.heap.update a (afj fun _=>#[])).get? a=some (seqObj "list" #[] e1):=⟨_,get?_update_seq ho (fun _=>#[])⟩
 refine Fi (anC g1 rfl (Fi (aqe ?_ (by simp; omega))))
 refine Fi (amD ?_ (abV _))
 refine adQ ?_
 have g6:(((s.heap.update a (afj fun _=>#[])).push (seqObj "tuple" vs.toArray 0)).push (seqObj "list" #[] 0)).get? a=some (seqObj "list" #[] e1):=aap _ (aap _ g1)
 have kk:∀ b o,b≠a->s.heap.get? b=some o->(((s.heap.update a (afj fun _=>#[])).push (seqObj "tuple" vs.toArray 0)).push (seqObj "list" #[] 0)).get? b=some o:=fun b o nb e =>
   aap _ (aap _ (((aeD s.heap a _).2 b nb).trans e))
 show wpAny (model prog w) A _ P E { s with heap:=((s.heap.update a (afj fun _=>#[])).push (seqObj "tuple" vs.toArray 0)).push (seqObj "list" #[] 0) }
 dsimp only
 have sz:vs.toArray.size=vs.length:=by simp
 by_cases c2:vs.toArray.size<2
 . rw [if_pos c2,if_pos c2]
   refine Fi (aar ?_)
   rw [StateT.run_pure]
   refine Fi (aar ?_)
   dsimp only
   refine Fi (anC g6 rfl ?_)
   have em:((vs.toArray.zip vs.toArray).map (·.2))=vs.toArray:=by
     apply ao3.mp
     rw [Array.toList_map,Array.toList_zip]
     exact List.map_snd_zip (aav _)
   refine Fi (amG g6 rfl ?_ (abV _) (by show ((vs.toArray.zip vs.toArray).map (·.2)).size<=_; rw [em,sz]; omega))
   simp only [bne_self_eq_false,ae6,if_false]
   refine aar ?_
   show P _ { s with heap:=sortedHeap s.heap a vs ((vs.toArray.zip vs.toArray).map (·.2)) }
   rw [em]
   have all:∀ {α:Type} (xs:List α) (d:α),((acy xs.length).map fun i=>xs.getD i d)=xs:=fun xs d=>by
     apply ait
     . simp
     . intro i h1 h2
       simp [afp,h2]
   have fin:=h (acy ks.length) (List.Perm.refl _) (by rw [all]) (by
     rw [all]
     match ks,len with
     | [],_=>exact ah8
     | [_],_=>exact ain _ _
     | _ :: _ :: _,len=>rw [sz,len,acM,acM] at c2; omega)
   rw [<- len,all] at fin
   exact fin
 . rw [if_neg c2,if_neg c2]
   have p6:=hp.keep kk
   obtain ⟨fs,t1,t2,t3⟩:=Nk p6
   obtain ⟨p,r1,r2,r3,r4⟩:=R9 (qz K1 K2) hn (by omega) (default,default)
   refine Fi (kat_kind (T:=.type K1.ty) t1 (by omega) (fun v hv=>?_) K1.same ?_)
   . obtain ⟨x,hx⟩:=t3 v hv
     exact K1.looks _ _ _ _ hx
   . rw [K1.aaI]
     refine Fi (ae5 (kat_run (ks:=vs) (vs:=vs) (κ:=tuples' true) (Q:=fun st' s'=>s'={ s with heap:=((s.heap.update a (afj fun _=>#[])).push (seqObj "tuple" vs.toArray 0)).push (seqObj "list" #[] 0) }/\arrOf st'=p.map (kas_item (vs.toArray.zip vs.toArray))/\failedOf st'=none/\p.size=vs.length)
       (G:=fun p' s'=>p'=p/\s'={ s with heap:=((s.heap.update a (afj fun _=>#[])).push (seqObj "tuple" vs.toArray 0)).push (seqObj "list" #[] 0) }) rfl (by omega) (by omega) (fun p' st' s' q1 q2 q3 ⟨q4,q5⟩=>by subst q4; exact ⟨q5,q2,q3,q1⟩)
       (vV (n:=ks.length) (lt:=fun i j=>Nj K1 K2 (ks.getD i (default,default)) (ks.getD j (default,default))) (fun i j C hi hj hC=>WY (p6.get i hi) (p6.get j hj) (fun ek=>by rw [W0 hn hi hj ek]) hC) _ p _ (by rw [len]; exact r1) ⟨rfl,rfl⟩)) ?_ fun _ _ e=>e)
     rintro ⟨⟨⟩,st'⟩ s' ⟨rfl,har,hf,hsz⟩
     dsimp only
     have em:=kat_snds (vs:=vs) rfl har
     refine Fi (anC g6 rfl ?_)
     have psz:p.toList.length=vs.length:=by rw [abr]; exact hsz
     refine Fi (amG g6 rfl ?_ (abV _) (by rw [em,abp,aao,psz]; omega))
     rw [hf]
     simp only [bne_self_eq_false,ae6,if_false]
     refine aar ?_
     show P _ { s with heap:=sortedHeap s.heap a vs ((arrOf st').map (·.2)) }
     rw [em]
     exact h p.toList r4 r2 r3
theorem xO {x:aau} {ks:List (α × β)} {T:List aau->Prop} {Q:aau->aat->Prop} (hn:ks.Nodup) (h6:ks.length<64)
   (col:∀ (R:List aau->aat->Prop),(∀ (h':ae9) (tk:Nat) (vs:List aau),(∀ b o,s.heap.get? b=some o->h'.get? b=some o)->gM K1 K2 h' h'.objs.size vs ks->T vs->R vs { s with heap:=h',toks:=tk })->wpAny (model prog w) A.in1 (collect x) R E s)
   (h:∀ (h1 h':ae9) (tk:Nat) (vs:List aau) (l:List Nat) (n:Nat),(∀ b o,s.heap.get? b=some o->h1.get? b=some o)->(∀ b o,h1.get? b=some o->h'.get? b=some o)->T vs->vs.length=ks.length->h'.get? h1.objs.size=some (seqObj "list" (l.map fun i=>vs.getD i acR).toArray n) ->
     l.Perm (acy ks.length)->(l.map fun i=>ks.getD i (default,default)).Perm ks->(l.map fun i=>ks.getD i (default,default)).Pairwise (fun x y=>Nj K1 K2 x y=true)->Q (.ref h1.objs.size) { s with heap:=h',toks:=tk }) :
   wpAny (model prog w) A (call (.builtin "sorted") [x]) Q E s:=by
 refine (ahC aqo apB apC (apD _) ?_)
 unfold agM.«sorted»
 refine (Fi (m:=checkCount "sorted" 1 1 _) (aar ?_))
 refine Fi (col _ fun h' tk vs kk hS hT=>?_)
 have hl:=hS.len
 have mq:sizeLine=16777216:=acO
 refine Fi (amD ?_ (by omega))
 have g0:(h'.push (seqObj "list" vs.toArray 0)).get? h'.objs.size=some (seqObj "list" vs.toArray 0):=aa8 _ rfl
 refine Fi (adQ (adP aod (s:={ s with heap:=h'.push (seqObj "list" vs.toArray 0),toks:=tk }) ⟨_,g0,rfl⟩ anz
   (zV (s:={ s with heap:=h'.push (seqObj "list" vs.toArray 0),toks:=tk }) g0 (hS.keep fun b o _ e=>aap _ e) hn h6 fun l l1 l2 l3=>⟨_,rfl,?_⟩) (aoe _)))
 obtain ⟨n,gn⟩:=aoO (vs:=vs) (out:=(l.map fun i=>vs.getD i acR).toArray) g0
 refine aar ⟨_,rfl,h h' _ tk vs l n kk (fun b o e1=>?_) hT hl gn l1 l2 l3⟩
 have lt:b<h'.objs.size:=abf e1
 show (sortedHeap (h'.push (seqObj "list" vs.toArray 0)) h'.objs.size vs _).get? b=some o
 rw [aof (acu lt) (by rw [aeV]; exact afE lt)]
 exact aap _ e1
def Cd:V->Bool
 | .int _=>true | .str _=>true | .non=>true | _=>false
theorem Np {v:V} {u:aau} (h:Cd v=true) (r:RelV v u):∃ q:Key,jP q u=true:=by
 cases v <;> first | (cases h; done) | skip
 . cases r; exact ⟨.inl none,vC⟩
 . obtain ⟨t,rfl⟩:=r; exact ⟨_,rO _ t⟩
 . obtain ⟨t,rfl⟩:=r; exact ⟨_,rP _ t⟩
theorem Ce:∀ {as:List abm} {us:List aau},Vals (as.map V.ref) us->us=as.map abk
 | [],_,.nil=>rfl
 | a :: as,_,.cons h r=>by cases h; rw [Ce r]; rfl
theorem qC:∀ {vs:List V} {us:List aau},Vals vs us->(∀ v∈vs,Cd v=true)->∀ u∈us,∃ q:Key,jP q u=true
 | _,_,.nil,_,u,hu=>by cases hu
 | _,_,.cons h r,f,u,hu=>by
   rcases abz.mp hu with e | e
   . rw [e]; exact Np (f _ aaU) h
   . exact qC r (fun v hv=>f v (aaM _ hv)) u e
theorem yJ {X:Cx}:gK X (.builtin "sorted") (fun xs H Q=>∃ (p:abm) (ts:List (abm × (α × β))),xs=[.ref p]/\bY X.K H p ((ts.map (·.1)).map V.ref)/\(∀ t∈ts,∃ rest:List V,H t.1=some (.tup (K1.vv t.2.1 :: K2.vv t.2.2 :: rest))/\∀ v∈rest,Cd v=true)/\(ts.map (·.2)).Nodup/\ts.length<64 /\
   ∀ (l:abm) (ts':List (abm × (α × β))),H l=none->ts'.Perm ts->ts'.Pairwise (fun a b=>Nj K1 K2 a.2 b.2=true)->Q (.ref l) (upd H l (.lst ((ts'.map (·.1)).map V.ref)))):=by
 intro pins s σ H xs us Q I r h
 obtain ⟨p,ts,rfl,hp,hT,hn,h64,q⟩:=h
 obtain ⟨u,rfl,ru⟩:=vals1 r
 cases ru
 obtain ⟨its,rv,pl,hz⟩:=I.list hp
 have ei:=Ce rv
 subst ei
 have mq:sizeLine=16777216:=acO
 obtain ⟨o,n,g1,g2,_,g3⟩:=pl
 have at':∀ i,i<ts.length->((ts.map (·.1)).map abk).getD i acR=.ref (ts.getD i (0,default,default)).1/\(ts.map (·.2)).getD i (default,default)=(ts.getD i (0,default,default)).2:=fun i hi=>by
   simp [afp,aaJ,aaq hi]
 refine xO (K1:=K1) (K2:=K2) (ks:=ts.map (·.2)) (T:=fun vs=>vs=(ts.map (·.1)).map abk) hn (by rw [aao]; exact h64) (fun R hR=>wpAny_collect_seq p (.inl rfl) g1 g2 g3 (fun h' kk=>?_) (by rw [abp,aao,aao]; omega)) fun h1 h' tk vs l n k1 k2 hT' hvl ho l1 l2 l3=>?_
 . refine hR h' s.toks ((ts.map (·.1)).map abk) kk (gM.of (by simp) fun i hi=>?_) rfl
   rw [aao] at hi
   rw [(at' i hi).1,(at' i hi).2]
   have hm:ts.getD i (0,default,default)∈ts:=by
     simp only [afp,aaq hi,Option.getD_some]
     exact afR hi
   obtain ⟨rest,et,pr⟩:=hT _ hm
   obtain ⟨_,its,rv,ob,e1,e2,⟨m,e3⟩,_⟩:=(show cu X.prog X.w H s.heap _ (.tup _) from I.hok _ _ et)
   have g:=kk _ _ e1
   cases rv with
   | cons r1 rv =>
     cases rv with
     | cons r2 rv=>exact ⟨_,ob,m,_,_,_,rfl,acu (abf g),g,e2,e3,K1.rel _ _ r1,K2.rel _ _ r2,qC rv pr⟩
 . have I1:Inv X pins σ H { s with heap:=h1,toks:=tk }:=I.kept k1
   rw [aao] at l1
   have lb:∀ i∈l,i<ts.length:=fun i hi=>adA.mp (l1.mem_iff.mp hi)
   have eo:(l.map fun i=>vs.getD i acR)=((l.map fun i=>ts.getD i (0,default,default)).map (·.1)).map abk:=by
     have z:(l.map fun i=>vs.getD i acR)=l.map fun i=>abk (ts.getD i (0,default,default)).1:=afa fun i hi=>by rw [hT']; exact (at' i (lb i hi)).1
     rw [z,adJ,adJ]
     rfl
   rw [eo] at ho
   have ek:(l.map fun i=>(ts.map (·.2)).getD i (default,default))=(l.map fun i=>ts.getD i (0,default,default)).map (·.2):=by
     rw [adJ]
     exact afa fun i hi=>(at' i (lb i hi)).2
   have pm:(l.map fun i=>ts.getD i (0,default,default)).Perm ts:=by
     have z:=aqK (fun i=>ts.getD i (0,default,default)) l1
     have all:((acy ts.length).map fun i=>ts.getD i (0,default,default))=ts:=by
       apply ait
       . simp
       . intro i h1 h2
         simp [afp,h2]
     rw [all] at z
     exact z
   rw [ek,acK] at l3
   have lt':=pm.length_eq
   refine ⟨.ref h1.objs.size,_,I1.laid (t':=tk) (o:=.lst (((l.map fun i=>ts.getD i (0,default,default)).map (·.1)).map V.ref)) k2 (aav _) ⟨by rw [aao,aao]; omega,((l.map fun i=>ts.getD i (0,default,default)).map (·.1)).map abk,n,?_,ho⟩,rfl,q _ _ (I1.hok.fresh (aav _)) pm l3⟩
   generalize ((l.map fun i=>ts.getD i (0,default,default)).map (·.1))=ys
   induction ys with
   | nil=>exact .nil
   | cons y ys ih=>exact .cons rfl ih
end
end L2
namespace L2
open PySem PySem.Spec PyProof.Rows PySem.W
namespace ST
theorem Ss {α:Type} (f:Nat->Option α) (m:Nat):(fm m (qM f)).Pairwise (·<·):=by
 have e:fm m (qM f)=(acy (m+1)).filter fun j=>(f j).isSome:=by
   unfold fm
   generalize acy (m+1)=l
   induction l with
   | nil=>rfl
   | cons j l ih =>
     have eo:qM f j=if (f j).isSome then some j else none:=rfl
     rw [aeT,amm,eo]
     cases f j with
     | none=>exact ih
     | some _=>show j :: _=j :: _; rw [ih]
 rw [e]
 exact List.pairwise_lt_range.filter _
section
variable {prog:acs} {w:adH} {A:aeN} {E:aau->aat->Prop} {s:aat} {a it:abm} {o:Obj} {es:Array (Int × aau)} {ep:Nat} {t:aiH}
theorem Ke {α:Type}:∀ (n:Nat) (xs:List α) (s:aat) (Q:List α->aat->Prop),xs.length=n->(∀ ys d,ys.Perm xs->Q ys { s with drawn:=d })->wpAny (model prog w) A (drawOrder n xs) Q E s
 | 0,xs,s,Q,h,q=>by
   have e:xs=[]:=aeE h
   subst e
   unfold drawOrder
   exact aar (q [] s.drawn (.refl _))
 | n+1,[],s,Q,h,q=>by cases h
 | n+1,x :: xs,s,Q,h,q=>by
   unfold drawOrder
   refine Fi ?_
   intro Γ p hΓ
   show Sem.wp _ _ (.choose _ _ _) _ _ _ _
   rw [Sem.wp_choose]
   refine ⟨by simp,?_⟩
   have lt:(model prog w).w.draws anY (s.drawn.get anY) % (x :: xs).length<(x :: xs).length:=ant _ (by simp)
   generalize (model prog w).w.draws anY (s.drawn.get anY) % (x :: xs).length=i at lt
   have body:wpAny (model prog w) A (match (x :: xs)[i]? with
       | some y=>do return y :: (<- drawOrder n ((x :: xs).eraseIdx i))
       | none=>unsupported "internal:drawOrder") Q E { s with drawn:=s.drawn.bump anY }:=by
     rw [aaq lt]
     dsimp only
     refine Fi (Ke n _ _ _ (by rw [anR lt]; omega) fun ys d hp=>aar ?_)
     exact q _ d ((hp.cons _).trans (qy _ _ lt))
   exact aar (M:=model prog w) (A:=A) (E:=E) (Q:=fun i s'=>wpAny (model prog w) A (match (x :: xs)[i]? with | some y=>(do return y :: (<- drawOrder n ((x :: xs).eraseIdx i))) | none=>unsupported "internal:drawOrder") Q E s') body Γ p hΓ
def SIt (h:ae9) (it:abm) (x:aau) (a:abm) (i n ep:Nat):Prop:=h.get? it=some { cls:=.type "set_iterator",data:=.fields #[x,.int i 0,.ref a,.int n 0,.int ep 0] }
def kI (w:adH) (t:aiH) (i:Nat):Nat:=if jz w then 0 else if i=0 then 0 else t.place.getD (i-1) 0+1
def Still (w:adH) (t:aiH) (n:Nat):Prop:=jz w=true∨(jz w=false/\t.led=true/\(t.plain=true∨n<=1))
theorem below_at (hp:t.place.toList.Pairwise (·<·)) {i:Nat} (hi:i<=t.place.size):aoi t.place (if i=0 then 0 else t.place.getD (i-1) 0+1)=i:=by
 have len:t.place.toList.length=t.place.size:=abr ..
 have e:=below_app (xs:=t.place) (l1:=t.place.toList.take i) (l2:=t.place.toList.drop i) (j:=if i=0 then 0 else t.place.getD (i-1) 0+1) ?_ ?_ (agv i _).symm
 . rw [e,abo]; omega
 all_goals
   by_cases z:i=0
   . subst z
     intro x hx
     first | (cases hx; done) | exact abV _
   . rw [if_neg z]
     have g:t.place.getD (i-1) 0=t.place.toList[i-1]'(by omega):=by
       rw [adO,<- adT,aaq (by omega)]; rfl
     rw [g]
     intro x hx
     first
     | (obtain ⟨l,hl,rfl⟩:=agB.mp hx
        rw [abo] at hl
        rw [ai4]
        rcases afu l (i-1) with q | q
        . have:=amk.mp hp l (i-1) (by omega) (by omega) q
          omega
        . have:l=i-1:=by omega
          subst this
          exact ais _)
     | (obtain ⟨l,hl,rfl⟩:=agB.mp hx
        rw [ae4] at hl
        rw [List.getElem_drop]
        exact amk.mp hp (i-1) (i+l) (by omega) (by omega) (by omega))
theorem Yv {i:Nat} (ho:s.heap.get? a=some o) (hd:o.data=.set es ep t) (hf:t.fits es.size=true) (hp:t.place.toList.Pairwise (·<·)) (S:Still w t es.size) (hi:i<=es.size)
   (R:Option (aau × Nat)->aat->Prop) (r:R (((Ib w a ep es)[i]?).map fun v=>(v.2,kI w t (i+1))) s):wpAny (model prog w) A (setNext a (kI w t i) i ep) R E s:=by
 have psz:t.place.size=es.size:=by
   have:=hf
   unfold SetTable.fits at this
   exact beq_iff_eq.mp (abx.mp this).1
 unfold setNext
 refine Fi (afH ho hd hf ?_)
 refine Fi (u9 ?_)
 unfold Ib kI at r
 unfold kI
 rcases S with hb | ⟨hb,hl,hn⟩
 . rw [hb,if_pos rfl] at r
   rw [hb,if_pos rfl]
   show wpAny _ _ (if (ep != ep)=true then _ else _) _ _ _
   rw [if_neg (by simp)]
   refine Fi ?_
   unfold setWalk
   refine Fi (afH ho hd hf ?_)
   refine Fi (u9 ?_)
   rw [hb,if_pos rfl]
   refine Fi (ang (aar (aar ?_)))
   have z:R (Option.map (fun v=>(v.snd,0)) (pickOrder (w.params.setOrder a ep) es)[i]?) s:=by simpa using r
   exact z
 . simp only [hb,ae6,if_false] at r
   rw [hb,if_neg abn]
   show wpAny _ _ (if (!t.plain && decide (es.size > 1))=true then _ else _) _ _ _
   rw [if_neg (by rcases hn with z | z; · rw [z]; simp
                  . rw [decide_eq_false (by omega),Bool.and_false]; decide)]
   refine Fi ?_
   show wpAny _ _ (if (!t.led && !es.isEmpty)=true then _ else _) _ _ _
   rw [if_neg (by rw [hl]; simp)]
   refine aar (aar ?_)
   rw [if_neg abn,below_at hp (by omega)]
   by_cases lt:i<es.size
   . have e1:es[i]?=some es[i]:=afy lt
     have e2:t.place[i]?=some (t.place.getD i 0):=by rw [adO,afy (by omega)]; rfl
     rw [e1,e2]
     rw [adT,e1] at r
     simp only [Nat.add_one_ne_zero,if_false,Nat.add_sub_cancel,aiR] at r
     exact r
   . have e1:es[i]?=none:=amM (by omega)
     rw [e1]
     rw [adT,e1] at r
     exact r
def First (w:adH) (t:aiH) (h:ae9) (pt:abm) (dr:Option (List Nat)) (i:Nat) (x:aau):Prop:=match dr with
 | none=>x=.int (kI w t i) 0
 | some l=>x=.ref pt/\h.IsTuple pt (l.map fun (i:Nat)=>amg (i:Int) 0).toArray
def Cg (w:adH) (a:abm) (ep:Nat) (es:Array (Int × aau)):Option (List Nat)->List (Int × aau)
 | none=>Ib w a ep es
 | some l=>l.filterMap (es[·]?)
structure GoS (w:adH) (h:ae9) (it pt a:abm) (o:Obj) (es:Array (Int × aau)) (ep:Nat) (t:aiH) (dr:Option (List Nat)) (i:Nat):Prop where
 at_:h.get? a=some o
 it_:∃ x,First w t h pt dr i x/\SIt h it x a i es.size ep
variable {pt:abm} {dr:Option (List Nat)}
theorem Sv {l:List Nat} (hl:l.Perm (acy es.size)) (i:Nat):(Cg w a ep es (some l))[i]?=(l[i]?).bind fun j=>es[j]?:=by
 show (l.filterMap (fun j=>es[j]?))[i]?=_
 have all:∀ j∈l,j<es.size:=fun j hj=>adA.mp (hl.mem_iff.mp hj)
 clear hl
 induction l generalizing i with
 | nil=>rfl
 | cons j l ih =>
   have lt:=all j aaU
   have e:es[j]?=some es[j]:=afy lt
   rw [aoy (f:=fun j=>es[j]?) e]
   cases i with
   | zero=>show some _=es[j]?; rw [e]
   | succ i=>exact ih i fun k hk=>all k (aaM _ hk)
structure Facts (w:adH) (o:Obj) (es:Array (Int × aau)) (ep:Nat) (t:aiH) (dr:Option (List Nat)):Prop where
 d:o.data=.set es ep t
 f:t.fits es.size=true
 p:t.place.toList.Pairwise (·<·)
 s:dr=none->Still w t es.size
 l:∀ l,dr=some l->l.Perm (acy es.size)
theorem adp {i:Nat} {Q:Option aau->aat->Prop} (F:Facts w o es ep t dr) (K:GoS w s.heap it pt a o es ep t dr i) (hi:i<es.size) {v:Int × aau} (hv:(Cg w a ep es dr)[i]?=some v) (na:a≠it) (np:pt≠it)
   (q:∀ h',GoS w h' it pt a o es ep t dr (i+1)->afh it s.heap h'->Q (some v.2) { s with heap:=h' }):wpAny (model prog w) A (pyNext (.ref it)) Q E s:=by
 obtain ⟨ho,x,Fx,K⟩:=K
 have hT:s.TypeIs (.ref it) "set_iterator":=⟨_,K,rfl⟩
 unfold pyNext
 refine Fi (amE (aeL (name:=ahr "__next__") hT lO (adP lO hT zR ?_ (zT _))))
 unfold agM.«set_iterator.__next__»
 refine Fi (aar ?_)
 refine Fi (aog K rfl ?_)
 show wpAny _ _ (setEntries a >>= _) _ _ _
 refine Fi (anG ho F.d F.f ?_)
 rw [if_neg (by simp)]
 cases dr with
 | none =>
   obtain rfl:x=.int (kI w t i) 0:=Fx
   show wpAny _ _ (setNext a (kI w t i:Int).toNat (i:Int).toNat (ep:Int).toNat >>= _) _ _ _
   rw [aeQ,aeQ,aeQ]
   refine Fi (Yv ho F.d F.f F.p (F.s rfl) (afN hi) _ ?_)
   rw [show (Ib w a ep es)[i]?=some v from hv]
   dsimp only [aiR]
   refine Fi (agj K rfl (by simp) ?_)
   have K1:=aeO (agk (·.setIfInBounds 0 (rawInt (kI w t (i+1):Int)))) K rfl
   refine Fi (agj K1 rfl (by simp [agk]) ?_)
   have K2:=aeO (agk (·.setIfInBounds 1 (rawInt ((i:Int)+1)))) K1 rfl
   have sb:=((aeD s.heap it (agk (·.setIfInBounds 0 (rawInt (kI w t (i+1):Int))))).trans (aeD _ it (agk (·.setIfInBounds 1 (rawInt ((i:Int)+1))))))
   exact aar ⟨_,rfl,aar (q _ ⟨(sb.2 a na).trans ho,_,rfl,K2⟩ sb)⟩
 | some l =>
   obtain ⟨rfl,ht⟩:=Fx
   obtain ⟨op,gp,cp,np',dp⟩:=ht
   have z:=Sv (w:=w) (a:=a) (ep:=ep) (F.l l rfl) i
   rw [hv] at z
   obtain ⟨j,ej,ev⟩:=Option.bind_eq_some_iff.mp z.symm
   show wpAny _ _ (seqItems? (.ref pt) >>= _) _ _ _
   refine Fi (afs gp dp ?_)
   dsimp only
   rw [aeQ,show ((l.map fun (i:Nat)=>amg (i:Int) 0).toArray)[i]?=some (amg (j:Int) 0) from by rw [anc,aaJ,ej]; rfl]
   dsimp only
   refine Fi ?_
   unfold setNextDrawn
   refine Fi (afH ho F.d F.f ?_)
   dsimp only
   rw [if_neg (by simp)]
   rw [aeQ,ev]
   refine aar ?_
   refine Fi (agj K rfl (by simp) ?_)
   have K2:=aeO (agk (·.setIfInBounds 1 (rawInt ((i:Int)+1)))) K rfl
   have sb:=aeD s.heap it (agk (·.setIfInBounds 1 (rawInt ((i:Int)+1))))
   exact aar ⟨_,rfl,aar (q _ ⟨(sb.2 a na).trans ho,_,⟨rfl,⟨op,(sb.2 pt np).trans gp,cp,np',dp⟩⟩,K2⟩ sb)⟩
theorem endP {Q:Option aau->aat->Prop} (hh:A.handled=none) (F:Facts w o es ep t dr) (K:GoS w s.heap it pt a o es ep t dr es.size)
   (q:∀ h',arh it s.heap h'->Q none { s with heap:=h' }):wpAny (model prog w) A (pyNext (.ref it)) Q E s:=by
 obtain ⟨ho,x,Fx,K⟩:=K
 have hT:s.TypeIs (.ref it) "set_iterator":=⟨_,K,rfl⟩
 unfold pyNext
 refine Fi (amE (aeL (name:=ahr "__next__") hT lO (adP lO hT zR ?_ (zT _))))
 unfold agM.«set_iterator.__next__»
 refine Fi (aar ?_)
 refine Fi (aog K rfl ?_)
 show wpAny _ _ (setEntries a >>= _) _ _ _
 refine Fi (anG ho F.d F.f ?_)
 rw [if_neg (by simp)]
 cases dr with
 | none =>
   obtain rfl:x=.int (kI w t es.size) 0:=Fx
   show wpAny _ _ (setNext a (kI w t es.size:Int).toNat (es.size:Int).toNat (ep:Int).toNat >>= _) _ _ _
   rw [aeQ,aeQ,aeQ]
   refine Fi (Yv ho F.d F.f F.p (F.s rfl) (aav _) _ ?_)
   rw [show (Ib w a ep es)[es.size]?=none from ae8 (by rw [zU.length_eq,abr]; exact aav _)]
   dsimp only [Option.map_none]
   refine Fi (agj K rfl (by simp) ?_)
   show wpAny _ _ (newExc (.type "StopIteration") [] >>= _) _ _ _
   refine Fi ?_
   simp only [newExc,newTuple]
   refine Fi (adC ?_ (by size_fits))
   refine Fi (m:=firstArgMember _ _) (anB (a:=acR) (by first | rfl | (simp only [firstArgMember]; rfl)) (adC ?_ (by size_fits)))
   simp only [raiseNew]
   refine Fi (aoP ?_)
   rw [show A.in1.handled=none from hh]
   refine (Fi (aar (aqp ?_)))
   refine (Fi (amn (T:="StopIteration") (b:=true) ⟨_,aa8 _ rfl,rfl⟩ aoh ?_))
   exact aar (q _ (((aeD ..).extBut.push _).push _))
 | some l =>
   obtain ⟨rfl,ht⟩:=Fx
   obtain ⟨op,gp,cp,np',dp⟩:=ht
   show wpAny _ _ (seqItems? (.ref pt) >>= _) _ _ _
   refine Fi (afs gp dp ?_)
   dsimp only
   have ll:l.length=es.size:=by rw [(F.l l rfl).length_eq,afg]
   rw [aeQ,show ((l.map fun (i:Nat)=>amg (i:Int) 0).toArray)[es.size]?=none from by rw [anc,aaJ,ae8 (by omega)]; rfl]
   dsimp only
   refine Fi (agj K rfl (by simp) ?_)
   have K1:=aeO (agk (·.setIfInBounds 0 (rawInt 0))) K rfl
   refine Fi (agj K1 rfl (by simp [agk]) ?_)
   show wpAny _ _ (newExc (.type "StopIteration") [] >>= _) _ _ _
   refine Fi ?_
   simp only [newExc,newTuple]
   refine Fi (adC ?_ (by size_fits))
   refine Fi (m:=firstArgMember _ _) (anB (a:=acR) (by first | rfl | (simp only [firstArgMember]; rfl)) (adC ?_ (by size_fits)))
   simp only [raiseNew]
   refine Fi (aoP ?_)
   rw [show A.in1.handled=none from hh]
   refine (Fi (aar (aqp ?_)))
   refine (Fi (amn (T:="StopIteration") (b:=true) ⟨_,aa8 _ rfl,rfl⟩ aoh ?_))
   exact aar (q _ ((((aeD ..).trans (aeD ..)).extBut.push _).push _))
theorem adq {Q:aau->aat->Prop} {K:Type} [DecidableEq K] {hs:K->Int} {m:Nat} {f:Nat->Option (K × abm)} (ho:s.heap.get? a=some o) (hx:o.ExactSet) (hd:o.data=.set es ep t) (T:Tb hs m f t es) (hl:t.led=!jz w) (hn:es.size<=sizeLine)
   (q:∀ h' I pt d dr,(∀ b o,s.heap.get? b=some o->h'.get? b=some o)->s.heap.objs.size<=I->s.heap.objs.size<=pt->pt≠I->Facts w o es ep t dr->GoS w h' I pt a o es ep t dr 0->Q (.ref I) { s with heap:=h',drawn:=d }):wpAny (model prog w) A (pyIter (.ref a)) Q E s:=by
 have hT:s.TypeIs (.ref a) "set":=⟨o,ho,hx.1⟩
 have hf:=T.fits
 have hp:t.place.toList.Pairwise (·<·):=by rw [T.place]; exact Ss f m
 have la:a<s.heap.objs.size:=abf ho
 refine aov hT apV (adP apV hT Ia ?_ (PySem.F.args_set_iter_1 _))
 unfold agM.«frozenset.__iter__» Builtin.Frozenset.slot0
 refine Fi (Fi (aar ?_))
 refine aar ?_
 refine Fi ?_
 unfold Builtin.Frozenset.sizeOf
 refine Fi (anG ho hd hf (aar ?_))
 refine Fi (Fi (afH ho hd hf ?_))
 refine Fi (u9 ?_)
 show wpAny _ _ (pure (!jz w && (!t.plain && decide (es.size > 1)))) _ _ _
 refine aar ?_
 cases hb:(!jz w && (!t.plain && decide (es.size > 1))) with
 | false =>
   rw [if_neg abn]
   refine Fi (aar ?_)
   refine Fi (aq0 ho hd hf ?_)
   refine Fi (adC (aar ⟨_,rfl,"set_iterator",_,⟨_,aa8 _ rfl,rfl⟩,lO.lookup,?_⟩))
   have S:Still w t es.size:=by
     cases b1:jz w with
     | true=>exact .inl b1
     | false =>
       refine .inr ⟨b1,by rw [hl,b1]; rfl,?_⟩
       rw [b1] at hb
       cases b2:t.plain with
       | true=>exact .inl rfl
       | false =>
         rw [b2] at hb
         exact .inr (ao2 (of_decide_eq_false hb))
   refine q _ s.heap.objs.size (s.heap.objs.size+1) s.drawn none (fun b o e=>aap _ e) (aav _) (aqn _) (Nat.succ_ne_self _) ⟨hd,hf,hp,fun _=>S,fun l e=>by cases e⟩ ⟨aap _ ho,_,rfl,?_⟩
   have e:kI w t 0=0:=by unfold kI; split <;> rfl
   rw [e]
   exact aa8 _ rfl
 | true =>
   rw [if_pos rfl]
   refine Fi (Ke _ _ _ _ (afg ..) fun l d hp2=>?_)
   have ll:l.length=es.size:=by rw [hp2.length_eq,afg]
   unfold newTuple
   refine Fi (adC ?_ (by show (l.map _).toArray.size<=sizeLine; rw [abp,aao,ll]; exact hn))
   have ho2:=aap (h:=s.heap) { cls:=.type "tuple",data:=.seq (l.map fun (i:Nat)=>rawInt i).toArray } ho
   refine Fi (aq0 (s:=⟨_,_,_,_,_⟩) ho2 hd hf ?_)
   refine Fi (adC (aar ⟨_,rfl,"set_iterator",_,⟨_,aa8 _ rfl,rfl⟩,lO.lookup,?_⟩))
   have sz:(s.heap.push { cls:=.type "tuple",data:=.seq (l.map fun (i:Nat)=>rawInt i).toArray }).objs.size=s.heap.objs.size+1:=aeV ..
   refine q _ _ s.heap.objs.size d (some l) (fun b o e=>aap _ (aap _ e)) (by rw [sz]; exact aqn _) (aav _) (by rw [sz]; exact acu (ais _)) ⟨hd,hf,hp,(fun e=>by cases e),(fun l' e=>by cases e; exact hp2)⟩ ⟨aap _ ho2,_,⟨rfl,⟨_,aap _ (aa8 _ rfl),rfl,_,rfl⟩⟩,aa8 _ rfl⟩
theorem tZ (F:Facts w o es ep t dr):(Cg w a ep es dr).Perm es.toList:=by
 cases dr with
 | none=>exact zU
 | some l =>
   refine ((F.l l rfl).filterMap _).trans ?_
   rw [filterMap_getElem?_range]
theorem adt (hh:A.handled=none) {I:abm} (F:Facts w o es ep t dr) (na:a≠I) (np:pt≠I):Walks prog w A I [I,a,pt] [I] es.size (fun i v=>∃ e,(Cg w a ep es dr)[i]?=some e/\v=e.2) (fun i h=>GoS w h I pt a o es ep t dr i) where
 sub:=fun b hb=>by rw [abw.mp hb]; exact aaU
 frame:=fun i h h' g k=>by
   obtain ⟨ho,x,Fx,K⟩:=g
   refine ⟨k a (by simp) _ ho,x,?_,k I (by simp) _ K⟩
   cases dr with
   | none=>exact Fx
   | some l =>
     obtain ⟨e,op,gp,r⟩:=Fx
     exact ⟨e,op,k pt (by simp) _ gp,r⟩
 item:=fun i s Q E hi g q=>by
   have lt:i<(Cg w a ep es dr).length:=by rw [(tZ F).length_eq,abr]; exact hi
   exact adp F g hi (aaq lt) na np fun h' g' sb=>q _ h' s.toks ⟨_,aaq lt,rfl⟩ g' fun b o hb e=>(sb.2 b (by simpa using hb)).trans e
 done:=fun s Q E g q=>endP hh F g fun h' eb=>q h' s.toks fun b o hb e=>eb b o (by simpa using hb) e
 self:=fun i s Q E g q=>by
   obtain ⟨_,x,_,K⟩:=g
   have hT:s.TypeIs (.ref I) "set_iterator":=⟨_,K,rfl⟩
   refine aov hT Ka (adP Ka hT Ng ?_ (Nh _))
   show wpAny _ _ (ret (.ref I)) _ _ s
   exact aar ⟨_,rfl,"set_iterator",_,hT,lO.lookup,q⟩
theorem Sw {R:List aau->aat->Prop} {K:Type} [DecidableEq K] {hs:K->Int} {m:Nat} {f:Nat->Option (K × abm)} (hh:A.handled=none) (ho:s.heap.get? a=some o) (hx:o.ExactSet) (hd:o.data=.set es ep t) (T:Tb hs m f t es) (hl:t.led=!jz w) (hn:es.size<=sizeLine)
   (h:∀ (h':ae9) (tk:Nat) (d:Drawn) (l:List (Int × aau)),(∀ b o,s.heap.get? b=some o->h'.get? b=some o)->l.Perm es.toList->R (l.map (·.2)) { s with heap:=h',toks:=tk,drawn:=d }) :
   wpAny (model prog w) A (collect (.ref a)) R E s:=by
 have la:a<s.heap.objs.size:=abf ho
 unfold collect
 refine Fi (aqc (afo entry_proto_collect' ?_))
 rw [ae3 PySem.F.plain_proto_collect _]
 show wpAny _ A.in1 (newList [] >>= fun l=>again (.builtin "list.__iadd__" ⟨[l,.ref a],[]⟩)) _ _ s
 refine Fi (adC ?_)
 refine aar ⟨ahz aoU _,afo entry_list_iadd' ?_⟩
 rw [ae3 aoU _]
 have hS₁:(s.heap.push { cls:=.type "list",data:=.seq ([]:List aau).toArray }).get? s.heap.objs.size=some { cls:=.type "list",data:=.seq #[] }:=aa8 _ rfl
 have k1:∀ b o,s.heap.get? b=some o->(s.heap.push { cls:=.type "list",data:=.seq ([]:List aau).toArray }).get? b=some o:=fun b o e=>aap _ e
 have hz:(s.heap.push { cls:=.type "list",data:=.seq ([]:List aau).toArray }).objs.size=s.heap.objs.size+1:=aeV ..
 generalize s.heap.push { cls:=.type "list",data:=.seq ([]:List aau).toArray }=hS at hS₁ k1 hz
 show wpAny _ A.in1 (anH (.ref s.heap.objs.size) (.ref a) (.ref s.heap.objs.size)) _ _ _
 unfold anH
 have hT:aoN { s with heap:=hS } (.ref a) "set":=⟨o,k1 a o ho,hx.1⟩
 refine Fi (aiM hT ?_)
 have e1:aoD (.ref s.heap.objs.size) (.ref a)=false:=by simp [aoD,aho la]
 simp only [e1,show (agO "set" == agO "list")=false from rfl,show (agO "set" == agO "tuple")=false from rfl,aoI,ae6,if_false]
 refine Fi (adq (s:={ s with heap:=hS }) (k1 a o ho) hx hd T hl hn fun h2 I pt d dr k2 i1 i2 ne F g=>?_)
 have i1:s.heap.objs.size<I:=ado (by rw [hz]; exact ais _) i1
 have i2:s.heap.objs.size<pt:=ado (by rw [hz]; exact ais _) i2
 have hI:a≠I:=acu (aps la i1)
 have W:=adt (prog:=prog) (A:=A.in1) (by simpa using hh) F hI ne
 have nS:s.heap.objs.size ∉ [I,a,pt]:=fun z=>by
   simp only [abz,afd,or_false] at z
   rcases z with z | z | z
   . exact absurd z (acu i1)
   . exact absurd z (aho la)
   . exact absurd z (acu i2)
 have key:∀ (h3:ae9) (c₁:Nat),GoS w h3 I pt a o es ep t dr 0->(∀ b o,b≠s.heap.objs.size->hS.get? b=some o->h3.get? b=some o)->h3.get? s.heap.objs.size=some { cls:=.type "list",data:=.seq #[] c₁ } ->
     codeAny (model prog w) A (.builtin "list.extend.loop" ⟨[.ref s.heap.objs.size,.ref I,.ref s.heap.objs.size],[]⟩) (fun q s'=>∃ (h':ae9) (tk:Nat) (l:List (Int × aau)) (c':Nat),q=.ok (.ret (.ref s.heap.objs.size))/\s'={ s with heap:=h',toks:=tk,drawn:=d } /\
       (∀ b o,s.heap.get? b=some o->h'.get? b=some o)/\h'.get? s.heap.objs.size=some { cls:=.type "list",dict:=none,data:=.seq (l.map (·.2)).toArray c',slots:=#[] }/\l.Perm es.toList) { s with heap:=h3,drawn:=d }:=fun h3 c₁ g3 k3 gS=>by
   refine codeAny_extend_loopS W.toS hn s.heap.objs.size nS _ es.size 0 _ #[] c₁ rfl (abV _) g3 gS (ItemsOf.nil _) fun s' acc' c' hm hS' hacc=>?_
   rw [Moved.eq_with hm]
   refine ⟨s'.heap,s'.toks,Cg w a ep es dr,c',rfl,rfl,fun b o e=>?_,?_,tZ F⟩
   . have lb:b<s.heap.objs.size:=abf e
     refine hm.heap b o (fun z=>?_) (k3 b o (acu lb) (k1 b o e))
     rcases abz.mp z with z | z
     . exact absurd z (acu lb)
     . exact absurd (abw.mp z) (acu (aps lb i1))
   . have ea:acc'=((Cg w a ep es dr).map (·.2)).toArray:=by
       have len:(Cg w a ep es dr).length=es.size:=by rw [(tZ F).length_eq,abr]
       refine Array.ext (by rw [hacc.1]; simp [len]) fun i h1 h2=>?_
       obtain ⟨e,e1,e2⟩:=hacc.2 i acc'[i] (afy h1)
       have lt:i<(Cg w a ep es dr).length:=by rw [len,<- hacc.1]; exact h1
       rw [aaq lt] at e1
       simp only [List.getElem_toArray,List.getElem_map]
       rw [ac8 e1]; exact e2
     rw [<- ea]; exact hS'
 have hT2:aoN { s with heap:=h2,drawn:=d } (.ref a) "set":=⟨o,k2 a o (k1 a o ho),hx.1⟩
 refine Fi (adQ (RZ hT2 ?_))
 have k2':∀ b o,b≠s.heap.objs.size->hS.get? b=some o->h2.get? b=some o:=fun b o _ e=>k2 b o e
 have gS:=k2 _ _ hS₁
 have fin:∀ (h3:ae9) (c₁:Nat),GoS w h3 I pt a o es ep t dr 0->(∀ b o,b≠s.heap.objs.size->hS.get? b=some o->h3.get? b=some o)->h3.get? s.heap.objs.size=some { cls:=.type "list",data:=.seq #[] c₁ }->∀ {Q':arb->aat->Prop},(∀ h' tk l c',(∀ b o,s.heap.get? b=some o->h'.get? b=some o)->h'.get? s.heap.objs.size=some { cls:=.type "list",dict:=none,data:=.seq ((l:List (Int × aau)).map (·.2)).toArray c',slots:=#[] }->l.Perm es.toList->Q' (.ok (.ret (.ref s.heap.objs.size))) { s with heap:=h',toks:=tk,drawn:=d }) ->
     codeAny (model prog w) A (.builtin "list.extend.loop" ⟨[.ref s.heap.objs.size,.ref I,.ref s.heap.objs.size],[]⟩) Q' { s with heap:=h3,drawn:=d }:=fun h3 c₁ g3 k3 gS {Q'} q'=>agN (key h3 c₁ g3 k3 gS) fun r s' z=>by
   obtain ⟨h',tk,l,c',rfl,rfl,a1,a2,a3⟩:=z
   exact q' h' tk l c' a1 a2 a3
 refine ag4 (fun _=>?_) (fun _=>aar ⟨ahz aok _,fin _ _ g k2' gS fun h' tk l c' a1 a2 a3=>?_⟩)
 . refine Fi (aiY ?_)
   refine Fi ?_
   show wpAny _ _ (updateSeq s.heap.objs.size (·.push .none) >>= fun _=>updateSeq s.heap.objs.size (·.pop)) _ _ _
   refine Fi (wpAny_updateSeq gS rfl ?_)
   have hS₂:=aeO (afj (·.push acR)) gS rfl
   refine wpAny_updateSeq (hz:=by seq_fits) hS₂ rfl ?_
   have hS₃:=aeO (afj (·.pop)) hS₂ rfl
   have oth:∀ b o,b≠s.heap.objs.size->h2.get? b=some o->((h2.update s.heap.objs.size (afj (·.push acR))).update s.heap.objs.size (afj (·.pop))).get? b=some o:=fun b o hb e=>(ag5 _ _ (afv hb)).trans ((ag5 _ _ (afv hb)).trans e)
   refine aar ⟨ahz aok _,fin _ _ (W.frame 0 _ _ g fun b hb o e=>oth b o (fun z=>nS (z ▸ hb)) e) (fun b o hb e=>oth b o hb (k2' b o hb e)) hS₃ fun h' tk l c' a1 a2 a3=>?_⟩
   show wpAny _ A (load s.heap.objs.size >>= _) _ _ _
   exact Fi (arn a2 (aar (h h' tk d l a1 a3)))
 . show wpAny _ A (load s.heap.objs.size >>= _) _ _ _
   exact Fi (arn a2 (aar (h h' tk d l a1 a3)))
end
end ST
end L2
namespace L2
open PySem PySem.Spec PyProof.Rows PySem.W
theorem SJ {α β:Type} {g:α->β} {l m:List β} (h:l.Perm m):∀ xs:List α,m=xs.map g->∃ ys:List α,ys.Perm xs/\l=ys.map g:=by
 induction h with
 | nil =>
   intro xs e
   have:xs=[]:=by cases xs with | nil=>rfl | cons _ _=>cases e
   exact ⟨[],by rw [this],rfl⟩
 | cons x _ ih =>
   intro xs e
   cases xs with
   | nil=>cases e
   | cons y xs =>
     simp only [abA,anI] at e
     obtain ⟨ys,p,rfl⟩:=ih xs e.2
     exact ⟨y :: ys,p.cons y,by rw [e.1]; rfl⟩
 | swap x y l =>
   intro xs e
   cases xs with
   | nil=>cases e
   | cons a xs =>
     cases xs with
     | nil=>cases e
     | cons b xs =>
       simp only [abA,anI] at e
       exact ⟨b :: a :: xs,.swap _ _ _,by rw [e.1,e.2.1,e.2.2]; rfl⟩
 | trans _ _ ih1 ih2 =>
   intro xs e
   obtain ⟨ys,p,e2⟩:=ih2 xs e
   obtain ⟨zs,p2,e3⟩:=ih1 ys e2
   exact ⟨zs,p2.trans p,e3⟩
theorem Inv.drew {X:Cx} {pins:List (abm × Obj)} {σ:St} {H:Hp} {s:aat} (I:Inv X pins σ H s) (d:Drawn):Inv X pins σ H { s with drawn:=d }:=⟨I.ok,I.os,I.bare,I.base,I.loc,I.cell,I.free,I.jQ,I.pin,I.hok,I.len⟩
def Ci (P:acs) (w:adH) (a:abm) (ms:List (List Key × abm)) (h:ae9):Prop:=∃ ks' o es ep t m f,h.get? a=some o/\o.ExactSet/\o.data=.set es ep t/\ST.Tb (ST.tk (aU P w)).hash m f t es/\(m=7∨m=31)/\t.led=!(w.params.followText "set-order") /\
 (∀ j x,j<=m->f j=some x->x∈ms)/\((ST.fm m f).map (·.1)).Perm ks'/\ks'.Nodup/\∀ k,k∈ks'↔k∈ms.map (·.1)
def iw (P:acs) (w:adH) (a:abm) (ms:List (List Key × abm)):HO:=.ext (Ci P w a ms)
theorem Ci.of {P:acs} {w:adH} {a:abm} {ms:List (List Key × abm)} {h:ae9} {ex:List abm} (z:ST.qx P w ex h a ms):Ci P w a ms h:=by
 obtain ⟨ks',⟨o,es,ep,t,m,f,ho,hx,hdt,T,hm,hl,hf,pk,nd⟩,mk⟩:=z
 exact ⟨ks',o,es,ep,t,m,f,ho,hx,hdt,T,hm,hl,fun j x hj e=>(hf j x hj e).2.2,pk,nd,mk⟩
theorem Ci.to {P:acs} {w:adH} {a:abm} {ms:List (List Key × abm)} {h:ae9} (z:Ci P w a ms h) (tt:∀ x∈ms,ST.WW P w h x.1 x.2):ST.qx P w [] h a ms:=by
 obtain ⟨ks',o,es,ep,t,m,f,ho,hx,hdt,T,hm,hl,hf,pk,nd,mk⟩:=z
 exact ⟨ks',⟨o,es,ep,t,m,f,ho,hx,hdt,T,hm,hl,fun j x hj e=>⟨tt _ (hf j x hj e),by simp,hf j x hj e⟩,pk,nd⟩,mk⟩
theorem xP {P:acs} {w:adH} {H:Hp} {h:ae9} {a:abm} {ms:List (List Key × abm)} (z:Ci P w a ms h):cu P w H h a (iw P w a ms):=by
 refine ⟨z,?_,fun h1 h2 z k=>?_⟩
 . obtain ⟨_,o,_,_,_,_,_,e,_⟩:=z
   exact ⟨o,e⟩
 . obtain ⟨ks',o,es,ep,t,m,f,e,rest⟩:=z
   exact ⟨ks',o,es,ep,t,m,f,k o e,rest⟩
section
variable {X:Cx} {α β:Type} [DecidableEq α] [DecidableEq β] [Inhabited α] [Inhabited β] {K1:Kd α} {K2:Kd β}
theorem lQ {P0:acs} {w0:adH} (hP:X.prog=P0) (hw:X.w=w0) (hc:X.calm=true) {hd:List Key->α × β}:gK X (.builtin "sorted") (fun xs H Q=>∃ (a:abm) (ms:List (List Key × abm)),xs=[.ref a]/\H a=some (iw P0 w0 a ms)/\ST.nj ms /\
   (∀ x∈ms,∃ rest:List V,H x.2=some (.tup (K1.vv (hd x.1).1 :: K2.vv (hd x.1).2 :: rest))/\∀ v∈rest,Cd v=true)/\(∀ x∈ms,∀ y∈ms,hd x.1=hd y.1->x.1=y.1) /\
   ∀ (l:abm) (ts:List (List Key × abm)),H l=none->(∀ x∈ts,x∈ms)->(∀ k,k∈ts.map (·.1)↔k∈ms.map (·.1))->ts.Pairwise (fun a b=>Nj K1 K2 (hd a.1) (hd b.1)=true)->Q (.ref l) (upd H l (.lst (ts.map fun x=>V.ref x.2)))):=by
 subst hP hw
 intro pins s σ H xs us Q I r h
 obtain ⟨a,ms,rfl,ha,few,hT,inj,q⟩:=h
 obtain ⟨u,rfl,ru⟩:=vals1 r
 cases ru
 obtain ⟨⟨ks',o,es,ep,t,m,f,ho,hx,hdt,T,hm,hl,hf,pk,nd,mk⟩,_⟩:=(show cu X.prog X.w H s.heap a (iw X.prog X.w a ms) from I.hok a _ ha)
 have mq:sizeLine=16777216:=acO
 have ln:ks'.length<=17:=few ks' nd fun k hk=>(mk k).mp hk
 have esz:es.size=ks'.length:=by rw [T.size,<- pk.length_eq,aao]
 refine (ahC aqo apB apC (apD _) ?_)
 unfold agM.«sorted»
 refine (Fi (m:=checkCount "sorted" 1 1 _) (aar ?_))
 refine Fi (ST.Sw (by simpa using I.ok.hd hc) ho hx hdt T hl (by omega) fun h1 tk d l k1 pl=>?_)
 rw [T.ents,<- ST.xH] at pl
 obtain ⟨ts,pt,rfl⟩:=SJ pl _ rfl
 have mem:∀ x∈ts,x∈ms:=fun x hx'=>by
   obtain ⟨j,hj,e⟩:=ST.ni.mp (pt.mem_iff.mp hx')
   exact hf j x hj e
 have ndk:(ts.map (·.1)).Nodup:=((pt.map (·.1)).trans pk).nodup_iff.mpr nd
 have Wv:(ts.map fun x=>hd x.1).Nodup:=by
   rw [aa2,acK] at ndk ⊢
   exact ndk.imp_of_mem fun ha hb h e=>h (inj _ (mem _ ha) _ (mem _ hb) e)
 have ail:ts.length<=18:=by rw [pt.length_eq,<- T.size,esz]; omega
 have ev:(ts.map (ST.ent (ST.tk (aU X.prog X.w)).hash)).map (·.2)=(ts.map (·.2)).map abk:=by rw [adJ,adJ]; rfl
 rw [ev]
 refine Fi (amD ?_ (by rw [aao,aao]; omega))
 have I1:Inv X pins σ H { s with heap:=h1,toks:=tk,drawn:=d }:=(I.kept (t':=tk) k1).drew d
 have g0:(h1.push (seqObj "list" ((ts.map (·.2)).map abk).toArray 0)).get? h1.objs.size=some (seqObj "list" ((ts.map (·.2)).map abk).toArray 0):=aa8 _ rfl
 have at':∀ i,i<ts.length->((ts.map (·.2)).map abk).getD i acR=.ref (ts.getD i ([],0)).2/\(ts.map fun x=>hd x.1).getD i (default,default)=hd (ts.getD i ([],0)).1:=fun i hi=>by
   simp [afp,aaJ,aaq hi]
 have hS:gM K1 K2 (h1.push (seqObj "list" ((ts.map (·.2)).map abk).toArray 0)) h1.objs.size ((ts.map (·.2)).map abk) (ts.map fun x=>hd x.1):=gM.of (by simp) fun i hi=>by
   rw [aao] at hi
   rw [(at' i hi).1,(at' i hi).2]
   have hm':ts.getD i ([],0)∈ts:=by
     simp only [afp,aaq hi,Option.getD_some]
     exact afR hi
   obtain ⟨rest,et,pr⟩:=hT _ (mem _ hm')
   obtain ⟨_,its,rv,ob,e1,e2,⟨mm,e3⟩,_⟩:=(show cu X.prog X.w H s.heap _ (.tup _) from I.hok _ _ et)
   have g:=k1 _ _ e1
   cases rv with
   | cons r1 rv =>
     cases rv with
     | cons r2 rv=>exact ⟨_,ob,mm,_,_,_,rfl,acu (abf g),aap _ g,e2,e3,K1.rel _ _ r1,K2.rel _ _ r2,qC rv pr⟩
 refine Fi (adQ (adP aod (s:={ s with heap:=h1.push (seqObj "list" ((ts.map (·.2)).map abk).toArray 0),toks:=tk,drawn:=d }) ⟨_,g0,rfl⟩ anz
   (zV (s:={ s with heap:=h1.push (seqObj "list" ((ts.map (·.2)).map abk).toArray 0),toks:=tk,drawn:=d }) g0 hS Wv (by rw [aao]; omega) fun l l1 l2 l3=>⟨_,rfl,?_⟩) (aoe _)))
 obtain ⟨n,gn⟩:=aoO (vs:=(ts.map (·.2)).map abk) (out:=(l.map fun i=>((ts.map (·.2)).map abk).getD i acR).toArray) g0
 rw [aao] at l1
 have lb:∀ i∈l,i<ts.length:=fun i hi=>adA.mp (l1.mem_iff.mp hi)
 have eo:(l.map fun i=>((ts.map (·.2)).map abk).getD i acR)=((l.map fun i=>ts.getD i ([],0)).map (·.2)).map abk:=by
   have z:(l.map fun i=>((ts.map (·.2)).map abk).getD i acR)=l.map fun i=>abk (ts.getD i ([],0)).2:=afa fun i hi=>(at' i (lb i hi)).1
   rw [z,adJ,adJ]
   rfl
 rw [eo] at gn ⊢
 have ek:(l.map fun i=>(ts.map fun x=>hd x.1).getD i (default,default))=(l.map fun i=>ts.getD i ([],0)).map fun x=>hd x.1:=by
   rw [adJ]
   exact afa fun i hi=>(at' i (lb i hi)).2
 rw [ek,acK] at l3
 have pm:(l.map fun i=>ts.getD i ([],0)).Perm ts:=by
   have z:=aqK (fun i=>ts.getD i ([],0)) l1
   have all:((acy ts.length).map fun i=>ts.getD i ([],0))=ts:=by
     apply ait
     . simp
     . intro i h1 h2
       simp [afp,h2]
   rw [all] at z
   exact z
 generalize (l.map fun i=>ts.getD i ([],0))=ts' at gn l3 pm
 have kk:∀ b o,h1.get? b=some o->(sortedHeap (h1.push (seqObj "list" ((ts.map (·.2)).map abk).toArray 0)) h1.objs.size ((ts.map (·.2)).map abk) ((ts'.map (·.2)).map abk).toArray).get? b=some o:=fun b o e1=>by
   have lt:b<h1.objs.size:=abf e1
   rw [aof (acu lt) (by rw [aeV]; exact afE lt)]
   exact aap _ e1
 have er:(ts'.map fun x=>V.ref x.2)=(ts'.map (·.2)).map V.ref:=by rw [adJ]; rfl
 have z:=q _ ts' (I1.hok.fresh (aav _)) (fun x hx'=>mem x (pm.mem_iff.mp hx')) (fun k=>by rw [(pm.map _).mem_iff,((pt.map _).trans pk).mem_iff,mk]) l3
 refine aar ⟨_,rfl,.ref h1.objs.size,_,I1.laid (t':=tk) (o:=.lst (ts'.map fun x=>V.ref x.2)) kk (aav _) ⟨by rw [aao,pm.length_eq]; omega,_,n,by rw [er]; exact zF _,gn⟩,rfl,z⟩
theorem zW {P0:acs} {w0:adH} (hP:X.prog=P0) (hw:X.w=w0) (hc:X.calm=true) (hu:X.A.units+8<cLine):gK X (.type "set") (fun xs H Q=>∃ (p:abm) (ms:List (List Key × abm)),xs=[.ref p]/\H p=some (.tup (ms.map fun x=>V.ref x.2))/\ST.nj ms/\(∀ x∈ms,H x.2=some (.tup (x.1.map kV))) /\
   ∀ a,H a=none->Q (.ref a) (upd H a (iw P0 w0 a ms))):=by
 subst hP hw
 intro pins s σ H xs us Q I r h
 obtain ⟨p,ms,rfl,hp,few,hT,q⟩:=h
 obtain ⟨u,rfl,ru⟩:=vals1 r
 cases ru
 obtain ⟨_,its,rv,ob,e1,e2,⟨mm,e3⟩,_⟩:=(show cu X.prog X.w H s.heap _ (.tup _) from I.hok _ _ hp)
 have ei:its=(ms.map (·.2)).map abk:=Ce (by rw [adJ]; exact rv)
 refine ST.adn (ks:=ms) (I.ok.hd hc) hu ⟨ob,e1,e2,mm,e3⟩ (by rw [ei]; simp) (fun i v e=>?_) few fun h' tk z kk=>⟨.ref s.heap.objs.size,_,I.laid (t':=tk) (o:=iw X.prog X.w s.heap.objs.size ms) kk (aav _) (xP (Ci.of z)),rfl,q _ (I.hok.fresh (aav _))⟩
 rw [ei,anc,adJ,aaJ] at e
 obtain ⟨x,ex,rfl⟩:=ahl.mp e
 exact ⟨x.1,x.2,ex,rfl,jM I.hok (hT x (abg ex))⟩
end
end L2
namespace L2
open PySem PySem.Spec PyProof.Rows
def SM (elt:Expr) (D:abm) (env:Env):Sem Unit:=do
 let v <- eval elt env
 standAt elt.pos
 let _ <- call (.builtin "set.add") [.ref D,v]
def adu (P:acs) (w:adH) (D:abm) (te:TE):qR:=fun σ H R=>te σ H fun y H4=>∃ ms k b,y=.ref b/\H4 D=some (iw P w D ms)/\H4 b=some (.tup (k.map kV))/\ST.nj ms/\(∀ x∈ms,H4 x.2=some (.tup (x.1.map kV)))/\R σ (upd H4 D (iw P w D (ms++[(k,b)])))
section
variable {X:Cx} {elt tg iter:Expr} {ifs:List Expr} {scope eY:Scope} {pos:Pos} {own cap:List Str} {ix:List Nat} {wi:TI} {g:BI->TG} {tt:BI->TT} {te:BI->TE}
theorem aaK:uw X (.SetComp elt [⟨tg,iter,ifs,0⟩] scope pos) 0 iter.pos tg ifs (SM elt) where
 hq:=fun _ _ _=>rfl
 hden:=fun it D env Q E s h=>by
   show wpAny _ X.A ((compTurn (.SetComp elt [⟨tg,iter,ifs,0⟩] scope pos) 0 (.ref it) (.ref D) env).onRaise (fun x=>do noteFrame x env; theTreesLotGoes x)) _ _ s
   exact amT h
 hst:=fun it D env R s h0 h=>su rfl rfl rfl (fun _=>rfl) rfl rfl h0 h
theorem SN {t1:TE} {D:abm} (hu:X.A.units+1<cLine) (Ju:∀ v s,X.xe v s->False) (he:PE X elt t1):Du X (SM elt D X.env) (adu X.prog X.w D t1):=by
 intro pins s σ H R I h
 unfold SM
 refine Fi (ae5 (he _ s σ H _ I h) (fun u s9 ⟨v,H9,I9,r9,ms,k,b,ey,hD,hb,few,hT,w9⟩=>?_) fun v s' f=>(Ju v s' f).elim)
 subst ey
 obtain rfl:u=abk b:=r9
 refine Fi (agh (Fi ?_))
 obtain ⟨z,_⟩:=(show cu X.prog X.w H9 s9.heap D (iw X.prog X.w D ms) from I9.hok D _ hD)
 have zN:=z.to fun x hx=>jM I9.hok (hT x hx)
 have hT1:s9.TypeIs (.ref D) "set":=by
   obtain ⟨_,o,_,_,_,_,_,e,hx,_⟩:=z
   exact ⟨o,e,hx.1⟩
 refine adP PySem.F.slot_set_add hT1 PySem.F.entry_set_add ?_ (PySem.F.args_set_add_2 _ _)
 unfold agM.«set.add» Builtin.Frozenset.oneOther
 simp only [List.isEmpty_nil,aru]
 unfold Builtin.Frozenset.addrOf
 refine Fi (aar ?_)
 try dsimp only
 refine Fi (aar ?_)
 try dsimp only
 refine Fi (ST.adk (A:=X.A.in1) (by simpa using hu) zN (jM I9.hok hb) (by simp) few fun h' tk r sb _ z'=>?_)
 refine aar ⟨_,rfl,aar ⟨σ,_,kZ (t':=tk) I9 (by rw [hD]; exact agS) sb ?_ (xP (Ci.of z')),w9⟩⟩
 obtain ⟨_,⟨o,_,_,_,_,_,e,_⟩,_⟩:=z'
 exact ⟨o,e⟩
theorem SQ {pins:List (abm × Obj)} {σ:St} {H:Hp} {s:aat} {Q:aau->aat->Prop} {E:aau->aat->Prop} (I:Inv X pins σ H s)
   (h:Inv X pins σ (upd H s.heap.objs.size (iw X.prog X.w s.heap.objs.size [])) { s with heap:=s.heap.push (jj (!jz X.w)) }->Q (.ref s.heap.objs.size) { s with heap:=s.heap.push (jj (!jz X.w)) }):wpAny (model X.prog X.w) X.A (newSet (.type "set")) Q E s:=by
 unfold newSet
 refine Fi (u9 ?_)
 exact adC (h (I.laid (a:=s.heap.objs.size) (o:=iw X.prog X.w s.heap.objs.size []) (t':=s.toks) (fun _ _ q=>aap _ q) (aav _) (xP (Ci.of (ex:=[]) (ST.qx.nil (aa8 _ rfl))))))
abbrev W6 (P:acs) (w:adH) (own:List Str) (ix:List Nat) (wi:TI) (g:BI->TG) (tt:BI->TT) (te:BI->TE):TE:=Qn own ix (fun D=>iw P w D []) wi g tt fun b D=>adu P w D (te b)
theorem Nq (hu:X.A.units+1<cLine) (hc:X.calm=true) (hX:X.env.scope=eY) (S:pW eY scope X.N own cap ix) (hi:PI X tg iter wi) (hg:∀ b,PG (blk X scope (own++cap) b) tg (g b)) (ht:∀ b,Dn (blk X scope (own++cap) b) ifs (tt b))
   (he:∀ b,PE (blk X scope (own++cap) b) elt (te b)) (hs:∀ x,foldedSetIterable iter X.env x=pure x:=by intro _; rfl) :
   PE X (.SetComp elt [⟨tg,iter,ifs,0⟩] scope pos) (W6 X.prog X.w own ix wi g tt te):=by
 intro pins s σ H Q I h
 show wpAny _ X.A (comprehension (.SetComp elt [⟨tg,iter,ifs,0⟩] scope pos) scope X.env _ (newSet (.type "set")) false (eval iter X.env)) _ _ s
 refine ux (use:=none) rfl aaK (fun _ _ _ _ _ _=>SQ) hc hX S hi hg ht (fun b D=>SN (by exact hu) (fun _ _ f=>f) (he b)) hs I h fun D C H' s' q hn _ hI=>?_
 obtain ⟨m,hn⟩:=hn
 exact ⟨m,hn,fun h' hh=>⟨.ref D,H',hI h' hh,rfl,q⟩⟩
end
end L2
namespace mz
open PySem L2 gF
def SX (r:Row):List Key:=[.inl (some r.2),.inr r.1]
def W7:List Key->Int × Str
 | [.inl (some i),.inr x]=>(i,x)
 | _=>(0,"")
theorem rE (r:Row):W7 (SX r)=(r.2,r.1):=rfl
theorem W8 {r r':Row} (h:SX r=SX r'):r=r':=by
 have z:=congrArg W7 h
 rw [rE,rE] at z
 exact anT (congrArg afn z) (congrArg adB z)
structure xQ (r1 r2 r:List Row):Prop where
 mem:∀ a,a∈r↔a∈r1∨a∈r2
 rise:(r.map afn).Pairwise (·<·)
theorem Kf {r r':List Row} (h:(r.map afn).Pairwise (·<·)) (h':(r'.map afn).Pairwise (·<·)) (e:∀ a,a∈r↔a∈r'):r=r':=by
 rw [acK] at h h'
 have nd:∀ {l:List Row},l.Pairwise (fun a b=>a.2<b.2)->l.Nodup:=fun h=>aa2.mpr (h.imp fun {a b} h e=>by rw [e] at h; omega)
 exact ((ahn (nd h) (nd h')).mpr e).eq_of_pairwise (fun a b _ _ h1 h2=>by omega) h h'
theorem xQ.uniq {r1 r2 r r':List Row} (h:xQ r1 r2 r) (h':xQ r1 r2 r'):r=r':=Kf h.rise h'.rise fun a=>(h.mem a).trans (h'.mem a).symm
structure xR (U r:List Row):Prop where
 few:U.length<=17
 sub:∀ a∈r,a∈U
 rise:(U.map afn).Pairwise (·<·)
theorem xR.inj {U r:List Row} (h:xR U r) {a b:Row} (ha:a∈r) (hb:b∈r) (e:a.2=b.2):a=b:=by
 have n:(U.map afn).Nodup:=h.rise.imp fun h=>by omega
 obtain ⟨i,hi,ei⟩:=afq (h.sub a ha)
 obtain ⟨j,hj,ej⟩:=afq (h.sub b hb)
 have a1:(U.map afn)[i]?=some a.2:=by rw [aaJ,aaq hi,ei]; rfl
 have a2:(U.map afn)[j]?=some a.2:=by rw [aaJ,aaq hj,ej,e]; rfl
 have ij:=(aie (by rw [aao]; exact hi) n).mp (a1.trans a2.symm)
 subst ij
 rw [<- ei,ej]
def Ig:Sp:=fun vs H Q _=>∃ (x y:V) (U r1 r2:List Row),vs=[x,y]/\fu H x r1/\fu H y r2/\xR U (r1++r2)/\r1.length+r2.length<=1000/\∀ (z:V) (r:List Row) (H':Hp),fu H' z r->xQ r1 r2 r->Same H H'->Q z H'
def xT:Sp:=fun vs H Q _=>∃ (x:V) (hs:List aA) (ls:List Letter),vs=[x]/\bK H x hs ls/\hs.length<=6/\∀ (d:abm) (H':Hp),H d=none->H' d=some (.lst ((hs.map aA.name).map V.str))->Same H H'->Q (.ref d) H'
section
variable {P:acs} {w:adH} {K:aas} {mg:Str->Option aau} {base:ae9} {t8 t6 tR tL:Tok}
theorem Nr:bB ["ledger"] ["ledger"] (au lF):=⟨rfl,rfl,rfl,by decide +kernel,rfl,by decide +kernel,by decide +kernel⟩
theorem Nt {f:abm} {fd:aeF} (F:lX K "house_names" "house_names" lF f fd) (T:Txt mg t8 t6 tR tL):aV P w K mg base cG 1 f fd ["ledger"] xT:=by
 refine F.ok Nr (fun vs H Q E h=>?_) (fun cdv A outer s H vs Q E hr h=>?_)
 . obtain ⟨x,hs,ls,rfl,_⟩:=h
   rfl
 . obtain ⟨x,hs,ls,rfl,⟨a,y,z,rfl,ha,⟨c,vh,rfl,hc,ph⟩,hL⟩,h6,q⟩:=h
   have mq:sizeLine=16777216:=acO
   refine ⟨_,(aG (aZ (cA (eY:=au lF) (own:=["house"]) (cap:=[]) (ix:=[]) rfl rfl ⟨rfl,by decide +kernel,by decide +kernel,by decide +kernel,rfl,by decide +kernel⟩ (cI (bG dO (pV 0) aC (fun _ _=>rfl))) (fun b=>(aH (i:=0) (show (["house"]:List Str).Nodup by decide +kernel) rfl (acz rfl))) (fun b=>bM) (fun b=>(bG dO (pV 0) aC (fun _ _=>rfl)))))),?_⟩
   refine bV (bA.of ha) (i:=0) (v:=.ref c) (by rfl) ?_
   have lh:=ph.length
   refine ⟨c,rfl,⟨_,bA.of hc⟩,fun D hD=>jt (xs:=vh) (fun i H'=>cL H H' D (((hs.map aA.name).take i).map V.str)) (cL.start hD) (fun i H' _ G=>bA.of (G.same _ _ hc)) (fun H' G=>?_) (fun i x H' hx hi G b=>?_)⟩
   . have e:(hs.map aA.name).take vh.length=hs.map aA.name:=adN (by rw [aao]; omega)
     rw [e] at G
     exact q D H' hD G.at' G.same
   . obtain ⟨hh,hhi,ht⟩:=aL ph hx
     obtain ⟨c1,b1,rfl,e1,_⟩:=ht
     refine bV (bA.of (G.same _ _ e1)) (i:=0) (v:=.str hh.name) (by rfl) ?_
     refine ⟨_,G.at',by rw [aao,abo,aao]; omega,nx hi ?_⟩
     have e2:(hs.map aA.name).take (i+1)=(hs.map aA.name).take i++[hh.name]:=by rw [abj,aaJ,hhi]; rfl
     show cL H _ D _
     rw [e2,abt]
     exact G.put hD _
theorem W9:bB ["one","other"] ["one","other"] (au uE):=⟨rfl,rfl,rfl,by decide +kernel,rfl,by decide +kernel,by decide +kernel⟩
theorem Xa {f:abm} {fd:aeF} (F:lX K "merged_run" "merged_run" uE f fd) (T:Txt mg t8 t6 tR tL):aV P w K mg base cG 1 f fd ["one","other"] Ig:=by
 refine F.ok W9 (fun vs H Q E h=>?_) (fun cdv A outer s H vs Q E hr h=>?_)
 . obtain ⟨x,y,U,r1,r2,rfl,_⟩:=h
   rfl
 . obtain ⟨x,y,U,r1,r2,rfl,⟨a,vs,rfl,ha,pa⟩,⟨b,ws,rfl,hb,pb⟩,oU,few,q⟩:=h
   have mq:sizeLine=16777216:=acO
   have la:=pa.length
   have lb:=pb.length
   refine ⟨_,(aG (aZ (bD bf rfl T.tuple abU (aj (cA (eY:=au uE) (own:=["reading","name"]) (cap:=[]) (ix:=[]) rfl rfl ⟨rfl,by decide +kernel,by decide +kernel,by decide +kernel,rfl,by decide +kernel⟩ (iM (aO (lQ (P0:=P) (w0:=w) (K1:=kdI) (K2:=kdS) (hd:=W7) rfl rfl rfl) rfl T.sorted afm (aj (Nq (eY:=au uE) (own:=["name","reading"]) (cap:=[]) (ix:=[]) (iu hr) rfl rfl ⟨rfl,by decide +kernel,by decide +kernel,by decide +kernel,rfl,by decide +kernel⟩ (cI (bJ qT (pV 0) (pV 1))) (fun b=>(eU rfl (aR (aH (i:=0) (show (["name","reading"]:List Str).Nodup by decide +kernel) rfl (acz rfl)) (aR (aH (i:=1) (show (["name","reading"]:List Str).Nodup by decide +kernel) rfl (acz rfl)) dg)))) (fun b=>bM) (fun b=>(cN (aj (pV 1) (aj (pV 0) ak))))) ak))) (fun b=>(eU rfl (aR (aH (i:=0) (show (["reading","name"]:List Str).Nodup by decide +kernel) rfl (acz rfl)) (aR (aH (i:=1) (show (["reading","name"]:List Str).Nodup by decide +kernel) rfl (acz rfl)) dg)))) (fun b=>bM) (fun b=>(cN (aj (pV 1) (aj (pV 0) ak))))) ak)))),?_⟩
   refine ⟨⟨a,b,vs,ws,rfl,rfl,ha,hb,by omega,fun c H1 hc s1=>?_⟩⟩
   have pc:acN (cM H1) (vs++ws) (r1++r2):=aq (fun _ _ z=>z.ts s1.tups) (aM pa pb)
   generalize vs++ws=us at hc pc
   generalize er:r1++r2=rr at pc oU
   have lc:=pc.length
   have lr:rr.length<=1000:=by rw [<- er,abe]; omega
   have aaL:∀ ms:List (List Key × abm),(∀ x∈ms,∃ a∈rr,x.1=SX a)->ST.nj ms:=fun ms hm=>ST.nj.of (U:=U.map SX) (by rw [aao]; exact oU.few) fun x hx=>by
     obtain ⟨a,ha,e⟩:=hm x hx
     rw [e]; exact abv (oU.sub a ha)
   refine ⟨c,rfl,⟨_,bA.of hc⟩,fun D hD=>⟨WS us.length (fun i σ H'=>∃ (ms:List (List Key × abm)) (o1 o2:Option V),σ=[o1,o2]/\H' D=some (iw P w D ms)/\ms.map (·.1)=(rr.take i).map SX/\(∀ x∈ms,H' x.2=some (.tup (x.1.map kV)))/\Same H1 H'),Yl ⟨[],none,none,rfl,ao,rfl,fun x hx=>(by cases hx),(Same.refl H1).upd hD⟩,fun b=>sG (xs:=us) _ (fun i σ H' _ hz=>by obtain ⟨_,_,_,_,_,_,_,s⟩:=hz; exact bA.of (s _ _ hc)) (fun σ H2 hz=>?_) (fun i x σ H2 hx hi hz=>?_)⟩⟩
   . obtain ⟨ms,o1,o2,rfl,eD,em,hT,s2⟩:=hz
     rw [lc,adi] at em
     have key:∀ x∈ms,∃ a∈rr,x.1=SX a:=fun x hx=>by
       have z:x.1∈ms.map (·.1):=abv hx
       rw [em] at z
       obtain ⟨a,ha,e⟩:=abh.mp z
       exact ⟨a,ha,e.symm⟩
     refine ⟨D,ms,rfl,eD,aaL ms key,(fun x hx=>?_),(fun x hx y hy e=>?_),fun l ts fl Nu kts pw=>?_⟩
     . obtain ⟨a,_,e⟩:=key x hx
       refine ⟨[],?_,fun v hv=>(by cases hv)⟩
       rw [hT x hx,e]; rfl
     . obtain ⟨a,_,e1⟩:=key x hx
       obtain ⟨b,_,e2⟩:=key y hy
       rw [e1,e2,rE,rE] at e
       rw [e1,e2,anT (congrArg afn e) (congrArg adB e)]
     . have s3:Same H2 (upd H2 l (.lst (ts.map fun x=>V.ref x.2))):=(Same.refl H2).upd fl
       generalize eH3:upd H2 l (.lst (ts.map fun x=>V.ref x.2))=H3 at s3
       have el:H3 l=some (.lst (ts.map fun x=>V.ref x.2)):=by rw [<- eH3]; exact ao
       have ail:ts.length<=17:=aaL ms key _ (by
         rw [aa2,acK]
         exact pw.imp fun {a b} h e=>by rw [e,(qz kdI kdS).Ge] at h; cases h) (fun k hk=>(kts k).mp hk) |> fun z=>by rw [aao] at z; exact z
       refine ⟨l,rfl,⟨_,bY.of el⟩,fun D2 hD2=>jY (xs:=ts.map fun x=>V.ref x.2) (fun i H'=>∃ zs,cL H3 H' D2 zs/\acN (cM H') zs ((ts.take i).map fun x=>((W7 x.1).2,(W7 x.1).1))) ⟨[],cL.start hD2,.nil⟩ (fun i H' _ hz=>by obtain ⟨_,G,_⟩:=hz; exact bY.of (G.same _ _ el)) (fun H' hz=>?_) (fun i x H' hx hi hz b=>?_)⟩
       . obtain ⟨zs,G,pz⟩:=hz
         rw [aao,adi] at pz
         refine ⟨D2,zs,rfl,.inl ⟨bY.of G.at',fun t1 rD=>?_⟩⟩
         have s4:Same H' (upd H' t1 (.tup zs)):=(Same.refl H').upd rD
         refine q _ _ _ ⟨t1,zs,rfl,ao,aq (fun _ _ z=>z.ts s4.tups) pz⟩ ⟨fun a=>?_,?_⟩ (((s1.trans s2).trans s3).trans (G.same.trans s4))
         . have e1:a∈(ts.map fun x=>((W7 x.1).2,(W7 x.1).1))↔SX a∈ts.map (·.1):=by
             constructor
             . intro z
               obtain ⟨x,hx,rfl⟩:=abh.mp z
               obtain ⟨c,_,e⟩:=key x (Nu x hx)
               rw [e,rE]
               exact abh.mpr ⟨x,hx,e⟩
             . intro z
               obtain ⟨x,hx,e⟩:=abh.mp z
               exact abh.mpr ⟨x,hx,by rw [e,rE]⟩
           rw [e1,kts,em]
           constructor
           . intro z
             obtain ⟨c,hc',e⟩:=abh.mp z
             rw [<- W8 e]
             rw [<- er] at hc'
             exact abq.mp hc'
           . intro z
             exact abv (by rw [<- er]; exact abq.mpr z)
         . rw [adJ,acK]
           refine pw.imp_of_mem fun {x y} hx hy h=>?_
           obtain ⟨c,hc1,e⟩:=key x (Nu x hx)
           obtain ⟨d,hd1,e'⟩:=key y (Nu y hy)
           show (W7 x.1).1<(W7 y.1).1
           rw [e,e',rE,rE] at h ⊢
           unfold Nj at h
           by_cases z:c.2=d.2
           . have:=oU.inj hc1 hd1 z
             subst this
             rw [if_pos rfl,if_pos rfl] at h; cases h
           . rw [if_neg z] at h
             exact of_decide_eq_true h
       . obtain ⟨zs,G,pz⟩:=hz
         rw [aaJ] at hx
         obtain ⟨x0,hx0,rfl⟩:=ahl.mp hx
         obtain ⟨c,_,e⟩:=key x0 (Nu x0 (abg hx0))
         have ex:H' x0.2=some (.tup [.int c.2,.str c.1]):=G.same _ _ (s3 _ _ (by have z:=hT x0 (Nu x0 (abg hx0)); rw [e] at z; exact z))
         refine ⟨x0.2,_,rfl,bA.of ex,rfl,_,_,rfl,_,_,rfl,rfl,?_⟩
         refine ⟨by show 2<=sizeLine; omega,fun t ft=>?_⟩
         have lz:=pz.length
         rw [aao,abo] at lz
         have s4:Same H' (upd H' t (.tup [.str c.1,.int c.2])):=(Same.refl H').upd ft
         have G2:=G.more s4
         refine ⟨zs,G2.at',by omega,nx hi ⟨zs++[.ref t],G2.put hD2 _,?_⟩⟩
         have tt:bZ (upd H' t (.tup [.str c.1,.int c.2])) (upd (upd H' t (.tup [.str c.1,.int c.2])) D2 (.lst (zs++[.ref t]))):=fun a ys e=>by rw [aF (fun z=>by rw [z,G2.at'] at e; cases e)]; exact e
         rw [abj,hx0,abt]
         refine aM (aq (fun _ _ z=>(z.ts s4.tups).ts tt) pz) (.cons ⟨t,rfl,tt _ _ ?_⟩ .nil)
         dsimp only
         rw [e,rE]; exact ao
   . obtain ⟨ms,o1,o2,rfl,eD,em,hT,s2⟩:=hz
     obtain ⟨r,hri,a1,rfl,ea⟩:=aL pc hx
     refine ⟨a1,_,rfl,bA.of (s2 _ _ ea),rfl,_,_,rfl,_,_,rfl,rfl,?_⟩
     refine ⟨by show 2<=sizeLine; omega,fun t ft=>?_⟩
     have nDt:D≠t:=aD eD ft
     have s3:Same H2 (upd H2 t (.tup [.int r.2,.str r.1])):=(Same.refl H2).upd ft
     have old:∀ x∈ms,x.2≠D:=fun x hx z=>by have:=hT x hx; rw [z,eD] at this; cases this
     have key:∀ x∈ms,∃ a∈rr,x.1=SX a:=fun x hx=>by
       have z:x.1∈ms.map (·.1):=abv hx
       rw [em] at z
       obtain ⟨a,ha,e⟩:=abh.mp z
       exact ⟨a,afi ha,e.symm⟩
     refine ⟨ms,SX r,t,rfl,s3 _ _ eD,ao,aaL ms key,fun x hx=>s3 _ _ (hT x hx),nxs hi ⟨ms++[(SX r,t)],_,_,rfl,ao,?_,fun x hx=>?_,?_⟩⟩
     . rw [abt,em,abj,hri,abt]; rfl
     . rcases abq.mp hx with z | z
       . rw [aF (old x z)]; exact s3 _ _ (hT x z)
       . rw [abw.mp z,aF (afv nDt)]; exact ao
     . intro b0 o0 e0
       rw [aF (aD e0 hD)]
       exact s3 _ _ (s2 _ _ e0)
end
end mz
namespace mz
open PySem L2 gF
def Fv (r:Row):ai6:=.tuple [.str r.1,.int r.2]
def xU (rs:List Row):ai6:=.tuple (rs.map Fv)
def lV (h:aA):ai6:=.tuple [.str h.name,.int h.low,.int h.high,.int h.aQ,.tuple (h.runs.map xU)]
def Cj:Option Int->ai6
 | none=>.none
 | some i=>.int i
def pN (l:Letter):ai6:=.tuple [.str l.1.1,.str l.1.2,.int l.2.1,Cj l.2.2]
def pO (hs:List aA) (ls:List Letter):ai6:=.tuple [.tuple (hs.map lV),.tuple (ls.map pN)]
theorem oR {α:Type} {K:aas} {H:Hp} {R:V->α->Prop} {f:α->ai6} {vs:List V} {xs:List α} (p:acN R vs xs) (h:∀ v x,R v x->Dp K H v (f x)):Ov K H vs (xs.map f):=by
 induction p with
 | nil=>exact .nil
 | cons r _ ih=>exact .cons (h _ _ r) ih
theorem nq {K:aas} {H:Hp} {v:V} {hs:List aA} {ls:List Letter} (h:bK H v hs ls):Dp K H v (pO hs ls):=by
 obtain ⟨a,x,y,rfl,ea,⟨b,vb,rfl,eb,pb⟩,⟨c,vc,rfl,ec,pc⟩⟩:=h
 refine .tup (bA.of ea) (.cons (.tup (bA.of eb) (oR pb fun v h hh=>?_)) (.cons (.tup (bA.of ec) (oR pc fun v l hl=>?_)) .nil))
 . obtain ⟨a1,b1,rfl,e1,c1,v1,rfl,e2,p1⟩:=hh
   refine .tup (bA.of e1) (.cons (.str _) (.cons (.int _) (.cons (.int _) (.cons (.int _) (.cons (.tup (bA.of e2) (oR p1 fun v rs hr=>?_)) .nil)))))
   obtain ⟨a2,v2,rfl,e3,p2⟩:=hr
   refine .tup (bA.of e3) (oR p2 fun v r hr=>?_)
   obtain ⟨a3,rfl,e4⟩:=hr
   exact .tup (bA.of e4) (.cons (.str _) (.cons (.int _) .nil))
 . obtain ⟨a1,rfl,e1⟩:=hl
   refine .tup (bA.of e1) (.cons (.str _) (.cons (.str _) (.cons (.int _) (.cons ?_ .nil))))
   cases l.2.2 with
   | none=>exact .non
   | some i=>exact .int i
theorem rF {α:Type} {f:α->ai6}:∀ {xs:List α},(∀ x∈xs,(f x).canLay0=true)->aeI (xs.map f)=true
 | [],_=>rfl
 | x :: xs,h=>by
   rw [abA]
   unfold aeI
   rw [h x aaU,rF fun y hy=>h y (aaM _ hy)]
   rfl
theorem iI {α:Type} {f:α->ai6} {d:Nat}:∀ {xs:List α},(∀ x∈xs,(f x).depth<=d)->aeY (xs.map f)<=d
 | [],_=>abV _
 | x :: xs,h=>by
   rw [abA]
   unfold aeY
   have h1:=h x aaU
   have h2:=iI (xs:=xs) fun y hy=>h y (aaM _ hy)
   omega
structure xV (hs:List aA) (ls:List Letter):Prop where
 hn:∀ h∈hs,Good h.name
 rn:∀ h∈hs,∀ rs∈h.runs,∀ r∈rs,Good r.1
 ln:∀ l∈ls,Good l.1.1/\Good l.1.2
theorem Nv (r:Row):(Fv r).depth=1:=by simp [Fv,afF,aeY]
theorem Ny (rs:List Row):(xU rs).depth<=2:=by
 unfold xU afF
 have:=iI (f:=Fv) (d:=1) (xs:=rs) fun r _=>by rw [Nv]; exact aav _
 omega
theorem uH (h:aA):(lV h).depth<=4:=by
 have:=iI (f:=xU) (d:=2) (xs:=h.runs) fun r _=>Ny r
 have e:(PyData.tuple (h.runs.map xU)).depth<=3:=by unfold afF; omega
 unfold lV
 simp only [afF,aeY] at e ⊢
 omega
theorem zX (l:Letter):(pN l).depth<=1:=by
 unfold pN
 cases l.2.2 <;> simp [Cj,afF,aeY]
theorem d7 {hs:List aA} {ls:List Letter} (g:xV hs ls):afD (pO hs ls)=true:=by
 have h1:=rF (f:=lV) (xs:=hs) fun h hh=>by
   have r:=rF (f:=xU) (xs:=h.runs) fun rs hr=>by
     unfold xU ae7
     exact rF fun r hr'=>by
       have z:=(g.rn h hh rs hr r hr').ok
       simp [Fv,ae7,aeI,z]
   have z:=(g.hn h hh).ok
   simp [lV,ae7,aeI,z,r]
 have h2:=rF (f:=pN) (xs:=ls) fun l hl=>by
   have z1:=(g.ln l hl).1.ok
   have z2:=(g.ln l hl).2.ok
   unfold pN
   cases l.2.2 <;> simp [Cj,ae7,aeI,z1,z2]
 have d1:=iI (f:=lV) (d:=4) (xs:=hs) fun h _=>uH h
 have d2:=iI (f:=pN) (d:=1) (xs:=ls) fun l _=>zX l
 unfold afD
 rw [afr]
 refine ⟨?_,decide_eq_true ?_⟩
 . simp [pO,ae7,aeI,h1,h2]
 . simp only [pO,afF,aeY]
   omega
theorem Ck {hs:List aA} {ls:List Letter} (g:xV hs ls):aix (pO hs ls) (pO hs ls)=true:=am0 _ (abx.mp (d7 g)).1
end mz
namespace L2
open PySem PySem.Spec PyProof.Rows PyProof
section
variable {prog:acs} {w:adH} {A:aeN} {E:aau->aat->Prop} {s:aat}
theorem Cm {J t:abm} {i:Nat} {its:Array aau} {x:aau} {Q:aau->aat->Prop} (hJ:s.heap.IsTupleIter J t i) (ht:s.heap.IsTuple t its) (hx:its[i]?=some x)
   (q:∀ h',h'.IsTupleIter J t (i+1)->afh J s.heap h'->Q x { s with heap:=h' }):wpAny (model prog w) A (ae2 (.ref J)) Q E s:=by
 obtain ⟨o,ho,hc,hd⟩:=id hJ
 obtain ⟨ot,hot,_,nt,hdt⟩:=ht
 unfold ae2
 refine Fi (aeL (name:=ahr "__next__") hJ.typeIs afS (adP afS hJ.typeIs amJ ?_ (amt _)))
 show wpAny _ _ (field (.ref J) 0 >>= _) _ _ s
 refine Fi (afL ho hd (x:=.ref t) rfl ?_)
 show wpAny _ _ (if (abk t == acR)=true then _ else _) _ _ s
 refine ag4 (fun z=>absurd z abn) (fun _=>?_)
 show wpAny _ _ (field (.ref J) 1 >>= _) _ _ s
 refine Fi (afL ho hd (x:=.int i 0) rfl ?_)
 show wpAny _ _ (seqItems? (.ref t) >>= _) _ _ s
 refine Fi (afs hot hdt ?_)
 simp only [aeQ,hx]
 refine Fi (agj ho hd (by simp) (aar ⟨x,rfl,aar (q _ ⟨_,aeO _ ho (apH (amF hd _)),(aqS ..).trans hc,by rw [amF hd]; simp [rawInt]⟩ (aeD ..))⟩))
theorem S9 {J t:abm} {i:Nat} {its:Array aau} {Q:aau->aat->Prop} (hh:A.handled=none) (hJ:s.heap.IsTupleIter J t i) (ht:s.heap.IsTuple t its) (hx:its[i]?=none)
   (q:∀ h' e,arh J s.heap h'->(∃ o,h'.get? e=some o/\o.cls=.type "StopIteration")->E (.ref e) { s with heap:=h' }):wpAny (model prog w) A (ae2 (.ref J)) Q E s:=by
 obtain ⟨o,ho,hc,hd⟩:=id hJ
 obtain ⟨ot,hot,_,nt,hdt⟩:=ht
 unfold ae2
 refine Fi (aeL (name:=ahr "__next__") hJ.typeIs afS (adP afS hJ.typeIs amJ ?_ (amt _)))
 show wpAny _ _ (field (.ref J) 0 >>= _) _ _ s
 refine Fi (afL ho hd (x:=.ref t) rfl ?_)
 show wpAny _ _ (if (abk t == acR)=true then _ else _) _ _ s
 refine ag4 (fun z=>absurd z abn) (fun _=>?_)
 show wpAny _ _ (field (.ref J) 1 >>= _) _ _ s
 refine Fi (afL ho hd (x:=.int i 0) rfl ?_)
 show wpAny _ _ (seqItems? (.ref t) >>= _) _ _ s
 refine Fi (afs hot hdt ?_)
 simp only [aeQ,hx]
 refine Fi (aiY (Fi (agj ho hd (by simp) ?_)))
 show wpAny _ _ (newExc (.type "StopIteration") [] >>= _) _ _ _
 refine Fi ?_
 simp only [newExc,newTuple]
 refine Fi (adC ?_ (by size_fits))
 refine Fi (m:=firstArgMember _ _) (anB (a:=acR) (by first | rfl | (simp only [firstArgMember]; rfl)) (adC ?_ (by size_fits)))
 simp only [raiseNew]
 refine Fi (aoP ?_)
 rw [show A.in1.handled=none from hh]
 exact Fi (aar (aqp (q _ _ (((aeD ..).extBut.push _).push _) ⟨_,aa8 _ rfl,rfl⟩)))
variable {z TI TO i1 i2 l1 l2:abm} {k1 k2:Nat} {xs ys:Array aau} {x y a b:aau}
theorem Xb {Q:Option aau->aat->Prop} (D:arv z TI TO i1 i2 l1 l2) (hz:aq7 s.heap z TI TO .none) (hTI:am7 s.heap TI (.ref i1) (.ref i2)) (hTO:am7 s.heap TO a b)
   (h1:s.heap.IsTupleIter i1 l1 k1) (h2:s.heap.IsTupleIter i2 l2 k2) (t1:s.heap.IsTuple l1 xs) (t2:s.heap.IsTuple l2 ys) (hx:xs[k1]?=some x) (hy:ys[k2]?=some y)
   (q:∀ h',aq7 h' z TI TO (rawInt s.heap.objs.size)->am7 h' TO x y->h'.IsTupleIter i1 l1 (k1+1)->h'.IsTupleIter i2 l2 (k2+1)->am7 h' s.heap.objs.size x y->h'.objs.size=s.heap.objs.size+1 ->
     (∀ c o,c≠z->c≠TO->c≠i1->c≠i2->s.heap.get? c=some o->h'.get? c=some o)->Q (some (.ref s.heap.objs.size)) { s with heap:=h' }):wpAny (model prog w) A (pyNext (.ref z)) Q E s:=by
 have hT:s.TypeIs (.ref z) "zip":=⟨_,hz,rfl⟩
 unfold pyNext
 refine Fi (amE (aeL (name:=ahr "__next__") hT aiW (adP aiW hT apj ?_ (aoV _))))
 show wpAny _ _ (field (.ref z) 2 >>= _) _ _ _
 refine Fi (afL hz rfl (x:=.bool false) rfl ?_)
 show wpAny _ _ (field (.ref z) 3 >>= _) _ _ _
 refine Fi (afL hz rfl (x:=.ref TI) rfl ?_)
 refine Fi (afs hTI rfl ?_)
 show wpAny _ _ (afC (.ref z) >>= _) _ _ _
 refine Fi ?_
 unfold afC
 refine Fi (afL hz rfl (x:=.none) rfl (aar ?_))
 simp only [if_true]
 refine Fi (aiY (Fi (afL hz rfl (x:=.ref TO) rfl ?_)))
 refine Fi (aiJ hz (by simp) fun g1 z1 s1=>?_)
 replace z1:aq7 g1 z TI TO .ellipsis:=z1
 refine Fi ?_
 simp only [List.zipIdx_cons,List.zipIdx_nil,apw,anZ]
 refine Fi (Fi (aoW ?_))
 show wpAny _ _ (ae2 (.ref i1) >>= _) _ _ _
 refine Fi (Cm (s:={ s with heap:=g1 }) (h1.extBut s1.extBut D.i1z) (t1.extBut s1.extBut D.l1z) hx fun g2 j2 s2=>aar ?_)
 have p2:am7 g2 TO a b:=s2.extBut _ _ D.TOi1 (s1.extBut _ _ D.TOz hTO)
 refine Fi (afs p2 rfl (Fi (ank p2 fun g3 p3 s3=>?_)))
 replace p3:am7 g3 TO x b:=p3
 refine Fi (ari (aar (Fi (Fi (aoW ?_)))))
 show wpAny _ _ (ae2 (.ref i2) >>= _) _ _ _
 refine Fi (Cm (s:={ s with heap:=g3 }) (((h2.extBut s1.extBut D.i2z).extBut s2.extBut D.i12.symm).extBut s3.extBut D.TOi2.symm) (((t2.extBut s1.extBut D.l2z).extBut s2.extBut D.l2i1).extBut s3.extBut D.l2TO) hy fun g4 j4 s4=>aar ?_)
 have p4:am7 g4 TO x b:=s4.extBut _ _ D.TOi2 p3
 refine Fi (afs p4 rfl (Fi (ank p4 fun g5 p5 s5=>?_)))
 replace p5:am7 g5 TO x y:=p5
 refine Fi (ari (aar (aar ?_)))
 refine Fi (afs p5 rfl (Fi (aqe ?_)))
 have sz:g5.objs.size=s.heap.objs.size:=by rw [s5.1,s4.1,s3.1,s2.1,s1.1]
 have z5:aq7 g5 z TI TO .ellipsis:=s5.extBut _ _ D.TOz.symm (s4.extBut _ _ D.i2z.symm (s3.extBut _ _ D.TOz.symm (s2.extBut _ _ D.i1z.symm z1)))
 have kk:∀ c o,c≠z->c≠TO->c≠i1->c≠i2->s.heap.get? c=some o->g5.get? c=some o:=fun c o c1 c2 c3 c4 e=>s5.extBut _ _ c2 (s4.extBut _ _ c4 (s3.extBut _ _ c2 (s2.extBut _ _ c3 (s1.extBut _ _ c1 e))))
 have j1:g5.IsTupleIter i1 l1 (k1+1):=((j2.extBut s3.extBut D.TOi1.symm).extBut s4.extBut D.i12).extBut s5.extBut D.TOi1.symm
 have j5:g5.IsTupleIter i2 l2 (k2+1):=j4.extBut s5.extBut D.TOi2.symm
 have lz:z<g5.objs.size:=abf z5
 show wpAny _ _ (aml (.ref z) (.ref g5.objs.size) >>= _) _ _ _
 refine Fi ?_
 unfold aml
 have z6:aq7 (g5.push { cls:=.type "tuple",data:=.seq #[x,y] }) z TI TO .ellipsis:=aap _ z5
 refine Fi (aiJ z6 (by simp) fun g7 z7 s7=>?_)
 replace z7:aq7 g7 z TI TO (rawInt g5.objs.size):=z7
 refine aiJ z7 (by simp) fun g8 z8 s8=>?_
 replace z8:aq7 g8 z TI TO (rawInt g5.objs.size):=z8
 have up:∀ c o,c≠z->g5.get? c=some o->g8.get? c=some o:=fun c o c1 e=>s8.extBut _ _ c1 (s7.extBut _ _ c1 (aap _ e))
 have p8:am7 g8 g5.objs.size x y:=s8.extBut _ _ (aho lz) (s7.extBut _ _ (aho lz) (aa8 _ rfl))
 have e8:g8.objs.size=g5.objs.size+1:=by rw [s8.1,s7.1,aeV]
 rw [sz] at z8 p8 e8
 refine aar ⟨_,rfl,?_⟩
 rw [sz]
 exact aar (q g8 z8 (up _ _ D.TOz p5) (j1.at fun o e=>up _ o D.i1z e) (j5.at fun o e=>up _ o D.i2z e) p8 e8 fun c o c1 c2 c3 c4 e=>up c o c1 (kk c o c1 c2 c3 c4 e))
theorem aaN {Q:Option aau->aat->Prop} (hh:A.handled=none) (D:arv z TI TO i1 i2 l1 l2) (hz:aq7 s.heap z TI TO .none) (hTI:am7 s.heap TI (.ref i1) (.ref i2)) (hTO:am7 s.heap TO a b)
   (h1:s.heap.IsTupleIter i1 l1 k1) (h2:s.heap.IsTupleIter i2 l2 k2) (t1:s.heap.IsTuple l1 xs) (t2:s.heap.IsTuple l2 ys) (he:xs[k1]?=none∨ys[k2]?=none)
   (q:∀ h',(∀ c o,c≠z->c≠TO->c≠i1->c≠i2->s.heap.get? c=some o->h'.get? c=some o)->Q none { s with heap:=h' }):wpAny (model prog w) A (pyNext (.ref z)) Q E s:=by
 have hT:s.TypeIs (.ref z) "zip":=⟨_,hz,rfl⟩
 unfold pyNext
 refine Fi (amE (aeL (name:=ahr "__next__") hT aiW (adP aiW hT apj ?_ (aoV _))))
 show wpAny _ _ (field (.ref z) 2 >>= _) _ _ _
 refine Fi (afL hz rfl (x:=.bool false) rfl ?_)
 show wpAny _ _ (field (.ref z) 3 >>= _) _ _ _
 refine Fi (afL hz rfl (x:=.ref TI) rfl ?_)
 refine Fi (afs hTI rfl ?_)
 show wpAny _ _ (afC (.ref z) >>= _) _ _ _
 refine Fi ?_
 unfold afC
 refine Fi (afL hz rfl (x:=.none) rfl (aar ?_))
 simp only [if_true]
 refine Fi (aiY (Fi (afL hz rfl (x:=.ref TO) rfl ?_)))
 refine Fi (aiJ hz (by simp) fun g1 z1 s1=>?_)
 replace z1:aq7 g1 z TI TO .ellipsis:=z1
 have fin:∀ (g:ae9) (e:abm),aq7 g z TI TO .ellipsis->(∃ o,g.get? e=some o/\o.cls=.type "StopIteration")->(∀ c o,c≠z->c≠TO->c≠i1->c≠i2->s.heap.get? c=some o->g.get? c=some o)->∀ {R:Unit->aat->Prop} {E':aau->aat->Prop},
     (∀ h',(∃ o,h'.get? e=some o/\o.cls=.type "StopIteration")->(∀ c o,c≠z->c≠TO->c≠i1->c≠i2->s.heap.get? c=some o->h'.get? c=some o)->R () { s with heap:=h' })->wpAny (model prog w) A.in1 (setField (.ref z) 0 .none) R E' { s with heap:=g }:=fun g e zg ho kg {R E'} r=>by
   obtain ⟨o,ho,hc⟩:=ho
   have ne:e≠z:=fun y=>by subst y; rw [zg] at ho; cases ho; simp at hc
   exact aiJ (s:={ s with heap:=g }) zg (by simp) fun h' _ sb=>r h' ⟨o,sb.extBut _ _ ne ho,hc⟩ fun c o c1 c2 c3 c4 y=>sb.extBut _ _ c1 (kg c o c1 c2 c3 c4 y)
 have last:∀ h' e,(∃ o,h'.get? e=some o/\o.cls=.type "StopIteration")->(∀ c o,c≠z->c≠TO->c≠i1->c≠i2->s.heap.get? c=some o->h'.get? c=some o)->wpAny (model prog w) A (isInstance (.ref e) (.type "StopIteration")) (fun b s'=>wpAny (model prog w) A (if b=true then pure none else throw (.ref e)) Q E s') E { s with heap:=h' }:=fun h' e ho kg=>by
   obtain ⟨o,ho,hc⟩:=ho
   exact amn (T:="StopIteration") (b:=true) ⟨o,ho,hc⟩ aoh (aar (q _ kg))
 refine Fi ?_
 simp only [List.zipIdx_cons,List.zipIdx_nil,apw,anZ]
 refine Fi (Fi (aoW ?_))
 show wpAny _ _ (ae2 (.ref i1) >>= _) _ _ _
 cases hx:xs[k1]? with
 | none =>
   refine Fi (S9 (s:={ s with heap:=g1 }) hh (h1.extBut s1.extBut D.i1z) (t1.extBut s1.extBut D.l1z) hx fun g2 e s2 he=>?_)
   refine fin g2 e (s2 _ _ D.i1z.symm z1) he (fun c o c1 _ c3 _ y=>s2 _ _ c3 (s1.extBut _ _ c1 y)) fun h' he' kg=>?_
   exact Fi (last h' e he' kg)
 | some x =>
   have hy:ys[k2]?=none:=by
     rcases he with h | h
     . rw [hx] at h; cases h
     . exact h
   refine Fi (Cm (s:={ s with heap:=g1 }) (h1.extBut s1.extBut D.i1z) (t1.extBut s1.extBut D.l1z) hx fun g2 j2 s2=>aar ?_)
   have p2:am7 g2 TO a b:=s2.extBut _ _ D.TOi1 (s1.extBut _ _ D.TOz hTO)
   refine Fi (afs p2 rfl (Fi (ank p2 fun g3 p3 s3=>?_)))
   refine Fi (ari (aar (Fi (Fi (aoW ?_)))))
   show wpAny _ _ (ae2 (.ref i2) >>= _) _ _ _
   refine Fi (S9 (s:={ s with heap:=g3 }) hh (((h2.extBut s1.extBut D.i2z).extBut s2.extBut D.i12.symm).extBut s3.extBut D.TOi2.symm) (((t2.extBut s1.extBut D.l2z).extBut s2.extBut D.l2i1).extBut s3.extBut D.l2TO) hy fun g4 e s4 he=>?_)
   refine fin g4 e (s4 _ _ D.i2z.symm (s3.extBut _ _ D.TOz.symm (s2.extBut _ _ D.i1z.symm z1))) he (fun c o c1 c2 c3 c4 y=>s4 _ _ c4 (s3.extBut _ _ c2 (s2.extBut _ _ c3 (s1.extBut _ _ c1 y)))) fun h' he' kg=>?_
   exact Fi (last h' e he' kg)
abbrev Xc (h:ae9) (l1:abm):ae9:=h.push { cls:=.type "tuple_iterator",data:=.fields #[.ref l1,.int 0 0] }
abbrev Xd (h:ae9) (l1 l2:abm):ae9:=(Xc h l1).push { cls:=.type "tuple_iterator",data:=.fields #[.ref l2,.int 0 0] }
abbrev Xe (h:ae9) (l1 l2:abm):ae9:=(Xd h l1 l2).push { cls:=.type "tuple",data:=.seq #[.ref h.objs.size,.ref (Xc h l1).objs.size] }
abbrev Xf (h:ae9) (l1 l2:abm):ae9:=(Xe h l1 l2).push { cls:=.type "tuple",data:=.seq #[.none,.none] }
abbrev Ih (h:ae9) (l1 l2:abm):ae9:=(Xf h l1 l2).push { cls:=.type "zip",data:=.fields #[.none,.bool false,.bool false,.ref (Xd h l1 l2).objs.size,.ref (Xe h l1 l2).objs.size] }
theorem Ii (l1 l2:abm) (xs ys:Array aau):Meets (agM.«zip.__new__» ⟨[.type "zip",.ref l1,.ref l2],[]⟩) (fun _ R s=>s.heap.IsTuple l1 xs/\s.heap.IsTuple l2 ys/\R (.ok (.ret (.ref (Xf s.heap l1 l2).objs.size))) { s with heap:=Ih s.heap l1 l2 }) :=
 .of_wp fun prog w A R s h=>by
   obtain ⟨hp,g,d,tk,os⟩:=s; obtain ⟨t1,t2,h⟩:=h
   have hsub:=sub_zip
   have T1:arx (Shared.heap ⟨hp,g,d,tk,os⟩) l1 xs:=t1
   have T2:arx (Shared.heap ⟨hp.push { cls:=.type "tuple_iterator",data:=.fields #[.ref l1,.int 0 0] },g,d,tk,os⟩) l2 ys:=Heap.IsTuple.push t2 _
   wp_walk using amw T1,amw T2
   exact ⟨_,rfl,h⟩
theorem Nz {Q:aau->aat->Prop} (t1:s.heap.IsTuple l1 xs) (t2:s.heap.IsTuple l2 ys)
   (h:∀ h',aq7 h' (s.heap.objs.size+4) (s.heap.objs.size+2) (s.heap.objs.size+3) .none->am7 h' (s.heap.objs.size+2) (.ref s.heap.objs.size) (.ref (s.heap.objs.size+1)) ->
     am7 h' (s.heap.objs.size+3) .none .none->h'.IsTupleIter s.heap.objs.size l1 0->h'.IsTupleIter (s.heap.objs.size+1) l2 0->h'.objs.size=s.heap.objs.size+5 ->
     (∀ c o,s.heap.get? c=some o->h'.get? c=some o)->Q (.ref (s.heap.objs.size+4)) { s with heap:=h' }):wpAny (model prog w) A (call (.type "zip") [.ref l1,.ref l2]) Q E s:=by
 refine callType_new PySem.F.called_zip (by decide) (PySem.F.typeCall_zip_2 _ _) (PySem.F.newCall_zip_2 _ _) (fun obj=>PySem.F.args_object_init_3 obj _ _) PySem.F.entry_zip_new (Ii l1 l2 xs ys) ⟨t1,t2,?_⟩
 have z1:(Xc s.heap l1).objs.size=s.heap.objs.size+1:=aeV ..
 have z2:(Xd s.heap l1 l2).objs.size=s.heap.objs.size+2:=by rw [aeV,z1]
 have z3:(Xe s.heap l1 l2).objs.size=s.heap.objs.size+3:=by rw [aeV,z2]
 have z4:(Xf s.heap l1 l2).objs.size=s.heap.objs.size+4:=by rw [aeV,z3]
 have z5:(Ih s.heap l1 l2).objs.size=s.heap.objs.size+5:=by rw [aeV,z4]
 have p5:(Ih s.heap l1 l2).get? (Xf s.heap l1 l2).objs.size=some _:=aa8 _ rfl
 have p4:(Ih s.heap l1 l2).get? (Xe s.heap l1 l2).objs.size=some _:=aap _ (aa8 _ rfl)
 have p3:(Ih s.heap l1 l2).get? (Xd s.heap l1 l2).objs.size=some _:=aap _ (aap _ (aa8 _ rfl))
 have p2:(Ih s.heap l1 l2).get? (Xc s.heap l1).objs.size=some _:=aap _ (aap _ (aap _ (aa8 _ rfl)))
 have p1:(Ih s.heap l1 l2).get? s.heap.objs.size=some _:=aap _ (aap _ (aap _ (aap _ (aa8 _ rfl))))
 show _/\_
 rw [z2,z3,z4] at p5
 rw [z1,z2] at p3
 rw [z3] at p4
 rw [z1] at p2
 rw [z4]
 exact ⟨⟨_,p5,rfl⟩,h _ p5 p3 p4 ⟨_,p1,rfl,rfl⟩ ⟨_,p2,rfl,rfl⟩ z5 fun c o y=>aap _ (aap _ (aap _ (aap _ (aap _ y))))⟩
end
def aaO (K:aas) (a b:abm) (xs ys:List V):It :=
 ⟨fun i H=>bA K H a xs/\bA K H b ys/\i<xs.length/\i<ys.length,fun i H v H'=>∃ T x y,H T=none/\v=.ref T/\xs[i]?=some x/\ys[i]?=some y/\H'=upd H T (.tup [x,y]),fun i H=>bA K H a xs/\bA K H b ys/\(xs.length<=i∨ys.length<=i)⟩
def aaP (z TI TO i1 i2 a b:abm) (i:Nat) (h:ae9):Prop:=aq7 h z TI TO .none/\am7 h TI (.ref i1) (.ref i2)/\(∃ p q,am7 h TO p q)/\h.IsTupleIter i1 a i/\h.IsTupleIter i2 b i
theorem NK {P:acs} {w:adH} {K:aas} {elts:List Expr} {k:Nat} {pos:Pos} (z TI TO i1 i2 a b:abm) (D:arv z TI TO i1 i2 a b) (xs ys:List V) :
   Turn P w K (.Tuple elts k pos) (aaO K a b xs ys) [z,TI,TO,i1,i2] z (aaP z TI TO i1 i2 a b) where
 mem:=by simp
 obj:=fun i h st c hc=>by
   obtain ⟨hz,hTI,⟨p,q,hTO⟩,⟨o1,e1,c1,d1⟩,⟨o2,e2,c2,d2⟩⟩:=st
   simp only [abz,afd,or_false] at hc
   rcases hc with rfl | rfl | rfl | rfl | rfl
   . exact ⟨_,hz,fun v z=>by cases (show ara _=aon v from z)⟩
   . exact ⟨_,hTI,fun v z=>by cases (show aq8 _ _=aon v from z)⟩
   . exact ⟨_,hTO,fun v z=>by cases (show aq8 _ _=aon v from z)⟩
   . exact ⟨o1,e1,fun v z=>by rw [d1] at z; cases z⟩
   . exact ⟨o2,e2,fun v z=>by rw [d2] at z; cases z⟩
 keep:=fun i h h' st k=>by
   obtain ⟨hz,hTI,⟨p,q,hTO⟩,h1,h2⟩:=st
   exact ⟨k z (by simp) _ hz,k TI (by simp) _ hTI,⟨p,q,k TO (by simp) _ hTO⟩,h1.at fun o e=>k i1 (by simp) o e,h2.at fun o e=>k i2 (by simp) o e⟩
 item:=by
   intro X hP hw hK hc i pins s σ H E I hf st hg
   subst hP hw hK
   obtain ⟨hq1,hq2,l1,l2⟩:=hg
   obtain ⟨hz,hTI,⟨p,q,hTO⟩,h1,h2⟩:=st
   obtain ⟨Qq,VB,Lj,_⟩:=I.tuple hq1
   obtain ⟨its2,VD,Lk,_⟩:=I.tuple hq2
   have x1:xs[i]?=some xs[i]:=aaq l1
   have y1:ys[i]?=some ys[i]:=aaq l2
   obtain ⟨u,hu,ru⟩:=VB.get x1
   obtain ⟨u2,hu2,ru2⟩:=VD.get y1
   refine Xb D hz hTI hTO h1 h2 Lj Lk (x:=u) (y:=u2) (by simpa using hu) (by simpa using hu2) fun h' a1 a2 a3 a4 a5 a6 a7=>?_
   refine ⟨_,rfl,aoc a1 fun h2' b1 b2=>?_⟩
   have kk:∀ c o,c ∉ [z,TI,TO,i1,i2]->s.heap.get? c=some o->h2'.get? c=some o:=fun c o hc e=>by
     simp only [abz,afd,or_false,not_or] at hc
     exact (b2.2 c hc.1).trans (a7 c o hc.1 hc.2.2.1 hc.2.2.2.1 hc.2.2.2.2 e)
   have ltz:z<s.heap.objs.size:=abf hz
   have nz:s.heap.objs.size≠z:=aho ltz
   have eT:h2'.get? s.heap.objs.size=some { cls:=.type "tuple",data:=.seq #[u,u2] }:=(b2.2 _ nz).trans a5
   have fresh:H s.heap.objs.size=none:=I.hok.fresh (aav _)
   have Va:∀ c∈[z,TI,TO,i1,i2],c<s.heap.objs.size:=fun c hc=>by
     simp only [abz,afd,or_false] at hc
     obtain ⟨o1,e1,_⟩:=h1
     obtain ⟨o2,e2,_⟩:=h2
     rcases hc with rfl | rfl | rfl | rfl | rfl
     . exact ltz
     . exact abf hTI
     . exact abf hTO
     . exact abf e1
     . exact abf e2
   have I1:Inv X pins σ (upd H s.heap.objs.size (.tup [xs[i],ys[i]])) { s with heap:=s.heap.push { cls:=.type "tuple",data:=.seq #[u,u2] } } :=
     I.laid (t':=s.toks) (fun _ _ e=>aap _ e) (aav _) ⟨by show 2<=sizeLine; rw [acO]; decide,[u,u2],.cons ru (.cons ru2 .nil),jK.new _ _⟩
   have hf1:∀ c∈[z,TI,TO,i1,i2],jq X pins (upd H s.heap.objs.size (.tup [xs[i],ys[i]])) c:=fun c hc=>⟨by rw [aF (acu (Va c hc))]; exact (hf c hc).1,(hf c hc).2⟩
   have I2:Inv X pins σ (upd H s.heap.objs.size (.tup [xs[i],ys[i]])) { s with heap:=h2' }:=I1.uX (t':=s.toks) (fun c o hc e=>by
     by_cases ec:c=s.heap.objs.size
     . subst ec
       have e':(s.heap.push { cls:=.type "tuple",data:=.seq #[u,u2] }).get? s.heap.objs.size=some o:=e
       rw [aa8 _ rfl] at e'
       cases e'
       exact eT
     . have e':(s.heap.push { cls:=.type "tuple",data:=.seq #[u,u2] }).get? c=some o:=e
       rw [aqR _ _ _ ec] at e'
       exact kk c o hc e') hf1
   refine ⟨.ref s.heap.objs.size,_,I2,rfl,⟨_,_,_,fresh,rfl,x1,y1,rfl⟩,⟨b1,?_,⟨u,u2,?_⟩,?_,?_⟩,fun c hc=>(hf1 c hc).1⟩
   . exact (b2.2 _ D.TIz).trans (a7 TI _ D.TIz D.TITO D.TIi1 D.TIi2 hTI)
   . exact (b2.2 _ D.TOz).trans a2
   . exact a3.at fun o e=>(b2.2 _ D.i1z).trans e
   . exact a4.at fun o e=>(b2.2 _ D.i2z).trans e
 done:=by
   intro X hP hw hK hc i pins s σ H E I hf st hg
   subst hP hw hK
   obtain ⟨hq1,hq2,hl⟩:=hg
   obtain ⟨hz,hTI,⟨p,q,hTO⟩,h1,h2⟩:=st
   obtain ⟨Qq,VB,Lj,_⟩:=I.tuple hq1
   obtain ⟨its2,VD,Lk,_⟩:=I.tuple hq2
   have e1:=VB.length
   have e2:=VD.length
   refine aaN (I.ok.hd hc) D hz hTI hTO h1 h2 Lj Lk (by rcases hl with hl | hl <;> first | (left; simp; omega) | (right; simp; omega)) fun h' kk=>⟨rfl,I.uX (t':=s.toks) (fun c o hc e=>?_) hf⟩
   simp only [abz,afd,or_false,not_or] at hc
   exact kk c o hc.1 hc.2.2.1 hc.2.2.2.1 hc.2.2.2.2 e
 self:=fun _ _ _ _ _ st h=>anh st.1 h
def adw (K:aas) (ta:TA):TI:=fun σ H R=>ta σ H fun vs H1=>∃ a b xs ys,vs=[.ref a,.ref b]/\bA K H1 a xs/\bA K H1 b ys/\R (aaO K a b xs ys) H1
theorem Xg {X:Cx} {a b:Expr} {ta:TA} {p pos:Pos} {elts:List Expr} {k:Nat} {tp:Pos} (hg:Gl X "zip") (hm:X.mg "zip" = none) (ha:PA X [a,b] ta) (hs:starEach [a,b] X.env=[(false,eval a X.env),(false,eval b X.env)]:=by rfl) (hs2:starEach [b] X.env=[(false,eval b X.env)]:=by rfl) :
   PI X (.Tuple elts k tp) (.Call (.Name "zip" p) [a,b] [] pos) (adw X.K ta):=by
 intro pins s σ H R I h
 refine Call_ (rR I hg hm (show bootBuiltins "zip" = some (.type "zip") by decide +kernel) (agV (dw (ha pos pins s σ H _ I h) fun us s1 ⟨vs,H1,I1,r1,q1⟩=>?_) (by rw [hs,hs2]) (by rw [hs2]; rfl)))
 obtain ⟨l1,l2,xs,ys,e,hq1,hq2,q⟩:=q1
 subst e
 obtain ⟨u,u',rfl,r,r'⟩:=vals2 r1
 cases (show u=abk l1 from r)
 cases (show u'=abk l2 from r')
 obtain ⟨Qq,VB,Lj,_⟩:=I1.tuple hq1
 obtain ⟨its2,VD,Lk,_⟩:=I1.tuple hq2
 have a1:l1<s1.heap.objs.size:=by obtain ⟨_,e,_⟩:=Lj; exact abf e
 have a2:l2<s1.heap.objs.size:=by obtain ⟨_,e,_⟩:=Lk; exact abf e
 refine Nz Lj Lk fun h' hz hTI hTO hi1 hi2 _ hk=>anh hz ?_
 refine ⟨_,_,_,_,H1,rfl,I1.kept (t':=s1.toks) hk,NK _ _ _ _ _ l1 l2 (zipApart_new a1 a2) xs ys,⟨hz,hTI,⟨_,_,hTO⟩,hi1,hi2⟩,fun c hc=>?_,q⟩
 have le:s1.heap.objs.size<=c:=by
   simp only [abz,afd,or_false] at hc
   rcases hc with rfl | rfl | rfl | rfl | rfl
   . exact afO _ 4
   . exact afO _ 2
   . exact afO _ 3
   . exact aav _
   . exact afO _ 1
 exact I1.CW le (I1.hok.fresh le)
end L2
namespace mz
open PySem L2 gF
def jc:List (List Row)->List (List Row)->List (List Row)->Prop
 | [],b,r=>r=b
 | a :: as,[],r=>r=a :: as
 | a :: as,b :: bs,r :: rs=>xQ a b r/\jc as bs rs
 | _ :: _,_ :: _,[]=>False
theorem jc.uniq:∀ {a b r r':List (List Row)},jc a b r->jc a b r'->r=r'
 | [],_,_,_,h,h'=>Eq.trans h h'.symm
 | _ :: _,[],_,_,h,h'=>Eq.trans h h'.symm
 | _ :: _,_ :: _,_ :: _,_ :: _,h,h'=>by rw [h.1.uniq h'.1,jc.uniq h.2 h'.2]
 | _ :: _,_ :: _,[],_,h,_=>h.elim
 | _ :: _,_ :: _,_ :: _,[],_,h=>h.elim
theorem Fy:∀ (a b z:List (List Row)),z.length=min a.length b.length->(∀ (j:Nat) (r:List Row),z[j]?=some r->∃ p q,a[j]?=some p/\b[j]?=some q/\xQ p q r)->jc a b (z++(a.drop z.length++b.drop z.length))
 | [],b,z,l,_=>by
   have e:z=[]:=aeE (by simpa using l)
   subst e; rfl
 | a :: as,[],z,l,_=>by
   have e:z=[]:=aeE (by simpa using l)
   subst e
   show _=a :: as
   simp
 | a :: as,b :: bs,[],l,_=>by simp at l
 | a :: as,b :: bs,r :: z,l,h=>by
   obtain ⟨p,q,e1,e2,m⟩:=h 0 r rfl
   cases (show some a=some p from e1)
   cases (show some b=some q from e2)
   exact ⟨m,Fy as bs z (by simpa using l) fun j r hj=>h (j+1) r hj⟩
structure Cp (a b:List (List Row)):Prop where
 la:a.length<=25
 lb:b.length<=25
 fa:∀ r∈a,r.length<=25
 fb:∀ r∈b,r.length<=25
 one:∀ (j:Nat) (p q:List Row),a[j]?=some p->b[j]?=some q->∃ U,xR U (p++q)
def Cq:Sp:=fun vs H Q _=>∃ (x y:V) (a b:List (List Row)),vs=[x,y]/\jN H x a/\jN H y b/\Cp a b/\∀ (z:V) (r:List (List Row)) (H':Hp),jN H' z r->jc a b r->Same H H'->Q z H'
structure gw (h k m:aA):Prop where
 name:m.name=h.name
 low:m.low=h.low
 high:m.high=h.high
 aQ:m.aQ=h.aQ
 runs:jc h.runs k.runs m.runs
theorem gw.uniq {h k m m':aA} (a:gw h k m) (b:gw h k m'):m=m':=by
 obtain ⟨n,l,g,d,r⟩:=m
 obtain ⟨n',l',g',d',r'⟩:=m'
 have e:=a.runs.uniq b.runs
 have e1:=a.name.trans b.name.symm
 have e2:=a.low.trans b.low.symm
 have e3:=a.high.trans b.high.symm
 have e4:=a.aQ.trans b.aQ.symm
 simp only at e e1 e2 e3 e4
 subst e e1 e2 e3 e4
 rfl
structure zY (h k:aA):Prop where
 name:k.name=h.name
 low:k.low=h.low
 high:k.high=h.high
 aQ:k.aQ=h.aQ
def xW:Sp:=fun vs H Q _=>∃ (x y:V) (h k:aA),vs=[x,y]/\bC H x h/\bC H y k/\Good h.name/\zY h k/\Cp h.runs k.runs/\∀ (z:V) (m:aA) (H':Hp),bC H' z m->gw h k m->Same H H'->Q z H'
theorem Fz (xs:List V) (n:Nat):mj xs (some (n:Int)) none=xs.drop n:=by
 unfold mj
 rw [HT.jh]
 have e:HT.d8 xs.length xs.length none=xs.length:=rfl
 rw [e]
 by_cases h:n<=xs.length
 . rw [aib h,adN (by rw [ae4]; exact aav _)]
 . rw [Nat.min_eq_right (by omega),aiE (aav _),aiE (by omega),List.take_nil]
theorem nu {α β:Type} {F:α->β->Prop}:∀ {l:List α} {m:List β} (n:Nat),acN F l m->acN F (l.drop n) (m.drop n)
 | _,_,0,h=>h
 | _,_,_+1,.nil=>.nil
 | _,_,n+1,.cons _ r=>nu n r
section
variable {P:acs} {w:adH} {K:aas} {mg:Str->Option aau} {base:ae9} {t8 t6 tR tL:Tok}
theorem FJ:bB ["one","other","shared"] ["one","other"] (au ql):=⟨rfl,rfl,rfl,by decide +kernel,rfl,by decide +kernel,by decide +kernel⟩
theorem Tc {f Ij:abm} {fd Kg:aeF} (F:lX K "merged_runs" "merged_runs" ql f fd) (T:Txt mg t8 t6 tR tL)
   (aaQ:aV P w K mg base cG 1 Ij Kg ["one","other"] Ig) (aaR:mg "merged_run" = some (.ref Ij)) (aaS:aaw K (.ref Ij)=true) (aaT:Binds K Kg ["one","other"] []):aV P w K mg base cG 2 f fd ["one","other"] Cq:=by
 refine F.ok FJ (fun vs H Q E h=>?_) (fun cdv A outer s H vs Q E hr h=>?_)
 . obtain ⟨x,y,a,b,rfl,_⟩:=h
   rfl
 . obtain ⟨x,y,a,b,rfl,⟨c,vs,rfl,hc,pc⟩,⟨d,ws,rfl,hd,pd⟩,ft,q⟩:=h
   have mq:sizeLine=16777216:=acO
   have lc:=pc.length
   have ld:=pd.length
   have la:=ft.la
   have lb:=ft.lb
   refine ⟨_,(aB (pX (i:=2) FJ.nd rfl rfl (eY:=au ql) (own:=["run","twin"]) (cap:=[]) (ix:=[]) rfl rfl ⟨rfl,by decide +kernel,by decide +kernel,by decide +kernel,rfl,by decide +kernel⟩ (Xg rfl T.zip (aj (pV 0) (aj (pV 1) ak))) (fun b=>(eU rfl (aR (aH (i:=0) (show (["run","twin"]:List Str).Nodup by decide +kernel) rfl (acz rfl)) (aR (aH (i:=1) (show (["run","twin"]:List Str).Nodup by decide +kernel) rfl (acz rfl)) dg)))) (fun b=>bM) (fun b=>(aJ aaQ hr rfl aaR aaS aaT .nil aW (aj (pV 0) (aj (pV 1) ak))))) (aG (aZ (bJ qT (bJ qT (bD bf rfl T.tuple abU (aj (pV 2) ak)) (cT Bm (pV 0) (Bf (aO bx rfl T.len ad4 (aj (pV 2) ak))) fU)) (cT Bm (pV 1) (Bf (aO bx rfl T.len ad4 (aj (pV 2) ak))) fU))))),?_⟩
   refine ⟨c,d,vs,ws,rfl,bA.of hc,bA.of hd,fun D hD=>nY (J:=aaO K c d vs ws) (min vs.length ws.length) (fun i H'=>∃ zs rs,cL H H' D zs/\acN (fu H') zs rs/\rs.length=i/\∀ (j:Nat) (r:List Row),rs[j]?=some r->∃ p q,a[j]?=some p/\b[j]?=some q/\xQ p q r) ⟨[],[],cL.start hD,.nil,rfl,fun j r e=>by simp at e⟩ (fun H' hz=>?_) (fun i H' hi hz=>?_)⟩
   . obtain ⟨zs,rs,G,pz,lr,hm⟩:=hz
     refine ⟨⟨bA.of (G.same _ _ hc),bA.of (G.same _ _ hd),by omega⟩,?_⟩
     have lz:=pz.length
     have mr:=Fy a b rs (by rw [lr]; omega) hm
     refine ⟨D,zs,rfl,.inl ⟨bY.of G.at',fun t1 rD=>?_⟩⟩
     have s1:Same H' (upd H' t1 (.tup zs)):=(Same.refl H').upd rD
     generalize Vd:upd H' t1 (.tup zs)=H1 at s1
     have HJ:H1 t1=some (.tup zs):=by rw [<- Vd]; exact ao
     have S1:=G.same.trans s1
     have eD1:H1 D=some (.lst zs):=s1 _ _ G.at'
     refine ⟨D,zs,rfl,.inl (bY.of eD1),?_⟩
     refine ⟨⟨c,vs,rfl,S1 _ _ hc,fun p1 H2 hp1 s2=>?_⟩⟩
     rw [Fz] at hp1
     refine ⟨⟨t1,p1,zs,vs.drop zs.length,rfl,rfl,s2 _ _ HJ,hp1,by rw [ae4]; omega,fun p2 H3 hp2 s3=>?_⟩⟩
     refine ⟨D,zs,rfl,.inl (bY.of (s3 _ _ (s2 _ _ eD1))),?_⟩
     have S3:=(S1.trans s2).trans s3
     refine ⟨⟨d,ws,rfl,S3 _ _ hd,fun p3 H4 hp3 s4=>?_⟩⟩
     rw [Fz] at hp3
     refine ⟨⟨p2,p3,_,_,rfl,rfl,s4 _ _ hp2,hp3,by simp only [abe,ae4]; omega,fun p4 H5 hp4 s5=>?_⟩⟩
     have S5:=(S3.trans s4).trans s5
     have e:(zs++vs.drop zs.length)++ws.drop zs.length=zs++(vs.drop rs.length++ws.drop rs.length):=by rw [aeX,lz]
     rw [e] at hp4
     refine q _ _ H5 ⟨p4,_,rfl,hp4,?_⟩ mr S5
     have t15:bZ H' H5:=(((s1.trans s2).trans s3).trans (s4.trans s5)).tups
     exact aM (aq (fun _ _ z=>z.ts t15) pz) (aM (nu _ (aq (fun _ _ z=>z.ts S5.tups) pc)) (nu _ (aq (fun _ _ z=>z.ts S5.tups) pd)))
   . obtain ⟨zs,rs,G,pz,lr,hm⟩:=hz
     refine ⟨⟨bA.of (G.same _ _ hc),bA.of (G.same _ _ hd),by omega,by omega⟩,fun v H2 hy b'=>?_⟩
     obtain ⟨t,x,y,rD,rfl,hx,hy,rfl⟩:=hy
     obtain ⟨p,hp,rp⟩:=aL pc hx
     obtain ⟨q0,hq0,rq⟩:=aL pd hy
     obtain ⟨U,oU⟩:=ft.one i p q0 hp hq0
     have s1:Same H' (upd H' t (.tup [x,y])):=(Same.refl H').upd rD
     generalize Vd:upd H' t (.tup [x,y])=H1 at s1
     have et:H1 t=some (.tup [x,y]):=by rw [<- Vd]; exact ao
     refine ⟨t,_,rfl,bA.of et,rfl,_,_,rfl,_,_,rfl,rfl,?_⟩
     have f1:=ft.fa p (abg hp)
     have f2:=ft.fb q0 (abg hq0)
     refine ⟨x,y,U,p,q0,rfl,rp.ts (G.same.trans s1).tups,rq.ts (G.same.trans s1).tups,oU,by omega,fun z r H3 hz mr s3=>?_⟩
     have G2:=(G.more s1).more s3
     have lz:=pz.length
     refine ⟨zs,G2.at',by omega,nx hi ⟨zs++[z],rs++[r],G2.put hD _,?_,by rw [abe,lr]; rfl,fun j r' hj=>?_⟩⟩
     . have tt:bZ H3 (upd H3 D (.lst (zs++[z]))):=fun a ys e=>by rw [aF (fun w=>by rw [w,G2.at'] at e; cases e)]; exact e
       exact aM (aq (fun _ _ w=>(w.ts (s1.trans s3).tups).ts tt) pz) (.cons (hz.ts tt) .nil)
     . rcases afu j rs.length with w | w
       . rw [afe w] at hj
         exact hm j r' hj
       . rw [aeW w] at hj
         have ej:j=i:=by
           rcases afu (j-rs.length) 1 with w2 | w2
           . omega
           . rw [ae8 (by simpa using w2)] at hj; cases hj
         subst ej
         rw [show j-rs.length=0 by omega] at hj
         cases (show some r=some r' from hj)
         exact ⟨p,q0,hp,hq0,mr⟩
end
end mz
namespace mz
open PySem L2 gF
def FN (h:aA):ai6:=.tuple [.str h.name,.int h.low,.int h.high,.int h.aQ]
theorem qD {h:aA} (g:Good h.name):afD (FN h)=true:=by
 have z:=g.ok
 unfold afD FN
 simp [ae7,aeI,z,afF,aeY]
theorem Xh {h:aA} (g:Good h.name):aix (FN h) (FN h)=true:=am0 _ (abx.mp (qD g)).1
def FP (h:aA):List V:=[.str h.name,.int h.low,.int h.high,.int h.aQ]
theorem Td {K:aas} {H:Hp} {a:abm} {h:aA} (e:H a=some (.tup (FP h))):Dp K H (.ref a) (FN h):=.tup (bA.of e) (.cons (.str _) (.cons (.int _) (.cons (.int _) (.cons (.int _) .nil))))
theorem Xi {h:aA} {b:V}:mj [.str h.name,.int h.low,.int h.high,.int h.aQ,b] none (some 4)=FP h:=rfl
section
variable {P:acs} {w:adH} {K:aas} {mg:Str->Option aau} {base:ae9} {t8 t6 tR tL:Tok}
theorem NP:bB ["one","other"] ["one","other"] (au oH):=⟨rfl,rfl,rfl,by decide +kernel,rfl,by decide +kernel,by decide +kernel⟩
theorem NQ {f Cr:abm} {fd FQ:aeF} (F:lX K "merged_house" "merged_house" oH f fd)
   (Xj:aV P w K mg base cG 2 Cr FQ ["one","other"] Cq) (Xk:mg "merged_runs" = some (.ref Cr)) (Xl:aaw K (.ref Cr)=true) (Xm:Binds K FQ ["one","other"] []):aV P w K mg base cG 3 f fd ["one","other"] xW:=by
 refine F.ok NP (fun vs H Q E h=>?_) (fun cdv A outer s H vs Q E hr h=>?_)
 . obtain ⟨x,y,h,k,rfl,_⟩:=h
   rfl
 . obtain ⟨x,y,h,k,rfl,⟨a,b,rfl,ha,rb⟩,⟨c,d,rfl,hc,rd⟩,gn,lk,ft,q⟩:=h
   have mq:sizeLine=16777216:=acO
   refine ⟨_,(aB (cP (oZ (rY hr.units) (cT Bm (pV 0) fU (Bf aC)) (cT Bm (pV 1) fU (Bf aC)) (bL _)) (aG (vG)) bH) (aG (aZ (bJ qT (cT Bm (pV 0) fU (Bf aC)) (cN (aj (aJ Xj hr rfl Xk Xl Xm .nil aW (aj (bG dO (pV 0) aC (fun _ _=>rfl)) (aj (bG dO (pV 1) aC (fun _ _=>rfl)) ak))) ak)))))),?_⟩
   refine ⟨⟨a,_,rfl,ha,fun p1 H1 hp1 s1=>?_⟩⟩
   refine ⟨⟨c,_,rfl,s1 _ _ hc,fun p2 H2 hp2 s2=>?_⟩⟩
   rw [Xi] at hp1 hp2
   have ek:FP k=FP h:=by unfold FP; rw [lk.name,lk.low,lk.high,lk.aQ]
   rw [ek] at hp2
   refine ⟨_,_,Td (s2 _ _ hp1),Td hp2,qD gn,qD gn,?_⟩
   rw [Xh gn]
   have S2:=s1.trans s2
   refine ⟨⟨a,_,rfl,S2 _ _ ha,fun p3 H3 hp3 s3=>?_⟩⟩
   rw [Xi] at hp3
   have S3:=S2.trans s3
   refine bV (bA.of (S3 _ _ ha)) (i:=4) (v:=b) (by rfl) ?_
   refine bV (bA.of (S3 _ _ hc)) (i:=4) (v:=d) (by rfl) ?_
   refine ⟨b,d,h.runs,k.runs,rfl,rb.ts S3.tups,rd.ts S3.tups,ft,fun z r H4 rz mr s4=>?_⟩
   refine ⟨by show 1<=sizeLine; omega,fun t rD=>?_⟩
   have s5:Same H4 (upd H4 t (.tup [z])):=(Same.refl H4).upd rD
   refine ⟨⟨p3,t,FP h,[z],rfl,rfl,s5 _ _ (s4 _ _ hp3),ao,by show 4+1<=sizeLine; omega,fun p4 H5 hp4 s6=>?_⟩⟩
   exact q _ ⟨h.name,h.low,h.high,h.aQ,r⟩ H5 ⟨p4,z,rfl,hp4,rz.ts (s5.trans s6).tups⟩ ⟨rfl,rfl,rfl,rfl,mr⟩ ((S3.trans s4).trans (s5.trans s6))
def xX:Sp:=fun vs H Q _=>∃ (l:abm) (us:List V) (rs:List Row),vs=[.ref l]/\H l=some (.lst us)/\acN (cM H) us rs/\rs.length<=60/\(rs.map afn).Nodup/\∀ (z:V) (r:List Row) (H':Hp),fu H' z r->(∀ a,a∈r↔a∈rs)->(r.map afn).Pairwise (·<·)->Same H H'->Q z H'
theorem NT:bB ["_law_run"] ["_law_run"] (au jF):=⟨rfl,rfl,rfl,by decide +kernel,rfl,by decide +kernel,by decide +kernel⟩
theorem NZ {f:abm} {fd:aeF} (F:lX K "_law_by_reading" "_law_by_reading" jF f fd) (T:Txt mg t8 t6 tR tL):aV P w K mg base cG 1 f fd ["_law_run"] xX:=by
 refine F.ok NT (fun vs H Q E h=>?_) (fun cdv A outer s H vs Q E hr h=>?_)
 . obtain ⟨l,us,rs,rfl,_⟩:=h
   rfl
 . obtain ⟨l,us,rs,rfl,hl,pl,Ym,nd,q⟩:=h
   have mq:sizeLine=16777216:=acO
   have lu:=pl.length
   refine ⟨_,(aG (aZ (bD bf rfl T.tuple abU (aj (cA (eY:=au jF) (own:=["_law_reading","_law_row"]) (cap:=[]) (ix:=[]) rfl rfl ⟨rfl,by decide +kernel,by decide +kernel,by decide +kernel,rfl,by decide +kernel⟩ (iM (aO (yJ (K1:=kdI) (K2:=kdS)) rfl T.sorted afm (aj (cA (eY:=au jF) (own:=["_law_row","_law_reading"]) (cap:=[]) (ix:=[]) rfl rfl ⟨rfl,by decide +kernel,by decide +kernel,by decide +kernel,rfl,by decide +kernel⟩ (iM (pV 0)) (fun b=>(eU rfl (aR (aH (i:=0) (show (["_law_row","_law_reading"]:List Str).Nodup by decide +kernel) rfl (acz rfl)) (aR (aH (i:=1) (show (["_law_row","_law_reading"]:List Str).Nodup by decide +kernel) rfl (acz rfl)) dg)))) (fun b=>bM) (fun b=>(cN (aj (pV 1) (aj (pV 0) ak))))) ak))) (fun b=>(eU rfl (aR (aH (i:=0) (show (["_law_reading","_law_row"]:List Str).Nodup by decide +kernel) rfl (acz rfl)) (aR (aH (i:=1) (show (["_law_reading","_law_row"]:List Str).Nodup by decide +kernel) rfl (acz rfl)) dg)))) (fun b=>bM) (fun b=>(cN (aj (pV 1) (aj (pV 0) ak))))) ak)))),?_⟩
   refine ⟨l,rfl,⟨_,bY.of hl⟩,fun D hD=>jY (xs:=us) (fun i H'=>∃ ts:List (abm × (Int × Str)),cL H H' D ((ts.map (·.1)).map V.ref)/\ts.map (·.2)=(rs.take i).map (fun r=>(r.2,r.1))/\∀ t∈ts,H' t.1=some (.tup [.int t.2.1,.str t.2.2])) ⟨[],cL.start hD,rfl,fun t ht=>by cases ht⟩ (fun i H' _ hz=>by obtain ⟨_,G,_⟩:=hz; exact bY.of (G.same _ _ hl)) (fun H1 hz=>?_) (fun i x H' hx hi hz b=>?_)⟩
   . obtain ⟨ts,G,em,hT⟩:=hz
     rw [lu,adi] at em
     have lt:ts.length=rs.length:=by have:=congrArg af6 em; simpa using this
     refine ⟨D,ts,rfl,bY.of G.at',(fun t ht=>⟨[],hT t ht,fun v hv=>by cases hv⟩),?_,by omega,fun l2 ts' Z4 pm pw=>?_⟩
     . rw [em]
       rw [aa2,acK] at nd ⊢
       exact nd.imp fun h e=>h (congrArg adB e)
     . have s2:Same H1 (upd H1 l2 (.lst ((ts'.map (·.1)).map V.ref))):=(Same.refl H1).upd Z4
       generalize eH2:upd H1 l2 (.lst ((ts'.map (·.1)).map V.ref))=H2 at s2
       have el2:H2 l2=some (.lst ((ts'.map (·.1)).map V.ref)):=by rw [<- eH2]; exact ao
       have lt':=pm.length_eq
       refine ⟨l2,rfl,⟨_,bY.of el2⟩,fun D2 hD2=>jY (xs:=(ts'.map (·.1)).map V.ref) (fun i H'=>∃ zs,cL H2 H' D2 zs/\acN (cM H') zs ((ts'.take i).map fun t=>(t.2.2,t.2.1))) ⟨[],cL.start hD2,.nil⟩ (fun i H' _ hz=>by obtain ⟨_,G,_⟩:=hz; exact bY.of (G.same _ _ el2)) (fun H' hz=>?_) (fun i x H' hx hi hz b=>?_)⟩
       . obtain ⟨zs,G2,pz⟩:=hz
         rw [aao,aao,adi] at pz
         refine ⟨D2,zs,rfl,.inl ⟨bY.of G2.at',fun t1 rD=>?_⟩⟩
         have s4:Same H' (upd H' t1 (.tup zs)):=(Same.refl H').upd rD
         refine q _ _ _ ⟨t1,zs,rfl,ao,aq (fun _ _ z=>z.ts s4.tups) pz⟩ (fun a=>?_) ?_ ((G.same.trans s2).trans (G2.same.trans s4))
         . have e1:a∈(ts'.map fun t=>(t.2.2,t.2.1))↔(a.2,a.1)∈ts.map (·.2):=by
             rw [<- (pm.map (·.2)).mem_iff]
             constructor
             . intro z
               obtain ⟨t,ht,rfl⟩:=abh.mp z
               exact abh.mpr ⟨t,ht,rfl⟩
             . intro z
               obtain ⟨t,ht,e⟩:=abh.mp z
               exact abh.mpr ⟨t,ht,by rw [e]⟩
           rw [e1,em]
           constructor
           . intro z
             obtain ⟨c,hc,e⟩:=abh.mp z
             have:c=a:=anT (congrArg afn e) (congrArg adB e)
             rw [<- this]; exact hc
           . intro z
             exact abh.mpr ⟨a,z,rfl⟩
         . rw [adJ,acK]
           have Wv:(ts'.map fun t=>t.2.1).Nodup:=by
             have z:(ts'.map fun t=>t.2.1).Perm (rs.map afn):=by
               have w:=(pm.map (·.2)).map adB
               rw [em,adJ,adJ] at w
               exact w
             exact z.nodup_iff.mpr nd
           rw [aa2,acK] at Wv
           refine (pw.and Wv).imp fun {x y} h=>?_
           show x.2.1<y.2.1
           have h1:=h.1
           unfold Nj at h1
           rw [if_neg h.2] at h1
           exact of_decide_eq_true h1
       . obtain ⟨zs,G2,pz⟩:=hz
         rw [adJ,aaJ] at hx
         obtain ⟨x0,hx0,rfl⟩:=ahl.mp hx
         have m0:x0∈ts:=pm.mem_iff.mp (abg hx0)
         have ex:=G2.same _ _ (s2 _ _ (hT x0 m0))
         refine ⟨x0.1,_,rfl,bA.of ex,rfl,_,_,rfl,_,_,rfl,rfl,?_⟩
         refine ⟨by show 2<=sizeLine; omega,fun t ft=>?_⟩
         have lz:=pz.length
         rw [aao,abo] at lz
         have s4:Same H' (upd H' t (.tup [.str x0.2.2,.int x0.2.1])):=(Same.refl H').upd ft
         have G3:=G2.more s4
         refine ⟨zs,G3.at',by omega,nx hi ⟨zs++[.ref t],G3.put hD2 _,?_⟩⟩
         have tt:bZ (upd H' t (.tup [.str x0.2.2,.int x0.2.1])) (upd (upd H' t (.tup [.str x0.2.2,.int x0.2.1])) D2 (.lst (zs++[.ref t]))):=fun a ys e=>by rw [aF (fun z=>by rw [z,G3.at'] at e; cases e)]; exact e
         rw [abj,hx0,abt]
         exact aM (aq (fun _ _ z=>(z.ts s4.tups).ts tt) pz) (.cons ⟨t,rfl,tt _ _ ao⟩ .nil)
   . obtain ⟨ts,G,em,hT⟩:=hz
     obtain ⟨r,hri,a1,rfl,ea⟩:=aL pl hx
     refine ⟨a1,_,rfl,bA.of (G.same _ _ ea),rfl,_,_,rfl,_,_,rfl,rfl,?_⟩
     refine ⟨by show 2<=sizeLine; omega,fun t ft=>?_⟩
     have lt:ts.length=i:=by
       have:=congrArg af6 em
       rw [aao,aao,abo] at this
       omega
     have s4:Same H' (upd H' t (.tup [.int r.2,.str r.1])):=(Same.refl H').upd ft
     have G3:=G.more s4
     refine ⟨_,G3.at',by rw [aao,aao]; omega,nx hi ⟨ts++[(t,(r.2,r.1))],?_,?_,fun u hu=>?_⟩⟩
     . have z:=G3.put hD (V.ref t)
       rw [abt,abt]
       exact z
     . rw [abt,em,abj,hri,abt]; rfl
     . have nD:∀ c ys,upd H' t (.tup [.int r.2,.str r.1]) c=some (.tup ys)->upd (upd H' t (.tup [.int r.2,.str r.1])) D (.lst (am1 V.ref (am1 (·.1) ts)++[V.ref t])) c=some (.tup ys):=fun c ys e=>by rw [aF (fun z=>by rw [z,G3.at'] at e; cases e)]; exact e
       rcases abq.mp hu with z | z
       . exact nD _ _ (s4 _ _ (hT u z))
       . rw [abw.mp z]
         exact nD _ _ ao
end
end mz
namespace L2
open PySem PySem.Spec PyProof.Rows
section
variable {X:Cx}
def adx (K:aas) (b:Bool):R2:=fun x y H Q=>∃ (d:ai6) (es:List ai6),Dp K H x d/\Dp K H y (.list es)/\d.canLay0=true/\d.depth<=60/\aeI es=true/\Q (.bl (xor b (es.any fun e=>aix e d))) H
theorem Te (hu:X.A.units+64<cLine):gD X (compareOp .In) (adx X.K false):=by
 intro pins s σ H x y v u Q I rx ry h
 obtain ⟨d,es,hd,he,cd,dd,ce,q⟩:=h
 obtain ⟨as,ra⟩:=hd.reads I rx
 obtain ⟨bs,rb⟩:=he.reads I ry
 rw [aqh] at q
 exact SeqAt.in_list_reads rb ra ce cd (by have:=aoZ (aeY es) d.depth; omega) ⟨.bl _,H,I,rfl,q⟩
theorem N5 (hu:X.A.units+64<cLine):gD X (compareOp .NotIn) (adx X.K true):=by
 intro pins s σ H x y v u Q I rx ry h
 obtain ⟨d,es,hd,he,cd,dd,ce,q⟩:=h
 obtain ⟨as,ra⟩:=hd.reads I rx
 obtain ⟨bs,rb⟩:=he.reads I ry
 rw [Bool.true_xor] at q
 exact SeqAt.notIn_list_reads rb ra ce cd (by have:=aoZ (aeY es) d.depth; omega) ⟨.bl _,H,I,rfl,q⟩
end
end L2
namespace mz
open PySem L2 gF
theorem rG {H:Hp} {D:abm} {o:HO} (h:∃ zs,H D=some (.lst zs)):bZ H (upd H D o):=fun b xs e=>by
 have n:b≠D:=fun z=>by obtain ⟨zs,y⟩:=h; rw [z,y] at e; cases e
 rw [aF n]; exact e
section
variable {H1:Hp} {D:abm} {σ0:St} {g:BI->TG} {te:BI->TE} {tt:BI->TT} {End:Hp->Prop} {α β:Type}
theorem jH {keep:α->Bool} {bs:List α} {i:Nat} {c:α} (h:bs[i]?=some c):(bs.take (i+1)).filter keep=(bs.take i).filter keep++if keep c=true then [c] else []:=by
 rw [abj,h,List.filter_append]
 cases z:keep c <;> simp [z]
theorem zZ {K:aas} {R:V->α->Prop} {R':Hp->V->β->Prop} {F:α->β->Prop} {keep:α->Bool} {a:abm} {xs:List V} {bs:List α} (mono:∀ {H H':Hp} {v b},Same H H'->R' H v b->R' H' v b) (uI:∀ {H:Hp} {o:HO} {v b},(∃ zs,H D=some (.lst zs))->R' H v b->R' (upd H D o) v b)
   (hD:H1 D=none) (hT:H1 a=some (.tup xs)) (few:xs.length<=1000) (pr:acN R xs bs)
   (turn:∀ (i:Nat) (x:V) (c:α) (H':Hp),bs[i]?=some c->R x c->Same H1 H'->∀ b (N:Hp->Prop) (Q:VK),(keep c=false->∀ eV,Same H' eV->N eV)->(keep c=true->∀ v eV y,Same H' eV->R' eV v y->F c y->Q v eV)->g b x σ0 H' fun σ2 H2=>tt b σ2 H2 fun cc H3=>if cc=true then te b σ2 H3 Q else N H3)
   (fin:∀ vs ys H',Same H1 H'->H' D=some (.lst vs)->acN (R' H') vs ys->acN F (bs.filter keep) ys->End H') :
   ∃ W:Nat->Nat->Hp->Prop,(∃ m,W 0 m (upd H1 D (.lst [])))/\∀ b,mH (U0 K a) (g b) (tt b) (oY D (te b)) σ0 End W :=
 jt (xs:=xs) (fun i H'=>∃ zs ys,cL H1 H' D zs/\zs.length<=i/\acN (R' H') zs ys/\acN F ((bs.take i).filter keep) ys) ⟨[],[],cL.start hD,abV _,.nil,.nil⟩ (fun i H' _ hz=>by obtain ⟨_,_,G,_⟩:=hz; exact bA.of (G.same _ _ hT)) (fun H' hz=>by
   obtain ⟨zs,ys,G,_,pz,pf⟩:=hz
   rw [pr.length,adi] at pf
   exact fin zs ys H' G.same G.at' pz pf) (fun i x H' hx hi hz b=>by
   have mq:sizeLine=16777216:=acO
   obtain ⟨zs,ys,G,lz,pz,pf⟩:=hz
   obtain ⟨c,hc,rc⟩:=aL pr hx
   refine turn i x c H' hc rc G.same b _ _ (fun k eV s=>nx hi ⟨zs,ys,G.more s,by omega,aq (fun _ _ z=>mono s z) pz,by rw [jH hc,k,if_neg abn,afK]; exact pf⟩) (fun k v eV y s r f=>?_)
   refine ⟨zs,(G.more s).at',by omega,nx hi ⟨zs++[v],ys++[y],(G.more s).put hD v,by rw [abe]; simp; omega,?_,by rw [jH hc,k,if_pos rfl]; exact aM pf (.cons f .nil)⟩⟩
   exact aM (aq (fun _ _ z=>uI ⟨_,(G.more s).at'⟩ (mono s z)) pz) (.cons (uI ⟨_,(G.more s).at'⟩ r) .nil))
theorem N6 {K:aas} {R:V->α->Prop} {R':Hp->V->β->Prop} {F:α->β->Prop} {a:abm} {xs:List V} {bs:List α} (mono:∀ {H H':Hp} {v b},Same H H'->R' H v b->R' H' v b) (uI:∀ {H:Hp} {o:HO} {v b},(∃ zs,H D=some (.lst zs))->R' H v b->R' (upd H D o) v b)
   (hD:H1 D=none) (hT:H1 a=some (.tup xs)) (few:xs.length<=1000) (pr:acN R xs bs)
   (turn:∀ (i:Nat) (x:V) (c:α) (H':Hp),bs[i]?=some c->R x c->Same H1 H'->∀ b (Q:VK),(∀ v eV y,Same H' eV->R' eV v y->F c y->Q v eV)->g b x σ0 H' fun σ2 H2=>te b σ2 H2 Q)
   (fin:∀ vs ys H',Same H1 H'->H' D=some (.lst vs)->acN (R' H') vs ys->acN F bs ys->End H') :
   ∃ W:Nat->Nat->Hp->Prop,(∃ m,W 0 m (upd H1 D (.lst [])))/\∀ b,mH (U0 K a) (g b) (K9) (oY D (te b)) σ0 End W :=
 jt (xs:=xs) (fun i H'=>∃ zs ys,cL H1 H' D zs/\zs.length<=i/\acN (R' H') zs ys/\acN F (bs.take i) ys) ⟨[],[],cL.start hD,abV _,.nil,.nil⟩ (fun i H' _ hz=>by obtain ⟨_,_,G,_⟩:=hz; exact bA.of (G.same _ _ hT)) (fun H' hz=>by
   obtain ⟨zs,ys,G,_,pz,pf⟩:=hz
   rw [pr.length,adi] at pf
   exact fin zs ys H' G.same G.at' pz pf) (fun i x H' hx hi hz b=>by
   have mq:sizeLine=16777216:=acO
   obtain ⟨zs,ys,G,lz,pz,pf⟩:=hz
   obtain ⟨c,hc,rc⟩:=aL pr hx
   refine turn i x c H' hc rc G.same b _ (fun v eV y s r f=>?_)
   refine ⟨zs,(G.more s).at',by omega,nx hi ⟨zs++[v],ys++[y],(G.more s).put hD v,by rw [abe]; simp; omega,?_,by rw [abj,hc]; exact aM pf (.cons f .nil)⟩⟩
   exact aM (aq (fun _ _ z=>uI ⟨_,(G.more s).at'⟩ (mono s z)) pz) (.cons (uI ⟨_,(G.more s).at'⟩ r) .nil))
end
def cU (ks:List aA) (n:Str):Option aA:=ks.find? fun k=>decide (k.name=n)
def twin (ks:List aA) (h:aA):aA:=(cU ks h.name).getD h
def bO (hs:List aA) (k:aA):Bool:=!decide (k.name∈hs.map aA.name)
structure fY (hs ks ms:List aA):Prop where
 ex:∃ first,ms=first++ks.filter (bO hs)/\acN (fun h m=>gw h (twin ks h) m) hs first
theorem uJ {α β:Type} {F:α->β->Prop} (u:∀ a b c,F a b->F a c->b=c):∀ {l:List α} {m m':List β},acN F l m->acN F l m'->m=m'
 | _,_,_,.nil,.nil=>rfl
 | _,_,_,.cons h r,.cons h' r'=>by
   obtain rfl:=u _ _ _ h h'
   exact congrArg (_ :: ·) (uJ u r r')
theorem fY.uniq {hs ks ms Gi:List aA} (a:fY hs ks ms) (b:fY hs ks Gi):ms=Gi:=by
 obtain ⟨f,e,p⟩:=a.ex
 obtain ⟨f',e',p'⟩:=b.ex
 rw [e,e',uJ (F:=fun h m=>gw h (twin ks h) m) (fun _ _ _ x y=>x.uniq y) p p']
structure oV (hs ks:List aA):Prop where
 l1:hs.length<=6
 l2:ks.length<=6
 n1:∀ h∈hs,Good h.name
 n2:∀ h∈ks,Good h.name
 d2:(ks.map aA.name).Nodup
 like:∀ h∈hs,zY h (twin ks h)
 runs:∀ h∈hs,Cp h.runs (twin ks h).runs
def uc:Sp:=fun vs H Q _=>∃ (x y:V) (hs ks:List aA) (ls ls':List Letter),vs=[x,y]/\bK H x hs ls/\bK H y ks ls'/\oV hs ks/\∀ (z:V) (ms:List aA) (H':Hp),fM H' z ms->fY hs ks ms->Same H H'->Q z H'
def gB (H:Hp) (kv:Key × V) (k:aA):Prop:=kv.1=.inr k.name/\bC H kv.2 k
theorem gB.ts {H H':Hp} {kv:Key × V} {k:aA} (h:gB H kv k) (s:bZ H H'):gB H' kv k:=⟨h.1,h.2.ts s⟩
theorem Kh {H:Hp} {kvs:List (Key × V)} {ks:List aA} (p:acN (gB H) kvs ks):kvs.map (·.1)=(ks.map aA.name).map adz:=by
 induction p with
 | nil=>rfl
 | cons h _ ih=>rw [abA,abA,abA,h.1,ih]
theorem Ik {H:Hp} {kvs:List (Key × V)} {ks:List aA} (p:acN (gB H) kvs ks) (n:Str):(cU ks n=none->cJ kvs (.inr n)=none)/\∀ k,cU ks n=some k->∃ v,cJ kvs (.inr n)=some v/\bC H v k:=by
 induction p with
 | nil=>exact ⟨fun _=>rfl,fun k e=>by cases e⟩
 | @cons kv k kvs ks h _ ih =>
   unfold cU at ih ⊢
   by_cases e:k.name=n
   . have e1:kv.1=adz n:=by rw [h.1,e]
     rw [dF e1,apf (by simpa using e)]
     exact ⟨(fun z=>by cases z),fun k' z=>by cases z; exact ⟨_,rfl,h.2⟩⟩
   . rw [dG (fun z=>e (afA (h.1.symm.trans z))),apg (by simpa using e)]
     exact ih
theorem vo (n:Str):∀ ns:List Str,((ns.map aoE).any fun e=>aix e (.str n))=decide (n∈ns)
 | []=>by simp
 | m :: ns=>by
   rw [abA,anm,vo n ns]
   have e:aix (.str m) (.str n)=decide (m=n):=by
     rw [aeU,decide_eq_true_iff]
     simp [aix]
   rw [e,aeU]
   simp only [apA,decide_eq_true_iff,abz]
   exact ⟨fun z=>z.imp arA id,fun z=>z.imp arA id⟩
theorem vp {K:aas} {H:Hp}:∀ ns:List Str,Ov K H (ns.map V.str) (ns.map aoE)
 | []=>.nil
 | n :: ns=>.cons (.str n) (vp ns)
theorem rH:∀ {ns:List Str},(∀ n∈ns,Good n)->aeI (ns.map aoE)=true
 | [],_=>rfl
 | n :: ns,h=>by
   have z:=(h n aaU).ok
   have w:=rH fun m hm=>h m (aaM _ hm)
   simp [ae7,aeI,z,w]
section
variable {P:acs} {w:adH} {K:aas} {mg:Str->Option aau} {base:ae9} {t8 t6 tR tL:Tok}
theorem qF:bB ["one","other","twins","first"] ["one","other"] (au gZ):=⟨rfl,rfl,rfl,by decide +kernel,rfl,by decide +kernel,by decide +kernel⟩
theorem Il {f xY xZ:abm} {fd Aa Ab:aeF} (F:lX K "merged_houses" "merged_houses" gZ f fd) (T:Txt mg t8 t6 tR tL)
   (Tf:aV P w K mg base cG 3 xY Aa ["one","other"] xW) (Tg:mg "merged_house" = some (.ref xY)) (Ti:aaw K (.ref xY)=true) (Tj:Binds K Aa ["one","other"] [])
   (Tn:aV P w K mg base cG 3 xZ Ab ["ledger"] xT) (Tp:mg "house_names" = some (.ref xZ)) (Tq:aaw K (.ref xZ)=true) (Tr:Binds K Ab ["ledger"] []):aV P w K mg base cG 4 f fd ["one","other"] uc:=by
 refine F.ok qF (fun vs H Q E h=>?_) (fun cdv A outer s H vs Q E hr h=>?_)
 . obtain ⟨x,y,hs,ks,ls,ls',rfl,_⟩:=h
   rfl
 . obtain ⟨x,y,hs,ks,ls,ls',rfl,la,lb,ft,q⟩:=h
   have lA:=la
   obtain ⟨a,x1,x2,rfl,ha,⟨c,vh,rfl,hc,pc⟩,_⟩:=la
   obtain ⟨b,y1,y2,rfl,hb,⟨d,vk,rfl,hd,pd⟩,_⟩:=lb
   have mq:sizeLine=16777216:=acO
   have lc:=pc.length
   have ld:=pd.length
   have f1:=ft.l1
   have f2:=ft.l2
   refine ⟨_,(aB (aY (i:=2) qF.nd rfl (aqB rfl) (Ma (eY:=au gZ) (own:=["house"]) (cap:=[]) (ix:=[]) rfl rfl ⟨rfl,by decide +kernel,by decide +kernel,by decide +kernel,rfl,by decide +kernel⟩ (cI (bG dO (pV 1) aC (fun _ _=>rfl))) (fun b=>(aH (i:=0) (show (["house"]:List Str).Nodup by decide +kernel) rfl (acz rfl))) (fun b=>bM) (fun b=>(bG dO (pV 0) aC (fun _ _=>rfl))) (fun b=>(pV 0)))) (aB (pX (i:=3) qF.nd rfl rfl (eY:=au gZ) (own:=["house"]) (cap:=["twins"]) (ix:=[2]) rfl rfl ⟨rfl,by decide +kernel,by decide +kernel,by decide +kernel,rfl,by decide +kernel⟩ (cI (bG dO (pV 0) aC (fun _ _=>rfl))) (fun b=>(aH (i:=0) (show (["house","twins"]:List Str).Nodup by decide +kernel) rfl (acz rfl))) (fun b=>bM) (fun b=>(aJ Tf hr rfl Tg Ti Tj .nil aW (aj (pV 0) (aj (PX (iu hr) (pV 1) (bG dO (pV 0) aC (fun _ _=>rfl)) (pV 0) ⟨rfl,rfl,rfl,rfl⟩) ak))))) (aG (aZ (bD bf rfl T.tuple abU (aj (bJ PJ (pV 3) (cA (eY:=au gZ) (own:=["house"]) (cap:=["one"]) (ix:=[0]) rfl rfl ⟨rfl,by decide +kernel,by decide +kernel,by decide +kernel,rfl,by decide +kernel⟩ (cI (bG dO (pV 1) aC (fun _ _=>rfl))) (fun b=>(aH (i:=0) (show (["house","one"]:List Str).Nodup by decide +kernel) rfl (acz rfl))) (fun b=>(Bb (oZ (N5 hr.units) (bG dO (pV 0) aC (fun _ _=>rfl)) (aJ Tn hr rfl Tp Tq Tr .nil aW (aj (pV 1) ak)) (by with_unfolding_all rfl)))) (fun b=>(pV 0)))) ak)))))),?_⟩
   refine bV (bA.of hb) (i:=0) (v:=.ref d) (by rfl) ?_
   refine ⟨d,rfl,⟨_,bA.of hd⟩,fun D hD=>⟨WS vk.length (fun i σ H'=>∃ (kvs:List (Key × V)) (o1:Option V),σ=[o1]/\H' D=some (.dK kvs)/\acN (gB H') kvs (ks.take i)/\Same H H'),Yl ⟨[],none,rfl,ao,.nil,(Same.refl H).upd hD⟩,fun b=>sG (xs:=vk) _ (fun i σ H' _ hz=>by obtain ⟨_,_,_,_,_,s⟩:=hz; exact bA.of (s _ _ hd)) (fun σ H2 hz=>?_) (fun i x σ H2 hx hi hz=>?_)⟩⟩
   . obtain ⟨kvs,o1,rfl,eD,pk,s2⟩:=hz
     rw [ld,adi] at pk
     refine bV (bA.of (s2 _ _ ha)) (i:=0) (v:=.ref c) (by rfl) ?_
     refine ⟨c,rfl,⟨_,bA.of (s2 _ _ hc)⟩,fun D2 hD2=>N6 (R:=bC H2) (R':=bC) (F:=fun h m=>gw h (twin ks h) m) (fun s r=>r.ts s.tups) (fun e r=>r.ts (rG e)) hD2 (s2 _ _ hc) (by omega) (aq (fun _ _ z=>z.ts s2.tups) pc) (fun i x h H3 hi rx s3 b Q1 q1=>?_) (fun vs ms H3 s3 eD2 pv pf=>?_)⟩
     . have hm:=abg hi
       obtain ⟨c1,b1,rfl,e1,rest⟩:=id rx
       have e1':=s3 _ _ e1
       have OJ:=s3 _ _ eD
       have OD:=aq (fun _ _ z=>gB.ts z s3.tups) pk
       refine ⟨D,rfl,.inl ⟨_,.inl OJ⟩,?_⟩
       refine bV (bA.of e1') (i:=0) (v:=.str h.name) (by rfl) ?_
       refine ⟨_,iW.k (k:=adz h.name) OJ,?_⟩
       obtain ⟨t1,t2⟩:=Ik OD h.name
       have tv:bC H3 ((cJ kvs (adz h.name)).getD (.ref c1)) (twin ks h):=by
         unfold twin
         cases z:cU ks h.name with
         | none=>rw [t1 z]; exact rx.ts s3.tups
         | some k =>
           obtain ⟨v,ev,hv⟩:=t2 k z
           rw [ev]; exact hv
       exact ⟨_,_,h,twin ks h,rfl,rx.ts s3.tups,tv,ft.n1 h hm,ft.like h hm,ft.runs h hm,fun z m H4 hz mh s4=>q1 z H4 m s4 hz mh⟩
     . have S3:=s2.trans s3
       have lp:=pf.length
       have lv:=pv.length
       refine bV (bA.of (S3 _ _ hb)) (i:=0) (v:=.ref d) (by rfl) ?_
       refine ⟨d,rfl,⟨_,bA.of (S3 _ _ hd)⟩,fun D3 hD3=>zZ (R:=bC H3) (R':=bC) (F:=fun (k k':aA)=>k=k') (keep:=bO hs) (fun s r=>r.ts s.tups) (fun e r=>r.ts (rG e)) hD3 (S3 _ _ hd) (by omega) (aq (fun _ _ z=>z.ts S3.tups) pd) (fun i x k H4 hi rx s4 b N Q1 n1 q1=>?_) (fun ws ms2 H4 s4 OJ pw pf2=>?_)⟩
       . obtain ⟨c1,b1,rfl,e1,rest⟩:=id rx
         refine bV (bA.of (s4 _ _ e1)) (i:=0) (v:=.str k.name) (by rfl) ?_
         refine ⟨_,hs,ls,rfl,(lA.ts (S3.trans s4).tups),ft.l1,fun l5 H5 fl5 el5 s5=>?_⟩
         refine ⟨.str k.name,(hs.map aA.name).map aoE,.str _,.lst (bY.of el5) (vp _),(by have z:=(ft.n2 k (abg hi)).ok; simp [ae7,z]),(by simp [afF]),rH (fun n hn=>by obtain ⟨h,hh,rfl⟩:=abh.mp hn; exact ft.n1 h hh),?_⟩
         rw [vo]
         have e:(true ^^ decide (k.name∈hs.map aA.name))=bO hs k:=by unfold bO; cases decide (k.name∈hs.map aA.name) <;> rfl
         rw [e]
         refine gO (fun z=>?_) (fun z=>?_)
         . exact q1 z _ _ k s5 ((rx.ts s4.tups).ts s5.tups) rfl
         . exact n1 (aq1.mpr z) _ s5
       . have ek2:ms2=ks.filter (bO hs):=by
           have key:∀ {l m:List aA},acN (fun (k k':aA)=>k=k') l m->m=l:=fun z=>by
             induction z with
             | nil=>rfl
             | cons h _ ih=>rw [ih,h]
           exact key pf2
         subst ek2
         have lw:=pw.length
         have lf:(ks.filter (bO hs)).length<=ks.length:=am2 _ _
         refine ⟨D2,D3,vs,ws,rfl,rfl,s4 _ _ eD2,OJ,by omega,fun l fl=>?_⟩
         have s5:Same H4 (upd H4 l (.lst (vs++ws))):=(Same.refl H4).upd fl
         generalize Yr:upd H4 l (.lst (vs++ws))=H5 at s5
         have el:H5 l=some (.lst (vs++ws)):=by rw [<- Yr]; exact ao
         refine ⟨l,_,rfl,.inl ⟨bY.of el,fun t1 rD=>?_⟩⟩
         have s6:Same H5 (upd H5 t1 (.tup (vs++ws))):=(Same.refl H5).upd rD
         have s46:=s5.trans s6
         exact q _ (ms++ks.filter (bO hs)) _ ⟨t1,_,rfl,ao,aM (aq (fun _ _ z=>(z.ts s4.tups).ts s46.tups) pv) (aq (fun _ _ z=>z.ts s46.tups) pw)⟩ ⟨⟨ms,rfl,pf⟩⟩ ((S3.trans s4).trans s46)
   . obtain ⟨kvs,o1,rfl,eD,pk,s2⟩:=hz
     obtain ⟨k,hki,hk⟩:=aL pd hx
     obtain ⟨c1,b1,rfl,e1,rest⟩:=id hk
     refine bV (bA.of (s2 _ _ e1)) (i:=0) (v:=.str k.name) (by rfl) ?_
     have lk:=pk.length
     rw [abo] at lk
     refine ⟨kvs,adz k.name,eD,rfl,by omega,nxs hi ⟨putK kvs (.inr k.name) (.ref c1),_,rfl,ao,?_,?_⟩⟩
     . have tt:bZ H2 (upd H2 D (.dK (putK kvs (.inr k.name) (.ref c1)))):=fun a ys e=>by rw [aF (fun z=>by rw [z,eD] at e; cases e)]; exact e
       have no:adz k.name ∉ kvs.map (·.1):=fun z=>by
         rw [Kh pk] at z
         obtain ⟨n,hn,e⟩:=abh.mp z
         have en:n=k.name:=afA e
         rw [aqI] at hn
         obtain ⟨j,hj,ej⟩:=agB.mp hn
         rw [abo] at hj
         rw [ai4] at ej
         have g1:(ks.map aA.name)[j]?=some k.name:=by rw [aaq (by omega),ej,en]
         have g2:(ks.map aA.name)[i]?=some k.name:=by rw [aaJ,hki]; rfl
         have:=(aie (by omega) ft.d2).mp (g1.trans g2.symm)
         omega
       rw [gF.jV no,abj,hki]
       rw [gF.jV no] at tt
       exact aM (aq (fun _ _ z=>z.ts tt) pk) (.cons ⟨rfl,(hk.ts s2.tups).ts tt⟩ .nil)
     . intro b0 o0 e0
       rw [aF (aD e0 hD)]
       exact s2 _ _ e0
end
end mz
namespace L2
open PySem PySem.Spec PyProof.Rows
section
variable {X:Cx} {o e f:Expr} {apos cpos:Pos} {td ty tx:TE}
end
end L2
namespace L2
open PySem PySem.Spec PyProof.Rows
section
variable {prog:acs} {w:adH} {κ:Type} [DecidableEq κ] {knd:HeapKind prog w κ} {A:aeN} {E:aau->aat->Prop} {s:aat}
theorem sdH {d b:abm} {xs:List (κ × abm × aau)} {k:κ} {v:aau} {Q:aau->aat->Prop} (hu:knd.room A) (hk:knd.is s.heap k b) (hm:s.heap.DictOfH knd d xs)
   (q1:∀ p,atKey xs k=some p->Q p.2 { s with toks:=s.toks+knd.draws k }) (q2:atKey xs k=none->∀ h',h'.DictOfH knd d (storedH xs k b v)->afh d s.heap h'->Q v { s with heap:=h',toks:=s.toks+knd.draws k }) (hz:xs.length<=sizeLine) :
   wpAny (model prog w) A (dictSetDefault d (.ref b) v) Q E s:=by
 obtain ⟨o,es,ep,ho,hc,hd,he,his,hn⟩:=hm
 unfold dictSetDefault
 refine adQ (Fi (knd.pyHash hu hk (Fi (wpAny_dictFind_heap (s:={ s with toks:=s.toks+knd.draws k }) hu hk ho hd he his hn (fun no=>?_) (fun j p hj=>?_)))))
 . have nk:k ∉ xs.map (·.1):=not_mem_keys_of_get no
   have no':=atKey_none_of_get no
   refine Fi (aiY (Fi (wpAny_updateDictKeys (hz:=by have e:=size_of_entries he; omega) (s:={ s with toks:=s.toks+knd.draws k }) ho hd (aar (q2 no' _ ⟨_,_,ep+1,aeO _ ho (Obj.isFreed_of_dict (ap9 hd _)),hc.mapDictKeys _,ap9 hd _,?_,fun x hx=>?_,?_⟩ (aeD ..))))))
   . rw [arj no']; simp [he,entryOfKey]
   . rw [arj no'] at hx
     rcases abq.mp hx with z | z
     . exact knd.keeps (his x z) ho hd (aeD ..)
     . rw [abw.mp z]; exact knd.keeps hk ho hd (aeD ..)
   . rw [arj no',abt,aeS]
     exact ⟨hn,by simp,fun x hx y hy e=>nk (by rw [abA,am3,abw] at hy; have hy':y=k:=hy; rw [<- hy',<- e]; exact hx)⟩
 . refine Fi (amV (s:={ s with toks:=s.toks+knd.draws k }) ho hd ?_)
   rw [entry_at he j,hj]
   exact Fi (aiY (aar (q1 p (atKey_of_get hn hj))))
end
def Xn (td ty tx:TE):TE:=fun σ H Q=>td σ H fun x H1=>∃ a,x=.ref a/\IsD H1 a/\ty σ H1 fun y H2=>tx σ H2 fun z H3=>∃ kvs k b,H3 a=some (.dT kvs)/\y=.ref b/\H3 b=some (.tup (k.map kV))/\kvs.length<sizeLine /\
 (∀ v,cJ kvs k=some v->Q v H3)/\(cJ kvs k=none->Q z (upd H3 a (.dT (putK kvs k z))))
section
variable {X:Cx} {o e f:Expr} {apos cpos:Pos} {td ty tx:TE}
theorem N7 (hu:X.A.units+1<cLine) (ho:PE X o td) (he:PE X e ty) (hf:PE X f tx) (m:M2 X o "setdefault" apos e f cpos):PE X (.Call (.Attribute o "setdefault" apos) [e,f] [] cpos) (Xn td ty tx):=by
 intro pins s σ H Q I h
 refine aoq m.base m.few m.line aij anq PySem.F.type_dict_setdefault (dw (ho pins s σ H _ I h) fun u s1 ⟨x,H1,I1,rx,a,ex,d,q1⟩=>?_)
 subst ex
 obtain rfl:u=abk a:=rx
 obtain ⟨t1,t2,_⟩:=Gw I1 d
 refine ⟨t1,t2,?_⟩
 rw [m.trees]
 refine aiy rfl (ame (ahp (dw (he pins s1 σ H1 _ I1 q1) fun iv s2 ⟨y,H2,I2,ry,q2⟩ =>
   ahp (dw (hf pins s2 σ H2 _ I2 q2) fun fv s3 ⟨z,H3,I3,rz,kvs,k,b,ea,ey,eb,hl,c1,c2⟩=>amR ?_))))
 subst ey
 cases (show iv=abk b from ry)
 obtain ⟨zl,hd,xs,rel,dd⟩:=Yb I3.hok ea
 have hz:xs.length<=sizeLine:=by rw [<- aoH rel]; exact zl
 have hT:s3.TypeIs (.ref a) "dict":=by
   obtain ⟨o,es,ep,e1,hx,_⟩:=dd
   exact ⟨o,e1,hx.1⟩
 refine adP anq hT PySem.F.entry_dict_setdefault ?_ (PySem.F.args_dict_setdefault_3 _ _ _)
 unfold agM.«dict.setdefault»
 refine Fi ?_
 unfold Builtin.Dict.keyAndDefault
 refine Fi (am8 hT ?_)
 show wpAny _ _ (pure (a,abk b,some fv)) _ _ s3
 refine aar ?_
 show wpAny _ _ (if (a == sysModules)=true then _ else (dictSetDefault a (.ref b) fv >>= _)) _ _ s3
 rw [hd]
 refine ag4 (fun z=>absurd z abn) (fun _=>?_)
 have rv:=rel.val k
 refine Fi (sdH (ahy hu) (jM I3.hok eb) dd (fun p hp=>?_) (fun hn h' Ou hs=>?_) hz)
 . rw [hp] at rv
   cases e1:cJ kvs k with
   | none=>rw [e1] at rv; exact ahV rv
   | some v' =>
     rw [e1] at rv
     exact aar ⟨_,rfl,v',H3,I3.tok _,rv,c1 v' e1⟩
 . have e1:cJ kvs k=none:=by
     rw [hn] at rv
     cases e1:cJ kvs k with
     | none=>rfl
     | some v'=>rw [e1] at rv; exact ahV rv
   have lp:=dH kvs k z
   obtain ⟨o2,es,ep,hq,h2,h3,h4,_,h5⟩:=Ou
   refine aar ⟨_,rfl,z,_,kZ (ob:=.dT (putK kvs k z)) I3 (by rw [ea]; exact agS) hs ⟨o2,hq⟩ ⟨by omega,hd,_,(rel.put k eb rz).keeps fun c ys ec=>?_,o2,es,ep,hq,h2,h3,h4,h5⟩,rz,c2 e1⟩
   rw [aF (XQ ec ea (fun z=>nomatch z))]
   exact ec
end
end L2
namespace L2
open PySem PySem.Spec PyProof.Rows PySem.W
section
variable {X:Cx}
theorem Cu (hc:X.calm=true):gK X (.builtin "sorted") (fun xs H Q=>∃ (p:abm) (kvs:List (List Key × V)) (ks:List (Str × Str)),xs=[.ref p]/\H p=some (.dT kvs)/\kvs.map (·.1)=ks.map kP/\ks.length<64 /\
   ∀ (l:abm) (as:List abm) (ks':List (Str × Str)),H l=none->ks'.Perm ks->ks'.Pairwise (fun x y=>sy x y=true)->as.length=ks'.length->(∀ (i:Nat) (a:abm) (k:Str × Str),as[i]?=some a->ks'[i]?=some k->H a=some (.tup ((kP k).map kV)))->Q (.ref l) (upd H l (.lst (as.map V.ref)))):=by
 intro pins s σ H xs us Q I r h
 obtain ⟨p,kvs,ks,rfl,hp,hk,h6,q⟩:=h
 obtain ⟨u,rfl,ru⟩:=vals1 r
 cases ru
 obtain ⟨z,d,xs,rel,o,es,ep,g1,g2,g3,g4,g5⟩:=(show cu X.prog X.w H s.heap p (.dT kvs) from I.hok p _ hp)
 have hkx:xs.map (·.1)=ks.map kP:=by
   rw [<- hk]
   exact (mL rel).symm
 have hn:ks.Nodup:=by
   rw [hkx] at g5
   rw [aa2] at g5 ⊢
   rw [acK] at g5
   exact g5.imp fun {a b} h e=>h (by rw [e])
 have hxl:xs.length=ks.length:=by have:=congrArg af6 hkx; simpa using this
 have Z9:es.size=ks.length:=by rw [<- abr,g4,aao,hxl]
 have mq:sizeLine=16777216:=acO
 have fact:∀ i,i<ks.length->(es[i]?).map (·.key)=some (abk (xs.map (·.2.1))[i]!)/\H (xs.map (·.2.1))[i]! = some (.tup ((kP (ks.getD i (default,default))).map kV)):=fun i hi=>by
   have ex:xs[i]?=some xs[i]:=aaq (by omega)
   obtain ⟨kv,ekv,e1,e2,_⟩:=pZ rel ex
   have ea:(xs.map (·.2.1))[i]! = xs[i].2.1:=by
     rw [ana,aaJ,ex]; rfl
   rw [ea]
   refine ⟨?_,?_⟩
   . rw [<- adT,g4,aaJ,ex]; rfl
   . rw [e1] at e2
     have e3:(xs.map (·.1))[i]?=some xs[i].1:=by rw [aaJ,ex]; rfl
     rw [hkx,aaJ,aaq hi] at e3
     have e4:kP ks[i]=xs[i].1:=ac8 e3
     have e5:ks.getD i (default,default)=ks[i]:=by simp [afp,hi]
     rw [e5,e4]; exact e2
 refine xO (K1:=kdS) (K2:=kdS) (T:=fun vs=>∀ i,i<ks.length->vs.getD i acR=.ref (xs.map (·.2.1))[i]!) hn h6 (fun R hR=>anA (A:=X.A.in1) (Qw (es:=es) (ep:=ep) d) (by simpa using I.ok.hd hc) ⟨o,g1,g2,g3⟩ (by omega) fun h' tk acc kk hacc=>?_) fun h1 h' tk vs l n k1 k2 hT hvl ho l1 l2 l3=>?_
 . have al:acc.toList.length=ks.length:=by rw [abr]; exact hacc.1.trans Z9
   have at':∀ i,i<ks.length->acc.toList.getD i acR=.ref (xs.map (·.2.1))[i]!:=fun i hi=>by
     have e1:acc.toList[i]?=some acc.toList[i]:=aaq (by omega)
     obtain ⟨e,ee,ev⟩:=hacc.2 i acc.toList[i] (by rw [<- adT]; exact e1)
     have f:=(fact i hi).1
     rw [ee] at f
     have f':e.key=abk (xs.map (·.2.1))[i]!:=ac8 f
     simp only [afp,e1,Option.getD_some]
     rw [ev,f']
   refine hR h' tk acc.toList kk (gM.of al fun i hi=>?_) at'
   rw [at' i hi]
   obtain ⟨_,its,rv,ob,e1,e2,⟨m,e3⟩,_⟩:=(show cu X.prog X.w H s.heap _ (.tup ((kP (ks.getD i (default,default))).map kV)) from I.hok _ _ (fact i hi).2)
   have g:=kk _ _ e1
   obtain ⟨v1,v2,rfl,r1,r2⟩:=vals2 (show Vals [V.str _,V.str _] its from rv)
   obtain ⟨t1,rfl⟩:=r1
   obtain ⟨t2,rfl⟩:=r2
   exact ⟨_,ob,m,_,_,[],rfl,acu (abf g),g,e2,e3,⟨t1,rfl⟩,⟨t2,rfl⟩,fun u hu=>by cases hu⟩
 . have I1:Inv X pins σ H { s with heap:=h1,toks:=tk }:=I.kept k1
   have l1:∀ i∈l,i<ks.length:=fun i hi=>adA.mp (l1.mem_iff.mp hi)
   have l3:(l.map fun i=>ks.getD i (default,default)).Pairwise (fun x y=>sy x y=true):=l3
   have ll:l.length=ks.length:=by have:=l2.length_eq; simpa using this
   have eo:(l.map fun i=>vs.getD i acR)=(l.map fun i=>(xs.map (·.2.1))[i]!).map abk:=by
     rw [adJ]
     exact afa fun i hi=>hT i (l1 i hi)
   refine ⟨.ref h1.objs.size,_,I1.laid (t':=tk) (o:=.lst ((l.map fun i=>(xs.map (·.2.1))[i]!).map V.ref)) k2 (aav _) ⟨by rw [aao,aao]; omega,(l.map fun i=>(xs.map (·.2.1))[i]!).map abk,n,?_,by rw [<- eo]; exact ho⟩,rfl,
     q _ _ _ (I1.hok.fresh (aav _)) l2 l3 (by simp) fun j a k ea ek=>?_⟩
   . generalize (l.map fun i=>(xs.map (·.2.1))[i]!)=ys
     induction ys with
     | nil=>exact .nil
     | cons y ys ih=>exact .cons rfl ih
   . rw [aaJ] at ea ek
     cases ej:l[j]? with
     | none=>rw [ej] at ea; cases ea
     | some i =>
       rw [ej] at ea ek
       cases (show some _=some a from ea)
       cases (show some _=some k from ek)
       exact (fact i (l1 i (abg ej))).2
end
end L2
namespace mz
open PySem L2 gF
section
variable {H1:Hp} {D:abm} {σ0:St} {g:BI->TG} {te:BI->TE} {tt:BI->TT} {End:Hp->Prop} {α β:Type}
theorem Ac {K:aas} {R:V->α->Prop} {R':Hp->V->β->Prop} {F:α->β->Prop} {keep:α->Bool} {a:abm} {xs:List V} {bs:List α} (mono:∀ {H H':Hp} {v b},Same H H'->R' H v b->R' H' v b) (uI:∀ {H:Hp} {o:HO} {v b},(∃ zs,H D=some (.lst zs))->R' H v b->R' (upd H D o) v b)
   (hD:H1 D=none) (hT:H1 a=some (.lst xs)) (few:xs.length<=1000) (pr:acN R xs bs)
   (turn:∀ (i:Nat) (x:V) (c:α) (H':Hp),bs[i]?=some c->R x c->Same H1 H'->∀ b (N:Hp->Prop) (Q:VK),(keep c=false->∀ eV,Same H' eV->N eV)->(keep c=true->∀ v eV y,Same H' eV->R' eV v y->F c y->Q v eV)->g b x σ0 H' fun σ2 H2=>tt b σ2 H2 fun cc H3=>if cc=true then te b σ2 H3 Q else N H3)
   (fin:∀ vs ys H',Same H1 H'->H' D=some (.lst vs)->acN (R' H') vs ys->acN F (bs.filter keep) ys->End H') :
   ∃ W:Nat->Nat->Hp->Prop,(∃ m,W 0 m (upd H1 D (.lst [])))/\∀ b,mH (X3 K a) (g b) (tt b) (oY D (te b)) σ0 End W :=
 jY (xs:=xs) (fun i H'=>∃ zs ys,cL H1 H' D zs/\zs.length<=i/\acN (R' H') zs ys/\acN F ((bs.take i).filter keep) ys) ⟨[],[],cL.start hD,abV _,.nil,.nil⟩ (fun i H' _ hz=>by obtain ⟨_,_,G,_⟩:=hz; exact bY.of (G.same _ _ hT)) (fun H' hz=>by
   obtain ⟨zs,ys,G,_,pz,pf⟩:=hz
   rw [pr.length,adi] at pf
   exact fin zs ys H' G.same G.at' pz pf) (fun i x H' hx hi hz b=>by
   have mq:sizeLine=16777216:=acO
   obtain ⟨zs,ys,G,lz,pz,pf⟩:=hz
   obtain ⟨c,hc,rc⟩:=aL pr hx
   refine turn i x c H' hc rc G.same b _ _ (fun k eV s=>nx hi ⟨zs,ys,G.more s,by omega,aq (fun _ _ z=>mono s z) pz,by rw [jH hc,k,if_neg abn,afK]; exact pf⟩) (fun k v eV y s r f=>?_)
   refine ⟨zs,(G.more s).at',by omega,nx hi ⟨zs++[v],ys++[y],(G.more s).put hD v,by rw [abe]; simp; omega,?_,by rw [jH hc,k,if_pos rfl]; exact aM pf (.cons f .nil)⟩⟩
   exact aM (aq (fun _ _ z=>uI ⟨_,(G.more s).at'⟩ (mono s z)) pz) (.cons (uI ⟨_,(G.more s).at'⟩ r) .nil))
end
structure dU (ls ls' ms:List Letter):Prop where
 mem:∀ l,l∈ms↔l∈ls∨l∈ls'
 rise:(ms.map adB).Pairwise (fun a b=>sy a b=true)
theorem Tt {ms Gi:List Letter} (h:(ms.map adB).Pairwise (fun a b=>sy a b=true)) (h':(Gi.map adB).Pairwise (fun a b=>sy a b=true)) (e:∀ l,l∈ms↔l∈Gi):ms=Gi:=by
 rw [acK] at h h'
 have nd:∀ {l:List Letter},l.Pairwise (fun a b=>sy a.1 b.1=true)->l.Nodup:=fun h=>aa2.mpr (h.imp fun {a b} h e=>by rw [e,iB.Ge] at h; cases h)
 exact ((ahn (nd h) (nd h')).mpr e).eq_of_pairwise (fun a b _ _ h1 h2=>by have z:=iB.trans _ _ _ h1 h2; rw [iB.Ge] at z; cases z) h h'
theorem dU.uniq {ls ls' ms Gi:List Letter} (a:dU ls ls' ms) (b:dU ls ls' Gi):ms=Gi:=Tt a.rise b.rise fun l=>(a.mem l).trans (b.mem l).symm
structure lW (ls ls':List Letter):Prop where
 l1:ls.length<=24
 l2:ls'.length<=24
 good:∀ l∈ls++ls',Good l.1.1/\Good l.1.2
 one:∀ a∈ls++ls',∀ b∈ls++ls',a.1=b.1->a=b
theorem iJ {l:Letter} (g:Good l.1.1/\Good l.1.2):afD (pN l)=true:=by
 have z1:=g.1.ok
 have z2:=g.2.ok
 unfold afD pN
 cases l.2.2 <;> simp [Cj,ae7,aeI,z1,z2,afF,aeY]
theorem Cv {K:aas} {H:Hp} {v:V} {l:Letter} (h:cg H v l):Dp K H v (pN l):=by
 obtain ⟨a1,rfl,e1⟩:=h
 refine .tup (bA.of e1) (.cons (.str _) (.cons (.str _) (.cons (.int _) (.cons ?_ .nil))))
 cases l.2.2 with
 | none=>exact .non
 | some i=>exact .int i
def Cw (H:Hp) (kv:List Key × V) (l:Letter):Prop:=kv.1=kP l.1/\cg H kv.2 l
theorem Cw.ts {H H':Hp} {kv:List Key × V} {l:Letter} (h:Cw H kv l) (s:bZ H H'):Cw H' kv l:=⟨h.1,h.2.ts s⟩
theorem GQ {a b:Str × Str} (h:kP a=kP b):a=b:=by
 unfold kP at h
 simp only [anI,Sum.inr.injEq,and_true] at h
 exact anT h.1 h.2
theorem Xo {H:Hp} {kvs:List (List Key × V)} {ms:List Letter} (p:acN (Cw H) kvs ms):kvs.map (·.1)=(ms.map adB).map kP:=by
 induction p with
 | nil=>rfl
 | cons h _ ih=>rw [abA,abA,abA,h.1,ih]
theorem Tv {H:Hp} {kvs:List (List Key × V)} {ms:List Letter} (p:acN (Cw H) kvs ms) (k:Str × Str):(k ∉ ms.map adB->cJ kvs (kP k)=none)/\(k∈ms.map adB->∃ v l,cJ kvs (kP k)=some v/\l∈ms/\l.1=k/\cg H v l):=by
 induction p with
 | nil=>exact ⟨fun _=>rfl,fun z=>by cases z⟩
 | @cons kv l kvs ms h _ ih =>
   by_cases e:l.1=k
   . have e1:kv.1=kP k:=by rw [h.1,e]
     rw [dF e1]
     exact ⟨fun z=>absurd (by rw [abA,e]; exact aaU) z,fun _=>⟨_,l,rfl,aaU,e,h.2⟩⟩
   . rw [dG (fun z=>e (GQ (h.1.symm.trans z)))]
     refine ⟨fun z=>ih.1 fun y=>z (aaM _ y),fun z=>?_⟩
     rcases abz.mp z with y | y
     . exact absurd y.symm e
     . obtain ⟨v,l',a,b,c⟩:=ih.2 y
       exact ⟨v,l',a,aaM _ b,c⟩
def qG:Sp:=fun vs H Q _=>∃ (x y:V) (hs ks:List aA) (ls ls':List Letter),vs=[x,y]/\bK H x hs ls/\bK H y ks ls'/\lW ls ls'/\∀ (z:V) (ms:List Letter) (H':Hp),fW H' z ms->dU ls ls' ms->Same H H'->Q z H'
section
variable {P:acs} {w:adH} {K:aas} {mg:Str->Option aau} {base:ae9} {t8 t6 tR tL:Tok}
theorem nA:bB ["one","other","letters","letter"] ["one","other"] (au iD):=⟨rfl,rfl,rfl,by decide +kernel,rfl,by decide +kernel,by decide +kernel⟩
theorem FT {f:abm} {fd:aeF} (F:lX K "merged_letters" "merged_letters" iD f fd) (T:Txt mg t8 t6 tR tL):aV P w K mg base cG 1 f fd ["one","other"] qG:=by
 refine F.ok nA (fun vs H Q E h=>?_) (fun cdv A outer s H vs Q E hr h=>?_)
 . obtain ⟨x,y,hs,ks,ls,ls',rfl,_⟩:=h
   rfl
 . obtain ⟨x,y,hs,ks,ls,ls',rfl,⟨a,x1,x2,rfl,ha,_,⟨c,vl,rfl,hc,pc⟩⟩,⟨b,y1,y2,rfl,hb,_,⟨d,vm,rfl,hd,pd⟩⟩,ft,q⟩:=h
   have mq:sizeLine=16777216:=acO
   have lc:=pc.length
   have ld:=pd.length
   have f1:=ft.l1
   have f2:=ft.l2
   refine ⟨_,(aB (aY (i:=2) nA.nd rfl (aqB rfl) Dk) (aB (gC aeZ rfl (cI (bJ qT (bG dO (pV 0) aC (fun _ _=>rfl)) (bG dO (pV 1) aC (fun _ _=>rfl)))) (aH (i:=3) nA.nd rfl (acz rfl)) (aG (cP (oZ (rY hr.units) (N7 (iu hr) (pV 2) (cT Bm (pV 3) fU (Bf aC)) (pV 3) ⟨rfl,rfl,rfl,rfl⟩) (pV 3) (bL _)) (aG (vG)) bH))) (aG (aZ (bD bf rfl T.tuple abU (aj (cA (eY:=au iD) (own:=["pair"]) (cap:=["letters"]) (ix:=[2]) rfl rfl ⟨rfl,by decide +kernel,by decide +kernel,by decide +kernel,rfl,by decide +kernel⟩ (iM (aO (Cu rfl) rfl T.sorted afm (aj (pV 2) ak))) (fun b=>(aH (i:=0) (show (["pair","letters"]:List Str).Nodup by decide +kernel) rfl (acz rfl))) (fun b=>bM) (fun b=>(jC (iu hr) (pV 1) (pV 0) (fun _ _=>rfl)))) ak)))))),?_⟩
   refine fun D hD=>?_
   have s0:Same H (upd H D (.dT [])):=(Same.refl H).upd hD
   generalize eH0:upd H D (.dT [])=H0 at s0
   have eD0:H0 D=some (.dT []):=by rw [<- eH0]; exact ao
   refine bV (bA.of (s0 _ _ ha)) (i:=1) (v:=.ref c) (by rfl) ?_
   refine bV (bA.of (s0 _ _ hb)) (i:=1) (v:=.ref d) (by rfl) ?_
   refine ⟨⟨c,d,vl,vm,rfl,rfl,s0 _ _ hc,s0 _ _ hd,by omega,fun p H1 hp s1=>?_⟩⟩
   have S1:=s0.trans s1
   have pp:acN (cg H1) (vl++vm) (ls++ls'):=aq (fun _ _ z=>z.ts S1.tups) (aM pc pd)
   generalize vl++vm=us at hp pp
   have aiq:(ls++ls').length<=48:=by rw [abe]; omega
   have one:=ft.one
   have good:=ft.good
   generalize air:ls++ls'=all at pp aiq one good
   have lp:=pp.length
   refine ⟨p,rfl,⟨_,bA.of hp⟩,jB (xs:=us) (fun i σ H'=>∃ (kvs:List (List Key × V)) (ms:List Letter) (o3:Option V),σ=[some (.ref a),some (.ref b),some (.ref D),o3]/\H' D=some (.dT kvs)/\acN (Cw H') kvs ms/\(ms.map adB).Nodup/\(∀ l,l∈ms↔l∈all.take i)/\ms.length<=i/\aP D H1 H') ⟨[],[],none,rfl,s1 _ _ eD0,.nil,.nil,fun l=>by simp,aav _,fun b o _ e=>e⟩ (fun i σ H' _ hz=>by
     obtain ⟨_,_,_,_,_,_,_,_,_,s⟩:=hz
     exact bA.of (s _ _ (fun z=>by rw [z,s1 _ _ eD0] at hp; cases hp) hp)) (fun i v σ H2 hv hz=>?_) (fun σ H2 hz=>?_)⟩
   . obtain ⟨kvs,ms,o3,rfl,eD,pk,nd,mm,lm,sB⟩:=hz
     obtain ⟨l,hl,hat⟩:=aL pp hv
     have t12:bZ H1 H2:=fun b xs e=>sB b _ (fun z=>by rw [z,s1 _ _ eD0] at e; cases e) e
     have lm':=abg hl
     have hi:i<all.length:=(acZ.mp hl).1
     obtain ⟨a1,rfl,e1⟩:=hat.ts t12
     refine ⟨D,rfl,.inr ⟨_,.inl eD⟩,?_⟩
     refine ⟨⟨a1,_,rfl,e1,fun p2 H3 hp2 s3=>?_⟩⟩
     have aax:mj [V.str l.1.1,V.str l.1.2,V.int l.2.1,mO l.2.2] none (some 2)=(kP l.1).map kV:=rfl
     rw [aax] at hp2
     have hat3:cg H3 (.ref a1) l:=⟨a1,rfl,s3 _ _ e1⟩
     have OD:=aq (fun _ _ z=>Cw.ts z s3.tups) pk
     have OJ:=s3 _ _ eD
     have lk:=pk.length
     obtain ⟨v1,v2⟩:=Tv OD l.1
     have sB3:aP D H1 H3:=fun b o n e=>s3 _ _ (sB b o n e)
     refine ⟨kvs,kP l.1,p2,OJ,rfl,hp2,by omega,fun v ev=>?_,fun ev=>?_⟩
     . have hk:l.1∈ms.map adB:=agl fun z=>by rw [v1 z] at ev; cases ev
       obtain ⟨v',l',e2,ml,el,lat⟩:=v2 hk
       rw [ev] at e2; cases e2
       have:l'=l:=one l' (afi ((mm l').mp ml)) l lm' el
       subst this
       refine ⟨_,_,Cv lat,Cv hat3,iJ (good l' lm'),iJ (good l' lm'),?_⟩
       rw [am0 _ (abx.mp (iJ (good l' lm'))).1]
       refine ⟨kvs,ms,_,rfl,OJ,OD,nd,fun x=>?_,by omega,sB3⟩
       rw [mm,abj,hl,abq]
       exact ⟨.inl,fun z=>z.elim id fun z=>by rw [abw.mp z]; exact (mm l').mp ml⟩
     . have nk:l.1 ∉ ms.map adB:=fun z=>by obtain ⟨v',l',e2,_⟩:=v2 z; rw [ev] at e2; cases e2
       have tt:bZ H3 (upd H3 D (.dT (putK kvs (kP l.1) (.ref a1)))):=fun b ys e=>by rw [aF (fun z=>by rw [z,OJ] at e; cases e)]; exact e
       refine ⟨_,_,Cv (hat3.ts tt),Cv (hat3.ts tt),iJ (good l lm'),iJ (good l lm'),?_⟩
       rw [am0 _ (abx.mp (iJ (good l lm'))).1]
       refine ⟨_,ms++[l],_,rfl,ao,?_,?_,fun x=>?_,by rw [abe]; simp; omega,fun b o n e=>by rw [aF n]; exact sB3 b o n e⟩
       . rw [L2.jV _ ev] at tt ⊢
         exact aM (aq (fun _ _ z=>Cw.ts z tt) OD) (.cons ⟨rfl,hat3.ts tt⟩ .nil)
       . rw [abt,aeS]
         exact ⟨nd,by simp,fun x hx y hy e=>nk (by have:y=l.1:=(by simpa using hy); rw [<- this,<- e]; exact hx)⟩
       . rw [abq,mm,abj,hl,abq]; rfl
   . obtain ⟨kvs,ms,o3,rfl,eD,pk,nd,mm,lm,sB⟩:=hz
     rw [lp,adi] at mm
     have nD:H D=none:=hD
     have S2:Same H H2:=fun b o e=>sB b o (aD e nD) (S1 _ _ e)
     have lk:=pk.length
     refine ⟨D,kvs,ms.map adB,rfl,eD,Xo pk,by rw [aao]; omega,fun l as ks' fl pm pw la at'=>?_⟩
     have s4:Same H2 (upd H2 l (.lst (as.map V.ref))):=(Same.refl H2).upd fl
     generalize eH4:upd H2 l (.lst (as.map V.ref))=H4 at s4
     have e4:H4 l=some (.lst (as.map V.ref)):=by rw [<- eH4]; exact ao
     have lk':ks'.length=ms.length:=by rw [pm.length_eq,aao]
     have pas:acN (fun (x:V) (k:Str × Str)=>∃ a,x=.ref a/\H4 a=some (.tup ((kP k).map kV))) (as.map V.ref) ks':=by
       have key:∀ (as:List abm) (ks:List (Str × Str)),as.length=ks.length->(∀ (i:Nat) (a:abm) (k:Str × Str),as[i]?=some a->ks[i]?=some k->H4 a=some (.tup ((kP k).map kV)))->acN (fun (x:V) (k:Str × Str)=>∃ a,x=.ref a/\H4 a=some (.tup ((kP k).map kV))) (as.map V.ref) ks:=by
         intro as
         induction as with
         | nil=>intro ks hl _; rw [aeE hl.symm]; exact .nil
         | cons a as ih =>
           intro ks hl h
           cases ks with
           | nil=>simp at hl
           | cons k ks=>exact .cons ⟨a,rfl,h 0 a k rfl rfl⟩ (ih ks (by simpa using hl) fun i a' k' h1 h2=>h (i+1) a' k' (by simpa using h1) (by simpa using h2))
       exact key as ks' la fun i a k h1 h2=>s4 _ _ (at' i a k h1 h2)
     refine ⟨l,rfl,⟨_,bY.of e4⟩,fun D2 hD2=>Ac (R':=cg) (F:=fun (k:Str × Str) (l:Letter)=>l∈ms/\l.1=k) (keep:=fun _=>true) (fun s r=>r.ts s.tups) (fun e r=>r.ts (rG e)) hD2 e4 (by rw [aao,la]; omega) pas (fun i x k H5 hi rx s5 b N Q1 n1 q1=>?_) (fun vs Gi H5 s5 eD2 pv pf=>?_)⟩
     . obtain ⟨a5,rfl,ea5⟩:=rx
       have O1:=aq (fun _ _ z=>Cw.ts z (s4.trans s5).tups) pk
       have km:k∈ms.map adB:=pm.mem_iff.mp (abg hi)
       obtain ⟨v,l',ev,ml,el,lat⟩:=(Tv O1 k).2 km
       refine ⟨D,v,rfl,ev ▸ iW.t ((s4.trans s5) _ _ eD) (s5 _ _ ea5),?_⟩
       exact q1 rfl v H5 l' (Same.refl _) lat ⟨ml,el⟩
     . have ef:ks'.filter (fun _=>true)=ks':=anJ.mpr fun _ _=>rfl
       rw [ef] at pf
       have key:∀ {ks:List (Str × Str)} {m:List Letter},acN (fun (k:Str × Str) (l:Letter)=>l∈ms/\l.1=k) ks m->m.map adB=ks/\∀ l∈m,l∈ms:=fun z=>by
         induction z with
         | nil=>exact ⟨rfl,fun l hl=>by cases hl⟩
         | cons h _ ih =>
           refine ⟨by rw [abA,h.2,ih.1],fun l hl=>?_⟩
           rcases abz.mp hl with z | z
           . rw [z]; exact h.1
           . exact ih.2 l z
       obtain ⟨k1,k2⟩:=key pf
       refine ⟨D2,vs,rfl,.inl ⟨bY.of eD2,fun t1 rD=>?_⟩⟩
       have s6:Same H5 (upd H5 t1 (.tup vs)):=(Same.refl H5).upd rD
       refine q _ Gi _ ⟨t1,vs,rfl,ao,aq (fun _ _ z=>z.ts s6.tups) pv⟩ ⟨fun x=>?_,by rw [k1]; exact pw⟩ ((S2.trans s4).trans (s5.trans s6))
       rw [<- abq,air,<- mm]
       constructor
       . exact k2 x
       . intro hx
         have:x.1∈Gi.map adB:=by rw [k1]; exact pm.mem_iff.mpr (abv hx)
         obtain ⟨y,hy,e⟩:=abh.mp this
         have:y=x:=one y ((mm y).mp (k2 y hy)) x ((mm x).mp hx) e
         rw [<- this]; exact hy
end
end mz
namespace mz
open PySem L2 gF
def yc:Sp:=fun vs H Q _=>∃ (x y:V) (hs ks:List aA) (ls ls':List Letter),vs=[x,y]/\bK H x hs ls/\bK H y ks ls'/\oV hs ks/\lW ls ls'/\(∀ ms ns,fY hs ks ms->dU ls ls' ns->cY ms/\dI ms ns) /\
 ∀ (z:V) (ms:List aA) (ns:List Letter) (H':Hp),bK H' z ms ns->fY hs ks ms->dU ls ls' ns->Same H H'->Q z H'
section
variable {P:acs} {w:adH} {K:aas} {mg:Str->Option aau} {base:ae9} {t8 t6 tR tL:Tok}
theorem Ad:bB ["one","other","ledger"] ["one","other"] (au oJ):=⟨rfl,rfl,rfl,by decide +kernel,rfl,by decide +kernel,by decide +kernel⟩
theorem N8 {f ud qH jA:abm} {fd yd uK kJ:aeF} (F:lX K "merged" "merged" oJ f fd)
   (Oa:aV P w K mg base cG 6 ud yd ["one","other"] uc) (Ob:mg "merged_houses" = some (.ref ud)) (Oc:aaw K (.ref ud)=true) (Od:Binds K yd ["one","other"] [])
   (Im:aV P w K mg base cG 6 qH uK ["one","other"] qG) (Io:mg "merged_letters" = some (.ref qH)) (Ip:aaw K (.ref qH)=true) (Ir:Binds K uK ["one","other"] [])
   (yg:aV P w K mg base cG 6 jA kJ ["thing"] (Bo ou)) (yh:mg "is_ledger" = some (.ref jA)) (yj:aaw K (.ref jA)=true) (yp:Binds K kJ ["thing"] []):aV P w K mg base cG 7 f fd ["one","other"] yc:=by
 refine F.ok Ad (fun vs H Q E h=>?_) (fun cdv A outer s H vs Q E hr h=>?_)
 . obtain ⟨x,y,hs,ks,ls,ls',rfl,_⟩:=h
   rfl
 . obtain ⟨x,y,hs,ks,ls,ls',rfl,la,lb,fh,fl,gd,q⟩:=h
   have mq:sizeLine=16777216:=acO
   refine ⟨_,(aB (aY (i:=2) Ad.nd rfl (acz rfl) (cN (aj (aJ Oa hr rfl Ob Oc Od .nil aW (aj (pV 0) (aj (pV 1) ak))) (aj (aJ Im hr rfl Io Ip Ir .nil aW (aj (pV 0) (aj (pV 1) ak))) ak)))) (aB (cP (dN (Bc (aJ yg hr rfl yh yj yp .nil aW (aj (pV 2) ak)))) (aG (vG)) bH) (aG (aZ (pV 2))))),?_⟩
   refine ⟨x,y,hs,ks,ls,ls',rfl,la,lb,fh,fun z ms H1 hz mh s1=>?_⟩
   refine ⟨x,y,hs,ks,ls,ls',rfl,la.ts s1.tups,lb.ts s1.tups,fl,fun z2 ns H2 hz2 ml s2=>?_⟩
   refine ⟨by show 2<=sizeLine; omega,fun t ft=>?_⟩
   obtain ⟨gh,gl⟩:=gd ms ns mh ml
   have s3:Same H2 (upd H2 t (.tup [z,z2])):=(Same.refl H2).upd ft
   have led:bK (upd H2 t (.tup [z,z2])) (.ref t) ms ns:=⟨t,z,z2,rfl,ao,hz.ts (s2.trans s3).tups,hz2.ts s3.tups⟩
   refine ⟨.ref t,_,rfl,led.da gh gl,fun H4 s4=>?_⟩
   rw [zE gh gl]
   exact q _ ms ns H4 (led.ts s4.tups) mh ml (((s1.trans s2).trans s3).trans s4)
end
end mz
namespace mz
open PySem L2 gF
structure uU (R r:List Row):Prop where
 ne:r≠[]
 rise:(r.map afn).Pairwise (·<·)
 sub:∀ a∈r,a∈R
def dM:List (List Row)->List (List Row)->Prop
 | _,[]=>True
 | R :: Rs,r :: rs=>uU R r/\dM Rs rs
 | [],_ :: _=>False
theorem dM.length:∀ {Rs rs:List (List Row)},dM Rs rs->rs.length<=Rs.length
 | _,[],_=>abV _
 | _ :: _,_ :: _,h=>Nat.succ_le_succ (dM.length h.2)
 | [],_ :: _,h=>h.elim
theorem dM.get:∀ {Rs rs:List (List Row)},dM Rs rs->∀ {j:Nat} {r:List Row},rs[j]?=some r->∃ R,Rs[j]?=some R/\uU R r
 | _,[],_,_,_,e=>by simp at e
 | R :: _,_ :: _,h,0,_,e=>by cases e; exact ⟨R,rfl,h.1⟩
 | _ :: _,_ :: _,h,j+1,r,e=>dM.get h.2 (j:=j) e
 | [],_ :: _,h,_,_,_=>h.elim
theorem uU.join {R p q r:List Row} (a:uU R p) (b:uU R q) (m:xQ p q r):uU R r:=by
 refine ⟨fun e=>?_,m.rise,fun x hx=>((m.mem x).mp hx).elim (a.sub x) (b.sub x)⟩
 cases p with
 | nil=>exact a.ne rfl
 | cons x p =>
   have:=(m.mem x).mpr (.inl aaU)
   rw [e] at this; cases this
theorem dM.join:∀ {Rs a b r:List (List Row)},dM Rs a->dM Rs b->jc a b r->dM Rs r
 | _,[],_,_,_,hb,m=>by cases m; exact hb
 | _,_ :: _,[],_,ha,_,m=>by cases m; exact ha
 | _ :: _,_ :: _,_ :: _,_ :: _,ha,hb,m=>⟨ha.1.join hb.1 m.1,dM.join ha.2 hb.2 m.2⟩
 | _ :: _,_ :: _,_ :: _,[],_,_,m=>m.elim
 | [],_ :: _,_ :: _,_,h,_,_=>h.elim
theorem uU.self {R r:List Row} (h:uU R r):xQ r r r:=⟨fun a=>⟨.inl,fun z=>z.elim id id⟩,h.rise⟩
theorem dM.self:∀ {Rs a:List (List Row)},dM Rs a->jc a a a
 | _,[],_=>rfl
 | _ :: _,_ :: _,h=>⟨h.1.self,dM.self h.2⟩
 | [],_ :: _,h=>h.elim
theorem dM.full:∀ {a:List (List Row)},(∀ r∈a,iT r)->dM a a
 | [],_=>trivial
 | r :: a,h=>⟨⟨(h r aaU).ne,(h r aaU).rise,fun _ z=>z⟩,dM.full fun x hx=>h x (aaM _ hx)⟩
theorem rJ:∀ {Rs a b r:List (List Row)},dM Rs a->dM Rs b->jc a b r->jc r b r
 | _,[],_,_,_,hb,m=>by cases m; exact hb.self
 | _,_ :: _,[],_,_,_,m=>by cases m; exact rfl
 | _ :: _,_ :: _,_ :: _,_ :: _,ha,hb,m=>⟨⟨fun x=>⟨.inl,fun z=>z.elim id fun y=>(m.1.mem x).mpr (.inr y)⟩,m.1.rise⟩,rJ ha.2 hb.2 m.2⟩
 | _ :: _,_ :: _,_ :: _,[],_,_,m=>m.elim
 | [],_ :: _,_ :: _,_,h,_,_=>h.elim
theorem qI:∀ {a b r:List (List Row)},jc a b r->∀ x,x∈r.flatten↔x∈a.flatten∨x∈b.flatten
 | [],_,_,m,x=>by cases m; simp
 | _ :: _,[],_,m,x=>by cases m; simp
 | p :: a,q :: b,r :: rs,m,x=>by
   rw [aeR,aeR,aeR,abq,abq,abq,m.1.mem,qI m.2]
   constructor
   . rintro ((h | h) | (h | h)) <;> simp [h]
   . rintro ((h | h) | (h | h)) <;> simp [h]
 | _ :: _,_ :: _,[],m,_=>m.elim
theorem dM.rows:∀ {Rs rs:List (List Row)},dM Rs rs->∀ x∈rs.flatten,x∈Rs.flatten
 | _,[],_,_,hx=>by simp at hx
 | R :: Rs,r :: rs,h,x,hx=>by
   rw [aeR,abq] at hx ⊢
   exact hx.imp (h.1.sub x) (dM.rows h.2 x)
 | [],_ :: _,h,_,_=>h.elim
structure kO (h k:aA):Prop where
 name:k.name=h.name
 low:k.low=h.low
 high:k.high=h.high
 aQ:k.aQ=h.aQ
 runs:dM h.runs k.runs
theorem kO.names {h k:aA} (p:kO h k) {n:Str} (hn:n∈bT k):n∈bT h:=by
 obtain ⟨r,hr,rfl⟩:=abh.mp hn
 exact abv (p.runs.rows r hr)
structure Part (hs:List aA) (ls:List Letter) (ks:List aA) (ms:List Letter):Prop where
 ne:1<=ks.length
 sub:∀ k∈ks,∃ h∈hs,kO h k
 nd:(ks.map aA.name).Nodup
 FW:∀ l∈ms,l∈ls
 FZ:∀ l∈ms,l.1.1∈namesOf ks/\l.1.2∈namesOf ks
 rise:(ms.map adB).Pairwise (fun a b=>sy a b=true)
structure Ae (hs:List aA) (ls:List Letter):Prop where
 gh:cY hs
 gl:dI hs ls
 ten:(namesOf hs).length<=10
 six:ls.length<=6
section
variable {hs ks jJ jl ms:List aA} {ls ns vA uL:List Letter} (W:Ae hs ls)
theorem uf (n:(hs.map aA.name).Nodup) {a b:aA} (ha:a∈hs) (hb:b∈hs) (e:a.name=b.name):a=b:=by
 obtain ⟨i,hi,ei⟩:=afq ha
 obtain ⟨j,hj,ej⟩:=afq hb
 have a1:(hs.map aA.name)[i]?=some a.name:=by rw [aaJ,aaq hi,ei]; rfl
 have a2:(hs.map aA.name)[j]?=some a.name:=by rw [aaJ,aaq hj,ej,e]; rfl
 have ij:=(aie (by rw [aao]; exact hi) n).mp (a1.trans a2.symm)
 subst ij
 rw [<- ei,ej]
theorem ug (nd:(namesOf hs).Nodup) {h:aA} (hh:h∈hs):(bT h).Nodup:=by
 unfold namesOf at nd
 rw [aa2,apW] at nd
 exact aa2.mpr (nd.1 h hh)
theorem yq (nd:(namesOf hs).Nodup) {a b:aA} (ha:a∈hs) (hb:b∈hs) {n:Str} (h1:n∈bT a) (h2:n∈bT b):a.name=b.name:=by
 have e1:=owner nd ha h1
 rw [owner nd hb h2] at e1
 exact (ac8 e1).symm
theorem Tw {h k:aA} (nd:(bT h).Nodup) (p:kO h k):(bT k).Nodup:=by
 have hd:∀ {Rs rs:List (List Row)},dM Rs rs->(Rs.flatten.map adB).Nodup->(rs.flatten.map adB).Nodup:=by
   intro Rs rs
   induction rs generalizing Rs with
   | nil=>intro _ _; exact .nil
   | cons r rs ih =>
     cases Rs with
     | nil=>intro h; exact h.elim
     | cons R Rs =>
       intro h nd
       rw [aeR,abt,aeS] at nd ⊢
       obtain ⟨n1,n2,n3⟩:=nd
       refine ⟨?_,ih h.2 n2,fun x hx y hy e=>?_⟩
       . rw [aa2,acK]
         have rs':=h.1.rise
         rw [acK] at rs'
         refine rs'.imp_of_mem fun {a b} ha hb lt e=>?_
         have:a=b:=by
           obtain ⟨i,hi,ei⟩:=afq (h.1.sub a ha)
           obtain ⟨j,hj,ej⟩:=afq (h.1.sub b hb)
           have a1:(R.map adB)[i]?=some a.1:=by rw [aaJ,aaq hi,ei]; rfl
           have a2:(R.map adB)[j]?=some a.1:=by rw [aaJ,aaq hj,ej,e]; rfl
           have ij:=(aie (by rw [aao]; exact hi) n1).mp (a1.trans a2.symm)
           subst ij
           rw [<- ei,ej]
         rw [this] at lt; omega
       . obtain ⟨a,ha,rfl⟩:=abh.mp hx
         obtain ⟨b,hb,rfl⟩:=abh.mp hy
         exact n3 _ (abv (h.1.sub a ha)) _ (abv (h.2.rows b hb)) e
 exact hd p.runs nd
theorem Xp {r:List Row} (h:(r.map afn).Pairwise (·<·)):r.Nodup:=by
 rw [acK] at h
 exact aa2.mpr (h.imp fun {a b} h e=>by rw [e] at h; omega)
theorem aaV {l:List Letter} (h:(l.map adB).Pairwise (fun a b=>sy a b=true)):l.Nodup:=by
 rw [acK] at h
 exact aa2.mpr (h.imp fun {a b} h e=>by rw [e,iB.Ge] at h; cases h)
include W
theorem Part.len (p:Part hs ls ks ns):ks.length<=6:=by
 have z:=ST.fX p.nd (U:=hs.map aA.name) fun n hn=>by
   obtain ⟨k,hk,rfl⟩:=abh.mp hn
   obtain ⟨h,hh,q⟩:=p.sub k hk
   rw [q.name]; exact abv hh
 rw [aao,aao] at z
 exact adS z W.gh.hi
theorem kO.good {h k:aA} (hh:h∈hs) (p:kO h k):cQ k:=by
 have g:=W.gh.all h hh
 refine ⟨by rw [p.name]; exact g.name,by rw [p.low,p.high]; exact g.wide,by rw [p.aQ]; exact g.aQ,adS p.runs.length g.few,fun r hr=>?_⟩
 obtain ⟨j,hj,ej⟩:=afq hr
 obtain ⟨R,eR,pr⟩:=p.runs.get (j:=j) (r:=r) (by rw [aaq hj,ej])
 have gR:=g.runs R (abg eR)
 exact ⟨pr.ne,adS (ST.fX (Xp pr.rise) pr.sub) gR.few,fun a ha=>gR.names a (pr.sub a ha),pr.rise⟩
theorem Part.yr (p:Part hs ls ks ns):cY ks:=by
 have nds:(namesOf ks).Nodup:=by
   unfold namesOf
   rw [aa2,apW]
   refine ⟨fun k hk=>?_,?_⟩
   . obtain ⟨h,hh,q⟩:=p.sub k hk
     exact aa2.mp (Tw (ug W.gh.rows hh) q)
   . have nd:=p.nd
     rw [aa2,acK] at nd
     refine nd.imp_of_mem fun {k1 k2} m1 m2 ne x hx y hy e=>?_
     obtain ⟨h1,hh1,q1⟩:=p.sub k1 m1
     obtain ⟨h2,hh2,q2⟩:=p.sub k2 m2
     subst e
     exact ne (by rw [q1.name,q2.name]; exact yq W.gh.rows hh1 hh2 (q1.names hx) (q2.names hy))
 refine ⟨p.ne,p.len W,fun k hk=>?_,p.nd,nds,adS (ST.fX nds (U:=namesOf hs) fun n hn=>?_) W.gh.few⟩
 . obtain ⟨h,hh,q⟩:=p.sub k hk
   exact q.good W hh
 . obtain ⟨k,hk,hn⟩:=adG.mp hn
   obtain ⟨h,hh,q⟩:=p.sub k hk
   exact adG.mpr ⟨h,hh,q.names hn⟩
theorem Part.Af (p:Part hs ls ks ns):dI ks ns:=by
 refine ⟨adS (ST.fX (aaV p.rise) p.FW) W.gl.few,fun l hl=>?_,p.rise⟩
 have g:=W.gl.all l (p.FW l hl)
 obtain ⟨r1,r2⟩:=p.FZ l hl
 obtain ⟨k1,m1,n1⟩:=adG.mp r1
 obtain ⟨k2,m2,n2⟩:=adG.mp r2
 obtain ⟨h1,hh1,q1⟩:=p.sub k1 m1
 obtain ⟨h2,hh2,q2⟩:=p.sub k2 m2
 obtain ⟨g1,gm1,g2,gm2,gn1,gn2,ne⟩:=g.GX
 refine ⟨g.sent,g.taken,g.least,g.most,k1,m1,k2,m2,n1,n2,fun e=>ne ?_⟩
 rw [yq W.gh.rows gm1 hh1 gn1 (q1.names n1),yq W.gh.rows gm2 hh2 gn2 (q2.names n2),<- q1.name,<- q2.name,e]
theorem Part.same (p1:Part hs ls jJ vA) (p2:Part hs ls jl uL) {h k:aA} (hh:h∈jJ) (hk:k∈jl) (e:k.name=h.name):∃ g∈hs,kO g h/\kO g k:=by
 obtain ⟨g,hg,q⟩:=p1.sub h hh
 obtain ⟨g',hg',q'⟩:=p2.sub k hk
 have:g'=g:=uf W.gh.names hg' hg (by rw [<- q'.name,<- q.name,e])
 subst this
 exact ⟨g',hg',q,q'⟩
end
theorem vB {ks:List aA} {h:aA}:(cU ks h.name=none/\twin ks h=h)∨(twin ks h∈ks/\(twin ks h).name=h.name/\cU ks h.name=some (twin ks h)):=by
 unfold twin
 cases e:cU ks h.name with
 | none=>exact .inl ⟨rfl,rfl⟩
 | some k =>
   unfold cU at e
   have z:=List.find?_some e
   exact .inr ⟨List.mem_of_find?_eq_some e,by simpa using z,rfl⟩
theorem oW {ks:List aA} (nd:(ks.map aA.name).Nodup) {h k:aA} (hk:k∈ks) (e:k.name=h.name):twin ks h=k:=by
 rcases vB (ks:=ks) (h:=h) with ⟨a,_⟩ | ⟨a,b,_⟩
 . unfold cU at a
   rw [agw] at a
   exact absurd (by simpa using e) (a k hk)
 . exact uf nd a hk (b.trans e.symm)
section
variable {hs ks jJ jl ms:List aA} {ls ns vA uL:List Letter} (W:Ae hs ls)
include W
theorem Part.Kl (p1:Part hs ls jJ vA) (p2:Part hs ls jl uL) {h:aA} (hh:h∈jJ):∃ g∈hs,kO g h/\kO g (twin jl h):=by
 rcases vB (ks:=jl) (h:=h) with ⟨_,e⟩ | ⟨m,n,_⟩
 . rw [e]
   obtain ⟨g,hg,q⟩:=p1.sub h hh
   exact ⟨g,hg,q,q⟩
 . exact p1.same W p2 hh m n
theorem Part.Oe (p1:Part hs ls jJ vA) (p2:Part hs ls jl uL):oV jJ jl:=by
 have g1:=p1.yr W
 have g2:=p2.yr W
 refine ⟨g1.hi,g2.hi,fun h hh=>(g1.all h hh).name,fun h hh=>(g2.all h hh).name,p2.nd,fun h hh=>?_,fun h hh=>?_⟩
 . obtain ⟨g,_,a,b⟩:=p1.Kl W p2 hh
   exact ⟨b.name.trans a.name.symm,b.low.trans a.low.symm,b.high.trans a.high.symm,b.aQ.trans a.aQ.symm⟩
 . obtain ⟨g,hg,a,b⟩:=p1.Kl W p2 hh
   have ga:=a.good W hg
   have gb:=b.good W hg
   refine ⟨ga.few,gb.few,fun r hr=>(ga.runs r hr).few,fun r hr=>(gb.runs r hr).few,fun j p q e1 e2=>?_⟩
   obtain ⟨R,eR,pr⟩:=a.runs.get e1
   obtain ⟨R',eR',pr'⟩:=b.runs.get e2
   rw [eR] at eR'; cases eR'
   have gR:=(W.gh.all g hg).runs R (abg eR)
   refine ⟨R,?_,fun x hx=>(abq.mp hx).elim (pr.sub x) (pr'.sub x),gR.rise⟩
   have z:R.length<=(namesOf hs).length:=by
     have nd:(R.map adB).Nodup:=by
       have z:=ug W.gh.rows hg
       unfold bT jf at z
       obtain ⟨A,B,e⟩:=anV (abg eR)
       rw [e,aio,aeR,abt,abt] at z
       exact (aeS.mp (aeS.mp z).2.1).1
     have y:=ST.fX nd (U:=namesOf hs) fun n hn=>by
       obtain ⟨a,ha,rfl⟩:=abh.mp hn
       exact adG.mpr ⟨g,hg,abv (aiu.mpr ⟨R,abg eR,ha⟩)⟩
     rw [aao] at y
     exact y
   have:=W.ten
   omega
theorem Part.Og (p1:Part hs ls jJ vA) (p2:Part hs ls jl uL):lW vA uL:=by
 have sub:∀ l∈vA++uL,l∈ls:=fun l hl=>(abq.mp hl).elim (p1.FW l) (p2.FW l)
 refine ⟨(p1.Af W).few,(p2.Af W).few,fun l hl=>⟨(W.gl.all l (sub l hl)).sent,(W.gl.all l (sub l hl)).taken⟩,fun a ha b hb e=>?_⟩
 obtain ⟨i,hi,ei⟩:=afq (sub a ha)
 obtain ⟨j,hj,ej⟩:=afq (sub b hb)
 have nd:(ls.map adB).Nodup:=aa2.mpr (W.gl.rise.imp fun {a b} h e=>by rw [e,iB.Ge] at h; cases h)
 have a1:(ls.map adB)[i]?=some a.1:=by rw [aaJ,aaq hi,ei]; rfl
 have a2:(ls.map adB)[j]?=some a.1:=by rw [aaJ,aaq hj,ej,e]; rfl
 have ij:=(aie (by rw [aao]; exact hi) nd).mp (a1.trans a2.symm)
 subst ij
 rw [<- ei,ej]
omit W in
theorem Tz {first:List aA} (pf:acN (fun h m=>gw h (twin jl h) m) jJ first) {m:aA} (hm:m∈first):∃ h∈jJ,gw h (twin jl h) m:=by
 induction pf with
 | nil=>cases hm
 | cons a _ ih =>
   rcases abz.mp hm with e | e
   . rw [e]; exact ⟨_,aaU,a⟩
   . obtain ⟨h,hh,z⟩:=ih e
     exact ⟨h,aaM _ hh,z⟩
omit W in
theorem TF {first:List aA} (pf:acN (fun h m=>gw h (twin jl h) m) jJ first) {h:aA} (hh:h∈jJ):∃ m∈first,gw h (twin jl h) m:=by
 induction pf with
 | nil=>cases hh
 | cons a _ ih =>
   rcases abz.mp hh with e | e
   . rw [e]; exact ⟨_,aaU,a⟩
   . obtain ⟨m,hm,z⟩:=ih e
     exact ⟨m,aaM _ hm,z⟩
omit W in
theorem Ga {first:List aA} (pf:acN (fun h m=>gw h (twin jl h) m) jJ first):first.map aA.name=jJ.map aA.name:=by
 induction pf with
 | nil=>rfl
 | cons a _ ih=>rw [abA,abA,a.name,ih]
omit W in
theorem nC {k:aA}:bO jJ k=true↔k.name ∉ jJ.map aA.name:=by unfold bO; simp
theorem Cy (p1:Part hs ls jJ vA) (p2:Part hs ls jl uL) (m:fY jJ jl ms) {n:Str} (hn:n∈namesOf jJ∨n∈namesOf jl):n∈namesOf ms:=by
 obtain ⟨first,rfl,pf⟩:=m.ex
 have up:∀ {h m:aA},gw h (twin jl h) m->(n∈bT h∨n∈bT (twin jl h))->n∈bT m:=fun {h m} z y=>by
   rcases y with y | y
   . obtain ⟨r,hr,rfl⟩:=abh.mp y
     exact abv ((qI z.runs r).mpr (.inl hr))
   . obtain ⟨r,hr,rfl⟩:=abh.mp y
     exact abv ((qI z.runs r).mpr (.inr hr))
 rcases hn with hn | hn
 . obtain ⟨h,hh,hn⟩:=adG.mp hn
   obtain ⟨m,hm,z⟩:=TF pf hh
   exact adG.mpr ⟨m,afM _ hm,up z (.inl hn)⟩
 . obtain ⟨k,hk,hn⟩:=adG.mp hn
   cases e:bO jJ k with
   | true=>exact adG.mpr ⟨k,acU _ (agm.mpr ⟨hk,e⟩),hn⟩
   | false =>
     have:k.name∈jJ.map aA.name:=agl fun z=>by rw [nC.mpr z] at e; cases e
     obtain ⟨h,hh,en⟩:=abh.mp this
     obtain ⟨m,hm,z⟩:=TF pf hh
     refine adG.mpr ⟨m,afM _ hm,up z (.inr ?_)⟩
     rw [oW p2.nd hk en.symm]; exact hn
theorem Part.join (p1:Part hs ls jJ vA) (p2:Part hs ls jl uL) (m:fY jJ jl ms) (n:dU vA uL ns):Part hs ls ms ns:=by
 have names:=fun {x:Str}=>Cy W p1 p2 m (n:=x)
 obtain ⟨first,rfl,pf⟩:=m.ex
 have lf:=pf.length
 refine ⟨by rw [abe]; have:=p1.ne; omega,fun k hk=>?_,?_,fun l hl=>((n.mem l).mp hl).elim (p1.FW l) (p2.FW l),fun l hl=>?_,n.rise⟩
 . rcases abq.mp hk with z | z
   . obtain ⟨h,hh,q⟩:=Tz pf z
     obtain ⟨g,hg,a,b⟩:=p1.Kl W p2 hh
     exact ⟨g,hg,q.name.trans a.name,q.low.trans a.low,q.high.trans a.high,q.aQ.trans a.aQ,a.runs.join b.runs q.runs⟩
   . exact p2.sub k (agm.mp z).1
 . rw [abt,aeS,Ga pf]
   refine ⟨p1.nd,(List.filter_sublist.map _).nodup p2.nd,fun x hx y hy e=>?_⟩
   obtain ⟨k,hk,rfl⟩:=abh.mp hy
   exact nC.mp (agm.mp hk).2 (by rw [<- e]; exact hx)
 . rcases (n.mem l).mp hl with z | z
   . exact ⟨names (.inl (p1.FZ l z).1),names (.inl (p1.FZ l z).2)⟩
   . exact ⟨names (.inr (p2.FZ l z).1),names (.inr (p2.FZ l z).2)⟩
omit W in
theorem uh {α β:Type} {F:α->β->Prop} (f:α->β):∀ {l:List α},(∀ x∈l,F x (f x))->acN F l (l.map f)
 | [],_=>.nil
 | x :: l,h=>.cons (h x aaU) (uh f fun y hy=>h y (aaM _ hy))
omit W in
theorem filter_none {l:List aA} (h:∀ k∈l,k.name∈jJ.map aA.name):l.filter (bO jJ)=[]:=List.filter_eq_nil_iff.mpr fun k hk z=>nC.mp z (h k hk)
omit W in
theorem rK {ns':List Letter} (h:(ns.map adB).Pairwise (fun a b=>sy a b=true)) (sub:∀ l∈ns',l∈ns):dU ns ns' ns:=⟨fun l=>⟨.inl,fun z=>z.elim id (sub l)⟩,h⟩
theorem Part.self (p:Part hs ls ks ns):fY ks ks ks/\dU ns ns ns:=by
 refine ⟨⟨ks,by rw [filter_none fun k hk=>abv hk,afK],?_⟩,rK p.rise fun _ z=>z⟩
 have z:=uh (F:=fun h m=>gw h (twin ks h) m) id (l:=ks) fun h hh=>by
   rw [oW p.nd hh rfl]
   obtain ⟨g,_,q⟩:=p.sub h hh
   exact ⟨rfl,rfl,rfl,rfl,q.runs.self⟩
 rw [aoS] at z
 exact z
theorem Part.again (p1:Part hs ls jJ vA) (p2:Part hs ls jl uL) (m:fY jJ jl ms) (n:dU vA uL ns):fY ms jl ms/\dU ns uL ns:=by
 have pj:=p1.join W p2 m n
 obtain ⟨first,rfl,pf⟩:=m.ex
 refine ⟨⟨first++jl.filter (bO jJ),?_,?_⟩,rK n.rise fun l hl=>(n.mem l).mpr (.inr hl)⟩
 . have e0:jl.filter (bO (first++jl.filter (bO jJ)))=[]:=filter_none fun k hk=>by
     rw [abt,abq,Ga pf]
     cases e:bO jJ k with
     | true=>exact .inr (abv (agm.mpr ⟨hk,e⟩))
     | false=>exact .inl (agl fun z=>by rw [nC.mpr z] at e; cases e)
   rw [e0,afK]
 . have z:=uh (F:=fun h m=>gw h (twin jl h) m) id (l:=first++jl.filter (bO jJ)) fun x hx=>by
     refine ⟨rfl,rfl,rfl,rfl,?_⟩
     show jc x.runs (twin jl x).runs x.runs
     rcases abq.mp hx with y | y
     . obtain ⟨h,hh,q⟩:=Tz pf y
       obtain ⟨g,hg,a,b⟩:=p1.Kl W p2 hh
       have en:x.name=h.name:=q.name
       rcases vB (ks:=jl) (h:=x) with ⟨_,e⟩ | ⟨tm,tn,_⟩
       . rw [e]
         exact (a.runs.join b.runs q.runs).self
       . have et:twin jl h=twin jl x:=oW p2.nd tm (tn.trans en)
         rw [<- et]
         exact rJ a.runs b.runs q.runs
     . have hk:=(agm.mp y).1
       rw [oW p2.nd hk rfl]
       obtain ⟨g,_,q⟩:=p2.sub x hk
       exact q.runs.self
   rw [aoS] at z
   exact z
theorem Ae.part:Part hs ls hs ls:=by
 refine ⟨W.gh.lo,fun k hk=>⟨k,hk,rfl,rfl,rfl,rfl,dM.full (W.gh.all k hk).runs⟩,W.gh.names,fun _ z=>z,fun l hl=>?_,W.gl.rise⟩
 obtain ⟨g1,gm1,g2,gm2,n1,n2,_⟩:=(W.gl.all l hl).GX
 exact ⟨adG.mpr ⟨g1,gm1,n1⟩,adG.mpr ⟨g2,gm2,n2⟩⟩
end
end mz
namespace mz
open PySem L2 gF
theorem hu8 {A:aeN} {k:Nat} (hr:jL k A):A.units+8<cLine:=aqz (aqm (by decide:8<=64) _) hr.units
def Xq (r:Row):List Key:=[.inr r.1,.inl (some r.2)]
def Yw:List Key->Str × Int
 | [.inr x,.inl (some i)]=>(x,i)
 | _=>("",0)
theorem uM (r:Row):Yw (Xq r)=r:=rfl
theorem Xr {r r':Row} (h:Xq r=Xq r'):r=r':=by
 have z:=congrArg Yw h
 rwa [uM,uM] at z
def Yx:Option Int->Key
 | none=>.inl none
 | some i=>.inl (some i)
def Iu (l:Letter):List Key:=[.inr l.1.1,.inr l.1.2,.inl (some l.2.1),Yx l.2.2]
theorem TQ (l:Letter):(Iu l).map kV=[V.str l.1.1,V.str l.1.2,V.int l.2.1,mO l.2.2]:=by
 unfold Iu
 cases l.2.2 <;> rfl
def ltH:List Key->Str × Str
 | .inr x :: .inr y :: _=>(x,y)
 | _=>("","")
theorem TV (l:Letter):ltH (Iu l)=l.1:=rfl
theorem Km {l l':Letter} (h:Iu l=Iu l'):l=l':=by
 obtain ⟨⟨a,b⟩,c,d⟩:=l
 obtain ⟨⟨a',b'⟩,c',d'⟩:=l'
 unfold Iu at h
 simp only [anI,Sum.inr.injEq,Sum.inl.injEq,Option.some.injEq,and_true] at h
 obtain ⟨rfl,rfl,rfl,h⟩:=h
 cases d <;> cases d' <;> simp_all [Yx]
theorem rM:∀ (a b z:List (List Row)),(∀ r∈b,(r.map afn).Pairwise (·<·))->z.length=max a.length b.length->(∀ (j:Nat) (q r:List Row),b[j]?=some q->z[j]?=some r->xQ (a.getD j []) q r)->(∀ (j:Nat),b.length<=j->z[j]?=a[j]?)->jc a b z
 | [],b,z,hb,l,h1,_=>by
   show z=b
   refine ait (by simpa using l) fun i h2 h3=>?_
   have m:=h1 i b[i] z[i] (aaq h3) (aaq h2)
   exact Kf m.rise (hb _ (afR h3)) fun x=>by rw [m.mem]; simp
 | a :: as,[],z,_,l,_,h2=>by
   show z=a :: as
   exact List.ext_getElem? fun i=>h2 i (abV _)
 | a :: as,b :: bs,[],_,l,_,_=>by simp at l
 | a :: as,b :: bs,r :: z,hb,l,h1,h2=>by
   refine ⟨h1 0 b r rfl rfl,rM as bs z (fun x hx=>hb x (aaM _ hx)) (by simp at l; omega) (fun j q r' hq hr=>?_) (fun j hj=>?_)⟩
   . have:=h1 (j+1) q r' hq hr
     simpa using this
   . have:=h2 (j+1) (by simpa using hj)
     simpa using this
theorem yt:∀ {a:List (List Row)},(∀ r∈a,(r.map afn).Pairwise (·<·))->jc a a a
 | [],_=>rfl
 | r :: a,h=>⟨⟨fun x=>⟨.inl,fun z=>z.elim id id⟩,h r aaU⟩,yt fun x hx=>h x (aaM _ hx)⟩
theorem Xu {H:Hp} {kvs:List (Key × V)} {ks:List aA} (p:acN (gB H) kvs ks) (n:Str):acN (gB H) (fZ kvs (.inr n)) (ks.filter fun k=>!decide (k.name=n)):=by
 induction p with
 | nil=>exact .nil
 | @cons kv k kvs ks h _ ih =>
   by_cases e:k.name=n
   . rw [K6 (by rw [h.1,e]),List.filter_cons_of_neg (by simp [e])]
     exact ih
   . rw [K7 (fun z=>e (afA (h.1.symm.trans z))),List.filter_cons_of_pos (by simp [e])]
     exact .cons h ih
theorem Xv {t u:TS} {D:Ends} {σ:St} {H:Hp} (Ok:St->Hp->Prop) (h:∀ U:St->Hp->Prop,(∀ σ H,Ok σ H->U σ H)->t { D with nx:=U } σ H) (h2:∀ σ H,Ok σ H->u D σ H):Pg t u D σ H:=h (u D) h2
theorem Ag {hs:List aA} {i:Nat} {h:aA} (e:hs[i]?=some h) (k:aA):bO (hs.take (i+1)) k=(bO (hs.take i) k && !decide (k.name=h.name)):=by
 unfold bO
 rw [abj,e,aeU]
 simp [not_or]
theorem TX {H:Hp} {us:List V} {rs:List Row} (p:acN (cM H) us rs):∃ ms:List (List Key × abm),us=(ms.map fun x=>V.ref x.2)/\ms.map (·.1)=rs.map Xq/\∀ x∈ms,H x.2=some (.tup (x.1.map kV)):=by
 induction p with
 | nil=>exact ⟨[],rfl,rfl,fun x hx=>by cases hx⟩
 | cons h _ ih =>
   obtain ⟨a,rfl,e⟩:=h
   obtain ⟨ms,e1,e2,e3⟩:=ih
   refine ⟨(Xq _,a) :: ms,by rw [abA,e1],by rw [abA,abA,e2],fun x hx=>?_⟩
   rcases abz.mp hx with z | z
   . rw [z]; exact e
   . exact e3 x z
theorem T8 {H:Hp} {us:List V} {ls:List Letter} (p:acN (cg H) us ls):∃ ms:List (List Key × abm),us=(ms.map fun x=>V.ref x.2)/\ms.map (·.1)=ls.map Iu/\∀ x∈ms,H x.2=some (.tup (x.1.map kV)):=by
 induction p with
 | nil=>exact ⟨[],rfl,rfl,fun x hx=>by cases hx⟩
 | cons h _ ih =>
   obtain ⟨a,rfl,e⟩:=h
   obtain ⟨ms,e1,e2,e3⟩:=ih
   refine ⟨(Iu _,a) :: ms,by rw [abA,e1],by rw [abA,abA,e2],fun x hx=>?_⟩
   rcases abz.mp hx with z | z
   . rw [z]; show H a=some (.tup ((Iu _).map kV)); rw [TQ]; exact e
   . exact e3 x z
theorem yu {α β:Type} {F:α->β->Prop}:∀ {l:List α} {m:List β} {a:α} {b:β},acN F l m->F a b->∀ j,acN F (l.set j a) (m.set j b)
 | _,_,_,_,.nil,_,_=>.nil
 | _,_,_,_,.cons _ r,h,0=>.cons h r
 | _,_,_,_,.cons x r,h,j+1=>.cons x (yu r h j)
theorem aaW {n j:Nat} (h:j<n):Pz n (j:Int)=some j:=by
 unfold Pz
 simp [h]
structure T9 (hs ks:List aA):Prop extends oV hs ks where
 d1:(hs.map aA.name).Nodup
 ra:∀ h∈hs,∀ r∈h.runs,(r.map afn).Pairwise (·<·)/\r.length<=17
 rb:∀ h∈ks,∀ r∈h.runs,(r.map afn).Pairwise (·<·)/\r.length<=17
def Uh:Sp:=fun vs H Q _=>∃ (x y:V) (hs ks:List aA) (ls ls':List Letter),vs=[x,y]/\bK H x hs ls/\bK H y ks ls'/\T9 hs ks/\lW ls ls'/\(∃ U:List Letter,U.length<=17/\∀ l∈ls++ls',l∈U) /\
 ∀ (z:V) (ms:List aA) (ns:List Letter) (H':Hp),bK H' z ms ns->fY hs ks ms->dU ls ls' ns->Same H H'->Q z H'
section
variable {P:acs} {w:adH} {K:aas} {mg:Str->Option aau} {base:ae9} {t8 t6 tR tL:Tok}
theorem nG:bB ["_law_one","_law_other","_law_found","_law_theirs","_law_house_here","_law_runs","_law_more","_law_k"] ["_law_one","_law_other"] (au Ed):=⟨rfl,rfl,rfl,by decide +kernel,rfl,by decide +kernel,by decide +kernel⟩
theorem aaX {f yw:abm} {fd Ah:aeF} (F:lX K "_law_due" "_law_due" Ed f fd) (T:Txt mg t8 t6 tR tL)
   (Ui:aV P w K mg base cG 1 yw Ah ["_law_run"] xX) (Uj:mg "_law_by_reading" = some (.ref yw)) (Uk:aaw K (.ref yw)=true) (Ul:Binds K Ah ["_law_run"] []):aV P w K mg base cG 2 f fd ["_law_one","_law_other"] Uh:=by
 refine F.ok nG (fun vs H Q E h=>?_) (fun cdv A outer s H vs Q E hr h=>?_)
 . obtain ⟨x,y,hs,ks,ls,ls',rfl,_⟩:=h
   rfl
 . obtain ⟨x,y,hs,ks,ls,ls',rfl,⟨a,x1,x2,rfl,ha,⟨ch,vh,rfl,hch,ph⟩,⟨cl,vl,rfl,hcl,pl⟩⟩,⟨b,y1,y2,rfl,hb,⟨dh,vk,rfl,Wz,pk⟩,⟨dl,vm,rfl,hdl,pm⟩⟩,ft,fl,⟨U,lU,sU⟩,q⟩:=h
   have mq:sizeLine=16777216:=acO
   refine ⟨_,(aB (aY (i:=2) nG.nd rfl (acz rfl) (cW ak)) (aB (aY (i:=3) nG.nd rfl (aqB rfl) (bD (Hq rfl) rfl T.dict PyProof.Rows.boot_dict (aj (cA (eY:=au Ed) (own:=["_law_house_here"]) (cap:=[]) (ix:=[]) rfl rfl ⟨rfl,by decide +kernel,by decide +kernel,by decide +kernel,rfl,by decide +kernel⟩ (cI (bG dO (pV 1) aC (fun _ _=>rfl))) (fun b=>(aH (i:=0) (show (["_law_house_here"]:List Str).Nodup by decide +kernel) rfl (acz rfl))) (fun b=>bM) (fun b=>(cN (aj (bG dO (pV 0) aC (fun _ _=>rfl)) (aj (pV 0) ak))))) ak))) (aB (gC aeZ rfl (cI (bG dO (pV 0) aC (fun _ _=>rfl))) (aH (i:=4) nG.nd rfl (acz rfl)) (aB (aY (i:=5) nG.nd rfl (acz rfl) (bD kY rfl T.list amN (aj (bG dO (pV 4) aC (fun _ _=>rfl)) ak))) (aB (cP (Av (PL (iu hr) (bG dO (pV 4) aC (fun _ _=>rfl)) (pV 3))) (aB (aY (i:=6) nG.nd rfl (acz rfl) (bG dO (Qa (pV 3) (bG dO (pV 4) aC (fun _ _=>rfl)) ⟨rfl,rfl,rfl,rfl⟩) aC (fun _ _=>rfl))) (aB (aY (i:=5) nG.nd rfl (acz rfl) (bJ PJ (pV 5) (bJ Zu (cW (aj (cN ak) ak)) (bJ Lf (aO bx rfl T.len ad4 (aj (pV 6) ak)) (aO bx rfl T.len ad4 (aj (pV 5) ak)))))) (aG (gC aeZ rfl (gJ rfl T.range (aj (aO bx rfl T.len ad4 (aj (pV 6) ak)) ak)) (aH (i:=7) nG.nd rfl (acz rfl)) (aG (vH (aJ Ui hr rfl Uj Uk Ul .nil aW (aj (aO (lQ (P0:=P) (w0:=w) (K1:=kdS) (K2:=kdI) (hd:=Yw) rfl rfl rfl) rfl T.sorted afm (aj (bD (zW (P0:=P) (w0:=w) rfl rfl rfl (hu8 hr)) rfl T.set anb (aj (bJ qT (bG Lg (pV 5) (pV 7) (fun _ _=>rfl)) (bG dO (pV 6) (pV 7) (fun _ _=>rfl))) ak)) ak)) ak)) (Pj (pV 5) (pV 7) acp))))))) bH) (aG (iK (pD ae0 afk afl fV (pV 2) (aj (bJ qT (cT Bm (pV 4) fU (Bf aC)) (cN (aj (bD bf rfl T.tuple abU (aj (pV 5) ak)) ak))) ak))))))) (aB (iK (pD ae0 aoF aoG yQ (pV 2) (aj (cA (eY:=au Ed) (own:=["_law_house_here"]) (cap:=["_law_theirs"]) (ix:=[3]) rfl rfl ⟨rfl,by decide +kernel,by decide +kernel,by decide +kernel,rfl,by decide +kernel⟩ (cI (bG dO (pV 1) aC (fun _ _=>rfl))) (fun b=>(aH (i:=0) (show (["_law_house_here","_law_theirs"]:List Str).Nodup by decide +kernel) rfl (acz rfl))) (fun b=>(Bb (Av (PL (iu hr) (bG dO (pV 0) aC (fun _ _=>rfl)) (pV 1))))) (fun b=>(pV 0))) ak))) (aG (aZ (cN (aj (bD bf rfl T.tuple abU (aj (pV 2) ak)) (aj (bD bf rfl T.tuple abU (aj (aO (lQ (P0:=P) (w0:=w) (K1:=kdS) (K2:=kdS) (hd:=ltH) rfl rfl rfl) rfl T.sorted afm (aj (bD (zW (P0:=P) (w0:=w) rfl rfl rfl (hu8 hr)) rfl T.set anb (aj (bJ qT (bG dO (pV 0) aC (fun _ _=>rfl)) (bG dO (pV 1) aC (fun _ _=>rfl))) ak)) ak)) ak)) ak))))))))),?_⟩
   have l1:=ft.l1
   have l2:=ft.l2
   have lph:=ph.length
   have lpk:=pk.length
   refine ⟨abV _,fun F fF=>?_⟩
   have s1:Same H (upd H F (.lst [])):=(Same.refl H).upd fF
   generalize Vd:upd H F (.lst [])=H1 at s1
   have eF1:H1 F=some (.lst []):=by rw [<- Vd]; exact ao
   refine bV (bA.of (s1 _ _ hb)) (i:=0) (v:=.ref dh) (by rfl) ?_
   refine ⟨dh,rfl,⟨_,bA.of (s1 _ _ Wz)⟩,fun D hD=>jt (xs:=vk) (fun i H'=>∃ ps:List (abm × Key × V),cL H1 H' D (ps.map fun p=>.ref p.1)/\(∀ p∈ps,H' p.1=some (.tup [kV p.2.1,p.2.2]))/\acN (gB H') (ps.map (·.2)) (ks.take i)) ⟨[],cL.start hD,(fun p hp=>by cases hp),.nil⟩ (fun i H' _ hz=>by obtain ⟨_,G,_⟩:=hz; exact bA.of (G.same _ _ (s1 _ _ Wz))) (fun H2 hz=>?_) (fun i x H' hx hi hz b=>?_)⟩
   . obtain ⟨ps,G,hp,pT⟩:=hz
     rw [lpk,adi] at pT
     refine ⟨D,ps,rfl,G.at',hp,fun T fT=>?_⟩
     have em:iz [] (ps.map (·.2))=ps.map (·.2):=by
       have z:=qd (ps.map (·.2)) [] (by
         rw [Kh pT,aa2,acK]
         exact (aa2.mp ft.d2).imp fun h e=>h (afA e)) (fun k _ z=>by cases z)
       simpa using z
     rw [em]
     generalize ps.map (·.2)=kvs at pT
     have s2:Same H2 (upd H2 T (.dK kvs)):=(Same.refl H2).upd fT
     generalize eH3:upd H2 T (.dK kvs)=H3 at s2
     have eT3:H3 T=some (.dK kvs):=by rw [<- eH3]; exact ao
     have nT:H T=none:=by
       cases e:H T with
       | none=>rfl
       | some o=>have:=G.same _ _ (s1 _ _ e); rw [fT] at this; cases this
     have S3:Same H H3:=(s1.trans G.same).trans s2
     have eF3:H3 F=some (.lst []):=s2 _ _ (G.same _ _ eF1)
     have pT3:=aq (fun _ _ z=>gB.ts z s2.tups) pT
     clear eH3 Vd em hp
     refine bV (bA.of (S3 _ _ ha)) (i:=0) (v:=.ref ch) (by rfl) ?_
     refine ⟨ch,rfl,⟨_,bA.of (S3 _ _ hch)⟩,jB (xs:=vh) (fun i σ H'=>∃ (vf:List V) (ms:List aA) (kvs:List (Key × V)) (o4 o5 o6 o7:Option V),σ=[some (.ref a),some (.ref b),some (.ref F),some (.ref T),o4,o5,o6,o7]/\H' F=some (.lst vf)/\acN (bC H') vf ms/\acN (fun h m=>gw h (twin ks h) m) (hs.take i) ms/\H' T=some (.dK kvs)/\acN (gB H') kvs (ks.filter (bO (hs.take i)))/\Same H H') ⟨[],[],kvs,none,none,none,none,rfl,eF3,.nil,.nil,eT3,(by rw [anJ.mpr (fun k _=>by simp [bO])]; exact pT3),S3⟩ (fun i σ H' _ hz=>by obtain ⟨_,_,_,_,_,_,_,_,_,_,_,_,_,s⟩:=hz; exact bA.of (s _ _ hch)) (fun i v σ H4 hv hz=>?_) (fun σ H4 hz=>?_)⟩
     . obtain ⟨vf,ms,rN,o4,o5,o6,o7,rfl,eF,pf,Yy,eT,pT4,S4⟩:=hz
       obtain ⟨h,hhi,hat⟩:=aL ph hv
       have hm:=abg hhi
       have hi:i<hs.length:=(acZ.mp hhi).1
       obtain ⟨c1,b1,rfl,e1,c5,vr,rfl,e5,pr⟩:=hat.ts S4.tups
       refine cV fun U1 Wy=>?_
       refine bV (bA.of e1) (i:=4) (v:=.ref c5) (by rfl) ?_
       refine ⟨c5,vr,rfl,.inr (bA.of e5),fun L fL=>?_⟩
       show U1 _ _
       subst Wy
       have s5:Same H4 (upd H4 L (.lst vr)):=(Same.refl H4).upd fL
       generalize Yr:upd H4 L (.lst vr)=H5 at s5
       have eL:H5 L=some (.lst vr):=by rw [<- Yr]; exact ao
       clear Yr
       have lr:=pr.length
       have lm4:=Yy.length
       have lf:=pf.length
       rw [abo] at lm4
       have nin:h.name ∉ (hs.take i).map aA.name:=fun z=>by
         rw [aqI] at z
         obtain ⟨j,hj,ej⟩:=agB.mp z
         rw [abo] at hj
         rw [ai4] at ej
         have g1:(hs.map aA.name)[j]?=some h.name:=by rw [aaq (by omega),ej]
         have g2:(hs.map aA.name)[i]?=some h.name:=by rw [aaJ,hhi]; rfl
         have:=(aie (by rw [aao] at hj ⊢; omega) ft.d1).mp (g1.trans g2.symm)
         omega
       have aiv:cU (ks.filter (bO (hs.take i))) h.name=cU ks h.name:=by
         unfold cU
         rw [List.find?_filter]
         congr 1
         funext k
         by_cases e:k.name=h.name
         . have:bO (hs.take i) k=true:=nC.mpr (by rw [e]; exact nin)
           simp [this,e]
         . simp [e]
       have nF:F≠L:=aD eF fL
       have nT':T≠L:=aD eT fL
       refine Xv (fun σ' H'=>∃ (L:abm) (zs:List V) (rs:List (List Row)) (kvs':List (Key × V)) (o6 o7:Option V),σ'=[some (.ref a),some (.ref b),some (.ref F),some (.ref T),some (.ref c1),some (.ref L),o6,o7]/\H' L=some (.lst zs)/\acN (fu H') zs rs/\jc h.runs (twin ks h).runs rs/\zs.length<=60/\H' F=some (.lst vf)/\H' T=some (.dK kvs')/\acN (gB H') kvs' (ks.filter (bO (hs.take (i+1))))/\H' c1=some (.tup [.str h.name,.int h.low,.int h.high,.int h.aQ,.ref c5])/\acN (bC H') vf ms/\Same H H') (fun U hU=>?_) (fun σ' H' ok=>?_)
       . have e1':=s5 _ _ e1
         have eT5:=s5 _ _ eT
         have eF5:=s5 _ _ eF
         have pT5:=aq (fun _ _ z=>gB.ts z s5.tups) pT4
         refine bV (bA.of e1') (i:=0) (v:=.str h.name) (by rfl) ?_
         refine ⟨T,_,rfl,iW.k (k:=adz h.name) eT5,_,rfl,?_⟩
         obtain ⟨t1,t2⟩:=Ik pT5 h.name
         rw [aiv] at t1 t2
         have S5:=S4.trans s5
         have rh:=ft.ra h hm
         cases Yz:cU ks h.name with
         | none =>
           rw [t1 Yz]
           have et:twin ks h=h:=by unfold twin; rw [Yz]; rfl
           refine hU _ _ ⟨L,vr,h.runs,rN,_,_,rfl,eL,aq (fun _ _ z=>z.ts s5.tups) pr,by rw [et]; exact yt fun r hr=>(rh r hr).1,by have:=(ft.runs h hm).la; omega,eF5,eT5,?_,e1',aq (fun _ _ z=>z.ts s5.tups) pf,S5⟩
           have ef:ks.filter (bO (hs.take (i+1)))=ks.filter (bO (hs.take i)):=aq2 fun k hk=>by
             rw [Ag hhi]
             have:k.name≠h.name:=fun e=>by
               unfold cU at Yz
               rw [agw] at Yz
               exact absurd (by simpa using e) (Yz k hk)
             simp [this]
           rw [ef]; exact pT5
         | some k =>
           obtain ⟨v,ev,hvk⟩:=t2 k Yz
           have et:twin ks h=k:=by unfold twin; rw [Yz]; rfl
           have km:k∈ks:=by
             rcases vB (ks:=ks) (h:=h) with ⟨z,_⟩ | ⟨z,_⟩
             . rw [Yz] at z; cases z
             . rw [et] at z; exact z
           have fr:=ft.runs h hm
           rw [et] at fr
           have rk:=ft.rb k km
           rw [ev]
           refine cV fun U2 hU2=>?_
           refine ⟨T,rfl,.inl ⟨_,.inl eT5⟩,?_⟩
           refine bV (bA.of e1') (i:=0) (v:=.str h.name) (by rfl) ?_
           refine ⟨rN,adz h.name,v,eT5,rfl,ev,?_⟩
           have tt6:bZ H5 (upd H5 T (.dK (fZ rN (adz h.name)))):=fun a ys e=>by rw [aF (fun z=>by rw [z,eT5] at e; cases e)]; exact e
           have S6:Same H (upd H5 T (.dK (fZ rN (adz h.name)))):=fun c o e=>by rw [aF (aD e nT)]; exact S5 _ _ e
           have pT6:acN (gB (upd H5 T (.dK (fZ rN (adz h.name))))) (fZ rN (adz h.name)) (ks.filter (bO (hs.take (i+1)))):=by
             have z:=aq (fun _ _ z=>gB.ts z tt6) (Xu pT5 h.name)
             rw [List.filter_filter] at z
             have ef:ks.filter (bO (hs.take (i+1)))=ks.filter (fun k=>(!decide (k.name=h.name)) && bO (hs.take i) k):=aq2 fun k hk=>by rw [Ag hhi,Bool.and_comm]
             rw [ef]; exact z
           have nLT:L≠T:=afv nT'
           have nFT:F≠T:=fun z=>by rw [z,eT] at eF; cases eF
           have eT6:upd H5 T (.dK (fZ rN (adz h.name))) T=some (.dK (fZ rN (adz h.name))):=ao
           have eL6:upd H5 T (.dK (fZ rN (adz h.name))) L=some (.lst vr):=(aF nLT).trans eL
           have eF6:upd H5 T (.dK (fZ rN (adz h.name))) F=some (.lst vf):=(aF nFT).trans eF5
           have e16:=tt6 _ _ e1'
           have pr6:=aq (fun _ _ z=>fu.ts (s5.tups.trans tt6) z) pr
           have YB:=aq (fun _ _ z=>bC.ts (s5.tups.trans tt6) z) pf
           have adD:=hvk.ts tt6
           generalize upd H5 T (.dK (fZ rN (adz h.name)))=H6 at S6 pT6 eT6 eL6 eF6 e16 pr6 YB adD
           generalize fZ rN (adz h.name)=aiz at pT6 eT6
           clear tt6
           obtain ⟨ck,bk,rfl,ek,c6,vb,rfl,e6,pb⟩:=adD
           refine bV (bA.of ek) (i:=4) (v:=.ref c6) (by rfl) ?_
           show U2 _ _
           subst hU2
           refine cV fun U3 hU3=>?_
           refine ⟨abV _,fun t0 ft0=>?_⟩
           have s7:Same H6 (upd H6 t0 (.tup [])):=(Same.refl H6).upd ft0
           generalize Ko:upd H6 t0 (.tup [])=H7 at s7
           have et0:H7 t0=some (.tup []):=by rw [<- Ko]; exact ao
           clear Ko
           refine ⟨by show 1<=sizeLine; omega,fun l1' aiA=>?_⟩
           have s8:Same H7 (upd H7 l1' (.lst [.ref t0])):=(Same.refl H7).upd aiA
           generalize YC:upd H7 l1' (.lst [.ref t0])=H8 at s8
           have el1:H8 l1'=some (.lst [.ref t0]):=by rw [<- YC]; exact ao
           clear YC
           have Ve:=s7.trans s8
           refine ⟨c6,vb,rfl,.inr (bA.of (Ve _ _ e6)),?_⟩
           refine ⟨L,vr,rfl,.inl (bY.of (Ve _ _ eL6)),?_⟩
           have lb6:=pb.length
           have fla:=fr.la
           have flb:=fr.lb
           refine ⟨l1',(vb.length:Int)-(vr.length:Int),[.ref t0],rfl,rfl,el1,by omega,by omega,(by show 1 * _<=sizeLine; omega),fun p9 fp9=>?_⟩
           generalize en:((vb.length:Int)-(vr.length:Int)).toNat=n
           have YD:(acS n [V.ref t0]).flatten=acS n (V.ref t0):=by
             clear en
             induction n with
             | zero=>rfl
             | succ n ih=>rw [ae1,aeR,ih,ae1]; rfl
           rw [YD]
           have s9:Same H8 (upd H8 p9 (.lst (acS n (V.ref t0)))):=(Same.refl H8).upd fp9
           generalize Vb:upd H8 p9 (.lst (acS n (V.ref t0)))=H9 at s9
           have ep9:H9 p9=some (.lst (acS n (V.ref t0))):=by rw [<- Vb]; exact ao
           clear Vb
           have Vf:=Ve.trans s9
           refine ⟨L,p9,vr,_,rfl,rfl,Vf _ _ eL6,ep9,by rw [ahq]; omega,fun L2 fL2=>?_⟩
           have Dq:Same H9 (upd H9 L2 (.lst (vr++acS n (V.ref t0)))):=(Same.refl H9).upd fL2
           generalize Um:upd H9 L2 (.lst (vr++acS n (V.ref t0)))=uq at Dq
           have eL2:uq L2=some (.lst (vr++acS n (V.ref t0))):=by rw [<- Um]; exact ao
           clear Um
           show U3 _ _
           subst hU3
           have yK:=Vf.trans Dq
           have S10:=S6.trans yK
           have aiB:uq t0=some (.tup []):=((s8.trans s9).trans Dq) _ _ et0
           have nL2:H L2=none:=by
             cases e:H L2 with
             | none=>rfl
             | some o=>have:=(S6.trans Vf) _ _ e; rw [fL2] at this; cases this
           have pad:acN (fu uq) (vr++acS n (V.ref t0)) (h.runs++acS n []):=by
             refine aM (aq (fun _ _ z=>fu.ts yK.tups z) pr6) ?_
             clear en YD ep9 eL2
             induction n with
             | zero=>exact .nil
             | succ n ih=>rw [ae1,ae1]; exact .cons ⟨t0,[],rfl,aiB,.nil⟩ ih
           have aiC:=aq (fun _ _ z=>fu.ts yK.tups z) pb
           have aiD:(h.runs++acS n []).length=max h.runs.length k.runs.length:=by rw [abe,ahq]; omega
           refine ⟨c6,vb,rfl,.inr (bA.of (yK _ _ e6)),?_⟩
           refine ⟨(vb.length:Int),rfl,by omega,by omega,jR (lo:=0) (n:=((vb.length:Int)).toNat) (fun j σ H'=>∃ (zs:List V) (rs:List (List Row)) (o7:Option V),σ=[some (.ref a),some (.ref b),some (.ref F),some (.ref T),some (.ref c1),some (.ref L2),some (.ref c6),o7]/\H' L2=some (.lst zs)/\acN (fu H') zs rs/\rs.length=max h.runs.length k.runs.length/\(∀ (j':Nat) (q r:List Row),j'<j->k.runs[j']?=some q->rs[j']?=some r->xQ (h.runs.getD j' []) q r)/\(∀ (j':Nat),j<=j'->rs[j']?=(h.runs++acS n [])[j']?)/\aP L2 uq H') ⟨_,_,o7,rfl,eL2,pad,aiD,(fun j' q r hj=>absurd hj (apR _)),(fun j' _=>rfl),fun b o _ e=>e⟩ (fun j σ H' hj hz=>?_) (fun σ H' hz=>?_)⟩
           . obtain ⟨zs,rs,o7',rfl,eZ,pz,lrs,done,todo,sB⟩:=hz
             have hj':j<vb.length:=by omega
             have tB:bZ uq H':=fun b xs e=>sB b _ (fun z=>by rw [z,eL2] at e; cases e) e
             obtain ⟨q0,hq0,rq⟩:=aL aiC (aaq hj')
             have lzs:=pz.length
             have hjz:j<zs.length:=by omega
             obtain ⟨p0,hp0,rp⟩:=aL pz (aaq hjz)
             have ep0:p0=h.runs.getD j []:=by
               rw [todo j (aav _)] at hp0
               rcases afu j h.runs.length with z | z
               . rw [afe z] at hp0
                 simp [afp,hp0]
               . rw [aeW z] at hp0
                 have:p0=[]:=by
                   have:=abg hp0
                   exact (List.mem_replicate.mp this).2
                 rw [this]
                 simp [afp,ae8 z]
             have rq':=rq.ts tB
             refine uQ (xs:=zs) eZ (by rw [apO]; exact iR (aaq hjz)) ?_
             refine bV (bA.of (tB _ _ (yK _ _ e6))) (by rw [apO]; exact iR (aaq hj')) ?_
             obtain ⟨a1,u1,ea1,ha1,pa1⟩:=rp
             obtain ⟨a2,u2,ea2,ha2,pa2⟩:=rq'
             have lu1:=pa1.length
             have lu2:=pa2.length
             have q17:=(rk q0 (abg hq0)).2
             have p25:p0.length<=25:=by
               rw [ep0]
               rcases afu j h.runs.length with z | z
               . have e0:h.runs.getD j []=h.runs[j]:=by simp [afp,aaq z]
                 rw [e0]; exact fr.fa _ (afR z)
               . simp [afp,ae8 z]
             refine ⟨⟨a1,a2,u1,u2,ea1,ea2,ha1,ha2,by omega,fun p11 O2 adE s11=>?_⟩⟩
             obtain ⟨us,eus,Uo,aaY⟩:=TX (aq (fun _ _ z=>z.ts s11.tups) (aM pa1 pa2))
             rw [eus] at adE
             obtain ⟨Uu,oU⟩:∃ Uu,xR Uu (p0++q0):=by
               rcases afu j h.runs.length with z | z
               . refine fr.one j p0 q0 ?_ hq0
                 rw [ep0]
                 simp [afp,aaq z]
               . have:p0=[]:=by rw [ep0]; simp [afp,ae8 z]
                 rw [this,List.nil_append]
                 exact ⟨q0,q17,fun _ z=>z,(rk q0 (abg hq0)).1⟩
             have key:∀ x∈us,∃ r∈p0++q0,x.1=Xq r:=fun x hx=>by
               have z:x.1∈us.map (·.1):=abv hx
               rw [Uo] at z
               obtain ⟨l,hl,e⟩:=abh.mp z
               exact ⟨l,hl,e.symm⟩
             have few:ST.nj us:=ST.nj.of (U:=Uu.map Xq) (by rw [aao]; exact oU.few) fun x hx=>by
               obtain ⟨l,hl,e⟩:=key x hx
               rw [e]; exact abv (oU.sub l hl)
             refine ⟨p11,us,rfl,adE,few,aaY,fun S fS=>?_⟩
             have s12:Same O2 (upd O2 S (iw P w S us)):=(Same.refl O2).upd fS
             generalize adF:upd O2 S (iw P w S us)=H12 at s12
             have eS:H12 S=some (iw P w S us):=by rw [<- adF]; exact ao
             clear adF
             refine ⟨S,us,rfl,eS,few,(fun x hx=>?_),(fun x hx y hy e=>?_),fun l ts Oz Nu kts pwt=>?_⟩
             . obtain ⟨r,_,e⟩:=key x hx
               refine ⟨[],?_,fun v hv=>by cases hv⟩
               have z:=s12 _ _ (aaY x hx)
               rw [e] at z
               rw [e,uM]; exact z
             . obtain ⟨r,_,e1⟩:=key x hx
               obtain ⟨r',_,e2⟩:=key y hy
               rw [e1,e2,uM,uM] at e
               rw [e1,e2,e]
             . have s13:Same H12 (upd H12 l (.lst (ts.map fun x=>V.ref x.2))):=(Same.refl H12).upd Oz
               generalize adI:upd H12 l (.lst (ts.map fun x=>V.ref x.2))=H13 at s13
               have el:H13 l=some (.lst (ts.map fun x=>V.ref x.2)):=by rw [<- adI]; exact ao
               clear adI
               have YF:=s12.trans s13
               have aaZ:acN (cM H13) (ts.map fun x=>V.ref x.2) (ts.map fun x=>Yw x.1)/\∀ r,r∈(ts.map fun x=>Yw x.1)↔Xq r∈ts.map (·.1):=by
                 have all:∀ x∈ts,∃ r∈p0++q0,x.1=Xq r:=fun x hx=>key x (Nu x hx)
                 have tat:∀ x∈ts,H13 x.2=some (.tup (x.1.map kV)):=fun x hx=>YF _ _ (aaY x (Nu x hx))
                 refine ⟨?_,fun r=>⟨fun z=>?_,fun z=>?_⟩⟩
                 . clear kts pwt Nu el
                   induction ts with
                   | nil=>exact .nil
                   | cons x ts ih =>
                     obtain ⟨r,hr',e⟩:=all x aaU
                     have z:=tat x aaU
                     rw [e] at z
                     refine .cons ⟨x.2,rfl,?_⟩ (ih (fun y hy=>all y (aaM _ hy)) (fun y hy=>tat y (aaM _ hy)))
                     dsimp only
                     rw [e,uM]; exact z
                 . obtain ⟨x,hx,rfl⟩:=abh.mp z
                   obtain ⟨r',_,e⟩:=all x hx
                   rw [e,uM]
                   exact abh.mpr ⟨x,hx,e⟩
                 . obtain ⟨x,hx,e⟩:=abh.mp z
                   exact abh.mpr ⟨x,hx,by rw [e,uM]⟩
               obtain ⟨pR,mR⟩:=aaZ
               have inR:∀ r,r∈(ts.map fun x=>Yw x.1)↔r∈p0++q0:=fun r=>by
                 rw [mR,kts,Uo]
                 exact ⟨fun z=>by obtain ⟨y,hy,e⟩:=abh.mp z; rw [<- Xr e]; exact hy,fun z=>abv z⟩
               have ndR:(ts.map fun x=>Yw x.1).Nodup:=by
                 rw [aa2,acK]
                 exact pwt.imp fun {x y} h e=>by rw [e,(qz kdS kdI).Ge] at h; cases h
               have lR:(ts.map fun x=>Yw x.1).length<=42:=adS (ST.fX ndR fun r hr'=>(inR r).mp hr') (by rw [abe]; omega)
               refine ⟨l,_,_,rfl,el,pR,by omega,?_,fun z r H14 rz mem rise s14=>?_⟩
               . rw [aa2,acK]
                 exact (aa2.mp ndR).imp_of_mem fun {x y} hx hy ne e=>ne (oU.inj ((inR x).mp hx) ((inR y).mp hy) e)
               . have Uq:Same H' H14:=(s11.trans YF).trans s14
                 have adK:=Uq _ _ eZ
                 refine setAt (j:=j) adK (by rw [apO]; exact aaW hjz) ?_
                 have ttZ:bZ H14 (upd H14 L2 (.lst (zs.set j z))):=fun a ys e=>by rw [aF (fun y=>by rw [y,adK] at e; cases e)]; exact e
                 refine ⟨zs.set j z,rs.set j r,_,rfl,ao,?_,by rw [List.length_set]; exact lrs,fun j' q r' hj2 hq hr'=>?_,fun j' hj2=>?_,fun b o nb e=>by rw [aF nb]; exact Uq _ _ (sB b o nb e)⟩
                 . exact yu (aq (fun _ _ y=>fu.ts (Uq.tups.trans ttZ) y) pz) (rz.ts ttZ) j
                 . rcases afu j' j with y | y
                   . rw [amd (by omega)] at hr'
                     exact done j' q r' y hq hr'
                   . have:j'=j:=by omega
                     subst this
                     rw [hq0] at hq; cases hq
                     rw [amK (by omega)] at hr'
                     cases hr'
                     rw [<- ep0]
                     exact ⟨fun x=>by rw [mem,inR,abq],rise⟩
                 . rw [amd (by omega)]
                   exact todo j' (by omega)
           . obtain ⟨zs,rs,o7',rfl,eZ,pz,lrs,done,todo,sB⟩:=hz
             have tB:bZ uq H':=fun b xs e=>sB b _ (fun z=>by rw [z,eL2] at e; cases e) e
             have nn:((vb.length:Int)).toNat=k.runs.length:=by omega
             have lzs:=pz.length
             have nF2:F≠L2:=aD (Vf _ _ eF6) fL2
             have nT2:T≠L2:=aD (Vf _ _ eT6) fL2
             refine hU _ _ ⟨L2,zs,rs,aiz,_,_,rfl,eZ,pz,?_,by omega,sB _ _ nF2 (yK _ _ eF6),sB _ _ nT2 (yK _ _ eT6),aq (fun _ _ z=>gB.ts z (yK.tups.trans tB)) pT6,tB _ _ (yK _ _ e16),aq (fun _ _ z=>bC.ts (yK.tups.trans tB) z) YB,fun c o e=>sB c o (aD e nL2) (S10 _ _ e)⟩
             rw [et]
             refine rM h.runs k.runs rs (fun r hr'=>(rk r hr').1) lrs (fun j q r hq hr'=>done j q r (by have:=(acZ.mp hq).1; omega) hq hr') (fun j hj=>?_)
             rw [todo j (by omega)]
             rcases afu j h.runs.length with z | z
             . rw [afe z]
             . rw [ae8 z,ae8 (by rw [abe,ahq]; omega)]
       . obtain ⟨L',zs,rs,kvs',o6',o7',rfl,eL',pz,mr,lz,eF',eT',pT',e1',pf',S'⟩:=ok
         refine ⟨.inl ⟨rfl,_,bY.of eF'⟩,?_⟩
         refine ⟨⟨c1,_,rfl,e1',fun p1 H6 hp1 s6=>?_⟩⟩
         rw [Xi] at hp1
         refine ⟨L',zs,rfl,.inl ⟨bY.of (s6 _ _ eL'),fun t rD=>?_⟩⟩
         have s7:Same H6 (upd H6 t (.tup zs)):=(Same.refl H6).upd rD
         generalize Ko:upd H6 t (.tup zs)=H7 at s7
         have et:H7 t=some (.tup zs):=by rw [<- Ko]; exact ao
         clear Ko
         refine ⟨by show 1<=sizeLine; omega,fun t2 Xw=>?_⟩
         have s8:Same H7 (upd H7 t2 (.tup [.ref t])):=(Same.refl H7).upd Xw
         refine ⟨⟨p1,t2,FP h,[.ref t],rfl,rfl,s8 _ _ (s7 _ _ hp1),ao,by show 4+1<=sizeLine; omega,fun p3 H8 hp3 s9=>?_⟩⟩
         have Ve:Same H' H8:=(s6.trans s7).trans (s8.trans s9)
         have eF8:=Ve _ _ eF'
         refine ⟨F,vf,_,rfl,rfl,eF8,by omega,?_⟩
         have tt:bZ H8 (upd H8 F (.lst (vf++[.ref p3]))):=fun a ys e=>by rw [aF (fun z=>by rw [z,eF8] at e; cases e)]; exact e
         have nTF:T≠F:=fun z=>by rw [z,eF'] at eT'; cases eT'
         have S8:=S'.trans Ve
         have nFH:H F=none:=fF
         refine ⟨vf++[.ref p3],ms++[⟨h.name,h.low,h.high,h.aQ,rs⟩],kvs',_,_,_,_,rfl,ao,?_,?_,(aF nTF).trans (Ve _ _ eT'),aq (fun _ _ z=>gB.ts (gB.ts z Ve.tups) tt) pT',fun c o e=>by rw [aF (aD e nFH)]; exact S8 _ _ e⟩
         . refine aM (aq (fun _ _ z=>(z.ts Ve.tups).ts tt) pf') (.cons ⟨p3,.ref t,rfl,tt _ _ hp3,t,zs,rfl,tt _ _ ((s8.trans s9) _ _ et),?_⟩ .nil)
           exact aq (fun _ _ z=>(z.ts Ve.tups).ts tt) pz
         . rw [abj,hhi]
           exact aM Yy (.cons ⟨rfl,rfl,rfl,rfl,mr⟩ .nil)
     . obtain ⟨vf,ms,rN,o4,o5,o6,o7,rfl,eF,pf,Yy,eT,pT4,S4⟩:=hz
       rw [lph,adi] at Yy pT4
       have lm4:=Yy.length
       have lf:=pf.length
       refine ⟨.inl ⟨rfl,_,bY.of eF⟩,?_⟩
       refine bV (bA.of (S4 _ _ hb)) (i:=0) (v:=.ref dh) (by rfl) ?_
       refine ⟨dh,rfl,⟨_,bA.of (S4 _ _ Wz)⟩,fun D3 hD3=>zZ (R:=bC H4) (R':=bC) (F:=fun (k k':aA)=>k=k') (keep:=bO hs) (fun s r=>r.ts s.tups) (fun e r=>r.ts (rG e)) hD3 (S4 _ _ Wz) (by omega) (aq (fun _ _ z=>z.ts S4.tups) pk) (fun i x k H5 hi rx s5 b N Q1 n1 q1=>?_) (fun ws ms2 H5 s5 OJ pw pf2=>?_)⟩
       . have km:=abg hi
         obtain ⟨c1,b1,rfl,e1,rest⟩:=id rx
         refine bV (bA.of (s5 _ _ e1)) (i:=0) (v:=.str k.name) (by rfl) ?_
         refine ⟨T,_,rfl,iW.k (k:=adz k.name) (s5 _ _ eT),_,rfl,?_⟩
         have ev:(cJ rN (adz k.name)).isSome=bO hs k:=by
           obtain ⟨t1,t2⟩:=Ik pT4 k.name
           cases z:bO hs k with
           | true =>
             have hb':∃ k',cU (ks.filter (bO hs)) k.name=some k':=by
               cases y:cU (ks.filter (bO hs)) k.name with
               | some k'=>exact ⟨k',rfl⟩
               | none =>
                 unfold cU at y
                 rw [agw] at y
                 exact absurd (by simp) (y k (agm.mpr ⟨km,z⟩))
             obtain ⟨k',hk'⟩:=hb'
             obtain ⟨v,ev,_⟩:=t2 k' hk'
             rw [ev]; rfl
           | false =>
             rw [t1]
             . rfl
             . unfold cU
               rw [agw]
               intro k' hk' e
               have e':k'.name=k.name:=by simpa using e
               have m:=agm.mp hk'
               have:k'=k:=uf ft.d2 m.1 km e'
               rw [this,z] at m; cases m.2
         rw [ev]
         refine gO (fun z=>?_) (fun z=>?_)
         . exact q1 z _ _ k (Same.refl _) (rx.ts s5.tups) rfl
         . exact n1 (aq1.mpr z) _ (Same.refl _)
       . have ek2:ms2=ks.filter (bO hs):=by
           have key:∀ {l m:List aA},acN (fun (k k':aA)=>k=k') l m->m=l:=fun z=>by
             induction z with
             | nil=>rfl
             | cons h _ ih=>rw [ih,h]
           exact key pf2
         subst ek2
         have lw:=pw.length
         have lfi:(ks.filter (bO hs)).length<=ks.length:=am2 _ _
         have eF5:=s5 _ _ eF
         refine ⟨F,D3,vf,ws,rfl,rfl,eF5,OJ,by omega,?_⟩
         have tt:bZ H5 (upd H5 F (.lst (vf++ws))):=fun a ys e=>by rw [aF (fun z=>by rw [z,eF5] at e; cases e)]; exact e
         have S6:Same H (upd H5 F (.lst (vf++ws))):=fun c o e=>by rw [aF (aD e fF)]; exact (S4.trans s5) _ _ e
         have YB:acN (bC (upd H5 F (.lst (vf++ws)))) (vf++ws) (ms++ks.filter (bO hs)):=aM (aq (fun _ _ z=>(z.ts s5.tups).ts tt) pf) (aq (fun _ _ z=>z.ts tt) pw)
         generalize eH6:upd H5 F (.lst (vf++ws))=H6 at S6 YB
         have eF6:H6 F=some (.lst (vf++ws)):=by rw [<- eH6]; exact ao
         clear eH6 tt
         refine ⟨F,_,rfl,.inl ⟨bY.of eF6,fun t1 rD=>?_⟩⟩
         have s7:Same H6 (upd H6 t1 (.tup (vf++ws))):=(Same.refl H6).upd rD
         generalize Ko:upd H6 t1 (.tup (vf++ws))=H7 at s7
         have HJ:H7 t1=some (.tup (vf++ws)):=by rw [<- Ko]; exact ao
         clear Ko
         have S7:=S6.trans s7
         refine bV (bA.of (S7 _ _ ha)) (i:=1) (v:=.ref cl) (by rfl) ?_
         refine bV (bA.of (S7 _ _ hb)) (i:=1) (v:=.ref dl) (by rfl) ?_
         have g1:=fl.l1
         have g2:=fl.l2
         have lpl:=pl.length
         have lpm:=pm.length
         refine ⟨⟨cl,dl,vl,vm,rfl,rfl,S7 _ _ hcl,S7 _ _ hdl,by omega,fun p8 H8 hp8 s8=>?_⟩⟩
         have S8:=S7.trans s8
         obtain ⟨us,eus,Uo,hT8⟩:=T8 (aq (fun _ _ z=>z.ts S8.tups) (aM pl pm))
         rw [eus] at hp8
         have key:∀ x∈us,∃ l∈ls++ls',x.1=Iu l:=fun x hx=>by
           have z:x.1∈us.map (·.1):=abv hx
           rw [Uo] at z
           obtain ⟨l,hl,e⟩:=abh.mp z
           exact ⟨l,hl,e.symm⟩
         have few:ST.nj us:=ST.nj.of (U:=U.map Iu) (by rw [aao]; exact lU) fun x hx=>by
           obtain ⟨l,hl,e⟩:=key x hx
           rw [e]; exact abv (sU l hl)
         refine ⟨p8,us,rfl,hp8,few,hT8,fun S fS=>?_⟩
         have s9:Same H8 (upd H8 S (iw P w S us)):=(Same.refl H8).upd fS
         generalize Vb:upd H8 S (iw P w S us)=H9 at s9
         have eS:H9 S=some (iw P w S us):=by rw [<- Vb]; exact ao
         clear Vb
         refine ⟨S,us,rfl,eS,few,(fun x hx=>?_),(fun x hx y hy e=>?_),fun l ts Oz Nu kts pwt=>?_⟩
         . obtain ⟨l,_,e⟩:=key x hx
           refine ⟨[.int l.2.1,mO l.2.2],?_,fun v hv=>?_⟩
           . have z:=s9 _ _ (hT8 x hx)
             rw [e,TQ] at z
             rw [e,TV]; exact z
           . rcases abz.mp hv with z | z
             . rw [z]; rfl
             . rw [abw.mp z]; cases l.2.2 <;> rfl
         . obtain ⟨l,hl,e1⟩:=key x hx
           obtain ⟨l',hl',e2⟩:=key y hy
           rw [e1,e2,TV,TV] at e
           rw [e1,e2,fl.one l hl l' hl' e]
         . have Dq:Same H9 (upd H9 l (.lst (ts.map fun x=>V.ref x.2))):=(Same.refl H9).upd Oz
           generalize Um:upd H9 l (.lst (ts.map fun x=>V.ref x.2))=uq at Dq
           have el:uq l=some (.lst (ts.map fun x=>V.ref x.2)):=by rw [<- Um]; exact ao
           clear Um
           refine ⟨l,_,rfl,.inl ⟨bY.of el,fun t2 Xw=>?_⟩⟩
           have s11:Same uq (upd uq t2 (.tup (ts.map fun x=>V.ref x.2))):=(Same.refl uq).upd Xw
           generalize adL:upd uq t2 (.tup (ts.map fun x=>V.ref x.2))=O2 at s11
           have YG:O2 t2=some (.tup (ts.map fun x=>V.ref x.2)):=by rw [<- adL]; exact ao
           clear adL
           refine ⟨by show 2<=sizeLine; omega,fun t3 ft3=>?_⟩
           have s12:Same O2 (upd O2 t3 (.tup [.ref t1,.ref t2])):=(Same.refl O2).upd ft3
           have aa0:Same H7 (upd O2 t3 (.tup [.ref t1,.ref t2])):=(s8.trans s9).trans ((Dq.trans s11).trans s12)
           have lat:∃ ns,acN (cg (upd O2 t3 (.tup [.ref t1,.ref t2]))) (ts.map fun x=>V.ref x.2) ns/\ns.map Iu=ts.map (·.1):=by
             have all:∀ x∈ts,∃ l∈ls++ls',x.1=Iu l:=fun x hx=>key x (Nu x hx)
             have tat:∀ x∈ts,upd O2 t3 (.tup [.ref t1,.ref t2]) x.2=some (.tup (x.1.map kV)):=fun x hx=>((s9.trans Dq).trans (s11.trans s12)) _ _ (hT8 x (Nu x hx))
             clear kts pwt Nu el YG
             induction ts with
             | nil=>exact ⟨[],.nil,rfl⟩
             | cons x ts ih =>
               obtain ⟨ns,p1,p2⟩:=ih (fun y hy=>all y (aaM _ hy)) (fun y hy=>tat y (aaM _ hy))
               obtain ⟨l,hl,e⟩:=all x aaU
               have z:=tat x aaU
               rw [e,TQ] at z
               exact ⟨l :: ns,.cons ⟨x.2,rfl,z⟩ p1,by rw [abA,abA,e,p2]⟩
           obtain ⟨ns,pns,ens⟩:=lat
           refine q _ (ms++ks.filter (bO hs)) ns _ ⟨t3,.ref t1,.ref t2,rfl,ao,⟨t1,_,rfl,aa0 _ _ HJ,aq (fun _ _ z=>(z.ts s7.tups).ts aa0.tups) YB⟩,⟨t2,_,rfl,s12 _ _ YG,pns⟩⟩ ⟨⟨ms,rfl,Yy⟩⟩ ⟨fun x=>?_,?_⟩ (S7.trans aa0)
           . have e1:x∈ns↔Iu x∈ns.map Iu:=⟨fun z=>abv z,fun z=>by obtain ⟨y,hy,e⟩:=abh.mp z; rw [<- Km e]; exact hy⟩
             rw [e1,ens,kts,Uo,<- abq]
             exact ⟨fun z=>by obtain ⟨y,hy,e⟩:=abh.mp z; rw [<- Km e]; exact hy,fun z=>abv z⟩
           . have e2:ns.map adB=ts.map fun x=>ltH x.1:=by
               have z:=congrArg (am1 ltH) ens
               rw [adJ,adJ] at z
               exact z
             rw [e2,acK]
             refine pwt.imp fun {x y} h=>?_
             exact h
   . obtain ⟨ps,G,hp,pT⟩:=hz
     obtain ⟨k,hki,hk⟩:=aL pk hx
     obtain ⟨c1,b1,rfl,e1,rest⟩:=id (hk.ts (s1.trans G.same).tups)
     refine bV (bA.of e1) (i:=0) (v:=.str k.name) (by rfl) ?_
     refine ⟨by show 2<=sizeLine; omega,fun t rD=>?_⟩
     have s4:Same H' (upd H' t (.tup [.str k.name,.ref c1])):=(Same.refl H').upd rD
     have G3:=G.more s4
     have lps:=pT.length
     rw [aao,abo] at lps
     have tt:bZ (upd H' t (.tup [.str k.name,.ref c1])) (upd (upd H' t (.tup [.str k.name,.ref c1])) D (.lst ((ps.map fun p=>V.ref p.1)++[V.ref t]))):=fun a ys e=>by rw [aF (fun z=>by rw [z,G3.at'] at e; cases e)]; exact e
     refine ⟨_,G3.at',by rw [aao]; omega,nx hi ⟨ps++[(t,adz k.name,.ref c1)],?_,fun p hp'=>?_,?_⟩⟩
     . rw [abt]; exact G3.put hD _
     . rcases abq.mp hp' with z | z
       . exact tt _ _ (s4 _ _ (hp p z))
       . rw [abw.mp z]; exact tt _ _ ao
     . rw [abt,abj,hki]
       exact aM (aq (fun _ _ z=>gB.ts (gB.ts z s4.tups) tt) pT) (.cons ⟨rfl,(hk.ts ((s1.trans G.same).trans s4).tups).ts tt⟩ .nil)
end
end mz
namespace L2
open PySem PySem.W PyProof.Rows
theorem yL (items:Array aau):slicePick items none none (some (-1))=items.toList.reverse.toArray:=by
 have e:sliceRange (sliceBounds none none (some (-1)) items.size).1 (sliceBounds none none (some (-1)) items.size).2.1 (sliceBounds none none (some (-1)) items.size).2.2=(acy items.size).map fun (k:Nat)=>((items.size:Int)-1+(k:Int) * (-1)).toNat:=by
   show ((acy _).map _:List Nat)=_
   have c:(if ((items.size:Int)-1) > -1 then (((items.size:Int)-1)-(-1)-(-1)-1) / (- -1) else (0:Int)).toNat=items.size:=by
     rw [show (- -1:Int)=1 by decide,Int.ediv_one]
     split <;> omega
   show ((acy (if ((items.size:Int)-1) > -1 then (((items.size:Int)-1)-(-1)-(-1)-1) / (- -1) else (0:Int)).toNat).map fun (k:Nat)=>((items.size:Int)-1+(-1) * (k:Int)).toNat)=_
   rw [c]
   exact afa fun k _=>by congr 1; omega
 unfold slicePick
 rw [e,anU]
 congr 1
 exact Qt items
def adM (K:aas) (te:TE):TE:=fun σ H Q=>te σ H fun x H1=>∃ a xs,x=.ref a/\bY K H1 a xs/\∀ p,H1 p=none->Q (.ref p) (upd H1 p (.lst xs.reverse))
theorem Xx {X:Cx} {e:Expr} {te:TE} {k:Nat} {p1 p2 p3 pos:Pos} (he:PE X e te):PE X (.Subscript e (.Slice none none (some (.UnaryOp .USub (.Constant (.int 1) k p1) p2)) p3) pos) (adM X.K te):=by
 intro pins s σ H Q I h
 refine aqP (dw (he pins s σ H _ I h) fun v s1 ⟨x,H1,I1,r1,q1⟩=>?_)
 obtain ⟨a,xs,rfl,hq,q⟩:=q1
 cases (show v=abk a from r1)
 refine wpAny_Slice ?_
 rw [aqw]
 refine aar ?_
 refine aar ?_
 rw [evalPart_some]
 have pm:PE X (.UnaryOp .USub (.Constant (.int 1) k p1) p2) (tUn _ (tC (.int 1))):=Pq ZL aC
 refine dw (pm pins s1 σ H1 (fun z H2=>z=.int (-1)/\H2=H1) I1 ⟨rfl,rfl⟩) fun u s2 ⟨z,H2,I2,r2,ez,eH⟩=>?_
 subst ez
 obtain rfl:H1=H2:=eH.symm
 obtain ⟨t,rfl⟩:=r2
 have I3:Inv X pins σ H1 { s2 with heap:=s2.heap.push { cls:=.type "slice",data:=.fields #[.none,.none,.int (-1) t] } }:=I2.kept (t':=s2.toks) fun b ob q=>aap _ q
 obtain ⟨its,rv,ht,hz⟩:=I3.list hq
 have hlen:=rv.length
 show wpAny (model X.prog X.w) X.A (subscriptTail e (.Slice none none (some (.UnaryOp .USub (.Constant (.int 1) k p1) p2)) p3) (.ref a) (.ref s2.heap.objs.size)) (EP X pins σ Q) X.xe { s2 with heap:=s2.heap.push { cls:=.type "slice",data:=.fields #[.none,.none,.int (-1) t] } }
 refine tail_any (ops:=[.ref a,.ref s2.heap.objs.size]) ht.isList.typeIs slot_list_getitem.lookup (aoo ht.isList (aqx ..) .none .none (.int _ _) (by simp) ?_ (by rw [abp]; omega)) (by with_unfolding_all rfl)
 rw [yL]
 refine ⟨.ref (s2.heap.push { cls:=.type "slice",data:=.fields #[.none,.none,.int (-1) t] }).objs.size,_,I3.laid (t':=s2.toks) (o:=.lst xs.reverse) (fun b ob q=>aap _ q) (aav _) ?_,rfl,q _ (I3.hok.fresh (aav _))⟩
 exact ⟨by rw [anx]; exact hz,_,0,VH rv,aa8 _ rfl⟩
end L2
namespace mz
open PySem L2 gF
theorem uN {X:Cx} (hu:X.A.units+64<cLine):gD X (compareOp .Eq) (fun x y H Q=>∃ a b xs,x=.ref a/\y=.ref b/\H a=some (.lst xs)/\H b=some (.lst [])/\Q (.bl xs.isEmpty) H):=by
 intro pins s σ H x y v u Q I rx ry h
 obtain ⟨a,b,xs,rfl,rfl,ha,hb,q⟩:=h
 cases xs with
 | nil=>exact Gy hu pins s σ H _ _ v u Q I rx ry ⟨.list [],.list [],.lst (bY.of ha) .nil,.lst (bY.of hb) .nil,rfl,rfl,q⟩
 | cons y ys =>
   cases rx
   cases ry
   obtain ⟨its,r1,p1,_⟩:=I.list (bY.of ha)
   obtain ⟨its2,r2,p2,_⟩:=I.list (bY.of hb)
   have e:its2=[]:=r2.nU.mpr rfl
   subst e
   cases r1 with
   | cons r3 r4=>exact SeqAt.eq_list_lengthsAt p1.isList p2.isList (by simp) (by omega) ⟨.bl false,H,I,rfl,q⟩
theorem fH {H H':Hp} {p:abm} (h:bN H p) (s:Same H H'):bN H' p:=by
 obtain ⟨n,e,n0⟩:=h
 exact ⟨n,s _ _ e,n0⟩
theorem Xy {t u:TS} {D:Ends} {σ:St} {H:Hp} (h:∀ U:St->Hp->Prop,U=u D->t { D with nx:=U } σ H):Pg t u D σ H:=h (u D) rfl
theorem ifU {tt:TT} {ta tb:TS} {D:Ends} {σ:St} {H:Hp} (Ok:Bool->Hp->Prop) (h:∀ R:Bool->Hp->Prop,(∀ c H1,Ok c H1->R c H1)->tt σ H R) (h2:∀ c H1,Ok c H1->if c=true then ta D σ H1 else tb D σ H1):Ph tt ta tb D σ H:=h _ h2
theorem Iv {ss:List Row} {ns:List Str} (p:acN (fun (r:Row) (n:Str)=>n=r.1) ss ns):ns=ss.map adB:=by
 induction p with
 | nil=>rfl
 | cons h _ ih=>rw [ih,h]; rfl
theorem Iw {ws:List V} {ns:List Str} (p:acN (fun (v:V) (n:Str)=>v=V.str n) ws ns):ws=ns.map V.str:=by
 induction p with
 | nil=>rfl
 | cons h _ ih=>rw [ih,h]; rfl
theorem Kq {n:Str} (h:Good n):ae7 (.str n)=true:=by
 have z:=h.ok
 simp [ae7,z]
theorem aa1 (xs:List V) (k:Nat):mj xs none (some (k:Int))=xs.take k:=by
 unfold mj
 rw [HT.qO,HT.jh,aoa,apy,am6]
 omega
theorem Ur {Rs rs:List (List Row)} {m:Nat} (p:acN uU (Rs.take m) rs):dM Rs rs:=by
 induction rs generalizing Rs m with
 | nil=>cases Rs <;> trivial
 | cons r rs ih =>
   cases Rs with
   | nil=>rw [List.take_nil] at p; cases p
   | cons R Rs =>
     cases m with
     | zero=>cases p
     | succ m =>
       cases p with
       | cons h t=>exact ⟨h,ih t⟩
theorem Kr {R r:List Row} (g:iT R) (s:r.Sublist R) (ne:r≠[]):uU R r:=⟨ne,(g.rise.sublist (s.map _)),fun a ha=>s.subset ha⟩
theorem Ai (ks:List aA) (k:aA):namesOf (ks++[k])=namesOf ks++bT k:=by
 unfold namesOf
 rw [aeJ]
 simp
theorem Oh {ks:List aA} {n:Str}:n∈namesOf ks.reverse↔n∈namesOf ks:=by
 unfold namesOf
 simp only [adG,List.mem_reverse]
structure PaI (hs:List aA) (i:Nat) (ks:List aA):Prop where
 sub:∀ k∈ks,∃ h∈hs,kO h k
 nm:(ks.map aA.name).Sublist ((hs.take i).map aA.name)
 few:(namesOf ks).length<=1000 * i
theorem PaI.skip {hs ks:List aA} {i:Nat} (p:PaI hs i ks):PaI hs (i+1) ks:=by
 refine ⟨p.sub,p.nm.trans (List.Sublist.map _ ?_),by have:=p.few; omega⟩
 rw [abj]
 exact ams _ _
theorem PaI.put {hs ks:List aA} {i:Nat} {h:aA} {rs:List (List Row)} (p:PaI hs i ks) (e:hs[i]?=some h) (pr:dM h.runs rs) (lf:rs.flatten.length<=1000):PaI hs (i+1) (ks++[⟨h.name,h.low,h.high,h.aQ,rs⟩]):=by
 refine ⟨fun k hk=>?_,?_,?_⟩
 . rcases abq.mp hk with z | z
   . exact p.sub k z
   . rw [abw.mp z]
     exact ⟨h,abg e,rfl,rfl,rfl,rfl,pr⟩
 . rw [abt,abj,e,abt]
   exact p.nm.append (amW _)
 . rw [Ai,abe]
   have:=p.few
   have e2:(bT ⟨h.name,h.low,h.high,h.aQ,rs⟩).length=rs.flatten.length:=by unfold bT jf; rw [aao]
   omega
def Iz:Sp:=fun vs H Q _=>∃ (p:abm) (x:V) (hs:List aA) (ls:List Letter),vs=[.ref p,x]/\bN H p/\bK H x hs ls/\Ae hs ls /\
 ∀ (z:V) (ks:List aA) (ns:List Letter) (H':Hp),bK H' z ks ns->Part hs ls ks ns->bN H' p->aP p H H'->Q z H'
section
variable {P:acs} {w:adH} {K:aas} {mg:Str->Option aau} {base:ae9} {t8 t6 tR tL:Tok}
theorem dR:bB ["_law_pack_here","_law_ledger_here","_law_houses","_law_names_here","_law_name","_law_low","_law_high","_law_drift","_law_runs","_law_found","_law_run","_law_kept","_law_letters_here","_law_letter"] ["_law_pack_here","_law_ledger_here"] (au uF):=⟨rfl,rfl,rfl,by decide +kernel,rfl,by decide +kernel,by decide +kernel⟩
theorem Xz {f dY:abm} {fd fG:aeF} (F:lX K "_law_part" "_law_part" uF f fd) (T:Txt mg t8 t6 tR tL)
   (cB:aV P w K mg base cG 1 dY fG ["_law_pack_here","_law_size"] qb) (cC:mg "_law_take" = some (.ref dY)) (cD:aaw K (.ref dY)=true) (cF:Binds K fG ["_law_pack_here","_law_size"] []):aV P w K mg base cG 2 f fd ["_law_pack_here","_law_ledger_here"] Iz:=by
 refine F.ok dR (fun vs H Q E h=>?_) (fun cdv A outer s H vs Q E hr h=>?_)
 . obtain ⟨p,x,hs,ls,rfl,_⟩:=h
   rfl
 . obtain ⟨p,x,hs,ls,rfl,pk,⟨a,x1,x2,rfl,ha,⟨ch,vh,rfl,hch,ph⟩,⟨cl,vl,rfl,hcl,pl⟩⟩,W,q⟩:=h
   have mq:sizeLine=16777216:=acO
   refine ⟨_,(aB (aY (i:=2) dR.nd rfl (acz rfl) (cW ak)) (aB (aY (i:=3) dR.nd rfl (acz rfl) (cW ak)) (aB (gC aeZ rfl (cI (bG dO (pV 1) aC (fun _ _=>rfl))) (eU rfl (aR (aH (i:=4) dR.nd rfl (acz rfl)) (aR (aH (i:=5) dR.nd rfl (acz rfl)) (aR (aH (i:=6) dR.nd rfl (acz rfl)) (aR (aH (i:=7) dR.nd rfl (acz rfl)) (aR (aH (i:=8) dR.nd rfl (acz rfl)) dg)))))) (aB (aY (i:=9) dR.nd rfl (acz rfl) (cW ak)) (aB (gC aeZ rfl (cI (cT Bm (pV 8) fU (Bf (aJ cB hr rfl cC cD cF .nil aW (aj (pV 0) (aj (bJ ji (aO bx rfl T.len ad4 (aj (pV 8) ak)) aC) ak)))))) (aH (i:=10) dR.nd rfl (acz rfl)) (aB (pX (i:=11) dR.nd rfl rfl (eY:=au uF) (own:=["_law_row"]) (cap:=["_law_pack_here"]) (ix:=[0]) rfl rfl ⟨rfl,by decide +kernel,by decide +kernel,by decide +kernel,rfl,by decide +kernel⟩ (cI (pV 10)) (fun b=>(aH (i:=0) (show (["_law_row","_law_pack_here"]:List Str).Nodup by decide +kernel) rfl (acz rfl))) (fun b=>(Bb (oZ oGt (aJ cB hr rfl cC cD cF .nil aW (aj (pV 1) (aj aC ak))) aC (bL _)))) (fun b=>(pV 0))) (aB (cP (oZ (uN hr.units) (pV 11) (cW ak) (bL _)) (aG (aY (i:=11) dR.nd rfl (acz rfl) (cW (aj (bG dO (pV 10) (aJ cB hr rfl cC cD cF .nil aW (aj (pV 0) (aj (aO bx rfl T.len ad4 (aj (pV 10) ak)) ak))) (fun _ _=>rfl)) ak)))) bH) (aB (iK (pD ae0 aoF aoG yQ (pV 3) (aj (cA (eY:=au uF) (own:=["_law_row","_law_reading"]) (cap:=[]) (ix:=[]) rfl rfl ⟨rfl,by decide +kernel,by decide +kernel,by decide +kernel,rfl,by decide +kernel⟩ (iM (pV 11)) (fun b=>(eU rfl (aR (aH (i:=0) (show (["_law_row","_law_reading"]:List Str).Nodup by decide +kernel) rfl (acz rfl)) (aR (aH (i:=1) (show (["_law_row","_law_reading"]:List Str).Nodup by decide +kernel) rfl (acz rfl)) dg)))) (fun b=>bM) (fun b=>(pV 0))) ak))) (aG (iK (pD ae0 afk afl fV (pV 9) (aj (bD bf rfl T.tuple abU (aj (pV 11) ak)) ak)))))))) (aG (cP (vQ (oZ (agD hr.units) (pV 9) (cW ak) (bL _)) (pw_or1 (oZ oEq (aJ cB hr rfl cC cD cF .nil aW (aj (pV 0) (aj aC ak))) aC (bL _)))) (aG (iK (pD ae0 afk afl fV (pV 2) (aj (cN (aj (pV 4) (aj (pV 5) (aj (pV 6) (aj (pV 7) (aj (bD bf rfl T.tuple abU (aj (pV 9) ak)) ak)))))) ak)))) bH))))) (aB (cP (oZ (uN hr.units) (pV 2) (cW ak) (bL _)) (aG (aY (i:=2) dR.nd rfl (acz rfl) (cW (aj (bJ qT (cT Bm (bG dO (bG dO (pV 1) aC (fun _ _=>rfl)) aC (fun _ _=>rfl)) fU (Bf aC)) (cN (aj (cN ak) ak))) ak)))) bH) (aB (aY (i:=12) dR.nd rfl (acz rfl) (cW ak)) (aB (gC aeZ rfl (cI (bG dO (pV 1) aC (fun _ _=>rfl))) (aH (i:=13) dR.nd rfl (acz rfl)) (aG (cP (Ds (oZ (Te hr.units) (bG dO (pV 13) aC (fun _ _=>rfl)) (pV 3) (by with_unfolding_all rfl)) (pw_and (oZ (Te hr.units) (bG dO (pV 13) aC (fun _ _=>rfl)) (pV 3) (by with_unfolding_all rfl)) (pw_and1 (oZ oGt (aJ cB hr rfl cC cD cF .nil aW (aj (pV 0) (aj aC ak))) aC (bL _))))) (aG (iK (pD ae0 afk afl fV (pV 12) (aj (pV 13) ak)))) bH))) (aB (cP (oZ oEq (aJ cB hr rfl cC cD cF .nil aW (aj (pV 0) (aj aC ak))) aC (bL _)) (aG (aY (i:=2) dR.nd rfl (acz rfl) (Xx (pV 2)))) bH) (aG (aZ (cN (aj (bD bf rfl T.tuple abU (aj (pV 2) ak)) (aj (bD bf rfl T.tuple abU (aj (pV 12) ak)) ak)))))))))))),?_⟩
   refine cV fun Ua hUa=>?_
   refine ⟨abV _,fun Hs fHs=>?_⟩
   show Ua _ _
   subst hUa
   refine cV fun Ub hUb=>?_
   refine ⟨abV _,fun Nm fNm=>?_⟩
   show Ub _ _
   subst hUb
   have nHN:Hs≠Nm:=fun z=>by rw [<- z,ao] at fNm; cases fNm
   have aa3:H Nm=none:=by rw [aF (afv nHN)] at fNm; exact fNm
   have s1:Same H (upd (upd H Hs (.lst [])) Nm (.lst [])):=((Same.refl H).upd fHs).upd fNm
   generalize Vd:upd (upd H Hs (.lst [])) Nm (.lst [])=H1 at s1
   have aiK:H1 Hs=some (.lst []):=by rw [<- Vd,aF nHN]; exact ao
   have aiL:H1 Nm=some (.lst []):=by rw [<- Vd]; exact ao
   clear Vd
   have Wg:bN H1 p:=fH pk s1
   have hi6:=W.gh.hi
   have lph:=ph.length
   have npH:∀ {b:abm},H b=none->b≠p:=fun e z=>by obtain ⟨n,e',_⟩:=pk; rw [z,e'] at e; cases e
   refine Xy fun Uc hUc=>?_
   refine bV (bA.of (s1 _ _ ha)) (i:=0) (v:=.ref ch) (by rfl) ?_
   refine ⟨ch,rfl,⟨_,bA.of (s1 _ _ hch)⟩,jB (xs:=vh) (fun i σ H'=>∃ (vf:List V) (ks:List aA) (o4 o5 o6 o7 o8 o9 xq tM:Option V),σ=[some (.ref p),some (.ref a),some (.ref Hs),some (.ref Nm),o4,o5,o6,o7,o8,o9,xq,tM,none,none]/\bN H' p/\H' Hs=some (.lst vf)/\acN (bC H') vf ks/\H' Nm=some (.lst ((namesOf ks).map V.str))/\PaI hs i ks/\aP p H H') ⟨[],[],none,none,none,none,none,none,none,none,rfl,Wg,aiK,.nil,aiL,⟨(fun k hk=>by cases hk),ao6 _,abV _⟩,aP.of s1⟩ (fun i σ H' _ hz=>by obtain ⟨_,_,_,_,_,_,_,_,_,_,_,_,_,_,_,_,S⟩:=hz; exact bA.of (aP.tups pk S _ _ hch)) (fun i v σ H2 hv hz=>?_) (fun σ H2 hz=>?_)⟩
   . obtain ⟨vf,ks,o4,o5,o6,o7,o8,o9,xq,tM,rfl,pk2,eHs,pf,XC,PI,S2⟩:=hz
     obtain ⟨h,hhi,hat⟩:=aL ph hv
     have hm:=abg hhi
     have gh:=W.gh.all h hm
     have hi:i<hs.length:=(acZ.mp hhi).1
     obtain ⟨c1,b1,rfl,e1,c5,vr,rfl,e5,pr⟩:=hat.ts (aP.tups pk S2)
     refine ⟨c1,_,rfl,bA.of e1,rfl,_,_,rfl,_,_,rfl,_,_,rfl,_,_,rfl,_,_,rfl,rfl,?_⟩
     refine cV fun Ud hUd=>?_
     refine ⟨abV _,fun Fd fFd=>?_⟩
     show Ud _ _
     subst hUd
     have s3:Same H2 (upd H2 Fd (.lst [])):=(Same.refl H2).upd fFd
     generalize eH3:upd H2 Fd (.lst [])=H3 at s3
     have eFd:H3 Fd=some (.lst []):=by rw [<- eH3]; exact ao
     clear eH3
     have OD:bN H3 p:=fH pk2 s3
     have npF:Fd≠p:=fun z=>by obtain ⟨n,e',_⟩:=pk2; rw [z,e'] at fFd; cases fFd
     have nHF:Hs≠Fd:=aD eHs fFd
     have nNF:Nm≠Fd:=aD XC fFd
     have Us:=npH fHs
     have Oi:=npH aa3
     have lr:=pr.length
     have l25:=gh.few
     refine Xy fun Ue hUe=>?_
     refine ⟨c5,_,rfl,.inr (bA.of (s3 _ _ e5)),?_⟩
     refine ⟨p,(vr.length:Int)+1,rfl,OD,by omega,by omega,fun d H4 d0 d1 pk4 s4=>?_⟩
     have T24:bZ H2 H4:=s3.tups.trans (aP.tups OD s4)
     refine ⟨⟨c5,_,rfl,T24 _ _ e5,fun t H5 ht s5=>?_⟩⟩
     obtain ⟨m,rfl⟩:=aeM d0
     rw [aa1] at ht
     have T25:=T24.trans s5.tups
     have O1:=fH pk4 s5
     have S5:aP p H H5:=((S2.trans (aP.of s3)).trans s4).trans (aP.of s5)
     have aiN:H5 Hs=some (.lst vf):=s5 _ _ (s4 _ _ Us (s3 _ _ eHs))
     have Oj:=s5 _ _ (s4 _ _ Oi (s3 _ _ XC))
     have aiO:=s5 _ _ (s4 _ _ npF eFd)
     have pr5:acN (fu H5) (vr.take m) (h.runs.take m):=uy m (aq (fun _ _ z=>z.ts T25) pr)
     have aiP:H Fd=none:=by
       cases e:H Fd with
       | none=>rfl
       | some o=>have z:=S2 _ _ npF e; rw [fFd] at z; cases z
     refine ⟨t,rfl,⟨_,bA.of ht⟩,jB (xs:=vr.take m) (fun j σ H'=>∃ (vd:List V) (rs:List (List Row)) (xq tM:Option V),σ=[some (.ref p),some (.ref a),some (.ref Hs),some (.ref Nm),some (.str h.name),some (.int h.low),some (.int h.high),some (.int h.aQ),some (.ref c5),some (.ref Fd),xq,tM,none,none]/\bN H' p/\H' Fd=some (.lst vd)/\acN (fu H') vd rs/\acN uU ((h.runs.take m).take j) rs/\rs.flatten.length<=25 * j/\H' Nm=some (.lst ((namesOf ks++rs.flatten.map adB).map V.str))/\H' Hs=some (.lst vf)/\bZ H5 H'/\aP p H H') ⟨[],[],xq,tM,rfl,O1,aiO,.nil,.nil,aav _,by simpa using Oj,aiN,bZ.refl _,S5⟩ (fun j σ H' _ hz=>by obtain ⟨_,_,_,_,_,_,_,_,_,_,_,_,T,_⟩:=hz; exact bA.of (T _ _ ht)) (fun j v σ H6 hv hz=>?_) (fun σ H6 hz=>?_)⟩
     . obtain ⟨vd,rs,xq,tM,rfl,zP,Ut,pd,pp,lf,XD,aa4,T6,S6⟩:=hz
       obtain ⟨R,hR,rat⟩:=aL pr5 hv
       have mR:R∈h.runs:=afi (abg hR)
       have gR:=gh.runs R mR
       obtain ⟨c7,vq,rfl,e7,pq⟩:=rat.ts T6
       have lq:=pq.length
       have q25:=gR.few
       have jm:j<25:=by
         have z:=(acZ.mp hv).1
         rw [abo] at z
         omega
       refine cV fun U1 Wy=>?_
       refine ⟨c7,rfl,⟨_,bA.of e7⟩,fun D hD=>jt (xs:=vq) (fun i H'=>∃ zs ss,H' D=some (.lst zs)/\zs.length<=i/\acN (cM H') zs ss/\ss.Sublist (R.take i)/\bN H' p/\aP p H6 H') ⟨[],[],ao,abV _,.nil,ao6 _,zP.new hD,(aP.of (Same.refl H6)).new hD⟩ (fun i H' _ hz=>by obtain ⟨_,_,_,_,_,_,_,S⟩:=hz; exact bA.of (aP.tups zP S _ _ e7)) (fun H7 hz=>?_) (fun i x H' hx hi hz b=>?_)⟩
       . obtain ⟨zs,ss,eD,lz,pz,sb,J2,s7⟩:=hz
         rw [lq,adi] at sb
         show U1 _ _
         subst Wy
         have npD:D≠p:=fun z=>by obtain ⟨n,e',_⟩:=zP; rw [z,e'] at hD; cases hD
         have e77:=aP.tups zP s7 _ _ e7
         refine Xv (fun σ' H'=>∃ (Kp:abm) (zs:List V) (ss:List Row),σ'=[some (.ref p),some (.ref a),some (.ref Hs),some (.ref Nm),some (.str h.name),some (.int h.low),some (.int h.high),some (.int h.aQ),some (.ref c5),some (.ref Fd),some (.ref c7),some (.ref Kp),none,none]/\H' Kp=some (.lst zs)/\H6 Kp=none/\acN (cM H') zs ss/\uU R ss/\ss.length<=25/\bN H' p/\aP p H6 H') (fun U hU=>?_) (fun σ' H8 ok=>?_)
         . refine ⟨abV _,fun E fE=>?_⟩
           have sE:Same H7 (upd H7 E (.lst [])):=(Same.refl H7).upd fE
           generalize eHE:upd H7 E (.lst [])=HE at sE
           have eE:HE E=some (.lst []):=by rw [<- eHE]; exact ao
           clear eHE
           have XF:=fH J2 sE
           refine ⟨D,E,zs,rfl,rfl,sE _ _ eD,eE,?_⟩
           cases pz with
           | nil =>
             refine ⟨c7,_,rfl,.inr (bA.of (sE _ _ e77)),?_⟩
             have v1:1<=vq.length:=by
               have:=gR.ne
               cases R with
               | nil=>exact absurd rfl this
               | cons x xs=>rw [lq]; simp
             refine ⟨p,(vq.length:Int),rfl,XF,by omega,by omega,fun d H8 d0 d1 HW s8=>?_⟩
             obtain ⟨k,rfl⟩:=aeM d0
             have kl:k<vq.length:=by omega
             have e78:=aP.tups XF s8 _ _ (sE _ _ e77)
             refine bV (bA.of e78) (i:=(k:Int)) (v:=vq[k]) (iR (aaq kl)) ?_
             refine ⟨by show 1<=sizeLine; omega,fun Kp fK=>?_⟩
             obtain ⟨r,hr',rr⟩:=aL pq (aaq kl)
             have S68:aP p H6 H8:=(s7.trans (aP.of sE)).trans s8
             have npK:Kp≠p:=fun z=>by obtain ⟨n,e',_⟩:=HW; rw [z,e'] at fK; cases fK
             have nK6:H6 Kp=none:=by
               cases e:H6 Kp with
               | none=>rfl
               | some o=>have z:=S68 _ _ npK e; rw [fK] at z; cases z
             refine hU _ _ ⟨Kp,[vq[k]],[r],rfl,ao,nK6,.cons (rr.ts ((aP.tups zP S68).new fK)) .nil,Kr gR (List.singleton_sublist.mpr (abg hr')) (by simp),by simp,HW.new fK,S68.new fK⟩
           | cons x0 p0 =>
             refine hU _ _ ⟨D,_,_,rfl,sE _ _ eD,hD,aq (fun _ _ z=>z.ts sE.tups) (.cons x0 p0),Kr gR sb (by simp),by have:=sb.length_le; omega,XF,s7.trans (aP.of sE)⟩
         . obtain ⟨Kp,zs,ss,rfl,eK,nK,pz,PR,arQ,HW,s8⟩:=ok
           have lz:=pz.length
           have adU:=s8 _ _ Oi XD
           have aiS:=s8 _ _ npF Ut
           have aiT:=s8 _ _ Us aa4
           refine ⟨.inl ⟨rfl,_,bY.of adU⟩,?_⟩
           refine ⟨Kp,rfl,⟨_,bY.of eK⟩,fun D3 hD3=>Ac (R:=cM H8) (R':=fun _ v (n:Str)=>v=V.str n) (F:=fun (r:Row) (n:Str)=>n=r.1) (keep:=fun _=>true) (fun _ r=>r) (fun _ r=>r) hD3 eK (by omega) pz (fun i x r H' hi rx s b N Q1 n1 q1=>?_) (fun ws ns H9 s9 OJ pw pfn=>?_)⟩
           . obtain ⟨a1,rfl,ea⟩:=rx
             refine ⟨a1,_,rfl,bA.of (s _ _ ea),rfl,_,_,rfl,_,_,rfl,rfl,?_⟩
             exact q1 rfl _ _ r.1 (Same.refl _) rfl rfl
           . rw [anJ.mpr (fun _ _=>rfl)] at pfn
             have en:ns=ss.map adB:=Iv pfn
             have ew:ws=ns.map V.str:=Iw pw
             subst en
             subst ew
             have adV:=s9 _ _ adU
             have Dn:=PI.few
             refine ⟨Nm,D3,_,_,rfl,rfl,adV,OJ,by simp only [aao,abe]; omega,?_⟩
             have nKN:Kp≠Nm:=(aD XD nK).symm
             have nKF:Kp≠Fd:=(aD Ut nK).symm
             generalize eX:upd H9 Nm (.lst (am1 V.str (namesOf ks++am1 adB rs.flatten)++am1 V.str (am1 adB ss)))=uq
             have aiU:uq Nm=some (.lst (am1 V.str (namesOf ks++am1 adB rs.flatten)++am1 V.str (am1 adB ss))):=by rw [<- eX]; exact ao
             have oX:∀ b o,b≠Nm->H9 b=some o->uq b=some o:=fun b o n e=>by rw [<- eX,aF n]; exact e
             clear eX
             have T9X:bZ H9 uq:=fun b xs e=>oX b _ (fun z=>by rw [z,adV] at e; cases e) e
             have T6X:bZ H6 uq:=((aP.tups zP s8).trans s9.tups).trans T9X
             have T8X:bZ H8 uq:=s9.tups.trans T9X
             have adW:=oX _ _ nNF.symm (s9 _ _ aiS)
             have aiV:=oX _ _ nHN (s9 _ _ aiT)
             have eKX:=oX _ _ nKN (s9 _ _ eK)
             have pkX:bN uq p:=by obtain ⟨n,e,n0⟩:=fH HW s9; exact ⟨n,oX _ _ Oi.symm e,n0⟩
             refine ⟨.inl ⟨rfl,_,bY.of adW⟩,?_⟩
             refine ⟨Kp,zs,rfl,.inl ⟨bY.of eKX,fun t1 rD=>?_⟩⟩
             have sY:Same uq (upd uq t1 (.tup zs)):=(Same.refl uq).upd rD
             generalize eHY:upd uq t1 (.tup zs)=HY at sY
             have eT1:HY t1=some (.tup zs):=by rw [<- eHY]; exact ao
             clear eHY
             have ld:=pd.length
             have lp:=pp.length
             rw [abo,abo] at lp
             have adX:=sY _ _ adW
             refine ⟨Fd,vd,_,rfl,rfl,adX,by omega,?_⟩
             have TY:bZ HY (upd HY Fd (.lst (vd++[.ref t1]))):=fun b xs e=>by rw [aF (fun z=>by rw [z,adX] at e; cases e)]; exact e
             refine ⟨vd++[.ref t1],rs++[ss],_,_,rfl,(fH pkX sY).put npF,ao,?_,?_,?_,?_,?_,((T6.trans T6X).trans sY.tups).trans TY,?_⟩
             . exact aM (aq (fun _ _ z=>((z.ts T6X).ts sY.tups).ts TY) pd) (.cons ⟨t1,zs,rfl,TY _ _ eT1,aq (fun _ _ z=>((z.ts T8X).ts sY.tups).ts TY) pz⟩ .nil)
             . rw [abj,hR]
               exact aM pp (.cons PR .nil)
             . rw [aio,abe]
               simp only [aeR,List.flatten_nil,afK]
               omega
             . rw [aF nNF,sY _ _ aiU]
               simp
             . rw [aF nHF]; exact sY _ _ aiV
             . intro c o n e
               have nF':c≠Fd:=aD e aiP
               have nN':c≠Nm:=aD e aa3
               rw [aF nF']
               exact sY _ _ (oX _ _ nN' (s9 _ _ (s8 _ _ n (S6 _ _ n e))))
       . obtain ⟨zs,ss,eD,lz,pz,sb,J2,s7⟩:=hz
         obtain ⟨r,hr',rr⟩:=aL pq hx
         refine ⟨p,3,rfl,J2,by decide,by decide,fun d H8 d0 d1 HW s8=>?_⟩
         have npD:D≠p:=fun z=>by obtain ⟨n,e',_⟩:=zP; rw [z,e'] at hD; cases hD
         have eD8:=s8 _ _ npD eD
         have pz8:=aq (fun _ _ z=>cM.ts (aP.tups J2 s8) z) pz
         have tk:R.take (i+1)=R.take i++[r]:=by rw [abj,hr']; rfl
         refine gO (fun z=>?_) (fun z=>?_)
         . have TD:bZ H8 (upd H8 D (.lst (zs++[x]))):=fun b xs e=>by rw [aF (fun z=>by rw [z,eD8] at e; cases e)]; exact e
           refine ⟨zs,eD8,by omega,nx hi ⟨zs++[x],ss++[r],ao,by rw [abe]; simp; omega,aM (aq (fun _ _ z=>z.ts TD) pz8) (.cons (((rr.ts (aP.tups zP s7)).ts (aP.tups J2 s8)).ts TD) .nil),?_,HW.put npD,fun c o n e=>?_⟩⟩
           . rw [tk]; exact sb.append (amW _)
           . rw [aF (aD e hD)]; exact s8 _ _ n (s7 _ _ n e)
         . exact nx hi ⟨zs,ss,eD8,by omega,pz8,by rw [tk]; exact sb.trans (ams _ _),HW,s7.trans s8⟩
     . obtain ⟨vd,rs,xq,tM,rfl,zP,Ut,pd,pp,lf,XD,aa4,T6,S6⟩:=hz
       have lfl:rs.flatten.length<=1000:=by
         rw [abo] at lf
         omega
       have PRs:dM h.runs rs:=by
         rw [List.take_take] at pp
         exact Ur pp
       show Ue _ _
       subst hUe
       refine ifU (fun c H'=>(c=false->rs=[])/\bN H' p/\aP p H6 H') (fun R hR=>?_) (fun c H7 ok=>?_)
       . refine ⟨abV _,fun E fE=>?_⟩
         have sE:Same H6 (upd H6 E (.lst [])):=(Same.refl H6).upd fE
         have XF:=fH zP sE
         refine ⟨⟨Fd,E,vd,rfl,rfl,sE _ _ Ut,ao,?_⟩⟩
         cases pd with
         | cons x0 p0=>exact hR true _ ⟨(fun z=>by cases z),XF,aP.of sE⟩
         | nil =>
           refine ⟨p,2,rfl,XF,by decide,by decide,fun d H8 d0 d1 HW s8=>?_⟩
           exact hR _ _ ⟨fun _=>rfl,HW,(aP.of sE).trans s8⟩
       . obtain ⟨e0,J2,s7⟩:=ok
         have T7:=aP.tups zP s7
         have pf7:acN (bC H7) vf ks:=aq (fun _ _ z=>((z.ts T25).ts T6).ts T7) pf
         have aa5:=s7 _ _ Us aa4
         have aiX:=s7 _ _ npF Ut
         have Uv:=s7 _ _ Oi XD
         have S7:=S6.trans s7
         cases c with
         | false =>
           obtain rfl:=e0 rfl
           exact ⟨vf,ks,_,_,_,_,_,_,_,_,rfl,J2,aa5,pf7,by simpa using Uv,PI.skip,S7⟩
         | true =>
           refine ⟨.inl ⟨rfl,_,bY.of aa5⟩,?_⟩
           refine ⟨Fd,vd,rfl,.inl ⟨bY.of aiX,fun t1 rD=>?_⟩⟩
           have s8:Same H7 (upd H7 t1 (.tup vd)):=(Same.refl H7).upd rD
           generalize YC:upd H7 t1 (.tup vd)=H8 at s8
           have HJ:H8 t1=some (.tup vd):=by rw [<- YC]; exact ao
           clear YC
           refine ⟨by show 5<=sizeLine; omega,fun t2 Xw=>?_⟩
           have s9:Same H8 (upd H8 t2 (.tup [.str h.name,.int h.low,.int h.high,.int h.aQ,.ref t1])):=(Same.refl H8).upd Xw
           generalize Vb:upd H8 t2 (.tup [.str h.name,.int h.low,.int h.high,.int h.aQ,.ref t1])=H9 at s9
           have YG:H9 t2=some (.tup [.str h.name,.int h.low,.int h.high,.int h.aQ,.ref t1]):=by rw [<- Vb]; exact ao
           clear Vb
           have YH:=s8.trans s9
           have adY:=YH _ _ aa5
           have lvf:=pf.length
           have lks:=PI.nm.length_le
           rw [aao,aao,abo] at lks
           refine ⟨Hs,vf,_,rfl,rfl,adY,by omega,?_⟩
           have TH:bZ H9 (upd H9 Hs (.lst (vf++[.ref t2]))):=fun b xs e=>by rw [aF (fun z=>by rw [z,adY] at e; cases e)]; exact e
           refine ⟨vf++[.ref t2],ks++[⟨h.name,h.low,h.high,h.aQ,rs⟩],_,_,_,_,_,_,_,_,rfl,(fH J2 YH).put Us,ao,?_,?_,PI.put hhi PRs lfl,fun c o n e=>?_⟩
           . refine aM (aq (fun _ _ z=>(z.ts YH.tups).ts TH) pf7) (.cons ⟨t2,.ref t1,rfl,TH _ _ YG,t1,vd,rfl,TH _ _ (s9 _ _ HJ),?_⟩ .nil)
             exact aq (fun _ _ z=>((z.ts T7).ts YH.tups).ts TH) pd
           . rw [aF nHN.symm,YH _ _ Uv,Ai]
             rfl
           . rw [aF (aD e fHs)]; exact YH _ _ (S7 _ _ n e)
   . obtain ⟨vf,ks,o4,o5,o6,o7,o8,o9,xq,tM,rfl,pk2,eHs,pf,XC,PI,S2⟩:=hz
     have T2:=aP.tups pk S2
     show Uc _ _
     subst hUc
     have Us:=npH fHs
     have Oi:=npH aa3
     refine Xv (fun σ' H'=>∃ (Ls:abm) (vf:List V) (ks:List aA),σ'=[some (.ref p),some (.ref a),some (.ref Ls),some (.ref Nm),o4,o5,o6,o7,o8,o9,xq,tM,none,none]/\H Ls=none/\Ls≠Nm/\bN H' p/\H' Ls=some (.lst vf)/\acN (bC H') vf ks/\H' Nm=some (.lst ((namesOf ks).map V.str))/\1<=ks.length/\ks.length<=10/\(∀ k∈ks,∃ h∈hs,kO h k)/\(ks.map aA.name).Nodup/\aP p H H') (fun U hU=>?_) (fun σ' H3 ok=>?_)
     . refine ⟨abV _,fun E fE=>?_⟩
       have sE:Same H2 (upd H2 E (.lst [])):=(Same.refl H2).upd fE
       generalize eHE:upd H2 E (.lst [])=HE at sE
       have eE:HE E=some (.lst []):=by rw [<- eHE]; exact ao
       clear eHE
       have XF:=fH pk2 sE
       have SE:=S2.trans (aP.of sE)
       have TE':=aP.tups pk SE
       refine ⟨Hs,E,vf,rfl,rfl,sE _ _ eHs,eE,?_⟩
       cases pf with
       | nil =>
         have lo:=W.gh.lo
         cases ph with
         | nil=>simp at lo
         | @cons v0 h0 vh hs0 aiZ _ =>
           refine bV (bA.of (TE' _ _ ha)) (i:=0) (v:=.ref ch) (by rfl) ?_
           refine bV (bA.of (TE' _ _ hch)) (i:=0) (v:=v0) (iR (j:=0) (by rfl)) ?_
           obtain ⟨c1,b1,rfl,e1,_⟩:=aiZ
           refine ⟨⟨c1,_,rfl,TE' _ _ e1,fun p1 H6 hp1 s6=>?_⟩⟩
           rw [Xi] at hp1
           refine ⟨by show 0<=sizeLine; omega,fun t1 rD=>?_⟩
           have s7:Same H6 (upd H6 t1 (.tup [])):=(Same.refl H6).upd rD
           generalize Ko:upd H6 t1 (.tup [])=H7 at s7
           have HJ:H7 t1=some (.tup []):=by rw [<- Ko]; exact ao
           clear Ko
           refine ⟨by show 1<=sizeLine; omega,fun t2 Xw=>?_⟩
           have s8:Same H7 (upd H7 t2 (.tup [.ref t1])):=(Same.refl H7).upd Xw
           refine ⟨⟨p1,t2,FP h0,[.ref t1],rfl,rfl,s8 _ _ (s7 _ _ hp1),ao,by show 4+1<=sizeLine; omega,fun p3 H8 hp3 s9=>?_⟩⟩
           have sE8:Same HE H8:=(s6.trans s7).trans (s8.trans s9)
           refine ⟨by show 1<=sizeLine; omega,fun Ls fL=>?_⟩
           have S8:=SE.trans (aP.of sE8)
           have HW:=fH XF sE8
           have npL:Ls≠p:=fun z=>by obtain ⟨n,e',_⟩:=HW; rw [z,e'] at fL; cases fL
           have nL:H Ls=none:=by
             cases e:H Ls with
             | none=>rfl
             | some o=>have z:=S8 _ _ npL e; rw [fL] at z; cases z
           have Dq:Same H8 (upd H8 Ls (.lst [.ref p3])):=(Same.refl H8).upd fL
           refine hU _ _ ⟨Ls,[.ref p3],[⟨h0.name,h0.low,h0.high,h0.aQ,[]⟩],rfl,nL,(aD (sE8 _ _ (sE _ _ XC)) fL).symm,fH HW Dq,ao,.cons ⟨p3,.ref t1,rfl,Dq _ _ hp3,t1,[],rfl,Dq _ _ (s9 _ _ (s8 _ _ HJ)),.nil⟩ .nil,Dq _ _ (sE8 _ _ (sE _ _ XC)),aav _,by simp,fun k hk=>?_,by simp,S8.trans (aP.of Dq)⟩
           rw [abw.mp hk]
           exact ⟨h0,aaU,rfl,rfl,rfl,rfl,by cases h0.runs <;> trivial⟩
       | cons x0 p0 =>
         have lks:=PI.nm.length_le
         rw [aao,aao,abo] at lks
         refine hU _ _ ⟨Hs,_,_,rfl,fHs,nHN,XF,sE _ _ eHs,aq (fun _ _ z=>z.ts sE.tups) (.cons x0 p0),sE _ _ XC,by simp,by omega,PI.sub,PI.nm.nodup ?_,SE⟩
         rw [lph,adi]
         exact W.gh.names
     . obtain ⟨Ls,vf,ks,rfl,nL,nLN,OD,eLs,pf,XC,k1,k10,aa6,knd,S3⟩:=ok
       have npL:=npH nL
       have YJ:∀ n∈namesOf ks,Good n:=fun n hn=>by
         obtain ⟨k,hk,hn⟩:=adG.mp hn
         obtain ⟨h,hh,q⟩:=aa6 k hk
         obtain ⟨r,hr',rfl⟩:=abh.mp (q.names hn)
         obtain ⟨R,hR,mr⟩:=aiu.mp hr'
         exact ((W.gh.all h hh).runs R hR).names r mr
       refine cV fun Uf hUf=>?_
       refine ⟨abV _,fun LL fLL=>?_⟩
       show Uf _ _
       subst hUf
       have s4:Same H3 (upd H3 LL (.lst [])):=(Same.refl H3).upd fLL
       generalize eH4:upd H3 LL (.lst [])=H4 at s4
       have eLL:H4 LL=some (.lst []):=by rw [<- eH4]; exact ao
       clear eH4
       have pk4:=fH OD s4
       have S4:=S3.trans (aP.of s4)
       have T4:=aP.tups pk S4
       have XH:LL≠p:=fun z=>by obtain ⟨n,e',_⟩:=OD; rw [z,e'] at fLL; cases fLL
       have nLL:H LL=none:=by
         cases e:H LL with
         | none=>rfl
         | some o=>have z:=S3 _ _ XH e; rw [fLL] at z; cases z
       have adZ:Ls≠LL:=aD eLs fLL
       have ad0:Nm≠LL:=aD XC fLL
       have ll:=pl.length
       have w6:=W.six
       refine Xy fun Ug hUg=>?_
       refine bV (bA.of (T4 _ _ ha)) (i:=1) (v:=.ref cl) (by rfl) ?_
       refine ⟨cl,rfl,⟨_,bA.of (T4 _ _ hcl)⟩,jB (xs:=vl) (fun i σ H'=>∃ (vm:List V) (ms:List Letter) (Gg:Option V),σ=[some (.ref p),some (.ref a),some (.ref Ls),some (.ref Nm),o4,o5,o6,o7,o8,o9,xq,tM,some (.ref LL),Gg]/\bN H' p/\H' LL=some (.lst vm)/\acN (cg H') vm ms/\ms.Sublist (ls.take i)/\(∀ l∈ms,l.1.1∈namesOf ks/\l.1.2∈namesOf ks)/\H' Ls=some (.lst vf)/\H' Nm=some (.lst ((namesOf ks).map V.str))/\bZ H4 H'/\aP p H H') ⟨[],[],none,rfl,pk4,eLL,.nil,ao6 _,(fun l hl=>by cases hl),s4 _ _ eLs,s4 _ _ XC,bZ.refl _,S4⟩ (fun i σ H' _ hz=>by obtain ⟨_,_,_,_,_,_,_,_,_,_,_,T,_⟩:=hz; exact bA.of (T _ _ (T4 _ _ hcl))) (fun i v σ H5 hv hz=>?_) (fun σ H5 hz=>?_)⟩
       . obtain ⟨vm,ms,Gg,rfl,O1,aa7,pm,sbm,min,aa9,Oj,T5,S5⟩:=hz
         obtain ⟨l,hl,lat⟩:=aL pl hv
         have ml:=abg hl
         have gl:=W.gl.all l ml
         have T05:=T4.trans T5
         have ad1:=lat.ts T05
         have tk:ls.take (i+1)=ls.take i++[l]:=by rw [abj,hl]; rfl
         obtain ⟨a1,rfl,e1⟩:=id ad1
         show Ph _ _ _ _ _ _
         refine ifU (fun c H'=>(c=true->l.1.1∈namesOf ks/\l.1.2∈namesOf ks)/\bN H' p/\aP p H5 H') (fun R hR=>?_) (fun c H7 ok=>?_)
         . refine bV (bA.of e1) (i:=0) (v:=.str l.1.1) (by rfl) ?_
           refine ⟨.str l.1.1,(namesOf ks).map aoE,.str _,.lst (bY.of Oj) (vp _),Kq gl.sent,by exact apY rfl,rH YJ,?_⟩
           rw [aqh,vo]
           refine gO (fun z1=>?_) (fun z1=>?_)
           . refine bV (bA.of e1) (i:=1) (v:=.str l.1.2) (by rfl) ?_
             refine ⟨.str l.1.2,(namesOf ks).map aoE,.str _,.lst (bY.of Oj) (vp _),Kq gl.taken,by exact apY rfl,rH YJ,?_⟩
             rw [aqh,vo]
             refine gO (fun z2=>?_) (fun z2=>?_)
             . refine ⟨p,4,rfl,O1,by decide,by decide,fun d H8 d0 d1 HW s8=>?_⟩
               exact hR _ _ ⟨fun _=>⟨of_decide_eq_true z1,of_decide_eq_true z2⟩,HW,s8⟩
             . exact hR false _ ⟨(fun z=>by cases z),O1,aP.of (Same.refl _)⟩
           . exact hR false _ ⟨(fun z=>by cases z),O1,aP.of (Same.refl _)⟩
         . obtain ⟨inn,J2,s7⟩:=ok
           have T7:=aP.tups O1 s7
           have Ol:=s7 _ _ XH aa7
           have ad2:=s7 _ _ npL aa9
           have Uv:=s7 _ _ Oi Oj
           have pm7:=aq (fun _ _ z=>cg.ts T7 z) pm
           cases c with
           | false=>exact ⟨vm,ms,_,rfl,J2,Ol,pm7,by rw [tk]; exact sbm.trans (ams _ _),min,ad2,Uv,T5.trans T7,S5.trans s7⟩
           | true =>
             refine ⟨.inl ⟨rfl,_,bY.of Ol⟩,?_⟩
             have lm:=pm.length
             have lms:=sbm.length_le
             rw [abo] at lms
             refine ⟨LL,vm,_,rfl,rfl,Ol,by omega,?_⟩
             have TL:bZ H7 (upd H7 LL (.lst (vm++[.ref a1]))):=fun b xs e=>by rw [aF (fun z=>by rw [z,Ol] at e; cases e)]; exact e
             refine ⟨vm++[.ref a1],ms++[l],_,rfl,J2.put XH,ao,aM (aq (fun _ _ z=>z.ts TL) pm7) (.cons ((ad1.ts T7).ts TL) .nil),by rw [tk]; exact sbm.append (amW _),fun x hx=>?_,by rw [aF adZ]; exact ad2,by rw [aF ad0]; exact Uv,(T5.trans T7).trans TL,fun c o n e=>?_⟩
             . rcases abq.mp hx with z | z
               . exact min x z
               . rw [abw.mp z]; exact inn rfl
             . rw [aF (aD e nLL)]; exact s7 _ _ n (S5 _ _ n e)
       . obtain ⟨vm,ms,Gg,rfl,O1,aa7,pm,sbm,min,aa9,Oj,T5,S5⟩:=hz
         rw [ll,adi] at sbm
         show Ug _ _
         subst hUg
         have pf5:acN (bC H5) vf ks:=aq (fun _ _ z=>(z.ts s4.tups).ts T5) pf
         refine Xv (fun σ' H'=>∃ (Ls:abm) (vf:List V) (ks':List aA),σ'=[some (.ref p),some (.ref a),some (.ref Ls),some (.ref Nm),o4,o5,o6,o7,o8,o9,xq,tM,some (.ref LL),Gg]/\bN H' p/\H' Ls=some (.lst vf)/\acN (bC H') vf ks'/\1<=ks'.length/\(∀ k∈ks',∃ h∈hs,kO h k)/\(ks'.map aA.name).Nodup/\(∀ n,n∈namesOf ks->n∈namesOf ks')/\aP p H5 H') (fun U hU=>?_) (fun σ' H6 ok=>?_)
         . refine ⟨p,3,rfl,O1,by decide,by decide,fun d H6 d0 d1 zP s6=>?_⟩
           have T6:=aP.tups O1 s6
           have ad3:=s6 _ _ npL aa9
           have YB:=aq (fun _ _ z=>bC.ts T6 z) pf5
           refine gO (fun z=>?_) (fun z=>?_)
           . refine ⟨Ls,vf,rfl,bY.of ad3,fun L2 fL2=>?_⟩
             have s7:Same H6 (upd H6 L2 (.lst vf.reverse)):=(Same.refl H6).upd fL2
             refine hU _ _ ⟨L2,vf.reverse,ks.reverse,rfl,fH zP s7,ao,vY (aq (fun _ _ z=>z.ts s7.tups) YB),by rw [anx]; exact k1,fun k hk=>aa6 k (List.mem_reverse.mp hk),by rw [List.map_reverse]; exact (List.reverse_perm _).nodup_iff.mpr knd,fun n hn=>Oh.mpr hn,s6.trans (aP.of s7)⟩
           . exact hU _ _ ⟨Ls,vf,ks,rfl,zP,ad3,YB,k1,aa6,knd,fun n hn=>hn,s6⟩
         . obtain ⟨L2,vf2,jl,rfl,zP,eL2,pf2,l1,ai0,Wv,nm2,s6⟩:=ok
           refine ⟨L2,vf2,rfl,.inl ⟨bY.of eL2,fun t1 rD=>?_⟩⟩
           have s7:Same H6 (upd H6 t1 (.tup vf2)):=(Same.refl H6).upd rD
           generalize Ko:upd H6 t1 (.tup vf2)=H7 at s7
           have HJ:H7 t1=some (.tup vf2):=by rw [<- Ko]; exact ao
           clear Ko
           have Ol:=s7 _ _ (s6 _ _ XH aa7)
           refine ⟨LL,vm,rfl,.inl ⟨bY.of Ol,fun t2 Xw=>?_⟩⟩
           have s8:Same H7 (upd H7 t2 (.tup vm)):=(Same.refl H7).upd Xw
           generalize YC:upd H7 t2 (.tup vm)=H8 at s8
           have YG:H8 t2=some (.tup vm):=by rw [<- YC]; exact ao
           clear YC
           refine ⟨by show 2<=sizeLine; omega,fun t3 ft3=>?_⟩
           have s9:Same H8 (upd H8 t3 (.tup [.ref t1,.ref t2])):=(Same.refl H8).upd ft3
           have Vf:=(s7.trans s8).trans s9
           have T59:=(aP.tups O1 s6).trans Vf.tups
           refine q _ jl ms _ ⟨t3,.ref t1,.ref t2,rfl,ao,⟨t1,vf2,rfl,s9 _ _ (s8 _ _ HJ),aq (fun _ _ z=>z.ts Vf.tups) pf2⟩,⟨t2,vm,rfl,s9 _ _ YG,aq (fun _ _ z=>z.ts T59) pm⟩⟩ ⟨l1,ai0,Wv,fun l hl=>sbm.subset hl,fun l hl=>⟨nm2 _ (min l hl).1,nm2 _ (min l hl).2⟩,W.gl.rise.sublist (sbm.map _)⟩ (fH zP Vf) ((S5.trans s6).trans (aP.of Vf))
end
end mz
namespace mz
open PySem L2 gF
theorem Aj (hs:List aA) (ls:List Letter):(pO hs ls).depth<=6:=by
 have d1:=iI (f:=lV) (d:=4) (xs:=hs) fun h _=>uH h
 have d2:=iI (f:=pN) (d:=1) (xs:=ls) fun l _=>zX l
 simp only [pO,afF,aeY]
 omega
def Ak (hs ks:List aA) (ls ns:List Letter):ai6:=.tuple [pO hs ls,pO ks ns]
theorem qJ {hs ks:List aA} {ls ns:List Letter} (g:xV hs ls) (g':xV ks ns):afD (Ak hs ks ls ns)=true:=by
 have c1:=amO (d7 g)
 have c2:=amO (d7 g')
 have d1:=Aj hs ls
 have d2:=Aj ks ns
 unfold afD
 rw [afr]
 refine ⟨?_,decide_eq_true ?_⟩
 . simp [Ak,ae7,aeI,c1,c2]
 . simp only [Ak,afF,aeY]
   omega
theorem XJ {hs ks:List aA} {ls ns:List Letter} (g:xV hs ls) (g':xV ks ns):aix (Ak hs ks ls ns) (Ak hs ks ls ns)=true:=am0 _ (amO (qJ g g'))
theorem Uw {K:aas} {H:Hp} {t:abm} {u v:V} {hs ks:List aA} {ls ns:List Letter} (e:H t=some (.tup [u,v])) (h:bK H u hs ls) (h':bK H v ks ns):Dp K H (.ref t) (Ak hs ks ls ns):=.tup (bA.of e) (.cons (nq h) (.cons (nq h') .nil))
section
variable {hs ks jJ jl ms:List aA} {ls ns vA uL:List Letter} (W:Ae hs ls)
include W
theorem Part.Gb (p:Part hs ls ks ns):xV ks ns:=by
 have gh:=p.yr W
 have gl:=p.Af W
 exact ⟨fun h hh=>(gh.all h hh).name,fun h hh rs hr r hr'=>((gh.all h hh).runs rs hr).names r hr',fun l hl=>⟨(gl.all l hl).sent,(gl.all l hl).taken⟩⟩
theorem Part.short (p:Part hs ls ks ns):∀ h∈ks,∀ r∈h.runs,(r.map afn).Pairwise (·<·)/\r.length<=17:=by
 intro k hk r hr
 have gh:=p.yr W
 refine ⟨((gh.all k hk).runs r hr).rise,?_⟩
 obtain ⟨g,hg,q⟩:=p.sub k hk
 have nd:(r.map adB).Nodup:=by
   have z:=ug gh.rows hk
   unfold bT jf at z
   obtain ⟨A,B,e⟩:=anV hr
   rw [e,aio,aeR,abt,abt] at z
   exact (aeS.mp (aeS.mp z).2.1).1
 have y:=ST.fX nd (U:=namesOf hs) fun n hn=>by
   obtain ⟨a,ha,rfl⟩:=abh.mp hn
   exact adG.mpr ⟨g,hg,q.names (abv (aiu.mpr ⟨r,hr,ha⟩))⟩
 rw [aao] at y
 have:=W.ten
 omega
theorem Part.ai1 (p1:Part hs ls jJ vA) (p2:Part hs ls jl uL):T9 jJ jl:=⟨p1.Oe W p2,p1.nd,p1.short W,p2.short W⟩
theorem Part.good (p1:Part hs ls jJ vA) (p2:Part hs ls jl uL):∀ ms ns,fY jJ jl ms->dU vA uL ns->cY ms/\dI ms ns:=fun _ _ mh ml=>⟨(p1.join W p2 mh ml).yr W,(p1.join W p2 mh ml).Af W⟩
end
def Ks (hs:List aA) (ls:List Letter) (H:Hp) (x:V):Prop:=∃ (t:abm) (u v:V) (jJ jl:List aA) (vA uL:List Letter),x=.ref t/\H t=some (.tup [u,v])/\bK H u jJ vA/\bK H v jl uL/\Part hs ls jJ vA/\Part hs ls jl uL
theorem Ks.ts {hs:List aA} {ls:List Letter} {H H':Hp} {x:V} (s:bZ H H') (h:Ks hs ls H x):Ks hs ls H' x:=by
 obtain ⟨t,u,v,jJ,jl,vA,uL,e,a,b,c,d⟩:=h
 exact ⟨t,u,v,jJ,jl,vA,uL,e,s _ _ a,b.ts s,c.ts s,d⟩
def Ku (K:aas):Sp:=fun vs H Q _=>∃ (a:abm) (ns:List Int),vs=[.ref a]/\bY K H a (ns.map V.int)/\ns.length<=63/\(∀ n∈ns,QG n)/\∀ H',Q (.bl true) H'
section
variable {P:acs} {w:adH} {K:aas} {mg:Str->Option aau} {base:ae9} {t8 t6 tR tL:Tok}
theorem nH:bB ["_law_script","_law_ledger_here","_law_one","_law_other","_law_first","_law_second","_law_kept","_law_found"] ["_law_script"] (au Bx):=⟨rfl,rfl,rfl,by decide +kernel,rfl,by decide +kernel,by decide +kernel⟩
theorem abb {f qK qw IK yx Ux jA:abm} {fd uO rB Kv Al Uy kJ:aeF} (F:lX K "law" "law" Bx f fd) (T:Txt mg t8 t6 tR tL)
   (IV:aV P w K mg base cG 7 qK uO ["_law_script","_law_k"] (qu K)) (IW:mg "_law_ledger" = some (.ref qK)) (Ja:aaw K (.ref qK)=true) (Jb:Binds K uO ["_law_script","_law_k"] [])
   (tQ:aV P w K mg base cG 7 qw rB ["_law_script","_law_k"] (Bs K)) (tU:mg "_law_pack" = some (.ref qw)) (tW:aaw K (.ref qw)=true) (tX:Binds K rB ["_law_script","_law_k"] [])
   (Uz:aV P w K mg base cG 7 IK Kv ["_law_pack_here","_law_ledger_here"] Iz) (UG:mg "_law_part" = some (.ref IK)) (UJ:aaw K (.ref IK)=true) (UL:Binds K Kv ["_law_pack_here","_law_ledger_here"] [])
   (nJ:aV P w K mg base cG 7 yx Al ["one","other"] yc) (nM:mg "merged" = some (.ref yx)) (nP:aaw K (.ref yx)=true) (nQ:Binds K Al ["one","other"] [])
   (ad5:aV P w K mg base cG 7 Ux Uy ["_law_one","_law_other"] Uh) (ad6:mg "_law_due" = some (.ref Ux)) (ad7:aaw K (.ref Ux)=true) (ad8:Binds K Uy ["_law_one","_law_other"] [])
   (yg:aV P w K mg base cG 7 jA kJ ["thing"] (Bo ou)) (yh:mg "is_ledger" = some (.ref jA)) (yj:aaw K (.ref jA)=true) (yp:Binds K kJ ["thing"] []):aV P w K mg base cG 8 f fd ["_law_script"] (Ku K):=by
 refine F.ok nH (fun vs H Q E h=>?_) (fun cdv A outer s H vs Q E hr h=>?_)
 . obtain ⟨a,ns,rfl,_⟩:=h
   rfl
 . obtain ⟨a,ns,rfl,ha,hl,hb,q⟩:=h
   have mq:sizeLine=16777216:=acO
   refine ⟨_,(aB (aY (i:=1) nH.nd rfl (acz rfl) (aJ IV hr rfl IW Ja Jb .nil aW (aj (pV 0) (aj aC ak)))) (aB (aY (i:=2) nH.nd rfl (acz rfl) (aJ Uz hr rfl UG UJ UL .nil aW (aj (aJ tQ hr rfl tU tW tX .nil aW (aj (pV 0) (aj aC ak))) (aj (pV 1) ak)))) (aB (aY (i:=3) nH.nd rfl (acz rfl) (aJ Uz hr rfl UG UJ UL .nil aW (aj (aJ tQ hr rfl tU tW tX .nil aW (aj (pV 0) (aj aC ak))) (aj (pV 1) ak)))) (aB (gC aeZ rfl (iM (cW (aj (cN (aj (pV 2) (aj (pV 3) ak))) (aj (cN (aj (pV 3) (aj (pV 2) ak))) (aj (cN (aj (pV 2) (aj (pV 1) ak))) (aj (cN (aj (pV 1) (aj (pV 2) ak))) ak)))))) (eU rfl (aR (aH (i:=4) nH.nd rfl (acz rfl)) (aR (aH (i:=5) nH.nd rfl (acz rfl)) dg))) (aB (aY (i:=6) nH.nd rfl (acz rfl) (cN (aj (bD bf rfl T.tuple abU (aj (bD kY rfl T.list amN (aj (pV 4) ak)) ak)) (aj (bD bf rfl T.tuple abU (aj (bD kY rfl T.list amN (aj (pV 5) ak)) ak)) ak)))) (aB (aY (i:=7) nH.nd rfl (acz rfl) (aJ nJ hr rfl nM nP nQ .nil aW (aj (pV 4) (aj (pV 5) ak)))) (aB (cP (vQ (dN (Bc (aO gU rfl T.V9 aeH (aj (pV 7) (aj (jg (v:=.ty "tuple") rfl T.tuple abU rfl) ak))))) (pw_or (oZ (rY hr.units) (pV 7) (aJ ad5 hr rfl ad6 ad7 ad8 .nil aW (aj (pV 4) (aj (pV 5) ak))) (bL _)) (pw_or1 (dN (Bc (aJ yg hr rfl yh yj yp .nil aW (aj (pV 7) ak))))))) (aG (aZ je)) bH) (aG (cP (oZ (rY hr.units) (cN (aj (pV 4) (aj (pV 5) ak))) (pV 6) (bL _)) (aG (aZ je)) bH)))))) (aG (aZ (mJ (iQ (Gy hr.units) (aJ nJ hr rfl nM nP nQ .nil aW (aj (pV 2) (aj (pV 2) ak))) (pV 2) (bL _)) (kW (iQ (Gy hr.units) (aJ nJ hr rfl nM nP nQ .nil aW (aj (aJ nJ hr rfl nM nP nQ .nil aW (aj (pV 2) (aj (pV 3) ak))) (aj (pV 3) ak))) (aJ nJ hr rfl nM nP nQ .nil aW (aj (pV 2) (aj (pV 3) ak))) (bL _)))))))))),?_⟩
   refine cV fun U1 Wy=>?_
   refine ⟨a,ns,0,rfl,ha,hb,hl,by decide,by decide,fun x hs ls H1 lat gh gl ten six _ s1=>?_⟩
   show U1 _ _
   subst Wy
   have W:Ae hs ls:=⟨gh,gl,ten,six⟩
   refine cV fun U2 hU2=>?_
   refine ⟨a,ns,6,rfl,qZ s1 ha,hb,hl,by decide,by decide,fun p1 H2 fp1 Wg s2=>?_⟩
   refine ⟨p1,x,hs,ls,rfl,Wg,lat.ts s2.tups,W,fun x1 jJ vA H3 l1 q1 ai2 s3=>?_⟩
   show U2 _ _
   subst hU2
   have S13:Same H1 H3:=fun c o e=>s3 _ _ (aD e fp1) (s2 _ _ e)
   refine cV fun U3 hU3=>?_
   refine ⟨a,ns,7,rfl,qZ (s1.trans S13) ha,hb,hl,by decide,by decide,fun p2 H4 fp2 pk2 s4=>?_⟩
   refine ⟨p2,x,hs,ls,rfl,pk2,lat.ts (S13.trans s4).tups,W,fun x2 jl uL H5 l2 q2 ai3 s5=>?_⟩
   show U3 _ _
   subst hU3
   have S35:Same H3 H5:=fun c o e=>s5 _ _ (aD e fp2) (s4 _ _ e)
   have L0:=lat.ts (S13.trans S35).tups
   have L1:=l1.ts S35.tups
   have P0:=W.part
   clear Wg ai2 pk2 ai3 s5 s4 s3 s2 fp1 fp2 S13
   refine Xy fun U4 hU4=>?_
   refine ⟨by show 2<=sizeLine; omega,fun t1 f1=>?_⟩
   have r1:Same H5 (upd H5 t1 (.tup [x1,x2])):=(Same.refl H5).upd f1
   generalize eA:upd H5 t1 (.tup [x1,x2])=HA at r1
   have HJ:HA t1=some (.tup [x1,x2]):=by rw [<- eA]; exact ao
   clear eA
   refine ⟨by show 2<=sizeLine; omega,fun t2 f2=>?_⟩
   have r2:Same HA (upd HA t2 (.tup [x2,x1])):=(Same.refl HA).upd f2
   generalize eB:upd HA t2 (.tup [x2,x1])=HB at r2
   have YG:HB t2=some (.tup [x2,x1]):=by rw [<- eB]; exact ao
   clear eB
   refine ⟨by show 2<=sizeLine; omega,fun t3 f3=>?_⟩
   have r3:Same HB (upd HB t3 (.tup [x1,x])):=(Same.refl HB).upd f3
   generalize eC:upd HB t3 (.tup [x1,x])=HC at r3
   have et3:HC t3=some (.tup [x1,x]):=by rw [<- eC]; exact ao
   clear eC
   refine ⟨by show 2<=sizeLine; omega,fun t4 f4=>?_⟩
   have r4:Same HC (upd HC t4 (.tup [x,x1])):=(Same.refl HC).upd f4
   generalize eD:upd HC t4 (.tup [x,x1])=HD at r4
   have et4:HD t4=some (.tup [x,x1]):=by rw [<- eD]; exact ao
   clear eD
   refine ⟨by show 4<=sizeLine; omega,fun L fL=>?_⟩
   have r5:Same HD (upd HD L (.lst [.ref t1,.ref t2,.ref t3,.ref t4])):=(Same.refl HD).upd fL
   generalize eE:upd HD L (.lst [.ref t1,.ref t2,.ref t3,.ref t4])=HE at r5
   have eL:HE L=some (.lst [.ref t1,.ref t2,.ref t3,.ref t4]):=by rw [<- eE]; exact ao
   clear eE
   have R4:=r4.trans r5
   have R3:=r3.trans R4
   have R2:=r2.trans R3
   have R1:=r1.trans R2
   have two:∀ v∈[V.ref t1,V.ref t2,V.ref t3,V.ref t4],Ks hs ls HE v:=fun v hv=>by
     have A0:=L0.ts R1.tups
     have A1:=L1.ts R1.tups
     have A2:=l2.ts R1.tups
     simp only [abz,afd,or_false] at hv
     rcases hv with rfl | rfl | rfl | rfl
     . exact ⟨t1,_,_,_,_,_,_,rfl,R2 _ _ HJ,A1,A2,q1,q2⟩
     . exact ⟨t2,_,_,_,_,_,_,rfl,R3 _ _ YG,A2,A1,q2,q1⟩
     . exact ⟨t3,_,_,_,_,_,_,rfl,R4 _ _ et3,A1,A0,q1,P0⟩
     . exact ⟨t4,_,_,_,_,_,_,rfl,r5 _ _ et4,A0,A1,P0,q1⟩
   refine ⟨L,rfl,⟨_,bY.of eL⟩,Dc (xs:=[.ref t1,.ref t2,.ref t3,.ref t4]) (fun i σ H'=>∃ (o4 o5 o6 o7:Option V),σ=[some (.ref a),some x,some x1,some x2,o4,o5,o6,o7]/\Same HE H') ⟨none,none,none,none,rfl,Same.refl _⟩ (fun i σ H' _ hz=>by obtain ⟨_,_,_,_,_,S⟩:=hz; exact bY.of (S _ _ eL)) (fun i v σ H6 hv hz=>?_) (fun σ H6 hz=>?_)⟩
   . obtain ⟨o4,o5,o6,o7,rfl,S6⟩:=hz
     obtain ⟨t,u,v2,ka,kb,na,nb,rfl,et,la,lb,pa,pb⟩:=(two v (abg hv)).ts S6.tups
     refine ⟨t,_,rfl,bA.of et,rfl,_,_,rfl,_,_,rfl,rfl,?_⟩
     obtain ⟨b1,y1,z1,rfl,eb1,hy1,hz1⟩:=id la
     obtain ⟨b2,y2,z2,rfl,eb2,hy2,hz2⟩:=id lb
     refine cV fun U6 hU6=>?_
     refine ⟨b1,_,rfl,.inr (bA.of eb1),fun l1' fl1=>?_⟩
     have m1:Same H6 (upd H6 l1' (.lst [y1,z1])):=(Same.refl H6).upd fl1
     generalize eM1:upd H6 l1' (.lst [y1,z1])=M1 at m1
     have el1:M1 l1'=some (.lst [y1,z1]):=by rw [<- eM1]; exact ao
     clear eM1
     refine ⟨l1',_,rfl,.inl ⟨bY.of el1,fun c1 fc1=>?_⟩⟩
     have m2:Same M1 (upd M1 c1 (.tup [y1,z1])):=(Same.refl M1).upd fc1
     generalize eM2:upd M1 c1 (.tup [y1,z1])=M2 at m2
     have ec1:M2 c1=some (.tup [y1,z1]):=by rw [<- eM2]; exact ao
     clear eM2
     have m12:=m1.trans m2
     refine ⟨b2,_,rfl,.inr (bA.of (m12 _ _ eb2)),fun l2' Z4=>?_⟩
     have m3:Same M2 (upd M2 l2' (.lst [y2,z2])):=(Same.refl M2).upd Z4
     generalize eM3:upd M2 l2' (.lst [y2,z2])=M3 at m3
     have el2:M3 l2'=some (.lst [y2,z2]):=by rw [<- eM3]; exact ao
     clear eM3
     refine ⟨l2',_,rfl,.inl ⟨bY.of el2,fun c2 fc2=>?_⟩⟩
     have m4:Same M3 (upd M3 c2 (.tup [y2,z2])):=(Same.refl M3).upd fc2
     generalize eM4:upd M3 c2 (.tup [y2,z2])=M4 at m4
     have ec2:M4 c2=some (.tup [y2,z2]):=by rw [<- eM4]; exact ao
     clear eM4
     refine ⟨by show 2<=sizeLine; omega,fun c3 fc3=>?_⟩
     have m5:Same M4 (upd M4 c3 (.tup [.ref c1,.ref c2])):=(Same.refl M4).upd fc3
     generalize eM5:upd M4 c3 (.tup [.ref c1,.ref c2])=M5 at m5
     have ec3:M5 c3=some (.tup [.ref c1,.ref c2]):=by rw [<- eM5]; exact ao
     clear eM5
     show U6 _ _
     subst hU6
     have n34:=m3.trans m4
     have n5:Same H6 M5:=(m12.trans n34).trans m5
     have k1:bK M5 (.ref c1) ka na:=⟨c1,y1,z1,rfl,m5 _ _ (n34 _ _ ec1),hy1.ts n5.tups,hz1.ts n5.tups⟩
     have k2:bK M5 (.ref c2) kb nb:=⟨c2,y2,z2,rfl,m5 _ _ ec2,hy2.ts n5.tups,hz2.ts n5.tups⟩
     have la5:=la.ts n5.tups
     have lb5:=lb.ts n5.tups
     have S5:=S6.trans n5
     clear m1 m2 m3 m4 m5 m12 n34 el1 el2 ec1 ec2
     refine cV fun U7 hU7=>?_
     refine ⟨_,_,ka,kb,na,nb,rfl,la5,lb5,pa.Oe W pb,pa.Og W pb,pa.good W pb,fun z ms ns' H7 lz mh ml s7=>?_⟩
     show U7 _ _
     subst hU7
     have pj:=pa.join W pb mh ml
     have gj:=pj.Gb W
     obtain ⟨cz,z1',z2',rfl,ecz,hza⟩:=id lz
     refine ⟨.ref cz,"tuple",.type "tuple",true,rfl,iV.tup ecz,(yE (K:=K) (iV.tup ecz)).2.2.2,?_⟩
     refine ⟨_,_,ka,kb,na,nb,rfl,la5.ts s7.tups,lb5.ts s7.tups,pa.ai1 W pb,pa.Og W pb,⟨ls,by have:=W.six; omega,fun l hl=>(abq.mp hl).elim (pa.FW l) (pb.FW l)⟩,fun z' Gi asn H8 lz' mh' ml' s8=>?_⟩
     obtain rfl:=mh.uniq mh'
     obtain rfl:=ml.uniq ml'
     have lz8:=lz.ts s8.tups
     refine ⟨_,_,nq lz8,nq lz',d7 gj,d7 gj,?_⟩
     rw [Ck gj]
     refine ⟨_,_,rfl,lz8.da (pj.yr W) (pj.Af W),fun H9 s9=>?_⟩
     rw [zE (pj.yr W) (pj.Af W)]
     have YH:=(s7.trans s8).trans s9
     refine ⟨by show 2<=sizeLine; omega,fun c4 fc4=>?_⟩
     have Dq:Same H9 (upd H9 c4 (.tup [.ref b1,.ref b2])):=(Same.refl H9).upd fc4
     have Om:=YH.trans Dq
     have ga:=pa.Gb W
     have gb:=pb.Gb W
     refine ⟨_,_,Uw ao (la5.ts Om.tups) (lb5.ts Om.tups),Uw (Om _ _ ec3) (k1.ts Om.tups) (k2.ts Om.tups),qJ ga gb,qJ ga gb,?_⟩
     rw [XJ ga gb]
     exact ⟨_,_,_,_,rfl,S5.trans Om⟩
   . obtain ⟨o4,o5,o6,o7,rfl,S6⟩:=hz
     show U4 _ _
     subst hU4
     have S:=R1.trans S6
     have A1:=L1.ts S.tups
     have A2:=l2.ts S.tups
     have g1:=q1.Gb W
     refine ⟨_,_,jJ,jJ,vA,vA,rfl,A1,A1,q1.Oe W q1,q1.Og W q1,q1.good W q1,fun z ms ns' H7 lz mh ml s7=>?_⟩
     obtain rfl:=mh.uniq (q1.self W).1
     obtain rfl:=ml.uniq (q1.self W).2
     refine ⟨_,_,nq lz,nq (A1.ts s7.tups),d7 g1,d7 g1,?_⟩
     rw [Ck g1]
     refine ⟨_,_,ms,jl,ns',uL,rfl,A1.ts s7.tups,A2.ts s7.tups,q1.Oe W q2,q1.Og W q2,q1.good W q2,fun za ma na Ha lza mha mla sa=>?_⟩
     have pj:=q1.join W q2 mha mla
     have gj:=pj.Gb W
     refine ⟨_,_,ma,jl,na,uL,rfl,lza,A2.ts (s7.trans sa).tups,pj.Oe W q2,pj.Og W q2,pj.good W q2,fun zb mb nb Hb lzb mhb mlb sb=>?_⟩
     obtain rfl:=mhb.uniq (q1.again W q2 mha mla).1
     obtain rfl:=mlb.uniq (q1.again W q2 mha mla).2
     have s7b:=(s7.trans sa).trans sb
     refine ⟨_,_,ms,jl,ns',uL,rfl,A1.ts s7b.tups,A2.ts s7b.tups,q1.Oe W q2,q1.Og W q2,q1.good W q2,fun zc mc nc Hc lzc mhc mlc sc=>?_⟩
     obtain rfl:=mhc.uniq mha
     obtain rfl:=mlc.uniq mla
     refine ⟨_,_,nq (lzb.ts sc.tups),nq lzc,d7 gj,d7 gj,?_⟩
     rw [Ck gj]
     exact q _
end
end mz
namespace mz
open PySem L2 gF
theorem yC:∀ {xs:List arw} {x:arw},x∈xs->anl x<=aoX xs
 | y :: xs,x,h=>by
   unfold aoX
   rcases abz.mp h with z | z
   . rw [z]; omega
   . have:=yC z; omega
theorem XM {ns:List Int} (h:PySem.W.WData.layableAll [PySem.W.WData.list (ns.map aq3)]=true):∀ n∈ns,QG n:=fun n hn=>by
 have h1:=acL.mp h _ aaU
 unfold PySem.W.WData.layable at h1
 have h2:=of_decide_eq_true (abx.mp h1).2
 unfold anl at h2
 have h3:=yC (abv (f:=aq3) hn)
 unfold anl at h3
 have e:(2:Nat) ^ 20=1048576:=by decide
 rw [e] at h2
 exact adS h3 h2
theorem Oo {l:apZ} {n k:Nat} {q:acs} {loose:List Str} {XP:(Str->Option aau)->ae9->Prop} {YP:adH->ae9->Prop} {d:DefRec} {K:Params->aas} {CX:adH->Ot} {sp:adH->Sp} {x:Str}
   (hn:l.most=some n) (hn2:n<=sizeLine) (hdf:d.params.defaults=[]) (hr:jL k callerA) (hY:∀ (w:adH) (h:ae9),YP w h->(K w.params).In h)
   (F:∀ (w:adH) (mg:Str->Option aau) (fa:abm) (h:ae9),(K w.params).In h->h.Ns mainGlobals mg->mg d.name=some (.ref fa) ->
     ∃ fd:aeF,(∀ (s:aat) (u:aau),ard s fd ⟨[u],[]⟩ [(x,u)])/\∀ base:ae9,(K w.params).In base->base.Ns mainGlobals mg->aV l.prog w (K w.params) mg base (CX w) k fa fd [x] (sp w))
   (hsp:∀ (w:adH) (H:Hp) (a:abm) (ns:List Int),ns.length<=n->(∀ m∈ns,QG m)->Only H->bY (K w.params) H a (ns.map V.int)->sp w [.ref a] H (fun v _=>v=.bl true) fun _ _ _=>False)
   (hCX:∀ (w:adH) (H:Hp) (s:aat) (e:aau) (s':aat),CX w [] H s (fun _ _ _=>False) e s'->False):PySem.W.WalkO q loose XP YP l.row.toRowW d [] (fun f vs=>PySem.call f vs):=by
 intro w s₀ s₁ mg mb G Y fa o pm cd doc dV kV ho hd hcd hD hmg hg args vals as hpre hlay hrd hwl hlo
 obtain rfl:dV=.none:=PySem.W.Dflts.none hD hdf
 obtain rfl:kV=.none:=PySem.W.Dflts.noKw hD
 obtain ⟨a,vs,ns,rfl,rfl,hobj,hints,hlen⟩:=Att.K4 hn hpre hwl
 have KX:=hY w _ Y
 obtain ⟨fd,hb,hF⟩:=F w mg fa _ KX G.T.g hmg
 have key:=Qc KX G.T.g G.T.b G.T.builtins G.T.nolimit hg hobj hints (adS hlen hn2) hr hF hb (fun H hO hS=>hsp w H a ns hlen (XM hlay) hO hS) fun H e s'=>hCX w H s₁ e s'
 refine PySem.W.enter_call (agN key fun r s' hq=>?_)
 obtain ⟨rfl,h2,h3,h4⟩:=hq
 exact ⟨.inl ⟨.bool true,.bool true,[],rfl,fun _=>rfl,.bool true,Att.K5 l _,fun _=>⟨ah8,fun _ hm=>(nomatch hm)⟩⟩,h2,h3,h4⟩
theorem all_mk {l:apZ} {w:adH} {K:aas} {h:ae9} {mg:Str->Option aau} {fa f1 f2 f3 f4 f5 f6 f7 f8 f9 f10 f11 f12 f13 f14 f15 f16 f17 f18 f19 f20 f21 f22 f23 f24 f25 f26 f27 f28 f29 f30 f31 f32 f33:abm} {t8 t6 tR tL:Tok} (X:K.In h) (G:h.Ns mainGlobals mg) (hfa:mg "law" = some (.ref fa))
   {od1 an1 od2 an2 od3 an3 od4 an4 od5 an5 od6 an6 od7 an7 od8 an8 od9 an9 ai8 ai9 aja ajb ajc ajd aje ajf ajg ajh aji ajj ajk ajl ajm ajn ajo ajp ajq ajr ajs ajt aju ajv ajw ajx ajy ajz ajA ajB ajC ajD ajE ajF ajG ajH ajI ajJ ajK ajL ajM ajN ajO ajP ajQ ajR ajS ad9:Option abm} {sl1 sl2 sl3 sl4 sl5 sl6 sl7 sl8 sl9 ajT ajU ajV ajW ajX ajY ajZ aj0 aj1 aj2 aj3 aj4 aj5 aj6 aj7 aj8 aj9 akb akc akd ake akf akg akh:Array (Option aau)} {oc1 kV1 dc1 pm1 cd1 ct1 oc2 kV2 dc2 pm2 cd2 ct2 oc3 kV3 dc3 pm3 cd3 ct3 oc4 kV4 dc4 Yy cd4 ct4 oc5 kV5 dc5 pm5 cd5 ct5 oc6 kV6 dc6 pm6 cd6 ct6 oc7 kV7 dc7 pm7 cd7 ct7 oc8 kV8 dc8 pm8 cd8 ct8 oc9 kV9 dc9 pm9 cd9 ct9 aki akj akk akl aea akm akn ako akp akq aeb akr aks akt aku akv aec akx aky akz akA akB aed akC akD akE akF akG aee akH akI akJ akK akL aef akM akN akO akP akQ aeg akR akS akT akU akV aeh akW akX akY akZ ak0 aei ak1 ak2 ak3 ak4 ak5 aej ak6 ak7 ak8 ak9 ala aek alb alc ald ale alf ael alg alh ali alj alk aem alm aln alo alp alq aen alr als alu alv alw aeo alx aly alz alA alB aep alC alD alE alF alG aer alH alI alJ alK alL aes alM alN alO alP alQ aeu alR alS alT alU alV aev alW alX alY alZ al0 aew al1 al2 al3 al4 al5 aex al6 al7 al8 al9 ama aey amb amc aez aeA aeB abd aeC:aau}
   (a1:abI K mainGlobals "is_whole" = some (some (.ref f1))) (l1:K.lookup f1=some ⟨oc1,od1,.func (acV "is_whole" "is_whole" (bw sV) (bh sV) (au sV) .none kV1 dc1 pm1 an1 cd1 ct1),sl1⟩) (c1:acE K cd1 "is_whole" = true) (k1:aaw K (.ref f1)=true)
   (a2:abI K mainGlobals "is_name" = some (some (.ref f2))) (l2:K.lookup f2=some ⟨oc2,od2,.func (acV "is_name" "is_name" (bw wF) (bh wF) (au wF) .none kV2 dc2 pm2 an2 cd2 ct2),sl2⟩) (c2:acE K cd2 "is_name" = true) (k2:aaw K (.ref f2)=true)
   (a3:abI K mainGlobals "has_parts" = some (some (.ref f3))) (l3:K.lookup f3=some ⟨oc3,od3,.func (acV "has_parts" "has_parts" (bw sW) (bh sW) (au sW) .none kV3 dc3 pm3 an3 cd3 ct3),sl3⟩) (c3:acE K cd3 "has_parts" = true) (k3:aaw K (.ref f3)=true)
   (a4:abI K mainGlobals "is_rising" = some (some (.ref f4))) (l4:K.lookup f4=some ⟨oc4,od4,.func (acV "is_rising" "is_rising" (bw lD) (bh lD) (au lD) .none kV4 dc4 Yy an4 cd4 ct4),sl4⟩) (c4:acE K cd4 "is_rising" = true) (k4:aaw K (.ref f4)=true)
   (a5:abI K mainGlobals "is_named_number" = some (some (.ref f5))) (l5:K.lookup f5=some ⟨oc5,od5,.func (acV "is_named_number" "is_named_number" (bw sX) (bh sX) (au sX) .none kV5 dc5 pm5 an5 cd5 ct5),sl5⟩) (c5:acE K cd5 "is_named_number" = true) (k5:aaw K (.ref f5)=true)
   (a6:abI K mainGlobals "is_clock" = some (some (.ref f6))) (l6:K.lookup f6=some ⟨oc6,od6,.func (acV "is_clock" "is_clock" (bw qg) (bh qg) (au qg) .none kV6 dc6 pm6 an6 cd6 ct6),sl6⟩) (c6:acE K cd6 "is_clock" = true) (k6:aaw K (.ref f6)=true)
   (a7:abI K mainGlobals "is_run" = some (some (.ref f7))) (l7:K.lookup f7=some ⟨oc7,od7,.func (acV "is_run" "is_run" (bw Ec) (bh Ec) (au Ec) .none kV7 dc7 pm7 an7 cd7 ct7),sl7⟩) (c7:acE K cd7 "is_run" = true) (k7:aaw K (.ref f7)=true)
   (a8:abI K mainGlobals "is_house" = some (some (.ref f8))) (l8:K.lookup f8=some ⟨oc8,od8,.func (acV "is_house" "is_house" (bw qj) (bh qj) (au qj) .none kV8 dc8 pm8 an8 cd8 ct8),sl8⟩) (c8:acE K cd8 "is_house" = true) (k8:aaw K (.ref f8)=true)
   (a9:abI K mainGlobals "rows_in" = some (some (.ref f9))) (l9:K.lookup f9=some ⟨oc9,od9,.func (acV "rows_in" "rows_in" (bw lE) (bh lE) (au lE) .none kV9 dc9 pm9 an9 cd9 ct9),sl9⟩) (c9:acE K cd9 "rows_in" = true) (k9:aaw K (.ref f9)=true)
   (a10:abI K mainGlobals "row_names" = some (some (.ref f10))) (l10:K.lookup f10=some ⟨aki,ai8,.func (acV "row_names" "row_names" (bw iC) (bh iC) (au iC) .none akj akk akl ai9 aea akm),ajT⟩) (c10:acE K aea "row_names" = true) (k10:aaw K (.ref f10)=true)
   (a11:abI K mainGlobals "are_unlike" = some (some (.ref f11))) (l11:K.lookup f11=some ⟨akn,aja,.func (acV "are_unlike" "are_unlike" (bw oE) (bh oE) (au oE) .none ako akp akq ajb aeb akr),ajU⟩) (c11:acE K aeb "are_unlike" = true) (k11:aaw K (.ref f11)=true)
   (a12:abI K mainGlobals "are_houses" = some (some (.ref f12))) (l12:K.lookup f12=some ⟨aks,ajc,.func (acV "are_houses" "are_houses" (bw jE) (bh jE) (au jE) .none akt aku akv ajd aec akx),ajV⟩) (c12:acE K aec "are_houses" = true) (k12:aaw K (.ref f12)=true)
   (a13:abI K mainGlobals "is_letter" = some (some (.ref f13))) (l13:K.lookup f13=some ⟨aky,aje,.func (acV "is_letter" "is_letter" (bw oF) (bh oF) (au oF) .none akz akA akB ajf aed akC),ajW⟩) (c13:acE K aed "is_letter" = true) (k13:aaw K (.ref f13)=true)
   (a14:abI K mainGlobals "are_letters" = some (some (.ref f14))) (l14:K.lookup f14=some ⟨akD,ajg,.func (acV "are_letters" "are_letters" (bw gY) (bh gY) (au gY) .none akE akF akG ajh aee akH),ajX⟩) (c14:acE K aee "are_letters" = true) (k14:aaw K (.ref f14)=true)
   (a15:abI K mainGlobals "is_ledger" = some (some (.ref f15))) (l15:K.lookup f15=some ⟨akI,aji,.func (acV "is_ledger" "is_ledger" (bw oG) (bh oG) (au oG) .none akJ akK akL ajj aef akM),ajY⟩) (c15:acE K aef "is_ledger" = true) (k15:aaw K (.ref f15)=true)
   (a16:abI K mainGlobals "house_names" = some (some (.ref f16))) (l16:K.lookup f16=some ⟨akN,ajk,.func (acV "house_names" "house_names" (bw lF) (bh lF) (au lF) .none akO akP akQ ajl aeg akR),ajZ⟩) (c16:acE K aeg "house_names" = true) (k16:aaw K (.ref f16)=true)
   (a17:abI K mainGlobals "merged_run" = some (some (.ref f17))) (l17:K.lookup f17=some ⟨akS,ajm,.func (acV "merged_run" "merged_run" (bw uE) (bh uE) (au uE) .none akT akU akV ajn aeh akW),aj0⟩) (c17:acE K aeh "merged_run" = true) (k17:aaw K (.ref f17)=true)
   (a18:abI K mainGlobals "merged_runs" = some (some (.ref f18))) (l18:K.lookup f18=some ⟨akX,ajo,.func (acV "merged_runs" "merged_runs" (bw ql) (bh ql) (au ql) .none akY akZ ak0 ajp aei ak1),aj1⟩) (c18:acE K aei "merged_runs" = true) (k18:aaw K (.ref f18)=true)
   (a19:abI K mainGlobals "merged_house" = some (some (.ref f19))) (l19:K.lookup f19=some ⟨ak2,ajq,.func (acV "merged_house" "merged_house" (bw oH) (bh oH) (au oH) .none ak3 ak4 ak5 ajr aej ak6),aj2⟩) (c19:acE K aej "merged_house" = true) (k19:aaw K (.ref f19)=true)
   (a20:abI K mainGlobals "merged_houses" = some (some (.ref f20))) (l20:K.lookup f20=some ⟨ak7,ajs,.func (acV "merged_houses" "merged_houses" (bw gZ) (bh gZ) (au gZ) .none ak8 ak9 ala ajt aek alb),aj3⟩) (c20:acE K aek "merged_houses" = true) (k20:aaw K (.ref f20)=true)
   (a21:abI K mainGlobals "merged_letters" = some (some (.ref f21))) (l21:K.lookup f21=some ⟨alc,aju,.func (acV "merged_letters" "merged_letters" (bw iD) (bh iD) (au iD) .none ald ale alf ajv ael alg),aj4⟩) (c21:acE K ael "merged_letters" = true) (k21:aaw K (.ref f21)=true)
   (a22:abI K mainGlobals "merged" = some (some (.ref f22))) (l22:K.lookup f22=some ⟨alh,ajw,.func (acV "merged" "merged" (bw oJ) (bh oJ) (au oJ) .none ali alj alk ajx aem alm),aj5⟩) (c22:acE K aem "merged" = true) (k22:aaw K (.ref f22)=true)
   (a23:abI K mainGlobals "_law_mixed" = some (some (.ref f23))) (l23:K.lookup f23=some ⟨aln,ajy,.func (acV "_law_mixed" "_law_mixed" (bw sZ) (bh sZ) (au sZ) .none alo alp alq ajz aen alr),aj6⟩) (c23:acE K aen "_law_mixed" = true) (k23:aaw K (.ref f23)=true)
   (a24:abI K mainGlobals "_law_pack" = some (some (.ref f24))) (l24:K.lookup f24=some ⟨als,ajA,.func (acV "_law_pack" "_law_pack" (bw zG) (bh zG) (au zG) .none alu alv alw ajB aeo alx),aj7⟩) (c24:acE K aeo "_law_pack" = true) (k24:aaw K (.ref f24)=true)
   (a25:abI K mainGlobals "_law_take" = some (some (.ref f25))) (l25:K.lookup f25=some ⟨aly,ajC,.func (acV "_law_take" "_law_take" (bw zH) (bh zH) (au zH) .none alz alA alB ajD aep alC),aj8⟩) (c25:acE K aep "_law_take" = true) (YK:aaw K (.ref f25)=true)
   (a26:abI K mainGlobals "_law_names" = some (some (.ref f26))) (l26:K.lookup f26=some ⟨alD,ajE,.func (acV "_law_names" "_law_names" (bw lG) (bh lG) (au lG) .none alE alF alG ajF aer alH),aj9⟩) (c26:acE K aer "_law_names" = true) (k26:aaw K (.ref f26)=true)
   (a27:abI K mainGlobals "_law_house" = some (some (.ref f27))) (l27:K.lookup f27=some ⟨alI,ajG,.func (acV "_law_house" "_law_house" (bw j6) (bh j6) (au j6) .none alJ alK alL ajH aes alM),akb⟩) (c27:acE K aes "_law_house" = true) (k27:aaw K (.ref f27)=true)
   (a28:abI K mainGlobals "_law_letters" = some (some (.ref f28))) (l28:K.lookup f28=some ⟨alN,ajI,.func (acV "_law_letters" "_law_letters" (bw gH) (bh gH) (au gH) .none alO alP alQ ajJ aeu alR),akc⟩) (c28:acE K aeu "_law_letters" = true) (k28:aaw K (.ref f28)=true)
   (a29:abI K mainGlobals "_law_ledger" = some (some (.ref f29))) (l29:K.lookup f29=some ⟨alS,ajK,.func (acV "_law_ledger" "_law_ledger" (bw jo) (bh jo) (au jo) .none alT alU alV ajL aev alW),akd⟩) (c29:acE K aev "_law_ledger" = true) (k29:aaw K (.ref f29)=true)
   (a30:abI K mainGlobals "_law_part" = some (some (.ref f30))) (l30:K.lookup f30=some ⟨alX,ajM,.func (acV "_law_part" "_law_part" (bw uF) (bh uF) (au uF) .none alY alZ al0 ajN aew al1),ake⟩) (c30:acE K aew "_law_part" = true) (k30:aaw K (.ref f30)=true)
   (a31:abI K mainGlobals "_law_by_reading" = some (some (.ref f31))) (l31:K.lookup f31=some ⟨al2,ajO,.func (acV "_law_by_reading" "_law_by_reading" (bw jF) (bh jF) (au jF) .none al3 al4 al5 ajP aex al6),akf⟩) (c31:acE K aex "_law_by_reading" = true) (k31:aaw K (.ref f31)=true)
   (a32:abI K mainGlobals "_law_due" = some (some (.ref f32))) (l32:K.lookup f32=some ⟨al7,ajQ,.func (acV "_law_due" "_law_due" (bw Ed) (bh Ed) (au Ed) .none al8 al9 ama ajR aey amb),akg⟩) (c32:acE K aey "_law_due" = true) (k32:aaw K (.ref f32)=true)
   (a33:abI K mainGlobals "law" = some (some (.ref f33))) (l33:K.lookup f33=some ⟨amc,ajS,.func (acV "law" "law" (bw Bx) (bh Bx) (au Bx) .none aez aeA aeB ad9 abd aeC),akh⟩) (c33:acE K abd "law" = true) (k33:aaw K (.ref f33)=true)
   (y1:abI K mainGlobals "LONGEST_NAME" = some (some (.int 8 t8))) (y2:abI K mainGlobals "MOST_HOUSES" = some (some (.int 6 t6))) (y3:abI K mainGlobals "MOST_ROWS" = some (some (.int 24 tR))) (y4:abI K mainGlobals "MOST_LETTERS" = some (some (.int 24 tL))) (z1:abI K mainGlobals "isinstance" = some none) (z2:abI K mainGlobals "int" = some none) (z3:abI K mainGlobals "bool" = some none) (z4:abI K mainGlobals "str" = some none) (z5:abI K mainGlobals "tuple" = some none) (z6:abI K mainGlobals "len" = some none) (z7:abI K mainGlobals "all" = some none) (z8:abI K mainGlobals "zip" = some none) (z9:abI K mainGlobals "set" = some none) (z10:abI K mainGlobals "sorted" = some none) (z11:abI K mainGlobals "divmod" = some none) (z12:abI K mainGlobals "range" = some none) (z13:abI K mainGlobals "max" = some none) (z14:abI K mainGlobals "min" = some none) (z15:abI K mainGlobals "abs" = some none) (z16:abI K mainGlobals "list" = some none) (z17:abI K mainGlobals "dict" = some none) :
   ∃ fd:aeF,(∀ (s:aat) (v:aau),ard s fd ⟨[v],[]⟩ [("_law_script",v)])/\∀ base:ae9,K.In base->base.Ns mainGlobals mg->aV l.prog w K mg base cG 8 fa fd ["_law_script"] (Ku K):=by
 have e:=hfa.symm.trans (abu X G a33)
 cases e
 have T:Txt mg t8 t6 tR tL:=⟨adR X G z1,adR X G z2,adR X G z3,adR X G z4,adR X G z5,adR X G z6,adR X G z7,adR X G z8,adR X G z9,adR X G z10,adR X G z11,adR X G z12,adR X G z13,adR X G z14,adR X G z15,adR X G z16,adR X G z17,abu X G y1,abu X G y2,abu X G y3,abu X G y4⟩
 have F1:=bU (st:=sV) l1 c1 k1
 have b1:=F1.binds (ps:=["thing"]) fun _ _ _ _ _ _ us hl=>match us,hl with | [_],_=>rfl
 have F2:=bU (st:=wF) l2 c2 k2
 have b2:=F2.binds (ps:=["thing"]) fun _ _ _ _ _ _ us hl=>match us,hl with | [_],_=>rfl
 have F3:=bU (st:=sW) l3 c3 k3
 have b3:=F3.binds (ps:=["thing","many"]) fun _ _ _ _ _ _ us hl=>match us,hl with | [_,_],_=>rfl
 have F4:=bU (st:=lD) l4 c4 k4
 have b4:=F4.binds (ps:=["values"]) fun _ _ _ _ _ _ us hl=>match us,hl with | [_],_=>rfl
 have F5:=bU (st:=sX) l5 c5 k5
 have b5:=F5.binds (ps:=["thing"]) fun _ _ _ _ _ _ us hl=>match us,hl with | [_],_=>rfl
 have F6:=bU (st:=qg) l6 c6 k6
 have b6:=F6.binds (ps:=["name","low","high","drift"]) fun _ _ _ _ _ _ us hl=>match us,hl with | [_,_,_,_],_=>rfl
 have F7:=bU (st:=Ec) l7 c7 k7
 have b7:=F7.binds (ps:=["thing"]) fun _ _ _ _ _ _ us hl=>match us,hl with | [_],_=>rfl
 have F8:=bU (st:=qj) l8 c8 k8
 have b8:=F8.binds (ps:=["thing"]) fun _ _ _ _ _ _ us hl=>match us,hl with | [_],_=>rfl
 have F9:=bU (st:=lE) l9 c9 k9
 have b9:=F9.binds (ps:=["house"]) fun _ _ _ _ _ _ us hl=>match us,hl with | [_],_=>rfl
 have F10:=bU (st:=iC) l10 c10 k10
 have b10:=F10.binds (ps:=["houses"]) fun _ _ _ _ _ _ us hl=>match us,hl with | [_],_=>rfl
 have F11:=bU (st:=oE) l11 c11 k11
 have b11:=F11.binds (ps:=["names"]) fun _ _ _ _ _ _ us hl=>match us,hl with | [_],_=>rfl
 have F12:=bU (st:=jE) l12 c12 k12
 have b12:=F12.binds (ps:=["thing"]) fun _ _ _ _ _ _ us hl=>match us,hl with | [_],_=>rfl
 have F13:=bU (st:=oF) l13 c13 k13
 have b13:=F13.binds (ps:=["thing"]) fun _ _ _ _ _ _ us hl=>match us,hl with | [_],_=>rfl
 have F14:=bU (st:=gY) l14 c14 k14
 have b14:=F14.binds (ps:=["thing","houses"]) fun _ _ _ _ _ _ us hl=>match us,hl with | [_,_],_=>rfl
 have F15:=bU (st:=oG) l15 c15 k15
 have b15:=F15.binds (ps:=["thing"]) fun _ _ _ _ _ _ us hl=>match us,hl with | [_],_=>rfl
 have F16:=bU (st:=lF) l16 c16 k16
 have b16:=F16.binds (ps:=["ledger"]) fun _ _ _ _ _ _ us hl=>match us,hl with | [_],_=>rfl
 have F17:=bU (st:=uE) l17 c17 k17
 have b17:=F17.binds (ps:=["one","other"]) fun _ _ _ _ _ _ us hl=>match us,hl with | [_,_],_=>rfl
 have F18:=bU (st:=ql) l18 c18 k18
 have b18:=F18.binds (ps:=["one","other"]) fun _ _ _ _ _ _ us hl=>match us,hl with | [_,_],_=>rfl
 have F19:=bU (st:=oH) l19 c19 k19
 have b19:=F19.binds (ps:=["one","other"]) fun _ _ _ _ _ _ us hl=>match us,hl with | [_,_],_=>rfl
 have F20:=bU (st:=gZ) l20 c20 k20
 have b20:=F20.binds (ps:=["one","other"]) fun _ _ _ _ _ _ us hl=>match us,hl with | [_,_],_=>rfl
 have F21:=bU (st:=iD) l21 c21 k21
 have b21:=F21.binds (ps:=["one","other"]) fun _ _ _ _ _ _ us hl=>match us,hl with | [_,_],_=>rfl
 have F22:=bU (st:=oJ) l22 c22 k22
 have b22:=F22.binds (ps:=["one","other"]) fun _ _ _ _ _ _ us hl=>match us,hl with | [_,_],_=>rfl
 have F23:=bU (st:=sZ) l23 c23 k23
 have b23:=F23.binds (ps:=["_law_cell"]) fun _ _ _ _ _ _ us hl=>match us,hl with | [_],_=>rfl
 have F24:=bU (st:=zG) l24 c24 k24
 have b24:=F24.binds (ps:=["_law_script","_law_k"]) fun _ _ _ _ _ _ us hl=>match us,hl with | [_,_],_=>rfl
 have F25:=bU (st:=zH) l25 c25 YK
 have b25:=F25.binds (ps:=["_law_pack_here","_law_size"]) fun _ _ _ _ _ _ us hl=>match us,hl with | [_,_],_=>rfl
 have F26:=bU (st:=lG) l26 c26 k26
 have b26:=F26.binds (ps:=["_law_pack_here","_law_amount"]) fun _ _ _ _ _ _ us hl=>match us,hl with | [_,_],_=>rfl
 have F27:=bU (st:=j6) l27 c27 k27
 have b27:=F27.binds (ps:=["_law_pack_here","_law_name","_law_names_here","_law_room"]) fun _ _ _ _ _ _ us hl=>match us,hl with | [_,_,_,_],_=>rfl
 have F28:=bU (st:=gH) l28 c28 k28
 have b28:=F28.binds (ps:=["_law_pack_here","_law_houses","_law_hidden"]) fun _ _ _ _ _ _ us hl=>match us,hl with | [_,_,_],_=>rfl
 have F29:=bU (st:=jo) l29 c29 k29
 have b29:=F29.binds (ps:=["_law_script","_law_k"]) fun _ _ _ _ _ _ us hl=>match us,hl with | [_,_],_=>rfl
 have F30:=bU (st:=uF) l30 c30 k30
 have b30:=F30.binds (ps:=["_law_pack_here","_law_ledger_here"]) fun _ _ _ _ _ _ us hl=>match us,hl with | [_,_],_=>rfl
 have F31:=bU (st:=jF) l31 c31 k31
 have b31:=F31.binds (ps:=["_law_run"]) fun _ _ _ _ _ _ us hl=>match us,hl with | [_],_=>rfl
 have F32:=bU (st:=Ed) l32 c32 k32
 have b32:=F32.binds (ps:=["_law_one","_law_other"]) fun _ _ _ _ _ _ us hl=>match us,hl with | [_,_],_=>rfl
 have F33:=bU (st:=Bx) l33 c33 k33
 have b33:=F33.binds (ps:=["_law_script"]) fun _ _ _ _ _ _ us hl=>match us,hl with | [_],_=>rfl
 refine ⟨acV "law" "law" (bw Bx) (bh Bx) (au Bx) .none aez aeA aeB ad9 abd aeC,fun s v=>.of_eq rfl,fun base _ _=>?_⟩
 have G1:aV l.prog w K mg base cG 1 f1 _ ["thing"] (qU K):=Q8 F1 T
 have G2:aV l.prog w K mg base cG 1 f2 _ ["thing"] (vZ K):=Wb F2 T
 have G3:aV l.prog w K mg base cG 1 f3 _ ["thing","many"] oh:=Rf F3 T
 have G4:aV l.prog w K mg base cG 1 f4 _ ["values"] qY:=Mg F4 T
 have G5:aV l.prog w K mg base cG 2 f5 _ ["thing"] (Bo fO):=Rh F5 G3 (abu X G a3) k3 b3 G2 (abu X G a2) k2 b2 G1 (abu X G a1) k1 b1
 have G6:aV l.prog w K mg base cG 2 f6 _ ["name","low","high","drift"] Bp:=Rj F6 T G2 (abu X G a2) k2 b2 G1 (abu X G a1) k1 b1
 have G7:aV l.prog w K mg base cG 3 f7 _ ["thing"] (Bo v7):=aal F7 T G5 (abu X G a5) k5 b5 (G4.mono (by decide)) (abu X G a4) k4 b4
 have G8:aV l.prog w K mg base cG 4 f8 _ ["thing"] (Bo fP):=Rk F8 T (G3.mono (by decide)) (abu X G a3) k3 b3 (G6.mono (by decide)) (abu X G a6) k6 b6 G7 (abu X G a7) k7 b7
 have G9:aV l.prog w K mg base cG 1 f9 _ ["house"] q9:=Mi F9
 have G10:aV l.prog w K mg base cG 2 f10 _ ["houses"] p7:=Ek F10 G9 (abu X G a9) k9 b9
 have G11:aV l.prog w K mg base cG 1 f11 _ ["names"] wg:=Ml F11 T
 have G12:aV l.prog w K mg base cG 5 f12 _ ["thing"] (Bo jk):=Mp F12 T G8 (abu X G a8) k8 b8 (G10.mono (by decide)) (abu X G a10) k10 b10 (G11.mono (by decide)) (abu X G a11) k11 b11
 have G13:aV l.prog w K mg base cG 2 f13 _ ["thing"] (Bo dW):=Mq F13 G3 (abu X G a3) k3 b3 G2 (abu X G a2) k2 b2 G1 (abu X G a1) k1 b1
 have G14:aV l.prog w K mg base cG 3 f14 _ ["thing","houses"] sJ:=Hw F14 T G13 (abu X G a13) k13 b13 (G9.mono (by decide)) (abu X G a9) k9 b9 (G4.mono (by decide)) (abu X G a4) k4 b4
 have G15:aV l.prog w K mg base cG 6 f15 _ ["thing"] (Bo ou):=Ms F15 (G3.mono (by decide)) (abu X G a3) k3 b3 G12 (abu X G a12) k12 b12 (G14.mono (by decide)) (abu X G a14) k14 b14
 have G16:aV l.prog w K mg base cG 1 f16 _ ["ledger"] xT:=Nt F16 T
 have G17:aV l.prog w K mg base cG 1 f17 _ ["one","other"] Ig:=Xa F17 T
 have G18:aV l.prog w K mg base cG 2 f18 _ ["one","other"] Cq:=Tc F18 T G17 (abu X G a17) k17 b17
 have G19:aV l.prog w K mg base cG 3 f19 _ ["one","other"] xW:=NQ F19 G18 (abu X G a18) k18 b18
 have G20:aV l.prog w K mg base cG 4 f20 _ ["one","other"] uc:=Il F20 T G19 (abu X G a19) k19 b19 (G16.mono (by decide)) (abu X G a16) k16 b16
 have G21:aV l.prog w K mg base cG 1 f21 _ ["one","other"] qG:=FT F21 T
 have G22:aV l.prog w K mg base cG 7 f22 _ ["one","other"] yc:=N8 F22 (G20.mono (by decide)) (abu X G a20) k20 b20 (G21.mono (by decide)) (abu X G a21) k21 b21 G15 (abu X G a15) k15 b15
 have G23:aV l.prog w K mg base cG 1 f23 _ ["_law_cell"] Br:=Ra F23
 have G24:aV l.prog w K mg base cG 2 f24 _ ["_law_script","_law_k"] (Bs K):=Wd F24 T G23 (abu X G a23) k23 b23
 have G25:aV l.prog w K mg base cG 1 f25 _ ["_law_pack_here","_law_size"] qb:=Wf F25 T
 have G26:aV l.prog w K mg base cG 2 f26 _ ["_law_pack_here","_law_amount"] wG:=Rb F26 T G25 (abu X G a25) YK b25
 have G27:aV l.prog w K mg base cG 2 f27 _ ["_law_pack_here","_law_name","_law_names_here","_law_room"] tK:=HF F27 T G25 (abu X G a25) YK b25
 have G28:aV l.prog w K mg base cG 2 f28 _ ["_law_pack_here","_law_houses","_law_hidden"] lN:=BX F28 T G25 (abu X G a25) YK b25
 have G29:aV l.prog w K mg base cG 3 f29 _ ["_law_script","_law_k"] (qu K):=Ey F29 T G24 (abu X G a24) k24 b24 G26 (abu X G a26) k26 b26 (G25.mono (by decide)) (abu X G a25) YK b25 G27 (abu X G a27) k27 b27 G28 (abu X G a28) k28 b28
 have G30:aV l.prog w K mg base cG 2 f30 _ ["_law_pack_here","_law_ledger_here"] Iz:=Xz F30 T G25 (abu X G a25) YK b25
 have G31:aV l.prog w K mg base cG 1 f31 _ ["_law_run"] xX:=NZ F31 T
 have G32:aV l.prog w K mg base cG 2 f32 _ ["_law_one","_law_other"] Uh:=aaX F32 T G31 (abu X G a31) k31 b31
 exact abb F33 T (G29.mono (by decide)) (abu X G a29) k29 b29 (G24.mono (by decide)) (abu X G a24) k24 b24 (G30.mono (by decide)) (abu X G a30) k30 b30 G22 (abu X G a22) k22 b22 (G32.mono (by decide)) (abu X G a32) k32 b32 (G15.mono (by decide)) (abu X G a15) k15 b15
theorem walk {l:apZ} {q:acs} {loose:List Str} {XP:(Str->Option aau)->ae9->Prop} {YP:adH->ae9->Prop} {d:DefRec} {K:Params->aas} (hn:l.most=some 63) (hdf:d.params.defaults=[])
   (hY:∀ (w:adH) (h:ae9),YP w h->(K w.params).In h)
   (F:∀ (w:adH) (mg:Str->Option aau) (fa:abm) (h:ae9),(K w.params).In h->h.Ns mainGlobals mg->mg d.name=some (.ref fa) ->
     ∃ fd:aeF,(∀ (s:aat) (u:aau),ard s fd ⟨[u],[]⟩ [("_law_script",u)])/\∀ base:ae9,(K w.params).In base->base.Ns mainGlobals mg->aV l.prog w (K w.params) mg base cG 8 fa fd ["_law_script"] (Ku (K w.params))) :
   PySem.W.WalkO q loose XP YP l.row.toRowW d [] (fun f vs=>PySem.call f vs) :=
 Oo (n:=63) (k:=8) (x:="_law_script") (CX:=fun _=>cG) (sp:=fun w=>Ku (K w.params)) hn (by decide) hdf ⟨rfl,by decide,by decide⟩ hY F (fun _ _ a ns hl hb _ hS=>⟨a,ns,rfl,hS,hl,hb,fun _=>rfl⟩) fun _ _ _ _ _ z=>z
end mz
def PySem.W.Fast.tw9947437112145452031 : Unit := ()
def PySem.W.Fast.tw12410721647339316611 : Unit := ()
def PySem.W.Fast.tw5749020192238294847 : Unit := ()
def PySem.W.Fast.tw4192144683820211546 : Unit := ()
def PySem.W.Fast.tw4763745550476722745 : Unit := ()
def PySem.W.Fast.tw7547288026312175986 : Unit := ()
def PySem.W.Fast.tw3254617808082476760 : Unit := ()
def PySem.W.Fast.tw5938115382345910378 : Unit := ()
def PySem.W.Fast.tw9033010304564765042 : Unit := ()
def PySem.W.Fast.tw9740768199429871539 : Unit := ()
def PySem.W.Fast.tw17265336030826063835 : Unit := ()
def PySem.W.Fast.tw3111928751363188317 : Unit := ()
def PySem.W.Fast.tw8543225593658994794 : Unit := ()
def PySem.W.Fast.tw14331127873951159982 : Unit := ()
def PySem.W.Fast.tw7536448676936845171 : Unit := ()
def PySem.W.Fast.tw13003413991146752196 : Unit := ()
def PySem.W.Fast.tw7349866752554298731 : Unit := ()
def PySem.W.Fast.tw13535821650260572106 : Unit := ()
def PySem.W.Fast.tw14403493814067433065 : Unit := ()
def PySem.W.Fast.tw14803575935715335539 : Unit := ()
def PySem.W.Fast.tw1886157979084945418 : Unit := ()
def PySem.W.Fast.tw9775561891883405675 : Unit := ()
def PySem.W.Fast.tw17943882365385310885 : Unit := ()
def PySem.W.Fast.tw17197050103965810223 : Unit := ()
def PySem.W.Fast.tw11573929221847062168 : Unit := ()
def PySem.W.Fast.tw17531106198870503820 : Unit := ()
def PySem.W.Fast.tw8557473977177964487 : Unit := ()
def PySem.W.Fast.tw6676654528800390649 : Unit := ()
def PySem.W.Fast.tw10037414637257348379 : Unit := ()
def PySem.W.Fast.tw17152722209996111111 : Unit := ()
def PySem.W.Fast.tw13435726267445895583 : Unit := ()
def PySem.W.Fast.tw5109382786315511857 : Unit := ()
def PySem.W.Fast.tw14133120854909986212 : Unit := ()
def PySem.W.Fast.tw15966060506204614767 : Unit := ()
def PySem.W.Fast.tw4738178646303627555 : Unit := ()
def PySem.W.Fast.tw11177115504980111202 : Unit := ()
def PySem.W.Fast.tw892855327775219275 : Unit := ()
def PySem.W.Fast.tw12421441656981141319 : Unit := ()
open PySem PySem.W PyProof.Rows
set_option maxRecDepth 100000 in
set_option maxHeartbeats 0 in
theorem PySem.Challenge.cw_skewbooks_k44_ledgers_merged_holds : PySem.Challenge.rw_skewbooks_k44_ledgers_merged.Holds := by
 w_on; o_law; k_head; (case hw=>w_witness2)
 k_fill
 refine mz.walk (l:=PySem.Challenge.rw_skewbooks_k44_ledgers_merged) rfl rfl (fun w h Y=>PySem.W.kIn_of Y) ?F
 case F =>
   intro w mg fa h KX G hmg
   refine' mz.all_mk KX G hmg ?a1 ?l1 ?c1 ?k1 ?a2 ?l2 ?c2 ?k2 ?a3 ?l3 ?c3 ?k3 ?a4 ?l4 ?c4 ?k4 ?a5 ?l5 ?c5 ?k5 ?a6 ?l6 ?c6 ?k6 ?a7 ?l7 ?c7 ?k7 ?a8 ?l8 ?c8 ?k8 ?a9 ?l9 ?c9 ?k9 ?a10 ?l10 ?c10 ?k10 ?a11 ?l11 ?c11 ?k11 ?a12 ?l12 ?c12 ?k12 ?a13 ?l13 ?c13 ?k13 ?a14 ?l14 ?c14 ?k14 ?a15 ?l15 ?c15 ?k15 ?a16 ?l16 ?c16 ?k16 ?a17 ?l17 ?c17 ?k17 ?a18 ?l18 ?c18 ?k18 ?a19 ?l19 ?c19 ?k19 ?a20 ?l20 ?c20 ?k20 ?a21 ?l21 ?c21 ?k21 ?a22 ?l22 ?c22 ?k22 ?a23 ?l23 ?c23 ?k23 ?a24 ?l24 ?c24 ?k24 ?a25 ?l25 ?c25 ?YK ?a26 ?l26 ?c26 ?k26 ?a27 ?l27 ?c27 ?k27 ?a28 ?l28 ?c28 ?k28 ?a29 ?l29 ?c29 ?k29 ?a30 ?l30 ?c30 ?k30 ?a31 ?l31 ?c31 ?k31 ?a32 ?l32 ?c32 ?k32 ?a33 ?l33 ?c33 ?k33 ?y1 ?y2 ?y3 ?y4 ?z1 ?z2 ?z3 ?z4 ?z5 ?z6 ?z7 ?z8 ?z9 ?z10 ?z11 ?z12 ?z13 ?z14 ?z15 ?z16 ?z17
   (case a1=>k_is)
   (case l1=>k_is)
   (case c1=>k_is)
   (case k1=>k_is)
   (case a2=>k_is)
   (case l2=>k_is)
   (case c2=>k_is)
   (case k2=>k_is)
   (case a3=>k_is)
   (case l3=>k_is)
   (case c3=>k_is)
   (case k3=>k_is)
   (case a4=>k_is)
   (case l4=>k_is)
   (case c4=>k_is)
   (case k4=>k_is)
   (case a5=>k_is)
   (case l5=>k_is)
   (case c5=>k_is)
   (case k5=>k_is)
   (case a6=>k_is)
   (case l6=>k_is)
   (case c6=>k_is)
   (case k6=>k_is)
   (case a7=>k_is)
   (case l7=>k_is)
   (case c7=>k_is)
   (case k7=>k_is)
   (case a8=>k_is)
   (case l8=>k_is)
   (case c8=>k_is)
   (case k8=>k_is)
   (case a9=>k_is)
   (case l9=>k_is)
   (case c9=>k_is)
   (case k9=>k_is)
   (case a10=>k_is)
   (case l10=>k_is)
   (case c10=>k_is)
   (case k10=>k_is)
   (case a11=>k_is)
   (case l11=>k_is)
   (case c11=>k_is)
   (case k11=>k_is)
   (case a12=>k_is)
   (case l12=>k_is)
   (case c12=>k_is)
   (case k12=>k_is)
   (case a13=>k_is)
   (case l13=>k_is)
   (case c13=>k_is)
   (case k13=>k_is)
   (case a14=>k_is)
   (case l14=>k_is)
   (case c14=>k_is)
   (case k14=>k_is)
   (case a15=>k_is)
   (case l15=>k_is)
   (case c15=>k_is)
   (case k15=>k_is)
   (case a16=>k_is)
   (case l16=>k_is)
   (case c16=>k_is)
   (case k16=>k_is)
   (case a17=>k_is)
   (case l17=>k_is)
   (case c17=>k_is)
   (case k17=>k_is)
   (case a18=>k_is)
   (case l18=>k_is)
   (case c18=>k_is)
   (case k18=>k_is)
   (case a19=>k_is)
   (case l19=>k_is)
   (case c19=>k_is)
   (case k19=>k_is)
   (case a20=>k_is)
   (case l20=>k_is)
   (case c20=>k_is)
   (case k20=>k_is)
   (case a21=>k_is)
   (case l21=>k_is)
   (case c21=>k_is)
   (case k21=>k_is)
   (case a22=>k_is)
   (case l22=>k_is)
   (case c22=>k_is)
   (case k22=>k_is)
   (case a23=>k_is)
   (case l23=>k_is)
   (case c23=>k_is)
   (case k23=>k_is)
   (case a24=>k_is)
   (case l24=>k_is)
   (case c24=>k_is)
   (case k24=>k_is)
   (case a25=>k_is)
   (case l25=>k_is)
   (case c25=>k_is)
   (case YK=>k_is)
   (case a26=>k_is)
   (case l26=>k_is)
   (case c26=>k_is)
   (case k26=>k_is)
   (case a27=>k_is)
   (case l27=>k_is)
   (case c27=>k_is)
   (case k27=>k_is)
   (case a28=>k_is)
   (case l28=>k_is)
   (case c28=>k_is)
   (case k28=>k_is)
   (case a29=>k_is)
   (case l29=>k_is)
   (case c29=>k_is)
   (case k29=>k_is)
   (case a30=>k_is)
   (case l30=>k_is)
   (case c30=>k_is)
   (case k30=>k_is)
   (case a31=>k_is)
   (case l31=>k_is)
   (case c31=>k_is)
   (case k31=>k_is)
   (case a32=>k_is)
   (case l32=>k_is)
   (case c32=>k_is)
   (case k32=>k_is)
   (case a33=>k_is)
   (case l33=>k_is)
   (case c33=>k_is)
   (case k33=>k_is)
   (case y1=>k_is)
   (case y2=>k_is)
   (case y3=>k_is)
   (case y4=>k_is)
   (case z1=>k_is)
   (case z2=>k_is)
   (case z3=>k_is)
   (case z4=>k_is)
   (case z5=>k_is)
   (case z6=>k_is)
   (case z7=>k_is)
   (case z8=>k_is)
   (case z9=>k_is)
   (case z10=>k_is)
   (case z11=>k_is)
   (case z12=>k_is)
   (case z13=>k_is)
   (case z14=>k_is)
   (case z15=>k_is)
   (case z16=>k_is)
   (case z17=>k_is)
