import PyProof.Rows.All
import Wide.All
import OpenK.AllK
import Wide.FinOn
import Lean
import PyProof.EqAt
import PyProof.EqKinds
import PyProof.TupleCall
import PySem.Challenge.RW_skewbooks_k39_letters_refused
import PyProof.AutoListH
import PyProof.MeetsSeq
import PyProof.P3In
import PyProof.Rows.All
import PyProof.SumWalk
set_option Elab.async false
set_option linter.all false
set_option maxRecDepth 100000
open PySem renaming wpAny_bind->El,Value->aat,wpAny_pure->aau,Shared->aav,Addr->aaH,Program->abt,sizeLine_eq->aby,Paired->abG,FuncData->abL,World->acU,Around->acX,wpAny_holding->ac6,boot_len->adp,wpAny_newObj_type->adH,wpAny_call_entry->aea,codeAny_builtin->aev,wpAny_truthy_bool->aeQ,Heap->afp,wpAny_callSpecial?_slot->afw,mem_of_lookup->afC,Builtin->afD,wpAny_mono->afF,wpAny_typeNameOfWhole_keyiter->af8,codeAny_call_builtin->aga,codeAny_mono->agq,wpAny_pyIter_list->agI,wpAny_isInstance->ag5,builtinLookup_eq_fast->aha,wpAny_setField->ahl,wpAny_typeNameOf_keyiter->ahI,plainId_quiet->ahV,DictEntry->ah3,wpAny_Call_Name_kw->aik,Stmt->air,wpAny_call->aiz,wpAny_attempt->aiB,wpAny_loadPart_at->aiF,PyData->ajb,wpAny_typeOf->ajA,wpAny_specialOf->ajB,wpAny_execs_nil->ajD,wpAny_standAt->ajK,wpAny_passesOwn->ajO,NameKind->ajQ,codeAny_of_tree->ajW,typeLookup_type->ajZ,plainObj_wpAny_Assign_Attribute->aks,wpAny_field->akt,wpAny_dictEntries->akD,wpAny_setState_of->akF,isSubtype_type->akG,wpAny_notOrdered_dict->akL,wpAny_pyIter_keyiter->akV,wpAny_of_eq->alP,wpAny_setEntries_of->alV,GenState->al6,tupleKind_room_in1->al8,call_meetsIn->al9,wpAny_fieldsOf->amj,wpAny_pyIter_slot->amt,wpAny_newList->amD,wpAny_Call_method0_late->amG,wpAny_execs_cons->amK,noFill_tuple_add->amL,entryFor_of_tree->amN,wpAny_askSetting->amP,wpAny_pyNext_list_item->amQ,wpAny_pyNext_range_end->amR,wpAny_pyIter_rangeiter->amS,Within->am6,wpAny_isTrue_Compare1->am8,wpAny_pyNext_list_end->am9,weight_type_call_type->ani,wpAny_dictEpoch->anl,wpAny_isOneOf_keyiter->anm,wpAny_loadPart->anJ,IsPart->anL,wpAny_seqItems->anR,wpAny_tryCatch->anS,IsRangeIter->anZ,evalArgs_none->an4,wpAny_isSubtype_exc->an6,wpAny_pyIter_range->an9,intBits_le_64->aoa,Result->aod,seq_tuple_add->aof,wpAny_rule->aov,wpAny_assign_Name->aow,Keyword->aoD,wpAny_sequenceKey->aoE,typeIs_int->aoG,call_meets->aoI,concat_meets->aoT,seqIndex_neg->aoU,Model->ao6,BindsTo->ao9,seqIndex_of->apa,wpAny_mkInt->ape,ClassData->apf,wpAny_Name->apg,typeIs_str->apk,CmpOp->apq,OwnTail->apv
open List renaming length_map->aac,getElem?_eq_getElem->aaj,length_append->aay,getElem?_map->aaJ,mem_singleton->abe,mem_map->abj,mem_cons_of_mem->abk,size_toArray->abm,map_cons->abn,map_append->abp,mem_of_getElem?->abq,mem_cons->abu,mem_append->abv,mem_cons_self->abw,take_add_one->abz,length_cons->abD,getElem?_eq_some_iff->abE,length_take->abI,nodup_iff_pairwise_ne->abJ,mem_append_right->abN,all_eq_true->abP,range->acF,take_length->acL,getElem_of_mem->ac5,pairwise_map->ado,mem_range->adv,length_nil->adw,append_nil->adx,append_assoc->adz,flatMap_append->adR,take_of_length_le->adT,mem_flatMap->aef,mem_filter->aej,eq_nil_of_length_eq_zero->aeu,nodup_append->aeS,map_map->afn,mem_map_of_mem->afs,replicate->aft,lookup_cons->afu,mem_append_left->afx,take_sublist->afH,length->afN,mem_of_mem_take->afP,length_drop->afQ,flatMap_cons->afX,filter_eq_self->afY,length_filter_le->af5,cons_append->af7,getElem?_set_ne->af9,getElem?_inj->agL,getElem?_set_self->agX,getElem?_append_right->agY,getElem?_eq_none->ag7,take_append_drop->ag9,filter_append->ahb,map_singleton->ahc,nodup_cons->ahn,getD->ahK,lookup->ahQ,any_cons->ahT,map_congr_left->ah0,getElem_inj->ah2,any_eq_true->ah4,getElem_mem->ah5,flatMap_nil->ah6,take_zero->aie,find?_cons->ait,length_range->aiC,not_mem_nil->ajl,getElem?_range->aju,mem_filterMap->ajL,filter_cons_of_neg->aj9,getElem_cons_drop->akm,any_eq_false->akr,length_replicate->akJ,take_eq_take_iff->akK,map_flatMap->akN,mem_flatten->akO,ext_getElem->akP,filterMap_cons->alI,filter_sublist->alT,nil_append->alU,perm_ext_iff_of_nodup->al4,any_map->ama,getElem?_append_left->amg,drop_zero->amh,drop_take->ami,mem_of_find?_eq_some->amk,getElem_take->amr,find?_append->amu,pairwise_singleton->amE,filter_cons_of_pos->amI,drop_of_length_le->amW,find?_cons_of_neg->am0,filter_eq_nil_iff->am3,drop_eq_nil_of_le->am5,of_mem_zip->anc,map_nil->ane,eq_nil_or_concat->anq,concat_eq_append->anr,mem_iff_getElem->anF,pairwise_append->anH,getElem_toArray->anI,nodup_nil->anM,forIn_nil->anN,replicate_succ->an3,zip_cons_cons->aop,filter_filter->aoq,drop_sublist->aoL,set_set->ao0
open PySem.W renaming Frag->aaf,mg_of->aaC,kitOne->abf,nsIn->abg,findIn->abF,mg_none_of->acD,kia_one->afz,emptyDict->afG,hideAll_get->afT,keepIn->afZ,excIn->af2,isFn->agp,fnOf->agy,instObj->agM,hideAll->agO,hasDictIn->ahm,callWith_K->ain,exmOne->aji,plainGet->ajj,kdu_collect->ajm,of_hideAll->ajC,mroIn->ajP,subIn->akc,tailIn->akH,methodCall_KW->akI,looks_findIn->akM,plainGet_of->alJ,isNs_of_in->amd,lookIn->ame,InstAt->amf,methodObj->amm,plainOver->amn,cellsFrom_some->amU,funFrames_hide->am4,takerIn->ana,makesIn->anb,OpenLaw->anA,hideAll_none->anC,codeIn->anK,looks_clsIn->an0,tail_of_in->aor,Looks->aot,clsIn->aou,set_plain->aox,kitx_list->aoA,kitx_dict->aoB,Looks->aoK,kat_cons->apn,WData->apo,kas_rev->apu
open PySem.Heap renaming get?_push_of_some->aar,get?_push_size->aaL,lt_size->abh,get?_update_other->ac9,get?_update_self->adP,size_push->afy,SameBut->ag6,get?_push_ne->aoM
open Nat renaming le_refl->aaw,ne_of_lt->abB,zero_le->abH,le_of_ble_eq_true->abO,lt_of_lt_of_le->ab4,le_trans->adS,lt_irrefl->afM,lt_succ_of_lt->afV,le_of_lt->af3,min_eq_left->aiv,add_le_add_right->aiJ,lt_succ_self->ajk,ne_of_gt->ajy,le_succ_of_le->akE,le_succ->alK,le_of_succ_le->amq,sub_zero->anh,le_of_eq->aoO,lt_or_ge->aoV
open Bool renaming false_ne_true->aaK,and_eq_true_iff->abr,false_eq_true->adi,and_eq_true->adB,eq_iff_iff->aen,and_false->afB,false_and->afK,true_and->ahZ,eq_false_iff->aiE,or_false->amB,beq_eq_decide_eq->ang
open PyProof.Rows renaming boot_isinstance->abl,boot_tuple->acn,boot_sorted->adt,slot_tuple_getitem->afU,boot_list->aij,callWith_type1->ais,boot_all->aiy,IntsAre->ajV,boot_dict->akn,subscriptTail_builtinR->amV,AllBare->am7,entry_list_sort->anj,boot_str->ano,boot_set->anp,boot_max->ant,boot_any->anw,slot_list_sort->anO,args_list_sort->anP,sortedHeap_old->anQ,entry_tuple_getitem->an1,args_tuple_getitem->aog,sortedHeap_at->aol,listUpdate_at->aoo,plain_sorted->aoW,entry_sorted->aoX,args_sorted1->aoY,IsTup->ao2,kind_sorted->apc,seqEpoch_at->apd,Subscript_->apj,StrsAre->apt
open Option.some renaming inj->abx
open PySem.Value renaming ref->abA,int->abW,none->acS,type->afE,builtin->afL,bool->ah7,isInt->akq,str->aml,float->ao5
open Array renaming length_toList->abC,getElem?_eq_some_iff->afS,getElem?_toList->af4,getElem?_eq_getElem->ajd,getElem?_eq_none->akl,toArray_toList->akS,getD_eq_getD_getElem?->alR,toList_inj->amM,mem_toList_iff->anD,find?_toList->aob,getD->apl
open Prod renaming fst->ab5,snd->aiA,ext->ao4
open PySem.PassesOwn renaming never->acK
open Ne renaming symm->acV
open Sum renaming inr->acW,inl->afv
open PySem.Builtin.Range renaming rangeSize->ac1,rangeFitsLong->alO,small->an2
open PySem.NameKind renaming free->ac7,cell->af0
open PySem.F renaming plainAttrs_list->adq,slot_list_append->adC,type_list_append->adD,slot_dict_keyiterator_next->afJ,plainAttrs_dict->ah1,args_dict_keyiterator_next_1->ajc,entry_dict_keyiterator_next->ajt,args_tuple_add_2->ajz,entry_tuple_add->ajT,slot_tuple_add->akd,plain_sum_loop->akQ,slot_dict_setdefault->alH,slot_NoneType_hash->alW,sub_list_frozenset->al2,excBase_ValueError->al5,slot_dict_update->ams,args_dict_init_2->amv,slot_dict_values->amy,entry_type_call->amC,entry_dict_init->amF,slot_dict_items->amH,typeCall_set_1->amX,entry_set_init->amY,slot_dict_iter->amZ,slot_dict_len->anv,plain_set_new->anx,slot_set_iter->anz,sub_list_set->anG
open PyProof.Rows.F renaming plain_set_update_loop->ady,entry_set_update_loop->afA
open PySem.PyData renaming canLayAll0->adA,depthAll->afr,canLay0->agz,depth->agB,eqv->ahH,eqvAll->aom
open Int renaming eq_ofNat_of_zero_le->adQ,toNat_natCast->afI,fmod_eq_emod_of_nonneg->alY,fdiv_eq_ediv_of_nonneg->alZ,zero_add->anu,le_refl->apb
open PySem.Around renaming under_plainId->adU,under_plain->aoj,under->aoP
open False renaming elim->aek
open True renaming intro->aeR
open Option renaming map_eq_some_iff->afo,isSome_iff_exists->af6,map_some->ahG,isSome_map->amo,map_eq_none_iff->am2,isSome_some->aoh
open Or renaming inl->afO,inr->aps
open PySem.Str renaming ofString->afR,length->aku
open PySem.Heap.SameBut renaming update->afW,refl->aoJ
open PySem.Paired renaming length->ago
open PySem.Txt renaming slice->agP,slice->alM,slice_le->amc
open PySem.Obj renaming data_mapFields->ag8,mapSeq->aic,isFreed_of_fields->aix,mapFields->akZ,putSet->apm
open PySem.Builtin.Slice renaming slicePlaces->ahj,sliceAdjust->aja,sliceApplied->al0
open PySem.Calls renaming call_function_entry->ahk,callWith_builtin->aii,evalArgs_plain->akR,Name_function_global->alX,spliced_cons->al7,spliced_nil->aoC
open PySem.Builtin.Tuple renaming tupleExact->ahF,tupleItemsOf->al1
open Sum.inr renaming inj->ahL
open PySem.Builtin.Dict renaming updateFrom->ahW,selfAndRest->amw,addKeywords->amx,pairItems->am1,showsAll->ank
open PySem.Code renaming quiet_builtin->aio,isFrame->aoQ
open PySem.SeqAt renaming shaped->aiu,EqAt->aph
open List.Pairwise renaming nil->akC
open PySem.W.WData renaming weight->akW,weightAll->amJ,int->aoN
open PySem.Builtin.Frozenset renaming updateFrom->akX
open PySem.Builtin.Dict_items renaming ownsTuple->akY
open PySem.Data renaming dict->alL,fields->ao7
open PySem.Builtin.Str renaming strSliceIndices->alN
open PySem.Builtin.Int renaming intBits->alQ
open PySem.Builtin.List renaming listLengthHint->alS,listFitsIndex->al3
open PySem.Heap.DictOf renaming typeIs->amb,new->anf
open Sum.inl renaming inj->amA
open List.Sublist renaming map->amO
open PyProof renaming noPylong_small->amT
open PySem.Walks renaming list->anB
open PySem.SeqAt.EqAt renaming bool_bool->anE,int_none->anU,str_none->anV,none_int->anW,none_str->anY,int_str->an7,str_int->an8,int_int->aoe
open PySem.SetTable renaming below->anT
open PySem.EntryCells renaming newEntry->an5
open PySem.W.Looks renaming here->aoc,of_pure->aos
open PyProof.Rows.LSm renaming kept_iter->aoi
open PySem.Shared renaming TypeIs->aok
open List.Perm renaming map->aon
open PySem.Within renaming cons->aoy
open PySem.Heap.Ns1 renaming of_empty->aoz
open PySem.pickOrder renaming go->ao1
namespace L2
open PySem PySem.Spec PyProof.Rows
noncomputable abbrev Key:=Sum (Option Int) Str
noncomputable def jq:Key->aat->Bool
 | .inl none,v=>match v with | .none=>true | _=>false
 | .inl (some k),v=>akq k v
 | .inr x,v=>Value.isStrOf x v
noncomputable def agb (w:acU):Key->Int
 | .inl none=>0xFCA86420
 | .inl (some k)=>hashInt k
 | .inr x=>hashStr w x
theorem bZ:∀ {k:Key} {v:aat},jq k v=true->(∃ i t,k=afv (some i)/\v=abW i t)\/(∃ x t,k=acW x/\v=aml x t)\/(k=afv none/\v=acS)
 | .inl (some i),v,h=>by
   obtain ⟨t,e⟩:=Value.isInt_shape (k:=i) (v:=v) h;exact .inl ⟨i,t,rfl,e⟩
 | .inl none,v,h=>by
   cases v with
   | none=>exact .inr (.inr ⟨rfl,rfl⟩)
   | _=>cases h
 | .inr x,v,h=>by
   obtain ⟨t,e⟩:=Value.isStrOf_shape (x:=x) (v:=v) h;exact .inr (.inl ⟨x,t,rfl,e⟩)
theorem tu (i:Int) (t:Tok):jq (.inl (some i)) (.int i t)=true:=by simp [jq,akq]
theorem tD (x:Str) (t:Tok):jq (.inr x) (.str x t)=true:=by simp [jq,Value.isStrOf]
theorem vZ:jq (.inl none) .none=true:=rfl
theorem YH (a b:Int):decide ((afv (some a):Key)=afv (some b))=(a == b):=by
 by_cases e:a=b
 . subst e; simp
 . have h:¬ (afv (some a):Key)=afv (some b):=λq=>e (abx (amA q))
   rw [decide_eq_false h];exact (beq_eq_false_iff_ne.mpr e).symm
theorem YJ (a b:Str):decide ((acW a:Key)=acW b)=decide (a=b):=by
 by_cases e:a=b
 . subst e; simp
 . have h:¬ (acW a:Key)=acW b:=λq=>e (ahL q)
   rw [decide_eq_false h,decide_eq_false e]
theorem Oq (a:Option Int) (b:Str):decide ((afv a:Key)=acW b)=false:=decide_eq_false (λq=>nomatch q)
theorem Ot (a:Str) (b:Option Int):decide ((acW a:Key)=afv b)=false:=decide_eq_false (λq=>nomatch q)
theorem YK (a:Int):decide ((afv (some a):Key)=afv none)=false:=decide_eq_false (λq=>nomatch (amA q))
theorem YL (a:Int):decide ((afv none:Key)=afv (some a))=false:=decide_eq_false (λq=>nomatch (amA q))
theorem YM:decide ((afv none:Key)=afv none)=true:=decide_eq_true rfl
theorem KD {prog:abt} {w:acU} {A:acX} {E:aat->aav->Prop} {s:aav} {Q:Int->aav->Prop} (h:Q 0xFCA86420 { s with toks:=s.toks+1 }):wpAny (model prog w) A (pyHash .none) Q E s:=by
 have hT:s.TypeIs .none "NoneType":=rfl;unfold pyHash;have hv:[acS].any Value.onHeap=false:=rfl;refine El ?_;rw [cRoomFor,if_neg (by rw [hv]; exact aaK)]; refine aau ?_;refine El (ajB hT PySem.F.slot_NoneType_hash.lookup ?_);show wpAny _ _ (if (some (afL "NoneType.__hash__") == some acS)=true then _ else _) Q E s;rw [if_neg (by decide)];refine El (ajB hT PySem.F.slot_NoneType_hash.lookup ?_);show wpAny _ _ (callSpecialIfBoundUnlessNone? .none "__hash__" _ >>= _) Q E s
 refine El (wpAny_callSpecialIfBoundUnlessNone?_slot hT alW
   (aea alW hT PySem.F.entry_NoneType_hash
     (show wpAny _ _ (do ret (<- mkInt 0xFCA86420)) _ _ s from wpAny_ret_mkInt ?_) (PySem.F.args_NoneType_hash_1 _)))
 show wpAny _ _ (if (decide (-(2:Int) ^ 63<=0xFCA86420) && decide ((0xFCA86420:Int)<2 ^ 63))=true then _ else _) Q E _;rw [if_pos (by decide)];exact aau h
theorem Bc {prog:abt} {w:acU} {A:acX} {E:aat->aav->Prop} {s:aav} {Q:Bool->aav->Prop} (h:Q true s):wpAny (model prog w) A (eqBool .none .none) Q E s:=by
 have hb:(acS == acS)=true:=by decide
 unfold eqBool;rw [if_pos hb];exact El (aov (aau h))
noncomputable def aO (prog:abt) (w:acU):PySem.KeyKind prog w Key where
 is:=jq
 hash:=agb w
 inj:=λv a b ha hb=>by
   rcases bZ ha with ⟨i,t,rfl,rfl⟩ | ⟨x,t,rfl,rfl⟩ | ⟨rfl,rfl⟩
   . rcases bZ hb with ⟨j,u,rfl,e⟩ | ⟨y,u,rfl,e⟩ | ⟨rfl,e⟩
     . injection e with e1 _; rw [e1]
     . exact nomatch e
     . exact nomatch e
   . rcases bZ hb with ⟨j,u,rfl,e⟩ | ⟨y,u,rfl,e⟩ | ⟨rfl,e⟩
     . exact nomatch e
     . injection e with e1 _; rw [e1]
     . exact nomatch e
   . rcases bZ hb with ⟨j,u,rfl,e⟩ | ⟨y,u,rfl,e⟩ | ⟨rfl,e⟩
     . exact nomatch e
     . exact nomatch e
     . rfl
 byValue:=λk v h=>by
   rcases bZ h with ⟨i,t,rfl,rfl⟩ | ⟨x,t,rfl,rfl⟩ | ⟨rfl,rfl⟩ <;> rfl
 pyHash:=λhv h=>by
   rcases bZ hv with ⟨i,t,rfl,rfl⟩ | ⟨x,t,rfl,rfl⟩ | ⟨rfl,rfl⟩
   . exact wpAny_pyHash_int h
   . exact wpAny_pyHash_str h
   . exact KD h
 eqBool:=λhu hv h=>by
   rcases bZ hu with ⟨i,t,rfl,rfl⟩ | ⟨x,t,rfl,rfl⟩ | ⟨rfl,rfl⟩
   . rcases bZ hv with ⟨j,u,rfl,rfl⟩ | ⟨y,u,rfl,rfl⟩ | ⟨rfl,rfl⟩
     . rw [YH] at h; exact wpAny_eqBool_int h
     . rw [Oq] at h; exact an7 i t y u _ _ _ _ h
     . rw [YK] at h; exact anU i t _ _ _ _ h
   . rcases bZ hv with ⟨j,u,rfl,rfl⟩ | ⟨y,u,rfl,rfl⟩ | ⟨rfl,rfl⟩
     . rw [Ot] at h; exact an8 x t j u _ _ _ _ h
     . rw [YJ] at h; exact wpAny_eqBool_str h
     . rw [Ot] at h; exact anV x t _ _ _ _ h
   . rcases bZ hv with ⟨j,u,rfl,rfl⟩ | ⟨y,u,rfl,rfl⟩ | ⟨rfl,rfl⟩
     . rw [YL] at h; exact anW j u _ _ _ _ h
     . rw [Oq] at h; exact anY y u _ _ _ _ h
     . rw [YM] at h; exact Bc h
 «strs»:=λk x t v h=>by
   rcases bZ h with ⟨i,u,rfl,e⟩ | ⟨y,u,rfl,e⟩ | ⟨rfl,e⟩
   . exact nomatch e
   . injection e with e1 _
     subst e1;cases v <;> rfl
   . exact nomatch e
theorem Dj (prog:abt) (w:acU) (i:Int) (t:Tok):(aO prog w).is (.inl (some i)) (.int i t)=true:=tu i t
theorem Dk (prog:abt) (w:acU) (x:Str) (t:Tok):(aO prog w).is (.inr x) (.str x t)=true:=tD x t
theorem Bd (prog:abt) (w:acU):(aO prog w).is (.inl none) .none=true:=vZ
inductive V where
 | non | bl (b:Bool) | int (i:Int) | str (x:Str) | KH (b:Array UInt8) | flt (b:UInt64) | ref (a:aaH) | ty (n:String)
 deriving DecidableEq
noncomputable def RelV:V->aat->Prop
 | .non,u=>u=acS
 | .bl b,u=>u=ah7 b
 | .int i,u=>∃ t,u=abW i t
 | .str x,u=>∃ t,u=aml x t
 | .KH b,u=>∃ t,u=Value.bytes b t
 | .flt b,u=>∃ t,u=ao5 b t
 | .ref a,u=>u=abA a
 | .ty n,u=>u=afE n
noncomputable abbrev Vals:List V->List aat->Prop:=abG RelV
theorem Vals.length {xs:List V} {us:List aat} (r:Vals xs us):xs.length=us.length:=ago r
theorem Vals.get:∀ {xs:List V} {us:List aat} {i:Nat} {x:V},Vals xs us->xs[i]?=some x->∃ u,us[i]?=some u/\RelV x u
 | _,_,_,_,.nil,e=>by simp at e
 | _,_,0,_,.cons r _,e=>by simp at e; subst e; exact ⟨_,rfl,r⟩
 | _,_,i+1,x,.cons _ t,e=>by
   obtain ⟨u,h1,h2⟩:=Vals.get (i:=i) (x:=x) t (by simpa using e);exact ⟨u,by simpa using h1,h2⟩
theorem Vals.set {x:V} {u:aat} (r:RelV x u):∀ {xs:List V} {us:List aat} (i:Nat),Vals xs us->Vals (xs.set i x) (us.set i u)
 | _,_,_,.nil=>.nil
 | _,_,0,.cons _ t=>.cons r t
 | _,_,i+1,.cons q t=>.cons q (Vals.set r i t)
theorem Vals.append:∀ {xs ys:List V} {us ws:List aat},Vals xs us->Vals ys ws->Vals (xs++ys) (us++ws)
 | _,_,_,_,.nil,s=>s
 | _,_,_,_,.cons r t,s=>.cons r (Vals.append t s)
theorem Vals.take:∀ {xs:List V} {us:List aat} (n:Nat),Vals xs us->Vals (xs.take n) (us.take n)
 | _,_,0,_=>.nil
 | _,_,_+1,.nil=>.nil
 | _,_,n+1,.cons r t=>.cons r (Vals.take n t)
theorem Vals.drop:∀ {xs:List V} {us:List aat} (n:Nat),Vals xs us->Vals (xs.drop n) (us.drop n)
 | _,_,0,r=>r
 | _,_,_+1,.nil=>.nil
 | _,_,n+1,.cons _ t=>Vals.drop n t
noncomputable def mW:Option V->Option aat->Prop
 | some v,some u=>RelV v u
 | none,none=>True
 | _,_=>False
noncomputable def KV {κ:Type}:List (κ × V)->List (κ × aat)->Prop:=abG λ(p:κ × V) (q:κ × aat)=>p.1=q.1/\RelV p.2 q.2
noncomputable def kV:Key->V
 | .inl none=>.non
 | .inl (some i)=>.int i
 | .inr x=>.str x
inductive HO where
 /-- a list -/
 | lst (xs:List V)
 /-- a tuple (never changes) -/
 | tup (xs:List V)
 /-- a dict whose keys are ints and texts; one whose keys are tuples of ints and texts (the empty one is both) -/
 | dK (kvs:List (Key × V)) | dT (kvs:List (List Key × V))
 /-- a set of ints: its members,its size -/
 | set (S:Int->Bool) (n:Nat)
 /-- an instance of the class at C,its dict at dx,its attributes -/
 | ins (C dx:aaH) (fs:List (Str × V))
 /-- the dict of the instance at x -/
 | own (x:aaH)
 /-- the dict of an exception -/
 | xd (fs:List (Str × V))
 /-- a bound method,f of x -/
 | met (f x:aaH)
 /-- a range object lo,lo+1,.. below hi -/
 | rng (lo hi:Int)
 /-- a thing that is known to the object (the script; a dict while a loop walks it): read,never written while it is so -/
 | gY (o:Obj) (u:HO)
 /-- a code object's table -/
 | XS (ps:Array aat)
 /-- any other thing,by what is true of its one object (a def of one's own: Bf a S n:=HO.ext λh=>..) -/
 | ext (φ:afp->Prop)
noncomputable abbrev Hp:=aaH->Option HO
noncomputable def upd (H:Hp) (a:aaH) (o:HO):Hp:=λb=>if b=a then some o else H b
theorem au {H:Hp} {a:aaH} {o:HO}:upd H a o a=some o:=by unfold upd; rw [if_pos rfl]
theorem aB {H:Hp} {a b:aaH} {o:HO} (h:b≠a):upd H a o b=H b:=by unfold upd; rw [if_neg h]
theorem abK {H:Hp} {a b:aaH} {o u:HO} (h:H a=some o) (h':H b=some u) (d:o≠u):a≠b:=by
 intro e; subst e; rw [h] at h'; exact d (abx h')
theorem aH {H:Hp} {a b:aaH} {o:HO} (h:H a=some o) (h':H b=none):a≠b:=by
 intro e; subst e; rw [h] at h'; cases h'
noncomputable def lM (h:afp) (a:aaH) (items:Array aat):Prop:=∃ o,h.get? a=some o/\o.cls=.type "tuple"/\(∃ n,o.data=.seq items n)/\o.dict=none
theorem lM.to {h:afp} {a:aaH} {items:Array aat} (x:lM h a items):ao2 h a items:=let ⟨o,e,c,d,_⟩:=x; ⟨o,e,c,d⟩
theorem lM.new (h:afp) (items:Array aat):lM (h.push { cls:=.type "tuple",data:=.seq items }) h.objs.size items:=⟨_,aaL _ rfl,rfl,⟨_,rfl⟩,rfl⟩
section
variable (P:abt) (w:acU)
noncomputable def bT (H:Hp) (h:afp) (a:aaH):HO->Prop
 | .lst xs=>xs.length<=sizeLine/\∃ (its:List aat) (n:Nat),Vals xs its/\h.get? a=some { cls:=.type "list",data:=.seq its.toArray n }
 | .tup xs=>xs.length<=sizeLine/\∃ its:List aat,Vals xs its/\lM h a its.toArray
 | .dK kvs=>kvs.length<=sizeLine/\(a == sysModules)=false/\∃ vs,KV kvs vs/\h.DictOf (aO P w) a vs
 | .dT kvs=>kvs.length<=sizeLine/\(a == sysModules)=false/\∃ xs:List (List Key × aaH × aat),
     abG (λ(p:List Key × V) (q:List Key × aaH × aat)=>p.1=q.1/\H q.2.1=some (.tup (p.1.map kV))/\RelV p.2 q.2.2) kvs xs /\
     ∃ o es ep,h.get? a=some o/\o.ExactDict/\o.data=.dict es ep/\es.toList=xs.map (entryOfKey (tupleKind (aO P w)))/\(xs.map (·.1)).Nodup
 | .set S n=>h.SetOf (intKind P w) a S n
 | .ins C dx fs=>H dx=some (.own a)/\fs.length<=1000/\dx≠a/\h.get? a=some (agM C dx) /\
     ∃ mA,h.Ns1 dx mA/\(∀ f,mW (fs.lookup f) (mA f))/\am6 mA (fs.map (·.1))
 | .own _=>∃ o,h.get? a=some o
 | .xd fs=>∃ mA,h.Ns1 a mA/\∀ f,mW (fs.lookup f) (mA f)
 | .rng lo hi=>∃ t u v,h.get? a=some { cls:=.type "range",data:=.fields #[.int lo t,.int hi u,.int 1 v] }
 | .gY o u=>h.get? a=some o/\bT H h a u
 | .XS ps=>h.get? a=some { cls:=.none,data:=.fields ps }
 | .met f x=>h.get? a=some (amm (.ref f) (.ref x))
 | .ext φ=>φ h/\(∃ o,h.get? a=some o)/\∀ h1 h2:afp,φ h1->(∀ o,h1.get? a=some o->h2.get? a=some o)->φ h2
noncomputable def mX (H:Hp) (h:afp):Prop:=∀ a o,H a=some o->bT P w H h a o
end
section
variable {P:abt} {w:acU} {H H':Hp} {h h':afp} {a:aaH} {o:HO}
theorem bT.lt (x:bT P w H h a o):a<h.objs.size:=by
 cases o with
 | lst xs=>obtain ⟨_,_,_,_,e⟩:=x; exact abh e
 | tup xs=>obtain ⟨_,_,_,_,e,_⟩:=x; exact abh e
 | dK kvs=>obtain ⟨_,_,_,_,o,_,_,e,_⟩:=x; exact abh e
 | dT kvs=>obtain ⟨_,_,_,_,o,_,_,e,_⟩:=x; exact abh e
 | set S n=>obtain ⟨o,_,_,_,e,_⟩:=x; exact abh e
 | ins C dx fs=>obtain ⟨_,_,_,e,_⟩:=x; exact abh e
 | own y=>obtain ⟨_,e⟩:=x; exact abh e
 | xd fs=>obtain ⟨_,⟨_,_,_,e,_⟩,_⟩:=x; exact abh e
 | rng lo hi=>obtain ⟨_,_,_,e⟩:=x; exact abh e
 | gY ob u=>obtain ⟨e,_⟩:=x; exact abh e
 | XS ps=>exact abh (show h.get? a=some _ from x)
 | met f y=>exact abh (show h.get? a=some _ from x)
 | ext φ=>obtain ⟨_,⟨_,e⟩,_⟩:=x; exact abh e
theorem Paired.YQ {α β:Type} {F G:α->β->Prop}:∀ {l₁:List α} {l₂:List β},abG F l₁ l₂->(∀ a b,F a b->G a b)->abG G l₁ l₂
 | _,_,.nil,_=>.nil
 | _,_,.cons r t,f=>.cons (f _ _ r) (Paired.YQ t f)
theorem bT.stay (x:bT P w H h a o) (k:∀ b u,(b=a\/H b=some (.own a))->h.get? b=some u->h'.get? b=some u)
   (ho:∀ b,H b=some (.own a)->H' b=some (.own a)) (ht:∀ b xs,H b=some (.tup xs)->H' b=some (.tup xs)):bT P w H' h' a o:=by
 induction o with
 | lst xs=>obtain ⟨z,its,n,r,e⟩:=x; exact ⟨z,its,n,r,k _ _ (.inl rfl) e⟩
 | tup xs=>obtain ⟨z,its,r,ob,e,c⟩:=x; exact ⟨z,its,r,ob,k _ _ (.inl rfl) e,c⟩
 | dK kvs=>obtain ⟨z,y,vs,r,ob,es,ep,e,c⟩:=x; exact ⟨z,y,vs,r,ob,es,ep,k _ _ (.inl rfl) e,c⟩
 | dT kvs =>
   obtain ⟨z,y,xs,r,ob,es,ep,e,c⟩:=x;exact ⟨z,y,xs,Paired.YQ r λp q z=>⟨z.1,ht _ _ z.2.1,z.2.2⟩,ob,es,ep,k _ _ (.inl rfl) e,c⟩
 | set S n=>obtain ⟨ob,es,ep,t,e,c⟩:=x; exact ⟨ob,es,ep,t,k _ _ (.inl rfl) e,c⟩
 | ins C dx fs =>
   obtain ⟨d,z,ne,e,mA,⟨od,es,ep,e2,c⟩,r⟩:=x;exact ⟨ho _ d,z,ne,k _ _ (.inl rfl) e,mA,⟨od,es,ep,k _ _ (.inr d) e2,c⟩,r⟩
 | own y=>obtain ⟨ob,e⟩:=x; exact ⟨ob,k _ _ (.inl rfl) e⟩
 | xd fs=>obtain ⟨mA,⟨od,es,ep,e,c⟩,r⟩:=x; exact ⟨mA,⟨od,es,ep,k _ _ (.inl rfl) e,c⟩,r⟩
 | rng lo hi=>obtain ⟨t,u,v,e⟩:=x; exact ⟨t,u,v,k _ _ (.inl rfl) e⟩
 | gY ob u ih=>obtain ⟨e,q⟩:=x; exact ⟨k _ _ (.inl rfl) e,ih q⟩
 | XS ps =>
   have e:h.get? a=some { cls:=.none,data:=.fields ps }:=x;show h'.get? a=some { cls:=.none,data:=.fields ps };exact k a _ (.inl rfl) e
 | met f y =>
   have e:h.get? a=some (amm (.ref f) (.ref y)):=x;show h'.get? a=some (amm (.ref f) (.ref y));exact k a _ (.inl rfl) e
 | ext φ=>obtain ⟨p,⟨o,e⟩,st⟩:=x; exact ⟨st _ _ p λo q=>k _ _ (.inl rfl) q,⟨o,k _ _ (.inl rfl) e⟩,st⟩
theorem mX.lt (x:mX P w H h) (e:H a=some o):a<h.objs.size:=(x a o e).lt
theorem mX.fresh (x:mX P w H h) (e:h.objs.size<=a):H a=none:=by
 cases q:H a with
 | none=>rfl
 | some u=>exact absurd (ab4 (x.lt q) e) (afM _)
theorem mX.kept (x:mX P w H h) (k:∀ b u,h.get? b=some u->h'.get? b=some u):mX P w H h':=λa o e =>
 (x a o e).stay (λb u _ q=>k b u q) (λ_ q=>q) λ_ _ q=>q
theorem mX.laid (x:mX P w H h) (k:∀ b u,h.get? b=some u->h'.get? b=some u) (hp:h.objs.size<=a) (new:bT P w (upd H a o) h' a o):mX P w (upd H a o) h':=λb u e=>by
 have hn:=x.fresh hp;by_cases hb:b=a
 . subst hb; rw [au] at e; cases e; exact new
 . rw [aB hb] at e;exact (x b u e).stay (λc v _ q=>k c v q) (λc q=>by rw [aB (aH q hn)]; exact q) λc xs q=>by rw [aB (aH q hn)]; exact q
end
noncomputable def Rd (H:Hp) (a:aaH) (u:HO):Prop:=H a=some u\/∃ o,H a=some (.gY o u)
theorem Rd.ok {P:abt} {w:acU} {H:Hp} {h:afp} {a:aaH} {u:HO} (r:Rd H a u) (x:mX P w H h):bT P w H h a u:=by
 rcases r with r | ⟨o,r⟩
 . exact x a u r
 . obtain ⟨_,q⟩:=x a _ r;exact q
noncomputable def Mut:Option HO->Prop
 | some (.lst _)=>True
 | some (.dK _)=>True
 | some (.dT _)=>True
 | some (.set _ _)=>True
 | some (.ins _ _ _)=>True
 | some (.ext _)=>True
 | _=>False
section
variable {P:abt} {w:acU} {H:Hp} {h h':afp} {x e:aaH} {o':HO}
theorem mX.write (ok:mX P w H h) (mu:Mut (H x)) (he:e=x\/H e=some (.own x)) (k:∀ b u,b≠e->h.get? b=some u->h'.get? b=some u) (heo:∃ u,h'.get? e=some u)
   (new:bT P w (upd H x o') h' x o'):mX P w (upd H x o') h':=λb u q=>by
 have abM:∀ c y,H c=some (.own y)->c≠x:=λc y r z=>by subst z; rw [r] at mu; exact mu
 have agc:∀ c xs,H c=some (.tup xs)->c≠x:=λc xs r z=>by subst z; rw [r] at mu; exact mu
 by_cases hb:b=x
 . subst hb; rw [au] at q; cases q; exact new
 . rw [aB hb] at q;by_cases hbe:b=e
   . have q':H b=some (.own x):=by
       rcases he with z | z
       . exact absurd (hbe.trans z) hb
       . rw [hbe]; exact z
     rw [q] at q'; cases q';obtain ⟨v,hv⟩:=heo;exact ⟨v,by rw [hbe]; exact hv⟩
   . refine (ok b u q).stay (λc v hc r=>k c v ?_ r) (λc r=>by rw [aB (abM c b r)]; exact r) λc xs r=>by rw [aB (agc c xs r)]; exact r
     rcases hc with rfl | hc
     . exact hbe
     . rintro rfl;rcases he with z | z
       . exact abM c b hc z
       . rw [hc] at z; cases z; exact hb rfl
end
structure Un (fs ex:List aaH) (H H':Hp) (h h':afp):Prop where
 keep:∀ b o,h.get? b=some o->H b=none->b ∉ fs->b ∉ ex->h'.get? b=some o
 slot:∀ b o,h.get? b=some o->H b=none->b∈fs->b ∉ ex->∃ sl,h'.get? b=some { o with slots:=sl }
 free:∀ b o,h.get? b=some o->H b=none->b ∉ ex->H' b=none
 there:∀ b o,h.get? b=some o->b ∉ ex->∃ o',h'.get? b=some o'
 tups:∀ b xs,H b=some (.tup xs)->H' b=some (.tup xs)
 qy:∀ b o u,H b=some (.gY o u)->H' b=some (.gY o u)
 qN:∀ b ps,H b=some (.XS ps)->∃ more,H' b=some (.XS (ps++more))
section
variable {fs fs' ex ex':List aaH} {H H1 H2:Hp} {h h1 h2 h':afp} {a x e:aaH} {o:HO}
theorem Un.any (u:Un fs ex H H1 h h1) {b:aaH} {ob:Obj} (q:h.get? b=some ob) (n:H b=none) (hx:b ∉ ex):∃ sl,h1.get? b=some { ob with slots:=sl }:=by
 by_cases hb:b∈fs
 . exact u.slot b ob q n hb hx
 . exact ⟨ob.slots,u.keep b ob q n hb hx⟩
theorem Un.kept (k:∀ b u,h.get? b=some u->h'.get? b=some u):Un fs ex H H h h' :=
 ⟨λb ob q _ _ _=>k b ob q,λb ob q _ _ _=>⟨ob.slots,k b ob q⟩,λ_ _ _ n _=>n,λb ob q _=>⟨ob,k b ob q⟩,λ_ _ q=>q,λ_ _ _ q=>q,λ_ ps q=>⟨#[],by rw [q]; simp⟩⟩
theorem Un.refl:Un fs ex H H h h:=Un.kept λ_ _ q=>q
theorem Un.laid (k:∀ b u,h.get? b=some u->h'.get? b=some u) (hp:h.objs.size<=a) (hn:H a=none):Un fs ex H (upd H a o) h h' where
 keep:=λb u q _ _ _=>k b u q
 slot:=λb u q _ _ _=>⟨u.slots,k b u q⟩
 free:=λb u q n _=>by rw [aB (abB (ab4 (abh q) hp))]; exact n
 there:=λb u q _=>⟨u,k b u q⟩
 tups:=λb xs q=>by rw [aB (aH q hn)]; exact q
 qy:=λb u xs q=>by rw [aB (aH q hn)]; exact q
 qN:=λb ps q=>⟨#[],by rw [aB (aH q hn),q]; simp⟩
theorem Un.write (mu:Mut (H x)) (he:e=x\/H e=some (.own x)) (k:∀ b u,b≠e->h.get? b=some u->h'.get? b=some u) (heo:∃ u,h'.get? e=some u):Un fs ex H (upd H x o) h h':=by
 have hx:∀ b,H b=none->b≠x:=λb n z=>by subst z; rw [n] at mu; exact mu
 have hb:∀ b,H b=none->b≠e:=λb n z=>by
   subst z;rcases he with r | r
   . exact hx b n r
   . rw [n] at r; cases r
 have hm:∀ b u,H b=some u->¬ Mut (some u)->b≠x:=λb u q nm z=>by subst z; rw [q] at mu; exact nm mu
 refine ⟨λb u q n _ _=>k b u (hb b n) q,λb u q n _ _=>⟨u.slots,k b u (hb b n) q⟩,λb u q n _=>by rw [aB (hx b n)]; exact n,λb u q _=>?_,
   λb xs q=>by rw [aB (hm b _ q λz=>z)]; exact q,λb u xs q=>by rw [aB (hm b _ q λz=>z)]; exact q,λb ps q=>⟨#[],by rw [aB (hm b _ q λz=>z),q]; simp⟩⟩
 by_cases hbe:b=e
 . subst hbe; exact heo
 . exact ⟨u,k b u hbe q⟩
end
noncomputable def trk (h:afp) (H:Hp):List aaH:=(acF h.objs.size).filter λa=>(H a).isSome
noncomputable def Bg (h:afp) (H:Hp):afp:=agO h (trk h H)
theorem KJ (h:afp) (H:Hp):(Bg h H).objs.size=h.objs.size:=PySem.W.hideAll_size _ _
theorem Ou {h:afp} {H:Hp} {b:aaH} {o:Obj} (e:h.get? b=some o) (n:H b=none):(Bg h H).get? b=some o :=
 afT _ e λhm=>by
   have q:(H b).isSome=true:=(aej.mp hm).2;rw [n] at q; simp at q
theorem Va {h:afp} {H:Hp} {b:aaH} {o:Obj} (e:(Bg h H).get? b=some o):h.get? b=some o/\H b=none:=by
 have e':h.get? b=some o:=ajC (trk h H) e;refine ⟨e',?_⟩;cases q:H b with
 | none=>rfl
 | some x =>
   have hm:b∈trk h H:=aej.mpr ⟨adv.mpr (abh e'),by simp [q]⟩;have z:(Bg h H).get? b=none:=anC (trk h H) hm;rw [z] at e; cases e
structure Mod (K:aaf) (mg:Str->Option aat) (base:afp):Prop where
 Vb:K.In base
 glob:base.Ns mainGlobals mg
 blt:∃ mb,base.Ns builtinsNs mb/\∀ x:Str,x≠"__name__"->mb x=bootBuiltins x
 nolimit:base.NoLimit
structure Cx where
 prog:abt
 w:acU
 K:aaf
 mg:Str->Option aat
 base:afp
 A:acX
 N:List Str
 s₀:aav
 H₀:Hp
 env:Env
 outer:List Env
 stack:List Env
 ex:List aaH
 fn:Str->Bool
 calm:Bool
 pn:List (aaH × Obj)
 xe:aat->aav->Prop
noncomputable def frs (l:List Env):List aaH:=l.filterMap (·.frame)
noncomputable abbrev Cx.fs (X:Cx):List aaH:=frs X.outer
noncomputable def Vis (sc:Scope) (x:Str):Prop:=sc.names.lookup x=some .local\/sc.names.lookup x=some .cell\/sc.names.lookup x=some .free
noncomputable def Loc (sc:Scope) (x:Str):Prop:=sc.names.lookup x=some .local\/sc.names.lookup x=some .cell
noncomputable def Look (env:Env) (h:afp) (m:Str->Option aat) (x:Str) (u:aat):Prop :=
 (env.kindOf x=some .local/\m x=some u)\/((env.kindOf x=some .cell\/env.kindOf x=some .free)/\∃ c,env.cells.lookup x=some c/\h.IsCell c (some u))
structure Cx.Ok (X:Cx):Prop where
 mod:Mod X.K X.mg X.base
 kind:X.env.scope.kind=.function
 glob:X.env.globals=mainGlobals
 blt:X.env.builtins=builtinsNs
 above:X.s₀.heap.objs.size<=X.env.locals
 inj:∀ x y c,X.env.cells.lookup x=some c->X.env.cells.lookup y=some c->x=y
 has:∀ x,(X.env.kindOf x=some .cell\/X.env.kindOf x=some .free)->∃ c,X.env.cells.lookup x=some c
 cab:∀ x c,X.fn x=true->X.env.cells.lookup x=some c->X.s₀.heap.objs.size<=c
 hd:X.calm=true->X.A.handled=none
 frames:X.A.frames=some X.stack
 stk:X.stack=X.outer\/(X.stack=X.env :: X.outer/\X.env.frame=some X.env.locals)
 exf:∀ b∈X.ex,b≠X.env.locals/\∀ x c,X.env.cells.lookup x=some c->c≠b
 bs:∀ b o,X.base.get? b=some o->X.s₀.heap.get? b=some o/\X.H₀ b=none
 Uo:X.base.objs.size<=X.s₀.heap.objs.size
 KN:∀ b o,X.base.get? b=some o->b ∉ X.ex
 KQ:∀ b∈X.ex,b ∉ X.fs
 tE:X.s₀.heap.FunFrames X.base X.outer
 X3:∀ b∈X.fs,X.H₀ b=none
structure Inv (X:Cx) (pins:List (aaH × Obj)) (σ:List (Option V)) (H:Hp) (s:aav):Prop where
 ok:X.Ok
 os:s.os=X.s₀.os
 bare:am7 s.gens
 base:Un X.fs X.ex X.H₀ H X.s₀.heap s.heap
 loc:∃ m,s.heap.Ns X.env.locals m/\∀ (i:Nat) (x:Str) (v:V),X.N[i]?=some x->σ[i]?=some (some v)->Vis X.env.scope x->∃ u,RelV v u/\Look X.env s.heap m x u
 cell:∀ x c,X.env.cells.lookup x=some c->∃ v,s.heap.IsCell c v
 free:H X.env.locals=none
 jc:∀ x c,X.env.cells.lookup x=some c->H c=none
 pin:∀ p∈X.pn++pins,s.heap.get? p.1=some p.2/\H p.1=none/\p.1≠X.env.locals/\p.1 ∉ X.fs/\∀ v,p.2.data≠.cell v
 hok:mX X.prog X.w H s.heap
 len:σ.length=X.N.length
section
variable {X:Cx} {pins:List (aaH × Obj)} {σ:List (Option V)} {H H':Hp} {s:aav} {h':afp}
theorem Cx.Ok.agd (ok:X.Ok) {b:aaH} {o:Obj} (e:X.base.get? b=some o):b ∉ X.fs:=λhb=>by
 have:=(ok.tE.mem hb).1;rw [e] at this; cases this
theorem Inv.bs (I:Inv X pins σ H s):∀ b o,X.base.get? b=some o->s.heap.get? b=some o/\H b=none:=λb o e =>
 ⟨I.base.keep b o (I.ok.bs b o e).1 (I.ok.bs b o e).2 (I.ok.agd e) (I.ok.KN b o e),I.base.free b o (I.ok.bs b o e).1 (I.ok.bs b o e).2 (I.ok.KN b o e)⟩
theorem Inv.bk (I:Inv X pins σ H s):∀ b o,X.base.get? b=some o->s.heap.get? b=some o:=λb o e=>(I.bs b o e).1
theorem Inv.mod (I:Inv X pins σ H s):Mod X.K X.mg X.base:=I.ok.mod
theorem Inv.pB (I:Inv X pins σ H s):X.K.In s.heap:=I.ok.mod.Vb.keeps I.bk
theorem Inv.lt (I:Inv X pins σ H s):X.env.locals<s.heap.objs.size:=let ⟨_,hn,_⟩:=I.loc; hn.lt
theorem Inv.sz (I:Inv X pins σ H s):X.s₀.heap.objs.size<=s.heap.objs.size:=adS I.ok.above (af3 I.lt)
theorem Inv.agf (I:Inv X pins σ H s) {a:aaH} (h:s.heap.objs.size<=a):a ∉ X.fs:=λhb=>by
 obtain ⟨_,o,ho,_⟩:=I.ok.tE.mem hb;exact absurd (ab4 (abh ho) (adS I.sz h)) (afM _)
theorem Inv.Vc (I:Inv X pins σ H s):∀ x c,X.env.cells.lookup x=some c->c≠X.env.locals:=λx c e z=>by
 obtain ⟨v,o,ho,hd⟩:=I.cell x c e;obtain ⟨m,⟨o',es,ep,ho',hd',_⟩,_⟩:=I.loc;rw [z,ho'] at ho; cases ho; rw [hd'] at hd; cases hd
theorem Inv.tE (I:Inv X pins σ H s):s.heap.FunFrames X.base X.outer:=by
 have all:∀ (l:List Env),(∀ b∈frs l,b∈X.fs)->X.s₀.heap.FunFrames X.base l->s.heap.FunFrames X.base l:=by
   intro l
   induction l with
   | nil=>intro _ _; trivial
   | cons env r ih =>
     intro hs hl;obtain ⟨hk,⟨L,o,hf,hn,ho,hd⟩,hr⟩:=hl;have hL:L∈X.fs:=hs L (by unfold frs; rw [alI,hf]; exact abw);obtain ⟨sl,e⟩:=I.base.slot L o ho (I.ok.X3 L hL) hL λz=>I.ok.KQ L z hL
     exact ⟨hk,⟨L,_,hf,hn,e,hd⟩,ih (λb hb=>hs b (by unfold frs; rw [alI,hf]; exact abk _ hb)) hr⟩
 exact all X.outer (λ_ hb=>hb) I.ok.tE
theorem Inv.stack (I:Inv X pins σ H s):s.heap.FunFrames X.base X.stack:=by
 rcases I.ok.stk with e | ⟨e,hf⟩
 . rw [e]; exact I.tE
 . rw [e];obtain ⟨m,hn,_⟩:=I.loc;refine .cons (by rw [I.ok.kind]; decide) hf hn ?_ I.tE;exact Heap.get?_none_of_le (adS I.ok.Uo I.ok.above)
theorem Inv.Bh (I:Inv X pins σ H s):∀ b∈frs X.stack,b∈X.env.locals :: X.fs:=λb hb=>by
 rcases I.ok.stk with e | ⟨e,hf⟩
 . rw [e] at hb; exact abk _ hb
 . rw [e] at hb;unfold frs at hb;rw [alI,hf] at hb;exact hb
theorem Inv.vq (I:Inv X pins σ H s):∀ b∈frs X.stack,H b=none:=λb hb=>by
 rcases abu.mp (I.Bh b hb) with e | hb
 . rw [e]; exact I.free
 . obtain ⟨_,o,ho,_⟩:=I.ok.tE.mem hb;exact I.base.free b o ho (I.ok.X3 b hb) λz=>I.ok.KQ b z hb
theorem Inv.step {g':Array al6} {t':Nat} {d':Drawn} {ch:List aaH} (I:Inv X pins σ H s)
   (hch:∀ b∈ch,(b∈X.ex\/X.s₀.heap.objs.size<=b)/\b≠X.env.locals/\(∀ x c,X.env.cells.lookup x=some c->c≠b)/\∀ p∈X.pn++pins,p.1≠b)
   (keep:∀ b o,b≠X.env.locals->b ∉ X.fs->b ∉ ch->s.heap.get? b=some o->H b=none->h'.get? b=some o)
   (slot:∀ b o,b≠X.env.locals->b∈X.fs->b ∉ ch->s.heap.get? b=some o->H b=none->∃ sl,h'.get? b=some { o with slots:=sl }) (free:∀ b o,b ∉ ch->s.heap.get? b=some o->H b=none->H' b=none)
   (there:∀ b o,b ∉ ch->s.heap.get? b=some o->∃ o',h'.get? b=some o')
   (tups:∀ b xs,H b=some (.tup xs)->H' b=some (.tup xs)) (qy:∀ b o u,H b=some (.gY o u)->H' b=some (.gY o u)) (qN:∀ b ps,H b=some (.XS ps)->∃ more,H' b=some (.XS (ps++more)))
   (ns:∀ m,s.heap.Ns X.env.locals m->h'.Ns X.env.locals m) (hok:mX X.prog X.w H' h') (hg:am7 g') :
   Inv X pins σ H' { s with heap:=h',gens:=g',drawn:=d',toks:=t' }:=by
 have neL:∀ b o,X.s₀.heap.get? b=some o->b≠X.env.locals:=λb o e=>abB (ab4 (abh e) I.ok.above)
 have neC:∀ b o,X.s₀.heap.get? b=some o->b ∉ X.ex->b ∉ ch:=λb o e hx hb=>by
   rcases (hch b hb).1 with z | z
   . exact hx z
   . exact absurd (ab4 (abh e) z) (afM _)
 have cellK:∀ x c,X.env.cells.lookup x=some c->∀ v,s.heap.IsCell c v->h'.IsCell c v:=λx c e v ⟨o,ho,hd⟩=>by
   have nch:c ∉ ch:=λz=>(hch c z).2.2.1 x c e rfl
   by_cases hc:c∈X.fs
   . obtain ⟨sl,q⟩:=slot c o (I.Vc x c e) hc nch ho (I.jc x c e);exact ⟨_,q,hd⟩
   . exact ⟨o,keep c o (I.Vc x c e) hc nch ho (I.jc x c e),hd⟩
 refine ⟨I.ok,I.os,hg,⟨λb o e n hb hx=>?_,λb o e n hb hx=>?_,λb o e n hx=>?_,λb o e hx=>?_,λb xs e=>tups b xs (I.base.tups b xs e),λb o xs e=>qy b o xs (I.base.qy b o xs e),λb ps e=>?_⟩,?_,λx c e=>?_,?_,λx c e=>?_,λp hp=>?_,hok,I.len⟩
 . exact keep b o (neL b o e) hb (neC b o e hx) (I.base.keep b o e n hb hx) (I.base.free b o e n hx)
 . obtain ⟨sl,e1⟩:=I.base.slot b o e n hb hx;obtain ⟨sl',e2⟩:=slot b _ (neL b o e) hb (neC b o e hx) e1 (I.base.free b o e n hx);exact ⟨sl',e2⟩
 . obtain ⟨o',e1⟩:=I.base.there b o e hx;exact free b o' (neC b o e hx) e1 (I.base.free b o e n hx)
 . obtain ⟨o',e1⟩:=I.base.there b o e hx;exact there b o' (neC b o e hx) e1
 . obtain ⟨m1,e1⟩:=I.base.qN b ps e;obtain ⟨m2,e2⟩:=qN b _ e1;exact ⟨m1++m2,by rw [e2,Array.append_assoc]⟩
 . obtain ⟨m,hn,hl⟩:=I.loc;refine ⟨m,ns m hn,λi x v e1 e2 e3=>?_⟩;obtain ⟨u,r,l⟩:=hl i x v e1 e2 e3;refine ⟨u,r,?_⟩;rcases l with l | ⟨k,c,e,z⟩
   . exact .inl l
   . exact .inr ⟨k,c,e,cellK x c e _ z⟩
 . obtain ⟨v,z⟩:=I.cell x c e;exact ⟨v,cellK x c e v z⟩
 . obtain ⟨m,⟨o,_,_,ho,_⟩,_⟩:=I.loc;exact free _ o (λz=>(hch _ z).2.1 rfl) ho I.free
 . obtain ⟨v,o,ho,hd⟩:=I.cell x c e;exact free c o (λz=>(hch c z).2.2.1 x c e rfl) ho (I.jc x c e)
 . obtain ⟨e,n,ne,nf,d⟩:=I.pin p hp;have nch:p.1 ∉ ch:=λz=>(hch p.1 z).2.2.2 p hp rfl
   exact ⟨keep p.1 p.2 ne nf nch e n,free p.1 p.2 nch e n,ne,nf,d⟩
theorem Inv.un {t':Nat} (I:Inv X pins σ H s) (u:Un X.fs [] H H' s.heap h') (hok:mX X.prog X.w H' h'):Inv X pins σ H' { s with heap:=h',toks:=t' }:=by
 obtain ⟨m,⟨o,es,ep,ho,r⟩,_⟩:=id I.loc;obtain ⟨sl,hL⟩:=u.any ho I.free (by simp)
 exact I.step (g':=s.gens) (d':=s.drawn) (ch:=[]) (λ_ z=>nomatch z) (λb o _ hb _ e n=>u.keep b o e n hb (by simp)) (λb o _ hb _ e n=>u.slot b o e n hb (by simp)) (λb o _ e n=>u.free b o e n (by simp)) (λb o _ e=>u.there b o e (by simp)) u.tups u.qy u.qN (λm' hm=>by
   obtain ⟨o',es',ep',ho',r'⟩:=hm;rw [ho] at ho'; cases ho'
   exact ⟨_,es',ep',hL,r'⟩) hok I.bare
theorem Inv.call {g':Array al6} {t':Nat} {d':Drawn} {ch:List aaH} (I:Inv X pins σ H s) (u:Un (frs X.stack) ch H H' s.heap h') (hok:mX X.prog X.w H' h') (hg:am7 g')
   (hch:∀ b∈ch,(b∈X.ex\/X.s₀.heap.objs.size<=b)/\b≠X.env.locals/\(∀ x c,X.env.cells.lookup x=some c->c≠b)/\∀ p∈X.pn++pins,p.1≠b) :
   Inv X pins σ H' { s with heap:=h',gens:=g',drawn:=d',toks:=t' }:=by
 obtain ⟨m,⟨o,es,ep,ho,r⟩,_⟩:=id I.loc;obtain ⟨sl,hL⟩:=u.any ho I.free λz=>(hch _ z).2.1 rfl
 exact I.step (ch:=ch) hch (λb o hL hb hc e n=>u.keep b o e n (λz=>(abu.mp (I.Bh b z)).elim hL hb) hc) (λb o _ _ hc e n=>u.any e n hc) (λb o hc e n=>u.free b o e n hc) (λb o hc e=>u.there b o e hc) u.tups u.qy u.qN (λm' hm=>by
   obtain ⟨o',es',ep',ho',r'⟩:=hm;rw [ho] at ho'; cases ho'
   exact ⟨_,es',ep',hL,r'⟩) hok hg
theorem Inv.turned {t':Nat} {it:aaH} (I:Inv X pins σ H s) (k:∀ b o,b≠it->s.heap.get? b=some o->h'.get? b=some o) (hn:H it=none) (hL:it≠X.env.locals)
   (h1:it∈X.ex\/X.s₀.heap.objs.size<=it) (h2:∀ x c,X.env.cells.lookup x=some c->c≠it) (h3:∀ p∈X.pn++pins,p.1≠it):Inv X pins σ H { s with heap:=h',toks:=t' }:=by
 have nit:∀ b u,H b=some u->b≠it:=λb u e z=>by rw [z,hn] at e; cases e
 refine I.step (g':=s.gens) (d':=s.drawn) (ch:=[it]) (λb hb=>?_) (λb o _ _ hc e _=>k b o (λz=>hc (by simp [z])) e) (λb o _ _ hc e _=>⟨o.slots,k b o (λz=>hc (by simp [z])) e⟩) (λ_ _ _ _ n=>n)
   (λb o hc e=>⟨o,k b o (λz=>hc (by simp [z])) e⟩) (λ_ _ e=>e) (λ_ _ _ e=>e) (λb ps e=>⟨#[],by rw [e]; simp⟩) (λm hm=>?_) (λb u e=>?_) I.bare
 . have e:b=it:=by simpa using hb
   subst e;exact ⟨h1,hL,h2,h3⟩
 . obtain ⟨o,es,ep,ho,r⟩:=hm;exact ⟨o,es,ep,k _ o (acV hL) ho,r⟩
 . refine (I.hok b u e).stay (λc v hc q=>k c v ?_ q) (λ_ q=>q) λ_ _ q=>q
   rcases hc with z | z
   . rw [z]; exact nit b u e
   . exact nit c _ z
theorem Inv.tok (I:Inv X pins σ H s) (t:Nat):Inv X pins σ H { s with toks:=t }:=I.un (h':=s.heap) (t':=t) Un.refl I.hok
theorem Inv.kept {t':Nat} (I:Inv X pins σ H s) (k:∀ b u,s.heap.get? b=some u->h'.get? b=some u):Inv X pins σ H { s with heap:=h',toks:=t' }:=I.un (Un.kept k) (I.hok.kept k)
theorem Inv.laid {a:aaH} {o:HO} {t':Nat} (I:Inv X pins σ H s) (k:∀ b u,s.heap.get? b=some u->h'.get? b=some u) (hp:s.heap.objs.size<=a) (new:bT X.prog X.w (upd H a o) h' a o) :
   Inv X pins σ (upd H a o) { s with heap:=h',toks:=t' }:=I.un (Un.laid k hp (I.hok.fresh hp)) (I.hok.laid k hp new)
theorem Inv.write {x e:aaH} {o:HO} {t':Nat} (I:Inv X pins σ H s) (mu:Mut (H x)) (he:e=x\/H e=some (.own x)) (k:∀ b u,b≠e->s.heap.get? b=some u->h'.get? b=some u) (heo:∃ u,h'.get? e=some u)
   (new:bT X.prog X.w (upd H x o) h' x o):Inv X pins σ (upd H x o) { s with heap:=h',toks:=t' }:=I.un (Un.write mu he k heo) (I.hok.write mu he k heo new)
theorem Inv.Jl {X4:List (aaH × Obj)} (I:Inv X pins σ H s) (h:∀ p∈X4,s.heap.get? p.1=some p.2/\H p.1=none/\p.1≠X.env.locals/\p.1 ∉ X.fs/\∀ v,p.2.data≠.cell v):Inv X X4 σ H s :=
 ⟨I.ok,I.os,I.bare,I.base,I.loc,I.cell,I.free,I.jc,λp hp=>(abv.mp hp).elim (λz=>I.pin p (afx _ z)) (h p),I.hok,I.len⟩
theorem v9 {N:List Str} (hN:N.Nodup) {i j:Nat} {x:Str} (a:N[i]?=some x) (b:N[j]?=some x):i=j:=by
 obtain ⟨h1,e1⟩:=abE.mp a;obtain ⟨h2,e2⟩:=abE.mp b;exact (ah2 hN).mp (e1.trans e2.symm)
theorem zE {M:ao6} {A:acX} {E:aat->aav->Prop} {i:Nat} {x:Str} {v:V} {u:aat} {Q:Unit->aav->Prop} (I:Inv X pins σ H s) (hN:X.N.Nodup) (hi:X.N[i]?=some x) (hx:Loc X.env.scope x) (r:RelV v u)
   (h:∀ s',Inv X pins (σ.set i (some v)) H s'->(∃ a,ag6 a s.heap s'.heap/\(a=X.env.locals\/X.env.cells.lookup x=some a))->Q () s') (hf:X.fn x=true\/X.env.scope.names.lookup x=some .local:=by first | exact .inl rfl | exact .inr rfl | assumption):wpAny M A (storeName X.env x u) Q E s:=by
 obtain ⟨m,hn,hl⟩:=id I.loc;have hcls:(X.env.scope.kind == .class || (X.env.scope.kind == .module && X.env.locals != X.env.globals))=false:=by rw [I.ok.kind]; rfl
 have afq:i<σ.length:=by rw [I.len]; exact (abE.mp hi).1
 have Vc:=I.Vc
 have tracked:∀ {a:aaH} {h':afp},(∃ o,s.heap.get? a=some o/\H a=none)->ag6 a s.heap h'->mX X.prog X.w H h':=λ{a h'} ha hs b ob e=>by
   obtain ⟨_,_,hfree⟩:=ha;refine (I.hok b ob e).stay (λc w' hc q=>(hs.2 c ?_).trans q) (λ_ q=>q) λ_ _ q=>q
   rintro rfl;rcases hc with rfl | hc
   . rw [hfree] at e; cases e
   . rw [hfree] at hc; cases hc
 rcases hx with hk | hk
 . refine wpAny_storeName_local hk hn (λh' hn' hs=>?_) hcls;obtain ⟨oL,_,_,hoL,_⟩:=id hn;refine h _ ⟨I.ok,I.os,I.bare,⟨λb o e n hb hx=>?_,λb o e n hb hx=>?_,I.base.free,λb o e hx=>?_,I.base.tups,I.base.qy,I.base.qN⟩,⟨_,hn',λj y v' e1 e2 e3=>?_⟩,λy c e=>?_,I.free,I.jc,λp hp=>?_,tracked ⟨oL,hoL,I.free⟩ hs,by simpa using I.len⟩ ⟨_,hs,.inl rfl⟩
   . exact (hs.2 b (abB (ab4 (abh e) I.ok.above))).trans (I.base.keep b o e n hb hx)
   . obtain ⟨sl,e1⟩:=I.base.slot b o e n hb hx;exact ⟨sl,(hs.2 b (abB (ab4 (abh e) I.ok.above))).trans e1⟩
   . obtain ⟨o',e1⟩:=I.base.there b o e hx;exact ⟨o',(hs.2 b (abB (ab4 (abh e) I.ok.above))).trans e1⟩
   . by_cases hj:j=i
     . subst hj;rw [hi] at e1; cases e1;rw [agX afq] at e2;cases e2;exact ⟨u,r,.inl ⟨hk,by simp⟩⟩
     . rw [af9 (acV hj)] at e2;obtain ⟨u',r',q⟩:=hl j y v' e1 e2 e3;refine ⟨u',r',?_⟩;rcases q with ⟨k,e⟩ | ⟨k,c,e,z⟩
       . refine .inl ⟨k,?_⟩;have:y≠x:=λe=>hj (v9 hN e1 (e ▸ hi))
         simp [this,e]
       . exact .inr ⟨k,c,e,z.sameBut hs (Vc y c e)⟩
   . obtain ⟨w',z⟩:=I.cell y c e;exact ⟨w',z.sameBut hs (Vc y c e)⟩
   . obtain ⟨e,n,ne,nf,d⟩:=I.pin p hp;exact ⟨(hs.2 p.1 ne).trans e,n,ne,nf,d⟩
 . have hfn:X.fn x=true:=by
     rcases hf with z | z
     . exact z
     . rw [z] at hk; cases hk
   obtain ⟨c,hc⟩:=I.ok.has x (.inl hk);obtain ⟨w',z⟩:=I.cell x c hc;refine wpAny_storeName_cell I.ok.kind hk hc z (λh' hc' hs=>?_);obtain ⟨oc,hoc,agg⟩:=id z;refine h { s with heap:=h' } ⟨I.ok,I.os,I.bare,⟨λb o e n hb hx=>?_,λb o e n hb hx=>?_,I.base.free,λb o e hx=>?_,I.base.tups,I.base.qy,I.base.qN⟩,⟨m,hn.sameBut hs (acV (Vc x c hc)),λj y v' e1 e2 e3=>?_⟩,λy c' e=>?_,I.free,I.jc,λp hp=>?_,tracked ⟨oc,hoc,I.jc x c hc⟩ hs,by simpa using I.len⟩ ⟨c,hs,.inr hc⟩
   . exact (hs.2 b (abB (ab4 (abh e) (I.ok.cab x c hfn hc)))).trans (I.base.keep b o e n hb hx)
   . obtain ⟨sl,e1⟩:=I.base.slot b o e n hb hx;exact ⟨sl,(hs.2 b (abB (ab4 (abh e) (I.ok.cab x c hfn hc)))).trans e1⟩
   . obtain ⟨o',e1⟩:=I.base.there b o e hx;exact ⟨o',(hs.2 b (abB (ab4 (abh e) (I.ok.cab x c hfn hc)))).trans e1⟩
   . by_cases hj:j=i
     . subst hj;rw [hi] at e1; cases e1;rw [agX afq] at e2;cases e2;exact ⟨u,r,.inr ⟨.inl hk,c,hc,hc'⟩⟩
     . rw [af9 (acV hj)] at e2;obtain ⟨u',r',q⟩:=hl j y v' e1 e2 e3;refine ⟨u',r',?_⟩;rcases q with q | ⟨k,c',e,z'⟩
       . exact .inl q
       . refine .inr ⟨k,c',e,z'.sameBut hs ?_⟩;rintro rfl;exact hj (v9 hN e1 (I.ok.inj _ _ _ e hc ▸ hi))
   . by_cases hcc:c'=c
     . subst hcc; exact ⟨_,hc'⟩
     . obtain ⟨w2,z2⟩:=I.cell y c' e;exact ⟨w2,z2.sameBut hs hcc⟩
   . obtain ⟨e,n,ne,nf,d⟩:=I.pin p hp;refine ⟨(hs.2 p.1 ?_).trans e,n,ne,nf,d⟩;intro q;rw [q,hoc] at e;have q':oc=p.2:=abx e;exact d w' (by rw [<- q']; exact agg)
theorem wg {M:ao6} {A:acX} {E:aat->aav->Prop} {i:Nat} {x:Str} {v:V} {u:aat} {Q:Unit->aav->Prop} (I:Inv X pins σ H s) (hN:X.N.Nodup) (hi:X.N[i]?=some x) (hx:Loc X.env.scope x) (r:RelV v u)
   (h:∀ s',Inv X pins (σ.set i (some v)) H s'->Q () s') (hf:X.fn x=true\/X.env.scope.names.lookup x=some .local:=by first | exact .inl rfl | exact .inr rfl | assumption):wpAny M A (storeName X.env x u) Q E s :=
 zE I hN hi hx r (λs' I' _=>h s' I') hf
theorem Inv.call' {s':aav} {ch:List aaH} (I:Inv X pins σ H s) (ho:s'.os=s.os) (u:Un (frs X.stack) ch H H' s.heap s'.heap) (hok:mX X.prog X.w H' s'.heap) (hg:am7 s'.gens)
   (hch:∀ b∈ch,(b∈X.ex\/X.s₀.heap.objs.size<=b)/\b≠X.env.locals/\(∀ x c,X.env.cells.lookup x=some c->c≠b)/\∀ p∈X.pn++pins,p.1≠b):Inv X pins σ H' s':=by
 obtain ⟨h',g',d',t',o'⟩:=s';have e:o'=s.os:=ho;subst e;exact I.call (g':=g') (t':=t') (d':=d') u hok hg hch
end
noncomputable abbrev XK:=aat->Option aaH->Hp->Prop
noncomputable abbrev St:=List (Option V)
noncomputable abbrev VK:=V->Hp->Prop
noncomputable abbrev TE:=St->Hp->VK->Prop
noncomputable abbrev TT:=St->Hp->(Bool->Hp->Prop)->Prop
noncomputable abbrev TA:=St->Hp->(List V->Hp->Prop)->Prop
structure Ends where
 nx:St->Hp->Prop
 rt:VK
 bk:St->Hp->Prop:=λ_ _=>False
 ct:St->Hp->Prop:=λ_ _=>False
noncomputable abbrev TS:=Ends->St->Hp->Prop
noncomputable def EP (X:Cx) (pins:List (aaH × Obj)) (σ:St) (Q:VK) (u:aat) (s':aav):Prop:=∃ v H',Inv X pins σ H' s'/\RelV v u/\Q v H'
noncomputable def TP (X:Cx) (pins:List (aaH × Obj)) (σ:St) (Q:Bool->Hp->Prop) (b:Bool) (s':aav):Prop:=∃ H',Inv X pins σ H' s'/\Q b H'
noncomputable def AP (X:Cx) (pins:List (aaH × Obj)) (σ:St) (Q:List V->Hp->Prop) (us:List aat) (s':aav):Prop:=∃ vs H',Inv X pins σ H' s'/\Vals vs us/\Q vs H'
noncomputable def SP (X:Cx) (pins:List (aaH × Obj)) (D:Ends) (f:Flow) (s':aav):Prop :=
 match f with
 | .next=>∃ σ' H',Inv X pins σ' H' s'/\D.nx σ' H'
 | .brk=>∃ σ' H',Inv X pins σ' H' s'/\D.bk σ' H'
 | .cont=>∃ σ' H',Inv X pins σ' H' s'/\D.ct σ' H'
 | .ret u=>∃ v σ' H',Inv X pins σ' H' s'/\RelV v u/\D.rt v H'
noncomputable def PE (X:Cx) (e:Expr) (t:TE):Prop :=
 ∀ (pins:List (aaH × Obj)) (s:aav) (σ:St) (H:Hp) (Q:VK),Inv X pins σ H s->t σ H Q->wpAny (model X.prog X.w) X.A (eval e X.env) (EP X pins σ Q) X.xe s
noncomputable def PT (X:Cx) (e:Expr) (t:TT):Prop :=
 ∀ (pins:List (aaH × Obj)) (s:aav) (σ:St) (H:Hp) (Q:Bool->Hp->Prop),Inv X pins σ H s->t σ H Q->wpAny (model X.prog X.w) X.A (isTrue e X.env (eval e X.env)) (TP X pins σ Q) X.xe s
noncomputable def PW (X:Cx) (e:Expr) (t:TT):Prop :=
 ∀ (whole:Sem aat) (pins:List (aaH × Obj)) (s:aav) (σ:St) (H:Hp) (Q:Bool->Hp->Prop),Inv X pins σ H s->t σ H Q->wpAny (model X.prog X.w) X.A (isTrue e X.env whole) (TP X pins σ Q) X.xe s
theorem PW.pt {X:Cx} {e:Expr} {t:TT} (h:PW X e t):PT X e t:=h _
noncomputable def PA (X:Cx) (es:List Expr) (t:TA):Prop :=
 ∀ (pos:Pos) (pins:List (aaH × Obj)) (s:aav) (σ:St) (H:Hp) (Q:List V->Hp->Prop),Inv X pins σ H s->t σ H Q->wpAny (model X.prog X.w) X.A (spliced (backTo pos (starEach es X.env))) (AP X pins σ Q) X.xe s
noncomputable def PS (X:Cx) (st:air) (t:TS):Prop :=
 ∀ (pins:List (aaH × Obj)) (s:aav) (σ:St) (H:Hp) (D:Ends),Inv X pins σ H s->t D σ H->wpAny (model X.prog X.w) X.A (exec st X.env) (SP X pins D) X.xe s
noncomputable def FW (X:Cx) (st:List air) (t:TS):Prop :=
 ∀ (pins:List (aaH × Obj)) (s:aav) (σ:St) (H:Hp) (D:Ends),Inv X pins σ H s->t D σ H->wpAny (model X.prog X.w) X.A (execs st X.env) (SP X pins D) X.xe s
theorem c7 {α:Type} {t:Sem α} {Q Q':α->aav->Prop} {M:ao6} {A:acX} {E:aat->aav->Prop} {s:aav} (h:wpAny M A t Q E s) (hQ:∀ a s,Q a s->Q' a s):wpAny M A t Q' E s:=afF h hQ λ_ _ x=>x
section
variable {X:Cx}
noncomputable def agh (i:Nat):TE:=fun σ H Q=>∃ v,σ[i]?=some (some v)/\Q v H
noncomputable def tC (v:V):TE:=λ_ H Q=>Q v H
theorem YS {i:Nat} {x:Str} {pos:Pos} (hN:X.N[i]?=some x) (hv:Vis X.env.scope x) (hd:(x == ("__debug__" : Str))=false:=by decide) (hcd:(x == ("__classdict__" : Str))=false:=by decide):PE X (.Name x pos) (agh i):=by
 intro pins s σ H Q I h;obtain ⟨v,e,h⟩:=h;obtain ⟨m,hn,hl⟩:=I.loc;obtain ⟨u,r,l⟩:=hl i x v hN e hv;have fin:EP X pins σ Q u s:=⟨v,H,I,r,h⟩;rcases l with ⟨hk,hm⟩ | ⟨hk,c,hc,hcell⟩
 . exact apg (wpAny_loadName_local I.ok.kind hk hn hm fin) hd
 . rcases hk with hk | hk
   . exact apg (wpAny_loadName_cell I.ok.kind hk hc hcell fin) hd
   . exact apg (wpAny_loadName_free I.ok.kind hk hc hcell fin hcd) hd
theorem aD {i j pos}:PE X (.Constant (.int i) j pos) (tC (.int i)):=λ_ _ _ H _ I h=>wpAny_Constant_int ⟨.int i,H,I.tok _,⟨_,rfl⟩,h⟩
theorem iJ {b j pos}:PE X (.Constant (.bool b) j pos) (tC (.bl b)):=λ_ _ _ H _ I h=>Constant_bool ⟨.bl b,H,I,rfl,h⟩
theorem iw {j pos}:PE X (.Constant .none j pos) (tC .non):=λ_ _ _ H _ I h=>Constant_none ⟨.non,H,I,rfl,h⟩
theorem bY {x j pos}:PE X (.Constant (.str x) j pos) (tC (.str x)):=λ_ _ _ H _ I h=>Calls.Constant_str ⟨.str x,H,I.tok _,⟨_,rfl⟩,h⟩
noncomputable def Gl (X:Cx) (x:Str):Prop:=X.env.kindOf x=some .globalImplicit
theorem pD {E:aat->aav->Prop} {pins:List (aaH × Obj)} {s:aav} {σ:St} {H:Hp} {x:Str} {u:aat} {pos:Pos} {Q:aat->aav->Prop} (I:Inv X pins σ H s) (hg:Gl X x) (hm:X.mg x=some u) (h:Q u s)
   (hd:(x == ("__debug__" : Str))=false:=by decide):wpAny (model X.prog X.w) X.A (eval (.Name x pos) X.env) Q E s :=
 alX I.ok.kind hg (Calls.loadGlobal_global (by rw [I.ok.glob]; exact I.mod.glob.keeps I.bk) hm h) hd
theorem wj {E:aat->aav->Prop} {pins:List (aaH × Obj)} {s:aav} {σ:St} {H:Hp} {x:Str} {u:aat} {pos:Pos} {Q:aat->aav->Prop} (I:Inv X pins σ H s) (hg:Gl X x) (hm:X.mg x=none) (hv:bootBuiltins x=some u) (h:Q u s)
   (hn:x≠"__name__":=by decide) (hd:(x == ("__debug__" : Str))=false:=by decide):wpAny (model X.prog X.w) X.A (eval (.Name x pos) X.env) Q E s:=by
 obtain ⟨mb,h1,h2⟩:=I.mod.blt;exact alX I.ok.kind hg (Calls.loadGlobal_builtin (by rw [I.ok.glob]; exact I.mod.glob.keeps I.bk) hm (by rw [I.ok.blt]; exact h1.keeps I.bk) ((h2 x hn).trans hv) h) hd
theorem cM {x:Str} {v:V} {u:aat} {pos:Pos} (hg:Gl X x) (hm:X.mg x=some u) (r:RelV v u) (hd:(x == ("__debug__" : Str))=false:=by decide):PE X (.Name x pos) (tC v) :=
 λ_ _ _ H _ I h=>pD I hg hm ⟨v,H,I,r,h⟩ hd
theorem lN {x:Str} {v:V} {u:aat} {pos:Pos} (hg:Gl X x) (hm:X.mg x=none) (hv:bootBuiltins x=some u) (r:RelV v u) (hn:x≠"__name__":=by decide) (hd:(x == ("__debug__" : Str))=false:=by decide):PE X (.Name x pos) (tC v) :=
 λ_ _ _ H _ I h=>wj I hg hm hv ⟨v,H,I,r,h⟩ hn hd
variable {a b:Expr} {ta tb:TE} {pos:Pos}
noncomputable def PC (X:Cx) (op:apq) (a b:Expr) (t:TE):Prop :=
 ∀ (pins:List (aaH × Obj)) (s:aav) (σ:St) (H:Hp) (Q:VK),Inv X pins σ H s->t σ H Q ->
   wpAny (model X.prog X.w) X.A (eval a X.env) (λv s₁=>wpAny (model X.prog X.w) X.A (eval b X.env) (λu s₂=>wpAny (model X.prog X.w) X.A (compareOp op v u) (EP X pins σ Q) X.xe s₂) X.xe s₁) X.xe s
theorem Dl (b:Expr) {op:apq} (h:op≠.In) (h2:op≠.NotIn):behindInMarks op b=false:=by
 have e1:(op == CmpOp.In)=false:=by cases op <;> first | rfl | exact absurd rfl h
 have e2:(op == CmpOp.NotIn)=false:=by cases op <;> first | rfl | exact absurd rfl h2
 cases b <;> simp [behindInMarks,e1,e2]
noncomputable def abQ (ta:TE):TE:=fun σ H Q=>ta σ H λx H1=>Q (.bl (!decide (x=.non))) H1
theorem RelV.Ov {x:V} {v:aat} (r:RelV x v):(v == acS)=decide (x=.non):=by
 cases x with
 | non=>cases r; rfl
 | bl _=>cases r; rfl
 | int _=>obtain ⟨t,rfl⟩:=r; rfl
 | str _=>obtain ⟨t,rfl⟩:=r; rfl
 | KH _=>obtain ⟨t,rfl⟩:=r; rfl
 | flt _=>obtain ⟨t,rfl⟩:=r; rfl
 | ref _=>cases r; rfl
 | ty _=>cases r; rfl
theorem Bj {j pos'} (ha:PE X a ta):PC X .IsNot a (.Constant .none j pos') (abQ ta):=by
 intro pins s σ H Q I h;refine c7 (ha pins s σ H _ I h) λv s1 ⟨x,H1,I1,r1,q1⟩=>?_
 exact Constant_none (isnot_none_gen ⟨.bl _,H1,I1,by rw [r1.Ov]; rfl,q1⟩)
noncomputable def tB (t:TE):TT:=fun σ H Q=>t σ H λx H1=>∃ c,x=.bl c/\Q c H1
theorem wk {op:apq} {t:TE} (h:PC X op a b t) (h1:behindInMarks op b=false:=by first | exact Dl _ (by decide) (by decide) | rfl):PE X (.Compare a [op] [b] pos) t:=λpins s σ H Q I hw=>wpAny_Compare1 (h pins s σ H Q I hw) h1
theorem lO {op:apq} {t:TE} (h:PC X op a b t) (h1:behindInMarks op b=false:=by first | exact Dl _ (by decide) (by decide) | rfl):PT X (.Compare a [op] [b] pos) (tB t):=by
 intro pins s σ H Q I hw;refine am8 (c7 (h pins s σ H _ I hw) λv s1 h1=>c7 h1 λu s2 h2=>c7 h2 λc s3 ⟨x,H1,I1,r1,q1⟩=>?_) h1;obtain ⟨d,rfl,q⟩:=q1;cases r1;exact aeQ ⟨H1,I1,q⟩
variable {tA Uq:TT} {rest:List Expr}
noncomputable def abR (t u:TT):TT:=fun σ H Q=>t σ H λc H1=>if c=true then u σ H1 Q else Q false H1
noncomputable def tOr (t u:TT):TT:=fun σ H Q=>t σ H λc H1=>if c=true then Q true H1 else u σ H1 Q
noncomputable def agi (t:TT):TT:=fun σ H Q=>t σ H λc H1=>Q (!c) H1
theorem pw_and1 (ha:PT X a tA):PW X (.BoolOp .And [a] pos) tA:=by
 intro wh pins s σ H Q I h;refine isTrue_and (c7 (ha pins s σ H Q I h) λc s1 e=>?_);cases c with
 | true=>exact isTrue_and_nil e
 | false=>exact e
theorem pw_or1 (ha:PT X a tA):PW X (.BoolOp .Or [a] pos) tA:=by
 intro wh pins s σ H Q I h;refine isTrue_or (c7 (ha pins s σ H Q I h) λc s1 e=>?_);cases c with
 | false=>exact isTrue_or_nil e
 | true=>exact e
theorem pw_and (ha:PT X a tA) (hb:PW X (.BoolOp .And (b :: rest) pos) Uq):PW X (.BoolOp .And (a :: b :: rest) pos) (abR tA Uq):=by
 intro wh pins s σ H Q I h;refine isTrue_and (c7 (ha pins s σ H _ I h) λc s1 ⟨H1,I1,q1⟩=>?_);cases c with
 | true=>exact hb wh pins s1 σ H1 Q I1 q1
 | false=>exact ⟨H1,I1,q1⟩
theorem pw_or (ha:PT X a tA) (hb:PW X (.BoolOp .Or (b :: rest) pos) Uq):PW X (.BoolOp .Or (a :: b :: rest) pos) (tOr tA Uq):=by
 intro wh pins s σ H Q I h;refine isTrue_or (c7 (ha pins s σ H _ I h) λc s1 ⟨H1,I1,q1⟩=>?_);cases c with
 | true=>exact ⟨H1,I1,q1⟩
 | false=>exact hb wh pins s1 σ H1 Q I1 q1
theorem cP (ha:PT X a tA):PT X (.UnaryOp .Not a pos) (agi tA):=by
 intro pins s σ H Q I h;exact isTrue_not (ha pins s σ H (λc H1=>Q (!c) H1) I h)
theorem jP {op} {t:TE} (h:PE X a t):PE X (.BoolOp op [a] pos) t:=λpins s σ H Q I hw=>BoolOp_one (h pins s σ H Q I hw)
end
noncomputable def cG (K:aaf) (H:Hp) (a:aaH) (xs:List V):Prop :=
 Rd H a (.lst xs) \/
   ∃ (o:Obj) (its:Array aat) (n:Nat),K.lookup a=some o/\o.cls=.type "list"/\o.dict=none/\o.data=.seq its n/\its.size<=sizeLine/\Vals xs its.toList
noncomputable def bQ (K:aaf) (H:Hp) (a:aaH) (xs:List V):Prop :=
 Rd H a (.tup xs) \/
   ∃ (o:Obj) (its:Array aat) (n:Nat),K.lookup a=some o/\o.cls=.type "tuple"/\o.data=.seq its n/\its.size<=sizeLine/\Vals xs its.toList
noncomputable def agj:aat->Option V
 | .none=>some .non
 | .bool b=>some (.bl b)
 | .int i _=>some (.int i)
 | .str x _=>some (.str x)
 | .bytes b _=>some (.KH b)
 | .float b _=>some (.flt b)
 | .ref a=>some (.ref a)
 | .type n=>some (.ty n)
 | _=>none
theorem RelV.abs {x:V} {u:aat} (r:RelV x u):agj u=some x:=by
 cases x with
 | non=>cases r; rfl
 | bl _=>cases r; rfl
 | int _=>obtain ⟨t,rfl⟩:=r; rfl
 | str _=>obtain ⟨t,rfl⟩:=r; rfl
 | KH _=>obtain ⟨t,rfl⟩:=r; rfl
 | flt _=>obtain ⟨t,rfl⟩:=r; rfl
 | ref _=>cases r; rfl
 | ty _=>cases r; rfl
theorem RelV.inj {x y:V} {u:aat} (r:RelV x u) (q:RelV y u):x=y:=abx (r.abs.symm.trans q.abs)
theorem Vals.inj:∀ {xs ys:List V} {us:List aat},Vals xs us->Vals ys us->xs=ys
 | _,_,_,.nil,.nil=>rfl
 | _,_,_,.cons r t,.cons r' t'=>by rw [r.inj r',Vals.inj t t']
section
variable {X:Cx} {pins:List (aaH × Obj)} {σ:St} {H:Hp} {s:aav} {a:aaH} {xs ys:List V}
theorem cG.of {K:aaf} (h:H a=some (.lst xs)):cG K H a xs:=.inl (.inl h)
theorem bQ.of {K:aaf} (h:H a=some (.tup xs)):bQ K H a xs:=.inl (.inl h)
theorem Inv.list (I:Inv X pins σ H s) (h:cG X.K H a xs):∃ its:List aat,Vals xs its/\PlainL s.heap a its.toArray/\xs.length<=sizeLine:=by
 rcases h with h | ⟨o,its,n,hk,hc,hd,hs,hz,r⟩
 . obtain ⟨z,its,n,r,e⟩:=h.ok I.hok;exact ⟨its,r,⟨_,n,e,rfl,rfl,rfl⟩,z⟩
 . refine ⟨its.toList,r,⟨o,n,I.pB a o hk,hc,hd,by simpa using hs⟩,?_⟩;have e:=r.length;simp only [abC] at e;omega
theorem Inv.tuple (I:Inv X pins σ H s) (h:bQ X.K H a xs):∃ its:List aat,Vals xs its/\ao2 s.heap a its.toArray/\xs.length<=sizeLine:=by
 rcases h with h | ⟨o,its,n,hk,hc,hs,hz,r⟩
 . obtain ⟨z,its,r,p⟩:=h.ok I.hok;exact ⟨its,r,p.to,z⟩
 . refine ⟨its.toList,r,⟨o,I.pB a o hk,hc,n,by simpa using hs⟩,?_⟩;have e:=r.length;simp only [abC] at e;omega
theorem Inv.Ow (I:Inv X pins σ H s) (h:cG X.K H a xs) (h':cG X.K H a ys):xs=ys:=by
 obtain ⟨its,r,⟨o,n,e,_,_,d⟩,_⟩:=I.list h;obtain ⟨its',r',⟨o',n',e',_,_,d'⟩,_⟩:=I.list h';rw [e] at e'; cases e';rw [d] at d';injection d' with d1 _
 have:its=its':=by simpa using congrArg Array.toList d1
 subst this;exact r.inj r'
theorem Inv.KR (I:Inv X pins σ H s) (h:bQ X.K H a xs) (h':bQ X.K H a ys):xs=ys:=by
 obtain ⟨its,r,⟨o,e,_,n,d⟩,_⟩:=I.tuple h;obtain ⟨its',r',⟨o',e',_,n',d'⟩,_⟩:=I.tuple h';rw [e] at e'; cases e';rw [d] at d';injection d' with d1 _
 have:its=its':=by simpa using congrArg Array.toList d1
 subst this;exact r.inj r'
end
noncomputable abbrev Cx.wish (X:Cx) (E:aat->aav->Prop):Cx:={ X with xe:=E }
noncomputable abbrev Cx.nox (X:Cx):Cx:=X.wish λ_ _=>False
theorem Cx.Ok.wish {X:Cx} (ok:X.Ok) (E:aat->aav->Prop):(X.wish E).Ok :=
 ⟨ok.mod,ok.kind,ok.glob,ok.blt,ok.above,ok.inj,ok.has,ok.cab,ok.hd,ok.frames,ok.stk,ok.exf,ok.bs,ok.Uo,ok.KN,ok.KQ,ok.tE,ok.X3⟩
theorem Cx.Ok.jQ {X:Cx} {E:aat->aav->Prop} (ok:(X.wish E).Ok):X.Ok :=
 ⟨ok.mod,ok.kind,ok.glob,ok.blt,ok.above,ok.inj,ok.has,ok.cab,ok.hd,ok.frames,ok.stk,ok.exf,ok.bs,ok.Uo,ok.KN,ok.KQ,ok.tE,ok.X3⟩
section
variable {X:Cx} {pins:List (aaH × Obj)} {σ:St} {H:Hp} {s:aav} {E:aat->aav->Prop}
theorem Inv.wish (I:Inv X pins σ H s) (E:aat->aav->Prop):Inv (X.wish E) pins σ H s:=⟨I.ok.wish E,I.os,I.bare,I.base,I.loc,I.cell,I.free,I.jc,I.pin,I.hok,I.len⟩
theorem Inv.jQ (I:Inv (X.wish E) pins σ H s):Inv X pins σ H s:=⟨I.ok.jQ,I.os,I.bare,I.base,I.loc,I.cell,I.free,I.jc,I.pin,I.hok,I.len⟩
theorem SP.jQ {D:Ends} {f:Flow} {s':aav} (h:SP (X.wish E) pins D f s'):SP X pins D f s':=by
 cases f with
 | next=>obtain ⟨σ',H',I,q⟩:=h; exact ⟨σ',H',I.jQ,q⟩
 | brk=>obtain ⟨σ',H',I,q⟩:=h; exact ⟨σ',H',I.jQ,q⟩
 | cont=>obtain ⟨σ',H',I,q⟩:=h; exact ⟨σ',H',I.jQ,q⟩
 | ret u=>obtain ⟨v,σ',H',I,r,q⟩:=h; exact ⟨v,σ',H',I.jQ,r,q⟩
theorem FW.nox {st:List air} {t:TS} (h:FW X.nox st t):FW X st t:=λpins s σ H D I hw =>
 afF (h pins s σ H D (I.wish _) hw) (λ_ _ q=>q.jQ) λ_ _ z=>aek z
end
section
variable {X:Cx} {st:air} {rest:List air} {t u:TS} {e:Expr} {te:TE} {pos:Pos}
noncomputable def abS:TS:=λD σ H=>D.nx σ H
noncomputable def yW (t u:TS):TS:=λD σ H=>t { D with nx:=u D } σ H
theorem aU:FW X [] abS:=λ_ _ σ H _ I h=>ajD ⟨σ,H,I,h⟩
theorem aq (h1:PS X st t) (h2:FW X rest u):FW X (st :: rest) (yW t u):=by
 intro pins s σ H D I h;refine amK (c7 (h1 pins s σ H { D with nx:=u D } I h) λf s1 q=>?_);cases f with
 | next =>
   obtain ⟨σ',H',I',q⟩:=q;exact h2 pins s1 σ' H' D I' q
 | ret v=>exact q
 | brk=>exact q
 | cont=>exact q
theorem aG (h1:PS X st t):FW X [st] t:=by
 intro pins s σ H D I h;refine amK (c7 (h1 pins s σ H D I h) λf s1 q=>?_);cases f with
 | next=>exact ajD q
 | ret v=>exact q
 | brk=>exact q
 | cont=>exact q
theorem Inv.quiet {pins:List (aaH × Obj)} {σ:St} {H:Hp} {s:aav} (I:Inv X pins σ H s):interactive X.env=false:=by simp [interactive,I.ok.kind]
noncomputable def wu (te:TE):TS:=λD σ H=>te σ H λ_ H1=>D.nx σ H1
theorem cW (he:PE X e te) (hs:swapsWith e none pos.line X.env=pure false:=by rfl):PS X (.Expr e pos) (wu te):=by
 intro pins s σ H D I h;exact wpAny_Expr_any (c7 (he pins s σ H _ I h) λv s1 ⟨x,H1,I1,r1,q1⟩=>⟨σ,H1,I1,q1⟩) I.quiet hs
noncomputable def abT (te:TE):TS:=λD σ H=>te σ H D.rt
theorem bf (he:PE X e te):PS X (.Return (some e) pos) (abT te):=by
 intro pins s σ H D I h;exact wpAny_Return_some (c7 (he pins s σ H _ I h) λv s1 ⟨x,H1,I1,r1,q1⟩=>⟨x,σ,H1,I1,r1,q1⟩)
noncomputable def YT (c:TT) (t u:TS):TS:=λD σ H=>c σ H λb H1=>if b=true then t D σ H1 else u D σ H1
theorem bW {c:Expr} {a b:List air} {tc:TT} (hc:PT X c tc) (ha:FW X a t) (hb:FW X b u):PS X (.If c a b pos) (YT tc t u):=by
 intro pins s σ H D I h;refine wpAny_If (c7 (hc pins s σ H _ I h) λd s1 ⟨H1,I1,q1⟩=>?_);cases d with
 | true=>exact ha pins s1 σ H1 D I1 q1
 | false=>exact hb pins s1 σ H1 D I1 q1
noncomputable def Ox:TS:=λ_ _ _=>False
theorem dJ:PS X st Ox:=λ_ _ _ _ _ _ h=>h.elim
theorem zF {sts:List air}:FW X sts Ox:=λ_ _ _ _ _ _ h=>h.elim
end
noncomputable abbrev TG:=V->St->Hp->(St->Hp->Prop)->Prop
noncomputable abbrev YW:=List V->St->Hp->(St->Hp->Prop)->Prop
noncomputable def PG (X:Cx) (target:Expr) (t:TG):Prop :=
 ∀ (pins:List (aaH × Obj)) (s:aav) (σ:St) (H:Hp) (v:V) (u:aat) (Q:St->Hp->Prop),Inv X pins σ H s->RelV v u->t v σ H Q ->
   wpAny (model X.prog X.w) X.A (assign target X.env u) (λ_ s'=>∃ σ' H',Inv X pins σ' H' s'/\Q σ' H') X.xe s
noncomputable def PGs (X:Cx) (ts:List Expr) (t:YW):Prop :=
 ∀ (pins:List (aaH × Obj)) (s:aav) (σ:St) (H:Hp) (vs:List V) (us:List aat) (Q:St->Hp->Prop),Inv X pins σ H s->Vals vs us->t vs σ H Q ->
   wpAny (model X.prog X.w) X.A (assignInOrder ((assignEach ts X.env).map (·.2)) us) (λ_ s'=>∃ σ' H',Inv X pins σ' H' s'/\Q σ' H') X.xe s
noncomputable abbrev YX:=V->V->V->Hp->(Hp->Prop)->Prop
noncomputable def YZ (X:Cx) (t:YX):Prop :=
 ∀ (pins:List (aaH × Obj)) (s:aav) (σ:St) (H:Hp) (o i v:V) (ov iv u:aat) (Q:Hp->Prop),Inv X pins σ H s->RelV o ov->RelV i iv->RelV v u->t o i v H Q ->
   wpAny (model X.prog X.w) X.A (setItem ov iv u) (λ_ s'=>∃ H',Inv X pins σ H' s'/\Q H') X.xe s
section
variable {X:Cx} {pos:Pos}
noncomputable def iK (i:Nat):TG:=λv σ H Q=>Q (σ.set i (some v)) H
theorem bD {i:Nat} {x:Str} (hN:X.N.Nodup) (hi:X.N[i]?=some x) (hx:Loc X.env.scope x) (hf:X.fn x=true\/X.env.scope.names.lookup x=some .local:=by first | exact .inl rfl | exact .inr rfl | assumption):PG X (.Name x pos) (iK i):=by
 intro pins s σ H v u Q I r h;exact aow (wg I hN hi hx r (λs' I'=>⟨_,H,I',h⟩) hf)
noncomputable def agk:YW:=λvs σ H Q=>vs=[]/\Q σ H
noncomputable def abU (t:TG) (u:YW):YW:=λvs σ H Q=>∃ v r,vs=v :: r/\t v σ H fun σ' H'=>u r σ' H' Q
theorem dR:PGs X [] agk:=by
 intro pins s σ H vs us Q I r h;obtain ⟨e,h⟩:=h;subst e;cases r;exact assignInOrder_nil ⟨σ,H,I,h⟩
theorem aP {e:Expr} {es:List Expr} {t:TG} {u:YW} (h1:PG X e t) (h2:PGs X es u)
   (hs:(assignEach (e :: es) X.env).map (·.2)=assign e X.env :: (assignEach es X.env).map (·.2):=by rfl):PGs X (e :: es) (abU t u):=by
 intro pins s σ H vs us Q I r h;obtain ⟨v,vr,e1,h⟩:=h;subst e1;cases r with
 | cons r rr =>
   rw [hs];refine assignInOrder_cons (c7 (h1 pins s σ H _ _ _ I r h) λ_ s1 ⟨σ1,H1,I1,q1⟩=>?_);exact h2 pins s1 σ1 H1 _ _ Q I1 rr q1
noncomputable def agl (K:aaf) (n:Nat) (t:YW):TG:=λv σ H Q=>∃ a xs,v=.ref a/\bQ K H a xs/\xs.length=n/\t xs σ H Q
theorem fU {es:List Expr} {k:Nat} {t:YW} {n:Nat} (hc:X.calm=true) (h:PGs X es t)
   (hn:(assignEach es X.env).length=n:=by rfl) (hst:(assignEach es X.env).findIdx? (·.1)=none:=by rfl):PG X (.Tuple es k pos) (agl X.K n t):=by
 intro pins s σ H v u Q I r hw;obtain ⟨a,xs,e1,hq,hl,hw⟩:=hw;subst e1;cases r;obtain ⟨its,rv,ht,hz⟩:=I.tuple hq;refine assign_Tuple_tuple (I.ok.hd hc) ht (by simp [hn,<- hl,rv.length]) hst λh' hx=>?_
 have I1:Inv X pins σ H { s with heap:=h' }:=I.kept (t':=s.toks) λb o e=>hx b o (abB (abh e)) e
 exact h pins _ σ H xs _ Q I1 (by simpa using rv) hw
noncomputable def agm (to ti:TE) (t:YX):TG:=λv σ H Q=>to σ H λo H1=>ti σ H1 λi H2=>t o i v H2 λH3=>Q σ H3
theorem Y0 {o i:Expr} {to ti:TE} {t:YX} (ho:PE X o to) (hi:PE X i ti) (hs:YZ X t)
   (ha:∀ v,assign (.Subscript o i pos) X.env v=(do
     let ov <- holding [v] (eval o X.env)
     let iv <- holding [v,ov] (eval i X.env)
     standAt pos
     holding [v,ov,iv] (setItem ov iv v)
     release [v,ov,iv] []):=by intro _; rfl):PG X (.Subscript o i pos) (agm to ti t):=by
 intro pins s σ H v u Q I r h;rw [ha];refine El (ac6 (c7 (ho pins s σ H _ I h) λov s1 ⟨x,H1,I1,r1,q1⟩=>?_));refine El (ac6 (c7 (hi pins s1 σ H1 _ I1 q1) λiv s2 ⟨y,H2,I2,r2,q2⟩=>?_));refine El (ajK (El (ac6 (c7 (hs pins s2 σ H2 x y v ov iv u _ I2 r1 r2 r q2) λ_ s3 ⟨H3,I3,q3⟩=>?_))));exact wpAny_release ⟨σ,H3,I3,q3⟩
noncomputable def u9 (te:TE) (g:TG):TS:=λD σ H=>te σ H λx H1=>g x σ H1 D.nx
theorem Bk {tg e:Expr} {te:TE} {g:TG} (he:PE X e te) (hg:PG X tg g) (hs:swapsWithSole [tg] e pos.line X.env=pure false:=by rfl) (hw:swappedStores [tg] e X.env=pure none:=by rfl)
   (h1:(assignEach [tg] X.env).map (·.2)=[assign tg X.env]:=by rfl):PS X (.Assign [tg] e pos) (u9 te g):=by
 intro pins s σ H D I h;refine wpAny_Assign_stores (c7 (he pins s σ H _ I h) λv s1 ⟨x,H1,I1,r1,q1⟩=>?_) hs hw;rw [h1];exact c7 (hg pins s1 σ H1 x v _ I1 r1 q1) λ_ s2 q=>q
theorem Oz {i:Nat} {x:Str} {e:Expr} {te:TE} {pos':Pos} (hN:X.N.Nodup) (hi:X.N[i]?=some x) (hx:Loc X.env.scope x) (he:PE X e te) (hs:swapsWith e (some (.Name x pos')) pos.line X.env=pure false:=by rfl) (hf:X.fn x=true\/X.env.scope.names.lookup x=some .local:=by first | exact .inl rfl | exact .inr rfl | assumption) :
   PS X (.Assign [.Name x pos'] e pos) (u9 te (iK i)):=by
 intro pins s σ H D I h;refine wpAny_Assign_Name (c7 (he pins s σ H _ I h) λv s1 ⟨y,H1,I1,r1,q1⟩=>?_) hs;exact wg I1 hN hi hx r1 (λs2 I2=>⟨_,H1,I2,q1⟩) hf
end
structure It where
 go:Nat->Hp->Prop
 Ur:Nat->Hp->V->Hp->Prop
 stop:Nat->Hp->Prop
noncomputable def qz (X:Cx) (pins:List (aaH × Obj)) (H:Hp) (b:aaH):Prop :=
 H b=none/\b≠X.env.locals/\b ∉ X.fs/\(b∈X.ex\/X.s₀.heap.objs.size<=b)/\(∀ x c,X.env.cells.lookup x=some c->c≠b)/\∀ p∈X.pn++pins,p.1≠b
theorem Inv.Bl {X:Cx} {pins:List (aaH × Obj)} {σ:St} {H H':Hp} {s:aav} {b:aaH} (I:Inv X pins σ H s) (hb:s.heap.objs.size<=b) (hn:H' b=none):qz X pins H' b:=by
 refine ⟨hn,ajy (ab4 I.lt hb),I.agf hb,.inr (adS I.sz hb),λx c e z=>?_,λp hp z=>?_⟩
 . obtain ⟨v,q⟩:=I.cell x c e;exact absurd (ab4 q.lt (by rw [z]; exact hb)) (afM _)
 . exact absurd (ab4 (abh (I.pin p hp).1) (by rw [z]; exact hb)) (afM _)
structure Turn (P:abt) (w:acU) (K:aaf) (tg:Expr) (J:It) (fp:List aaH) (it:aaH) (tn:Nat->afp->Prop):Prop where
 mem:it∈fp
 obj:∀ i h,tn i h->∀ b∈fp,∃ o,h.get? b=some o/\∀ v,o.data≠.cell v
 keep:∀ i h h',tn i h->(∀ b∈fp,∀ o,h.get? b=some o->h'.get? b=some o)->tn i h'
 item:∀ (X:Cx),X.prog=P->X.w=w->X.K=K->X.calm=true->∀ (i:Nat) (pins:List (aaH × Obj)) (s:aav) (σ:St) (H:Hp) (E:aat->aav->Prop),Inv X pins σ H s->(∀ b∈fp,qz X pins H b)->tn i s.heap->J.go i H ->
   wpAny (model P w) X.A (pyNext (.ref it)) (λr s1=>∃ u,r=some u /\
     wpAny (model P w) X.A (letOwnedTupleGo tg (.ref it) u) (λ_ s2=>∃ x H',Inv X pins σ H' s2/\RelV x u/\J.Ur i H x H'/\tn (i+1) s2.heap/\∀ b∈fp,H' b=none) E s1) E s
 done:∀ (X:Cx),X.prog=P->X.w=w->X.K=K->X.calm=true->∀ (i:Nat) (pins:List (aaH × Obj)) (s:aav) (σ:St) (H:Hp) (E:aat->aav->Prop),Inv X pins σ H s->(∀ b∈fp,qz X pins H b)->tn i s.heap->J.stop i H ->
   wpAny (model P w) X.A (pyNext (.ref it)) (λr s1=>r=none/\Inv X pins σ H s1) E s
 self:∀ (A:acX) (i:Nat) (s:aav) (Q:aat->aav->Prop) (E:aat->aav->Prop),tn i s.heap->Q (.ref it) s->wpAny (model P w) A (pyIter (.ref it)) Q E s
noncomputable abbrev TI:=St->Hp->(It->Hp->Prop)->Prop
noncomputable def PIE (X:Cx) (pins:List (aaH × Obj)) (σ:St) (tg:Expr) (R:It->Hp->Prop) (itv:aat) (s2:aav):Prop :=
 ∃ (it:aaH) (fp:List aaH) (tn:Nat->afp->Prop) (J:It) (H':Hp),itv=.ref it/\Inv X pins σ H' s2/\Turn X.prog X.w X.K tg J fp it tn/\tn 0 s2.heap/\(∀ b∈fp,qz X pins H' b)/\R J H'
noncomputable def PI (X:Cx) (tg iter:Expr) (wi:TI):Prop :=
 ∀ (pins:List (aaH × Obj)) (s:aav) (σ:St) (H:Hp) (R:It->Hp->Prop),Inv X pins σ H s->wi σ H R ->
   wpAny (model X.prog X.w) X.A (eval iter X.env) (λv s1=>wpAny (model X.prog X.w) X.A (pyIter v) (PIE X pins σ tg R) X.xe s1) X.xe s
theorem uJ {M:ao6} {A:acX} {E:aat->aav->Prop} {s:aav} {tg:Expr} {it:aaH} {u:aat} {o:Obj} {n:String} {vs:Array aat} {Q:Unit->aav->Prop} (ho:s.heap.get? it=some o) (hc:o.cls=.type n) (hd:o.data=.fields vs)
   (hn:["enumerate","zip","dict_itemiterator","dict_reverseitemiterator","odict_iterator","itertools.zip_longest","itertools.pairwise"].contains n=false) (hQ:Q () s):wpAny M A (letOwnedTupleGo tg (.ref it) u) Q E s:=by
 unfold letOwnedTupleGo
 cases tg <;> first
   | exact aau hQ
   | (cases u <;> first
       | exact aau hQ
       | (refine El (wpAny_load ho ?_)
          rw [hc,hd];show wpAny M A (if (["enumerate","zip","dict_itemiterator","dict_reverseitemiterator","odict_iterator","itertools.zip_longest","itertools.pairwise"].contains n && vs[0]? == some (rawInt _))=true then _ else _) Q E s;rw [if_neg (by intro h; rw [hn,afK] at h; cases h)]
          exact aau hQ))
noncomputable def Us (K:aaf) (a:aaH):It :=
 ⟨λi H=>∃ xs x,cG K H a xs/\xs[i]?=some x,λi H x H'=>H'=H/\∀ xs,cG K H a xs->xs[i]?=some x,λi H=>∃ xs,cG K H a xs/\xs.length<=i⟩
noncomputable def Vd (K:aaf) (a:aaH):It :=
 ⟨λi H=>∃ xs x,bQ K H a xs/\xs[i]?=some x,λi H x H'=>H'=H/\∀ xs,bQ K H a xs->xs[i]?=some x,λi H=>∃ xs,bQ K H a xs/\xs.length<=i⟩
noncomputable def Y4 (lo:Int) (n:Nat):It:=⟨λi _=>i<n,λi H x H'=>H'=H/\x=.int (lo+i),λi _=>n<=i⟩
theorem KY {P:abt} {w:acU} {K:aaf} {tg:Expr} (a it:aaH):Turn P w K tg (Us K a) [it] it (λi h=>h.IsListIter it a i) where
 mem:=by simp
 obj:=λi h st b hb=>by
   have e:b=it:=by simpa using hb
   subst e;obtain ⟨o,e,c,d⟩:=st;exact ⟨o,e,λv z=>by rw [d] at z; cases z⟩
 keep:=λi h h' st k=>st.at λo e=>k it (by simp) o e
 item:=by
   intro X hP hw hK hc i pins s σ H E I hf st hg;subst hP hw hK;obtain ⟨xs,x,hq,hx⟩:=hg;obtain ⟨its,rv,p,hz⟩:=I.list hq;obtain ⟨u,hu,ru⟩:=rv.get hx;obtain ⟨f0,f1,f2,f3,f4,f5⟩:=hf it (by simp);refine amQ st p.isList (x:=u) (by simpa using hu) λh' st' sb=>?_
   have I1:Inv X pins σ H { s with heap:=h' }:=I.turned (t':=s.toks) (λb o hb e=>(sb.2 b hb).trans e) f0 f1 f3 f4 f5;obtain ⟨o,e,c,d⟩:=id st';exact ⟨u,rfl,uJ (s:={ s with heap:=h' }) e c d (by decide) ⟨x,H,I1,ru,⟨rfl,λys hy=>by rw [I.Ow hy hq]; exact hx⟩,st',λb hb=>(hf b hb).1⟩⟩
 done:=by
   intro X hP hw hK hc i pins s σ H E I hf st hg;subst hP hw hK;obtain ⟨xs,hq,hx⟩:=hg;obtain ⟨its,rv,p,hz⟩:=I.list hq;obtain ⟨f0,f1,f2,f3,f4,f5⟩:=hf it (by simp);have hl:=rv.length;exact am9 (I.ok.hd hc) st p.isList (by simp; omega) λh' eb=>⟨rfl,I.turned (t':=s.toks) (λb o hb e=>eb b o hb e) f0 f1 f3 f4 f5⟩
 self:=λ_ _ _ _ _ st h=>wpAny_pyIter_listiter st h
theorem Gg {P:abt} {w:acU} {K:aaf} {tg:Expr} (a it:aaH):Turn P w K tg (Vd K a) [it] it (λi h=>h.IsTupleIter it a i) where
 mem:=by simp
 obj:=λi h st b hb=>by
   have e:b=it:=by simpa using hb
   subst e;obtain ⟨o,e,c,d⟩:=st;exact ⟨o,e,λv z=>by rw [d] at z; cases z⟩
 keep:=λi h h' st k=>st.at λo e=>k it (by simp) o e
 item:=by
   intro X hP hw hK hc i pins s σ H E I hf st hg;subst hP hw hK;obtain ⟨xs,x,hq,hx⟩:=hg;obtain ⟨its,rv,p,hz⟩:=I.tuple hq;obtain ⟨u,hu,ru⟩:=rv.get hx;obtain ⟨f0,f1,f2,f3,f4,f5⟩:=hf it (by simp);refine wpAny_pyNext_tuple_item st (show s.heap.IsTuple a its.toArray from p) (x:=u) (by simpa using hu) λh' st' sb=>?_
   have I1:Inv X pins σ H { s with heap:=h' }:=I.turned (t':=s.toks) (λb o hb e=>(sb.2 b hb).trans e) f0 f1 f3 f4 f5;obtain ⟨o,e,c,d⟩:=id st';exact ⟨u,rfl,uJ (s:={ s with heap:=h' }) e c d (by decide) ⟨x,H,I1,ru,⟨rfl,λys hy=>by rw [I.KR hy hq]; exact hx⟩,st',λb hb=>(hf b hb).1⟩⟩
 done:=by
   intro X hP hw hK hc i pins s σ H E I hf st hg;subst hP hw hK;obtain ⟨xs,hq,hx⟩:=hg;obtain ⟨its,rv,p,hz⟩:=I.tuple hq;obtain ⟨f0,f1,f2,f3,f4,f5⟩:=hf it (by simp);have hl:=rv.length;exact wpAny_pyNext_tuple_end (I.ok.hd hc) st (show s.heap.IsTuple a its.toArray from p) (by simp; omega) λh' eb=>⟨rfl,I.turned (t':=s.toks) (λb o hb e=>eb b o hb e) f0 f1 f3 f4 f5⟩
 self:=λ_ _ _ _ _ st h=>wpAny_pyIter_tupleiter st h
theorem Gh {P:abt} {w:acU} {K:aaf} {tg:Expr} (it:aaH) (lo:Int) (n:Nat):Turn P w K tg (Y4 lo n) [it] it (λi h=>anZ h it (lo+(i:Nat) * 1) ((n:Int)-(i:Nat)) 1) where
 mem:=by simp
 obj:=λi h st b hb=>by
   have e:b=it:=by simpa using hb
   subst e
   exact ⟨_,st,λv z=>by
     have z':ao7 _=Data.cell v:=z
     cases z'⟩
 keep:=λi h h' st k=>k it (by simp) _ st
 item:=by
   intro X hP hw hK hc i pins s σ H E I hf st hg;subst hP hw hK;obtain ⟨f0,f1,f2,f3,f4,f5⟩:=hf it (by simp);have W:=Walks.range (prog:=X.prog) (w:=X.w) (I.ok.hd hc) it lo 1 n;refine W.item i s _ _ hg st λv h' tk hv st' kk=>?_
   obtain ⟨t,rfl⟩:=hv;have I1:Inv X pins σ H { s with heap:=h',toks:=tk }:=I.turned (λb o hb e=>kk b o (by simpa using hb) e) f0 f1 f3 f4 f5;refine ⟨_,rfl,uJ (s:={ s with heap:=h',toks:=tk }) (n:="range_iterator") st' rfl rfl (by decide) ⟨.int (lo+i),H,I1,⟨t,?_⟩,⟨rfl,rfl⟩,st',λb hb=>(hf b hb).1⟩⟩;rw [Int.mul_one]
 done:=by
   intro X hP hw hK hc i pins s σ H E I hf st hg;subst hP hw hK;obtain ⟨f0,f1,f2,f3,f4,f5⟩:=hf it (by simp);exact amR (I.ok.hd hc) st (by have:n<=i:=hg; omega) λh' eb=>⟨rfl,I.turned (t':=s.toks) (λb o hb e=>eb b o hb e) f0 f1 f3 f4 f5⟩
 self:=λ_ _ _ _ _ st h=>amS st h
section
variable {X:Cx} {tg:Expr}
noncomputable def uK (K:aaf) (tl:TE):TI:=fun σ H R=>tl σ H λx H1=>∃ a,x=.ref a/\(∃ xs,cG K H1 a xs)/\R (Us K a) H1
noncomputable def agn (K:aaf) (tl:TE):TI:=fun σ H R=>tl σ H λx H1=>∃ a,x=.ref a/\(∃ xs,bQ K H1 a xs)/\R (Vd K a) H1
theorem cX {l:Expr} {tl:TE} (hl:PE X l tl):PI X tg l (uK X.K tl):=by
 intro pins s σ H R I h;refine c7 (hl pins s σ H _ I h) λv s1 ⟨x,H1,I1,r1,q1⟩=>?_
 obtain ⟨a,e,⟨xs,hq⟩,q⟩:=q1;subst e;cases r1;obtain ⟨its,rv,p,hz⟩:=I1.list hq;refine agI p.isList ?_;refine ⟨s1.heap.objs.size,[s1.heap.objs.size],_,_,H1,rfl,I1.kept (t':=s1.toks) λb o e=>aar _ e,KY a _,⟨_,aaL _ rfl,rfl,rfl⟩,λb hb=>?_,q⟩;have e:b=s1.heap.objs.size:=by simpa using hb
 subst e;exact I1.Bl (aaw _) (I1.hok.fresh (aaw _))
theorem iy {l:Expr} {tl:TE} (hl:PE X l tl):PI X tg l (agn X.K tl):=by
 intro pins s σ H R I h;refine c7 (hl pins s σ H _ I h) λv s1 ⟨x,H1,I1,r1,q1⟩=>?_
 obtain ⟨a,e,⟨xs,hq⟩,q⟩:=q1;subst e;cases r1;obtain ⟨its,rv,p,hz⟩:=I1.tuple hq;refine wpAny_pyIter_tuple (show s1.heap.IsTuple a its.toArray from p) ?_;refine ⟨s1.heap.objs.size,[s1.heap.objs.size],_,_,H1,rfl,I1.kept (t':=s1.toks) λb o e=>aar _ e,Gg a _,⟨_,aaL _ rfl,rfl,rfl⟩,λb hb=>?_,q⟩;have e:b=s1.heap.objs.size:=by simpa using hb
 subst e;exact I1.Bl (aaw _) (I1.hok.fresh (aaw _))
theorem OD {pins:List (aaH × Obj)} {σ:St} {H:Hp} {s:aav} {R:It->Hp->Prop} {E:aat->aav->Prop} {lo hi:Int} {t u v:Tok} {tk:Nat} (I:Inv X pins σ H s) (h1:-(2 ^ 62)<=lo) (h2:lo<2 ^ 62) (h3:-(2 ^ 62)<=hi) (h4:hi<2 ^ 62)
   (q:R (Y4 lo (hi-lo).toNat) H):wpAny (model X.prog X.w) X.A (pyIter (.ref s.heap.objs.size)) (PIE X pins σ tg R) E { s with heap:=s.heap.push { cls:=.type "range",data:=.fields #[.int lo t,.int hi u,.int 1 v] },toks:=tk }:=by
 refine an9 (IsRange.new ..) (small_one h1 h2 h3 h4) ?_;have I1:Inv X pins σ H { s with heap:=s.heap.push { cls:=.type "range",data:=.fields #[.int lo t,.int hi u,.int 1 v] },toks:=tk }:=I.kept λb o e=>aar _ e
 refine ⟨(s.heap.push { cls:=.type "range",data:=.fields #[.int lo t,.int hi u,.int 1 v] }).objs.size,[(s.heap.push { cls:=.type "range",data:=.fields #[.int lo t,.int hi u,.int 1 v] }).objs.size],_,_,H,rfl,
   I1.kept (t':=tk) λb o e=>aar _ e,Gh _ lo (hi-lo).toNat,?_,λb hb=>?_,q⟩
 . have e1:lo+((0:Nat):Int) * 1=lo:=by simp
   have e2:(((hi-lo).toNat:Nat):Int)-((0:Nat):Int)=ac1 lo hi 1:=by rw [rangeSize_one]; split <;> omega
   show anZ _ _ (lo+((0:Nat):Int) * 1) ((((hi-lo).toNat:Nat):Int)-((0:Nat):Int)) 1;rw [e1,e2];exact aaL _ rfl
 . have e:b=(s.heap.push { cls:=.type "range",data:=.fields #[.int lo t,.int hi u,.int 1 v] }).objs.size:=by simpa using hb
   subst e;exact I1.Bl (aaw _) (I1.hok.fresh (aaw _))
noncomputable def abV (ta:TA):TI:=fun σ H R=>ta σ H λvs H1=>∃ j:Int,vs=[.int j]/\-(2 ^ 62)<=j/\j<2 ^ 62/\R (Y4 0 j.toNat) H1
theorem fM {a:Expr} {ta:TA} {p pos:Pos} (hg:Gl X "range") (hm:X.mg "range" = none) (ha:PA X [a] ta) (hs:starEach [a] X.env=[(false,eval a X.env)]:=by rfl):PI X tg (.Call (.Name "range" p) [a] [] pos) (abV ta):=by
 intro pins s σ H R I h;refine Call_ (wj I hg hm boot_range (ais (c7 (ha pos pins s σ H _ I h) λus s1 ⟨vs,H1,I1,r1,q1⟩=>?_) hs rfl));obtain ⟨j,e,q1,q2,q⟩:=q1;subst e;cases r1 with
 | cons r rr =>
   cases rr;obtain ⟨t,rfl⟩:=r;exact call_range_1 (OD I1 (by omega) (by omega) q1 q2 (by simpa using q))
noncomputable def Dm (wi:TI) (g:TG) (tb:TS):TS:=λD σ H=>wi σ H λJ H1=>∃ W:Nat->Nat->St->Hp->Prop,(∃ m,W 0 m σ H1)/\∀ i m σ H,W i m σ H ->
 (J.stop i H/\D.nx σ H)\/(J.go i H/\∃ N:St->Hp->Prop,(∀ σ' H',N σ' H'->∃ m',m'<m/\W (i+1) m' σ' H')/\∀ x H',J.Ur i H x H'->g x σ H' fun σ2 H2=>tb { D with nx:=N,ct:=N,bk:=D.nx } σ2 H2)
noncomputable def wz (fp:List aaH) (h:afp):List (aaH × Obj):=fp.filterMap λb=>(h.get? b).map λo=>(b,o)
theorem lQ {fp:List aaH} {h:afp} {b:aaH} {o:Obj} (hb:b∈fp) (e:h.get? b=some o):(b,o)∈wz fp h:=ajL.mpr ⟨b,hb,by rw [e]; rfl⟩
theorem KZ {fp:List aaH} {h:afp} {p:aaH × Obj} (hp:p∈wz fp h):p.1∈fp/\h.get? p.1=some p.2:=by
 obtain ⟨b,hb,e⟩:=ajL.mp hp;cases q:h.get? b with
 | none=>rw [q] at e; cases e
 | some o =>
   rw [q] at e;have e':(b,o)=p:=abx e;subst e';exact ⟨hb,q⟩
theorem Inv.pinned {pins:List (aaH × Obj)} {σ:St} {H:Hp} {s:aav} {fp:List aaH} (I:Inv X pins σ H s) (hf:∀ b∈fp,qz X pins H b) (ho:∀ b∈fp,∃ o,s.heap.get? b=some o/\∀ v,o.data≠.cell v):Inv X (pins++wz fp s.heap) σ H s :=
 I.Jl λp hp=>(abv.mp hp).elim (λz=>I.pin p (abN _ z)) λz=>by
   obtain ⟨hb,e⟩:=KZ z;obtain ⟨f0,f1,f2,_⟩:=hf p.1 hb;obtain ⟨o,e',d⟩:=ho p.1 hb;rw [e] at e'; cases e';exact ⟨e,f0,f1,f2,d⟩
theorem Inv.rK {pins pl:List (aaH × Obj)} {σ:St} {H:Hp} {s:aav} (I:Inv X (pins++pl) σ H s):Inv X pins σ H s:=I.Jl λp hp=>I.pin p (abN _ (afx _ hp))
theorem dG {iter:Expr} {body:List air} {wi:TI} {g:TG} {tb:TS} {pos:Pos} (hp:PassesOwn (model X.prog X.w) X.A X.env X.xe) (hc:X.calm=true) (hi:PI X tg iter wi) (hg:PG X tg g) (hb:FW X body tb)
   (hs:∀ x,foldedSetIterable iter X.env x=pure x:=by intro _; rfl):PS X (.For tg iter body [] pos) (Dm wi g tb):=by
 intro pins s σ H D I h;refine wpAny_For (c7 (hi pins s σ H _ I h) λv s1 h1=>c7 h1 λitv s2 h2=>?_) hs;obtain ⟨it,fp,tn,J,H2,e,I2,T,st2,f2,W,⟨m0,w0⟩,turn⟩:=h2;subst e
 have stat:∀ {H':Hp},(∀ b∈fp,H' b=none)->∀ b∈fp,qz X pins H' b:=λhn b hb=>⟨hn b hb,(f2 b hb).2⟩
 refine codeAny_forLoop_any (λn s'=>∃ i σ' H',Inv X pins σ' H' s'/\tn i s'.heap/\(∀ b∈fp,H' b=none)/\W i n σ' H') ?_ m0 ⟨0,σ,H2,I2,st2,λb hb=>(f2 b hb).1,w0⟩;rintro n s3 ⟨i,σ3,H3,I3,st3,fr3,w3⟩;rcases turn i n σ3 H3 w3 with ⟨stop,qn⟩ | ⟨go,N,hN,step⟩
 . refine ajO hp (c7 (T.done X rfl rfl rfl hc i pins s3 σ3 H3 X.xe I3 (stat fr3) st3 stop) λr s4 ⟨hr,I4⟩=>?_);subst hr;exact ajD ⟨σ3,H3,I4,qn⟩
 . refine ajO hp (c7 (T.item X rfl rfl rfl hc i pins s3 σ3 H3 X.xe I3 (stat fr3) st3 go) λr s4 ⟨u,hr,h4⟩=>?_);subst hr;refine ajO hp (c7 h4 λ_ s5 ⟨x,H5,I5,r5,y5,st5,fr5⟩=>?_);have I5':=I5.pinned (stat fr5) (T.obj _ _ st5);refine ajO hp (c7 (hg _ s5 σ3 H5 x u _ I5' r5 (step x H5 y5)) λ_ s6 ⟨σ6,H6,I6,q6⟩=>?_);refine ajO hp (c7 (hb _ s6 σ6 H6 _ I6 q6) λf s7 q7=>?_)
   have again:∀ {σ7:St} {H7:Hp},Inv X (pins++wz fp s5.heap) σ7 H7 s7->N σ7 H7->∃ m,m<n/\∃ i σ' H',Inv X pins σ' H' s7/\tn i s7.heap/\(∀ b∈fp,H' b=none)/\W i m σ' H':=λ{σ7 H7} I7 n7=>by
     obtain ⟨m',hm,w7⟩:=hN σ7 H7 n7;refine ⟨m',hm,i+1,σ7,H7,I7.rK,T.keep _ _ _ st5 λb hb o e=>(I7.pin (b,o) (abN _ (abN _ (lQ hb e)))).1,λb hb=>?_,w7⟩;obtain ⟨o,e,d⟩:=T.obj _ _ st5 b hb;exact (I7.pin (b,o) (abN _ (abN _ (lQ hb e)))).2.1
   cases f with
   | next=>obtain ⟨σ7,H7,I7,n7⟩:=q7; exact again I7 n7
   | cont=>obtain ⟨σ7,H7,I7,n7⟩:=q7; exact again I7 n7
   | brk=>obtain ⟨σ7,H7,I7,q7⟩:=q7; exact ⟨σ7,H7,I7.rK,q7⟩
   | ret v=>obtain ⟨x7,σ7,H7,I7,r7,q7⟩:=q7; exact ⟨x7,σ7,H7,I7.rK,r7,q7⟩
end
theorem fW {K:aaf} {a:aaH} {xs:List V} {g:TG} {tb:TS} {D:Ends} {σ:St} {H:Hp} (Pv:Nat->St->Hp->Prop) (h0:Pv 0 σ H) (hl:∀ i σ H,i<=xs.length->Pv i σ H->cG K H a xs)
   (hs:∀ i x σ H,xs[i]?=some x->Pv i σ H->g x σ H fun σ2 H2=>tb { D with nx:=Pv (i+1),ct:=Pv (i+1),bk:=D.nx } σ2 H2) (hd:∀ σ H,Pv xs.length σ H->D.nx σ H) :
   ∃ W:Nat->Nat->St->Hp->Prop,(∃ m,W 0 m σ H)/\∀ i m σ H,W i m σ H ->
     ((Us K a).stop i H/\D.nx σ H)\/((Us K a).go i H/\∃ N:St->Hp->Prop,(∀ σ' H',N σ' H'->∃ m',m'<m/\W (i+1) m' σ' H')/\∀ x H',(Us K a).Ur i H x H'->g x σ H' fun σ2 H2=>tb { D with nx:=N,ct:=N,bk:=D.nx } σ2 H2):=by
 refine ⟨λi m σ H=>m=xs.length-i/\i<=xs.length/\Pv i σ H,⟨xs.length,by simp,abH _,h0⟩,?_⟩;rintro i m σ H ⟨rfl,hi,p⟩;have q:=hl i σ H hi p;by_cases hlt:i<xs.length
 . refine .inr ⟨⟨xs,xs[i],q,by simp [hlt]⟩,Pv (i+1),fun σ' H' p'=>⟨xs.length-(i+1),by omega,rfl,hlt,p'⟩,λx H' y=>?_⟩;obtain ⟨e,y⟩:=y;subst e;exact hs i x σ _ (y xs q) p
 . have e:i=xs.length:=by omega
   subst e;exact .inl ⟨⟨xs,q,aaw _⟩,hd σ H p⟩
theorem rM {K:aaf} {a:aaH} {xs:List V} {g:TG} {tb:TS} {D:Ends} {σ:St} {H:Hp} (Pv:Nat->St->Hp->Prop) (h0:Pv 0 σ H) (hl:∀ i σ H,i<=xs.length->Pv i σ H->bQ K H a xs)
   (hs:∀ i x σ H,xs[i]?=some x->Pv i σ H->g x σ H fun σ2 H2=>tb { D with nx:=Pv (i+1),ct:=Pv (i+1),bk:=D.nx } σ2 H2) (hd:∀ σ H,Pv xs.length σ H->D.nx σ H) :
   ∃ W:Nat->Nat->St->Hp->Prop,(∃ m,W 0 m σ H)/\∀ i m σ H,W i m σ H ->
     ((Vd K a).stop i H/\D.nx σ H)\/((Vd K a).go i H/\∃ N:St->Hp->Prop,(∀ σ' H',N σ' H'->∃ m',m'<m/\W (i+1) m' σ' H')/\∀ x H',(Vd K a).Ur i H x H'->g x σ H' fun σ2 H2=>tb { D with nx:=N,ct:=N,bk:=D.nx } σ2 H2):=by
 refine ⟨λi m σ H=>m=xs.length-i/\i<=xs.length/\Pv i σ H,⟨xs.length,by simp,abH _,h0⟩,?_⟩;rintro i m σ H ⟨rfl,hi,p⟩;have q:=hl i σ H hi p;by_cases hlt:i<xs.length
 . refine .inr ⟨⟨xs,xs[i],q,by simp [hlt]⟩,Pv (i+1),fun σ' H' p'=>⟨xs.length-(i+1),by omega,rfl,hlt,p'⟩,λx H' y=>?_⟩;obtain ⟨e,y⟩:=y;subst e;exact hs i x σ _ (y xs q) p
 . have e:i=xs.length:=by omega
   subst e;exact .inl ⟨⟨xs,q,aaw _⟩,hd σ H p⟩
theorem jj {lo:Int} {n:Nat} {g:TG} {tb:TS} {D:Ends} {σ:St} {H:Hp} (Pv:Nat->St->Hp->Prop) (h0:Pv 0 σ H)
   (hs:∀ i σ H,i<n->Pv i σ H->g (.int (lo+i)) σ H fun σ2 H2=>tb { D with nx:=Pv (i+1),ct:=Pv (i+1),bk:=D.nx } σ2 H2) (hd:∀ σ H,Pv n σ H->D.nx σ H) :
   ∃ W:Nat->Nat->St->Hp->Prop,(∃ m,W 0 m σ H)/\∀ i m σ H,W i m σ H ->
     ((Y4 lo n).stop i H/\D.nx σ H)\/((Y4 lo n).go i H/\∃ N:St->Hp->Prop,(∀ σ' H',N σ' H'->∃ m',m'<m/\W (i+1) m' σ' H')/\∀ x H',(Y4 lo n).Ur i H x H'->g x σ H' fun σ2 H2=>tb { D with nx:=N,ct:=N,bk:=D.nx } σ2 H2):=by
 refine ⟨λi m σ H=>m=n-i/\i<=n/\Pv i σ H,⟨n,by simp,abH _,h0⟩,?_⟩;rintro i m σ H ⟨rfl,hi,p⟩;by_cases hlt:i<n
 . refine .inr ⟨hlt,Pv (i+1),fun σ' H' p'=>⟨n-(i+1),by omega,rfl,hlt,p'⟩,λx H' y=>?_⟩;obtain ⟨e,y⟩:=y;subst e y;exact hs i σ _ hlt p
 . have e:i=n:=by omega
   subst e;exact .inl ⟨aaw _,hd σ H p⟩
noncomputable abbrev R2:=V->V->Hp->VK->Prop
noncomputable def gC (X:Cx) (f:aat->aat->Sem aat) (r:R2):Prop :=
 ∀ (pins:List (aaH × Obj)) (s:aav) (σ:St) (H:Hp) (x y:V) (v u:aat) (Q:VK),Inv X pins σ H s->RelV x v->RelV y u->r x y H Q ->
   wpAny (model X.prog X.w) X.A (f v u) (EP X pins σ Q) X.xe s
noncomputable def UnR (X:Cx) (f:aat->Sem aat) (r:V->Hp->VK->Prop):Prop :=
 ∀ (pins:List (aaH × Obj)) (s:aav) (σ:St) (H:Hp) (x:V) (v:aat) (Q:VK),Inv X pins σ H s->RelV x v->r x H Q ->
   wpAny (model X.prog X.w) X.A (f v) (EP X pins σ Q) X.xe s
noncomputable def dU (X:Cx) (f:aat) (r:List V->Hp->VK->Prop):Prop :=
 ∀ (pins:List (aaH × Obj)) (s:aav) (σ:St) (H:Hp) (xs:List V) (us:List aat) (Q:VK),Inv X pins σ H s->Vals xs us->r xs H Q ->
   wpAny (model X.prog X.w) X.A (call f us) (EP X pins σ Q) X.xe s
noncomputable def Ut (r:R2) (ta tb:TE):TE:=fun σ H Q=>ta σ H λx H1=>tb σ H1 λy H2=>r x y H2 Q
noncomputable def tUn (r:V->Hp->VK->Prop) (ta:TE):TE:=fun σ H Q=>ta σ H λx H1=>r x H1 Q
noncomputable def rI (C:Int->Int->Prop) (g:Int->Int->V):R2:=λx y H Q=>∃ i j,x=.int i/\y=.int j/\C i j/\Q (g i j) H
noncomputable def OJ (g:Int->Int->V):R2:=λx y H Q=>∃ i j,x=.int i/\y=.int j/\Q (g i j) H
section
variable {X:Cx} {a b c:Expr} {ta tb tc:TE} {pos:Pos}
theorem Y5 (ha:PE X a ta) (hb:PE X b tb) {pins:List (aaH × Obj)} {s:aav} {σ:St} {H:Hp} {R:V->V->Hp->Prop} (I:Inv X pins σ H s)
   (h:ta σ H λx H1=>tb σ H1 λy H2=>R x y H2) {Q:aat->aav->Prop} {f:aat->aat->Sem aat}
   (hf:∀ v u s2 x y H2,Inv X pins σ H2 s2->RelV x v->RelV y u->R x y H2->wpAny (model X.prog X.w) X.A (f v u) Q X.xe s2) :
   wpAny (model X.prog X.w) X.A (eval a X.env) (λv s₁=>wpAny (model X.prog X.w) X.A (eval b X.env) (λu s₂=>wpAny (model X.prog X.w) X.A (f v u) Q X.xe s₂) X.xe s₁) X.xe s:=by
 refine c7 (ha pins s σ H _ I h) λv s1 ⟨x,H1,I1,r1,q1⟩=>?_
 refine c7 (hb pins s1 σ H1 _ I1 q1) λu s2 ⟨y,H2,I2,r2,q2⟩=>?_
 exact hf v u s2 x y H2 I2 r1 r2 q2
theorem bx {op:Operator} {r:R2} (ho:gC X (binaryOp op) r) (ha:PE X a ta) (hb:PE X b tb):PE X (.BinOp a op b pos) (Ut r ta tb):=by
 intro pins s σ H Q I h;exact wpAny_BinOp (Y5 ha hb I h λv u s2 x y H2 I2 rx ry q=>ho pins s2 σ H2 x y v u Q I2 rx ry q)
theorem O1 {op:UnaryOp} {r:V->Hp->VK->Prop} (ho:UnR X (unaryOp op) r) (ha:PE X a ta):PE X (.UnaryOp op a pos) (tUn r ta):=by
 intro pins s σ H Q I h;exact UnaryOp_ (c7 (ha pins s σ H _ I h) λv s1 ⟨x,H1,I1,r1,q1⟩=>ho pins s1 σ H1 x v Q I1 r1 q1)
theorem opI {f:aat->aat->Sem aat} {C:Int->Int->Prop} {g:Int->Int->Int}
   (rule:∀ (i j:Int) (t u:Tok) (s:aav) (Q:aat->aav->Prop) (E:aat->aav->Prop),C i j->Q (.int (g i j) s.toks) { s with toks:=s.toks+1 }->wpAny (model X.prog X.w) X.A (f (.int i t) (.int j u)) Q E s) :
   gC X f (rI C λi j=>.int (g i j)):=by
 intro pins s σ H x y v u Q I rx ry h;obtain ⟨i,j,rfl,rfl,hc,q⟩:=h;obtain ⟨t,rfl⟩:=rx;obtain ⟨t',rfl⟩:=ry;exact rule i j t t' s _ _ hc ⟨.int (g i j),H,I.tok _,⟨_,rfl⟩,q⟩
theorem abX {f:aat->aat->Sem aat} {g:Int->Int->Int}
   (rule:∀ (i j:Int) (t u:Tok) (s:aav) (Q:aat->aav->Prop) (E:aat->aav->Prop),Q (.int (g i j) s.toks) { s with toks:=s.toks+1 }->wpAny (model X.prog X.w) X.A (f (.int i t) (.int j u)) Q E s) :
   gC X f (OJ λi j=>.int (g i j)):=by
 intro pins s σ H x y v u Q I rx ry h;obtain ⟨i,j,rfl,rfl,q⟩:=h;obtain ⟨t,rfl⟩:=rx;obtain ⟨t',rfl⟩:=ry;exact rule i j t t' s _ _ ⟨.int (g i j),H,I.tok _,⟨_,rfl⟩,q⟩
theorem K3 {f:aat->aat->Sem aat} {g:Int->Int->Bool}
   (rule:∀ (i j:Int) (t u:Tok) (s:aav) (Q:aat->aav->Prop) (E:aat->aav->Prop),Q (.bool (g i j)) s->wpAny (model X.prog X.w) X.A (f (.int i t) (.int j u)) Q E s) :
   gC X f (OJ λi j=>.bl (g i j)):=by
 intro pins s σ H x y v u Q I rx ry h;obtain ⟨i,j,rfl,rfl,q⟩:=h;obtain ⟨t,rfl⟩:=rx;obtain ⟨t',rfl⟩:=ry;exact rule i j t t' s _ _ ⟨.bl (g i j),H,I,rfl,q⟩
noncomputable def agr (i j:Int):Prop:=0<j/\j<1073741824
noncomputable def abY (i j:Int):Prop:=0<=j/\j<=1000000/\i.natAbs<2 ^ 64
noncomputable def Ve (i j:Int):Prop:=(-(2 ^ 64)<i/\i<2 ^ 64)\/(-(2 ^ 64)<j/\j<2 ^ 64)
theorem Ve.ok {i j:Int} (h:Ve i j):IntMulOk i j:=by
 rcases h with ⟨h1,h2⟩ | ⟨h1,h2⟩
 . exact .of_left (aoa h1 h2)
 . exact .of_right (aoa h1 h2)
theorem Y6:gC X (binaryOp .Add) (OJ λi j=>.int (i+j)):=abX λ_ _ _ _ _ _ _ q=>add_int q
theorem Y7:gC X (binaryOp .Sub) (OJ λi j=>.int (i-j)):=abX λ_ _ _ _ _ _ _ q=>sub_int q
theorem Y8:gC X (binaryOp .Mult) (rI Ve λi j=>.int (i * j)):=opI λ_ _ _ _ _ _ _ hc q=>mul_int q hc.ok
theorem Y9:gC X (binaryOp .Mod) (rI (λ_ j=>0<j) λi j=>.int (i % j)):=opI λi j _ _ _ _ _ hc q=>by
 have h1:(0:Int)<j:=hc;exact mod_int' (by omega) (by rw [alY i (by omega)]; exact q)
theorem Za:gC X (binaryOp .Pow) (rI abY λi j=>.int (i ^ j.toNat)):=opI λ_ _ _ _ _ _ _ hc q=>pow_int_small hc.1 hc.2.1 hc.2.2 q
end
noncomputable def abZ:V->V->Bool
 | .non,.non=>true | .non,.int _=>true | .int _,.non=>true | .non,.bl _=>true | .bl _,.non=>true | .non,.str _=>true | .str _,.non=>true
 | .int _,.int _=>true | .bl _,.bl _=>true | .str _,.str _=>true | .KH _,.KH _=>true
 | .int _,.str _=>true | .str _,.int _=>true | .bl _,.str _=>true | .str _,.bl _=>true
 | _,_=>false
noncomputable def rEq:R2:=λx y H Q=>abZ x y=true/\Q (.bl (decide (x=y))) H
noncomputable def rNe:R2:=λx y H Q=>abZ x y=true/\Q (.bl (!decide (x=y))) H
theorem Jm {i j:Int}:decide (V.int i=V.int j)=(i == j):=by
 rw [aen];simp
theorem O2 {i j:Bool}:decide (V.bl i=V.bl j)=(i == j):=by
 rw [aen];simp
theorem Jo {i j:Str}:decide (V.str i=V.str j)=(i == j):=by
 rw [aen];simp
theorem Jp {i j:Array UInt8}:decide (V.KH i=V.KH j)=(i.toList == j.toList):=by
 rw [aen];cases i;cases j;simp
section
variable {X:Cx} {a b c:Expr} {ta tb tc:TE} {pos:Pos}
theorem cC {pins:List (aaH × Obj)} {σ:St} {H:Hp} {s:aav} {Q:VK} {k k':Bool} (I:Inv X pins σ H s) (q:Q (.bl k) H) (e:k=k'):EP X pins σ Q (.bool k') s:=by
 subst e;exact ⟨.bl k,H,I,rfl,q⟩
theorem wA:gC X (compareOp .Eq) rEq:=by
 intro pins s σ H x y v u Q I rx ry h;obtain ⟨hs,q⟩:=h;cases x with
 | non =>
   cases rx;cases y with
   | non=>cases ry; exact PySem.EqNone.eq_none_none (cC I q (by simp))
   | bl j=>cases ry; exact PySem.EqNone.eq_none_bool (cC I q (by simp))
   | int j=>obtain ⟨t',rfl⟩:=ry; exact PySem.EqNone.eq_none_int (cC I q (by simp))
   | str j=>obtain ⟨t',rfl⟩:=ry; exact PySem.EqNone.eq_none_str (cC I q (by simp))
   | _=>exact absurd (show false=true from hs) aaK
 | bl i =>
   cases rx;cases y with
   | non=>cases ry; exact PySem.EqNone.eq_bool_none (cC I q (by simp))
   | bl j=>cases ry; exact eq_bool (cC I q O2)
   | str j=>obtain ⟨t',rfl⟩:=ry; exact PySem.EqMixed.eq_bool_str (cC I q (by simp))
   | _=>exact absurd (show false=true from hs) aaK
 | int i =>
   obtain ⟨t,rfl⟩:=rx;cases y with
   | non=>cases ry; exact PySem.EqNone.eq_int_none (cC I q (by simp))
   | int j=>obtain ⟨t',rfl⟩:=ry; exact eq_int (cC I q Jm)
   | str j=>obtain ⟨t',rfl⟩:=ry; exact PySem.EqMixed.eq_int_str (cC I q (by simp))
   | _=>exact absurd (show false=true from hs) aaK
 | str i =>
   obtain ⟨t,rfl⟩:=rx;cases y with
   | non=>cases ry; exact PySem.EqNone.eq_str_none (cC I q (by simp))
   | bl j=>cases ry; exact PySem.EqMixed.eq_str_bool (cC I q (by simp))
   | int j=>obtain ⟨t',rfl⟩:=ry; exact PySem.EqMixed.eq_str_int (cC I q (by simp))
   | str j=>obtain ⟨t',rfl⟩:=ry; exact eq_str (cC I q Jo)
   | _=>exact absurd (show false=true from hs) aaK
 | KH i =>
   obtain ⟨t,rfl⟩:=rx;cases y with
   | KH j=>obtain ⟨t',rfl⟩:=ry; exact PySem.W.eq_bytes (cC I q Jp)
   | _=>exact absurd (show false=true from hs) aaK
 | _=>cases y <;> exact absurd (show false=true from hs) aaK
theorem O4:gC X (compareOp .NotEq) rNe:=by
 intro pins s σ H x y v u Q I rx ry h;obtain ⟨hs,q⟩:=h;cases x with
 | non =>
   cases rx;cases y with
   | non=>cases ry; exact PySem.EqNone.ne_none_none (cC I q (by simp))
   | bl j=>cases ry; exact PySem.EqNone.ne_none_bool (cC I q (by simp))
   | int j=>obtain ⟨t',rfl⟩:=ry; exact PySem.EqNone.ne_none_int (cC I q (by simp))
   | str j=>obtain ⟨t',rfl⟩:=ry; exact PySem.EqNone.ne_none_str (cC I q (by simp))
   | _=>exact absurd (show false=true from hs) aaK
 | bl i =>
   cases rx;cases y with
   | non=>cases ry; exact PySem.EqNone.ne_bool_none (cC I q (by simp))
   | bl j=>cases ry; exact ne_bool (cC I q (congrArg not O2))
   | str j=>obtain ⟨t',rfl⟩:=ry; exact PySem.EqMixed.ne_bool_str (cC I q (by simp))
   | _=>exact absurd (show false=true from hs) aaK
 | int i =>
   obtain ⟨t,rfl⟩:=rx;cases y with
   | non=>cases ry; exact PySem.EqNone.ne_int_none (cC I q (by simp))
   | int j=>obtain ⟨t',rfl⟩:=ry; exact ne_int (cC I q (congrArg not Jm))
   | str j=>obtain ⟨t',rfl⟩:=ry; exact PySem.EqMixed.ne_int_str (cC I q (by simp))
   | _=>exact absurd (show false=true from hs) aaK
 | str i =>
   obtain ⟨t,rfl⟩:=rx;cases y with
   | non=>cases ry; exact PySem.EqNone.ne_str_none (cC I q (by simp))
   | bl j=>cases ry; exact PySem.EqMixed.ne_str_bool (cC I q (by simp))
   | int j=>obtain ⟨t',rfl⟩:=ry; exact PySem.EqMixed.ne_str_int (cC I q (by simp))
   | str j=>obtain ⟨t',rfl⟩:=ry; exact ne_str (cC I q (congrArg not Jo))
   | _=>exact absurd (show false=true from hs) aaK
 | KH i =>
   obtain ⟨t,rfl⟩:=rx;cases y with
   | KH j=>obtain ⟨t',rfl⟩:=ry; exact PySem.W.ne_bytes (cC I q (congrArg not Jp))
   | _=>exact absurd (show false=true from hs) aaK
 | _=>cases y <;> exact absurd (show false=true from hs) aaK
theorem ab0:gC X (compareOp .Lt) (OJ λi j=>.bl (decide (i<j))):=K3 λ_ _ _ _ _ _ _ q=>lt_int q
theorem ab1:gC X (compareOp .LtE) (OJ λi j=>.bl (decide (i<=j))):=K3 λ_ _ _ _ _ _ _ q=>le_int q
theorem ab2:gC X (compareOp .Gt) (OJ λi j=>.bl (decide (j<i))):=K3 λ_ _ _ _ _ _ _ q=>gt_int q
theorem ab3:gC X (compareOp .GtE) (OJ λi j=>.bl (decide (j<=i))):=K3 λ_ _ _ _ _ _ _ q=>ge_int q
theorem Zb:gC X (compareOp .Is) (λx y H Q=>y=.non/\Q (.bl (decide (x=.non))) H):=by
 intro pins s σ H x y v u Q I rx ry h;obtain ⟨rfl,q⟩:=h;cases ry;refine is_none_gen (cC I q ?_)
 cases x <;> first
   | (cases rx; rfl)
   | (obtain ⟨t,rfl⟩:=rx; rfl)
theorem bA (b:Expr) {op:apq} (h:op≠.In:=by decide) (h2:op≠.NotIn:=by decide):behindInMarks op b=false:=by
 have e1:(op == CmpOp.In)=false:=by cases op <;> first | rfl | exact absurd rfl h
 have e2:(op == CmpOp.NotIn)=false:=by cases op <;> first | rfl | exact absurd rfl h2
 cases b <;> simp [behindInMarks,e1,e2]
theorem fZ {op:apq} {r:R2} (ho:gC X (compareOp op) r) (ha:PE X a ta) (hb:PE X b tb) (hm:behindInMarks op b=false):PE X (.Compare a [op] [b] pos) (Ut r ta tb):=by
 intro pins s σ H Q I h;exact wpAny_Compare1 (Y5 ha hb I h λv u s2 x y H2 I2 rx ry q=>ho pins s2 σ H2 x y v u Q I2 rx ry q) hm
theorem tG:(sizeLine:Nat)<2 ^ 63:=by rw [aby]; decide
theorem Gi:gC X (binaryOp .Add) (λx y H Q=>∃ i j,x=.str i/\y=.str j/\i.length+j.length<=sizeLine/\Q (.str (i++j)) H):=by
 intro pins s σ H x y v u Q I rx ry h;obtain ⟨i,j,rfl,rfl,hz,q⟩:=h;obtain ⟨t,rfl⟩:=rx;obtain ⟨t',rfl⟩:=ry;exact add_str (λt' tk=>⟨.str (i++j),H,I.tok _,⟨_,rfl⟩,q⟩) hz
theorem vals1 {x:V} {us:List aat} (r:Vals [x] us):∃ u,us=[u]/\RelV x u:=by
 cases r with
 | cons r1 r2=>cases r2; exact ⟨_,rfl,r1⟩
theorem vals2 {x y:V} {us:List aat} (r:Vals [x,y] us):∃ u w',us=[u,w']/\RelV x u/\RelV y w':=by
 cases r with
 | cons r1 r2 =>
   cases r2 with
   | cons r3 r4=>cases r4; exact ⟨_,_,rfl,r1,r3⟩
theorem zG (hc:X.calm=true):dU X (.builtin "max") (λxs H Q=>∃ i j,xs=[.int i,.int j]/\Q (.int (if j > i then j else i)) H):=by
 intro pins s σ H xs us Q I r h;obtain ⟨i,j,rfl,q⟩:=h;obtain ⟨u,w',rfl,⟨t,rfl⟩,⟨t',rfl⟩⟩:=vals2 r;refine max_two_ints (I.ok.hd hc) λh' tk k=>⟨_,H,I.kept k,?_,q⟩
 by_cases hj:j > i
 . rw [if_pos hj,if_pos hj]; exact ⟨_,rfl⟩
 . rw [if_neg hj,if_neg hj]; exact ⟨_,rfl⟩
theorem K4 (hc:X.calm=true):dU X (.builtin "min") (λxs H Q=>∃ i j,xs=[.int i,.int j]/\Q (.int (if j<i then j else i)) H):=by
 intro pins s σ H xs us Q I r h;obtain ⟨i,j,rfl,q⟩:=h;obtain ⟨u,w',rfl,⟨t,rfl⟩,⟨t',rfl⟩⟩:=vals2 r;refine min_two_ints (I.ok.hd hc) λh' tk k=>⟨_,H,I.kept k,?_,q⟩
 by_cases hj:j<i
 . rw [if_pos hj,if_pos hj]; exact ⟨_,rfl⟩
 . rw [if_neg hj,if_neg hj]; exact ⟨_,rfl⟩
theorem Dn:dU X (.builtin "divmod") (λxs H Q=>∃ i j,xs=[.int i,.int j]/\agr i j/\∀ p,H p=none->Q (.ref p) (upd H p (.tup [.int (i / j),.int (i % j)]))):=by
 intro pins s σ H xs us Q I r h;obtain ⟨i,j,rfl,⟨h1,h2⟩,q⟩:=h;obtain ⟨u,w',rfl,⟨t,rfl⟩,⟨t',rfl⟩⟩:=vals2 r;refine divmod_int (by omega) ?_ (.inl (amT (by omega)));rw [alZ i (by omega),alY i (by omega)];have hn:H s.heap.objs.size=none:=I.hok.fresh (aaw _);refine ⟨.ref s.heap.objs.size,_,?_,rfl,q _ hn⟩;refine I.laid (λb o e=>aar _ e) (aaw _) ⟨by simp only [abD,adw]; rw [aby]; decide,[.int (i / j) s.toks,.int (i % j) (s.toks+1)],.cons ⟨_,rfl⟩ (.cons ⟨_,rfl⟩ .nil),?_⟩;exact ⟨_,aaL s.heap rfl,rfl,⟨0,rfl⟩,rfl⟩
end
structure Gj (h:afp) (x dx C:aaH) (mA:Str->Option aat):Prop where
 obj:h.get? x=some (agM C dx)
 ns:h.Ns1 dx mA
 ne:dx≠x
theorem zH {h:afp} {dx:aaH} {mA:Str->Option aat} (n:h.Ns1 dx mA):∃ od,h.get? dx=some od/\∀ name,ame name od=some (mA name):=by
 obtain ⟨o,es,ep,ho,hd,hk,_,hm⟩:=n;refine ⟨o,ho,λname=>?_⟩;have e:=hm name;unfold nsFind findBy at e;rw [<- aob] at e;unfold ame;rw [hd];dsimp only;split
 . rename_i y q
   rw [q] at e;exact congrArg some e
 . rename_i q
   rw [q] at e
   have a:es.toList.any (·.refKey)=false:=by
     rw [akr];intro y hy;obtain ⟨z,t,hkey⟩:=hk y (anD.mp hy);simp [DictEntry.refKey,hkey]
   have a':¬ es.toList.any (·.refKey)=true:=by rw [a]; exact aaK
   rw [if_neg a'];exact congrArg some e
theorem Gj.look {h:afp} {x dx C:aaH} {mA:Str->Option aat} (I:Gj h x dx C mA):∃ od,amf h x (agM C dx) C (some od)/\∀ name,ame name od=some (mA name) :=
 let ⟨od,ho,hl⟩:=zH I.ns
 ⟨od,⟨I.obj,rfl,rfl,ho⟩,hl⟩
section
variable {prog:abt} {w:acU} {A:acX} {E:aat->aav->Prop} {s:aav} {K:aaf} {x dx C f:aaH} {mA:Str->Option aat} {name:Str} {v:aat}
theorem get_map {expr:Bool} {Q:aat->aav->Prop} (X:K.In s.heap) (I:Gj s.heap x dx C mA) (hg:ajj K C name=true) (hh:ahm K C=true)
   (ha:abF K (.ref C) name=some none) (hv:mA name=some v) (hv':PySem.W.handedIn v=true) (h:Q v { s with toks:=s.toks+1 }) :
   wpAny (model prog w) A (getAttr (.ref x) name expr) Q E s:=by
 obtain ⟨od,J,hl⟩:=I.look;exact PySem.W.get_value X J (alJ hg).1 (PySem.W.findObj_own hh ha rfl (by rw [hl,hv])) hv' h
theorem O5 {pl:Sem Bool} {Q:aat × List aat->aav->Prop} (X:K.In s.heap) (I:Gj s.heap x dx C mA) (hg:ajj K C name=true)
   (hf:abF K (.ref C) name=some (some (.ref f))) (ht:agp K (.ref f)=true) (hv:mA name=none) (h:Q (.ref f,[.ref x]) s) :
   wpAny (model prog w) A (getMethod (.ref x) name pl) Q E s:=by
 obtain ⟨od,J,hl⟩:=I.look;exact PySem.W.method_fn X J (alJ hg).1 (alJ hg).2 hf (beq_iff_eq.mp ht) (by show (ame name od).map (·.isSome)=some false; rw [hl,hv]; rfl) h
theorem Vf {ns:List Str} {Q:Unit->aav->Prop} (X:K.In s.heap) (I:Gj s.heap x dx C mA)
   (hs:abF K (.ref C) "__setattr__" = some (some (.builtin "object.__setattr__"))) (hp:amn K C=true) (ht:ana K C name=some none) (hh:ahm K C=true)
   (hw:am6 mA ns) (hsz:ns.length<=sizeLine)
   (h:∀ h',Gj h' x dx C (λy=>if y=name then some v else mA y)->ag6 dx s.heap h'->Q () { s with heap:=h',toks:=s.toks+2 }) :
   wpAny (model prog w) A (setAttr (.ref x) name v) Q E s:=by
 obtain ⟨od,J,hl⟩:=I.look;refine aox X J hs (PySem.W.osa_open (s:={ s with toks:=s.toks+1 }) (r:=none) X J hp ht λb=>?_);obtain ⟨cd,hc,hd'⟩:=PySem.W.any_some hh;have hx:s.heap.get? x=some ⟨.ref C,some dx,.plain,#[]⟩:=I.obj;refine El (aau (El (El (anJ hx (El (aoc (s:={ s with toks:=s.toks+1 }) (an0 X hc) ?_))))));rw [hd'];refine aau (a:=some dx) (El (aau (El ?_)));refine wpAny_nsSet1 (s:={ s with toks:=s.toks+1 }) I.ns λh' hn2 hs2=>?_
 obtain ⟨oD,esD,epD,hoD,hdD,hcD⟩:=hn2.count (aoy name v hw);refine El (wpAny_lookBehind hoD (by rw [hdD]; exact pastItsLine_dict (adS hcD (by rw [abD]; omega))) ?_);exact aau (h _ ⟨(hs2.2 _ (acV I.ne)).trans I.obj,hn2,I.ne⟩ hs2)
theorem O6 {R:aod->aav->Prop} {vs:List aat} {kw:List (Str × aat)} (X:K.In s.heap) (hm:anb K C=true)
   (hi:abF K (.ref C) "__init__" = some (some (.ref f))) (hf:PySem.W.typeIn K (.ref f)=some (.type "function"))
   (h:codeAny (model prog w) (A.under (.builtin "type.__call__" ⟨.ref C :: vs,kw⟩)) (.call (.ref f) ⟨.ref (s.heap.objs.size+1) :: vs,kw⟩) (PySem.W.InitBack (s.heap.objs.size+1) R)
     { s with heap:=(s.heap.push afG).push (agM C s.heap.objs.size) }) :
   codeAny (model prog w) A (.call (.ref C) ⟨vs,kw⟩) R s:=by
 obtain ⟨hh,g,d,t,os⟩:=s;exact PySem.W.make_core (PySem.W.makes_of X hm) (PySem.W.looks_findIn X hi) (λself=>PySem.W.bind_fn X self hf) (.inl rfl) h
end
noncomputable def gO (f:Str) (v:V):List (Str × V)->List (Str × V)
 | []=>[(f,v)]
 | (g,x) :: r=>if g=f then (g,v) :: r else (g,x) :: gO f v r
theorem uL (f g:Str) (v:V):∀ fs:List (Str × V),(gO f v fs).lookup g=if g=f then some v else fs.lookup g
 | []=>by
   show ahQ g [(f,v)]=_;by_cases h:g=f
   . have hb:(g == f)=true:=beq_iff_eq.mpr h;simp only [ahQ,hb,if_pos h]
   . have hb:(g == f)=false:=beq_eq_false_iff_ne.mpr h;simp only [ahQ,hb,if_neg h]
 | (k,x) :: r=>by
   have ih:=uL f g v r;rw [show gO f v ((k,x) :: r)=(if k=f then (k,v) :: r else (k,x) :: gO f v r) from rfl];by_cases hk:k=f
   . rw [if_pos hk];by_cases h:g=k
     . have hb:(g == k)=true:=beq_iff_eq.mpr h;simp only [ahQ,hb,if_pos (h.trans hk)]
     . have hb:(g == k)=false:=beq_eq_false_iff_ne.mpr h;simp only [ahQ,hb,if_neg (λe:g=f=>h (e.trans hk.symm))]
   . rw [if_neg hk];by_cases h:g=k
     . have hb:(g == k)=true:=beq_iff_eq.mpr h;simp only [ahQ,hb,if_neg (λe:g=f=>hk (h.symm.trans e))]
     . have hb:(g == k)=false:=beq_eq_false_iff_ne.mpr h;simp only [ahQ,hb];exact ih
theorem tH (f:Str) (v:V):∀ fs:List (Str × V),f∈(gO f v fs).map (·.1)/\∀ g,g∈fs.map (·.1)->g∈(gO f v fs).map (·.1)
 | []=>⟨by simp [gO],λg h=>by simp at h⟩
 | (k,x) :: r=>by
   obtain ⟨i1,i2⟩:=tH f v r;rw [show gO f v ((k,x) :: r)=(if k=f then (k,v) :: r else (k,x) :: gO f v r) from rfl];by_cases hk:k=f
   . rw [if_pos hk];subst hk;exact ⟨by simp,λg h=>by simpa using h⟩
   . rw [if_neg hk];refine ⟨?_,λg h=>?_⟩
     . rw [abn];exact abk _ i1
     . rw [abn] at h |-;rcases abu.mp h with e | e
       . exact abu.mpr (.inl e)
       . exact abk _ (i2 g e)
theorem uM (f:Str) (v:V):∀ fs:List (Str × V),(gO f v fs).length<=fs.length+1
 | []=>by simp [gO]
 | (k,x) :: r=>by
   have ih:=uM f v r;rw [show gO f v ((k,x) :: r)=(if k=f then (k,v) :: r else (k,x) :: gO f v r) from rfl];by_cases hk:k=f
   . rw [if_pos hk,abD,abD]; omega
   . rw [if_neg hk,abD,abD]; omega
theorem mW.some_of {v:V} {o:Option aat} (r:mW (some v) o):∃ u,o=some u/\RelV v u:=by
 cases o with
 | none=>exact (show False from r).elim
 | some u=>exact ⟨u,rfl,r⟩
theorem mW.none_of {o:Option aat} (r:mW none o):o=none:=by
 cases o with
 | none=>rfl
 | some u=>exact (show False from r).elim
theorem zJ {v:V} {u:aat} (r:RelV v u):PySem.W.handedIn u=true:=by
 cases v with
 | non=>cases (show u=acS from r); rfl
 | bl b=>cases (show u=ah7 b from r); rfl
 | int i=>obtain ⟨t,e⟩:=(show ∃ t,u=abW i t from r); cases e; rfl
 | str x=>obtain ⟨t,e⟩:=(show ∃ t,u=aml x t from r); cases e; rfl
 | KH b=>obtain ⟨t,e⟩:=(show ∃ t,u=Value.bytes b t from r); cases e; rfl
 | flt b=>obtain ⟨t,e⟩:=(show ∃ t,u=ao5 b t from r); cases e; rfl
 | ref a=>cases (show u=abA a from r); rfl
 | ty n=>cases (show u=afE n from r); rfl
section
variable {P:abt} {w:acU} {H H':Hp} {h h':afp} {a C dx:aaH} {fs fs':List (Str × V)}
theorem vA (hok:mX P w H h) (e:H a=some (.ins C dx fs)):∃ mA,Gj h a dx C mA/\(∀ f,mW (fs.lookup f) (mA f))/\am6 mA (fs.map (·.1))/\fs.length<=1000/\H dx=some (.own a):=by
 obtain ⟨d,z,ne,ob,mA,n,r,q⟩:=(show bT P w H h a (.ins C dx fs) from hok a _ e);exact ⟨mA,⟨ob,n,ne⟩,r,q,z,d⟩
end
structure Cls (K:aaf) (C:aaH):Prop where
 pg:ajj K C Str.empty=true
 hd:ahm K C=true
 po:amn K C=true
 sa:abF K (.ref C) "__setattr__" = some (some (.builtin "object.__setattr__"))
theorem Cls.get {K:aaf} {C:aaH} (c:Cls K C) (f:Str):ajj K C f=true:=c.pg
noncomputable def jR (K:aaf) (C:aaH) (f:Str):Prop:=abF K (.ref C) f=some none
theorem jR.taker {K:aaf} {C:aaH} {f:Str} (n:jR K C f):ana K C f=some none:=by
 unfold ana;rw [show abF K (.ref C) f=some none from n];rfl
structure Meth (K:aaf) (C:aaH) (m:Str) (f:aaH):Prop where
 at_:abF K (.ref C) m=some (some (.ref f))
 fn:agp K (.ref f)=true
 kp:afZ K (.ref f)=true
section
variable {X:Cx} {pins:List (aaH × Obj)} {σ:St} {H:Hp} {s:aav} {a C dx:aaH} {fs:List (Str × V)} {f:Str} {v:V} {A:acX} {E:aat->aav->Prop}
theorem Gk {b:Bool} {Q:aat->aav->Prop} (I:Inv X pins σ H s) (e:H a=some (.ins C dx fs)) (c:Cls X.K C) (n:jR X.K C f) (l:fs.lookup f=some v)
   (h:∀ u s',Inv X pins σ H s'->RelV v u->Q u s'):wpAny (model X.prog X.w) A (getAttr (.ref a) f b) Q E s:=by
 obtain ⟨mA,O,r,_,_,_⟩:=vA I.hok e;obtain ⟨u,hu,ru⟩:=mW.some_of (v:=v) (o:=mA f) (by rw [<- l]; exact r f);exact get_map I.pB O (c.get f) c.hd n hu (zJ ru) (h u _ (I.tok _) ru)
theorem qO {m:Str} {g:aaH} {pl:Sem Bool} {Q:aat × List aat->aav->Prop} (I:Inv X pins σ H s) (e:H a=some (.ins C dx fs)) (c:Cls X.K C) (k:Meth X.K C m g) (l:fs.lookup m=none)
   (h:Q (.ref g,[.ref a]) s):wpAny (model X.prog X.w) A (getMethod (.ref a) m pl) Q E s:=by
 obtain ⟨mA,O,r,_,_,_⟩:=vA I.hok e;have hn:mA m=none:=mW.none_of (by rw [<- l]; exact r m);exact O5 I.pB O (c.get m) k.at_ k.fn hn h
theorem Gm {y:V} {u:aat} {Q:Unit->aav->Prop} (I:Inv X pins σ H s) (e:H a=some (.ins C dx fs)) (c:Cls X.K C) (n:jR X.K C f) (hl:fs.length<1000) (ry:RelV y u)
   (h:∀ s',Inv X pins σ (upd H a (.ins C dx (gO f y fs))) s'->Q () s'):wpAny (model X.prog X.w) A (setAttr (.ref a) f u) Q E s:=by
 obtain ⟨mA,O,r,wi,_,ho⟩:=vA I.hok e;have hz:(fs.map (·.1)).length<=sizeLine:=by rw [aac,aby]; omega
 refine Vf I.pB O c.sa c.po n.taker c.hd wi hz λh' O' sb=>h _ ?_
 have hd:∃ o,h'.get? dx=some o:=let ⟨o,_,_,e',_⟩:=O'.ns; ⟨o,e'⟩
 refine I.write (x:=a) (e:=dx) (by rw [e]; exact aeR) (.inr ho) (λb q hb z=>(sb.2 b hb).trans z) hd ?_;refine ⟨by rw [aB O.ne]; exact ho,?_,O.ne,O'.obj,_,O'.ns,λg=>?_,λg hg=>?_⟩
 . have:=uM f y fs; omega
 . show mW ((gO f y fs).lookup g) (if g=f then some u else mA g);rw [uL];by_cases q:g=f
   . rw [if_pos q,if_pos q]; exact ry
   . rw [if_neg q,if_neg q]; exact r g
 . by_cases q:g=f
   . rw [q]; exact (tH f y fs).1
   . refine (tH f y fs).2 g (wi g λz=>hg ?_);show (if g=f then some u else mA g)=none;rw [if_neg q]; exact z
theorem Inv.made (I:Inv X pins σ H s):Inv X pins σ (upd (upd H s.heap.objs.size (.own (s.heap.objs.size+1))) (s.heap.objs.size+1) (.ins C s.heap.objs.size []))
   { s with heap:=(s.heap.push afG).push (agM C s.heap.objs.size) }:=by
 have e1:(s.heap.push afG).get? s.heap.objs.size=some afG:=aaL s.heap rfl
 have e2:((s.heap.push afG).push (agM C s.heap.objs.size)).get? (s.heap.objs.size+1)=some (agM C s.heap.objs.size):=by
   have:=aaL (s.heap.push afG) (o:=agM C s.heap.objs.size) rfl
   rwa [afy] at this
 have e3:(s.heap.push afG).Ns s.heap.objs.size (λ_=>none):=⟨afG,#[],_,e1,rfl,(λe he=>absurd he (by simp)),λ_=>rfl⟩;have I1:=I.laid (a:=s.heap.objs.size) (o:=.own (s.heap.objs.size+1)) (h':=s.heap.push afG) (t':=s.toks) (λb u q=>aar _ q) (aaw _) ⟨_,e1⟩;refine I1.laid (a:=s.heap.objs.size+1) (o:=.ins C s.heap.objs.size []) (t':=s.toks) (λb u q=>aar _ q) (aoO (afy _ _)) ?_;have ne:s.heap.objs.size≠s.heap.objs.size+1:=abB (ajk _);refine ⟨by rw [aB ne,au],abH _,ne,e2,λ_=>none,(aoz e3).at λo q=>aar _ q,λ_=>aeR,λy hy=>absurd rfl hy⟩
theorem Jq {prog:abt} {w:acU} {env:Env} {e:Expr} {f:Str} {pos:Pos} {s:aav} {Q:aat->aav->Prop} (hb:attributeBase e f env (eval e env)=eval e env)
   (h:wpAny (model prog w) A (eval e env) (λo s₁=>wpAny (model prog w) A (getAttr o f true) Q E s₁) E s):wpAny (model prog w) A (eval (.Attribute e f pos) env) Q E s :=
 Attribute_any_ h (by rw [arm_eval_Attribute,hb])
end
noncomputable def ags (K:aaf) (ta:TE) (f:Str):TE:=fun σ H Q=>ta σ H λx H1=>∃ a C dx fs v,x=.ref a/\H1 a=some (.ins C dx fs)/\Cls K C/\jR K C f/\fs.lookup f=some v/\Q v H1
noncomputable def agt (K:aaf) (ta tv:TE) (f:Str):TS:=λD σ H=>tv σ H λy H1=>ta σ H1 λx H2=>∃ a C dx fs,x=.ref a/\H2 a=some (.ins C dx fs)/\Cls K C/\jR K C f/\fs.length<1000 /\
 D.nx σ (upd H2 a (.ins C dx (gO f y fs)))
section
variable {X:Cx} {o e value:Expr} {f:Str} {pos pos' tpos:Pos} {ta tv:TE}
theorem dw (he:PE X e ta) (hb:attributeBase e f X.env (eval e X.env)=eval e X.env):PE X (.Attribute e f pos) (ags X.K ta f):=by
 intro pins s σ H Q I h;refine Jq hb (c7 (he pins s σ H _ I h) λu s1 ⟨x,H1,I1,rx,a,C,dx,fs,v,ex,ea,c,n,l,q⟩=>?_);subst ex;obtain rfl:u=abA a:=rx;exact Gk I1 ea c n l λu' s2 I2 ru=>⟨v,H1,I2,ru,q⟩
theorem wB (ha:PE X o ta) (hv:PE X value tv) (hs:swapsWith value (some (.Attribute o f pos')) pos.line X.env=pure false):PS X (.Assign [.Attribute o f pos'] value pos) (agt X.K ta tv f):=by
 intro pins s σ H D I h;refine aks (c7 (hv pins s σ H _ I h) λu s1 ⟨y,H1,I1,ry,q⟩=>c7 (ha pins s1 σ H1 _ I1 q) λov s2 ⟨x,H2,I2,rx,a,C,dx,fs,ex,ea,c,n,l,q2⟩=>?_) hs;subst ex;obtain rfl:ov=abA a:=rx;exact Gm I2 ea c n l ry λs3 I3=>⟨σ,_,I3,q2⟩
end
section
variable {X:Cx} {pins:List (aaH × Obj)} {σ:St} {H:Hp} {s:aav} {A:acX} {E:aat->aav->Prop} {Q:aat->aav->Prop} {c:aat} {b:Bool}
inductive jd (K:aaf) (H:Hp):V->aat->Prop where
 | non:jd K H .non (.type "NoneType")
 | bl (x:Bool):jd K H (.bl x) (.type "bool")
 | int (i:Int):jd K H (.int i) (.type "int")
 | str (x:Str):jd K H (.str x) (.type "str")
 | flt (x:UInt64):jd K H (.flt x) (.type "float")
 | lst {a:aaH} {xs:List V} (e:H a=some (.lst xs)):jd K H (.ref a) (.type "list")
 | gY {a:aaH} {o:Obj} {xs:List V} (e:H a=some (.gY o (.lst xs))):jd K H (.ref a) (.type "list")
 | tup {a:aaH} {xs:List V} (e:H a=some (.tup xs)):jd K H (.ref a) (.type "tuple")
 | dK {a:aaH} {kvs:List (Key × V)} (e:H a=some (.dK kvs)):jd K H (.ref a) (.type "dict")
 | dT {a:aaH} {kvs:List (List Key × V)} (e:H a=some (.dT kvs)):jd K H (.ref a) (.type "dict")
 | ins {a C dx:aaH} {fs:List (Str × V)} (e:H a=some (.ins C dx fs)) (cl:Cls K C) (ha:abF K (.ref C) "__class__" = some (some (.builtin "object.__class__")))
     (hn:PySem.W.specialIn K (.builtin "object.__class__") "__get__" = some (some (.builtin "getset_descriptor.__get__"))) (htk:PySem.W.takesIn K (.builtin "object.__class__")=some true)
     (hm:ajP K C (.type "object")=some true):jd K H (.ref a) (.ref C)
theorem K5 {x:V} {u t:aat} (I:Inv X pins σ H s) (rx:RelV x u) (ty:jd X.K H x t) (e:abf X.K t c=some b) (h:∀ tk,Q (.bool b) { s with toks:=tk }) :
   wpAny (model X.prog X.w) A (call (.builtin "isinstance") [u,c]) Q E s:=by
 cases ty with
 | non=>cases (show u=acS from rx); exact afz PySem.W.kitx_none I.pB aeR e (λz=>nomatch z) h
 | bl y=>cases (show u=ah7 y from rx); exact afz PySem.W.kitx_bool I.pB aeR e (λz=>nomatch z) h
 | int i=>obtain ⟨t,q⟩:=(show ∃ t,u=abW i t from rx); cases q; exact afz PySem.W.kitx_int I.pB aeR e (λz=>nomatch z) h
 | str y=>obtain ⟨t,q⟩:=(show ∃ t,u=aml y t from rx); cases q; exact afz PySem.W.kitx_str I.pB aeR e (λz=>nomatch z) h
 | flt y=>obtain ⟨t,q⟩:=(show ∃ t,u=ao5 y t from rx); cases q; exact afz PySem.W.kitx_float I.pB aeR e (λz=>nomatch z) h
 | @lst a xs ea =>
   cases (show u=abA a from rx);obtain ⟨_,_,n,_,h1⟩:=(show bT X.prog X.w H s.heap a (.lst xs) from I.hok a _ ea);exact afz aoA I.pB ⟨_,h1,rfl⟩ e (λz=>nomatch z) h
 | @gY a ob xs ea =>
   cases (show u=abA a from rx);obtain ⟨_,_,_,n,_,h1⟩:=(show bT X.prog X.w H s.heap a (.gY ob (.lst xs)) from I.hok a _ ea);exact afz aoA I.pB ⟨_,h1,rfl⟩ e (λz=>nomatch z) h
 | @tup a xs ea =>
   cases (show u=abA a from rx);obtain ⟨_,_,_,p⟩:=(show bT X.prog X.w H s.heap a (.tup xs) from I.hok a _ ea);obtain ⟨o,h1,h2,_⟩:=p;exact afz PySem.W.kitx_tuple I.pB ⟨o,h1,h2⟩ e (λz=>nomatch z) h
 | @dK a kvs ea =>
   cases (show u=abA a from rx);obtain ⟨_,_,vs,_,p⟩:=(show bT X.prog X.w H s.heap a (.dK kvs) from I.hok a _ ea);obtain ⟨o,es,ep,h1,h2,_⟩:=p;exact afz aoB I.pB ⟨o,h1,h2.1⟩ e (λz=>nomatch z) h
 | @dT a kvs ea =>
   cases (show u=abA a from rx);obtain ⟨_,_,xs,_,o,es,ep,h1,h2,_⟩:=(show bT X.prog X.w H s.heap a (.dT kvs) from I.hok a _ ea);exact afz aoB I.pB ⟨o,h1,h2.1⟩ e (λz=>nomatch z) h
 | @ins a C dx fs ea cl ha hn htk hm =>
   cases (show u=abA a from rx);obtain ⟨mA,O,_⟩:=vA I.hok ea;obtain ⟨od,J,_⟩:=O.look;exact afz (PySem.W.kitx_own (cl.get _) cl.hd ha hn htk hm) I.pB J e (λz=>nomatch z) h
end
structure fX (k:Nat) (A:acX):Prop where
 hd:A.handled=none
 dp:A.depth+3 * k+5<recursionLimit
 un:A.units+16 * k+200<cLine
theorem fX.mono {j k:Nat} {A:acX} (r:fX k A) (h:j<=k):fX j A:=⟨r.hd,by have:=r.dp; omega,by have:=r.un; omega⟩
theorem fX.deeper {k:Nat} {A:acX} (r:fX (k+1) A) (env:Env):fX k (A.deeper env) :=
 ⟨r.hd,by have:=r.dp; show A.depth+1+3 * k+5<_; omega,by have:=r.un; show A.units+3+16 * k+200<_; omega⟩
theorem Gn {A:acX} {C:aaH} {us:List aat} {kw:List (Str × aat)}:(A.under (.builtin "type.__call__" ⟨.ref C :: us,kw⟩)).depth=A.depth+1:=by
 first | rfl | simp [aoP,Code.weight,Code.isCreation,Code.isGuard,Code.isCaller,Code.frames,aoQ,guardIds]
theorem Gp {A:acX} {C:aaH} {us:List aat} {kw:List (Str × aat)}:(A.under (.builtin "type.__call__" ⟨.ref C :: us,kw⟩)).units=A.units+1:=by
 first | rfl | simp [aoP,Code.cUnits,Code.frames,aoQ]
theorem fX.make {k:Nat} {A:acX} (r:fX (k+1) A) (C:aaH) (us:List aat) (kw:List (Str × aat)):fX k (A.under (.builtin "type.__call__" ⟨.ref C :: us,kw⟩)) :=
 ⟨r.hd,by have:=r.dp; rw [Gn]; omega,by have:=r.un; rw [Gp]; omega⟩
theorem fX.depth {k:Nat} {A:acX} (r:fX k A):A.depth<recursionLimit:=by have:=r.dp; omega
theorem fX.units {k:Nat} {A:acX} (r:fX k A):A.units+64<cLine:=by have:=r.un; omega
theorem fX.Zc {k:Nat} {A:acX} (r:fX k A):A.units<cLine:=by have:=r.un; omega
noncomputable def yX:TA:=λ_ H Q=>Q [] H
noncomputable def jV (ta:TE) (tr:TA):TA:=fun σ H Q=>ta σ H λx H1=>tr σ H1 λxs H2=>Q (x :: xs) H2
section
variable {X:Cx} {e:Expr} {es:List Expr} {te:TE} {t:TA} {pos:Pos}
theorem ao:PA X [] yX:=λ_ _ _ _ H Q I h=>aoC ⟨[],H,I,.nil,h⟩
theorem aj (ha:PE X e te) (hr:PA X es t) (hs:starEach (e :: es) X.env=(false,eval e X.env) :: starEach es X.env:=by rfl):PA X (e :: es) (jV te t):=by
 intro pos pins s σ H Q I h;rw [hs];show wpAny _ _ (spliced ((false,eval e X.env) :: backTo pos (starEach es X.env))) _ _ s;refine al7 (c7 (ha pins s σ H _ I h) λu s1 ⟨x,H1,I1,r1,q1⟩=>?_);exact c7 (hr pos pins s1 σ H1 _ I1 q1) λus s2 ⟨xs,H2,I2,r2,q2⟩=>⟨x :: xs,H2,I2,.cons r1 r2,q2⟩
noncomputable def Zd (t:TA):TE:=fun σ H Q=>t σ H λxs H1=>xs.length<=sizeLine/\∀ p,H1 p=none->Q (.ref p) (upd H1 p (.tup xs))
noncomputable def qP (t:TA):TE:=fun σ H Q=>t σ H λxs H1=>xs.length<=sizeLine/\∀ p,H1 p=none->Q (.ref p) (upd H1 p (.lst xs))
theorem bH {x1} (h:PA X es t):PE X (.Tuple es x1 pos) (Zd t):=by
 intro pins s σ H Q I hq;refine wpAny_Tuple_spliced (c7 (h pos pins s σ H _ I hq) λus s1 ⟨xs,H1,I1,r,z,q⟩=>⟨by rw [<- r.length]; exact z,?_⟩);have hf:H1 s1.heap.objs.size=none:=I1.hok.fresh (aaw _);refine ⟨.ref s1.heap.objs.size,upd H1 s1.heap.objs.size (.tup xs),I1.laid (t':=s1.toks) (λb u e=>aar _ e) (aaw _) ?_,rfl,q _ hf⟩;exact ⟨z,us,r,⟨_,aaL _ rfl,rfl,⟨_,rfl⟩,rfl⟩⟩
theorem cR (h:PA X es t):PE X (.List es pos) (qP t):=by
 intro pins s σ H Q I hq;refine wpAny_List_spliced (c7 (h pos pins s σ H _ I hq) λus s1 ⟨xs,H1,I1,r,z,q⟩=>⟨by rw [<- r.length]; exact z,?_⟩);have hf:H1 s1.heap.objs.size=none:=I1.hok.fresh (aaw _);refine ⟨.ref s1.heap.objs.size,upd H1 s1.heap.objs.size (.lst xs),I1.laid (t':=s1.toks) (λb u e=>aar _ e) (aaw _) ?_,rfl,q _ hf⟩;exact ⟨z,us,0,r,aaL _ rfl⟩
end
noncomputable abbrev Sp:=List V->Hp->VK->XK->Prop
noncomputable abbrev K6:=List Env->Hp->aav->XK->aat->aav->Prop
structure Gq (P:abt) (w:acU) (K:aaf) (mg:Str->Option aat) (base:afp) (A:acX) (outer:List Env) (s:aav) (H:Hp):Prop where
 frames:A.frames=some outer
 mod:Mod K mg base
 bs:∀ b o,base.get? b=some o->s.heap.get? b=some o/\H b=none
 Uo:base.objs.size<=s.heap.objs.size
 tE:s.heap.FunFrames base outer
 X3:∀ b∈frs outer,H b=none
 hok:mX P w H s.heap
 bare:am7 s.gens
noncomputable def CE (outer:List Env) (P:abt) (w:acU) (H:Hp) (s:aav) (Q:VK) (u:aat) (s':aav):Prop :=
 ∃ v H',s'.os=s.os/\am7 s'.gens/\Un (frs outer) [] H H' s.heap s'.heap/\mX P w H' s'.heap/\RelV v u/\Q v H'
noncomputable def CR (CX:K6) (outer:List Env) (P:abt) (w:acU) (H:Hp) (s:aav) (Q:VK) (E:XK) (r:aod) (s':aav):Prop :=
 match r with
 | .ok (.ret u)=>CE outer P w H s Q u s'
 | .ok _=>False
 | .error e=>CX outer H s E e s'
structure aV (P:abt) (w:acU) (K:aaf) (mg:Str->Option aat) (base:afp) (CX:K6) (k:Nat) (f:aaH) (fd:abL) (ps:List Str) (sp:Sp):Prop where
 len:∀ vs H Q E,sp vs H Q E->vs.length=ps.length
 run:∀ (A:acX) (outer:List Env) (s:aav) (H:Hp) (args:Args) (us:List aat) (vs:List V) (Q:VK) (E:XK),fX k A->Gq P w K mg base A outer s H->ao9 s fd args (ps.zip us)->Vals vs us->sp vs H Q E ->
   codeAny (model P w) A (.call (.ref f) args) (CR CX outer P w H s Q E) s
theorem aV.mono {P:abt} {w:acU} {K:aaf} {mg:Str->Option aat} {base:afp} {CX:K6} {j k:Nat} {f:aaH} {fd:abL} {ps:List Str} {sp:Sp} (F:aV P w K mg base CX j f fd ps sp) (h:j<=k) :
   aV P w K mg base CX k f fd ps sp:=⟨F.len,λA outer s H args us vs Q E hr=>F.run A outer s H args us vs Q E (hr.mono h)⟩
theorem Gq.make {P:abt} {w:acU} {K:aaf} {mg:Str->Option aat} {base:afp} {A:acX} {outer:List Env} {s:aav} {H:Hp} (e:Gq P w K mg base A outer s H) (C:aaH) (us:List aat) (kw:List (Str × aat)) :
   Gq P w K mg base (A.under (.builtin "type.__call__" ⟨.ref C :: us,kw⟩)) outer s H:=⟨by first | exact e.frames | (simpa [aoP,Code.envs,aoQ,pushEnvs] using e.frames),e.mod,e.bs,e.Uo,e.tE,e.X3,e.hok,e.bare⟩
section
variable {X:Cx} {pins:List (aaH × Obj)} {σ:St} {H:Hp} {s s':aav}
theorem Inv.env0 (I:Inv X pins σ H s):Gq X.prog X.w X.K X.mg X.base X.A X.stack s H :=
 ⟨I.ok.frames,I.ok.mod,I.bs,adS I.ok.Uo I.sz,I.stack,I.vq,I.hok,I.bare⟩
theorem Inv.after {Q:VK} {u:aat} (I:Inv X pins σ H s) (h:CE X.stack X.prog X.w H s Q u s'):EP X pins σ Q u s':=by
 obtain ⟨v,H',os,bare,un,hok,r,q⟩:=h;obtain ⟨hh,g,d,t,os'⟩:=s';obtain rfl:os'=s.os:=os;exact ⟨v,H',I.call (h':=hh) (g':=g) (d':=d) (t':=t) (ch:=[]) un hok bare (λb z=>absurd z (by simp)),r,q⟩
end
noncomputable def X5 (sp:Sp) (qC:List V) (E:XK) (t:TA):TE:=fun σ H Q=>t σ H λvs H1=>sp (vs++qC) H1 Q E
noncomputable def O7 (C:aaH) (m:Str) (sp:Sp) (qC:List V) (E:XK) (ta:TE) (t:TA):TE:=fun σ H Q=>ta σ H λx H1=>∃ a dx fs,x=.ref a/\H1 a=some (.ins C dx fs)/\fs.lookup m=none /\
 t σ H1 λvs H2=>sp (x :: (vs++qC)) H2 Q E
noncomputable def X6 (C:aaH) (sp:Sp) (qC:List V) (E:XK) (t:TA):TE:=fun σ H Q=>t σ H λvs H1=>∀ x dx,H1 x=none->H1 dx=none->dx≠x ->
 sp (.ref x :: (vs++qC)) (upd (upd H1 dx (.own x)) x (.ins C dx [])) (λv H2=>v=.non/\Q (.ref x) H2) E
noncomputable def Binds (K:aaf) (fd:abL) (ps:List Str) (ds:List aat):Prop :=
 ∀ (s:aav) (us:List aat),K.In s.heap->(us++ds).length=ps.length->ao9 s fd ⟨us,[]⟩ (ps.zip (us++ds))
theorem Binds.all {K:aaf} {fd:abL} {ps:List Str} (h:∀ us:List aat,us.length=ps.length->bindArgs fd ⟨us,[]⟩=pure (ps.zip us)):Binds K fd ps []:=λs us _ hl=>by
 rw [adx] at hl |-;exact .of_eq (h us hl)
noncomputable def Passes (CX:K6) (X:Cx) (E:XK):Prop:=∀ (pins:List (aaH × Obj)) (σ:St) (H:Hp) (s:aav) (e:aat) (s':aav),Inv X pins σ H s->CX X.stack H s E e s'->X.xe e s'
section
variable {X:Cx} {CX:K6} {k:Nat} {f C:aaH} {fd:abL} {ps:List Str} {sp:Sp} {qC:List V} {ds:List aat} {E:XK} {x m:Str} {p pos apos:Pos} {e o:Expr} {es:List Expr} {ta:TE} {t:TA}
theorem Gs {pins:List (aaH × Obj)} {σ:St} {H:Hp} {s:aav} {Q:VK} {us:List aat} {vs:List V} (F:aV X.prog X.w X.K X.mg X.base CX k f fd ps sp) (hr:fX k X.A) (hb:Binds X.K fd ps ds) (hd:Vals qC ds) (hx:Passes CX X E)
   (I:Inv X pins σ H s) (r:Vals vs us) (h:sp (vs++qC) H Q E):wpAny (model X.prog X.w) X.A (call (.ref f) us) (EP X pins σ Q) X.xe s:=by
 have r2:Vals (vs++qC) (us++ds):=r.append hd;have hl:(us++ds).length=ps.length:=by rw [<- r2.length]; exact F.len _ _ _ _ h
 refine aiz (agq (F.run X.A X.stack s H ⟨us,[]⟩ (us++ds) (vs++qC) Q E hr I.env0 (hb s us I.pB hl) r2 h) λr s' hq=>?_);cases r with
 | error e=>exact hx pins σ H s e s' I hq
 | ok fl =>
   cases fl with
   | ret u=>exact I.after hq
   | next=>exact aek hq
   | brk=>exact aek hq
   | cont=>exact aek hq
theorem Vg (F:aV X.prog X.w X.K X.mg X.base CX k f fd ps sp) (hr:fX k X.A) (hg:Gl X x) (hm:X.mg x=some (.ref f)) (hk:afZ X.K (.ref f)=true) (hb:Binds X.K fd ps ds) (hd:Vals qC ds) (hx:Passes CX X E)
   (ha:PA X (e :: es) t) (hdb:(x == ("__debug__" : Str))=false:=by decide) (he:starEach (e :: es) X.env=(false,eval e X.env) :: starEach es X.env:=by rfl) (hpl:(backTo pos (starEach es X.env)).any (·.1)=false:=by rfl) :
   PE X (.Call (.Name x p) (e :: es) [] pos) (X5 sp qC E t):=by
 intro pins s σ H Q I h;refine aik (pD I hg hm ?_ hdb);refine ain (h₀:=X.base) I.ok.mod.Vb hk (c7 (ha pos pins s σ H _ I h) λus s1 ⟨vs,H1,I1,r,q⟩=>⟨I1.pB,?_⟩) he hpl;exact Gs F hr hb hd hx I1 r q
theorem gj {pl:Sem Bool} (he:PE X o ta) (c:Cls X.K C) (hm:Meth X.K C m f) (F:aV X.prog X.w X.K X.mg X.base CX k f fd ps sp) (hr:fX k X.A) (hb:Binds X.K fd ps ds) (hd:Vals qC ds) (hx:Passes CX X E) (ha:PA X (e :: es) t)
   (hst:starEach (e :: es) X.env=(false,eval e X.env) :: starEach es X.env:=by rfl) (hpl:(backTo pos (starEach es X.env)).any (·.1)=false:=by rfl)
   (ht:eval (.Call (.Attribute o m apos) (e :: es) [] pos) X.env=(do
     let ov <- eval o X.env
     standAt apos.atName
     let (f,first) <- holding [ov] (getMethod ov m pl)
     callWith pos f first (backTo pos (starEach (e :: es) X.env)) (backToKw pos (keywordEach [] X.env))):=by rfl) :
   PE X (.Call (.Attribute o m apos) (e :: es) [] pos) (O7 C m sp qC E ta t):=by
 intro pins s σ H Q I h;refine akI (pl:=pl) (c7 (he pins s σ H _ I h) λu s1 ⟨x,H1,I1,rx,a,dx,fs,ex,ea,l,q⟩=>?_) ht;subst ex;obtain rfl:u=abA a:=rx;refine qO I1 ea c hm l ?_;refine ain (first:=[.ref a]) (h₀:=X.base) I.ok.mod.Vb hm.kp (c7 (ha pos pins s1 σ H1 _ I1 q) λus s2 ⟨vs,H2,I2,r,q2⟩=>⟨I2.pB,?_⟩) hst hpl;exact Gs (us:=.ref a :: us) (vs:=.ref a :: vs) F hr hb hd hx I2 (.cons rfl r) q2
theorem rN {pl:Sem Bool} (he:PE X o ta) (c:Cls X.K C) (hm:Meth X.K C m f) (F:aV X.prog X.w X.K X.mg X.base CX k f fd ps sp) (hr:fX k X.A) (hb:Binds X.K fd ps ds) (hd:Vals qC ds) (hx:Passes CX X E)
   (ht:eval (.Call (.Attribute o m apos) [] [] pos) X.env=(do
     let ov <- eval o X.env
     standAt apos.atName
     let (f,first) <- holding [ov] (getMethod ov m pl)
     callWith pos f first (backTo pos (starEach [] X.env)) (backToKw pos (keywordEach [] X.env))):=by rfl) :
   PE X (.Call (.Attribute o m apos) [] [] pos) (O7 C m sp qC E ta yX):=by
 intro pins s σ H Q I h;refine akI (pl:=pl) (c7 (he pins s σ H _ I h) λu s1 ⟨x,H1,I1,rx,a,dx,fs,ex,ea,l,q⟩=>?_) ht;subst ex;obtain rfl:u=abA a:=rx;refine qO I1 ea c hm l ?_;exact PySem.W.callWith_K0 (first:=[.ref a]) I1.pB hm.kp (Gs (us:=[.ref a]) (vs:=[.ref a]) F hr hb hd hx I1 (.cons rfl .nil) q)
structure Mk (K:aaf) (C f:aaH):Prop where
 makes:anb K C=true
 init:abF K (.ref C) "__init__" = some (some (.ref f))
 fn:agp K (.ref f)=true
 kp:afZ K (.ref C)=true
theorem O8 {pins:List (aaH × Obj)} {σ:St} {H:Hp} {s:aav} {Q:VK} {us:List aat} {vs:List V} (M:Mk X.K C f) (F:aV X.prog X.w X.K X.mg X.base CX k f fd ps sp) (hr:fX (k+1) X.A) (hb:Binds X.K fd ps ds) (hd:Vals qC ds)
   (hx:Passes CX X E) (I:Inv X pins σ H s) (r:Vals vs us)
   (h:∀ x dx,H x=none->H dx=none->dx≠x->sp (.ref x :: (vs++qC)) (upd (upd H dx (.own x)) x (.ins C dx [])) (λv H2=>v=.non/\Q (.ref x) H2) E) :
   wpAny (model X.prog X.w) X.A (call (.ref C) us) (EP X pins σ Q) X.xe s:=by
 have hq:=h (s.heap.objs.size+1) s.heap.objs.size (I.hok.fresh (alK _)) (I.hok.fresh (aaw _)) (abB (ajk _));have I2:=Inv.made (C:=C) I;have r2:Vals (V.ref (s.heap.objs.size+1) :: (vs++qC)) (abA (s.heap.objs.size+1) :: (us++ds)):=.cons rfl (r.append hd)
 have hl:(abA (s.heap.objs.size+1) :: us++ds).length=ps.length:=by
   have e:=r2.length;rw [F.len _ _ _ _ hq] at e;exact e.symm
 refine aiz (O6 (f:=f) I.pB M.makes M.init (beq_iff_eq.mp M.fn) (agq (F.run _ X.stack _ _ ⟨abA (s.heap.objs.size+1) :: us,[]⟩ (abA (s.heap.objs.size+1) :: (us++ds)) _ _ E (hr.make C us [])
   (I2.env0.make C us []) (hb _ (abA (s.heap.objs.size+1) :: us) I2.pB hl) r2 hq) λr s' hq'=>?_))
 cases r with
 | error e=>exact hx pins σ _ _ e s' I2 hq'
 | ok fl =>
   cases fl with
   | ret u =>
     obtain ⟨v,H',I3,rv,ev,q3⟩:=I2.after hq';subst ev;exact ⟨rv,⟨V.ref (s.heap.objs.size+1),H',I3,rfl,q3⟩⟩
   | next=>exact aek hq'
   | brk=>exact aek hq'
   | cont=>exact aek hq'
theorem Jr (M:Mk X.K C f) (F:aV X.prog X.w X.K X.mg X.base CX k f fd ps sp) (hr:fX (k+1) X.A) (hg:Gl X x) (hm:X.mg x=some (.ref C)) (hb:Binds X.K fd ps ds) (hd:Vals qC ds) (hx:Passes CX X E)
   (ha:PA X (e :: es) t) (hdb:(x == ("__debug__" : Str))=false:=by decide) (he:starEach (e :: es) X.env=(false,eval e X.env) :: starEach es X.env:=by rfl) (hpl:(backTo pos (starEach es X.env)).any (·.1)=false:=by rfl) :
   PE X (.Call (.Name x p) (e :: es) [] pos) (X6 C sp qC E t):=by
 intro pins s σ H Q I h;refine aik (pD I hg hm ?_ hdb);refine ain (h₀:=X.base) I.ok.mod.Vb M.kp (c7 (ha pos pins s σ H _ I h) λus s1 ⟨vs,H1,I1,r,q⟩=>⟨I1.pB,?_⟩) he hpl;exact O8 M F hr hb hd hx I1 r q
end
section
variable {X:Cx} {CX:K6} {k:Nat} {f C:aaH} {fd:abL} {ps ks:List Str} {sp:Sp} {E:XK} {x m:Str} {p pos apos kpos:Pos} {e o:Expr} {es:List Expr} {kws:List aoD} {te ta:TE} {t tk:TA} {nm:Option Str}
variable {g:List aat->List aat->List aat} {gV:List V->List V->List V}
end
structure aZ (N P:List Str) (sc:Scope):Prop where
 kind:sc.kind=.function
 co:sc.isCoroutine=false
 gen:sc.isGenerator=false
 nd:N.Nodup
 pre:N.take P.length=P
 par:∀ x∈P,sc.names.lookup x=some .local\/sc.names.lookup x=some .cell
 Ze:∀ y∈sc.names,y.2≠.free
theorem nj {N P:List Str} {sc:Scope} (a:sc.kind=.function:=by rfl) (b:sc.isCoroutine=false:=by rfl) (c:sc.isGenerator=false:=by rfl) (d:N.Nodup:=by decide +kernel) (e:N.take P.length=P:=by rfl) (f:∀ x∈P,sc.names.lookup x=some .local\/sc.names.lookup x=some .cell:=by decide +kernel) (g:∀ y∈sc.names,y.2≠.free:=by decide +kernel):aZ N P sc:=⟨a,b,c,d,e,f,g⟩
theorem zK {kindOf:Str->Option ajQ} {x:Str}:∀ {binds:List (Str × aat)} {m:Str->Option aat},(∀ v,(x,v) ∉ binds)->bindL kindOf binds m x=m x
 | [],_,_=>rfl
 | (n,v) :: r,m,h=>by
   unfold bindL;rw [zK λw hw=>h w (abk _ hw)];split
   . have:x≠n:=by rintro rfl; exact h v abw
     simp [this]
   . rfl
theorem zL {kindOf:Str->Option ajQ} {x:Str}:∀ {binds:List (Str × aat)} {m:Str->Option aat},(∀ v,(x,v) ∉ binds)->bindC kindOf binds m x=m x
 | [],_,_=>rfl
 | (n,v) :: r,m,h=>by
   unfold bindC;rw [zL λw hw=>h w (abk _ hw)];split
   . rfl
   . have:x≠n:=by rintro rfl; exact h v abw
     simp [this]
theorem zM {kindOf:Str->Option ajQ} {x:Str} {v:aat}:∀ {P:List Str} {vs:List aat} {i:Nat} {m:Str->Option aat},P.Nodup->P[i]?=some x->vs[i]?=some v->kindOf x=some .local ->
   bindL kindOf (P.zip vs) m x=some v
 | [],_,_,_,_,h,_,_=>by simp at h
 | _ :: _,[],_,_,_,_,h,_=>by simp at h
 | p :: P,w :: vs,0,m,nd,h1,h2,hk=>by
   simp at h1 h2; subst h1; subst h2;show bindL kindOf ((p,w) :: P.zip vs) m p=_;unfold bindL;rw [zK λv hv=>(ahn.mp nd).1 (anc hv).1,if_pos hk];simp
 | p :: P,w :: vs,i+1,m,nd,h1,h2,hk=>by
   show bindL kindOf ((p,w) :: P.zip vs) m x=_;unfold bindL;exact zM (i:=i) (ahn.mp nd).2 (by simpa using h1) (by simpa using h2) hk
theorem zN {kindOf:Str->Option ajQ} {x:Str} {v:aat}:∀ {P:List Str} {vs:List aat} {i:Nat} {m:Str->Option aat},P.Nodup->P[i]?=some x->vs[i]?=some v->kindOf x≠some .local ->
   bindC kindOf (P.zip vs) m x=some v
 | [],_,_,_,_,h,_,_=>by simp at h
 | _ :: _,[],_,_,_,_,h,_=>by simp at h
 | p :: P,w :: vs,0,m,nd,h1,h2,hk=>by
   simp at h1 h2; subst h1; subst h2;show bindC kindOf ((p,w) :: P.zip vs) m p=_;unfold bindC;rw [zL λv hv=>(ahn.mp nd).1 (anc hv).1,if_neg hk];simp
 | p :: P,w :: vs,i+1,m,nd,h1,h2,hk=>by
   show bindC kindOf ((p,w) :: P.zip vs) m x=_;unfold bindC;exact zN (i:=i) (ahn.mp nd).2 (by simpa using h1) (by simpa using h2) hk
noncomputable def start (N:List Str) (vs:List V):St:=vs.map some++aft (N.length-vs.length) none
noncomputable def Dq (CX:K6) (P:abt) (w:acU) (K:aaf) (mg:Str->Option aat) (base:afp) (N:List Str) (qual:Str) (scope:Scope) (f:aaH) (cd:aat) (A:acX) (outer:List Env) (s:aav) (H:Hp) (E:XK):Cx where
 prog:=P
 w:=w
 K:=K
 mg:=mg
 base:=base
 A:=A.deeper (envOfC qual scope s.heap.objs.size f cd)
 N:=N
 s₀:=s
 H₀:=H
 env:=envOfC qual scope s.heap.objs.size f cd
 outer:=outer
 stack:=envOfC qual scope s.heap.objs.size f cd :: outer
 ex:=[]
 calm:=true
 fn:=λ_=>true
 pn:=[]
 xe:=λe s'=>wpAny (model P w) (A.deeper (envOfC qual scope s.heap.objs.size f cd)) (leaving (envOfC qual scope s.heap.objs.size f cd) e) (λ_ s''=>CX outer H s E e s'') (λe' s''=>CX outer H s E e' s'') s'
theorem wC {sc:Scope} {n:Nat} {x:Str} (h:sc.names.lookup x=some .cell):∃ c,(cellsFrom n sc.names []).lookup x=some c:=by
 have q:=amU sc.names n [] (.inl h);exact af6.mp q
theorem K7 {CX:K6} {P:abt} {w:acU} {K:aaf} {mg:Str->Option aat} {base:afp} {N ps:List Str} {qual:Str} {scope:Scope} {f:aaH} {cd:aat} {A:acX} {outer:List Env} {s s1:aav} {H:Hp} {E:XK} {us:List aat} {vs:List V}
   (S:aZ N ps scope) (hd:A.handled=none) (e0:Gq P w K mg base A outer s H) (hl:vs.length=ps.length) (r:Vals vs us)
   (x:InCallC s s.heap.objs.size (bindL (envOfC qual scope s.heap.objs.size f cd).kindOf (ps.zip us) λ_=>none) (cellsFrom (s.heap.objs.size+1) scope.names []) (bindC (envOfC qual scope s.heap.objs.size f cd).kindOf (ps.zip us) λ_=>none) s1) :
   Inv (Dq CX P w K mg base N qual scope f cd A outer s H E) [] (start N vs) H s1:=by
 have hpl:ps.length<=N.length:=by have:=congrArg afN S.pre; rw [abI] at this; omega
 obtain ⟨h1,tk,rfl,hk⟩:=x.done;have noA:∀ b:aaH,b ∉ (Dq CX P w K mg base N qual scope f cd A outer s H E).ex:=λb z=>absurd (show b∈([]:List aaH) from z) (by simp)
 refine ⟨⟨e0.mod,S.kind,rfl,rfl,aaw _,λy z c h1 h2=>?_,λy hy=>?_,λy c _ h=>?_,λ_=>hd,Around.frames_deeper e0.frames,.inr ⟨rfl,rfl⟩,λb z=>absurd z (noA b),e0.bs,e0.Uo,λb _ _=>noA b,λb z=>absurd z (noA b),e0.tE,e0.X3⟩,
   rfl,e0.bare,Un.kept hk,⟨_,x.toInCall.ns,λi y v h1 h2 h3=>?_⟩,λy c h=>⟨_,x.cell y c h⟩,e0.hok.fresh (aaw _),λy c h=>?_,λp hp=>absurd (show p∈([]:List (aaH × Obj)) from hp) (by simp),e0.hok.kept hk,?_⟩
 . exact name_of_addr x.apart (afC h1) (afC h2)
 . have hy:scope.names.lookup y=some .cell\/scope.names.lookup y=some .free:=hy;rcases hy with hy | hy
   . exact wC hy
   . exact absurd rfl (S.Ze _ (afC hy))
 . exact af3 (x.above y c (afC h))
 . have hi:i<vs.length:=by
     unfold start at h2;by_cases hi:i<vs.length
     . exact hi
     . rw [agY (by simpa using hi)] at h2;rw [List.getElem?_replicate] at h2;split at h2 <;> cases h2
   have ha:vs[i]?=some v:=by
     unfold start at h2;rw [amg (by simpa using hi),aaJ] at h2;cases e:vs[i]? with
     | none=>rw [e] at h2; cases h2
     | some a=>rw [e] at h2; cases h2; rfl
   obtain ⟨u,hu,rv⟩:=r.get ha
   have hp:ps[i]?=some y:=by
     rw [<- S.pre,List.getElem?_take_of_lt (by omega)]; exact h1
   have ndP:ps.Nodup:=by rw [<- S.pre]; exact S.nd.sublist (afH _ _)
   refine ⟨u,rv,?_⟩;rcases S.par y (abq hp) with k | k
   . exact .inl ⟨k,zM ndP hp hu k⟩
   . obtain ⟨c,e⟩:=wC (n:=s.heap.objs.size+1) k;refine .inr ⟨.inl k,c,e,?_⟩;have q:=x.cell y c e;rw [zN ndP hp hu (by show scope.names.lookup y≠_; rw [k]; decide)] at q;exact q
 . exact e0.hok.fresh (af3 (x.above y c (afC h)))
 . unfold start;show _=N.length;rw [aay,aac,akJ];omega
theorem X7 {CX:K6} {P:abt} {w:acU} {K:aaf} {mg:Str->Option aat} {base:afp} {k:Nat} {f:aaH} {name qual:Str} {params:Arguments} {body:List air} {scope:Scope} {dV kV doc pm cdv ct oc:aat} {an od:Option aaH}
   {osl:Array (Option aat)} {N ps:List Str} {sp:Sp} (lk:K.lookup f=some ⟨oc,od,.func (agy name qual params body scope dV kV doc pm an cdv ct),osl⟩) (hcd:anK K cdv qual=true) (S:aZ N ps scope)
   (len:∀ vs H Q E,sp vs H Q E->vs.length=ps.length)
   (hbody:∀ (A:acX) (outer:List Env) (s:aav) (H:Hp) (vs:List V) (Q:VK) (E:XK),fX k (A.deeper (envOfC qual scope s.heap.objs.size f cdv))->sp vs H Q E ->
     ∃ t,FW (Dq CX P w K mg base N qual scope f cdv A outer s H E) body t/\t { nx:=λ_ H'=>Q .non H',rt:=Q } (start N vs) H) :
   aV P w K mg base CX (k+1) f (agy name qual params body scope dV kV doc pm an cdv ct) ps sp:=by
 refine ⟨len,λA outer s H args us vs Q E hr e0 hb r hsp=>?_⟩;have hl:=len _ _ _ _ hsp;have KX:K.In s.heap:=e0.mod.Vb.keeps λb o e=>(e0.bs b o e).1
 have lim:s.heap.NoLimit:=e0.mod.nolimit.keeps λb o e=>(e0.bs b o e).1
 have hkind:∀ y∈ps.zip us,scope.names.lookup y.1=some .local\/(scope.names.lookup y.1=some .cell/\((cellsFrom (s.heap.objs.size+1) scope.names []).lookup y.1).isSome=true):=λ⟨n,v⟩ hy=>by
   rcases S.par n (anc hy).1 with q | q
   . exact .inl q
   . exact .inr ⟨q,amU _ _ _ (.inl q)⟩
 refine codeAny_call_function hr.depth (KX _ _ lk) rfl S.co S.gen rfl (PySem.W.codeRec_of KX hcd) (hb _ _ _ _ ?_);refine wpAny_newFunctionEnv_cells S.kind hkind λenv he s1 x=>?_
 subst he;refine ⟨lim.keeps x.toInCall.keep,codeAny_func ?_⟩;obtain ⟨t,ht,hq⟩:=hbody A outer s H vs Q E (hr.deeper _) hsp;have I:Inv (Dq CX P w K mg base N qual scope f cdv A outer s H E) [] (start N vs) H s1:=K7 S hr.hd e0 hl r x;refine afF (ht [] s1 (start N vs) H _ I hq) (λfl s' hs=>?_) λe s' hs=>hs
 have fin:∀ {σ':St} {H':Hp} {v:V} {u:aat},Inv (Dq CX P w K mg base N qual scope f cdv A outer s H E) [] σ' H' s'->RelV v u->Q v H'->CE outer P w H s Q u s' :=
   λ{σ' H' v u} J rv q=>⟨v,H',J.os,J.bare,J.base,J.hok,rv,q⟩
 cases fl with
 | ret u =>
   obtain ⟨v,σ',H',J,rv,q⟩:=hs;exact fin J rv q
 | next =>
   obtain ⟨σ',H',J,q⟩:=hs;exact fin (v:=V.non) (u:=acS) J rfl q
 | brk =>
   obtain ⟨_,_,_,q⟩:=hs;exact aek q
 | cont =>
   obtain ⟨_,_,_,q⟩:=hs;exact aek q
section
variable {X:Cx} {x:Str} {p pos:Pos} {e:Expr} {es:List Expr} {t:TA} {id T:String} {r:List V->Hp->VK->Prop}
noncomputable def tCB (r:List V->Hp->VK->Prop) (t:TA):TE:=fun σ H Q=>t σ H λvs H1=>r vs H1 Q
theorem aM (hc:dU X (.builtin id) r) (hg:Gl X x) (hm:X.mg x=none) (hv:bootBuiltins x=some (.builtin id)) (ha:PA X (e :: es) t) (hn:x≠"__name__":=by decide) (hdb:(x == ("__debug__" : Str))=false:=by decide)
   (he:starEach (e :: es) X.env=(false,eval e X.env) :: starEach es X.env:=by rfl) (hpl:(backTo pos (starEach es X.env)).any (·.1)=false:=by rfl):PE X (.Call (.Name x p) (e :: es) [] pos) (tCB r t):=by
 intro pins s σ H Q I h;refine aik (wj I hg hm hv ?_ hn hdb);exact PyProof.Rows.callWith_builtin1 (c7 (ha pos pins s σ H _ I h) λus s1 ⟨vs,H1,I1,r1,q1⟩=>hc pins s1 σ H1 vs us Q I1 r1 q1) he hpl
theorem bJ (hc:dU X (.type T) r) (hg:Gl X x) (hm:X.mg x=none) (hv:bootBuiltins x=some (.type T)) (ha:PA X (e :: es) t) (hn:x≠"__name__":=by decide) (hdb:(x == ("__debug__" : Str))=false:=by decide)
   (he:starEach (e :: es) X.env=(false,eval e X.env) :: starEach es X.env:=by rfl) (hpl:(backTo pos (starEach es X.env)).any (·.1)=false:=by rfl):PE X (.Call (.Name x p) (e :: es) [] pos) (tCB r t):=by
 intro pins s σ H Q I h;refine aik (wj I hg hm hv ?_ hn hdb);exact ais (c7 (ha pos pins s σ H _ I h) λus s1 ⟨vs,H1,I1,r1,q1⟩=>hc pins s1 σ H1 vs us Q I1 r1 q1) he hpl
end
end L2
namespace HT
open PySem PyProof.Rows
theorem O9 (A:acX) (s:aav) (a:Int) (t:Tok) (c:Int) (u:Tok):∃ e,aph A s (.int a t) (.int c u) e/\(e=true↔a=c) :=
 ⟨(a == c),aoe a t c u,by simp⟩
section
open PySem.SeqAt
open PySem.AutoSeq1 (wpAny_loadPart')
open PySem.MeetsSeq PySem.MeetsSeq2 PySem.MeetsSeq3
end
section
variable {prog:abt} {w:acU} {A:acX} {E:aat->aav->Prop} {s:aav}
theorem Vh {t b:aaH} {vs ws:List aat} {Q:aat->aav->Prop} (ht:ao2 s.heap t vs.toArray) (hb:ao2 s.heap b ws.toArray) (hv:vs≠[])
   (h1:ws=[]->Q (.ref t) s) (h2:ws≠[]->Q (.ref s.heap.objs.size) { s with heap:=s.heap.push { cls:=.type "tuple",data:=.seq (vs++ws).toArray } })
   (hsz:vs.length+ws.length<=sizeLine):wpAny (model prog w) A (binaryOp .Add (.ref t) (.ref b)) Q E s:=by
 obtain ⟨⟨cls,dd,data,sl⟩,ho,hc,n,hd⟩:=id ht;obtain ⟨⟨cls2,dd2,data2,sl2⟩,ho2,hc2,n2,hd2⟩:=id hb;simp only at hc hd hc2 hd2;subst hc hd hc2 hd2;have e:vs.toArray++ws.toArray=(vs++ws).toArray:=by simp
 by_cases hw:ws=[]
 . exact aoT ⟨_,ho,rfl⟩ ⟨_,ho2,rfl⟩ amL aof akd ajT (ajz _ _)
     (tuple_addW1 t b vs.toArray ws.toArray n n2 dd dd2 sl sl2 (by simpa using hv) (by simp [hw])) ⟨ho,ho2,h1 hw⟩
 . refine aoT ⟨_,ho,rfl⟩ ⟨_,ho2,rfl⟩ amL aof akd ajT (ajz _ _)
     (tuple_addW2 t b vs.toArray ws.toArray n n2 dd dd2 sl sl2 (by simpa using hv) (by simpa using hw) (by rw [abm,abm]; exact hsz)) ⟨ho,ho2,?_⟩
   rw [e];exact h2 hw
noncomputable def eG (n d:Nat):Option Int->Nat
 | none=>d
 | some v=>if v<0 then (v+(n:Int)).toNat else min v.toNat n
theorem rO (n d:Nat):eG n d none=d:=rfl
theorem jJ (n d k:Nat):eG n d (some (k:Int))=min k n:=by
 show (if (k:Int)<0 then ((k:Int)+(n:Int)).toNat else min (k:Int).toNat n)=min k n;rw [if_neg (by omega),afI]
theorem Zf (n d:Nat) (hd:d<=n) (o:Option Int):eG n d o<=n:=by
 cases o with
 | none=>exact hd
 | some v =>
   show (if v<0 then (v+(n:Int)).toNat else min v.toNat n)<=n;by_cases hv:v<0
   . rw [if_pos hv]; omega
   . rw [if_neg hv]; exact Nat.min_le_right _ _
theorem Js (v:Int) (n d:Nat):(if v<0 then max (v+(n:Int)) 0 else min v (n:Int))=((eG n d (some v):Nat):Int):=by
 show (if v<0 then max (v+(n:Int)) 0 else min v (n:Int))=(((if v<0 then (v+(n:Int)).toNat else min v.toNat n):Nat):Int);by_cases hv:v<0
 . simp only [if_pos hv]; omega
 . simp only [if_neg hv]; omega
theorem Gu (lo hi:Option Int) (n:Nat):aja lo hi 1 (n:Int)=(((eG n 0 lo:Nat):Int),((eG n n hi:Nat):Int)):=by
 have h1:¬ ((1:Int)<0):=by omega
 unfold aja;simp only [h1,if_false];refine ao4 ?_ ?_
 . cases lo with
   | none=>rfl
   | some v=>exact Js v n 0
 . cases hi with
   | none=>rfl
   | some v=>exact Js v n n
theorem Gv (i j:Nat):ahj (i:Int) (j:Int) 1=j-i:=by
 unfold ahj;have h1:(1:Int) > 0:=by omega
 simp only [h1,if_true,Int.ediv_one];split <;> omega
theorem wD {v:aat} {o:Option Int} {Q:Option Int->aav->Prop} (p:anL v o) (h:Q o s):wpAny (model prog w) A (Builtin.Slice.slicePartIndex v) Q E s:=by
 cases p with
 | none=>exact slicePart_none h
 | int i t=>exact slicePart_int h
theorem jW {sl:aaH} {vl vu:aat} {lo hi:Option Int} {n:Nat} {Q:Int × Int × Nat->aav->Prop} (hs:s.heap.IsSliceOf sl vl vu .none) (pl:anL vl lo) (pu:anL vu hi)
   (h:Q (((eG n 0 lo:Nat):Int),1,eG n n hi-eG n 0 lo) s):wpAny (model prog w) A (al0 (.ref sl) (pure (n:Int))) Q E s:=by
 obtain ⟨os,hos,hcs,hds⟩:=id hs;unfold al0 Builtin.Slice.sliceFields;refine El (El (akt hos hds (x:=vl) rfl (El (akt hos hds (x:=vu) rfl (El (akt hos hds (x:=.none) rfl (aau ?_)))))));refine El (slicePart_none ?_);show wpAny _ _ (if ((1:Int) == 0)=true then _ else _) _ _ s;rw [if_neg (by decide)];refine El (wD pl (El (wD pu (El (aau ?_)))));show wpAny _ _ (match aja lo hi 1 (n:Int) with | (lo,hi)=>pure (lo,(1:Int),ahj lo hi 1)) _ _ s;rw [Gu lo hi n];show wpAny _ _ (pure (((eG n 0 lo:Nat):Int),(1:Int),ahj ((eG n 0 lo:Nat):Int) ((eG n n hi:Nat):Int) 1)) _ _ s;rw [Gv];exact aau h
theorem Pa (xs:Array aat) (i k:Nat):((acF k).filterMap λ(m:Nat)=>xs[((i:Int)+(m:Int) * 1).toNat]?).toArray=((xs.toList.drop i).take k).toArray:=by
 have e:(λ(m:Nat)=>xs[((i:Int)+(m:Int) * 1).toNat]?)=λm=>xs[i+m]?:=by
   funext m
   have:((i:Int)+(m:Int) * 1).toNat=i+m:=by omega
   rw [this]
 rw [e];have:=pick_run xs i k;rw [List.filterMap_map] at this;have e2:((λx=>xs[x]?)∘λx=>i+x)=λm=>xs[i+m]?:=rfl
 rw [e2] at this;rw [this]
theorem rP {t sl:aaH} {items:Array aat} {vl vu:aat} {lo hi:Option Int} {Q:aat->aav->Prop} (ht:ao2 s.heap t items) (hs:s.heap.IsSliceOf sl vl vu .none) (pl:anL vl lo) (pu:anL vu hi)
   (hw:¬ (eG items.size 0 lo=0/\eG items.size items.size hi=items.size))
   (h:Q (.ref s.heap.objs.size) { s with heap:=s.heap.push { cls:=.type "tuple",data:=.seq ((items.toList.drop (eG items.size 0 lo)).take (eG items.size items.size hi-eG items.size 0 lo)).toArray } })
   (hsz:items.size<=sizeLine):wpAny (model prog w) A (getItem (.ref t) (.ref sl)) Q E s:=by
 have Jt:sizeOk (.seq ((items.toList.drop (eG items.size 0 lo)).take (eG items.size items.size hi-eG items.size 0 lo)).toArray):=by
   show ((items.toList.drop (eG items.size 0 lo)).take (eG items.size items.size hi-eG items.size 0 lo)).toArray.size<=sizeLine;rw [abm,abI,afQ,abC];omega
 have hj:eG items.size items.size hi<=items.size:=Zf _ _ (aaw _) hi;obtain ⟨os,hos,hcs,hds⟩:=id hs;have hTs:s.TypeIs (.ref sl) "slice":=⟨os,hos,hcs⟩;unfold getItem
 try with_reducible refine ac6 ?_
 first | refine El (aau ?_) | skip
 refine El (aoE ht.typeIs (by decide) ?_)
 refine El (afw (name:=afR "__getitem__") ht.typeIs afU
   (aea afU ht.typeIs an1 ?_ (aog _ _)))
 show wpAny _ _ (al1 (.ref t) >>= _) _ _ s;refine El (tupleItemsOf_ ht ?_);refine El (ajA hTs ?_);rw [if_pos (by decide)];refine El (jW hs pl pu ?_)
 have hno:¬ ((((eG items.size 0 lo:Nat):Int) == 0 && (1:Int) == 1 && (eG items.size items.size hi-eG items.size 0 lo) == items.size)=true):=by
   intro q;rw [adB,adB] at q;have q1:((eG items.size 0 lo:Nat):Int)=0:=eq_of_beq q.1.1;have q2:eG items.size items.size hi-eG items.size 0 lo=items.size:=eq_of_beq q.2;exact hw ⟨by omega,by omega⟩
 show wpAny _ _ (if (((eG items.size 0 lo:Nat):Int) == 0 && (1:Int) == 1 && (eG items.size items.size hi-eG items.size 0 lo) == items.size)=true then _ else _) _ _ s;rw [if_neg hno,Pa]
 first
   | exact El (m:=ahF _) (adH (aau ⟨_,rfl,aau h⟩) Jt)
   | exact El (m:=ahF _) (adH (El (aau (aau ⟨_,rfl,aau h⟩))) Jt)
   | exact El (El (m:=ahF _) (adH (aau (aau ⟨_,rfl,aau h⟩)) Jt))
   | exact El (El (m:=ahF _) (adH (aau ⟨_,rfl,aau h⟩) Jt))
end
end HT
namespace L2
open PySem PySem.Spec PyProof.Rows
noncomputable abbrev TO:=St->Hp->(Option Int->Hp->Prop)->Prop
noncomputable def PO (X:Cx) (e:Option Expr) (t:TO):Prop :=
 ∀ (pins:List (aaH × Obj)) (s:aav) (σ:St) (H:Hp) (Q:Option Int->Hp->Prop),Inv X pins σ H s->t σ H Q ->
   wpAny (model X.prog X.w) X.A (evalPart e X.env) (λu s'=>∃ o H',Inv X pins σ H' s'/\anL u o/\Q o H') X.xe s
noncomputable def Vi:TO:=λ_ H Q=>Q none H
theorem intsAre_of {ns:List Int}:∀ {us:List aat},Vals (ns.map V.int) us->ajV us ns:=by
 induction ns with
 | nil=>intro us r; rw [ane] at r; cases r; exact .nil
 | cons n ns ih =>
   intro us r;rw [abn] at r;cases r with
   | cons r1 r2 =>
     obtain ⟨t,e⟩:=r1;subst e;exact .cons n t (ih r2)
section
variable {X:Cx} {e:Expr} {te:TE} {lo hi:Option Expr} {tl th:TO} {pos p2:Pos}
theorem iH:PO X none Vi:=by
 intro pins s σ H Q I h;rw [evalPart_none];exact aau ⟨none,H,I,.none,h⟩
noncomputable def SlR (X:Cx) (r:V->Option Int->Option Int->Hp->VK->Prop):Prop :=
 ∀ (pins:List (aaH × Obj)) (s:aav) (σ:St) (H:Hp) (x:V) (v vl vu:aat) (lo hi:Option Int) (sl:aaH) (Q:VK),Inv X pins σ H s->RelV x v->s.heap.IsSliceOf sl vl vu .none->anL vl lo->anL vu hi->r x lo hi H Q ->
   ∃ T id,typeLookup (.type T) "__getitem__" = pure (some (.builtin id))/\s.TypeIs v T/\wpAny (model X.prog X.w) X.A (getItem v (.ref sl)) (EP X pins σ Q) X.xe s
noncomputable def tSl (r:V->Option Int->Option Int->Hp->VK->Prop) (te:TE) (tl th:TO):TE:=fun σ H Q=>te σ H λx H1=>tl σ H1 λl H2=>th σ H2 λu H3=>r x l u H3 Q
theorem dW {r:V->Option Int->Option Int->Hp->VK->Prop} (hr:SlR X r) (he:PE X e te) (hl:PO X lo tl) (hu:PO X hi th):PE X (.Subscript e (.Slice lo hi none p2) pos) (tSl r te tl th):=by
 intro pins s σ H Q I h;refine apj (c7 (he pins s σ H _ I h) λv s1 ⟨x,H1,I1,r1,q1⟩=>?_);refine wpAny_Slice (c7 (hl pins s1 σ H1 _ I1 q1) λvl s2 ⟨l,H2,I2,pl,q2⟩=>c7 (hu pins s2 σ H2 _ I2 q2) λvu s3 ⟨u,H3,I3,pu,q3⟩=>?_);rw [evalPart_none];refine aau ?_;have I4:Inv X pins σ H3 { s3 with heap:=s3.heap.push { cls:=.type "slice",data:=.fields #[vl,vu,.none] } }:=I3.kept (t':=s3.toks) λb ob q=>aar _ q
 obtain ⟨T,id,hT,ht,hg⟩:=hr pins { s3 with heap:=s3.heap.push { cls:=.type "slice",data:=.fields #[vl,vu,.none] } } σ H3 x v vl vu l u s3.heap.objs.size Q I4 r1 (Heap.IsSliceOf.new ..) pl pu q3;show wpAny (model X.prog X.w) X.A (subscriptTail e (.Slice lo hi none p2) v (.ref s3.heap.objs.size)) (EP X pins σ Q) X.xe { s3 with heap:=s3.heap.push { cls:=.type "slice",data:=.fields #[vl,vu,.none] } };exact tail_any (ops:=[.ref s3.heap.objs.size,v]) ht hT hg (by with_unfolding_all rfl)
noncomputable def qQ (xs:List V) (lo hi:Option Int):List V:=(xs.drop (HT.eG xs.length 0 lo)).take (HT.eG xs.length xs.length hi-HT.eG xs.length 0 lo)
theorem uN (xs:List V) (lo hi:Option Int):(qQ xs lo hi).length<=xs.length:=by
 unfold qQ;rw [abI,afQ];omega
noncomputable def agu (K:aaf):V->Option Int->Option Int->Hp->VK->Prop:=λx lo hi H Q=>∃ a xs,x=.ref a/\bQ K H a xs /\
 ¬ (HT.eG xs.length 0 lo=0/\HT.eG xs.length xs.length hi=xs.length)/\∀ p,H p=none->Q (.ref p) (upd H p (.tup (qQ xs lo hi)))
theorem Zg:SlR X (agu X.K):=by
 intro pins s σ H x v vl vu lo hi sl Q I rx hs pl pu h;obtain ⟨a,xs,rfl,hx,hw,q⟩:=h;cases rx;obtain ⟨its,r,ht,hz⟩:=I.tuple hx;have hlen:its.toArray.size=xs.length:=by rw [abm]; exact r.length.symm
 refine ⟨"tuple",_,PyProof.Rows.slot_tuple_getitem.lookup,ht.typeIs,?_⟩;refine HT.rP ht hs pl pu (by rw [hlen]; exact hw) ?_ (by rw [hlen]; exact hz);rw [hlen];refine ⟨.ref s.heap.objs.size,_,I.laid (t':=s.toks) (o:=.tup (qQ xs lo hi)) (λb ob q=>aar _ q) (aaw _) ?_,rfl,q _ (I.hok.fresh (aaw _))⟩;exact ⟨adS (uN xs lo hi) hz,_,(r.drop (HT.eG xs.length 0 lo)).take (HT.eG xs.length xs.length hi-HT.eG xs.length 0 lo),lM.new _ _⟩
noncomputable def ab6 (K:aaf):R2:=λx y H Q=>∃ a b xs ys,x=.ref a/\y=.ref b/\bQ K H a xs/\bQ K H b ys/\xs≠[]/\xs.length+ys.length<=sizeLine /\
 (ys=[]->Q (.ref a) H)/\(ys≠[]->∀ p,H p=none->Q (.ref p) (upd H p (.tup (xs++ys))))
theorem Vals.vB {xs:List V} {us:List aat} (r:Vals xs us):us=[]↔xs=[]:=by
 cases r with
 | nil=>simp
 | cons _ _=>simp
theorem rQ:gC X (binaryOp .Add) (ab6 X.K):=by
 intro pins s σ H x y v u Q I rx ry h;obtain ⟨a,b,xs,ys,rfl,rfl,ha,hb,hx,hz,q1,q2⟩:=h;cases rx;cases ry;obtain ⟨its,r1,p1,_⟩:=I.tuple ha;obtain ⟨its2,r2,p2,_⟩:=I.tuple hb;refine HT.Vh p1 p2 (λz=>hx (r1.vB.mp z)) (λz=>⟨.ref a,H,I,rfl,q1 (r2.vB.mp z)⟩) (λz=>?_) (by rw [<- r1.length,<- r2.length]; exact hz);refine ⟨.ref s.heap.objs.size,_,I.laid (t':=s.toks) (o:=.tup (xs++ys)) (λb ob q=>aar _ q) (aaw _) ?_,rfl,q2 (λw=>z (r2.vB.mpr w)) _ (I.hok.fresh (aaw _))⟩;exact ⟨by rw [aay]; exact hz,_,r1.append r2,lM.new _ _⟩
end
noncomputable def Vj (n:Nat) (i:Int):Option Nat:=if 0<=i then (if i<n then some i.toNat else none) else if -(n:Int)<=i then some (i+n).toNat else none
noncomputable def zO {α:Type} (xs:List α) (i:Int):Option α:=(Vj xs.length i).bind λj=>xs[j]?
theorem Ju {n:Nat} {i:Int} {j:Nat} (h:Vj n i=some j):seqIndex? i n=some j/\j<n/\-(n:Int)<=i/\i<n:=by
 unfold Vj at h;by_cases h0:0<=i
 . rw [if_pos h0] at h;by_cases h1:i<n
   . rw [if_pos h1] at h;have e:i.toNat=j:=abx h;exact ⟨by rw [apa h0 h1,e],by omega,by omega,h1⟩
   . rw [if_neg h1] at h; cases h
 . rw [if_neg h0] at h;by_cases h1:-(n:Int)<=i
   . rw [if_pos h1] at h;have e:(i+n).toNat=j:=abx h;exact ⟨by rw [aoU (by omega) h1,e],by omega,h1,by omega⟩
   . rw [if_neg h1] at h; cases h
theorem Bm {α:Type} {xs:List α} {i:Int} {v:α} (h:zO xs i=some v):∃ j,seqIndex? i xs.length=some j/\xs[j]?=some v/\j<xs.length/\-(xs.length:Int)<=i/\i<xs.length:=by
 unfold zO at h;cases e:Vj xs.length i with
 | none=>rw [e] at h; cases h
 | some j =>
   rw [e] at h;obtain ⟨h1,h2,h3,h4⟩:=Ju e;exact ⟨j,h1,h,h2,h3,h4⟩
theorem je {α:Type} {xs:List α} {j:Nat} {v:α} (h:xs[j]?=some v):zO xs (j:Int)=some v:=by
 have hj:j<xs.length:=(abE.mp h).1
 have e:Vj xs.length (j:Int)=some j:=by
   unfold Vj;rw [if_pos (by omega),if_pos (by omega)]; simp
 unfold zO; rw [e]; exact h
noncomputable def Jv (b:Expr):Prop:=∀ o i,subscripted b false o i=operate [o,i] (getItem o i)
noncomputable def X8 (X:Cx) (r:R2):Prop :=
 ∀ (value slice:Expr) (pins:List (aaH × Obj)) (s:aav) (σ:St) (H:Hp) (x y:V) (v u:aat) (Q:VK),Inv X pins σ H s->RelV x v->RelV y u->r x y H Q ->
   subscripted slice false v u=operate [v,u] (getItem v u)->wpAny (model X.prog X.w) X.A (subscriptTail value slice v u) (EP X pins σ Q) X.xe s
noncomputable def MtR (X:Cx) (id:String) (r:V->List V->Hp->VK->Prop):Prop :=
 ∀ (pins:List (aaH × Obj)) (s:aav) (σ:St) (H:Hp) (x:V) (xs:List V) (v:aat) (us:List aat) (Q:VK),Inv X pins σ H s->RelV x v->Vals xs us->r x xs H Q ->
   wpAny (model X.prog X.w) X.A (call (.builtin id) (v :: us)) (EP X pins σ Q) X.xe s
section
variable {X:Cx} {a b:Expr} {ta tb:TE} {pos:Pos}
theorem Dr {r:R2} (hr:X8 X r) (ha:PE X a ta) (hb:PE X b tb) (hs:Jv b):PE X (.Subscript a b pos) (Ut r ta tb):=by
 intro pins s σ H Q I h;exact apj (Y5 ha hb I h λv u s2 x y H2 I2 rx ry q=>hr a b pins s2 σ H2 x y v u Q I2 rx ry q (hs _ _))
noncomputable def ab7 (K:aaf):R2:=λx y H Q=>∃ p xs i v,x=.ref p/\y=.int i/\cG K H p xs/\zO xs i=some v/\Q v H
noncomputable def ab8 (K:aaf):R2:=λx y H Q=>∃ p xs i v,x=.ref p/\y=.int i/\bQ K H p xs/\zO xs i=some v/\Q v H
noncomputable def ab9:R2:=λx y H Q=>∃ z i c,x=.str z/\y=.int i/\z.length<=sizeLine/\zO z.cps.toList i=some c/\Q (.str ⟨#[c]⟩) H
theorem Vk:X8 X (ab7 X.K):=by
 intro value slice pins s σ H x y v u Q I rx ry h hs;obtain ⟨p,xs,i,z,rfl,rfl,hq,he,q⟩:=h;cases rx;obtain ⟨t,rfl⟩:=ry;obtain ⟨its,r,pl,hz⟩:=I.list hq;obtain ⟨j,h1,h2,h3,h4,h5⟩:=Bm he;obtain ⟨w,ew,Pb⟩:=r.get h2;have hl:=r.length;have hn:=tG;have fin:EP X pins σ Q w s:=⟨z,H,I,Pb,q⟩;by_cases h0:0<=i
 . have hj:i.toNat=j:=by
     rw [apa h0 h5] at h1;exact abx h1
   exact item_listR pl.isList h0 (by omega) (by rw [hj]; simpa using ew) fin hs
 . have hj:(i+(its.toArray.size:Int)).toNat=j:=by
     rw [aoU (by omega) h4] at h1;rw [abm,<- hl];exact abx h1
   exact amV (x:=w) pl.isList.typeIs slot_list_getitem.lookup
     (wpAny_getItem_list_neg (Q:=λr s'=>r=w/\EP X pins σ Q r s') pl.isList (by omega) (by rw [abm] <;> omega) (by omega) (by rw [hj]; simpa using ew) ⟨rfl,fin⟩) hs
theorem Zh:X8 X (ab8 X.K):=by
 intro value slice pins s σ H x y v u Q I rx ry h hs;obtain ⟨p,xs,i,z,rfl,rfl,hq,he,q⟩:=h;cases rx;obtain ⟨t,rfl⟩:=ry;obtain ⟨its,r,pl,hz⟩:=I.tuple hq;obtain ⟨j,h1,h2,h3,h4,h5⟩:=Bm he;obtain ⟨w,ew,Pb⟩:=r.get h2;have hl:=r.length;have hn:=tG;have fin:EP X pins σ Q w s:=⟨z,H,I,Pb,q⟩
 exact amV (x:=w) pl.typeIs slot_tuple_getitem.lookup
   (getItem_tuple (j:=j) (Q:=λr s'=>r=w/\EP X pins σ Q r s') pl (by omega) (by omega) (by rw [abm,<- hl]; exact h1) (by simpa using ew) ⟨rfl,fin⟩) hs
theorem Zi:X8 X ab9:=by
 intro value slice pins s σ H x y v u Q I rx ry h hs;obtain ⟨z,i,c,rfl,rfl,hz,he,q⟩:=h;obtain ⟨t,rfl⟩:=rx;obtain ⟨t',rfl⟩:=ry;obtain ⟨j,h1,h2,h3,h4,h5⟩:=Bm he;have hl:z.cps.toList.length=z.length:=by simp [aku]
 rw [hl] at h1 h4 h5;have hn:=tG
 exact tail_any (apk s z t) slot_str_getitem.lookup (getItem_str (c:=c) (by
   have e1:decide (i < -(2 ^ 63:Int))=false:=decide_eq_false (by omega);have e2:decide (i ≥ 2 ^ 63)=false:=decide_eq_false (by omega)
   rw [e1,e2,amB]) (by rw [h1]; simpa using h2) ⟨.str ⟨#[c]⟩,H,I.tok _,⟨_,rfl⟩,q⟩) hs
theorem Gw (its:List aat) (n j:Nat) (u:aat):aic (·.setIfInBounds j u) { cls:=.type "list",data:=.seq its.toArray n }={ cls:=.type "list",data:=.seq (its.set j u).toArray n }:=by
 simp [aic]
theorem Inv.lst {pins:List (aaH × Obj)} {σ:St} {H:Hp} {s:aav} {p:aaH} {xs:List V} (I:Inv X pins σ H s) (h:H p=some (.lst xs)) :
   ∃ (its:List aat) (n:Nat),Vals xs its/\s.heap.get? p=some { cls:=.type "list",data:=.seq its.toArray n }/\xs.length<=sizeLine:=by
 obtain ⟨z,its,n,r,e⟩:=I.hok p _ h;exact ⟨its,n,r,e,z⟩
theorem Inv.Zj {pins:List (aaH × Obj)} {σ:St} {H:Hp} {s:aav} {p:aaH} {xs ys:List V} {its its':List aat} {n n':Nat} {f:Obj->Obj} (I:Inv X pins σ H s) (h:H p=some (.lst xs))
   (ho:s.heap.get? p=some { cls:=.type "list",data:=.seq its.toArray n }) (hf:f { cls:=.type "list",data:=.seq its.toArray n }={ cls:=.type "list",data:=.seq its'.toArray n' }) (r:Vals ys its') (hz:ys.length<=sizeLine) (t:Nat) :
   Inv X pins σ (upd H p (.lst ys)) { s with heap:=s.heap.update p f,toks:=t }:=by
 have e:(s.heap.update p f).get? p=some { cls:=.type "list",data:=.seq its'.toArray n' }:=by
   rw [adP f ho (by rw [hf] <;> rfl),hf]
 refine I.write (x:=p) (e:=p) (by rw [h]; trivial) (.inl rfl) (λb u hb q=>(ac9 _ _ (acV hb)).trans q) ⟨_,e⟩ ?_;exact ⟨hz,its',n',r,e⟩
noncomputable def Yb:V->V->V->Hp->(Hp->Prop)->Prop:=λo i v H Q=>∃ p xs k j,o=.ref p/\i=.int k/\H p=some (.lst xs)/\Vj xs.length k=some j/\Q (upd H p (.lst (xs.set j v)))
theorem set_list:YZ X Yb:=by
 intro pins s σ H o i v ov iv u Q I ro ri rv h;obtain ⟨p,xs,k,j,rfl,rfl,hp,hj,q⟩:=h;cases ro;obtain ⟨t,rfl⟩:=ri;obtain ⟨its,n,r,ho,hz⟩:=I.lst hp;obtain ⟨h1,h2,h3,h4⟩:=Ju hj;have hl:=r.length;have hn:=tG
 have I':Inv X pins σ (upd H p (.lst (xs.set j v))) { s with heap:=s.heap.update p (aic (·.setIfInBounds j u)) } :=
   I.Zj hp ho (Gw its n j u) (r.set rv j) (by rw [List.length_set]; exact hz) s.toks
 by_cases h0:0<=k
 . have hk:k.toNat=j:=by
     rw [apa h0 h4] at h1;exact abx h1
   exact PySem.W.ki_setAt ho h0 (by omega) (by rw [abm,<- hl]; exact h4) (by rw [hk]; exact ⟨_,I',q⟩)
 . have hk:(k+(its.toArray.size:Int)).toNat=j:=by
     rw [aoU (by omega) h3] at h1;rw [abm,<- hl];exact abx h1
   exact PySem.W.ki_setBack ho (by omega) (by rw [abm,<- hl]; exact h3) (by omega) (by rw [hk]; exact ⟨_,I',q⟩)
theorem Bo (lo hi:Option Int) (n:Nat):(sliceBounds lo hi none n).1=((HT.eG n 0 lo:Nat):Int)/\(sliceBounds lo hi none n).2.1=((HT.eG n n hi:Nat):Int)/\(sliceBounds lo hi none n).2.2=1:=by
 refine ⟨?_,?_,rfl⟩
 . cases lo with
   | none=>simp [sliceBounds,HT.eG]
   | some i =>
     simp only [sliceBounds,HT.eG,Option.getD_none,show (1:Int) > 0 by decide,if_true];by_cases h:i<0
     . simp only [h,if_true] <;> omega
     . simp only [h,if_false] <;> omega
 . cases hi with
   | none=>simp [sliceBounds,HT.eG]
   | some i =>
     simp only [sliceBounds,HT.eG,Option.getD_none,show (1:Int) > 0 by decide,if_true];by_cases h:i<0
     . simp only [h,if_true] <;> omega
     . simp only [h,if_false] <;> omega
theorem yZ (its:List aat) (lo hi:Option Int):slicePick its.toArray lo hi none=((its.drop (HT.eG its.length 0 lo)).take (HT.eG its.length its.length hi-HT.eG its.length 0 lo)).toArray:=by
 obtain ⟨h1,h2,h3⟩:=Bo lo hi its.toArray.size;unfold slicePick;rw [h1,h2,h3];simp only [sliceRange_one,pick_run,abm] <;> rfl
noncomputable def agv (K:aaf):V->Option Int->Option Int->Hp->VK->Prop:=λx lo hi H Q=>∃ a xs,x=.ref a/\cG K H a xs/\∀ p,H p=none->Q (.ref p) (upd H p (.lst (qQ xs lo hi)))
theorem rR:SlR X (agv X.K):=by
 intro pins s σ H x v vl vu lo hi sl Q I rx hs pl pu h;obtain ⟨a,xs,rfl,hx,q⟩:=h;cases rx;obtain ⟨its,r,ht,hz⟩:=I.list hx;have hlen:=r.length;refine ⟨"list",_,slot_list_getitem.lookup,ht.isList.typeIs,?_⟩;refine wpAny_getItem_list_slice ht.isList hs pl pu .none (by simp) ?_ (by rw [abm] <;> omega);rw [yZ,<- hlen];refine ⟨.ref s.heap.objs.size,_,I.laid (t':=s.toks) (o:=.lst (qQ xs lo hi)) (λb ob q=>aar _ q) (aaw _) ?_,rfl,q _ (I.hok.fresh (aaw _))⟩;exact ⟨adS (uN xs lo hi) hz,_,0,(r.drop (HT.eG xs.length 0 lo)).take (HT.eG xs.length xs.length hi-HT.eG xs.length 0 lo),aaL _ rfl⟩
noncomputable def uO:V->Bool
 | .non=>true
 | .bl _=>true
 | .int _=>true
 | .str _=>true
 | _=>false
noncomputable def Vl:V->V->Bool
 | .non,.non=>true
 | .bl a,.bl b=>a == b
 | .bl a,.int b=>(if a then 1 else 0) == b
 | .int a,.bl b=>a == (if b then 1 else 0)
 | .int a,.int b=>a == b
 | .str a,.str b=>a == b
 | _,_=>false
theorem Zk {A:acX} {s:aav} {y x:V} {u v:aat} (ry:RelV y u) (rx:RelV x v) (fy:uO y=true) (fx:uO x=true):aph A s u v (Vl y x):=by
 cases y with
 | non =>
   cases ry;cases x with
   | non=>cases rx; exact SeqAt.EqAt.same _
   | bl b=>cases rx; exact SeqAt.EqAt.none_bool b
   | int b=>obtain ⟨t,rfl⟩:=rx; exact anW b t
   | str b=>obtain ⟨t,rfl⟩:=rx; exact anY b t
   | _=>exact absurd (show false=true from fx) aaK
 | bl a =>
   cases ry;cases x with
   | non=>cases rx; exact SeqAt.EqAt.bool_none a
   | bl b=>cases rx; exact anE a b
   | int b=>obtain ⟨t,rfl⟩:=rx; exact SeqAt.EqAt.bool_int a b t
   | str b=>obtain ⟨t,rfl⟩:=rx; exact SeqAt.EqAt.bool_str a b t
   | _=>exact absurd (show false=true from fx) aaK
 | int a =>
   obtain ⟨t',rfl⟩:=ry;cases x with
   | non=>cases rx; exact anU a t'
   | bl b=>cases rx; exact SeqAt.EqAt.int_bool a t' b
   | int b=>obtain ⟨t,rfl⟩:=rx; exact aoe a t' b t
   | str b=>obtain ⟨t,rfl⟩:=rx; exact an7 a t' b t
   | _=>exact absurd (show false=true from fx) aaK
 | str a =>
   obtain ⟨t',rfl⟩:=ry;cases x with
   | non=>cases rx; exact anV a t'
   | bl b=>cases rx; exact SeqAt.EqAt.str_bool a t' b
   | int b=>obtain ⟨t,rfl⟩:=rx; exact an8 a t' b t
   | str b=>obtain ⟨t,rfl⟩:=rx; exact SeqAt.EqAt.str_str a t' b t
   | _=>exact absurd (show false=true from fx) aaK
 | _=>exact absurd (show false=true from fy) aaK
noncomputable def Vm (x:V) (u:aat):Bool:=match u with
 | .none=>Vl .non x
 | .bool b=>Vl (.bl b) x
 | .int i _=>Vl (.int i) x
 | .str z _=>Vl (.str z) x
 | _=>false
theorem Pg {x y:V} {u:aat} (r:RelV y u) (f:uO y=true):Vm x u=Vl y x:=by
 cases y with
 | non=>cases r; rfl
 | bl b=>cases r; rfl
 | int i=>obtain ⟨t,rfl⟩:=r; rfl
 | str z=>obtain ⟨t,rfl⟩:=r; rfl
 | _=>exact absurd (show false=true from f) aaK
theorem Bp {x:V}:∀ {xs:List V} {us:List aat},Vals xs us->xs.all uO=true->us.any (Vm x)=xs.any λy=>Vl y x
 | _,_,.nil,_=>rfl
 | y :: xs,u :: us,.cons r t,f=>by
   rw [List.all_cons,adB] at f;rw [ahT,ahT,Pg r f.1,Bp t f.2]
theorem wF {A:acX} {s:aav} {x:V} {v:aat} (rx:RelV x v) (fx:uO x=true):∀ {xs:List V} {us:List aat},Vals xs us->xs.all uO=true->∀ u∈us,aph A s u v (Vm x u)
 | _,_,.nil,_=>λu hu=>by cases hu
 | y :: xs,u :: us,.cons r t,f=>λu' hu=>by
   rw [List.all_cons,adB] at f;rcases abu.mp hu with rfl | hu
   . rw [Pg r f.1]; exact Zk r rx f.1 fx
   . exact wF rx fx t f.2 u' hu
noncomputable def inV (x:V) (xs:List V):Bool:=xs.any λy=>Vl y x
noncomputable def rIn (K:aaf) (neg:Bool):R2:=λx y H Q=>∃ p xs,y=.ref p/\(cG K H p xs\/bQ K H p xs)/\uO x=true/\xs.all uO=true/\Q (.bl (if neg then !inV x xs else inV x xs)) H
theorem Bq:gC X (compareOp .NotIn) (rIn X.K true):=by
 intro pins s σ H x y v u Q I rx ry h;obtain ⟨p,xs,rfl,hq,fx,fs,q⟩:=h;cases ry;rcases hq with hq | hq
 . obtain ⟨its,r,pl,hz⟩:=I.list hq;refine SeqAt.notIn_listAt (Vm x) pl.isList (λw hw=>wF rx fx r fs w (by simpa using hw)) ⟨.bl _,H,I,rfl,?_⟩;rw [show its.toArray.any (Vm x)=its.any (Vm x) by simp,Bp r fs];exact q
 . obtain ⟨its,r,pl,hz⟩:=I.tuple hq;refine SeqAt.notIn_tupleAt (Vm x) pl (λw hw=>wF rx fx r fs w (by simpa using hw)) ⟨.bl _,H,I,rfl,?_⟩;rw [show its.toArray.any (Vm x)=its.any (Vm x) by simp,Bp r fs];exact q
theorem cB:dU X (.builtin "len") (λxs H Q=>∃ p ys,xs=[.ref p]/\(cG X.K H p ys\/bQ X.K H p ys)/\Q (.int ys.length) H):=by
 intro pins s σ H xs us Q I r h;obtain ⟨p,ys,rfl,hq,q⟩:=h;obtain ⟨u,rfl,rx⟩:=vals1 r;cases rx;have hn:=tG;rcases hq with hq | hq
 . obtain ⟨its,r',pl,hz⟩:=I.list hq;have hlen:=r'.length;exact Calls.call_len_list pl.isList (by simp only [abm] <;> omega) ⟨.int ys.length,H,I.tok _,⟨s.toks+1,by rw [abm,hlen]⟩,q⟩
 . obtain ⟨its,r',pl,hz⟩:=I.tuple hq;have hlen:=r'.length;exact len_tuple pl (by simp only [abm] <;> omega) ⟨.int ys.length,H,I.tok _,⟨s.toks+1,by rw [abm,hlen]⟩,q⟩
theorem Br:dU X (.builtin "len") (λxs H Q=>∃ z,xs=[.str z]/\z.length<=sizeLine/\Q (.int z.length) H):=by
 intro pins s σ H xs us Q I r h;obtain ⟨z,rfl,hz,q⟩:=h;obtain ⟨u,rfl,t,rfl⟩:=vals1 r;have hn:=tG;exact len_str (by omega) ⟨.int z.length,H,I.tok _,⟨_,rfl⟩,q⟩
theorem rT:dU X (.type "list") (λxs H Q=>∃ p ys,xs=[.ref p]/\(cG X.K H p ys\/bQ X.K H p ys)/\∀ l,H l=none->Q (.ref l) (upd H l (.lst ys))):=by
 intro pins s σ H xs us Q I r h;obtain ⟨p,ys,rfl,hq,q⟩:=h;obtain ⟨u,rfl,rx⟩:=vals1 r;cases rx
 have fin:∀ (its:List aat),Vals ys its->ys.length<=sizeLine->∀ (h':afp) (c':Nat),(∀ b o',s.heap.get? b=some o'->h'.get? b=some o') ->
     h'.get? s.heap.objs.size=some { cls:=.type "list",dict:=none,data:=.seq its.toArray c',slots:=#[] }->EP X pins σ Q (.ref s.heap.objs.size) { s with heap:=h' }:=λits r' hz h' c' kp e =>
   ⟨.ref s.heap.objs.size,_,I.laid (t':=s.toks) kp (aaw _) (show bT X.prog X.w _ h' _ (.lst ys) from ⟨hz,its,c',r',e⟩),rfl,q _ (I.hok.fresh (aaw _))⟩
 rcases hq with hq | hq
 . obtain ⟨its,r',pl,hz⟩:=I.list hq;have hlen:=r'.length;obtain ⟨o,ho,hc,n,hd⟩:=pl.isList;exact call_list_seq p (.inl rfl) ho hc hd (λh' c' kp e=>fin its r' hz h' c' kp e) (by simp only [abm] <;> omega)
 . obtain ⟨its,r',pl,hz⟩:=I.tuple hq;have hlen:=r'.length;obtain ⟨o,ho,hc,n,hd⟩:=pl;exact call_list_seq p (.inr rfl) ho hc hd (λh' c' kp e=>fin its r' hz h' c' kp e) (by simp only [abm] <;> omega)
theorem bM:dU X (.type "tuple") (λxs H Q=>∃ p ys,xs=[.ref p]/\((cG X.K H p ys/\∀ l,H l=none->Q (.ref l) (upd H l (.tup ys)))\/(bQ X.K H p ys/\Q (.ref p) H))):=by
 intro pins s σ H xs us Q I r h;obtain ⟨p,ys,rfl,h⟩:=h;obtain ⟨u,rfl,rx⟩:=vals1 r;cases rx;rcases h with ⟨hq,q⟩ | ⟨hq,q⟩
 . obtain ⟨its,r',pl,hz⟩:=I.list hq;have hlen:=r'.length;refine call_tuple_list pl.isList (λh' kp=>?_) (by simp only [abm] <;> omega);have I1:Inv X pins σ H { s with heap:=h' }:=I.kept (t':=s.toks) kp
   have I2:Inv X pins σ (upd H h'.objs.size (.tup ys)) { s with heap:=h'.push { cls:=.type "tuple",data:=.seq its.toArray } } :=
     I1.laid (t':=s.toks) (λb o e=>aar _ e) (aaw _) (show bT X.prog X.w _ _ _ (.tup ys) from ⟨hz,its,r',lM.new _ _⟩)
   exact ⟨.ref h'.objs.size,_,I2,rfl,q _ (I1.hok.fresh (aaw _))⟩
 . obtain ⟨its,r',pl,hz⟩:=I.tuple hq;exact call_tuple_same pl ⟨.ref p,H,I,rfl,q⟩
noncomputable def tyV (K:aaf) (T:String) (x:V) (H:Hp):Prop:=match x with
 | .str _=>T = "str"
 | .int _=>T = "int"
 | .ref p=>(T = "list"/\∃ xs,cG K H p xs)\/(T = "tuple"/\∃ o,K.lookup p=some o/\o.cls=.type "tuple"/\o.dict=none) \/
     (T = "dict"/\((∃ kvs,H p=some (.dK kvs))\/∃ kvs,H p=some (.dT kvs)))\/(T = "set"/\∃ S n,H p=some (.set S n))
 | _=>False
theorem Zm {pins:List (aaH × Obj)} {σ:St} {H:Hp} {s:aav} {T:String} {x:V} {v:aat} (I:Inv X pins σ H s) (r:RelV x v) (ty:tyV X.K T x H) :
   s.TypeIs v T/\∀ a,v=.ref a->∃ ob,s.heap.get? a=some ob/\ob.dict=none:=by
 cases x with
 | str z =>
   obtain ⟨t,rfl⟩:=r;cases (show T = "str" from ty);exact ⟨apk s z t,λ_ e=>nomatch e⟩
 | int i =>
   obtain ⟨t,rfl⟩:=r;cases (show T = "int" from ty);exact ⟨aoG s i t,λ_ e=>nomatch e⟩
 | ref p =>
   cases r;rcases ty with ⟨rfl,xs,hq⟩ | ⟨rfl,o,hk,hc,hd⟩ | ⟨rfl,hk⟩ | ⟨rfl,S,n,hk⟩
   . obtain ⟨its,_,pl,_⟩:=I.list hq;refine ⟨pl.isList.typeIs,λa e=>?_⟩;cases e;obtain ⟨o,n,e,c,hd,_⟩:=pl;exact ⟨o,e,hd⟩
   . refine ⟨⟨o,I.pB p o hk,hc⟩,λa e=>?_⟩;cases e;exact ⟨o,I.pB _ o hk,hd⟩
   . have z:∃ o,s.heap.get? p=some o/\o.ExactDict:=by
       rcases hk with ⟨kvs,hk⟩ | ⟨kvs,hk⟩
       . obtain ⟨_,_,_,_,o,_,_,e,ex,_⟩:=I.hok p _ hk;exact ⟨o,e,ex⟩
       . obtain ⟨_,_,_,_,o,_,_,e,ex,_⟩:=I.hok p _ hk;exact ⟨o,e,ex⟩
     obtain ⟨o,e,ex⟩:=z;refine ⟨⟨o,e,ex.1⟩,λa e2=>?_⟩;cases e2;exact ⟨o,e,ex.2.1⟩
   . obtain ⟨o,_,_,_,e,ex,_⟩:=I.hok p _ hk;refine ⟨⟨o,e,ex.1⟩,λa e2=>?_⟩;cases e2;exact ⟨o,e,ex.2.1⟩
 | _=>exact aek ty
noncomputable def Zn (K:aaf) (T:String) (r:V->List V->Hp->VK->Prop) (to:TE) (t:TA):TE:=fun σ H Q=>to σ H λx H1=>tyV K T x H1/\t σ H1 λxs H2=>r x xs H2 Q
variable {o e:Expr} {es:List Expr} {to:TE} {t:TA} {name:Str} {apos cpos:Pos} {T id:String} {r:V->List V->Hp->VK->Prop}
theorem nu (pa:PlainAttrs T) (slot:Slot T name id) (hty:typeOf (.builtin id)=pure (.type "method_descriptor")) (hm:MtR X id r) (ho:PE X o to) (ha:PA X (e :: es) t)
   (hbase:attributeBase o name X.env (eval o X.env)=eval o X.env:=by rfl)
   (hfew:((backTo cpos (starEach (e :: es) X.env)).all (λx=>!x.1) && (backToKw cpos (keywordEach [] X.env)).all (λx=>x.1.isSome)
     && decide ((e :: es).length+([]:List aoD).length+(if ([]:List aoD).isEmpty then 0 else 1)<30))=true:=by rfl)
   (hline:(apos.endLine == cpos.line)=true:=by rfl) (hs:starEach (e :: es) X.env=(false,eval e X.env) :: starEach es X.env:=by rfl) (hplain:(backTo cpos (starEach es X.env)).any (·.1)=false:=by rfl) :
   PE X (.Call (.Attribute o name apos) (e :: es) [] cpos) (Zn X.K T r to t):=by
 intro pins s σ H Q I h;refine wpAny_Call_method_late hbase hfew hline rfl (c7 (ho pins s σ H _ I h) λv s1 ⟨x,H1,I1,r1,ty,q1⟩=>?_);obtain ⟨h1,h2⟩:=Zm I1 r1 ty;refine ⟨T,id,pa,slot,hty,h1,h2,?_⟩;have hA:=ha cpos pins s1 σ H1 _ I1 q1;rw [hs] at hA |-;refine aii (by show (false || (backTo cpos (starEach es X.env)).any (·.1))=false; rw [hplain] <;> rfl) (akR ?_);exact c7 hA λus s2 ⟨vs,H2,I2,r2,q2⟩=>hm pins s2 σ H2 x vs v us Q I2 r1 r2 q2
end
noncomputable def MtM (X:Cx) (id:String) (r:V->List V->Hp->VK->Prop):Prop :=
 ∀ (pins:List (aaH × Obj)) (s:aav) (σ:St) (H:Hp) (x:V) (xs:List V) (v:aat) (us:List aat) (Q:VK),Inv X pins σ H s->RelV x v->Vals xs us->r x xs H Q ->
   wpAny (model X.prog X.w) X.A (call (.builtin id) (v :: us)) (EP X pins σ Q) X.xe s
theorem Vals.one:∀ {x:V} {us:List aat},Vals [x] us->∃ u,us=[u]/\RelV x u
 | _,_,.cons r .nil=>⟨_,rfl,r⟩
section
variable {X:Cx} {pins:List (aaH × Obj)} {σ:St} {H:Hp} {s:aav} {l b:aaH} {xs ys zs:List V}
theorem Inv.acd {its its':List aat} {n:Nat} {f:Array aat->Array aat} {t':Nat} (I:Inv X pins σ H s) (hH:H l=some (.lst xs))
   (e:s.heap.get? l=some { cls:=.type "list",data:=.seq its.toArray n }) (hf:f its.toArray=its'.toArray) (hv:Vals ys its') (hz:ys.length<=sizeLine) :
   Inv X pins σ (upd H l (.lst ys)) { s with heap:=s.heap.update l (aic f),toks:=t' }:=by
 have q:=PySem.IsL.update e f;rw [hf] at q;refine I.write (x:=l) (e:=l) (by rw [hH]; exact trivial) (.inl rfl) (λb' u hb hu=>(ac9 s.heap (aic f) (acV hb)).trans hu) ⟨_,q⟩ ?_;exact ⟨hz,its',_,hv,q⟩
theorem Inv.ace {its:List aat} {t':Nat} (I:Inv X pins σ H s) (hv:Vals ys its) (hz:ys.length<=sizeLine) :
   Inv X pins σ (upd H s.heap.objs.size (.lst ys)) { s with heap:=s.heap.push { cls:=.type "list",data:=.seq its.toArray },toks:=t' } :=
 I.laid (λ_ _ q=>aar _ q) (aaw _) ⟨hz,its,0,hv,aaL _ rfl⟩
theorem Inv.fresh (I:Inv X pins σ H s):H s.heap.objs.size=none:=I.hok.fresh (aaw _)
theorem Inv.K8 (I:Inv X pins σ H s) (hH:H l=some (.lst xs)):xs.length<=sizeLine/\∃ (its:List aat) (n:Nat),Vals xs its/\xs.length=its.length/\s.heap.get? l=some { cls:=.type "list",data:=.seq its.toArray n }:=by
 obtain ⟨z,its,n,r,e⟩:=I.hok l _ hH;exact ⟨z,its,n,r,r.length,e⟩
end
section
variable {X:Cx}
noncomputable def rU:V->List V->Hp->VK->Prop:=λx vs H Q=>∃ l xs y,x=.ref l/\vs=[y]/\H l=some (.lst xs)/\xs.length<sizeLine/\Q .non (upd H l (.lst (xs++[y])))
theorem eX:MtM X "list.append" rU:=by
 intro pins s σ H x vs v us Q I rx rv h;obtain ⟨l,xs,y,rfl,rfl,hH,hz,q⟩:=h;cases rx;obtain ⟨u,rfl,ru⟩:=rv.one;obtain ⟨z,its,n,r,hl,e⟩:=I.K8 hH;refine aoI F.slot_list_append ⟨_,e,rfl⟩ F.entry_list_append (F.args_list_append_2 _ _) (PySem.list_append l its.toArray n u (by rw [abm]; omega)) ⟨e,?_⟩;refine ⟨.non,_,I.acd (its':=its++[u]) hH e (by simp) (r.append (.cons ru .nil)) ?_,rfl,q⟩;rw [aay,List.length_singleton];omega
noncomputable def Ph:R2:=λx y H Q=>∃ l b xs zs,x=.ref l/\y=.ref b/\H l=some (.lst xs)/\H b=some (.lst zs)/\xs.length+zs.length<=sizeLine/\∀ p,H p=none->Q (.ref p) (upd H p (.lst (xs++zs)))
theorem nA:gC X (binaryOp .Add) Ph:=by
 intro pins s σ H x y v u Q I rx ry h;obtain ⟨l,b,xs,zs,rfl,rfl,hH,hB,hz,q⟩:=h;cases rx;cases ry;obtain ⟨z,its,n,r,hl,e⟩:=I.K8 hH;obtain ⟨z2,its2,n2,r2,hl2,e2⟩:=I.K8 hB;refine PySem.P.add_list e e2 ?_ (by rw [abm,abm]; omega);have ea:its.toArray++its2.toArray=(its++its2).toArray:=by simp
 rw [ea];exact ⟨.ref _,_,I.ace (t':=s.toks) (r.append r2) (by rw [aay]; omega),rfl,q _ I.fresh⟩
end
section
variable {prog:abt} {w:acU} {A:acX} {E:aat->aav->Prop} {s:aav}
end
section
variable {X:Cx}
end
section
variable {κ:Type} [DecidableEq κ]
noncomputable def cL (kvs:List (κ × V)) (k:κ):Option V:=(kvs.find? λkv=>decide (kv.1=k)).map (·.2)
noncomputable def putK (kvs:List (κ × V)) (k:κ) (v:V):List (κ × V) :=
 if (kvs.any λkv=>decide (kv.1=k))=true then kvs.map (λkv=>if kv.1=k then (kv.1,v) else kv) else kvs++[(k,v)]
theorem cT {p:κ × V} {r:List (κ × V)} {k:κ} (e:p.1=k):cL (p :: r) k=some p.2:=by simp [cL,ait,e]
theorem cO {p:κ × V} {r:List (κ × V)} {k:κ} (e:¬ p.1=k):cL (p :: r) k=cL r k:=by simp [cL,ait,e]
theorem iM (k:κ):∀ kvs:List (κ × V),(kvs.any λkv=>decide (kv.1=k))=(cL kvs k).isSome
 | []=>rfl
 | p :: r=>by
   rw [ahT];by_cases e:p.1=k
   . simp only [cT e,decide_eq_true e,Bool.true_or,aoh]
   . rw [cO e,decide_eq_false e,Bool.false_or]; exact iM k r
theorem Ds (k j:κ) (y:V):∀ kvs:List (κ × V),cL (kvs.map λkv=>if kv.1=k then (kv.1,y) else kv) j=(cL kvs j).map λx=>if j=k then y else x
 | []=>rfl
 | p :: r=>by
   have ih:=Ds k j y r;rw [abn];by_cases h:p.1=k
   . rw [if_pos h];by_cases e:p.1=j
     . rw [cT (p:=(p.1,y)) e,cT e,ahG,if_pos (e.symm.trans h)]
     . rw [cO (p:=(p.1,y)) e,cO e,ih]
   . rw [if_neg h];by_cases e:p.1=j
     . rw [cT (p:=p) e,cT e,ahG,if_neg (λz=>h (e.trans z))]
     . rw [cO (p:=p) e,cO e,ih]
theorem zP (k j:κ) (y:V):∀ kvs:List (κ × V),cL kvs k=none->cL (kvs++[(k,y)]) j=if j=k then some y else cL kvs j
 | [],_=>by
   by_cases e:k=j
   . rw [if_pos e.symm]; exact cT (p:=(k,y)) e
   . rw [if_neg (λz=>e z.symm)]; exact cO (p:=(k,y)) e
 | p :: r,hn=>by
   rw [af7];have hk:¬ p.1=k:=λz=>by rw [cT z] at hn; cases hn
   rw [cO hk] at hn;have ih:=zP k j y r hn;by_cases e:p.1=j
   . rw [cT e,cT e,if_neg (λz=>hk (e.trans z))]
   . rw [cO e,cO e,ih]
theorem wG (kvs:List (κ × V)) (k j:κ) (y:V):cL (putK kvs k y) j=if j=k then some y else cL kvs j:=by
 unfold putK;by_cases a:(kvs.any λkv=>decide (kv.1=k))=true
 . rw [if_pos a,Ds];rw [iM] at a;by_cases e:j=k
   . obtain ⟨x,hx⟩:=af6.mp a;rw [if_pos e,e,hx,ahG,if_pos rfl]
   . rw [if_neg e];cases cL kvs j with
     | none=>rfl
     | some x=>rw [ahG,if_neg e]
 . rw [if_neg a];refine zP k j y kvs ?_;rw [iM] at a;cases q:cL kvs k with
   | none=>rfl
   | some x=>rw [q] at a; exact (a rfl).elim
theorem gD (kvs:List (κ × V)) (k:κ) (v:V):(putK kvs k v).length<=kvs.length+1:=by
 unfold putK;split
 . rw [aac]; omega
 . rw [aay,abD,adw]; omega
theorem mW.tK {o:Option V} {u:Option aat} (r:mW o u):o.isSome=u.isSome:=by
 cases o with
 | none=>cases u with
   | none=>rfl
   | some _=>exact (show False from r).elim
 | some _=>cases u with
   | none=>exact (show False from r).elim
   | some _=>rfl
theorem KV.val {kvs:List (κ × V)} {vs:List (κ × aat)} (r:KV kvs vs) (k:κ):mW (cL kvs k) (valueAt vs k):=by
 unfold KV at r
 induction r with
 | nil=>exact aeR
 | @cons p q ps qs h t ih =>
   obtain ⟨h1,h2⟩:=h;by_cases e:p.1=k
   . have e':q.1=k:=h1.symm.trans e;have b:valueAt (q :: qs) k=some q.2:=by simp [valueAt,ait,e']
     rw [cT e,b]; exact h2
   . have e':¬ q.1=k:=λz=>e (h1.trans z)
     have b:valueAt (q :: qs) k=valueAt qs k:=by simp [valueAt,ait,e']
     rw [cO e,b]; exact ih
theorem KV.any {kvs:List (κ × V)} {vs:List (κ × aat)} (r:KV kvs vs) (k:κ):(kvs.any λkv=>decide (kv.1=k))=vs.any λkv=>decide (kv.1=k):=by
 unfold KV at r
 induction r with
 | nil=>rfl
 | cons h t ih=>rw [ahT,ahT,ih,h.1]
theorem KV.repl {kvs:List (κ × V)} {vs:List (κ × aat)} (r:KV kvs vs) (k:κ) {y:V} {u:aat} (ry:RelV y u) :
   KV (kvs.map λkv=>if kv.1=k then (kv.1,y) else kv) (vs.map λkv=>if kv.1=k then (kv.1,u) else kv):=by
 unfold KV at r |-
 induction r with
 | nil=>exact .nil
 | @cons p q ps qs h t ih =>
   rw [abn,abn];refine .cons ?_ ih;obtain ⟨h1,h2⟩:=h;by_cases e:p.1=k
   . rw [if_pos e,if_pos (h1.symm.trans e)]; exact ⟨h1,ry⟩
   . rw [if_neg e,if_neg (λz=>e (h1.trans z))]; exact ⟨h1,h2⟩
theorem KV.put {kvs:List (κ × V)} {vs:List (κ × aat)} (r:KV kvs vs) (k:κ) {y:V} {u:aat} (ry:RelV y u):KV (putK kvs k y) (stored vs k u):=by
 unfold putK stored;rw [r.any k];by_cases e:(vs.any λkv=>decide (kv.1=k))=true
 . rw [if_pos e,if_pos e]; exact r.repl k ry
 . rw [if_neg e,if_neg e]; exact Paired.snoc r ⟨rfl,ry⟩
theorem KV.keys {kvs:List (κ × V)} {vs:List (κ × aat)} (r:KV kvs vs):kvs.map (·.1)=vs.map (·.1):=by
 unfold KV at r
 induction r with
 | nil=>rfl
 | cons h t ih=>rw [abn,abn,ih,h.1]
theorem KV.length {kvs:List (κ × V)} {vs:List (κ × aat)} (r:KV kvs vs):kvs.length=vs.length:=ago r
end
theorem zQ {P:abt} {w:acU} {k:Key} {u:aat} (r:RelV (kV k) u):(aO P w).is k u=true:=by
 cases k with
 | inl i=>cases i with
   | none=>cases (show u=acS from r); exact Bd P w
   | some i=>obtain ⟨t,e⟩:=(show ∃ t,u=abW i t from r); subst e; exact Dj P w i t
 | inr x=>obtain ⟨t,e⟩:=(show ∃ t,u=aml x t from r); subst e; exact Dk P w x t
theorem zR {P:abt} {w:acU}:∀ {ks:List Key} {us:List aat},Vals (ks.map kV) us->ItemsAre (aO P w) ks us
 | [],_,r=>by rw [ane] at r; cases r; exact .nil
 | k :: ks,_,r=>by
   rw [abn] at r;cases r with
   | cons h t=>exact .cons (zQ h) (zR t)
noncomputable abbrev KT (H:Hp):List (List Key × V)->List (List Key × aaH × aat)->Prop:=abG λp q=>p.1=q.1/\H q.2.1=some (.tup (p.1.map kV))/\RelV p.2 q.2.2
theorem KT.val {H:Hp} {kvs:List (List Key × V)} {xs:List (List Key × aaH × aat)} (r:KT H kvs xs) (k:List Key):mW (cL kvs k) ((atKey xs k).map (·.2)):=by
 induction r with
 | nil=>exact aeR
 | @cons p q ps qs h t ih =>
   obtain ⟨h1,_,h2⟩:=h;by_cases e:p.1=k
   . have e':q.1=k:=h1.symm.trans e;have b:atKey (q :: qs) k=some q.2:=by simp [atKey,ait,e']
     rw [cT e,b]; exact h2
   . have e':¬ q.1=k:=λz=>e (h1.trans z)
     have b:atKey (q :: qs) k=atKey qs k:=by simp [atKey,ait,e']
     rw [cO e,b]; exact ih
theorem KT.repl {H:Hp} {kvs:List (List Key × V)} {xs:List (List Key × aaH × aat)} (r:KT H kvs xs) (k:List Key) {y:V} {u:aat} (ry:RelV y u) :
   KT H (kvs.map λkv=>if kv.1=k then (kv.1,y) else kv) (xs.map (putAt k u)):=by
 induction r with
 | nil=>exact .nil
 | @cons p q ps qs h t ih =>
   rw [abn,abn];refine .cons ?_ ih;obtain ⟨h1,h2,h3⟩:=h;unfold putAt;by_cases e:p.1=k
   . rw [if_pos e,if_pos (h1.symm.trans e)]; exact ⟨h1,h2,ry⟩
   . rw [if_neg e,if_neg (λz=>e (h1.trans z))]; exact ⟨h1,h2,h3⟩
theorem KT.put {H:Hp} {kvs:List (List Key × V)} {xs:List (List Key × aaH × aat)} (r:KT H kvs xs) (k:List Key) {b:aaH} {y:V} {u:aat} (hb:H b=some (.tup (k.map kV))) (ry:RelV y u) :
   KT H (putK kvs k y) (storedH xs k b u):=by
 have e:(kvs.any λkv=>decide (kv.1=k))=(atKey xs k).isSome:=by
   rw [iM,(r.val k).tK,amo]
 unfold putK storedH;rw [e];by_cases q:(atKey xs k).isSome=true
 . rw [if_pos q,if_pos q]; exact r.repl k ry
 . rw [if_neg q,if_neg q]; exact Paired.snoc r ⟨rfl,hb,ry⟩
theorem KT.keeps {H H':Hp} {kvs:List (List Key × V)} {xs:List (List Key × aaH × aat)} (r:KT H kvs xs) (ht:∀ b ys,H b=some (.tup ys)->H' b=some (.tup ys)):KT H' kvs xs :=
 Paired.YQ r λ_ _ z=>⟨z.1,ht _ _ z.2.1,z.2.2⟩
section
variable {P:abt} {w:acU} {H:Hp} {h:afp} {a:aaH}
theorem Yc {u:HO} (ok:mX P w H h) (e:Rd H a u):bT P w H h a u:=e.ok ok
theorem rW {kvs:List (Key × V)} (ok:mX P w H h) (e:Rd H a (.dK kvs)):kvs.length<=sizeLine/\(a == sysModules)=false/\∃ vs,KV kvs vs/\h.DictOf (aO P w) a vs :=
 show bT P w H h a (.dK kvs) from Yc ok e
theorem wH {kvs:List (Key × V)} (ok:mX P w H h) (e:H a=some (.dK kvs)):kvs.length<=sizeLine/\(a == sysModules)=false/\∃ vs,KV kvs vs/\h.DictOf (aO P w) a vs:=rW ok (.inl e)
theorem wI {ks:List Key} (ok:mX P w H h) (e:H a=some (.tup (ks.map kV))):(tupleKind (aO P w)).is h ks a:=by
 obtain ⟨_,its,r,o,h1,h2,⟨n,h3⟩,_⟩:=(show bT P w H h a (.tup (ks.map kV)) from ok a _ e);exact ⟨o,its.toArray,n,h1,h2,h3,by simpa using zR r⟩
theorem Dt {kvs:List (List Key × V)} (ok:mX P w H h) (e:Rd H a (.dT kvs)):kvs.length<=sizeLine/\(a == sysModules)=false /\
   ∃ xs,KT H kvs xs/\h.DictOfH (tupleKind (aO P w)) a xs:=by
 obtain ⟨z,y,xs,r,o,es,ep,h1,h2,h3,h4,h5⟩:=(show bT P w H h a (.dT kvs) from Yc ok e);refine ⟨z,y,xs,r,o,es,ep,h1,h2,h3,h4,λx hx=>?_,h5⟩
 have all:∀ {l:List (List Key × V)} {m:List (List Key × aaH × aat)},KT H l m->∀ x∈m,(tupleKind (aO P w)).is h x.1 x.2.1:=by
   intro l m q
   induction q with
   | nil=>intro x hx; exact nomatch hx
   | @cons p q ps qs hq t ih =>
     intro x hx;rcases abu.mp hx with e | hx
     . subst e;exact wI ok (by rw [<- hq.1]; exact hq.2.1)
     . exact ih x hx
 exact all r x hx
theorem acf {kvs:List (List Key × V)} (ok:mX P w H h) (e:H a=some (.dT kvs)):kvs.length<=sizeLine/\(a == sysModules)=false /\
   ∃ xs,KT H kvs xs/\h.DictOfH (tupleKind (aO P w)) a xs:=Dt ok (.inl e)
end
noncomputable def eY (H:Hp) (a:aaH) (y:V) (r:Option V):Prop :=
 (∃ kvs k,Rd H a (.dK kvs)/\y=kV k/\r=cL kvs k)\/∃ kvs k b,Rd H a (.dT kvs)/\y=.ref b/\H b=some (.tup (k.map kV))/\r=cL kvs k
noncomputable def qR (H:Hp) (a:aaH) (y v:V) (H':Hp):Prop :=
 (∃ kvs k,H a=some (.dK kvs)/\y=kV k/\kvs.length<sizeLine/\H'=upd H a (.dK (putK kvs k v))) \/
 ∃ kvs k b,H a=some (.dT kvs)/\y=.ref b/\H b=some (.tup (k.map kV))/\kvs.length<sizeLine/\H'=upd H a (.dT (putK kvs k v))
theorem eY.k {H:Hp} {a:aaH} {kvs:List (Key × V)} {k:Key} (e:H a=some (.dK kvs)):eY H a (kV k) (cL kvs k):=.inl ⟨kvs,k,.inl e,rfl,rfl⟩
theorem eY.t {H:Hp} {a b:aaH} {kvs:List (List Key × V)} {k:List Key} (e:H a=some (.dT kvs)) (eb:H b=some (.tup (k.map kV))):eY H a (.ref b) (cL kvs k):=.inr ⟨kvs,k,b,.inl e,rfl,eb,rfl⟩
theorem qR.k {H:Hp} {a:aaH} {kvs:List (Key × V)} {k:Key} {v:V} (e:H a=some (.dK kvs)) (hl:kvs.length<sizeLine):qR H a (kV k) v (upd H a (.dK (putK kvs k v))):=.inl ⟨kvs,k,e,rfl,hl,rfl⟩
theorem qR.t {H:Hp} {a b:aaH} {kvs:List (List Key × V)} {k:List Key} {v:V} (e:H a=some (.dT kvs)) (eb:H b=some (.tup (k.map kV))) (hl:kvs.length<sizeLine) :
   qR H a (.ref b) v (upd H a (.dT (putK kvs k v))):=.inr ⟨kvs,k,b,e,rfl,eb,hl,rfl⟩
section
variable {X:Cx} {pins:List (aaH × Obj)} {σ:St} {H:Hp} {s:aav} {a:aaH} {y v:V} {u r:aat} {o:Option V} {A:acX} {E:aat->aav->Prop}
theorem Inv.big (I:Inv X pins σ H s):sysModules<s.heap.objs.size:=by
 have h:mainGlobals<s.heap.objs.size:=(I.mod.glob.keeps I.bk).lt;exact Nat.lt_trans (by decide) h
theorem K9 {Q:aat->aav->Prop} (hu:A.units+1<cLine) (I:Inv X pins σ H s) (g:eY H a y (some v)) (ry:RelV y u) (h:∀ w' s',Inv X pins σ H s'->RelV v w'->Q w' s') :
   wpAny (model X.prog X.w) A (getItem (.ref a) u) Q E s:=by
 rcases g with ⟨kvs,k,e,ey,l⟩ | ⟨kvs,k,b,e,ey,eb,l⟩
 . subst ey;obtain ⟨z,hd,vs,rel,dd⟩:=rW I.hok e;obtain ⟨w',hw,Pb⟩:=mW.some_of (v:=v) (o:=valueAt vs k) (by rw [l]; exact rel.val k);exact wpAny_getItem_of (zQ ry) dd.mapOf hw (h w' _ (I.tok _) Pb)
 . subst ey;cases (show u=abA b from ry);obtain ⟨z,hd,xs,rel,dd⟩:=Dt I.hok e;obtain ⟨w',hw,Pb⟩:=mW.some_of (v:=v) (o:=(atKey xs k).map (·.2)) (by rw [l]; exact rel.val k);obtain ⟨p,hp,hp2⟩:=afo.mp hw;refine wpAny_getItem_heap (al8 hu) (wI I.hok eb) dd hp ?_;rw [hp2];exact h w' _ (I.tok _) Pb
theorem agw {Q:aat->aav->Prop} (hu:A.units+1<cLine) (I:Inv X pins σ H s) (g:eY H a y o) (ry:RelV y u) (h:∀ s',Inv X pins σ H s'->Q (.bool o.isSome) s') :
   wpAny (model X.prog X.w) A (compareOp .In u (.ref a)) Q E s:=by
 rcases g with ⟨kvs,k,e,ey,l⟩ | ⟨kvs,k,b,e,ey,eb,l⟩
 . subst ey;obtain ⟨z,hd,vs,rel,dd⟩:=rW I.hok e;refine wpAny_in_of (zQ ry) hd dd.mapOf ?_;rw [<- (rel.val k).tK,<- l];exact h _ (I.tok _)
 . subst ey;cases (show u=abA b from ry);obtain ⟨z,hd,xs,rel,dd⟩:=Dt I.hok e;refine wpAny_in_heap (al8 hu) (wI I.hok eb) hd dd ?_;have q:=(rel.val k).tK;rw [amo] at q;rw [<- q,<- l];exact h _ (I.tok _)
theorem vC {h':afp} {t':Nat} {ob:HO} (I:Inv X pins σ H s) (mu:Mut (H a)) (hs:ag6 a s.heap h') (he:∃ q,h'.get? a=some q) (new:bT X.prog X.w (upd H a ob) h' a ob) :
   Inv X pins σ (upd H a ob) { s with heap:=h',toks:=t' } :=
 I.write (x:=a) (e:=a) mu (.inl rfl) (λb q hb z=>(hs.2 b hb).trans z) he new
theorem Bs {P:abt} {w:acU} {H':Hp} {h':afp} {kvs:List (Key × V)} {vs:List (Key × aat)} (z:kvs.length<=sizeLine) (hd:(a == sysModules)=false) (rel:KV kvs vs) (dd:h'.DictOf (aO P w) a vs) :
   bT P w H' h' a (.dK kvs):=⟨z,hd,vs,rel,dd⟩
theorem La {H':Hp} {Q:Unit->aav->Prop} (hu:A.units+1<cLine) (I:Inv X pins σ H s) (g:qR H a y v H') (ry:RelV y u) (rv:RelV v r) (h:∀ s',Inv X pins σ H' s'->Q () s') :
   wpAny (model X.prog X.w) A (setItem (.ref a) u r) Q E s:=by
 rcases g with ⟨kvs,k,e,ey,l,eH⟩ | ⟨kvs,k,b,e,ey,eb,l,eH⟩
 . subst ey eH;obtain ⟨z,hd,vs,rel,dd⟩:=wH I.hok e;have hz:vs.length<=sizeLine:=by rw [<- rel.length]; exact z
   have hl:(putK kvs k v).length<=sizeLine:=by have:=gD kvs k v; omega
   refine wpAny_setItem_pairs (hsz:=hz) (zQ ry) dd λh' Uu hs=>h _ ?_
   have he:∃ q,h'.get? a=some q:=let ⟨q,_,_,hq,_⟩:=Uu; ⟨q,hq⟩
   exact vC I (by rw [e]; exact aeR) hs he (Bs hl hd (rel.put k rv) Uu)
 . subst ey eH;cases (show u=abA b from ry);obtain ⟨z,hd,xs,rel,dd⟩:=acf I.hok e;have hz:xs.length<=sizeLine:=by rw [<- ago rel]; exact z
   have hl:(putK kvs k v).length<=sizeLine:=by have:=gD kvs k v; omega
   refine wpAny_setItem_heap (hsz:=hz) (al8 hu) (wI I.hok eb) dd λh' Uu hs=>h _ ?_
   obtain ⟨q,es,ep,hq,h2,h3,h4,_,h5⟩:=Uu;refine vC I (by rw [e]; exact aeR) hs ⟨q,hq⟩ ⟨hl,hd,_,(rel.put k eb rv).keeps λc ys ec=>?_,q,es,ep,hq,h2,h3,h4,h5⟩;rw [aB (abK ec e (λz=>nomatch z))];exact ec
end
section
variable {X:Cx} {pins:List (aaH × Obj)} {σ:St} {H:Hp} {s:aav} {a:aaH} {kvs:List (Key × V)} {k:Key} {u:aat} {A:acX} {E:aat->aav->Prop}
theorem acg {Q:aat->aav->Prop} (I:Inv X pins σ H s) (e:Rd H a (.dK kvs)) (h:∀ t s',Inv X pins σ H s'->Q (.int kvs.length t) s'):wpAny (model X.prog X.w) A (call (.builtin "len") [.ref a]) Q E s:=by
 obtain ⟨z,hd,vs,rel,dd⟩:=rW I.hok e;refine call_len_dict hd dd (by rw [<- rel.length]; rw [aby] at z; omega) ?_;rw [<- rel.length];exact h _ _ (I.tok _)
end
noncomputable def ach (i:Expr):Prop:=∀ ov iv,subscripted i false ov iv=operate [ov,iv] (getItem ov iv)
theorem Vn {prog:abt} {w:acU} {A:acX} {E:aat->aav->Prop} {s:aav} {env:Env} {value slice:Expr} {pos:Pos} {T id:String} {Q:aat->aav->Prop}
   (hl:typeLookup (.type T) "__getitem__" = pure (some (.builtin id))) (hs:ach slice)
   (h:wpAny (model prog w) A (eval value env) (λo s₁=>wpAny (model prog w) A (eval slice env) (λi s₂=>s₂.TypeIs o T/\wpAny (model prog w) A (getItem o i) Q E s₂) E s₁) E s) :
   wpAny (model prog w) A (eval (.Subscript value slice pos) env) Q E s:=by
 refine apj (afF h (λo s₁ h₁=>afF h₁ (λi s₂ h₂=>?_) λ_ _ x=>x) λ_ _ x=>x);obtain ⟨hT,h₂⟩:=h₂;unfold subscriptTail;refine El ?_;rw [getitemInPython_of_ne hT.not_modules];refine El (ajB hT hl ?_)
 have fin:wpAny (model prog w) A (subscripted slice false o i) (λr s₃=>wpAny (model prog w) A (letTemporaryGo value o r >>= λ_=>pure r) Q E s₃) E s₂:=by
   rw [hs o i];exact wpAny_operating (afF h₂ (λr s₃ h₃=>El (wpAny_letTemporaryGo (aau h₃))) λ_ _ x=>x)
 first
   | exact aau (El fin)
   | exact El (aau (El fin))
   | exact El fin
theorem Du {X:Cx} {pins:List (aaH × Obj)} {σ:St} {H:Hp} {s:aav} {a:aaH} {y:V} {o:Option V} (I:Inv X pins σ H s) (g:eY H a y o):s.TypeIs (.ref a) "dict":=by
 rcases g with ⟨kvs,k,e,_,_⟩ | ⟨kvs,k,b,e,_,_,_⟩
 . obtain ⟨_,_,vs,_,dd⟩:=rW I.hok e;exact dd.typeIs
 . obtain ⟨_,_,xs,_,dd⟩:=Dt I.hok e;exact dd.typeIs
noncomputable def aci (td ty:TE):TE:=fun σ H Q=>td σ H λx H1=>ty σ H1 λy H2=>∃ a v,x=.ref a/\eY H2 a y (some v)/\Q v H2
noncomputable def agx (ty td:TE):TE:=fun σ H Q=>ty σ H λy H1=>td σ H1 λx H2=>∃ a o,x=.ref a/\eY H2 a y o/\Q (.bl o.isSome) H2
noncomputable def acj (td ty tv:TE):TS:=λD σ H=>tv σ H λv H1=>td σ H1 λx H2=>ty σ H2 λy H3=>∃ a H4,x=.ref a/\qR H3 a y v H4/\D.nx σ H4
section
variable {X:Cx} {o i e value:Expr} {pos pos' tpos:Pos} {td ty tv:TE}
theorem eN (hu:X.A.units+1<cLine) (ho:PE X o td) (hi:PE X i ty) (hs:ach i):PE X (.Subscript o i pos) (aci td ty):=by
 intro pins s σ H Q I h;refine Vn PySem.F.slot_dict_getitem.lookup hs (c7 (ho pins s σ H _ I h) λu s1 ⟨x,H1,I1,rx,q1⟩=>c7 (hi pins s1 σ H1 _ I1 q1) λiv s2 ⟨y,H2,I2,ry,a,v,ex,g,q2⟩=>?_);subst ex;obtain rfl:u=abA a:=rx;exact ⟨Du I2 g,K9 hu I2 g ry λw' s3 I3 Pb=>⟨v,H2,I3,Pb,q2⟩⟩
theorem jr (hu:X.A.units+1<cLine) (hi:PE X i ty) (ho:PE X o td):PC X .In i o (agx ty td):=by
 intro pins s σ H Q I h;refine c7 (hi pins s σ H _ I h) λiv s1 ⟨y,H1,I1,ry,q1⟩=>c7 (ho pins s1 σ H1 _ I1 q1) λu s2 ⟨x,H2,I2,rx,a,ov,ex,g,q2⟩=>?_
 subst ex;obtain rfl:u=abA a:=rx;exact agw hu I2 g ry λs3 I3=>⟨.bl ov.isSome,H2,I3,rfl,q2⟩
theorem jf (hu:X.A.units+1<cLine) (ho:PE X o td) (hi:PE X i ty) (hv:PE X value tv) (hs:swapsWith value (some (.Subscript o i pos')) pos.line X.env=pure false) :
   PS X (.Assign [.Subscript o i pos'] value pos) (acj td ty tv):=by
 intro pins s σ H D I h;refine wpAny_Assign_Subscript (c7 (hv pins s σ H _ I h) λr s1 ⟨v,H1,I1,rv,q1⟩=>c7 (ho pins s1 σ H1 _ I1 q1) λu s2 ⟨x,H2,I2,rx,q2⟩=>c7 (hi pins s2 σ H2 _ I2 q2) λiv s3 ⟨y,H3,I3,ry,a,H4,ex,g,q3⟩=>?_) hs;subst ex;obtain rfl:u=abA a:=rx;exact La hu I3 g ry rv λs4 I4=>⟨σ,H4,I4,q3⟩
end
theorem Pj {P:abt} {w:acU} {H:Hp} (h:afp) (hb:sysModules<h.objs.size):bT P w H (h.push { cls:=.type "dict",data:=.dict #[] }) h.objs.size (.dK []) :=
 ⟨abH _,beq_eq_false_iff_ne.mpr (acV (abB hb)),[],.nil,anf h⟩
theorem Pk {P:abt} {w:acU} {H:Hp} (h:afp) (hb:sysModules<h.objs.size):bT P w H (h.push { cls:=.type "dict",data:=.dict #[] }) h.objs.size (.dT []) :=
 ⟨abH _,beq_eq_false_iff_ne.mpr (acV (abB hb)),[],.nil,_,#[],0,aaL _ rfl,⟨rfl,rfl,rfl⟩,rfl,rfl,anM⟩
noncomputable def Gx:TE:=λ_ H Q=>∀ p,H p=none->Q (.ref p) (upd H p (.dK []))
noncomputable def Zo:TE:=λ_ H Q=>∀ p,H p=none->Q (.ref p) (upd H p (.dT []))
section
variable {X:Cx} {pos:Pos}
theorem iQ:PE X (.Dict [] [] pos) Gx:=λpins s σ H Q I h =>
 wpAny_Dict_empty ⟨.ref s.heap.objs.size,_,I.laid (a:=s.heap.objs.size) (o:=.dK []) (t':=s.toks) (λ_ _ q=>aar _ q) (aaw _) (Pj s.heap I.big),rfl,h _ (I.hok.fresh (aaw _))⟩
theorem Dv:PE X (.Dict [] [] pos) Zo:=λpins s σ H Q I h =>
 wpAny_Dict_empty ⟨.ref s.heap.objs.size,_,I.laid (a:=s.heap.objs.size) (o:=.dT []) (t':=s.toks) (λ_ _ q=>aar _ q) (aaw _) (Pk s.heap I.big),rfl,h _ (I.hok.fresh (aaw _))⟩
end
noncomputable def qT (kvs more:List (Key × V)):List (Key × V):=more.foldl (λacc kv=>putK acc kv.1 kv.2) kvs
theorem KV.merge:∀ {more:List (Key × V)} {rs:List (Key × aat)} {kvs:List (Key × V)} {vs:List (Key × aat)},KV more rs->KV kvs vs->KV (qT kvs more) (merged vs rs):=by
 intro more rs kvs vs r;unfold KV at r
 induction r generalizing kvs vs with
 | nil=>intro q; exact q
 | @cons p q ps qs h t ih =>
   intro r0
   have e:KV (putK kvs p.1 p.2) (stored vs q.1 q.2):=by
     have:=r0.put p.1 h.2;rw [<- h.1]; exact this
   exact ih e
structure M2 (X:Cx) (o:Expr) (m:Str) (apos:Pos) (e f:Expr) (cpos:Pos):Prop where
 base:attributeBase o m X.env (eval o X.env)=eval o X.env
 few:((backTo cpos (starEach [e,f] X.env)).all (λx=>!x.1) && (backToKw cpos (keywordEach [] X.env)).all (λx=>x.1.isSome)
   && decide (([e,f]:List Expr).length+([]:List aoD).length+(if ([]:List aoD).isEmpty then 0 else 1)<30))=true
 line:(apos.endLine == cpos.line)=true
 trees:backTo cpos (starEach [e,f] X.env)=[(false,eval e X.env),(false,eval f X.env)]
noncomputable def IsD (H:Hp) (a:aaH):Prop:=(∃ kvs,Rd H a (.dK kvs))\/∃ kvs,Rd H a (.dT kvs)
theorem Gy {X:Cx} {pins:List (aaH × Obj)} {σ:St} {H:Hp} {s:aav} {a:aaH} (I:Inv X pins σ H s) (d:IsD H a) :
   s.TypeIs (.ref a) "dict"/\(∀ b,abA a=.ref b->∃ ob,s.heap.get? b=some ob/\ob.dict=none)/\(a == sysModules)=false:=by
 rcases d with ⟨kvs,e⟩ | ⟨kvs,e⟩
 . obtain ⟨_,hd,vs,_,dd⟩:=rW I.hok e;refine ⟨dd.typeIs,λb q=>?_,hd⟩;cases q;obtain ⟨ob,_,_,h1,h2,_⟩:=dd;exact ⟨ob,h1,h2.2.1⟩
 . obtain ⟨_,hd,xs,_,dd⟩:=Dt I.hok e;refine ⟨dd.typeIs,λb q=>?_,hd⟩;cases q;obtain ⟨ob,_,_,h1,h2,_⟩:=dd;exact ⟨ob,h1,h2.2.1⟩
section
variable {X:Cx} {pins:List (aaH × Obj)} {σ:St} {H:Hp} {s:aav} {a:aaH} {y d:V} {u r:aat} {o:Option V} {A:acX} {E:aat->aav->Prop}
end
section
variable {X:Cx} {o e f:Expr} {apos cpos:Pos} {td ty tx:TE}
end
section
variable {X:Cx} {pins:List (aaH × Obj)} {σ:St} {H:Hp} {s:aav} {a:aaH} {kvs:List (Key × V)} {A:acX} {E:aat->aav->Prop}
end
section
variable {X:Cx} {pins:List (aaH × Obj)} {σ:St} {H:Hp} {s:aav} {a:aaH} {y:V} {u:aat} {A:acX} {E:aat->aav->Prop}
end
end L2
namespace Att
open PySem PySem.W PySem.Calls PyProof.Rows
theorem vd {P:Params} {h:afp}:∀ (ns:List Int) (vs:List aat),WellAll P h vs (ns.map WData.int)->ajV vs ns:=by
 intro ns
 induction ns with
 | nil =>
   intro vs w;rw [ane] at w;cases w;exact .nil
 | cons n ns ih =>
   intro vs w;rw [abn] at w;cases w with
   | cons a b =>
     cases a;exact .cons _ _ (ih _ b)
theorem Lb {l:OpenLaw} {n:Nat} (hn:l.most=some n) {P:Params} {h:afp} {args:List WData} {vals:List aat}
   (hpre:l.row.toRowW.claim.pre args=true) (hwl:WellAll P h vals args) :
   ∃ a vs ns,vals=[abA a]/\args=[WData.list (ns.map WData.int)]/\h.get? a=some { cls:=.type "list",data:=.seq vs.toArray }/\ajV vs ns/\ns.length<=n:=by
 have hsh:WShape.hasAll [] args [.list .int]=true:=(pre_splitW hpre).1;have hc:l.pre.holds [] { args:=args }=true:=(pre_splitW hpre).2;obtain ⟨d,r,rfl,h1,h2⟩:=hasAllW_cons hsh;obtain rfl:=hasAllW_nil h2;obtain ⟨xs,rfl,h3⟩:=hasW_list h1;obtain ⟨ns,rfl⟩:=items_int h3
 have hlen:ns.length<=n:=by
   unfold OpenLaw.pre at hc
   have h4:(WTm.not (.lt (.lit (.int (n:Int))) (.len (.arg 0)))).holds [] { args:=[.list (ns.map .int)] }=true:=by
     have h4:=(holds_andW hc).1;rw [hn] at h4;exact h4
   have h5:=condW_of h4 (w_not (w_lt w_lit (w_len_list (w_arg rfl))));rw [aac] at h5;refine Nat.le_of_not_lt λq=>?_
   have q':(n:Int)<((ns.length:Nat):Int):=by omega
   first
     | (rw [decide_eq_true q'] at h5; exact absurd h5 (by decide))
     | (simp at h5; omega)
 cases hwl with
 | cons w1 w2 =>
   cases w2;cases w1 with
   | list ho hall=>exact ⟨_,_,ns,rfl,rfl,ho,vd ns _ hall,hlen⟩
theorem Ld (l:OpenLaw) (args:List WData):l.row.toRowW.claim.post args (.bool true) args=true :=
 postW_of (r:=l.row.toRowW) (X:=(true == true))
   (show WShape.has [] (.bool true) .bool=true by first | rfl | decide | simp [WShape.has,WShape.arms,WShape.armsAll])
   (show (WTm.eq .res (.lit (.bool true))).value [] { args:=args,res:=some (.bool true),after:=args }=some (.bool (true == true)) from w_eq_bool (w_res rfl) w_lit) rfl
section
variable {prog:abt} {w:acU} {A:acX} {E:aat->aav->Prop} {s:aav} {K:Frag}
end
end Att
namespace L2
open PySem PySem.Spec PyProof.Rows
theorem zT:∀ {vs:List aat} {ns:List Int},ajV vs ns->Vals (ns.map V.int) vs
 | _,_,.nil=>.nil
 | _,_,.cons n t h=>.cons ⟨t,rfl⟩ (zT h)
noncomputable def Only (H:Hp):Prop:=∀ b,H b=none\/∃ o xs,H b=some (.gY o (.lst xs))
theorem Pn {P:abt} {w:acU} {K:aaf} {mg mb:Str->Option aat} {CX:K6} {k:Nat} {fa a:aaH} {fd:abL} {x:Str} {sp:Sp} {s₁:aav} {vs:List aat} {ns:List Int}
   (KX:K.In s₁.heap) (hns:s₁.heap.Ns mainGlobals mg) (hb:s₁.heap.Ns builtinsNs mb) (hbb:∀ x:Str,x≠"__name__"->mb x=bootBuiltins x) (hlim:s₁.heap.NoLimit) (hg:s₁.gens=#[])
   (ha:s₁.heap.get? a=some { cls:=.type "list",data:=.seq vs.toArray }) (hi:ajV vs ns) (hl:ns.length<=sizeLine) (hr:fX k callerA)
   (F:∀ base:afp,K.In base->base.Ns mainGlobals mg->aV P w K mg base CX k fa fd [x] sp) (hbind:∀ (s:aav) (u:aat),ao9 s fd ⟨[u],[]⟩ [(x,u)])
   (hsp:∀ H:Hp,Only H->cG K H a (ns.map V.int)->sp [.ref a] H (λv _=>v=.bl true) λ_ _ _=>False)
   (hCX:∀ H e s',CX [] H s₁ (λ_ _ _=>False) e s'->False) :
   codeAny (model P w) callerA (.call (.ref fa) ⟨[.ref a],[]⟩) (λr s'=>r=.ok (.ret (.bool true))/\OldK s₁.heap s'.heap/\s'.os=s₁.os/\am7 s'.gens) s₁:=by
 have rv:=zT hi;have lenV:=hi.length
 have core:∀ H:Hp,Only H->cG K H a (ns.map V.int)->mX P w H s₁.heap->(∀ b,H b≠none->b=a)->(H a≠none->K.lookup a=none) ->
     codeAny (model P w) callerA (.call (.ref fa) ⟨[.ref a],[]⟩) (λr s'=>r=.ok (.ret (.bool true))/\OldK s₁.heap s'.heap/\s'.os=s₁.os/\am7 s'.gens) s₁:=by
   intro H hO hS hok hA hK;have Jw:∀ {b:aaH} {o:Obj},s₁.heap.get? b=some o->H b=none->(Bg s₁.heap H).get? b=some o:=λe n=>Ou e n
   have noA:∀ {b:aaH} {o:Obj} {es:Array ah3} {ep:Nat},s₁.heap.get? b=some o->o.data=.dict es ep->H b=none:=λ{b o es ep} e d=>by
     cases q:H b with
     | none=>rfl
     | some u =>
       have e':b=a:=hA b (by rw [q]; simp);subst e';rw [ha] at e; cases e;have d':Data.seq vs.toArray _=alL es ep:=d;cases d'
   have nsK:∀ {b:aaH} {m:Str->Option aat},s₁.heap.Ns b m->(Bg s₁.heap H).Ns b m:=λ{b m} ⟨o,es,ep,e,d,r⟩=>⟨o,es,ep,Jw e (noA e d),d,r⟩
   have hKb:K.In (Bg s₁.heap H):=λb o e=>Jw (KX b o e) (by
     cases q:H b with
     | none=>rfl
     | some u =>
       have e':b=a:=hA b (by rw [q]; simp);subst e'
       rw [hK (by rw [q]; simp)] at e; cases e)
   have hM:Mod K mg (Bg s₁.heap H):=⟨hKb,nsK hns,⟨mb,nsK hb,hbb⟩,let ⟨mc,h1,h2⟩:=hlim; ⟨mc,nsK h1,h2⟩⟩;have e0:Gq P w K mg (Bg s₁.heap H) callerA [] s₁ H:=⟨rfl,hM,λb o e=>Va e,aoO (KJ _ _),trivial,λb hb=>absurd (show b∈([]:List aaH) from hb) (by simp),hok,.of_eq hg⟩;refine agq ((F _ hKb (nsK hns)).run callerA [] s₁ H ⟨[.ref a],[]⟩ [.ref a] [.ref a] _ _ hr e0 (hbind s₁ (.ref a)) (.cons rfl .nil) (hsp H hO hS)) λr s' h=>?_
   cases r with
   | error e=>exact (hCX H e s' h).elim
   | ok fl =>
     cases fl with
     | next=>exact aek h
     | brk=>exact aek h
     | cont=>exact aek h
     | ret u =>
       obtain ⟨v,H',os,bare,un,hok',r',q⟩:=h;have q':v=.bl true:=q;subst q';obtain rfl:u=ah7 true:=r';refine ⟨rfl,OldK.of_keep λb o e=>?_,os,bare⟩;cases q:H b with
       | none=>exact un.keep b o e q (by intro z; exact absurd (show b∈([]:List aaH) from z) (by simp)) (by simp)
       | some u =>
         rcases hO b with z | ⟨ob,xs,z⟩
         . rw [q] at z; cases z
         . have z2:=un.qy b ob _ z;obtain ⟨e1,_⟩:=hok b _ z;obtain ⟨e2,_⟩:=hok' b _ z2;rw [e] at e1; cases e1;exact e2
 cases hk:K.lookup a with
 | some o =>
   have e:=KX a o hk;rw [ha] at e;cases e;refine core (λ_=>none) (λ_=>.inl rfl) (.inr ⟨_,vs.toArray,_,hk,rfl,rfl,rfl,by rw [abm,lenV]; exact hl,by simpa using rv⟩) (λb u z=>by have z':(none:Option HO)=some u:=z; cases z') (λb z=>absurd rfl z) λz=>absurd rfl z
 | none =>
   refine core (λb=>if b=a then some (.gY { cls:=.type "list",data:=.seq vs.toArray } (.lst (ns.map V.int))) else none) (λb=>?_) (.inl (.inr ⟨{ cls:=.type "list",data:=.seq vs.toArray },if_pos rfl⟩)) (λb u z=>?_) (λb z=>?_) λ_=>hk
   . by_cases hb:b=a
     . exact .inr ⟨_,_,if_pos hb⟩
     . exact .inl (if_neg hb)
   . by_cases hb:b=a
     . have z':=(if_pos hb).symm.trans z;cases z';subst hb;exact ⟨ha,by rw [aac]; exact hl,vs,_,rv,ha⟩
     . have z':=(if_neg hb).symm.trans z;cases z'
   . by_cases hb:b=a
     . exact hb
     . exact absurd (if_neg hb) z
noncomputable def inClass (s:air) (j:Nat):air:=match s with
 | .ClassDef _ _ _ body _ _ _ _ _ _ _=>body.getD j (.Pass ⟨0,0,0,0⟩)
 | _=>.Pass ⟨0,0,0,0⟩
noncomputable def jg (s:air):Arguments:=match s with
 | .FunctionDef _ a _ _ _ _ _ _ _ _=>a
 | _=>{ posonlyargs:=[],args:=[],vararg:=none,kwonlyargs:=[],kw_defaults:=[],kwarg:=none,defaults:=[] }
noncomputable def gQ (s:air):List air:=match s with
 | .FunctionDef _ _ b _ _ _ _ _ _ _=>b
 | _=>[]
noncomputable def aJ (s:air):Scope:=match s with
 | .FunctionDef _ _ _ _ _ _ sc _ _ _=>sc
 | _=>{ kind:=.function,names:=[],isGenerator:=false,isCoroutine:=false }
noncomputable abbrev dF:K6:=λ_ _ _ _ _ _=>False
noncomputable abbrev E0:XK:=λ_ _ _=>False
theorem gZ {X:Cx}:Passes dF X E0:=λ_ _ _ _ _ _ _ h=>h.elim
structure dO (K:aaf) (x qual:Str) (st:air) (f:aaH) (fd:abL):Prop where
 ex:∃ (oc:aat) (od:Option aaH) (kV doc pm:aat) (an:Option aaH) (cdv ct:aat) (osl:Array (Option aat)),
   fd=agy x qual (jg st) (gQ st) (aJ st) .none kV doc pm an cdv ct/\K.lookup f=some ⟨oc,od,.func fd,osl⟩/\anK K cdv qual=true
 kp:afZ K (.ref f)=true
section
variable {P:abt} {w:acU} {K:aaf} {mg:Str->Option aat} {base:afp}
theorem dO.ok {x qual:Str} {st:air} {f:aaH} {fd:abL} {N ps:List Str} {k:Nat} {sp:Sp} (F:dO K x qual st f fd) (S:aZ N ps (aJ st)) (len:∀ vs H Q E,sp vs H Q E->vs.length=ps.length)
   (hbody:∀ (cdv:aat) (A:acX) (outer:List Env) (s:aav) (H:Hp) (vs:List V) (Q:VK) (E:XK),fX k (A.deeper (envOfC qual (aJ st) s.heap.objs.size f cdv))->sp vs H Q E ->
     ∃ t,FW (Dq dF P w K mg base N qual (aJ st) f cdv A outer s H E).nox (gQ st) t/\t { nx:=λ_ H'=>Q .non H',rt:=Q } (start N vs) H):aV P w K mg base dF (k+1) f fd ps sp:=by
 obtain ⟨oc,od,kV,doc,pm,an,cdv,ct,osl,rfl,lk,hcd⟩:=F.ex;refine X7 lk hcd S len λA outer s H vs Q E hr hsp=>?_
 obtain ⟨t,h,q⟩:=hbody cdv A outer s H vs Q E hr hsp;exact ⟨t,h.nox,q⟩
theorem dO.binds {x qual:Str} {st:air} {f:aaH} {fd:abL} {ps:List Str} (F:dO K x qual st f fd)
   (h:∀ (kV doc pm:aat) (an:Option aaH) (cdv ct:aat) (us:List aat),us.length=ps.length->bindArgs (agy x qual (jg st) (gQ st) (aJ st) .none kV doc pm an cdv ct) ⟨us,[]⟩=pure (ps.zip us)):Binds K fd ps []:=by
 obtain ⟨oc,od,kV,doc,pm,an,cdv,ct,osl,rfl,lk,hcd⟩:=F.ex;exact .all (h kV doc pm an cdv ct)
theorem Zq {x qual:Str} {st:air} {f:aaH} {oc:aat} {od an:Option aaH} {osl:Array (Option aat)} {kV doc pm cdv ct:aat} (l:K.lookup f=some ⟨oc,od,.func (agy x qual (jg st) (gQ st) (aJ st) .none kV doc pm an cdv ct),osl⟩)
   (c:anK K cdv qual=true) (k:afZ K (.ref f)=true):dO K x qual st f (agy x qual (jg st) (gQ st) (aJ st) .none kV doc pm an cdv ct):=⟨⟨oc,od,kV,doc,pm,an,cdv,ct,osl,rfl,l,c⟩,k⟩
end
theorem cU {A:acX} {k:Nat} (hr:fX k A):A.units+1<cLine:=Nat.lt_of_le_of_lt (Nat.add_le_add_left (by decide:1<=64) _) hr.units
section
variable {X:Cx}
end
theorem Zr {A B:Prop} (h:B):if false=true then A else B:=by
 rw [if_neg aaK];exact h
theorem agA {A B:Prop} (h:A):if true=true then A else B:=by
 rw [if_pos rfl];exact h
theorem eZ {c A B:Prop} [Decidable c] (h1:c->A) (h2:¬ c->B):if c then A else B:=by
 by_cases h:c
 . rw [if_pos h];exact h1 h
 . rw [if_neg h];exact h2 h
noncomputable def Same (H H':Hp):Prop:=∀ b o,H b=some o->H' b=some o
theorem Same.refl (H:Hp):Same H H:=λ_ _ h=>h
theorem Same.trans {H H1 H2:Hp} (a:Same H H1) (b:Same H1 H2):Same H H2:=λc o h=>b c o (a c o h)
theorem Same.free {H H':Hp} (e:Same H H') {l:aaH} (h:H' l=Option.none):H l=Option.none:=by
 cases q:H l with
 | none=>rfl
 | some o =>
   rw [e l o q] at h;cases h
section
variable {X:Cx}
theorem pG:dU X (.builtin "len") (λxs H Q=>∃ a kvs,xs=[V.ref a]/\H a=some (.dK kvs)/\Q (.int kvs.length) H):=by
 intro pins s σ H xs us Q I r h;obtain ⟨a,kvs,rfl,ha,q⟩:=h;obtain ⟨u,rfl,ru⟩:=vals1 r;cases ru;exact acg I (.inl ha) λt s' I'=>⟨.int kvs.length,H,I',⟨t,rfl⟩,q⟩
end
section
variable {κ:Type} [DecidableEq κ]
theorem Vo {kvs:List (κ × V)} {k:κ} {v:V} (h:cL kvs k=some v):k∈kvs.map (·.1):=by
 have q:(kvs.any λkv=>decide (kv.1=k))=true:=by
   rw [iM,h]
   all_goals rfl
 obtain ⟨p,hp,e⟩:=ah4.mp q;exact abj.mpr ⟨p,hp,of_decide_eq_true e⟩
end
end L2
set_option maxHeartbeats 4000000
namespace L2
open PySem PySem.Spec PyProof.Rows
noncomputable def jX (scope sc:Scope):Scope :=
 { scope with names:=scope.names.map λ(n,k)=>if (k == .free && sc.kind == .function && sc.names.lookup n == some .cell) then (n,.cell) else (n,k) }
structure BI where
 cells:List (Str × aaH)
 C:aaH
 s:aav
 H:Hp
 fp:List aaH
 pins:List (aaH × Obj)
noncomputable def Gz (scope:Scope) (cells:List (Str × aaH)) (C:aaH) (env:Env):Env :=
 { scope:=jX scope env.scope,locals:=C,globals:=env.globals,cells:=cells,qual:=env.qual,func:=none,code:=env.code,frame:=env.frame,builtins:=env.builtins }
noncomputable def blk (X:Cx) (scope:Scope) (N:List Str) (b:BI):Cx where
 prog:=X.prog
 w:=X.w
 K:=X.K
 mg:=X.mg
 base:=X.base
 A:=X.A
 N:=N
 s₀:=b.s
 H₀:=b.H
 env:=Gz scope b.cells b.C X.env
 outer:=X.stack
 stack:=X.stack
 ex:=b.fp
 fn:=λx=>scope.names.lookup x == some .cell
 calm:=X.calm
 pn:=X.pn++b.pins
 xe:=λ_ _=>False
noncomputable def fj (env:Env):List (Str × ajQ)->List (Str × aaH)->List (Str × aaH)
 | [],acc=>acc
 | (n,k) :: r,acc=>if k == .free then fj env r ((n,(env.cells.lookup n).getD 0) :: acc) else fj env r acc
theorem qU (env:Env) (f:Str × ajQ->List (Str × aaH)->Sem (ForInStep (List (Str × aaH))))
   (hf:∀ n k cs,f (n,k) cs=if k == .free then (cellOf env n >>= λa=>pure (.yield ((n,a) :: cs))) else pure (.yield cs)) :
   ∀ (names:List (Str × ajQ)) (acc:List (Str × aaH)),(∀ y∈names,y.2=.free->∃ c,env.cells.lookup y.1=some c)->forIn names acc f=(pure (fj env names acc):Sem _)
 | [],acc,_=>by rw [anN]; rfl
 | (n,k) :: r,acc,h=>by
   rw [List.forIn_cons,hf];have hr:∀ y∈r,y.2=.free->∃ c,env.cells.lookup y.1=some c:=λy hy=>h y (abk _ hy)
   cases hk:k == ac7 with
   | true =>
     obtain ⟨c,hc⟩:=h (n,k) abw (beq_iff_eq.mp hk);have e1:cellOf env n=pure c:=by unfold cellOf; rw [show env.cells.lookup n=some c from hc]
     have e2:fj env ((n,k) :: r) acc=fj env r ((n,c) :: acc):=by
       show (if (k == ac7)=true then _ else _)=_;rw [if_pos hk,show env.cells.lookup n=some c from hc]; rfl
     rw [e2,if_pos rfl,e1];exact qU env f hf r ((n,c) :: acc) hr
   | false =>
     have e2:fj env ((n,k) :: r) acc=fj env r acc:=by
       show (if (k == ac7)=true then _ else _)=_;rw [if_neg (by rw [hk]; exact aaK)]
     rw [e2,if_neg aaK];exact qU env f hf r acc hr
theorem za {scope:Scope} {env:Env} (h:∀ y∈scope.names,y.2=.free->∃ c,env.cells.lookup y.1=some c):closureFor scope env=pure (fj env scope.names []):=by
 simp only [closureFor];rw [qU env _ (λn k cs=>by cases hk:k == ac7 <;> simp [hk]) scope.names [] h];rfl
theorem jK {env:Env} {x:Str} {c:aaH}:∀ (names:List (Str × ajQ)) (acc:List (Str × aaH)),(fj env names acc).lookup x=some c->acc.lookup x=some c\/((x,ac7)∈names/\c=(env.cells.lookup x).getD 0)
 | [],_,h=>.inl h
 | (n,k) :: r,acc,h=>by
   unfold fj at h;by_cases hk:(k == ac7)=true
   . rw [if_pos hk] at h;rcases jK r _ h with z | ⟨z,e⟩
     . rw [afu] at z;cases hx:x == n with
       | true =>
         rw [hx] at z;have e1:x=n:=beq_iff_eq.mp hx;have e2:k=ac7:=beq_iff_eq.mp hk;exact .inr ⟨by rw [e1,e2]; exact abw,by rw [e1]; exact (abx z).symm⟩
       | false=>rw [hx] at z; exact .inl z
     . exact .inr ⟨abk _ z,e⟩
   . rw [if_neg hk] at h;rcases jK r _ h with z | ⟨z,e⟩
     . exact .inl z
     . exact .inr ⟨abk _ z,e⟩
theorem qW {env:Env} {x:Str}:∀ (names:List (Str × ajQ)) (acc:List (Str × aaH)),((x,ac7)∈names\/∃ c,acc.lookup x=some c)->∃ c,(fj env names acc).lookup x=some c
 | [],_,h=>h.elim (λz=>nomatch z) λz=>z
 | (n,k) :: r,acc,h=>by
   unfold fj;by_cases hk:(k == ac7)=true
   . rw [if_pos hk];refine qW r _ ?_;by_cases hx:x=n
     . exact .inr ⟨_,by rw [afu,beq_iff_eq.mpr hx]⟩
     . rcases h with z | ⟨c,z⟩
       . rcases abu.mp z with e | z
         . exact absurd (congrArg ab5 e) hx
         . exact .inl z
       . exact .inr ⟨c,by rw [afu,beq_eq_false_iff_ne.mpr hx]; exact z⟩
   . rw [if_neg hk];refine qW r _ ?_;rcases h with z | z
     . rcases abu.mp z with e | z
       . have e2:ac7=k:=congrArg aiA e;exact absurd (beq_iff_eq.mpr e2.symm) hk
       . exact .inl z
     . exact .inr z
theorem dI:∀ (names:List (Str × ajQ)) (n:Nat) (acc:List (Str × aaH)),cellsFrom n names acc=cellsFrom n names []++acc
 | [],_,_=>rfl
 | (x,k) :: r,n,acc=>by
   unfold cellsFrom;split
   . rw [dI r (n+1) ((x,n) :: acc),dI r (n+1) [(x,n)],adz]; rfl
   . exact dI r n acc
theorem gR {x:Str} {c:aaH}:∀ (names:List (Str × ajQ)) (n:Nat) (acc:List (Str × aaH)),(x,c)∈cellsFrom n names acc->(x,c)∈acc\/(x,af0)∈names
 | [],_,_,h=>.inl h
 | (y,k) :: r,n,acc,h=>by
   unfold cellsFrom at h;split at h
   . rename_i hk
     rcases gR r _ _ h with z | z
     . rcases abu.mp z with e | z
       . have e1:x=y:=congrArg ab5 e;rw [e1,<- beq_iff_eq.mp hk]; exact .inr abw
       . exact .inl z
     . exact .inr (abk _ z)
   . rcases gR r _ _ h with z | z
     . exact .inl z
     . exact .inr (abk _ z)
theorem lookup_append {α:Type} {x:Str}:∀ (l m:List (Str × α)),(l++m).lookup x=match l.lookup x with | some c=>some c | none=>m.lookup x
 | [],m=>rfl
 | (y,c) :: l,m=>by
   rw [af7,afu,afu];cases x == y with
   | true=>rfl
   | false=>exact lookup_append l m
theorem nC {α:Type} {x:Str}:∀ {l:List (Str × α)},(∀ c,(x,c) ∉ l)->l.lookup x=none
 | [],_=>rfl
 | (y,c) :: l,h=>by
   rw [afu];have hx:x≠y:=λe=>h c (by rw [e]; exact abw)
   rw [beq_eq_false_iff_ne.mpr hx];exact nC λc hc=>h c (abk _ hc)
theorem qG {sc:Scope} {x:Str}:∀ (names:List (Str × ajQ)),(names.map λ(n,k)=>if (k == ac7 && sc.kind == .function && sc.names.lookup n == some .cell) then (n,af0) else (n,k)).lookup x =
   (names.lookup x).map λk=>if (k == ac7 && sc.kind == .function && sc.names.lookup x == some .cell) then af0 else k
 | []=>rfl
 | (n,k) :: r=>by
   have ih:=qG (sc:=sc) (x:=x) r;rw [abn];by_cases hc:(k == ac7 && sc.kind == .function && sc.names.lookup n == some .cell)=true
   . show ahQ x ((if (k == ac7 && sc.kind == .function && sc.names.lookup n == some .cell)=true then (n,af0) else (n,k)) :: _)=_;rw [if_pos hc,afu,afu];cases hx:x == n with
     | true =>
       have e:x=n:=beq_iff_eq.mp hx;subst e;show some af0=some (if (k == ac7 && sc.kind == .function && sc.names.lookup x == some .cell)=true then af0 else k);rw [if_pos hc]
     | false=>exact ih
   . show ahQ x ((if (k == ac7 && sc.kind == .function && sc.names.lookup n == some .cell)=true then (n,af0) else (n,k)) :: _)=_;rw [if_neg hc,afu,afu];cases hx:x == n with
     | true =>
       have e:x=n:=beq_iff_eq.mp hx;subst e;show some k=some (if (k == ac7 && sc.kind == .function && sc.names.lookup x == some .cell)=true then af0 else k);rw [if_neg hc]
     | false=>exact ih
theorem GC {M:ao6} {A:acX} {E:aat->aav->Prop} {s:aav} {scope:Scope} {globals:aaH} {cl:List (Str × aaH)} {qual:Str} {env:Env} {Q:Env->aav->Prop}
   (hQ:Q (newEnv scope s.heap.objs.size globals (cellsFrom (s.heap.objs.size+1) scope.names cl) qual none .none (some env) builtinsNs) { s with heap:=pushCells (s.heap.push { cls:=.type "dict",data:=.dict #[] }) scope.names }) :
   wpAny M A (newFunctionEnv scope globals cl [] qual none .none (some env)) Q E s:=by
 simp only [newFunctionEnv,aoh,if_true];refine El (wpAny_alloc ?_);refine El (wpAny_layCells _ (λname kind cells=>by cases hkc:kind == af0 <;> simp [hkc]) _ _ _ _ ?_);rw [show ({ s with heap:=s.heap.push { cls:=.type "dict",data:=.dict #[] } }:aav).heap.objs.size=s.heap.objs.size+1 from afy ..];simp only [anN];exact El (aau (aau hQ))
structure zc (gP scope:Scope) (N' own cp:List Str) (ixs:List Nat):Prop where
 kind:scope.kind=.function
 nm:∀ y∈scope.names,scope.names.lookup y.1=some y.2
 free:∀ y∈scope.names,y.2=.free->gP.names.lookup y.1=some .cell\/gP.names.lookup y.1=some .free
 cap:∀ x∈cp,scope.names.lookup x=some .free
 ix:ixs.map (λi=>N'[i]?)=cp.map some
 nd:(own++cp).Nodup
theorem iR {gP scope:Scope} {N' own cp:List Str} {ixs:List Nat} (a:scope.kind=.function:=by rfl) (b:∀ y∈scope.names,scope.names.lookup y.1=some y.2:=by decide +kernel) (c:∀ y∈scope.names,y.2=.free->gP.names.lookup y.1=some .cell\/gP.names.lookup y.1=some .free:=by decide +kernel) (d:∀ x∈cp,scope.names.lookup x=some .free:=by decide +kernel) (e:ixs.map (λi=>N'[i]?)=cp.map some:=by rfl) (f:(own++cp).Nodup:=by decide +kernel):zc gP scope N' own cp ixs:=⟨a,b,c,d,e,f⟩
noncomputable def Le (own:List Str) (ix:List Nat) (σ:St):St:=own.map (λ_=>none)++ix.map λi=>(σ[i]?).getD none
section
variable {X:Cx} {pins:List (aaH × Obj)} {σ:St} {H:Hp} {s:aav}
noncomputable abbrev hpB (s:aav) (scope:Scope):afp:=pushCells (s.heap.push { cls:=.type "dict",data:=.dict #[] }) scope.names
noncomputable abbrev Vp (X:Cx) (s:aav) (scope:Scope):List (Str × aaH):=cellsFrom (s.heap.objs.size+1) scope.names (fj X.env scope.names [])
noncomputable abbrev yP (X:Cx) (pins:List (aaH × Obj)) (s:aav) (H:Hp) (scope:Scope) (fp:List aaH):BI:=⟨Vp X s scope,s.heap.objs.size,s,H,fp,pins⟩
theorem zU (s:aav) (scope:Scope) (b:aaH) (o:Obj) (e:s.heap.get? b=some o):(hpB s scope).get? b=some o:=pushCells_keeps _ _ b o (aar _ e)
theorem Jx (s:aav) (scope:Scope):CellsOk (hpB s scope) (s.heap.objs.size+1) (cellsFrom (s.heap.objs.size+1) scope.names []):=by
 have ok:=cellsFrom_ok scope.names (s.heap.push { cls:=.type "dict",data:=.dict #[] }) (s.heap.objs.size+1) [] ⟨λ_ _ hm=>(nomatch hm),akC⟩ (by rw [afy]; exact aaw _);rw [afy] at ok;exact ok
theorem jY {gP scope:Scope} {N' own cap:List Str} {ix:List Nat} (S:zc gP scope N' own cap ix) (hX:X.env.scope=gP) (I:Inv X pins σ H s) {x:Str} {c:aaH} (h:(Vp X s scope).lookup x=some c) :
   ((x,c)∈cellsFrom (s.heap.objs.size+1) scope.names []/\s.heap.objs.size+1<=c/\scope.names.lookup x=some .cell)\/(X.env.cells.lookup x=some c/\scope.names.lookup x=some .free):=by
 have h':(cellsFrom (s.heap.objs.size+1) scope.names (fj X.env scope.names [])).lookup x=some c:=h;rw [dI,lookup_append] at h';cases e:(cellsFrom (s.heap.objs.size+1) scope.names []).lookup x with
 | some c' =>
   rw [e] at h';cases h';have m:=afC e;refine .inl ⟨m,((Jx s scope).empty _ _ m).2,?_⟩;rcases gR _ _ _ m with z | z
   . exact nomatch z
   . exact S.nm _ z
 | none =>
   rw [e] at h';rcases jK _ _ h' with z | ⟨z,ec⟩
   . exact nomatch z
   . have hf:=S.free _ z rfl;rw [<- hX] at hf;obtain ⟨c',e'⟩:=I.ok.has x hf;rw [e'] at ec;exact .inr ⟨by rw [e',ec]; rfl,S.nm _ z⟩
theorem Dw {gP scope:Scope} {N' own cap:List Str} {ix:List Nat} (S:zc gP scope N' own cap ix) (hX:X.env.scope=gP) (I:Inv X pins σ H s) {x:Str} (hx:scope.names.lookup x=some .free) :
   ∃ c,X.env.cells.lookup x=some c/\(Vp X s scope).lookup x=some c:=by
 have m:=afC hx;have hf:=S.free _ m rfl;rw [<- hX] at hf;obtain ⟨c,e⟩:=I.ok.has x hf;refine ⟨c,e,?_⟩
 have n1:(cellsFrom (s.heap.objs.size+1) scope.names []).lookup x=none:=nC λc' hc'=>by
   rcases gR _ _ _ hc' with z | z
   . exact nomatch z
   . have:=S.nm _ z;rw [hx] at this;cases this
 obtain ⟨c',e'⟩:=qW (env:=X.env) (x:=x) scope.names [] (.inl m);show (cellsFrom (s.heap.objs.size+1) scope.names (fj X.env scope.names [])).lookup x=some c;rw [dI,lookup_append,n1];show (fj X.env scope.names []).lookup x=some c;rcases jK _ _ e' with z | ⟨_,z⟩
 . exact nomatch z
 . rw [e',z,e]; rfl
theorem kindB {scope sc:Scope} {x:Str}:(jX scope sc).names.lookup x=(scope.names.lookup x).map λk=>if (k == ac7 && sc.kind == .function && sc.names.lookup x == some .cell) then af0 else k:=qG scope.names
theorem aco {gP scope:Scope} {own cap:List Str} {ix:List Nat} (S:zc gP scope X.N own cap ix) (hX:X.env.scope=gP) (I:Inv X pins σ H s) {h':afp} {m:Str->Option aat} (keep:∀ x c v,X.env.cells.lookup x=some c->s.heap.IsCell c v->h'.IsCell c v)
   (i:Nat) (x:Str) (v:V) (e1:(own++cap)[i]?=some x) (e2:(Le own ix σ)[i]?=some (some v)):∃ u,RelV v u/\Look (Gz scope (Vp X s scope) s.heap.objs.size X.env) h' m x u:=by
 have hi:¬ i<own.length:=λhi=>by
   unfold Le at e2;rw [amg (by simpa using hi),aaJ] at e2;cases q:own[i]? with
   | none=>rw [q] at e2; cases e2
   | some y=>rw [q] at e2; cases e2
 have e1':cap[i-own.length]?=some x:=by
   rw [agY (by omega)] at e1;exact e1
 have e2':∃ k,ix[i-own.length]?=some k/\σ[k]?=some (some v):=by
   unfold Le at e2;rw [agY (by simpa using Nat.le_of_not_lt hi),aaJ,aac] at e2;cases q:ix[i-own.length]? with
   | none=>rw [q] at e2; cases e2
   | some k =>
     rw [q] at e2;have e3:(σ[k]?).getD none=some v:=abx e2;cases q2:σ[k]? with
     | none=>rw [q2] at e3; cases e3
     | some z =>
       rw [q2] at e3;exact ⟨k,rfl,by rw [q2,show z=some v from e3]⟩
 obtain ⟨k,hk,hv⟩:=e2'
 have hN:X.N[k]?=some x:=by
   have z:=congrArg (λl=>l[i-own.length]?) S.ix;simp only [aaJ] at z;rw [hk,e1'] at z;exact abx z
 have hx:=S.cap x (abq e1');have m':=afC hx;have hf:=S.free _ m' rfl;rw [<- hX] at hf;obtain ⟨m0,_,hl⟩:=I.loc;obtain ⟨u,r,l⟩:=hl k x v hN hv (hf.elim (λz=>.inr (.inl z)) λz=>.inr (.inr z));refine ⟨u,r,?_⟩
 have l':∃ c,X.env.cells.lookup x=some c/\s.heap.IsCell c (some u):=by
   rcases l with ⟨z,_⟩ | ⟨_,c,z,q⟩
   . rcases hf with y | y
     . rw [show X.env.kindOf x=some .cell from y] at z; cases z
     . rw [show X.env.kindOf x=some .free from y] at z; cases z
   . exact ⟨c,z,q⟩
 obtain ⟨c,ec,hc⟩:=l';obtain ⟨c',ec',eb⟩:=Dw S hX I hx;rw [ec] at ec';cases ec';refine .inr ⟨?_,c,eb,keep x c _ ec hc⟩
 have kb:(Gz scope (Vp X s scope) s.heap.objs.size X.env).kindOf x=some (if (ac7 == ac7 && X.env.scope.kind == .function && X.env.scope.names.lookup x == some .cell) then af0 else ac7):=by
   show (jX scope X.env.scope).names.lookup x=_;rw [kindB,hx]; rfl
 rw [kb];by_cases q:(ac7 == ac7 && X.env.scope.kind == .function && X.env.scope.names.lookup x == some .cell)=true
 . rw [if_pos q]; exact .inl rfl
 . rw [if_neg q]; exact .inr rfl
theorem Vq {gP scope:Scope} {own cap:List Str} {ix:List Nat} {fp:List aaH} (S:zc gP scope X.N own cap ix) (hX:X.env.scope=gP) (I:Inv X pins σ H s) (hf:∀ b∈fp,qz X pins H b) (ho:∀ b∈fp,∃ o,s.heap.get? b=some o) :
   Inv (blk X scope (own++cap) (yP X pins s H scope fp)) [] (Le own ix σ) H { s with heap:=hpB s scope }:=by
 have kp:=zU s scope;have own1:=Jx s scope
 have ltC:∀ x c,X.env.cells.lookup x=some c->c<s.heap.objs.size:=λx c e=>by
   obtain ⟨v,o,e',_⟩:=I.cell x c e;exact abh e'
 have ltF:∀ b∈fp,b<s.heap.objs.size:=λb hb=>let ⟨_,e⟩:=ho b hb; abh e
 have acp:∀ b,b≠X.env.locals->b ∉ X.fs->b ∉ frs X.stack:=λb h1 h2 hb=>by
   rcases abu.mp (I.Bh b hb) with e | e
   . exact h1 e
   . exact h2 e
 refine ⟨⟨I.ok.mod,S.kind,I.ok.glob,I.ok.blt,aaw _,λx y c h1 h2=>?_,λx hx=>?_,λx c hx h=>?_,I.ok.hd,I.ok.frames,.inl rfl,λb hb=>⟨?_,λx c h=>?_⟩,I.bs,adS I.ok.Uo I.sz,λb o e hb=>?_,λb hb=>?_,I.stack,I.vq⟩,
   rfl,I.bare,Un.kept kp,⟨λ_=>none,?_,λi x v e1 e2 _=>aco S hX I (λx c v _ hc=>hc.keeps kp) i x v e1 e2⟩,λx c h=>?_,I.hok.fresh (aaw _),λx c h=>?_,λp hp=>?_,I.hok.kept kp,?_⟩
 . rcases jY S hX I h1 with ⟨m1,l1,_⟩ | ⟨m1,_⟩ <;> rcases jY S hX I h2 with ⟨m2,l2,_⟩ | ⟨m2,_⟩
   . exact name_of_addr own1.apart m1 m2
   . exact absurd (ab4 (ltC _ _ m2) (amq l1)) (afM _)
   . exact absurd (ab4 (ltC _ _ m1) (amq l2)) (afM _)
   . exact I.ok.inj x y c m1 m2
 . have hx':(jX scope X.env.scope).names.lookup x=some .cell\/(jX scope X.env.scope).names.lookup x=some .free:=hx;rw [kindB] at hx';cases q:scope.names.lookup x with
   | none=>rw [q] at hx'; rcases hx' with z | z <;> cases z
   | some k =>
     rw [q] at hx';cases k with
     | free=>obtain ⟨c,_,e⟩:=Dw S hX I q; exact ⟨c,e⟩
     | cell =>
       obtain ⟨c,e⟩:=wC (sc:=scope) (n:=s.heap.objs.size+1) q;refine ⟨c,?_⟩;show (cellsFrom (s.heap.objs.size+1) scope.names (fj X.env scope.names [])).lookup x=some c;rw [dI,lookup_append,e]
     | _=>rcases hx' with z | z <;> cases z
 . have hx':(scope.names.lookup x == some .cell)=true:=hx;rcases jY S hX I h with ⟨_,l1,_⟩ | ⟨_,z⟩
   . show s.heap.objs.size<=c; omega
   . rw [z] at hx'; exact absurd hx' (by decide)
 . exact abB (ltF b hb)
 . rcases jY S hX I h with ⟨_,l1,_⟩ | ⟨z,_⟩
   . intro z; rw [z] at l1; exact absurd (ab4 (ltF b hb) (amq l1)) (afM _)
   . exact (hf b hb).2.2.2.2.1 x c z
 . rcases (hf b hb).2.2.2.1 with z | z
   . exact I.ok.KN b o e z
   . exact absurd (ab4 (ab4 (abh e) I.ok.Uo) z) (afM _)
 . exact acp b (hf b hb).2.1 (hf b hb).2.2.1
 . exact (Heap.Ns.new s.heap (.type "dict")).keeps (pushCells_keeps _ _)
 . rcases jY S hX I h with ⟨m1,_,_⟩ | ⟨z,_⟩
   . exact ⟨none,(own1.empty _ _ m1).1⟩
   . obtain ⟨v,q⟩:=I.cell x c z;exact ⟨v,q.keeps kp⟩
 . rcases jY S hX I h with ⟨_,l1,_⟩ | ⟨z,_⟩
   . exact I.hok.fresh (by omega)
   . exact I.jc x c z
 . have hp':p∈X.pn++pins:=by
     rcases abv.mp hp with z | z
     . exact z
     . exact nomatch z
   obtain ⟨e,n,ne,nf,d⟩:=I.pin p hp';exact ⟨kp _ _ e,n,abB (abh e),acp _ ne nf,d⟩
 . unfold Le;show (own.map (λ_=>(none:Option V))++ix.map λi=>(σ[i]?).getD none).length=(own++cap).length;have z:=congrArg afN S.ix;rw [aac,aac] at z;rw [aay,aay,aac,aac,z]
theorem Lf {gP scope:Scope} {own cap:List Str} {ix:List Nat} {fp:List aaH} {pl:List (aaH × Obj)} {σ':St} {H':Hp} {s':aav} (S:zc gP scope X.N own cap ix) (hX:X.env.scope=gP) (I:Inv X pins σ H s) (hf:∀ b∈fp,qz X pins H b)
   (J:Inv (blk X scope (own++cap) (yP X pins s H scope fp)) pl σ' H' s'):Inv (blk X scope (own++cap) (yP X pins s H scope fp)) pl (Le own ix σ) H' s':=by
 obtain ⟨m,hn,_⟩:=id J.loc;refine ⟨J.ok,J.os,J.bare,J.base,⟨m,hn,λi x v e1 e2 _=>aco S hX I (λx c v ec hc=>?_) i x v e1 e2⟩,J.cell,J.free,J.jc,J.pin,J.hok,?_⟩
 . obtain ⟨o,e,d⟩:=hc;obtain ⟨sl,e'⟩:=J.base.any e (I.jc x c ec) λhb=>(hf c hb).2.2.2.2.1 x c ec rfl
   exact ⟨_,e',d⟩
 . have z:=congrArg afN S.ix;rw [aac,aac] at z;show (Le own ix σ).length=(own++cap).length;unfold Le;rw [aay,aay,aac,aac,z]
theorem Vr {scope:Scope} {own cap:List Str} {fp:List aaH} {σ':St} {H':Hp} {s':aav} {h':afp} (I:Inv X pins σ H s) (hf:∀ b∈fp,qz X pins H b)
   (J:Inv (blk X scope (own++cap) (yP X pins s H scope fp)) [] σ' H' s') (hs:ag6 s.heap.objs.size s'.heap h'):Inv X pins σ H' { s' with heap:=h' }:=by
 have I1:Inv X pins σ H' s':=I.call' (ch:=fp) J.os J.base J.hok J.bare λb hb=>⟨(hf b hb).2.2.2.1,(hf b hb).2.1,(hf b hb).2.2.2.2.1,(hf b hb).2.2.2.2.2⟩
 have n1:s.heap.objs.size≠X.env.locals:=ajy I.lt;refine I1.turned (it:=s.heap.objs.size) (t':=s'.toks) (λb o hb e=>(hs.2 b hb).trans e) J.free n1 (.inr I.sz) (λx c e z=>?_) λp hp z=>?_
 . obtain ⟨v,o,e',_⟩:=I.cell x c e;exact absurd z (abB (abh e'))
 . exact absurd z (abB (abh (I.pin p hp).1))
end
noncomputable def PIf (X:Cx) (ifs:List Expr) (t:TT):Prop :=
 ∀ (pins:List (aaH × Obj)) (s:aav) (σ:St) (H:Hp) (Q:Bool->Hp->Prop),Inv X pins σ H s->t σ H Q ->
   wpAny (model X.prog X.w) X.A (forIn ifs true λc r=>if r=true then do let ok <- isTrue c X.env (eval c X.env); pure (ForInStep.yield ok) else pure (ForInStep.yield r)) (TP X pins σ Q) X.xe s
noncomputable def Vs:TT:=λ_ H Q=>Q true H
theorem cN {X:Cx}:PIf X [] Vs:=λ_ _ _ H _ I h=>wpAny_tests_nil ⟨H,I,h⟩
theorem vD {X:Cx} {c:Expr} {t:TT} (h:PT X c t):PIf X [c] t:=λpins s σ H Q I hq=>wpAny_tests_one (h pins s σ H Q I hq)
noncomputable def jL (J:It) (g:TG) (tt:TT) (act:St->Hp->(Hp->Prop)->Prop) (σ0:St) (End:Hp->Prop) (W:Nat->Nat->Hp->Prop):Prop :=
 ∀ i m H,W i m H->(J.stop i H/\End H)\/(J.go i H/\∀ x H',J.Ur i H x H'->g x σ0 H' fun σ2 H2=>tt σ2 H2 λb H3 =>
   if b=true then act σ2 H3 λH4=>∃ m',m'<m/\W (i+1) m' H4 else ∃ m',m'<m/\W (i+1) m' H3)
noncomputable def jT (D:aaH) (te:TE):St->Hp->(Hp->Prop)->Prop:=fun σ H R=>te σ H λy H4=>∃ zs,H4 D=some (.lst zs)/\zs.length<sizeLine/\R (upd H4 D (.lst (zs++[y])))
noncomputable def Pq (own:List Str) (ix:List Nat) (wi:TI) (g:BI->TG) (tt:BI->TT) (te:BI->TE):TE:=fun σ H Q=>wi σ H λJ H1=>∀ D,H1 D=none ->
 ∃ W:Nat->Nat->Hp->Prop,(∃ m,W 0 m (upd H1 D (.lst [])))/\∀ b,jL J (g b) (tt b) (jT D (te b)) (Le own ix σ) (λH'=>Q (.ref D) H') W
section
variable {X:Cx} {tg iter elt:Expr} {ifs:List Expr} {scope gP:Scope} {pos:Pos} {own cap:List Str} {ix:List Nat} {wi:TI} {g:BI->TG} {tt:BI->TT} {te:BI->TE}
theorem Lg {pins:List (aaH × Obj)} {σ:St} {H:Hp} {s:aav} {J:It} {fp:List aaH} {it D:aaH} {tn:Nat->afp->Prop} {End:Hp->Prop} {W:Nat->Nat->Hp->Prop} {m0:Nat} {s4:aav}
   (S:zc gP scope X.N own cap ix) (hX:X.env.scope=gP) (I:Inv X pins σ H s) (hf:∀ b∈fp,qz X pins H b) (hc:X.calm=true) (T:Turn X.prog X.w X.K tg J fp it tn)
   (hg:PG (blk X scope (own++cap) (yP X pins s H scope fp)) tg (g (yP X pins s H scope fp))) (ht:PIf (blk X scope (own++cap) (yP X pins s H scope fp)) ifs (tt (yP X pins s H scope fp)))
   (he:PE (blk X scope (own++cap) (yP X pins s H scope fp)) elt (te (yP X pins s H scope fp)))
   (hW:jL J (g (yP X pins s H scope fp)) (tt (yP X pins s H scope fp)) (jT D (te (yP X pins s H scope fp))) (Le own ix σ) End W)
   (I4:Inv (blk X scope (own++cap) (yP X pins s H scope fp)) [] (Le own ix σ) H s4) (st4:tn 0 s4.heap) (w0:W 0 m0 H) :
   codeAny (model X.prog X.w) X.A (.compLoop (.ListComp elt [⟨tg,iter,ifs,0⟩] scope pos) 0 (.ref it) (.ref D) (Gz scope (Vp X s scope) s.heap.objs.size X.env))
     (λr s'=>∃ H' σ',r=.ok .next/\Inv (blk X scope (own++cap) (yP X pins s H scope fp)) [] σ' H' s'/\End H') s4:=by
 have stat:∀ {H':Hp} {pl:List (aaH × Obj)},(∀ b∈fp,H' b=none)->(∀ p∈pl,p.1 ∉ fp)->∀ b∈fp,qz (blk X scope (own++cap) (yP X pins s H scope fp)) [] H' b:=λhn _ b hb=>by
   refine ⟨hn b hb,(I4.ok.exf b hb).1,I4.ok.KQ b hb,.inl hb,(I4.ok.exf b hb).2,λp hp=>?_⟩
   have hp':p∈X.pn++pins:=by
     rcases abv.mp hp with z | z
     . exact z
     . exact nomatch z
   exact (hf b hb).2.2.2.2.2 p hp'
 refine codeAny_loop rfl (λn s'=>∃ i H',Inv (blk X scope (own++cap) (yP X pins s H scope fp)) [] (Le own ix σ) H' s'/\tn i s'.heap/\(∀ b∈fp,H' b=none)/\W i n H') ?_ m0 ⟨0,H,I4,st4,λb hb=>(hf b hb).1,w0⟩;rintro n s3 ⟨i,H3,I3,st3,fr3,w3⟩;show wpAny _ X.A ((compTurn (.ListComp elt [⟨tg,iter,ifs,0⟩] scope pos) 0 (.ref it) (.ref D) (Gz scope (Vp X s scope) s.heap.objs.size X.env)).onRaise (λx=>do noteFrame x (Gz scope (Vp X s scope) s.heap.objs.size X.env); theTreesLotGoes x)) _ _ s3;refine wpAny_noted ?_;rw [compTurn_list];have st0:=stat (pl:=[]) fr3 (λ_ z=>nomatch z);rcases hW i n H3 w3 with ⟨stop,qe⟩ | ⟨go,step⟩
 . refine El (ajK (El (c7 (T.done (blk X scope (own++cap) (yP X pins s H scope fp)) rfl rfl rfl hc i [] s3 _ H3 _ I3 st0 st3 stop) λr s5 ⟨hr,I5⟩=>?_)));subst hr;exact aau ⟨H3,_,rfl,I5,qe⟩
 . refine El (ajK (El (c7 (T.item (blk X scope (own++cap) (yP X pins s H scope fp)) rfl rfl rfl hc i [] s3 _ H3 _ I3 st0 st3 go) λr s5 ⟨u,hr,h5⟩=>?_)));subst hr;refine El (c7 h5 λ_ s6 ⟨x,H6,I6,r6,y6,st6,fr6⟩=>?_);have I6':=I6.pinned (stat (pl:=[]) fr6 (λ_ z=>nomatch z)) (T.obj _ _ st6);refine El (afF (hg _ s6 _ H6 x u _ I6' r6 (step x H6 y6)) (λ_ s7 ⟨σ7,H7,I7,q7⟩=>?_) λ_ _ f=>f.elim);refine El (afF (ht _ s7 σ7 H7 _ I7 q7) (λok s8 ⟨H8,I8,q8⟩=>?_) λ_ _ f=>f.elim)
   have again:∀ {σ9:St} {H9:Hp} {s9:aav} {m':Nat},Inv (blk X scope (own++cap) (yP X pins s H scope fp)) ([]++wz fp s6.heap) σ9 H9 s9->m'<n->W (i+1) m' H9 ->
       ∃ m,m<n/\∃ i H',Inv (blk X scope (own++cap) (yP X pins s H scope fp)) [] (Le own ix σ) H' s9/\tn i s9.heap/\(∀ b∈fp,H' b=none)/\W i m H':=λ{σ9 H9 s9 m'} I9 hm w9=>by
     refine ⟨m',hm,i+1,H9,Lf S hX I hf I9.rK,T.keep _ _ _ st6 λb hb o e=>(I9.pin (b,o) (abN _ (abN _ (lQ hb e)))).1,λb hb=>?_,w9⟩;obtain ⟨o,e,d⟩:=T.obj _ _ st6 b hb;exact (I9.pin (b,o) (abN _ (abN _ (lQ hb e)))).2.1
   cases ok with
   | false =>
     obtain ⟨m',hm,w9⟩:=q8;exact aau ⟨rfl,again I8 hm w9⟩
   | true =>
     refine El (El (afF (he _ s8 σ7 H8 _ I8 q8) (λy s9 ⟨v,H9,I9,r9,zs,hD,hz,m',hm,w9⟩=>?_) λ_ _ f=>f.elim));refine El (afF (eX (X:=blk X scope (own++cap) (yP X pins s H scope fp)) _ s9 σ7 H9 (.ref D) [v] (.ref D) [y] (λ_ H'=>∃ m',m'<n/\W (i+1) m' H') I9 rfl (.cons r9 .nil) ⟨D,zs,v,rfl,rfl,hD,hz,m',hm,w9⟩) (λ_ s10 ⟨_,Yd,I10,_,m'',hm',w10⟩=>?_) λ_ _ f=>f.elim);exact aau (aau ⟨rfl,again I10 hm' w10⟩)
theorem wJ {pins:List (aaH × Obj)} {σ:St} {H:Hp} {s:aav} {Q:VK} {use:Option (aat->Sem Unit)} {Q':aat->aav->Prop} (hc:X.calm=true) (hX:X.env.scope=gP) (S:zc gP scope X.N own cap ix) (hi:PI X tg iter wi)
   (hg:∀ b,PG (blk X scope (own++cap) b) tg (g b)) (ht:∀ b,PIf (blk X scope (own++cap) b) ifs (tt b)) (he:∀ b,PE (blk X scope (own++cap) b) elt (te b))
   (hs:∀ x,foldedSetIterable iter X.env x=pure x) (I:Inv X pins σ H s) (h:Pq own ix wi g tt te σ H Q)
   (out:∀ (D C:aaH) (H':Hp) (s':aav),Q (.ref D) H'->(∃ m,s'.heap.Ns C m)->qz X pins H' C->(∀ h',ag6 C s'.heap h'->Inv X pins σ H' { s' with heap:=h' }) ->
     compPost (model X.prog X.w) X.A X.xe use Q' (.ref D) C (.ok .next) s') :
   wpAny (model X.prog X.w) X.A (comprehension (.ListComp elt [⟨tg,iter,ifs,0⟩] scope pos) scope X.env (firstIterPos [⟨tg,iter,ifs,0⟩] pos) (newList []) false (eval iter X.env) use) Q' X.xe s:=by
 have hclos:=za (scope:=scope) (env:=X.env) λy hy hk=>by
   have hf:=S.free y hy hk;rw [<- hX] at hf;exact I.ok.has y.1 hf
 refine wpAny_comprehension_free (use:=use) rfl hs hclos S.kind (λy hy hk=>by rw [S.nm y hy,hk]) (c7 (hi pins s σ H _ I h) λv s1 h1=>c7 h1 λitv s2 h2=>?_);obtain ⟨it,fp,tn,J,H2,e,I2,T,st2,f2,hR⟩:=h2;subst e;refine adH ?_;obtain ⟨W,⟨m0,w0⟩,hW⟩:=hR s2.heap.objs.size I2.fresh;have I3:Inv X pins σ (upd H2 s2.heap.objs.size (.lst [])) { s2 with heap:=s2.heap.push { cls:=.type "list",data:=.seq ([]:List aat).toArray } }:=I2.ace (t':=s2.toks) (its:=[]) .nil (abH _);have ltF:∀ b∈fp,b<s2.heap.objs.size:=λb hb=>let ⟨_,e,_⟩:=T.obj _ _ st2 b hb; abh e
 have f3:∀ b∈fp,qz X pins (upd H2 s2.heap.objs.size (.lst [])) b:=λb hb=>⟨by rw [aB (abB (ltF b hb))]; exact (f2 b hb).1,(f2 b hb).2⟩
 have st3:tn 0 (s2.heap.push { cls:=.type "list",data:=.seq ([]:List aat).toArray }):=T.keep _ _ _ st2 λb hb o e=>aar _ e
 generalize hs3:({ s2 with heap:=s2.heap.push { cls:=.type "list",data:=.seq ([]:List aat).toArray } }:aav)=s3 at I3;have acq:tn 0 s3.heap:=by rw [<- hs3]; exact st3
 have ob3:∀ b∈fp,∃ o,s3.heap.get? b=some o:=λb hb=>let ⟨o,e,_⟩:=T.obj _ _ acq b hb; ⟨o,e⟩
 have I4:=Vq S hX I3 f3 ob3;have st4:tn 0 (hpB s3 scope):=T.keep _ _ _ acq λb _ o e=>zU s3 scope b o e
 refine GC ?_;have loop:=Lg (iter:=iter) (pos:=pos) S hX I3 f3 hc T (hg _) (ht _) (he _) (hW _) I4 st4 w0
 have fin:codeAny (model X.prog X.w) X.A (.compLoop (.ListComp elt [⟨tg,iter,ifs,0⟩] scope pos) 0 (.ref it) (.ref s2.heap.objs.size) (Gz scope (Vp X s3 scope) s3.heap.objs.size X.env))
     (compPost (model X.prog X.w) X.A X.xe use Q' (.ref s2.heap.objs.size) s3.heap.objs.size) { s3 with heap:=hpB s3 scope }:=agq loop λr s' ⟨H',σ',hr,J',q⟩=>by
   subst hr;exact out _ _ H' s' q (let ⟨m,hn,_⟩:=J'.loc; ⟨m,hn⟩) (I3.Bl (aaw _) J'.free) λh' hh=>Vr I3 f3 J' hh
 exact codeAny_compStart_list fin (T.self _ 0 _ _ _ st4 fin)
theorem cD (hc:X.calm=true) (hX:X.env.scope=gP) (S:zc gP scope X.N own cap ix) (hi:PI X tg iter wi) (hg:∀ b,PG (blk X scope (own++cap) b) tg (g b)) (ht:∀ b,PIf (blk X scope (own++cap) b) ifs (tt b))
   (he:∀ b,PE (blk X scope (own++cap) b) elt (te b)) (hs:∀ x,foldedSetIterable iter X.env x=pure x:=by intro _; rfl) :
   PE X (.ListComp elt [⟨tg,iter,ifs,0⟩] scope pos) (Pq own ix wi g tt te):=by
 intro pins s σ H Q I h;rw [eval_ListComp];refine wJ (use:=none) hc hX S hi hg ht he hs I h λD C H' s' q hn _ hI=>?_
 obtain ⟨m,hn⟩:=hn;exact ⟨m,hn,λh' hh=>⟨.ref D,H',hI h' hh,rfl,q⟩⟩
theorem wK {i:Nat} {x:Str} {pos' spos:Pos} (hN:X.N.Nodup) (hx1:X.N[i]?=some x) (hx:X.env.scope.names.lookup x=some .local) (hc:X.calm=true) (hX:X.env.scope=gP) (S:zc gP scope X.N own cap ix) (hi:PI X tg iter wi)
   (hg:∀ b,PG (blk X scope (own++cap) b) tg (g b)) (ht:∀ b,PIf (blk X scope (own++cap) b) ifs (tt b)) (he:∀ b,PE (blk X scope (own++cap) b) elt (te b)) (hs:∀ x,foldedSetIterable iter X.env x=pure x:=by intro _; rfl)
   (hsw:swapsWith (.ListComp elt [⟨tg,iter,ifs,0⟩] scope pos) (some (.Name x pos')) spos.line X.env=pure true:=by rfl) :
   PS X (.Assign [.Name x pos'] (.ListComp elt [⟨tg,iter,ifs,0⟩] scope pos) spos) (u9 (Pq own ix wi g tt te) (iK i)):=by
 intro pins s σ H D I h;rw [exec_Assign_Name_used _ _ _ _ hsw];refine El (ajK (El ?_));show wpAny _ X.A (do let _ <- comprehension (.ListComp elt [⟨tg,iter,ifs,0⟩] scope pos) scope X.env _ (newList []) false (eval iter X.env) (some (assign (.Name x pos') X.env))) _ _ s;refine El (afF (wJ (use:=some (assign (.Name x pos') X.env)) (Q':=λ_ s'=>SP X pins D .next s') hc hX S hi hg ht he hs I h λD1 C H' s' q hn fC hI=>?_) (λ_ s' hq=>aau (aau hq)) λ_ _ e=>e);obtain ⟨m,hn⟩:=hn
 have I0:Inv X pins σ H' s':=by
   have z:=hI s'.heap (aoJ ..);exact z
 show wpAny _ X.A (assign (.Name x pos') X.env (.ref D1)) _ _ _;refine aow (zE I0 hN hx1 (.inl hx) (show RelV (.ref D1) (.ref D1) from rfl) (λs2 I2 ⟨a,sb,ha⟩=>?_) (.inr hx))
 have na:C≠a:=by
   rcases ha with e | e
   . rw [e]; exact fC.2.1
   . intro z; exact fC.2.2.2.2.1 x a e z.symm
 refine ⟨m,hn.sameBut sb na,λh' hh=>?_⟩;refine ⟨_,H',?_,q⟩;exact I2.turned (it:=C) (t':=s2.toks) (λb o hb e=>(hh.2 b hb).trans e) fC.1 fC.2.1 fC.2.2.2.1 fC.2.2.2.2.1 fC.2.2.2.2.2
end
noncomputable def Its (x:Str):It:=⟨λi _=>i<x.cps.size,λi H v H'=>H'=H/\∃ c,x.cps[i]?=some c/\v=.str ⟨#[c]⟩,λi _=>x.cps.size<=i⟩
theorem Lh {P:abt} {w:acU} {K:aaf} {tg:Expr} (it:aaH) (x:Str) (t:Tok):Turn P w K tg (Its x) [it] it (λi h=>h.IsStrIter it "str_ascii_iterator" x t i) where
 mem:=by simp
 obj:=λi h st b hb=>by
   have e:b=it:=by simpa using hb
   subst e;obtain ⟨o,e,c,d⟩:=st;exact ⟨o,e,λv z=>by rw [d] at z; cases z⟩
 keep:=λi h h' st k=>let ⟨o,e,r⟩:=st; ⟨o,k it (by simp) o e,r⟩
 item:=by
   intro X hP hw hK hc i pins s σ H E I hf st hg;subst hP hw hK;have hg':i<x.cps.size:=hg;obtain ⟨f0,f1,f2,f3,f4,f5⟩:=hf it (by simp);refine wpAny_pyNext_ascii_item st (c:=x.cps[i]) (by simp [hg']) λh' st' sb=>?_
   have I1:Inv X pins σ H { s with heap:=h',toks:=s.toks+1 }:=I.turned (λb o hb e=>(sb.2 b hb).trans e) f0 f1 f3 f4 f5;obtain ⟨o,e,c,d⟩:=id st';exact ⟨_,rfl,uJ (s:={ s with heap:=h',toks:=s.toks+1 }) e c d (by decide) ⟨.str ⟨#[x.cps[i]]⟩,H,I1,⟨_,rfl⟩,⟨rfl,_,by simp [hg'],rfl⟩,st',λb hb=>(hf b hb).1⟩⟩
 done:=by
   intro X hP hw hK hc i pins s σ H E I hf st hg;subst hP hw hK;have hg':x.cps.size<=i:=hg;obtain ⟨f0,f1,f2,f3,f4,f5⟩:=hf it (by simp);exact wpAny_pyNext_ascii_end (I.ok.hd hc) st (by simp [hg']) λh' eb=>⟨rfl,I.turned (t':=s.toks) (λb o hb e=>eb b o hb e) f0 f1 f3 f4 f5⟩
 self:=λ_ _ _ _ _ st h=>wpAny_pyIter_striter_ascii st h
theorem Li {P:abt} {w:acU} {K:aaf} {tg:Expr} (it:aaH) (x:Str) (t:Tok):Turn P w K tg (Its x) [it] it (λi h=>h.IsStrIter it "str_iterator" x t i) where
 mem:=by simp
 obj:=λi h st b hb=>by
   have e:b=it:=by simpa using hb
   subst e;obtain ⟨o,e,c,d⟩:=st;exact ⟨o,e,λv z=>by rw [d] at z; cases z⟩
 keep:=λi h h' st k=>let ⟨o,e,r⟩:=st; ⟨o,k it (by simp) o e,r⟩
 item:=by
   intro X hP hw hK hc i pins s σ H E I hf st hg;subst hP hw hK;have hg':i<x.cps.size:=hg;obtain ⟨f0,f1,f2,f3,f4,f5⟩:=hf it (by simp);refine wpAny_pyNext_wide_item st (c:=x.cps[i]) (by simp [hg']) λh' st' sb=>?_
   have I1:Inv X pins σ H { s with heap:=h',toks:=s.toks+1 }:=I.turned (λb o hb e=>(sb.2 b hb).trans e) f0 f1 f3 f4 f5;obtain ⟨o,e,c,d⟩:=id st';exact ⟨_,rfl,uJ (s:={ s with heap:=h',toks:=s.toks+1 }) e c d (by decide) ⟨.str ⟨#[x.cps[i]]⟩,H,I1,⟨_,rfl⟩,⟨rfl,_,by simp [hg'],rfl⟩,st',λb hb=>(hf b hb).1⟩⟩
 done:=by
   intro X hP hw hK hc i pins s σ H E I hf st hg;subst hP hw hK;have hg':x.cps.size<=i:=hg;obtain ⟨f0,f1,f2,f3,f4,f5⟩:=hf it (by simp);exact wpAny_pyNext_wide_end (I.ok.hd hc) st (by simp [hg']) λh' eb=>⟨rfl,I.turned (t':=s.toks) (λb o hb e=>eb b o hb e) f0 f1 f3 f4 f5⟩
 self:=λ_ _ _ _ _ st h=>wpAny_pyIter_striter_wide st h
noncomputable def agC (tl:TE):TI:=fun σ H R=>tl σ H λx H1=>∃ z,x=.str z/\R (Its z) H1
theorem Zt {X:Cx} {tg l:Expr} {tl:TE} (hl:PE X l tl):PI X tg l (agC tl):=by
 intro pins s σ H R I h;refine c7 (hl pins s σ H _ I h) λv s1 ⟨x,H1,I1,r1,q1⟩=>?_
 obtain ⟨z,e,q⟩:=q1;subst e;obtain ⟨t,rfl⟩:=r1
 have fp:∀ b∈[s1.heap.objs.size],qz X pins H1 b:=λb hb=>by
   have e:b=s1.heap.objs.size:=by simpa using hb
   subst e;exact I1.Bl (aaw _) (I1.hok.fresh (aaw _))
 cases ha:z.cps.all (·<128)
 . exact wpAny_pyIter_wide ha ⟨s1.heap.objs.size,[s1.heap.objs.size],_,_,H1,rfl,I1.kept (t':=s1.toks) λb o e=>aar _ e,Li _ z t,⟨_,aaL _ rfl,rfl,rfl⟩,fp,q⟩
 . exact wpAny_pyIter_ascii ha ⟨s1.heap.objs.size,[s1.heap.objs.size],_,_,H1,rfl,I1.kept (t':=s1.toks) λb o e=>aar _ e,Lh _ z t,⟨_,aaL _ rfl,rfl,rfl⟩,fp,q⟩
section
variable {X:Cx}
theorem Lj:gC X (compareOp .LtE) (λx y H Q=>∃ i j,x=.str i/\y=.str j/\Q (.bl (!decide (j.cps.toList<i.cps.toList))) H):=by
 intro pins s σ H x y v u Q I rx ry h;obtain ⟨i,j,rfl,rfl,q⟩:=h;obtain ⟨t,rfl⟩:=rx;obtain ⟨t',rfl⟩:=ry;exact PySem.P.le_str ⟨.bl _,H,I,rfl,q⟩
theorem Dy {v:aat} {o:Option Int} (p:anL v o):∃ l:Option (Int × Tok),v=partValue l/\l.map (·.1)=o:=by
 cases p with
 | none=>exact ⟨none,rfl,rfl⟩
 | int i t=>exact ⟨some (i,t),rfl,rfl⟩
theorem Zu:SlR X (λx lo hi H Q=>∃ z,x=.str z/\z.length<=sizeLine/\Q (.str (alM z lo hi)) H):=by
 intro pins s σ H x v vl vu lo hi sl Q I rx hs pl pu h;obtain ⟨z,rfl,hz,q⟩:=h;obtain ⟨t,rfl⟩:=rx;obtain ⟨l,e1,f1⟩:=Dy pl;obtain ⟨u,e2,f2⟩:=Dy pu;subst e1 e2 f1 f2;refine ⟨"str",_,F.slot_str_getitem.lookup,apk _ _ _,wpAny_getItem_str_slice (l:=l) (u:=u) (st:=none) hs rfl ?_⟩;exact post_val_or_str ⟨adS (Txt.slice_le z _ _) hz,λt' k=>⟨.str (alM z _ _),H,I.tok k,⟨t',rfl⟩,q⟩⟩
theorem rY:∀ {bs:List Bool} {us:List aat},Vals (bs.map V.bl) us->LSm.BoolsAre us bs:=by
 intro bs
 induction bs with
 | nil=>intro us r; rw [ane] at r; cases r; exact .nil
 | cons b bs ih =>
   intro us r;rw [abn] at r;cases r with
   | cons r1 r2 =>
     have e:_=ah7 b:=r1;subst e;exact .cons b (ih r2)
theorem rZ (hc:X.calm=true):dU X (.builtin "all") (λxs H Q=>∃ (p:aaH) (bs:List Bool),xs=[.ref p]/\cG X.K H p (bs.map V.bl)/\Q (.bl (bs.all id)) H):=by
 intro pins s σ H xs us Q I r h;obtain ⟨p,bs,rfl,hq,q⟩:=h;obtain ⟨u,rfl,ru⟩:=vals1 r;cases ru;obtain ⟨its,rv,pl,_⟩:=I.list hq;have hb:=rY rv;have hl:=pl.isList;have hlt:p<s.heap.objs.size:=by obtain ⟨_,e,_⟩:=hl; exact abh e
 refine call_all_walk (agI hl ?_)
 refine ⟨s.heap.objs.size,[s.heap.objs.size,p],[s.heap.objs.size],its.toArray.size,_,_,λi=>(bs[i]?).getD true,rfl,anB (A:=X.A.in1) (I.ok.hd hc) _ p (abB hlt) its.toArray,
   ⟨⟨_,aaL _ rfl,rfl,rfl⟩,hl.push _⟩,λi v s' Q' E' hP hQ=>?_,λh' tk hk=>?_⟩
 . obtain ⟨b,e,rfl⟩:=hb.get i v (by simpa using hP);simp only [e,Option.getD_some] at hQ;exact aeQ hQ
 . have e:((acF its.toArray.size).all λi=>(bs[i]?).getD true)=bs.all id:=by
     rw [abm,hb.length]; exact LSm.range_all bs
   rw [e];exact ⟨.bl _,H,I.kept (aoi hk),rfl,q⟩
theorem jZ:dU X (.builtin "isinstance") (λxs H Q=>∃ x n t b,xs=[x,.ty n]/\jd X.K H x t/\abf X.K t (.type n)=some b/\Q (.bl b) H):=by
 intro pins s σ H xs us Q I r h;obtain ⟨x,n,t,b,rfl,ty,e,q⟩:=h;obtain ⟨u,w',rfl,rx,ry⟩:=vals2 r;have ry':w'=afE n:=ry;subst ry';exact K5 I rx ty e λtk=>⟨.bl b,H,I.tok tk,rfl,q⟩
mutual
inductive Dp (K:aaf) (H:Hp):V->ajb->Prop
 | non:Dp K H .non .none
 | bl (b:Bool):Dp K H (.bl b) (.bool b)
 | int (i:Int):Dp K H (.int i) (.int i)
 | str (x:Str):Dp K H (.str x) (.str x)
 | lst {a:aaH} {xs:List V} {ds:List ajb}:cG K H a xs->Oi K H xs ds->Dp K H (.ref a) (.list ds)
 | tup {a:aaH} {xs:List V} {ds:List ajb}:bQ K H a xs->Oi K H xs ds->Dp K H (.ref a) (.tuple ds)
inductive Oi (K:aaf) (H:Hp):List V->List ajb->Prop
 | nil:Oi K H [] []
 | cons {x:V} {xs:List V} {d:ajb} {ds:List ajb}:Dp K H x d->Oi K H xs ds->Oi K H (x :: xs) (d :: ds)
end
mutual
theorem Dp.reads {pins:List (aaH × Obj)} {σ:St} {H:Hp} {s:aav} (I:Inv X pins σ H s):∀ {x:V} {d:ajb} {u:aat},Dp X.K H x d->RelV x u->∃ as,Reads s.heap u d as
 | _,_,_,.non,r=>by cases (show _=acS from r); exact ⟨_,.none⟩
 | _,_,_,.bl b,r=>by cases (show _=ah7 b from r); exact ⟨_,.bool b⟩
 | _,_,_,.int i,r=>by obtain ⟨t,rfl⟩:=(show ∃ t,_=abW i t from r); exact ⟨_,.int i t⟩
 | _,_,_,.str x,r=>by obtain ⟨t,rfl⟩:=(show ∃ t,_=aml x t from r); exact ⟨_,.str x t⟩
 | _,_,_,.lst (a:=a) hq h,r=>by
   cases (show _=abA a from r);obtain ⟨its,rv,pl,_⟩:=I.list hq;obtain ⟨as,q⟩:=Oi.reads I h rv;obtain ⟨o,ho,hc,n,hd⟩:=pl.isList;exact ⟨_,.list ho hc hd (by simpa using q)⟩
 | _,_,_,.tup (a:=a) hq h,r=>by
   cases (show _=abA a from r);obtain ⟨its,rv,pl,_⟩:=I.tuple hq;obtain ⟨as,q⟩:=Oi.reads I h rv;obtain ⟨o,ho,hc,n,hd⟩:=pl;exact ⟨_,.tuple ho hc hd (by simpa using q)⟩
theorem Oi.reads {pins:List (aaH × Obj)} {σ:St} {H:Hp} {s:aav} (I:Inv X pins σ H s):∀ {xs:List V} {ds:List ajb} {us:List aat},Oi X.K H xs ds->Vals xs us->∃ as,ReadsAll s.heap us ds as
 | _,_,_,.nil,r=>by cases r; exact ⟨_,.nil⟩
 | _,_,_,.cons h1 h2,r=>by
   cases r with
   | cons r1 r2 =>
     obtain ⟨as,q1⟩:=Dp.reads I h1 r1;obtain ⟨bs,q2⟩:=Oi.reads I h2 r2;exact ⟨_,.cons q1 q2⟩
end
noncomputable def agD (K:aaf):R2:=λx y H Q=>∃ d e,Dp K H x d/\Dp K H y e/\aiu d=true/\aiu e=true/\Q (.bl (ahH d e)) H
noncomputable def acr (K:aaf):R2:=λx y H Q=>∃ d e,Dp K H x d/\Dp K H y e/\aiu d=true/\aiu e=true/\Q (.bl (!PyData.eqv d e)) H
theorem Zv (hu:X.A.units+64<cLine):gC X (compareOp .Eq) (agD X.K):=by
 intro pins s σ H x y v u Q I rx ry h;obtain ⟨d,e,hd,he,sd,se,q⟩:=h;obtain ⟨as,ra⟩:=hd.reads I rx;obtain ⟨bs,rb⟩:=he.reads I ry;exact eq_dataH ra rb sd se hu ⟨.bl _,H,I,rfl,q⟩
theorem Bt (hu:X.A.units+64<cLine):gC X (compareOp .NotEq) (acr X.K):=by
 intro pins s σ H x y v u Q I rx ry h;obtain ⟨d,e,hd,he,sd,se,q⟩:=h;obtain ⟨as,ra⟩:=hd.reads I rx;obtain ⟨bs,rb⟩:=he.reads I ry;exact ne_dataH ra rb sd se hu ⟨.bl _,H,I,rfl,q⟩
end
end L2
namespace L2
open PySem PySem.Spec PyProof.Rows
section
variable {X:Cx} {a b c:Expr} {ta tb tc:TE} {pos:Pos}
noncomputable def tV (i:Nat):TE:=fun σ H Q=>match σ[i]? with
 | some (some v)=>Q v H
 | _=>False
theorem pV (i:Nat) {x:Str} {pos:Pos} (hN:X.N[i]?=some x:=by rfl) (hv:Vis X.env.scope x:=by first | exact afO rfl | exact aps (afO rfl) | exact aps (aps rfl)) (hd:(x == ("__debug__" : Str))=false:=by decide)
   (hcd:(x == ("__classdict__" : Str))=false:=by decide):PE X (.Name x pos) (tV i):=by
 intro pins s σ H Q I h;refine YS hN hv hd hcd pins s σ H Q I ?_;unfold tV at h;cases e:σ[i]? with
 | none=>rw [e] at h; exact h.elim
 | some o =>
   rw [e] at h;cases o with
   | none=>exact h.elim
   | some v=>exact ⟨v,e,h⟩
noncomputable def fI (g:Int->Int->V):R2:=λx y H Q=>match x,y with
 | .int i,.int j=>Q (g i j) H
 | _,_=>False
noncomputable def Oj (C:Int->Int->Prop) (g:Int->Int->V):R2:=λx y H Q=>match x,y with
 | .int i,.int j=>C i j/\Q (g i j) H
 | _,_=>False
theorem gC.fI {f:aat->aat->Sem aat} {g:Int->Int->V} (h:gC X f (OJ g)):gC X f (fI g):=by
 intro pins s σ H x y v u Q I rx ry q;refine h pins s σ H x y v u Q I rx ry ?_;cases x <;> cases y <;> first | exact ⟨_,_,rfl,rfl,q⟩ | exact (show False from q).elim
theorem gC.Oj {f:aat->aat->Sem aat} {C:Int->Int->Prop} {g:Int->Int->V} (h:gC X f (rI C g)):gC X f (Oj C g):=by
 intro pins s σ H x y v u Q I rx ry q;refine h pins s σ H x y v u Q I rx ry ?_;cases x <;> cases y <;> first | exact ⟨_,_,rfl,rfl,q.1,q.2⟩ | exact (show False from q).elim
theorem iT:gC X (binaryOp .Add) (fI λi j=>.int (i+j)):=Y6.fI
theorem Pr:gC X (binaryOp .Sub) (fI λi j=>.int (i-j)):=Y7.fI
theorem Zw:gC X (binaryOp .Mult) (Oj Ve λi j=>.int (i * j)):=Y8.Oj
theorem oMod:gC X (binaryOp .Mod) (Oj (λ_ j=>0<j) λi j=>.int (i % j)):=Y9.Oj
noncomputable def Ye (_ j:Int):Prop:=0<j/\j<4611686018427387904
theorem Pu:gC X (binaryOp .FloorDiv) (rI Ye λi j=>.int (i / j)):=opI λi j _ _ _ _ _ hc q=>by
 have h1:(0:Int)<j:=hc.1;have h2:j<4611686018427387904:=hc.2;refine floordiv_int (by omega) (by rw [alZ i (by omega)]; exact q) (.inl (PyProof.noPylong_of_log2 ?_));have h3:j.natAbs≠0:=by omega
 have h4:j.natAbs<2 ^ 62:=by omega
 have:=(Nat.log2_lt h3).mpr h4;omega
theorem oDiv:gC X (binaryOp .FloorDiv) (Oj Ye λi j=>.int (i / j)):=Pu.Oj
theorem Lk:gC X (binaryOp .Pow) (Oj abY λi j=>.int (i ^ j.toNat)):=Za.Oj
theorem oLt:gC X (compareOp .Lt) (fI λi j=>.bl (decide (i<j))):=ab0.fI
theorem oLe:gC X (compareOp .LtE) (fI λi j=>.bl (decide (i<=j))):=ab1.fI
theorem oGt:gC X (compareOp .Gt) (fI λi j=>.bl (decide (j<i))):=ab2.fI
theorem oGe:gC X (compareOp .GtE) (fI λi j=>.bl (decide (j<=i))):=ab3.fI
theorem Zx:gC X (compareOp .Eq) (OJ λi j=>.bl (decide (i=j))):=K3 λ_ _ _ _ _ _ _ q=>eq_int (by rw [ang]; exact q)
theorem Zy:gC X (compareOp .NotEq) (OJ λi j=>.bl (!decide (i=j))):=K3 λ_ _ _ _ _ _ _ q=>ne_int (by rw [bne,ang]; exact q)
theorem oEq:gC X (compareOp .Eq) (fI λi j=>.bl (decide (i=j))):=Zx.fI
theorem oNe:gC X (compareOp .NotEq) (fI λi j=>.bl (!decide (i=j))):=Zy.fI
theorem Zz:UnR X (unaryOp .USub) (λx H Q=>match x with | .int i=>Q (.int (-i)) H | _=>False):=by
 intro pins s σ H x v Q I rx h;cases x with
 | int i=>obtain ⟨t,rfl⟩:=rx; exact neg_int ⟨.int (-i),H,I.tok _,⟨_,rfl⟩,h⟩
 | _=>exact (show False from h).elim
noncomputable def fS (g:Str->Str->V):R2:=λx y H Q=>match x,y with
 | .str i,.str j=>Q (g i j) H
 | _,_=>False
theorem acs:gC X (compareOp .LtE) (fS λi j=>.bl (!decide (j.cps.toList<i.cps.toList))):=by
 intro pins s σ H x y v u Q I rx ry q;refine Lj pins s σ H x y v u Q I rx ry ?_;cases x <;> cases y <;> first | exact ⟨_,_,rfl,rfl,q⟩ | exact (show False from q).elim
noncomputable def agE:R2:=λx y H Q=>match x,y with
 | .str i,.str j=>i.length+j.length<=sizeLine/\Q (.str (i++j)) H
 | _,_=>False
theorem Vt:gC X (binaryOp .Add) agE:=by
 intro pins s σ H x y v u Q I rx ry q;refine Gi pins s σ H x y v u Q I rx ry ?_;cases x <;> cases y <;> first | exact ⟨_,_,rfl,rfl,q.1,q.2⟩ | exact (show False from q).elim
noncomputable def bF (Q:Bool->Hp->Prop):VK:=λx H=>match x with
 | .bl k=>Q k H
 | _=>False
noncomputable def tF (t:TE):TT:=fun σ H Q=>t σ H (bF Q)
theorem Yg {Q:Bool->Hp->Prop} {x:V} {H:Hp} (h:bF Q x H):∃ k,x=.bl k/\Q k H:=by
 cases x with
 | bl k=>exact ⟨k,rfl,h⟩
 | _=>exact (show False from h).elim
theorem mO {op:apq} {r:R2} (ho:gC X (compareOp op) r) (ha:PE X a ta) (hb:PE X b tb) (hm:behindInMarks op b=false):PT X (.Compare a [op] [b] pos) (tF (Ut r ta tb)):=by
 intro pins s σ H Q I h
 refine am8 (c7 (ha pins s σ H _ I h) λv s1 ⟨x,H1,I1,r1,q1⟩=>c7 (hb pins s1 σ H1 _ I1 q1) λu s2 ⟨y,H2,I2,r2,q2⟩ =>
   c7 (ho pins s2 σ H2 x y v u _ I2 r1 r2 q2) λc s3 ⟨z,H3,I3,r3,q3⟩=>?_) hm
 obtain ⟨k,e,q⟩:=Yg q3;subst e;cases r3;exact aeQ ⟨H3,I3,q⟩
theorem sZ {e:Expr} {t:TE} (h:PE X e t) (he:∀ whole,isTrue e X.env whole=(do let v <- whole; standAt e.pos; holding [v] (truthy v)):=by intro _; rfl):PT X e (tF t):=by
 intro pins s σ H Q I hw;refine isTrue_plain (c7 (h pins s σ H _ I hw) λv s1 ⟨x,H1,I1,r1,q1⟩=>?_) (he _);obtain ⟨d,rfl,q⟩:=Yg q1;cases r1;exact aeQ ⟨H1,I1,q⟩
noncomputable def acu (r r':R2) (ta tb tc:TE):TE:=fun σ H Q=>ta σ H λx H1=>tb σ H1 λy H2=>r x y H2 (bF λk H3=>if k=true then tc σ H3 λw' H4=>r' y w' H4 Q else Q (.bl false) H3)
theorem agF {op op':apq} {r r':R2} (ho:gC X (compareOp op) r) (ho':gC X (compareOp op') r') (ha:PE X a ta) (hb:PE X b tb) (hc:PE X c tc)
   (hm:lastMarks [op,op'] [b,c]=false:=by with_unfolding_all rfl):PE X (.Compare a [op,op'] [b,c] pos) (acu r r' ta tb tc):=by
 intro pins s σ H Q I h
 refine Compare_chain (c7 (ha pins s σ H _ I h) λv s1 ⟨x,H1,I1,r1,q1⟩=>chain_link (c7 (hb pins s1 σ H1 _ I1 q1) λu s2 ⟨y,H2,I2,r2,q2⟩ =>
   c7 (ho pins s2 σ H2 x y v u _ I2 r1 r2 q2) λd s3 ⟨z,H3,I3,r3,q3⟩=>?_)) hm
 obtain ⟨k,e,q3⟩:=Yg q3;subst e;cases r3;refine aeQ ?_;cases k with
 | false=>exact ite_ff ⟨.bl false,H3,I3,rfl,q3⟩
 | true=>exact ite_tt (chain_last (c7 (hc pins s3 σ H3 _ I3 q3) λw' s4 ⟨z',H4,I4,r4,q4⟩=>ho' pins s4 σ H4 y z' u w' Q I4 r2 r4 q4))
theorem ZC {op op':apq} {r r':R2} (ho:gC X (compareOp op) r) (ho':gC X (compareOp op') r') (ha:PE X a ta) (hb:PE X b tb) (hc:PE X c tc)
   (hm:lastMarks [op,op'] [b,c]=false:=by with_unfolding_all rfl):PT X (.Compare a [op,op'] [b,c] pos) (tF (acu r r' ta tb tc)):=by
 intro pins s σ H Q I h
 refine isTrue_chain (c7 (ha pins s σ H _ I h) λv s1 ⟨x,H1,I1,r1,q1⟩=>test_link (c7 (hb pins s1 σ H1 _ I1 q1) λu s2 ⟨y,H2,I2,r2,q2⟩ =>
   c7 (ho pins s2 σ H2 x y v u _ I2 r1 r2 q2) λd s3 ⟨z,H3,I3,r3,q3⟩=>?_)) hm
 obtain ⟨k,e,q3⟩:=Yg q3;subst e;cases r3;refine aeQ ?_;cases k with
 | false=>exact ite_ff ⟨H3,I3,q3⟩
 | true =>
   refine ite_tt (test_last (c7 (hc pins s3 σ H3 _ I3 q3) λw' s4 ⟨z',H4,I4,r4,q4⟩=>c7 (ho' pins s4 σ H4 y z' u w' _ I4 r2 r4 q4) λd' s5 ⟨z2,H5,I5,r5,q5⟩=>?_));obtain ⟨k2,e2,q5⟩:=Yg q5;subst e2;cases r5;exact aeQ ⟨H5,I5,q5⟩
variable {rest:List Expr}
noncomputable def acv (ta tb:TE):TE:=fun σ H Q=>ta σ H (bF λc H1=>if c=true then tb σ H1 Q else Q (.bl false) H1)
noncomputable def agG (ta tb:TE):TE:=fun σ H Q=>ta σ H (bF λc H1=>if c=true then Q (.bl true) H1 else tb σ H1 Q)
noncomputable def acw (ta:TE):TE:=fun σ H Q=>ta σ H (bF λc H1=>Q (.bl (!c)) H1)
theorem nG (ha:PE X a ta) (hb:PE X (.BoolOp .And (b :: rest) pos) tb):PE X (.BoolOp .And (a :: b :: rest) pos) (acv ta tb):=by
 intro pins s σ H Q I h;refine BoolOp_and (c7 (ha pins s σ H _ I h) λv s1 ⟨x,H1,I1,r1,q1⟩=>?_);obtain ⟨c,rfl,q1⟩:=Yg q1;cases r1;refine aeQ ?_;cases c with
 | true=>exact hb pins s1 σ H1 Q I1 q1
 | false=>exact ⟨.bl false,H1,I1,rfl,q1⟩
theorem agH (ha:PE X a ta) (hb:PE X (.BoolOp .Or (b :: rest) pos) tb):PE X (.BoolOp .Or (a :: b :: rest) pos) (agG ta tb):=by
 intro pins s σ H Q I h;refine BoolOp_or (c7 (ha pins s σ H _ I h) λv s1 ⟨x,H1,I1,r1,q1⟩=>?_);obtain ⟨c,rfl,q1⟩:=Yg q1;cases r1;refine aeQ ?_;cases c with
 | false=>exact hb pins s1 σ H1 Q I1 q1
 | true=>exact ⟨.bl true,H1,I1,rfl,q1⟩
theorem acy (ha:PE X a ta):PE X (.UnaryOp .Not a pos) (acw ta):=by
 intro pins s σ H Q I h;refine UnaryOp_ (c7 (ha pins s σ H _ I h) λv s1 ⟨x,H1,I1,r1,q1⟩=>?_);obtain ⟨c,rfl,q1⟩:=Yg q1;cases r1;exact not_of (aeQ ⟨.bl (!c),H1,I1,rfl,q1⟩)
end
noncomputable def Nx (n i:Nat) (Pv:Nat->Hp->Prop) (H:Hp):Prop:=∃ m',m'<n-i/\(m'=n-(i+1)/\i+1<=n/\Pv (i+1) H)
theorem nx {n i:Nat} {Pv:Nat->Hp->Prop} {H:Hp} (hi:i<n) (h:Pv (i+1) H):Nx n i Pv H:=⟨n-(i+1),by omega,rfl,hi,h⟩
section
variable {g:BI->TG} {tt:BI->TT} {te:BI->TE} {σ0:St} {D:aaH} {End:Hp->Prop} {H1:Hp}
theorem pH {J:It} (n:Nat) (Pv:Nat->Hp->Prop) (h0:Pv 0 (upd H1 D (.lst []))) (stop:∀ H,Pv n H->J.stop n H/\End H)
   (turn:∀ i H,i<n->Pv i H->J.go i H/\∀ x H',J.Ur i H x H'->∀ b,g b x σ0 H' fun σ2 H2=>tt b σ2 H2 λc H3=>if c=true then jT D (te b) σ2 H3 (Nx n i Pv) else Nx n i Pv H3) :
   ∃ W:Nat->Nat->Hp->Prop,(∃ m,W 0 m (upd H1 D (.lst [])))/\∀ b,jL J (g b) (tt b) (jT D (te b)) σ0 End W:=by
 refine ⟨λi m H=>m=n-i/\i<=n/\Pv i H,⟨n,rfl,abH _,h0⟩,λb i m H ⟨hm,hi,p⟩=>?_⟩;subst hm;by_cases hlt:i<n
 . exact .inr ⟨(turn i H hlt p).1,λx H' y=>(turn i H hlt p).2 x H' y b⟩
 . have e:i=n:=by omega
   subst e;exact .inl (stop H p)
theorem Px {z:Str} (Pv:Nat->Hp->Prop) (h0:Pv 0 (upd H1 D (.lst []))) (stop:∀ H,Pv z.cps.size H->End H)
   (turn:∀ i c H,z.cps[i]?=some c->i<z.cps.size->Pv i H->∀ b,g b (.str ⟨#[c]⟩) σ0 H fun σ2 H2=>tt b σ2 H2 λc H3=>if c=true then jT D (te b) σ2 H3 (Nx z.cps.size i Pv) else Nx z.cps.size i Pv H3) :
   ∃ W:Nat->Nat->Hp->Prop,(∃ m,W 0 m (upd H1 D (.lst [])))/\∀ b,jL (Its z) (g b) (tt b) (jT D (te b)) σ0 End W :=
 pH z.cps.size Pv h0 (λH p=>⟨aaw _,stop H p⟩) λi H hi p=>⟨hi,λx H' ⟨e,c,hc,hx⟩ b=>by subst e hx; exact turn i c _ hc hi p b⟩
theorem tM {K:aaf} {a:aaH} {xs:List V} (Pv:Nat->Hp->Prop) (h0:Pv 0 (upd H1 D (.lst []))) (hl:∀ i H,i<=xs.length->Pv i H->cG K H a xs) (stop:∀ H,Pv xs.length H->End H)
   (turn:∀ i x H,xs[i]?=some x->i<xs.length->Pv i H->∀ b,g b x σ0 H fun σ2 H2=>tt b σ2 H2 λc H3=>if c=true then jT D (te b) σ2 H3 (Nx xs.length i Pv) else Nx xs.length i Pv H3) :
   ∃ W:Nat->Nat->Hp->Prop,(∃ m,W 0 m (upd H1 D (.lst [])))/\∀ b,jL (Us K a) (g b) (tt b) (jT D (te b)) σ0 End W :=
 pH xs.length Pv h0 (λH p=>⟨⟨xs,hl _ H (aaw _) p,aaw _⟩,stop H p⟩) λi H hi p =>
   ⟨⟨xs,xs[i],hl i H (af3 hi) p,by simp [hi]⟩,λx H' ⟨e,y⟩ b=>by subst e; exact turn i x _ (y xs (hl i _ (af3 hi) p)) hi p b⟩
theorem wL {K:aaf} {a:aaH} {xs:List V} (Pv:Nat->Hp->Prop) (h0:Pv 0 (upd H1 D (.lst []))) (hl:∀ i H,i<=xs.length->Pv i H->bQ K H a xs) (stop:∀ H,Pv xs.length H->End H)
   (turn:∀ i x H,xs[i]?=some x->i<xs.length->Pv i H->∀ b,g b x σ0 H fun σ2 H2=>tt b σ2 H2 λc H3=>if c=true then jT D (te b) σ2 H3 (Nx xs.length i Pv) else Nx xs.length i Pv H3) :
   ∃ W:Nat->Nat->Hp->Prop,(∃ m,W 0 m (upd H1 D (.lst [])))/\∀ b,jL (Vd K a) (g b) (tt b) (jT D (te b)) σ0 End W :=
 pH xs.length Pv h0 (λH p=>⟨⟨xs,hl _ H (aaw _) p,aaw _⟩,stop H p⟩) λi H hi p =>
   ⟨⟨xs,xs[i],hl i H (af3 hi) p,by simp [hi]⟩,λx H' ⟨e,y⟩ b=>by subst e; exact turn i x _ (y xs (hl i _ (af3 hi) p)) hi p b⟩
theorem qX {lo:Int} {n:Nat} (Pv:Nat->Hp->Prop) (h0:Pv 0 (upd H1 D (.lst []))) (stop:∀ H,Pv n H->End H)
   (turn:∀ i H,i<n->Pv i H->∀ b,g b (.int (lo+i)) σ0 H fun σ2 H2=>tt b σ2 H2 λc H3=>if c=true then jT D (te b) σ2 H3 (Nx n i Pv) else Nx n i Pv H3) :
   ∃ W:Nat->Nat->Hp->Prop,(∃ m,W 0 m (upd H1 D (.lst [])))/\∀ b,jL (Y4 lo n) (g b) (tt b) (jT D (te b)) σ0 End W :=
 pH n Pv h0 (λH p=>⟨aaw _,stop H p⟩) λi H hi p=>⟨hi,λx H' ⟨e,hx⟩ b=>by subst e hx; exact turn i _ hi p b⟩
end
structure dX (H1 H:Hp) (D:aaH) (ys:List V):Prop where
 at':H D=some (.lst ys)
 same:Same H1 H
theorem dX.start {H1:Hp} {D:aaH} (h:H1 D=none):dX H1 (upd H1 D (.lst [])) D []:=⟨au,λb o e=>by rw [aB (aH e h)]; exact e⟩
theorem dX.put {H1 H:Hp} {D:aaH} {ys:List V} (h:H1 D=none) (G:dX H1 H D ys) (y:V):dX H1 (upd H D (.lst (ys++[y]))) D (ys++[y]):=⟨au,λb o e=>by rw [aB (aH e h)]; exact G.same b o e⟩
theorem Same.upd {H H1:Hp} {p:aaH} {o:HO} (s:Same H H1) (h:H1 p=none):Same H (upd H1 p o):=λb u e=>by rw [aB (aH (s b u e) h)]; exact s b u e
theorem Same.tup {K:aaf} {H H':Hp} {a:aaH} {xs:List V} (e:Same H H') (h:bQ K H a xs):bQ K H' a xs:=by
 rcases h with (h | ⟨o,h⟩) | h
 . exact .inl (.inl (e _ _ h))
 . exact .inl (.inr ⟨o,e _ _ h⟩)
 . exact .inr h
noncomputable def Bu (T n:String):Bool:=T == n || (T == "bool" && n == "int")
theorem Bv {K:aaf} {H:Hp} {x:V} {T:String} (h:jd K H x (.type T)):abf K (.type T) (.type "int")=some (Bu T "int")/\abf K (.type T) (.type "bool")=some (Bu T "bool")/\abf K (.type T) (.type "str")=some (Bu T "str")/\abf K (.type T) (.type "tuple")=some (Bu T "tuple"):=by
 cases h <;> exact ⟨rfl,rfl,rfl,rfl⟩
section
variable {X:Cx} {a b:Expr} {tA Uq:TT} {rest:List Expr} {pos:Pos}
theorem mY (ha:PT X a tA) (hb:PW X (.BoolOp .Or (b :: rest) pos) Uq):PT X (.BoolOp .Or (a :: b :: rest) pos) (tOr tA Uq):=(pw_or ha hb).pt
theorem uP (ha:PT X a tA) (hb:PW X (.BoolOp .And (b :: rest) pos) Uq):PT X (.BoolOp .And (a :: b :: rest) pos) (abR tA Uq):=(pw_and ha hb).pt
end
theorem lt1 {a b:Nat}:([a]<[b])↔a<b:=by simp [List.cons_lt_cons_iff]
theorem Py {α β:Type} {f:α->β} {l:List α} {i:Nat} {c:α} (h:l[i]?=some c):(l.take (i+1)).map f=(l.take i).map f++[f c]:=by
 rw [abz,h,abp]; rfl
theorem take_all {α β:Type} {f:α->β} {l:List α} {n:Nat} (h:l.length<=n):(l.take n).map f=l.map f:=by rw [adT h]
theorem Dz {α β:Type} {f:α->β} {l:List α} {i m:Nat} (h:i<m) (hm:m<=sizeLine):((l.take i).map f).length<sizeLine:=by
 rw [aac,abI]; omega
theorem Vu {z:Str} {i c:Nat} (h:z.cps[i]?=some c):z.cps.toList[i]?=some c:=by simpa using h
noncomputable def aY (p:aaH) (H H':Hp):Prop:=∀ b o,b≠p->H b=some o->H' b=some o
theorem aY.of {p:aaH} {H H':Hp} (s:Same H H'):aY p H H':=λb o _ e=>s b o e
theorem aY.trans {p:aaH} {H H1 H2:Hp} (a:aY p H H1) (b:aY p H1 H2):aY p H H2:=λc o n e=>b c o n (a c o n e)
theorem aY.upd {p:aaH} {H H1:Hp} {o:HO} (a:aY p H H1):aY p H (upd H1 p o):=λc u n e=>by rw [aB n]; exact a c u n e
theorem aY.new {p q:aaH} {H H1:Hp} {o:HO} (a:aY p H H1) (h:H1 q=none):aY p H (L2.upd H1 q o):=λc u n e=>by rw [aB (aH (a c u n e) h)]; exact a c u n e
structure IxA (K:aaf) (x y:V) (H:Hp) (Q:VK):Prop where
 h:ab7 K x y H Q
theorem Ln {X:Cx}:X8 X (IxA X.K):=λa b pins s σ H x y v u Q I rx ry h hs=>Vk a b pins s σ H x y v u Q I rx ry h.h hs
theorem sy {K:aaf} {H:Hp} {p:aaH} {xs:List V} {i:Int} {v:V} {Q:VK} (h:H p=some (.lst xs)) (e:zO xs i=some v) (q:Q v H):IxA K (.ref p) (.int i) H Q:=⟨p,xs,i,v,rfl,rfl,cG.of h,e,q⟩
theorem acz {K:aaf} {H:Hp} {p:aaH} {xs:List V} {i:Int} {v:V} {Q:VK} (h:cG K H p xs) (e:zO xs i=some v) (q:Q v H):IxA K (.ref p) (.int i) H Q:=⟨p,xs,i,v,rfl,rfl,h,e,q⟩
structure IxT (K:aaf) (x y:V) (H:Hp) (Q:VK):Prop where
 h:ab8 K x y H Q
theorem dM {X:Cx}:X8 X (IxT X.K):=λa b pins s σ H x y v u Q I rx ry h hs=>Zh a b pins s σ H x y v u Q I rx ry h.h hs
theorem cg {K:aaf} {H:Hp} {p:aaH} {xs:List V} {i:Int} {v:V} {Q:VK} (h:bQ K H p xs) (e:zO xs i=some v) (q:Q v H):IxT K (.ref p) (.int i) H Q:=⟨p,xs,i,v,rfl,rfl,h,e,q⟩
structure IxS (x y:V) (H:Hp) (Q:VK):Prop where
 h:ab9 x y H Q
theorem Vv {X:Cx}:X8 X IxS:=λa b pins s σ H x y v u Q I rx ry h hs=>Zi a b pins s σ H x y v u Q I rx ry h.h hs
theorem Jy {H:Hp} {z:Str} {i:Int} {c:Nat} {Q:VK} (hz:z.length<=sizeLine) (e:zO z.cps.toList i=some c) (q:Q (.str ⟨#[c]⟩) H):IxS (.str z) (.int i) H Q:=⟨z,i,c,rfl,rfl,hz,e,q⟩
structure acA (o i v:V) (H:Hp) (Q:Hp->Prop):Prop where
 h:Yb o i v H Q
theorem agJ {X:Cx}:YZ X acA:=λpins s σ H o i v ov iv u Q I ro ri rv h=>set_list pins s σ H o i v ov iv u Q I ro ri rv h.h
theorem setAt {H:Hp} {p:aaH} {xs:List V} {i:Int} {j:Nat} {v:V} {Q:Hp->Prop} (h:H p=some (.lst xs)) (e:Vj xs.length i=some j) (q:Q (upd H p (.lst (xs.set j v)))):acA (.ref p) (.int i) v H Q:=⟨p,xs,i,j,rfl,rfl,h,e,q⟩
noncomputable def Pz (z:Str) (lo hi:Option Int):Str:=⟨((z.cps.toList.drop (HT.eG z.length 0 lo)).take (HT.eG z.length z.length hi-HT.eG z.length 0 lo)).toArray⟩
theorem ZD (lo hi:Option Int) (n:Nat):alN lo hi 1 n=(acF (HT.eG n n hi-HT.eG n 0 lo)).map (HT.eG n 0 lo+·):=by
 have a:∀ (v:Option Int) (d:Nat),d<=n->(match v with | none=>(d:Int) | some i=>(let i:=if i<0 then i+(n:Int) else i; max 0 (min i (n:Int))))=((HT.eG n d v:Nat):Int):=λv d hd=>by
   cases v with
   | none=>rfl
   | some i =>
     show max 0 (min (if i<0 then i+(n:Int) else i) (n:Int))=((if i<0 then (i+(n:Int)).toNat else min i.toNat n:Nat):Int);by_cases h:i<0
     . rw [if_pos h,if_pos h]; omega
     . rw [if_neg h,if_neg h]; omega
 rw [<- sliceRange_one];unfold alN;have h1:=a lo 0 (abH _);have h2:=a hi n (aaw _);simp only [show (1:Int) > 0 by decide,if_true] at h1 h2 |-;rw [<- h1,<- h2];rfl
theorem wM (z:Str) (lo hi:Option Int):alM z lo hi=Pz z lo hi:=by
 unfold alM Pz;rw [ZD,pick_run];split
 . rename_i h
   have e:HT.eG z.length z.length hi-HT.eG z.length 0 lo=z.length:=by simpa using h
   have b:HT.eG z.length z.length hi<=z.length:=by
     unfold HT.eG;cases hi with
     | none=>exact aaw _
     | some v=>simp only; split <;> omega
   by_cases h0:z.length=0
   . have e0:z.cps.toList=[]:=by
       apply aeu;simpa [aku] using h0
     cases z with
     | mk cps =>
       have e1:cps=#[]:=by simpa using e0
       subst e1;simp
   . have e1:HT.eG z.length 0 lo=0:=by omega
     rw [e1,anh,show HT.eG z.length z.length hi=z.length by omega,amh,adT (by simp [aku])]
 . rfl
theorem PB (z:Str) (k:Nat):alM z none (some (k:Int))=⟨(z.cps.toList.take k).toArray⟩:=by
 rw [wM];unfold Pz;rw [HT.rO,HT.jJ,amh,anh];congr 2;rw [akK];simp [aku]
 try omega
theorem Lp (z:Str) (i k:Nat):alM z (some (i:Int)) (some (k:Int))=⟨((z.cps.toList.take k).drop i).toArray⟩:=by
 rw [wM];unfold Pz;rw [HT.jJ,HT.jJ,ami];have el:z.cps.toList.length=z.length:=by simp [aku]
 congr 1;by_cases h:i<=z.length
 . rw [aiv h];congr 1;rw [akK,afQ,el];omega
 . rw [amW (show z.cps.toList.length<=min i z.length by omega),amW (show z.cps.toList.length<=i by omega)];simp
noncomputable def ZF (t:TE):TO:=fun σ H Q=>t σ H λx H1=>match x with
 | .int i=>Q (some i) H1
 | _=>False
theorem FZ {X:Cx} {e:Expr} {te:TE} (h:PE X e te):PO X (some e) (ZF te):=by
 intro pins s σ H Q I hw;rw [evalPart_some];refine c7 (h pins s σ H _ I hw) λu s1 ⟨x,H1,I1,r1,q1⟩=>?_
 cases x with
 | int i=>obtain ⟨t,rfl⟩:=r1; exact ⟨some i,H1,I1,.int i t,q1⟩
 | _=>exact (show False from q1).elim
structure SlS (x:V) (lo hi:Option Int) (H:Hp) (Q:VK):Prop where
 h:∃ z,x=.str z/\z.length<=sizeLine/\Q (.str (alM z lo hi)) H
theorem Vw {X:Cx}:SlR X SlS:=λpins s σ H x v vl vu lo hi sl Q I rx hs pl pu h=>Zu pins s σ H x v vl vu lo hi sl Q I rx hs pl pu h.h
theorem Jz {z:Str} {lo hi:Option Int} {H:Hp} {Q:VK} (hz:z.length<=sizeLine) (q:Q (.str (alM z lo hi)) H):SlS (.str z) lo hi H Q:=⟨z,rfl,hz,q⟩
theorem app_list (a b:Str):(a++b).cps.toList=a.cps.toList++b.cps.toList:=by
 show (a.cps++b.cps).toList=_;simp
theorem len_list (a:Str):a.cps.toList.length=a.length:=by simp [aku]
section
variable {X:Cx} {elt kx vx iter tg:Expr} {te tk tv:TE} {D:aaH} {wi:TI} {g:TG} {tt:TT} {act:acB} {ifs:List Expr} {scope:Scope} {pos:Pos}
end
section
variable {X:Cx} {e tg iter:Expr} {ifs:List Expr} {gs:List Comprehension} {scope gP:Scope} {pos:Pos} {own cap:List Str} {ix:List Nat} {wi:TI} {g:BI->TG} {tt:BI->TT} {act:BI->aaH->acB} {tail:aaH->Env->Sem Unit} {newAcc:Sem aat} {ob:Obj} {o0:HO} {p:Pos}
end
section
variable {X:Cx} {elt kx vx tg iter tg1 iter1:Expr} {ifs agK:List Expr} {scope:Scope} {pos:Pos}
end
section
variable {X:Cx} {elt kx vx tg iter tg1 iter1:Expr} {ifs agK:List Expr} {scope gP:Scope} {pos:Pos} {own cap:List Str} {ix:List Nat} {wi:TI} {g g1:BI->TG} {tt tt1:BI->TT} {te tk tv:BI->TE} {wi1:BI->TI}
end
section
variable {X:Cx} {pins:List (aaH × Obj)} {σ:St} {H:Hp} {s:aav} {h':afp}
theorem Inv.Vx {t':Nat} {its:List aaH} (I:Inv X pins σ H s) (k:∀ b o,b ∉ its->s.heap.get? b=some o->h'.get? b=some o) (hf:∀ b∈its,qz X pins H b):Inv X pins σ H { s with heap:=h',toks:=t' }:=by
 have nit:∀ b u,H b=some u->b ∉ its:=λb u e z=>by rw [(hf b z).1] at e; cases e
 refine I.step (g':=s.gens) (d':=s.drawn) (ch:=its) (λb hb=>⟨(hf b hb).2.2.2.1,(hf b hb).2.1,(hf b hb).2.2.2.2.1,(hf b hb).2.2.2.2.2⟩) (λb o _ _ hc e _=>k b o hc e) (λb o _ _ hc e _=>⟨o.slots,k b o hc e⟩) (λ_ _ _ _ n=>n)
   (λb o hc e=>⟨o,k b o hc e⟩) (λ_ _ e=>e) (λ_ _ _ e=>e) (λb ps e=>⟨#[],by rw [e]; simp⟩) (λm hm=>?_) (λb u e=>?_) I.bare
 . obtain ⟨o,es,ep,ho,r⟩:=hm;exact ⟨o,es,ep,k _ o (λz=>(hf _ z).2.1 rfl) ho,r⟩
 . refine (I.hok b u e).stay (λc v hc q=>k c v ?_ q) (λ_ q=>q) λ_ _ q=>q
   rcases hc with z | z
   . rw [z]; exact nit b u e
   . exact nit c _ z
end
noncomputable def PJ (lo c:Int) (n:Nat):It:=⟨λi _=>i<n,λi H x H'=>H'=H/\x=.int (lo+i * c),λi _=>n<=i⟩
theorem DG {P:abt} {w:acU} {K:aaf} {tg:Expr} (it:aaH) (lo c:Int) (n:Nat):Turn P w K tg (PJ lo c n) [it] it (λi h=>anZ h it (lo+(i:Nat) * c) ((n:Int)-(i:Nat)) c) where
 mem:=by simp
 obj:=λi h st b hb=>by
   have e:b=it:=by simpa using hb
   subst e;exact ⟨_,st,λv z=>by cases (show ao7 _=Data.cell v from z)⟩
 keep:=λi h h' st k=>k it (by simp) _ st
 item:=by
   intro X hP hw hK hc i pins s σ H E I hf st hg;subst hP hw hK;obtain ⟨f0,f1,f2,f3,f4,f5⟩:=hf it (by simp);have W:=Walks.range (prog:=X.prog) (w:=X.w) (I.ok.hd hc) it lo c n;refine W.item i s _ _ hg st λv h' tk hv st' kk=>?_
   obtain ⟨t,rfl⟩:=hv;have I1:Inv X pins σ H { s with heap:=h',toks:=tk }:=I.turned (λb o hb e=>kk b o (by simpa using hb) e) f0 f1 f3 f4 f5;exact ⟨_,rfl,uJ (s:={ s with heap:=h',toks:=tk }) (n:="range_iterator") st' rfl rfl (by decide) ⟨.int (lo+i * c),H,I1,⟨t,rfl⟩,⟨rfl,rfl⟩,st',λb hb=>(hf b hb).1⟩⟩
 done:=by
   intro X hP hw hK hc i pins s σ H E I hf st hg;subst hP hw hK;obtain ⟨f0,f1,f2,f3,f4,f5⟩:=hf it (by simp);exact amR (I.ok.hd hc) st (by have:n<=i:=hg; omega) λh' eb=>⟨rfl,I.turned (t':=s.toks) (λb o hb e=>eb b o hb e) f0 f1 f3 f4 f5⟩
 self:=λ_ _ _ _ _ st h=>amS st h
noncomputable def acC (ta:TA):TI:=fun σ H R=>ta σ H λvs H1=>∃ i j c:Int,vs=[.int i,.int j,.int c]/\(0<=i/\i<1000000/\0<=j/\j<1000000/\0<c/\c<1000000)/\R (PJ i c (ac1 i j c).toNat) H1
theorem Lq {X:Cx} {tg a b c:Expr} {ta:TA} {p pos:Pos} (hg:Gl X "range") (hm:X.mg "range" = none) (ha:PA X [a,b,c] ta) (hs:starEach [a,b,c] X.env=[(false,eval a X.env),(false,eval b X.env),(false,eval c X.env)]:=by rfl) (hs2:starEach [b,c] X.env=[(false,eval b X.env),(false,eval c X.env)]:=by rfl) :
   PI X tg (.Call (.Name "range" p) [a,b,c] [] pos) (acC ta):=by
 intro pins s σ H R I h;refine Call_ (wj I hg hm boot_range (ais (c7 (ha pos pins s σ H _ I h) λus s1 ⟨vs,H1,I1,r1,q1⟩=>?_) (by rw [hs,hs2]) (by rw [hs2]; rfl)));obtain ⟨i,j,d,e,⟨q1,q2,q3,q4,q5,q6⟩,q⟩:=q1;subst e;cases r1 with
 | cons r rr =>
   cases rr with
   | cons r' rr =>
     cases rr with
     | cons r'' rr =>
       cases rr;obtain ⟨t,rfl⟩:=r;obtain ⟨t',rfl⟩:=r';obtain ⟨t'',rfl⟩:=r''
       have sz0:0<=ac1 i j d:=by
         unfold ac1;rw [if_pos q5];split
         . have:=Int.ediv_nonneg (a:=j-i-1) (b:=d) (by omega) (by omega);omega
         . exact apb 0
       have sz1:ac1 i j d<=1000000:=by
         unfold ac1;rw [if_pos q5];split
         . have:=Int.ediv_le_self (a:=j-i-1) d (by omega);omega
         . omega
       have fits:∀ z:Int,-1<=z->z<=3000000->alO z=true:=λz h1 h2=>by
         unfold alO;simp;omega
       have small:an2 i j d=true:=by
         unfold an2;rw [fits i (by omega) (by omega),fits j (by omega) (by omega),fits d (by omega) (by omega),fits _ (by omega) (by omega),if_pos q5,fits (j+(d-1)) (by omega) (by omega)];simp
       refine call_range_3 (by omega) (an9 (IsRange.new ..) small ?_) (.inl (amT (by omega)));have I2:Inv X pins σ H1 { s1 with heap:=s1.heap.push { cls:=.type "range",data:=.fields #[.int i t,.int j t',.int d t''] } }:=I1.kept (t':=s1.toks) λb o e=>aar _ e
       refine ⟨(s1.heap.push { cls:=.type "range",data:=.fields #[.int i t,.int j t',.int d t''] }).objs.size,[(s1.heap.push { cls:=.type "range",data:=.fields #[.int i t,.int j t',.int d t''] }).objs.size],_,_,H1,rfl,
         I2.kept (t':=s1.toks) λb o e=>aar _ e,DG _ i d (ac1 i j d).toNat,?_,λb hb=>?_,q⟩
       . have e1:i+((0:Nat):Int) * d=i:=by simp
         have e2:((ac1 i j d).toNat:Int)-((0:Nat):Int)=ac1 i j d:=by omega
         show anZ _ _ (i+((0:Nat):Int) * d) (((ac1 i j d).toNat:Int)-((0:Nat):Int)) d;rw [e1,e2];exact aaL _ rfl
       . have e:b=(s1.heap.push { cls:=.type "range",data:=.fields #[.int i t,.int j t',.int d t''] }).objs.size:=by simpa using hb
         subst e;exact I2.Bl (aaw _) (I2.hok.fresh (aaw _))
noncomputable def vG (ks:List Key) (k:Key):Bool:=ks.any λx=>decide (x=k)
theorem JB {ks:List Key} {k:Key}:vG ks k=true↔k∈ks:=by
 unfold vG;rw [ah4];constructor
 . rintro ⟨x,h,e⟩;rw [<- of_decide_eq_true e]; exact h
 . exact λh=>⟨k,h,decide_eq_true rfl⟩
theorem PK (ks:List Key) (k k':Key):vG (ks++[k]) k'=(vG ks k' || decide (k'=k)):=by
 unfold vG;rw [List.any_append,ahT,List.any_nil,amB];congr 1;rw [aen,decide_eq_true_iff,decide_eq_true_iff];exact ⟨Eq.symm,Eq.symm⟩
noncomputable def dD (ks:List Key):Nat->List Key
 | 0=>[]
 | i+1=>match ks[i]? with
   | some k=>if vG (dD ks i) k=true then dD ks i else dD ks i++[k]
   | none=>dD ks i
theorem pI {ks:List Key} {i:Nat} {k:Key} (h:ks[i]?=some k):dD ks (i+1)=if vG (dD ks i) k=true then dD ks i else dD ks i++[k]:=by
 show (match ks[i]? with | some k=>_ | none=>_)=_;rw [h]
theorem vH (ks:List Key):∀ i,(dD ks i).length<=i
 | 0=>aaw _
 | i+1=>by
   have:=vH ks i;unfold dD;split
   . split
     . omega
     . rw [aay]; simp; omega
   . omega
theorem wN {ks:List Key} (h:ks.Nodup):∀ i,i<=ks.length->dD ks i=ks.take i
 | 0,_=>rfl
 | i+1,hi=>by
   have hi':i<ks.length:=hi;have ek:ks[i]?=some ks[i]:=aaj hi';have e:=wN h i (af3 hi');rw [pI ek,e,if_neg,abz,ek]
   . rfl
   . intro z;have z':=JB.mp z;obtain ⟨j,hj,ej⟩:=anF.mp z';rw [abI] at hj;rw [amr] at ej;have:=(ah2 (i:=j) (j:=i) (h₀:=by omega) (h₁:=hi') h).mp ej;omega
noncomputable abbrev jt (led:Bool):Obj:={ cls:=.type "set",dict:=none,data:=.set #[] 0 (.fresh 0 0 led) }
section
variable {prog:abt} {w:acU} {A:acX} {E:aat->aav->Prop} {s:aav}
theorem setLoop {R:aod->aav->Prop} {I:aaH} {fp wr:List aaH} {G:Array al6->Array al6->Prop} {P:Nat->aat->Prop} {St:Nat->aav->Prop} {ks:List Key} (W:WalksS prog w A.in1 I fp wr G ks.length P St) (Z:aaH) (nZ:Z ∉ fp)
   (Vy:∀ i v,P i v->∃ k,ks[i]?=some k/\(aO prog w).is k v=true/\v.scannable=true) (few:ks.length+1<scanBound) :
   ∀ (j i:Nat) (s:aav),ks.length-i=j->i<=ks.length->St i s->s.heap.SetOf (aO prog w) Z (vG (dD ks i)) (dD ks i).length ->
     (∀ s',Moved (Z :: wr) G s s'->s'.heap.SetOf (aO prog w) Z (vG (dD ks ks.length)) (dD ks ks.length).length->R (.ok (.ret .none)) s') ->
     codeAny (model prog w) A (.builtin "set.update.loop" ⟨[.ref Z,.ref I],[]⟩) R s:=by
 have nW:Z ∉ wr:=λz=>nZ (W.sub _ z)
 have sub:∀ b∈wr,b∈Z :: wr:=λb z=>abk _ z
 intro j
 induction j with
 | zero =>
   intro i s ej ei st zS out;have ei':i=ks.length:=by omega
   subst ei';refine aev afA ?_;rw [adU ady _];show wpAny _ A.in1 (pyNext (.ref I) >>= _) _ _ s;refine El (W.done s _ _ st λs' mv=>?_);show wpAny _ A.in1 (ret acS) _ _ s';obtain ⟨o,es,ep,t,ho,rest⟩:=zS;exact aau (out s' (mv.mono sub) ⟨o,es,ep,t,mv.heap Z _ nW ho,rest⟩)
 | succ j ih =>
   intro i s ej ei st zS out;have lt:i<ks.length:=by omega
   refine aev afA ?_;rw [adU ady _];show wpAny _ A.in1 (pyNext (.ref I) >>= _) _ _ s;refine El (W.item i s _ _ lt st λv s' pv st' mv=>?_);obtain ⟨k,ek,hk,sc⟩:=Vy i v pv;have zS':s'.heap.SetOf (aO prog w) Z (vG (dD ks i)) (dD ks i).length:=let ⟨o,es,ep,t,ho,rest⟩:=zS; ⟨o,es,ep,t,mv.heap Z _ nW ho,rest⟩
   show wpAny _ A.in1 (holding [v] (setAdd Z v) >>= _) _ _ s';refine El (ac6 ?_);unfold setAdd;refine ac6 ?_;refine El ((aO prog w).pyHash hk ?_);have le:=vH ks i;refine wpAny_setAddHashed_of (knd:=aO prog w) (s:={ s' with toks:=s'.toks+1 }) hk sc zS' (by omega) λh2 sb zS2=>?_
   have zS3:h2.SetOf (aO prog w) Z (vG (dD ks (i+1))) (dD ks (i+1)).length:=by
     have Lr:h2.SetOf (aO prog w) Z (λk'=>vG (dD ks i) k' || decide (k'=k)) (if vG (dD ks i) k=true then (dD ks i).length else (dD ks i).length+1):=zS2;rw [pI ek];cases q:vG (dD ks i) k with
     | true =>
       rw [q,if_pos rfl] at Lr;rw [if_pos rfl]
       have ef:(λk'=>vG (dD ks i) k' || decide (k'=k))=vG (dD ks i):=funext λk'=>by
         by_cases z:k'=k
         . subst z; rw [q]; rfl
         . rw [decide_eq_false z,amB]
       rw [ef] at Lr;exact Lr
     | false =>
       rw [q,if_neg aaK] at Lr;rw [if_neg aaK,aay];have ef:(λk'=>vG (dD ks i) k' || decide (k'=k))=vG (dD ks i++[k]):=funext λk'=>(PK _ _ _).symm
       rw [ef] at Lr;exact Lr
   refine aau ⟨ahV ady _,ih (i+1) _ (by omega) lt (W.frame _ s' _ _ st' (alK _) λb hb o e=>?_) zS3 λs'' mv2 z2=>?_⟩
   . rw [sb.2 b (λz:b=Z=>nZ (by rw [<- z]; exact hb))]; exact e
   . refine out s'' (Moved.trans W.gtrans ((mv.mono sub).then_heap (alK _) λb o hb e=>?_) mv2) z2;rw [sb.2 b (λz:b=Z=>hb (by rw [z]; exact abw))]; exact e
theorem Vz {l:aaH} {items:Array aat} {ks:List Key} {Q:aat->aav->Prop} (hh:A.handled=none) (hl:s.heap.IsList l items) (hz:items.size=ks.length)
   (Vy:∀ (i:Nat) (v:aat),items[i]?=some v->∃ k,ks[i]?=some k/\(aO prog w).is k v=true/\v.scannable=true) (few:ks.length+1<scanBound)
   (h:∀ (h':afp) (tk:Nat),h'.SetOf (aO prog w) s.heap.objs.size (vG (dD ks ks.length)) (dD ks ks.length).length->(∀ b o,s.heap.get? b=some o->h'.get? b=some o)->Q (.ref s.heap.objs.size) { s with heap:=h',toks:=tk }) :
   wpAny (model prog w) A (call (.type "set") [.ref l]) Q E s:=by
 obtain ⟨cm,tm,hmro⟩:=PySem.F.called_set.mro;have made:=PySem.F.called_set.made;have agN:=PySem.F.called_set.sub;refine aiz (ajW ?_);show wpAny _ _ (callAny (.type "set") _) _ _ _;refine aau ⟨aio _ (by decide +kernel),aev amC ?_⟩;rw [aoj (ani "set" [.ref l] []) rfl];have c1:=PySem.F.called_set.notType;have c2:=PySem.F.called_set.canCreate;have c3:=amX (.ref l)
 repeat (any_goals (first | assumption | wp_step))
 generalize hN:s.heap.objs.size=N at h;refine agq (code_set_new_1 (.ref l) (E:=E) (Q₁:=λob s1=>∃ led:Bool,ob=.ref s.heap.objs.size/\s1={ s with heap:=s.heap.push (jt led) }) λled=>⟨led,rfl,rfl⟩) λr s1 hr=>?_
 cases r with
 | error e=>exact hr
 | ok fl =>
   cases fl with
   | ret ob =>
     obtain ⟨led,rfl,rfl⟩:=hr;have gS:(s.heap.push (jt led)).get? s.heap.objs.size=some (jt led):=aaL _ rfl;have hT:aok { s with heap:=s.heap.push (jt led) } (.ref s.heap.objs.size) "set":=⟨_,gS,rfl⟩;have li:=PySem.F.called_set.init.lookup;have bi:=PySem.F.called_set.init.bind (.ref s.heap.objs.size)
     repeat (any_goals (first | assumption | wp_step))
     refine agq (aga (R:=wants (λr s2=>r=.none/\∃ h' tk,s2={ s with heap:=h',toks:=tk }/\h'.SetOf (aO prog w) s.heap.objs.size (vG (dD ks ks.length)) (dD ks ks.length).length/\(∀ b o,s.heap.get? b=some o->h'.get? b=some o)) E)
       PySem.F.called_set.init.plain amY (check_set_init_1 hT ?_)) λr2 s2 hr2=>?_
     . obtain ⟨ol,gl,cl,nl,dl⟩:=hl;obtain ⟨oc,od,oa,os⟩:=ol;simp only at cl dl;subst cl dl;have gl':(s.heap.push (jt led)).get? l=some { cls:=.type "list",dict:=od,data:=.seq items nl,slots:=os }:=aar _ gl;have t1:=anG;have t2:=al2;have t3:(afE "list" == afE "dict")=false:=by decide
       have lst:(s.heap.push (jt led)).IsList l items:=⟨_,gl',rfl,nl,rfl⟩;unfold afD.«set.__init__» noKeywords akX;generalize hPI:pyIter=PI
       wp_walk
       subst hPI;refine agI lst ?_;refine (El (wpAny_runValue ?_));have lS:l<s.heap.objs.size:=abh gl;have h3:A.in1.in1.in1.handled=none:=by simp [hh]
       have sz:(s.heap.push (jt led)).objs.size=s.heap.objs.size+1:=afy ..;have n1:l≠(s.heap.push (jt led)).objs.size:=by rw [sz]; exact abB (afV lS)
       have n2:s.heap.objs.size ∉ [(s.heap.push (jt led)).objs.size,l]:=by
         rw [sz];intro z;rcases abu.mp z with z | z
         . exact absurd z (abB (ajk _))
         . exact absurd (abe.mp z) (ajy lS)
       have W:=(anB (prog:=prog) (w:=w) h3 _ l n1 items).toS;rw [hz] at W;refine setLoop W s.heap.objs.size n2 Vy few (ks.length-0) 0 _ rfl (abH _) ⟨⟨_,aaL _ rfl,rfl,rfl⟩,lst.push _⟩ ?_ λs' mv z=>?_
       . have g2:((s.heap.push (jt led)).push { cls:=.type "list_iterator",data:=.fields #[.ref l,.int 0 0] }).get? s.heap.objs.size=some (jt led):=aar _ gS;exact ⟨_,#[],0,_,g2,⟨rfl,rfl,rfl⟩,rfl,λe he=>by simp at he,λk=>by simp [dD,vG],by decide,rfl,rfl⟩
       . obtain ⟨h',g',d',tk',os'⟩:=s';obtain rfl:g'=s.gens:=mv.gens;obtain rfl:d'=s.drawn:=mv.drawn;obtain rfl:os'=s.os:=mv.os;show wpAny _ _ _ _ _ _;refine aau ?_;show wpAny _ _ (ret acS) _ _ _;refine aau ⟨rfl,h',tk',rfl,z,λb o e=>?_⟩;have lb:b<s.heap.objs.size:=abh e;refine mv.heap b o (λz=>?_) (aar _ (aar _ e));rcases abu.mp z with z | z
         . exact absurd z (abB lb)
         . exact absurd (abe.mp z) (by rw [sz]; exact abB (afV lb))
     . cases r2 with
       | error e=>exact hr2
       | ok PL =>
         cases PL with
         | ret r =>
           obtain ⟨rfl,h',tk,rfl,zS,kk⟩:=hr2
           repeat (any_goals (first | assumption | wp_step))
           subst hN;exact h _ _ zS kk
         | _=>exact hr2.elim
   | _=>exact hr.elim
end
section
variable {X:Cx}
theorem zW (c:Nat):∀ (n:Nat) (a:Array Nat),(aft n (#[c]:Array Nat)).foldl (·++·) a=a++(aft n c).toArray
 | 0,a=>by simp
 | n+1,a=>by
   rw [an3,List.foldl_cons,zW c n,an3];apply Array.ext';simp
theorem VB:gC X (binaryOp .Mult) (λx y H Q=>∃ (c:Nat) (n:Int),x=.str ⟨#[c]⟩/\y=.int n/\1<=n/\n<=1000/\Q (.str ⟨(aft n.toNat c).toArray⟩) H):=by
 intro pins s σ H x y v u Q I rx ry h;obtain ⟨c,n,rfl,rfl,h1,h2,q⟩:=h;obtain ⟨t,rfl⟩:=rx;obtain ⟨t',rfl⟩:=ry;have n1:¬ n<1:=by omega
 have l1:(⟨#[c]⟩:Str).length=1:=rfl;refine PySem.P.mul_str (by rw [decide_eq_false (by omega),decide_eq_false (by omega)]; rfl) (λ_ _ z=>?_) (λ_ _=>?_) ?_
 . rw [l1] at z
   have:(1:Int)<=(2 ^ 63-1) / n:=by
     rw [Int.le_ediv_iff_mul_le (by omega)];omega
   have z':((1:Nat):Int) > (2 ^ 63-1) / n:=z;omega
 . rw [l1,Nat.one_mul];show decide (n.toNat > sizeLine)=false;rw [decide_eq_false_iff_not,aby];omega
 . rw [if_neg n1];by_cases e1:n=1
   . subst e1;rw [if_pos (by simp)];exact ⟨.str ⟨#[c]⟩,H,I,⟨t,rfl⟩,q⟩
   . rw [if_neg (by
       intro z;rw [Bool.or_eq_true] at z;rcases z with z | z
       . exact e1 (beq_iff_eq.mp z)
       . rw [l1] at z; exact absurd z (by decide)),zW]
     have e2:(#[]:Array Nat)++(aft n.toNat c).toArray=(aft n.toNat c).toArray:=by simp
     rw [e2];refine ⟨?_,?_⟩
     . show (aft n.toNat c).toArray.size<=sizeLine;rw [abm,akJ,aby]; omega
     . exact ⟨.str _,H,I.tok _,⟨_,rfl⟩,q⟩
end
section
variable {prog:abt} {w:acU} {A:acX} {E:aat->aav->Prop} {s:aav}
end
section
variable {X:Cx}
noncomputable def PN (P:abt) (w:acU) (p:aaH) (ks:List Key):afp->Prop:=λh=>h.SetOf (aO P w) p (vG (dD ks ks.length)) (dD ks ks.length).length
theorem VD:∀ {ks:List Key} {us:List aat},Vals (ks.map kV) us->∀ (i:Nat) (v:aat),us[i]?=some v->∃ k,ks[i]?=some k/\(aO X.prog X.w).is k v=true/\v.scannable=true:=by
 intro ks us r i v e
 obtain ⟨k,ek⟩:∃ k,ks[i]?=some k:=by
   have hl:=r.length;rw [aac] at hl
   have:i<us.length:=by
     rcases aoV i us.length with z | z
     . exact z
     . rw [ag7 z] at e; cases e
   exact ⟨ks[i],aaj (by omega)⟩
 obtain ⟨u,eu,ru⟩:=r.get (i:=i) (x:=kV k) (by rw [aaJ,ek]; rfl);rw [e] at eu;cases eu;refine ⟨k,ek,zQ ru,?_⟩;cases k with
 | inl j=>cases j with
   | none=>cases (show v=acS from ru); rfl
   | some j=>obtain ⟨t,rfl⟩:=(show ∃ t,v=abW j t from ru); rfl
 | inr x=>obtain ⟨t,rfl⟩:=(show ∃ t,v=aml x t from ru); rfl
theorem P0 (hc:X.calm=true):dU X (.type "set") (λxs H Q=>∃ p ks,xs=[.ref p]/\cG X.K H p (ks.map kV)/\ks.length<4000/\∀ l,H l=none->Q (.ref l) (upd H l (.ext (PN X.prog X.w l ks)))):=by
 intro pins s σ H xs us Q I r h;obtain ⟨p,ks,rfl,hq,h40,q⟩:=h;obtain ⟨u,rfl,ru⟩:=vals1 r;cases ru;obtain ⟨its,rv,pl,_⟩:=I.list hq;have hlen:its.length=ks.length:=by rw [<- rv.length,aac]
 refine Vz (I.ok.hd hc) pl.isList (by rw [abm]; exact hlen) (λi v e=>VD (X:=X) rv i v (by simpa using e)) (by unfold scanBound; omega) λh' tk zS kk=>?_
 refine ⟨.ref s.heap.objs.size,_,I.laid (t':=tk) (o:=.ext (PN X.prog X.w s.heap.objs.size ks)) kk (aaw _) ⟨zS,?_,?_⟩,rfl,q _ (I.hok.fresh (aaw _))⟩
 . obtain ⟨o,_,_,_,e,_⟩:=zS;exact ⟨o,e⟩
 . intro h1 h2 z k;obtain ⟨o,es,ep,t,e,rest⟩:=z;exact ⟨o,es,ep,t,k o e,rest⟩
theorem Ls:dU X (.builtin "len") (λxs H Q=>∃ p ks,xs=[.ref p]/\H p=some (.ext (PN X.prog X.w p ks))/\Q (.int (dD ks ks.length).length) H):=by
 intro pins s σ H xs us Q I r h;obtain ⟨p,ks,rfl,hp,q⟩:=h;obtain ⟨u,rfl,ru⟩:=vals1 r;cases ru;obtain ⟨⟨o,es,ep,t,ho,hex,hd,hel,hmem,hb,hf,hn⟩,_⟩:=(show bT X.prog X.w H s.heap p (.ext (PN X.prog X.w p ks)) from I.hok p _ hp);refine call_len_set ho hex hd hf (by unfold scanBound at hb; omega) ?_;exact ⟨.int (dD ks ks.length).length,H,I.tok _,⟨_,by rw [hn]⟩,q⟩
theorem Lw:MtM X "dict.update" (λx xs H Q=>∃ a b kvs more,x=.ref a/\xs=[.ref b]/\a≠b/\H a=some (.dK kvs)/\H b=some (.dK more)/\kvs.length+more.length<=sizeLine/\Q .non (upd H a (.dK (qT kvs more)))):=by
 intro pins s σ H x xs v us Q I rx rs h;obtain ⟨a,b,kvs,more,rfl,rfl,ne,ha,hb,hz,q⟩:=h;cases (show v=abA a from rx);obtain ⟨u,rfl,ru⟩:=vals1 rs;cases ru;obtain ⟨z1,d1,vs1,ZG,dd1⟩:=wH I.hok ha;obtain ⟨z2,d2,vs2,ZJ,dd2⟩:=wH I.hok hb;refine al9 ams dd1.typeIs PySem.F.entry_dict_update (PySem.F.args_dict_update_2 _ _) (meets_dict_update (aO X.prog X.w) a b ne d2) ⟨vs1,vs2,dd1,dd2,by rw [<- ZG.length,<- ZJ.length]; exact hz,λh' m1 m2 sb=>?_⟩;have he:∃ q,h'.get? a=some q:=let ⟨q,_,_,hq,_⟩:=m1; ⟨q,hq⟩
 have hl:(qT kvs more).length<=sizeLine:=by
   refine adS ?_ hz;clear hz q ZJ dd2 m1 m2 hb z2 ha ZG dd1 z1
   induction more generalizing kvs with
   | nil=>exact aaw _
   | cons p r ih =>
     have h1:=ih (kvs:=putK kvs p.1 p.2);have h2:=gD kvs p.1 p.2;show (qT (putK kvs p.1 p.2) r).length<=_;rw [abD];omega
 exact ⟨.non,_,vC I (by rw [ha]; exact aeR) sb he (Bs hl d1 (ZJ.merge ZG) m1),rfl,q⟩
end
section
variable {prog:abt} {w:acU} {A:acX} {E:aat->aav->Prop} {s:aav}
theorem Lx {x:aat} {ss:List Str} {Q:aat->aav->Prop} (h64:ss.length<64)
   (col:∀ (R:List aat->aav->Prop),(∀ (h':afp) (tk:Nat) (vs:List aat),(∀ b o,s.heap.get? b=some o->h'.get? b=some o)->apt vs ss->R vs { s with heap:=h',toks:=tk })->wpAny (model prog w) A.in1 (collect x) R E s)
   (h:∀ (h1 h':afp) (tk:Nat) (out:List aat) (ss':List Str) (n:Nat),(∀ b o,s.heap.get? b=some o->h1.get? b=some o)->(∀ b o,h1.get? b=some o->h'.get? b=some o)->h'.get? h1.objs.size=some (seqObj "list" out.toArray n)->apt out ss'->ss'.Perm ss->sortedS ss'=true->Q (.ref h1.objs.size) { s with heap:=h',toks:=tk }) :
   wpAny (model prog w) A (call (.builtin "sorted") [x]) Q E s:=by
 refine ahk apc aoW aoX (aoY _) ?_;unfold afD.«sorted»;refine El (m:=checkCount "sorted" 1 1 _) (aau ?_);refine El (col _ λh' tk vs kk hS=>?_);have hl:vs.length=ss.length:=by rw [<- hS.strs,aac]
 have jH:sizeLine=16777216:=aby;refine El (amD ?_ (by omega));have g0:(h'.push (seqObj "list" vs.toArray 0)).get? h'.objs.size=some (seqObj "list" vs.toArray 0):=aaL _ rfl
 refine El (ac6 (aea anO (s:={ s with heap:=h'.push (seqObj "list" vs.toArray 0),toks:=tk }) ⟨_,g0,rfl⟩ anj
   (list_sort_treeK (s:={ s with heap:=h'.push (seqObj "list" vs.toArray 0),toks:=tk }) strKind_oneLt g0 hS.keysOf (λv₁ v₂ rest e=>keyKind_strs (by rw [<- e]; exact hS)) (by omega) λst' p1 p2=>⟨_,rfl,?_⟩) (anP _)))
 obtain ⟨ss',q1,q2,q3⟩:=sorted_out_str hS p1 p2;obtain ⟨n,hn⟩:=aol (vs:=vs) (out:=(arrOf st').map (·.2)) g0;refine aau ⟨_,rfl,h h' _ tk ((arrOf st').map (·.2)).toList ss' n kk (λb o e1=>?_) (by rw [akS]; exact hn) q1 q2 q3⟩;have lt:b<h'.objs.size:=abh e1;show (sortedHeap (h'.push (seqObj "list" vs.toArray 0)) h'.objs.size vs _).get? b=some o;rw [anQ (abB lt) (by rw [afy]; exact afV lt)];exact aar _ e1
end
section
variable {X:Cx}
theorem VF:∀ {ss:List Str} {us:List aat},apt us ss->Vals (ss.map V.str) us:=by
 intro ss us h
 induction h with
 | nil=>exact .nil
 | cons x t _ ih=>exact .cons ⟨t,rfl⟩ ih
theorem JC:∀ {ss:List Str} {us:List aat},us.length=ss.length->(∀ (i:Nat) (v:aat),us[i]?=some v->∃ x t,ss[i]?=some x/\v=.str x t)->apt us ss
 | [],[],_,_=>.nil
 | x :: ss,u :: us,hl,h=>by
   obtain ⟨y,t,e,rfl⟩:=h 0 u rfl;cases (show some x=some y from e);exact .cons x t (JC (by simpa using hl) λi v e=>h (i+1) v (by simpa using e))
 | [],_ :: _,hl,_=>by simp at hl
 | _ :: _,[],hl,_=>by simp at hl
theorem lU (hc:X.calm=true):dU X (.builtin "sorted") (λxs H Q=>∃ p kvs ss,xs=[.ref p]/\H p=some (.dK kvs)/\kvs.map (·.1)=ss.map acW/\ss.length<64/\∀ l ss',H l=none->ss'.Perm ss->sortedS ss'=true->Q (.ref l) (upd H l (.lst (ss'.map V.str)))):=by
 intro pins s σ H xs us Q I r h;obtain ⟨p,kvs,ss,rfl,hp,hk,h64,q⟩:=h;obtain ⟨u,rfl,ru⟩:=vals1 r;cases ru;obtain ⟨z,d,vs,rel,dd⟩:=wH I.hok hp;have hl:kvs.length=ss.length:=by have:=congrArg afN hk; simpa using this
 have hvl:vs.length=ss.length:=by rw [<- rel.length]; exact hl
 have jH:sizeLine=16777216:=aby;obtain ⟨ep,hat⟩:=dd.dictAt;refine Lx h64 (λR hR=>ajm (A:=X.A.in1) (PySem.W.kdl_dict (knd:=aO X.prog X.w) (kvs:=vs) (ep:=ep) d) (by simpa using I.ok.hd hc) hat (by omega) λh' tk acc kk hacc=>hR h' tk acc.toList kk ?_) λh1 h' tk out ss' n k1 k2 ho hS hp2 hs=>?_
 . refine JC (by rw [abC]; exact hacc.1.trans hvl) λi v e=>?_
   obtain ⟨k,x,ek,hk'⟩:=hacc.2 i v (by simpa using e)
   have ek2:(kvs.map (·.1))[i]?=some k:=by
     rw [rel.keys,aaJ,ek]; rfl
   rw [hk,aaJ] at ek2;cases es:ss[i]? with
   | none=>rw [es] at ek2; cases ek2
   | some y =>
     rw [es] at ek2;cases (show some (acW y:Key)=some k from ek2);rcases bZ (show jq (acW y) v=true from hk') with ⟨j,t,e1,e2⟩ | ⟨x',t,e1,e2⟩ | ⟨e1,e2⟩
     . cases e1
     . cases e1;exact ⟨y,t,rfl,e2⟩
     . cases e1
 . have I1:Inv X pins σ H { s with heap:=h1,toks:=tk }:=I.kept k1;have hl':ss'.length=ss.length:=hp2.length_eq;exact ⟨.ref h1.objs.size,_,I1.laid (t':=tk) (o:=.lst (ss'.map V.str)) k2 (aaw _) ⟨by rw [aac]; omega,out,n,VF hS,ho⟩,rfl,q _ _ (I1.hok.fresh (aaw _)) hp2 hs⟩
end
noncomputable def zf (h:afp) (d:aaH) (es:Array ah3) (ep:Nat):Prop:=∃ o,h.get? d=some o/\o.ExactDict/\o.data=.dict es ep
section
variable {prog:abt} {w:acU} {A:acX} {E:aat->aav->Prop} {s:aav}
theorem zf.typ {d:aaH} {es:Array ah3} {ep:Nat} (R:zf s.heap d es ep):s.TypeIs (.ref d) "dict":=let ⟨o,e,x,_⟩:=R; ⟨o,e,x.1⟩
theorem JD {d:aaH} {es:Array ah3} {ep:Nat} {Q:aat->aav->Prop} (nS:(d == sysModules)=false) (R:zf s.heap d es ep)
   (q:Q (.ref s.heap.objs.size) { s with heap:=s.heap.push { cls:=.type "dict_keyiterator",data:=.fields #[.ref d,.int 0 0,.int es.size 0,.int ep 0] } }):wpAny (model prog w) A (pyIter (.ref d)) Q E s:=by
 have T:=R.typ;obtain ⟨o,e,_,dat⟩:=R;refine amt T amZ (aea amZ T PySem.F.entry_dict_iter ?_ (PySem.F.args_dict_iter_1 _));unfold afD.«dict.__iter__»;refine El ?_;unfold Builtin.Dict.dictSlotNone;refine El (akL T ?_);show wpAny _ _ (pure (abA d)) _ _ s;refine aau ?_;show wpAny _ _ (ank d >>= _) _ _ s;unfold ank;rw [if_neg (by rw [nS]; exact aaK)];refine El (aau (El (akD e dat (El (anl e dat ?_)))));refine El (adH (aau ⟨_,rfl,"dict_keyiterator",_,⟨_,aaL _ rfl,rfl⟩,PySem.F.slot_dict_keyiterator_next.lookup,?_⟩));simpa [rawInt] using q
theorem JF {it d:aaH} {i ep:Nat} {es:Array ah3} {Q:Option aat->aav->Prop} (K:s.heap.IsKeyIter it d i es.size ep) (R:zf s.heap d es ep) (lt:i<es.size)
   (q:∀ h',h'.IsKeyIter it d (i+1) es.size ep->ag6 it s.heap h'->Q (some es[i].key) { s with heap:=h' }):wpAny (model prog w) A (pyNext (.ref it)) Q E s:=by
 obtain ⟨o,e,c,dt⟩:=id K;obtain ⟨od,e2,_,dd⟩:=R;unfold pyNext;refine El (aiB (afw (name:=afR "__next__") K.typeIs afJ (aea afJ K.typeIs ajt ?_ (ajc _))));refine El (aau (El (El ?_)));first | refine El (af8 K.typeIs (aau ?_)) | refine El (ahI K.typeIs (aau ?_))
 refine El (amj e dt ?_);have own:akY "dict_keyiterator" = false:=by decide
 simp only [own,adi,if_false];show wpAny _ _ (if (abA d == acS)=true then _ else _) _ _ s;rw [if_neg (show ¬ ((abA d == acS)=true) from aaK)];refine El (aau (El (akD e2 dd ?_)));rw [if_neg (by simp)];refine El (aau (El (anl e2 dd ?_)));rw [if_neg (by simp)];refine aau ?_;simp only [show ¬ ((i:Int)<0) from by omega,if_false,afI,ajd lt];refine El ?_;first | refine El (af8 K.typeIs (aau ?_)) | refine El (ahI K.typeIs (aau ?_))
 refine El (anm K.typeIs ?_);show wpAny _ _ (setField (.ref it) 1 (rawInt ((i:Int)+1)) >>= _) _ _ s;refine El (ahl e dt (by simp) ?_);have K':(s.heap.update it (akZ (·.setIfInBounds 1 (rawInt ((i:Int)+1))))).IsKeyIter it d (i+1) es.size ep:=⟨_,adP _ e (aix (ag8 dt _)),(Obj.cls_mapFields ..).trans c,by rw [ag8 dt]; simp [rawInt]⟩;refine El (ac6 (El (anm (s:={ s with heap:=s.heap.update it (akZ (·.setIfInBounds 1 (rawInt ((i:Int)+1)))) }) K'.typeIs ?_)));show wpAny _ _ (pure es[i].key) _ _ _;exact aau (aau ⟨_,rfl,aau (q _ K' (afW ..))⟩)
theorem Qa {it d:aaH} {ep:Nat} {es:Array ah3} {Q:Option aat->aav->Prop} (hh:A.handled=none) (K:s.heap.IsKeyIter it d es.size es.size ep) (R:zf s.heap d es ep) (q:∀ h',Heap.ExtBut it s.heap h'->Q none { s with heap:=h' }) :
   wpAny (model prog w) A (pyNext (.ref it)) Q E s:=by
 obtain ⟨o,e,c,dt⟩:=id K;obtain ⟨od,e2,_,dd⟩:=R;unfold pyNext;refine El (aiB (afw (name:=afR "__next__") K.typeIs afJ (aea afJ K.typeIs ajt ?_ (ajc _))));refine El (aau (El (El ?_)));first | refine El (af8 K.typeIs (aau ?_)) | refine El (ahI K.typeIs (aau ?_))
 refine El (amj e dt ?_);have own:akY "dict_keyiterator" = false:=by decide
 simp only [own,adi,if_false];show wpAny _ _ (if (abA d == acS)=true then _ else _) _ _ s;rw [if_neg (show ¬ ((abA d == acS)=true) from aaK)];refine El (aau (El (akD e2 dd ?_)));rw [if_neg (by simp)];refine El (aau (El (anl e2 dd ?_)));rw [if_neg (by simp)];refine aau ?_;simp only [show ¬ ((es.size:Int)<0) from by omega,if_false,afI,akl (aaw es.size)];refine El ?_;first | refine El (af8 K.typeIs (aau ?_)) | refine El (ahI K.typeIs (aau ?_))
 show wpAny _ _ (setField (.ref it) 0 .none >>= _) _ _ s;refine El (ahl e dt (by simp) ?_);show wpAny _ _ (newExc (.type "StopIteration") [] >>= _) _ _ _;refine El ?_;simp only [newExc,newTuple];refine El (adH ?_ (by size_fits));refine El (m:=firstArgMember _ _) (alP (a:=acS) (by first | rfl | (simp only [firstArgMember]; rfl)) (adH ?_ (by size_fits)));simp only [raiseNew];refine El (wpAny_handled ?_);rw [show A.in1.handled=none from hh];refine (El (aau (wpAny_throw ?_)));refine (El (ag5 (T:="StopIteration") (b:=true) ⟨_,aaL _ rfl,rfl⟩ isSubtype_stop ?_));exact aau (q _ (((afW ..).extBut.push _).push _))
theorem ZK {d:aaH} {es:Array ah3} {ep:Nat} (nS:(d == sysModules)=false):PySem.W.KdlSrc prog w "dict" d d es.size (λi v=>∃ e,es[i]?=some e/\v=e.key) (λh=>zf h d es ep) where
 type:=λ_ R=>R.typ
 there:=λ_ R=>let ⟨_,e,_⟩:=R; ⟨abh e,abh e⟩
 keep:=λ_ _ R hk=>let ⟨o,e,r⟩:=R; ⟨o,hk d (.inl rfl) o e,r⟩
 notList:=by decide
 notTuple:=by decide
 hint:=λ_ _ _ _ R q=>PySem.W.kdl_hint_dict R.typ q
 iter:=λA s hh R=>by
   have lt:d<s.heap.objs.size:=let ⟨_,e,_⟩:=R; abh e
   have ne:d≠s.heap.objs.size:=abB lt;refine ⟨_,λi h=>h.IsKeyIter s.heap.objs.size d i es.size ep/\zf h d es ep,(λ_ _ q=>JD nS R q),⟨λb hb=>by simp at hb; simp [hb],λi h h' st hk=>?_,λi s' Q E hi st q=>?_,λs' Q E st q=>?_,λi s' Q E st q=>akV st.1 q⟩,⟨⟨_,aaL _ rfl,rfl,rfl⟩,let ⟨o,e,r⟩:=R; ⟨o,aar _ e,r⟩⟩⟩
   . obtain ⟨⟨o,e,r⟩,⟨o2,e2,r2⟩⟩:=st;exact ⟨⟨o,hk _ (by simp) o e,r⟩,⟨o2,hk d (by simp) o2 e2,r2⟩⟩
   . refine JF st.1 st.2 hi λh' K' sb=>?_
     exact q _ h' s'.toks ⟨es[i],by simp [hi],rfl⟩ ⟨K',let ⟨o,e,r⟩:=st.2; ⟨o,sb.extBut d o ne e,r⟩⟩ λb o hb e=>sb.extBut b o (λz=>hb (by simp [z])) e
   . exact Qa hh st.1 st.2 λh' he=>q h' s'.toks λb o hb e=>he b o (λz=>hb (by simp [z])) e
end
end L2
namespace L2
open PySem PySem.Spec PyProof.Rows PySem.W
noncomputable def fQ {α:Type} (n:Nat) (lt:Nat->Nat->Bool):KasT α->Option α
 | .ret a=>some a
 | .ask i j k=>if i<n/\j<n then fQ n lt (k (lt i j)) else none
theorem DK {α:Type} {n:Nat} {lt:Nat->Nat->Bool} {ask:Nat->Nat->(Bool->aav->Prop)->aav->Prop} {s:aav} (ha:∀ i j C,i<n->j<n->C (lt i j) s->ask i j C s):∀ (t:KasT α) (a:α) (Q:α->aav->Prop),fQ n lt t=some a->Q a s->t.kasWp ask Q s
 | .ret b,a,Q,h,q=>by
   cases (show some b=some a from h);exact q
 | .ask i j k,a,Q,h,q=>by
   have h':(if i<n/\j<n then fQ n lt (k (lt i j)) else none)=some a:=h;by_cases c:i<n/\j<n
   . rw [if_pos c] at h';exact ha i j _ c.1 c.2 (DK ha (k (lt i j)) a Q h' q)
   . rw [if_neg c] at h'; cases h'
structure Strict {κ:Type} (lt:κ->κ->Bool):Prop where
 Qc:∀ a,lt a a=false
 trans:∀ a b c,lt a b=true->lt b c=true->lt a c=true
 tot:∀ a b,a≠b->lt a b=true\/lt b a=true
section
variable {κ:Type} {lt:κ->κ->Bool} (S:Strict lt)
include S
omit S in
end
noncomputable def slt (a b:Str):Bool:=decide (a.cps.toList<b.cps.toList)
theorem VG {a b:Str} (h:a.cps.toList=b.cps.toList):a=b:=by
 cases a; cases b;congr 1;exact amM.mp h
theorem ju:Strict slt where
 Qc:=λa=>decide_eq_false (List.lt_irrefl _)
 trans:=λa b c h1 h2=>decide_eq_true (List.lt_trans (of_decide_eq_true h1) (of_decide_eq_true h2))
 tot:=λa b h=>by
   rcases Classical.em (a.cps.toList<b.cps.toList) with q | q
   . exact .inl (decide_eq_true q)
   . rcases Classical.em (b.cps.toList<a.cps.toList) with q2 | q2
     . exact .inr (decide_eq_true q2)
     . exact absurd (VG (List.le_antisymm q2 q)) h
noncomputable def Qd (a b:Str × Str):Bool:=if a.1=b.1 then (if a.2=b.2 then false else slt a.2 b.2) else slt a.1 b.1
theorem lV:Strict Qd where
 Qc:=λa=>by unfold Qd; simp
 trans:=λa b c h1 h2=>by
   unfold Qd at h1 h2 |-;have T:=ju.trans;have R:=ju.Qc;by_cases e1:a.1=b.1
   . rw [if_pos e1] at h1;by_cases e2:b.1=c.1
     . rw [if_pos e2] at h2;rw [if_pos (e1.trans e2)];by_cases f1:a.2=b.2
       . rw [if_pos f1] at h1; cases h1
       . rw [if_neg f1] at h1;by_cases f2:b.2=c.2
         . rw [if_pos f2] at h2; cases h2
         . rw [if_neg f2] at h2;have h3:=T _ _ _ h1 h2;rw [if_neg (λz=>by rw [z,R] at h3; cases h3)];exact h3
     . rw [if_neg e2] at h2;rw [if_neg (λz=>e2 (e1.symm.trans z)),e1];exact h2
   . rw [if_neg e1] at h1;by_cases e2:b.1=c.1
     . rw [if_neg (λz=>e1 (z.trans e2.symm)),<- e2];exact h1
     . rw [if_neg e2] at h2;have h3:=T _ _ _ h1 h2;rw [if_neg (λz=>by rw [z,R] at h3; cases h3)];exact h3
 tot:=λa b h=>by
   unfold Qd;by_cases e:a.1=b.1
   . have f:a.2≠b.2:=λz=>h (ao4 e z)
     rw [if_pos e,if_neg f,if_pos e.symm,if_neg (acV f)];exact ju.tot _ _ f
   . rw [if_neg e,if_neg (acV e)];exact ju.tot _ _ e
section
variable {prog:abt} {w:acU} {A:acX} {E:aat->aav->Prop} {s:aav}
end
noncomputable def kP (k:Str × Str):List Key:=[acW k.1,acW k.2]
theorem tO {a b:Str × Str} (h:kP a=kP b):a=b:=by
 unfold kP at h;injection h with h1 h2
 injection h2 with h2 _
 exact ao4 (ahL h1) (ahL h2)
section
variable {X:Cx}
theorem fu {α β:Type} {F:α->β->Prop}:∀ {l₁:List α} {l₂:List β},abG F l₁ l₂->∀ {i:Nat} {b:β},l₂[i]?=some b->∃ a,l₁[i]?=some a/\F a b
 | _,_,.nil,i,b,e=>by simp at e
 | _,_,.cons h r,i,b,e=>by
   cases i with
   | zero=>cases (show some _=some b from e); exact ⟨_,rfl,h⟩
   | succ i=>exact fu r (by simpa using e)
theorem uQ {H:Hp}:∀ {kvs:List (List Key × V)} {xs:List (List Key × aaH × aat)},abG (λ(p:List Key × V) (q:List Key × aaH × aat)=>p.1=q.1/\H q.2.1=some (.tup (p.1.map kV))/\RelV p.2 q.2.2) kvs xs->kvs.map (·.1)=xs.map (·.1)
 | _,_,.nil=>rfl
 | _,_,.cons h r=>by rw [abn,abn,h.1,uQ r]
end
end L2
namespace L2
open PySem PySem.Spec PyProof.Rows
section
open PySem.SeqAt
open PySem.AutoSeq1 (wpAny_loadPart')
open PySem.MeetsSeq PySem.MeetsSeq2 PySem.MeetsSeq3
end
noncomputable def bV (H H':Hp):Prop:=∀ b xs,H b=some (.tup xs)->H' b=some (.tup xs)
theorem bV.refl (H:Hp):bV H H:=λ_ _ h=>h
theorem bV.trans {H H1 H2:Hp} (a:bV H H1) (b:bV H1 H2):bV H H2:=λc o h=>b c o (a c o h)
theorem Same.tups {H H':Hp} (s:Same H H'):bV H H':=λb _ e=>s b _ e
theorem bV.new {H H1:Hp} {p:aaH} {o:HO} (s:bV H H1) (h:H1 p=none):bV H (upd H1 p o):=λb u e=>by rw [aB (aH (s b u e) h)]; exact s b u e
theorem bV.put {H H1:Hp} {p:aaH} {o u:HO} (s:bV H H1) (h:H1 p=some u) (nt:∀ xs,u≠.tup xs):bV H (upd H1 p o):=λb xs e=>by
 have e1:=s b xs e;have ne:b≠p:=λz=>by subst z; rw [h] at e1; exact nt xs (abx e1)
 rw [aB ne]; exact e1
theorem dX.more {H1 H H':Hp} {D:aaH} {ys:List V} (G:dX H1 H D ys) (s:Same H H'):dX H1 H' D ys:=⟨s _ _ G.at',G.same.trans s⟩
theorem bh {α β:Type} {F:α->β->Prop}:∀ {l₁:List α} {l₂:List β},abG F l₁ l₂->∀ {i:Nat} {a:α},l₁[i]?=some a->∃ b,l₂[i]?=some b/\F a b
 | _,_,.nil,i,b,e=>by simp at e
 | _,_,.cons h r,i,b,e=>by
   cases i with
   | zero=>cases (show some _=some b from e); exact ⟨_,rfl,h⟩
   | succ i=>exact bh r (by simpa using e)
theorem aA {α β:Type} {F G:α->β->Prop} (f:∀ a b,F a b->G a b):∀ {l₁:List α} {l₂:List β},abG F l₁ l₂->abG G l₁ l₂
 | _,_,.nil=>.nil
 | _,_,.cons h r=>.cons (f _ _ h) (aA f r)
theorem bC {α β:Type} {F:α->β->Prop}:∀ {l₁ m₁:List α} {l₂ m₂:List β},abG F l₁ l₂->abG F m₁ m₂->abG F (l₁++m₁) (l₂++m₂)
 | _,_,_,_,.nil,q=>q
 | _,_,_,_,.cons h r,q=>.cons h (bC r q)
theorem uR {α β:Type} {F:α->β->Prop}:∀ {l₁:List α} {l₂:List β} (n:Nat),abG F l₁ l₂->abG F (l₁.take n) (l₂.take n)
 | _,_,0,_=>by rw [aie,aie]; exact .nil
 | _,_,n+1,.nil=>.nil
 | _,_,n+1,.cons h r=>.cons h (uR n r)
section
variable {g:BI->TG} {te:BI->TE} {σ0:St} {D:aaH} {End:Hp->Prop} {H1:Hp}
theorem comp_map {K:aaf} {a:aaH} {xs:List V} {ys:List V} (hD:H1 D=none) (hT:bQ K H1 a xs) (hz:xs.length<=sizeLine) (hl:ys.length=xs.length)
   (turn:∀ (i:Nat) (x:V) (H':Hp),xs[i]?=some x->Same H1 H'->∀ b (R:VK),(∀ g8 y,ys[i]?=some y->Same H' g8->R y g8)->g b x σ0 H' fun σ2 H2=>te b σ2 H2 R)
   (fin:∀ H',Same H1 H'->H' D=some (.lst ys)->End H') :
   ∃ W:Nat->Nat->Hp->Prop,(∃ m,W 0 m (upd H1 D (.lst [])))/\∀ b,jL (Vd K a) (g b) (Vs) (jT D (te b)) σ0 End W :=
 wL (xs:=xs) (λi H'=>dX H1 H' D (ys.take i)) (dX.start hD) (λi H' _ G=>G.same.tup hT) (λH' G=>fin H' G.same (by have e:=G.at'; rw [<- hl,acL] at e; exact e)) (λi x H' hx hi G b =>
   turn i x H' hx G.same b _ λg8 y hy s=>⟨_,(G.more s).at',by rw [abI]; omega,nx hi (by
     show dX H1 _ D (ys.take (i+1));rw [abz,hy]
     exact (G.more s).put hD _)⟩)
end
section
variable {g:TG} {act:acB} {End:St->Hp->Prop}
end
end L2
namespace HT
open PySem PySem.Spec PyProof.Rows
section
variable {prog:abt} {w:acU} {A:acX} {E:aat->aav->Prop} {s:aav}
theorem Qe {t b:aaH} {ws:List aat} {Q:aat->aav->Prop} (ht:ao2 s.heap t (#[]:Array aat)) (hb:ao2 s.heap b ws.toArray)
   (h1:Q (.ref b) s):wpAny (model prog w) A (binaryOp .Add (.ref t) (.ref b)) Q E s:=by
 obtain ⟨⟨cls,dd,data,sl⟩,ho,hc,n,hd⟩:=id ht;obtain ⟨⟨cls2,dd2,data2,sl2⟩,ho2,hc2,n2,hd2⟩:=id hb;simp only at hc hd hc2 hd2;subst hc hd hc2 hd2
 exact aoT ⟨_,ho,rfl⟩ ⟨_,ho2,rfl⟩ amL aof akd ajT (ajz _ _)
     (tuple_addW0 t b #[] ws.toArray n n2 dd dd2 sl sl2 (by simp)) ⟨ho,ho2,h1⟩
theorem qD {t sl:aaH} {items:Array aat} {vl vu:aat} {lo hi:Option Int} {Q:aat->aav->Prop} (ht:ao2 s.heap t items) (hs:s.heap.IsSliceOf sl vl vu .none) (pl:anL vl lo) (pu:anL vu hi)
   (hw:eG items.size 0 lo=0/\eG items.size items.size hi=items.size)
   (h:Q (.ref t) s):wpAny (model prog w) A (getItem (.ref t) (.ref sl)) Q E s:=by
 obtain ⟨os,hos,hcs,hds⟩:=id hs;have hTs:s.TypeIs (.ref sl) "slice":=⟨os,hos,hcs⟩;unfold getItem
 try with_reducible refine ac6 ?_
 first | refine El (aau ?_) | skip
 refine El (aoE ht.typeIs (by decide) ?_)
 refine El (afw (name:=afR "__getitem__") ht.typeIs afU
   (aea afU ht.typeIs an1 ?_ (aog _ _)))
 show wpAny _ _ (al1 (.ref t) >>= _) _ _ s;refine El (tupleItemsOf_ ht ?_);refine El (ajA hTs ?_);rw [if_pos (by decide)];refine El (jW hs pl pu ?_)
 have hyes:((((eG items.size 0 lo:Nat):Int) == 0 && (1:Int) == 1 && (eG items.size items.size hi-eG items.size 0 lo) == items.size)=true):=by
   rw [hw.1,hw.2]; simp
 show wpAny _ _ (if (((eG items.size 0 lo:Nat):Int) == 0 && (1:Int) == 1 && (eG items.size items.size hi-eG items.size 0 lo) == items.size)=true then _ else _) _ _ s;rw [if_pos hyes];unfold Builtin.Tuple.tupleIsExact;refine El ?_;refine El (ajA ht.typeIs ?_);refine aau ?_;rw [if_pos (by decide)];refine El (aov ?_);exact aau ⟨_,rfl,aau h⟩
end
end HT
namespace L2
open PySem PySem.Spec PyProof.Rows
section
variable {X:Cx}
structure agQ (x y:V) (H:Hp) (Q:VK):Prop where
 h:∃ a b xs ys,x=.ref a/\y=.ref b/\H a=some (.tup xs)/\H b=some (.tup ys)/\xs.length+ys.length<=sizeLine/\∀ p H',H' p=some (.tup (xs++ys))->Same H H'->Q (.ref p) H'
theorem acE:gC X (binaryOp .Add) agQ:=by
 intro pins s σ H x y v u Q I rx ry ⟨h⟩;obtain ⟨a,b,xs,ys,rfl,rfl,ha,hb,hz,q⟩:=h;by_cases hx:xs=[]
 . subst hx;cases rx;cases ry;obtain ⟨its,r1,p1,_⟩:=I.tuple (bQ.of ha);obtain ⟨its2,r2,p2,_⟩:=I.tuple (bQ.of hb);have e:its=[]:=r1.vB.mpr rfl;subst e;exact HT.Qe p1 p2 ⟨.ref b,H,I,rfl,q b H hb (Same.refl H)⟩
 . refine rQ pins s σ H _ _ v u Q I rx ry ⟨a,b,xs,ys,rfl,rfl,bQ.of ha,bQ.of hb,hx,hz,λe=>?_,λ_ p hp=>q p _ au ((Same.refl H).upd hp)⟩;subst e;exact q a H (by rw [adx]; exact ha) (Same.refl H)
structure SlA (x:V) (lo hi:Option Int) (H:Hp) (Q:VK):Prop where
 h:∃ a xs,x=.ref a/\H a=some (.tup xs)/\∀ p H',H' p=some (.tup (qQ xs lo hi))->Same H H'->Q (.ref p) H'
theorem VH:SlR X SlA:=by
 intro pins s σ H x v vl vu lo hi sl Q I rx hs pl pu ⟨h⟩;obtain ⟨a,xs,rfl,ha,q⟩:=h;by_cases hw:HT.eG xs.length 0 lo=0/\HT.eG xs.length xs.length hi=xs.length
 . cases rx;obtain ⟨its,r,ht,hz⟩:=I.tuple (bQ.of ha);have hlen:its.toArray.size=xs.length:=by rw [abm]; exact r.length.symm
   refine ⟨"tuple",_,PyProof.Rows.slot_tuple_getitem.lookup,ht.typeIs,?_⟩;refine HT.qD ht hs pl pu (by rw [hlen]; exact hw) ⟨.ref a,H,I,rfl,q a H ?_ (Same.refl H)⟩;rw [ha];unfold qQ;rw [hw.1,hw.2,amh,anh,acL]
 . exact Zg pins s σ H _ v vl vu lo hi sl Q I rx hs pl pu ⟨a,xs,rfl,bQ.of ha,hw,λp hp=>q p _ au ((Same.refl H).upd hp)⟩
end
end L2
namespace HT
open PySem PySem.Spec PyProof.Rows
section
variable {prog:abt} {w:acU} {A:acX} {E:aat->aav->Prop} {s:aav}
end
end HT
namespace L2
open PySem PySem.Spec PyProof.Rows
section
variable {X:Cx}
end
end L2
namespace HT
open PySem PySem.Spec PyProof.Rows
section
variable {prog:abt} {w:acU} {A:acX} {E:aat->aav->Prop} {s:aav}
end
end HT
namespace L2
open PySem PySem.Spec PyProof.Rows
section
variable {X:Cx}
end
structure SE (X:Cx) (e:Expr) (t:TE):Prop where
 h:PE X e t
structure SA (X:Cx) (es:List Expr) (t:TA):Prop where
 h:PA X es t
structure SS (X:Cx) (s:air) (t:TS):Prop where
 h:PS X s t
structure SSs (X:Cx) (s:List air) (t:TS):Prop where
 h:FW X s t
structure SI (X:Cx) (tg it:Expr) (t:TI):Prop where
 h:PI X tg it t
structure SG (X:Cx) (e:Expr) (t:TG):Prop where
 h:PG X e t
structure RO (X:Cx) (f:aat->aat->Sem aat) (r:R2):Prop where
 h:gC X f r
structure RU (X:Cx) (f:aat->Sem aat) (r:V->Hp->VK->Prop):Prop where
 h:UnR X f r
structure RM (X:Cx) (id:String) (r:V->List V->Hp->VK->Prop):Prop where
 h:MtR X id r
section
variable {X:Cx} {e a b c o tg elt iter:Expr} {es rest':List Expr} {te ta tb to:TE} {t:TA} {pos p p2 pos' apos cpos spos:Pos} {st:air} {rest:List air} {ts u:TS} {tA Uq:TT} {lo hi:Option Expr} {tl th:TO} {x:Str} {id T:String} {name:Str}
 {scope gP:Scope} {own cap:List Str} {ix:List Nat} {wi:TI} {g:BI->TG} {tt:BI->TT} {tf:BI->TE} {ifs:List Expr} {i:Nat}
theorem cZ:SA X [] yX:=⟨ao⟩
theorem aN (ha:SE X e te) (hr:SA X es t) (hs:starEach (e :: es) X.env=(false,eval e X.env) :: starEach es X.env:=by rfl):SA X (e :: es) (jV te t):=⟨aj ha.h hr.h hs⟩
theorem qV (i:Nat) (hN:X.N[i]?=some x:=by rfl) (hv:Vis X.env.scope x:=by first | exact afO rfl | exact aps (afO rfl) | exact aps (aps rfl)) (hd:(x == ("__debug__" : Str))=false:=by decide)
   (hcd:(x == ("__classdict__" : Str))=false:=by decide):SE X (.Name x pos) (tV i):=⟨pV i hN hv hd hcd⟩
theorem gU {x1} (h:SA X es t):SE X (.Tuple es x1 pos) (Zd t):=⟨bH h.h⟩
theorem nJ (h:SA X es t):SE X (.List es pos) (qP t):=⟨cR h.h⟩
theorem eU {i j}:SE X (.Constant (.int i) j pos) (tC (.int i)):=⟨aD⟩
theorem qY {x j}:SE X (.Constant (.str x) j pos) (tC (.str x)):=⟨bY⟩
theorem JG {b j}:SE X (.Constant (.bool b) j pos) (tC (.bl b)):=⟨iJ⟩
theorem qZ {j}:SE X (.Constant .none j pos) (tC .non):=⟨iw⟩
theorem DN:SE X (.Dict [] [] pos) Gx:=⟨iQ⟩
theorem acG {op:Operator} {r:R2} (ho:RO X (binaryOp op) r) (ha:SE X a ta) (hb:SE X b tb):SE X (.BinOp a op b pos) (Ut r ta tb):=⟨bx ho.h ha.h hb.h⟩
theorem acH {op:UnaryOp} {r:V->Hp->VK->Prop} (ho:RU X (unaryOp op) r) (ha:SE X a ta):SE X (.UnaryOp op a pos) (tUn r ta):=⟨O1 ho.h ha.h⟩
theorem Yh {r:V->List V->Hp->VK->Prop} (pa:PlainAttrs T) (slot:Slot T name id) (hty:typeOf (.builtin id)=pure (.type "method_descriptor")) (hm:RM X id r) (ho:SE X o to) (ha:SA X (e :: es) t)
   (hbase:attributeBase o name X.env (eval o X.env)=eval o X.env:=by rfl)
   (hfew:((backTo cpos (starEach (e :: es) X.env)).all (λx=>!x.1) && (backToKw cpos (keywordEach [] X.env)).all (λx=>x.1.isSome)
     && decide ((e :: es).length+([]:List aoD).length+(if ([]:List aoD).isEmpty then 0 else 1)<30))=true:=by rfl)
   (hline:(apos.endLine == cpos.line)=true:=by rfl) (hs:starEach (e :: es) X.env=(false,eval e X.env) :: starEach es X.env:=by rfl) (hplain:(backTo cpos (starEach es X.env)).any (·.1)=false:=by rfl) :
   SE X (.Call (.Attribute o name apos) (e :: es) [] cpos) (Zn X.K T r to t):=⟨nu pa slot hty hm.h ho.h ha.h hbase hfew hline hs hplain⟩
theorem Bw {l:Expr} {tl:TE} (hl:SE X l tl):SI X tg l (uK X.K tl):=⟨cX hl.h⟩
theorem Bx {i:Nat} (hN:X.N.Nodup) (hi:X.N[i]?=some x) (hx:Loc X.env.scope x) (hf:X.fn x=true\/X.env.scope.names.lookup x=some .local:=by first | exact .inl rfl | exact .inr rfl | assumption):SG X (.Name x pos) (iK i):=⟨bD hN hi hx hf⟩
theorem sE {t:TS} (h1:SS X st t) (h2:SSs X rest u):SSs X (st :: rest) (yW t u):=⟨aq h1.h h2.h⟩
theorem vI {t:TS} (h1:SS X st t):SSs X [st] t:=⟨aG h1.h⟩
theorem Qf {i:Nat} (hN:X.N.Nodup) (hi:X.N[i]?=some x) (hx:Loc X.env.scope x) (he:SE X e te) (hs:swapsWith e (some (.Name x pos')) pos.line X.env=pure false:=by rfl) (hf:X.fn x=true\/X.env.scope.names.lookup x=some .local:=by first | exact .inl rfl | exact .inr rfl | assumption) :
   SS X (.Assign [.Name x pos'] e pos) (u9 te (iK i)):=⟨Oz hN hi hx he.h hs hf⟩
theorem ZL (he:SE X e te):SS X (.Return (some e) pos) (abT te):=⟨bf he.h⟩
theorem JH (he:SE X e te) (hs:swapsWith e none pos.line X.env=pure false:=by rfl):SS X (.Expr e pos) (wu te):=⟨cW he.h hs⟩
theorem GD {body:List air} {g:TG} {tb:TS} (hp:PassesOwn (model X.prog X.w) X.A X.env X.xe) (hc:X.calm=true) (hi:SI X tg iter wi) (hg:SG X tg g) (hb:SSs X body tb)
   (hs:∀ x,foldedSetIterable iter X.env x=pure x:=by intro _; rfl):SS X (.For tg iter body [] pos) (Dm wi g tb):=⟨dG hp hc hi.h hg.h hb.h hs⟩
end
end L2
namespace GF
open PySem L2
theorem JK {c:TT} {t e u:TS} {D:Ends} {σ:St} {H:Hp} (N:St->Hp->Prop) (h:∀ U:St->Hp->Prop,(∀ σ' H',N σ' H'->U σ' H')->YT c t e { D with nx:=U } σ H) (hN:∀ σ' H',N σ' H'->u D σ' H'):yW (YT c t e) u D σ H:=h (u D) hN
theorem cV {te:TE} {g:TG} {u:TS} {D:Ends} {σ:St} {H:Hp} (h:∀ U:St->Hp->Prop,U=u D->te σ H λx H1=>g x σ H1 U):yW (u9 te g) u D σ H:=h (u D) rfl
theorem bK {G:Prop} (h:∀ R:Prop,R=G->R):G:=h G rfl
noncomputable def isW:V->Bool
 | .int _=>true
 | _=>false
noncomputable def Thing (K:aaf) (H:Hp) (x:V):Prop:=(∃ T,jd K H x (.type T))/\∀ z,x=.str z->z.length<=sizeLine
noncomputable def low (c:Nat):Bool:=97<=c && c<=122
noncomputable def Dh:V->Bool
 | .str z=>decide (1<=z.length) && decide (z.length<=8) && z.cps.toList.all low
 | _=>false
noncomputable def lW (K:aaf):Sp:=λvs H Q _=>∃ x,vs=[x]/\Thing K H x/\Q (.bl (isW x)) H
noncomputable def tQ (K:aaf):Sp:=λvs H Q _=>∃ x,vs=[x]/\Thing K H x/\∀ H',Same H H'->Q (.bl (Dh x)) H'
section
variable {P:abt} {w:acU} {K:aaf} {mg:Str->Option aat} {base:afp} {t8 t6 tR tL:Tok}
theorem ZM {H:Hp} {x:V} {T:String} (h:jd K H x (.type T)):(Bu T "int" && !Bu T "bool")=isW x:=by
 cases h <;> rfl
theorem ZP (c:Nat):(!decide ((⟨#[c]⟩:Str).cps.toList<("a" : Str).cps.toList))=decide (97<=c)/\(!decide (("z" : Str).cps.toList<(⟨#[c]⟩:Str).cps.toList))=decide (c<=122):=by
 have ea:("a" : Str).cps.toList=[97]:=by decide +kernel
 have ez:("z" : Str).cps.toList=[122]:=by decide +kernel
 have es:(⟨#[c]⟩:Str).cps.toList=[c]:=rfl;rw [ea,ez,es];constructor
 . rw [aen]; simp [lt1]
 . rw [aen]; simp [lt1]
end
structure Good (z:Str):Prop where
 lo:1<=z.length
 hi:z.length<=8
 all:∀ c∈z.cps.toList,low c=true
theorem Good.Dh {z:Str} (g:Good z):GF.Dh (.str z)=true:=by
 have h:z.cps.toList.all low=true:=abP.mpr g.all;simp [GF.Dh,g.lo,g.hi,h]
theorem Good.thing {K:aaf} {H:Hp} {z:Str} (g:Good z):Thing K H (.str z):=⟨⟨_,.str z⟩,λy e=>by cases e; have:=g.hi; have jH:sizeLine=16777216:=aby; omega⟩
theorem tU {K:aaf} {H:Hp} {i:Int}:Thing K H (.int i):=⟨⟨_,.int i⟩,λy e=>by cases e⟩
noncomputable abbrev Row:=Str × Int
structure aL where
 name:Str
 low:Int
 high:Int
 aW:Int
 runs:List (List Row)
noncomputable abbrev Letter:=(Str × Str) × Int × Option Int
noncomputable def nM:Option Int->V
 | none=>.non
 | some i=>.int i
noncomputable def fB (H:Hp) (v:V) (r:Row):Prop:=∃ a,v=.ref a/\H a=some (.tup [.str r.1,.int r.2])
noncomputable def nQ (H:Hp) (v:V) (rs:List Row):Prop:=∃ a vs,v=.ref a/\H a=some (.tup vs)/\abG (fB H) vs rs
noncomputable def tW (H:Hp) (v:V) (rs:List (List Row)):Prop:=∃ a vs,v=.ref a/\H a=some (.tup vs)/\abG (nQ H) vs rs
noncomputable def gq (H:Hp) (v:V) (h:aL):Prop:=∃ a b,v=.ref a/\H a=some (.tup [.str h.name,.int h.low,.int h.high,.int h.aW,b])/\tW H b h.runs
noncomputable def j4 (H:Hp) (v:V) (hs:List aL):Prop:=∃ a vs,v=.ref a/\H a=some (.tup vs)/\abG (gq H) vs hs
noncomputable def aR (H:Hp) (v:V) (l:Letter):Prop:=∃ a,v=.ref a/\H a=some (.tup [.str l.1.1,.str l.1.2,.int l.2.1,nM l.2.2])
noncomputable def jk (H:Hp) (v:V) (ls:List Letter):Prop:=∃ a vs,v=.ref a/\H a=some (.tup vs)/\abG (aR H) vs ls
noncomputable def dY (H:Hp) (v:V) (hs:List aL) (ls:List Letter):Prop:=∃ a x y,v=.ref a/\H a=some (.tup [x,y])/\j4 H x hs/\jk H y ls
section
variable {H H':Hp} {v:V} (s:bV H H')
include s
theorem fB.ts {r:Row} (h:fB H v r):fB H' v r:=let ⟨a,e,g⟩:=h; ⟨a,e,s _ _ g⟩
theorem nQ.ts {r:List Row} (h:nQ H v r):nQ H' v r:=let ⟨a,vs,e,g,p⟩:=h; ⟨a,vs,e,s _ _ g,aA (λ_ _ q=>fB.ts s q) p⟩
theorem tW.ts {r:List (List Row)} (h:tW H v r):tW H' v r:=let ⟨a,vs,e,g,p⟩:=h; ⟨a,vs,e,s _ _ g,aA (λ_ _ q=>nQ.ts s q) p⟩
theorem gq.ts {r:aL} (h:gq H v r):gq H' v r:=let ⟨a,b,e,g,p⟩:=h; ⟨a,b,e,s _ _ g,tW.ts s p⟩
theorem j4.ts {r:List aL} (h:j4 H v r):j4 H' v r:=let ⟨a,vs,e,g,p⟩:=h; ⟨a,vs,e,s _ _ g,aA (λ_ _ q=>gq.ts s q) p⟩
theorem aR.ts {r:Letter} (h:aR H v r):aR H' v r:=let ⟨a,e,g⟩:=h; ⟨a,e,s _ _ g⟩
theorem jk.ts {r:List Letter} (h:jk H v r):jk H' v r:=let ⟨a,vs,e,g,p⟩:=h; ⟨a,vs,e,s _ _ g,aA (λ_ _ q=>aR.ts s q) p⟩
theorem dY.ts {hs:List aL} {ls:List Letter} (h:dY H v hs ls):dY H' v hs ls:=let ⟨a,x,y,e,g,p,q⟩:=h; ⟨a,x,y,e,s _ _ g,j4.ts s p,jk.ts s q⟩
end
structure JL (rs:List Row):Prop where
 ne:rs≠[]
 few:rs.length<=25
 names:∀ r∈rs,Good r.1
 rise:(rs.map aiA).Pairwise (·<·)
structure jl (h:aL):Prop where
 name:Good h.name
 wide:h.low<=h.high
 aW:0<=h.aW
 few:h.runs.length<=25
 runs:∀ r∈h.runs,JL r
noncomputable def qH (h:aL):List Row:=h.runs.flatten
noncomputable def fG (h:aL):List Str:=(qH h).map ab5
noncomputable def namesOf (hs:List aL):List Str:=hs.flatMap fG
structure cH (hs:List aL):Prop where
 lo:1<=hs.length
 hi:hs.length<=6
 all:∀ h∈hs,jl h
 names:(hs.map aL.name).Nodup
 rows:(namesOf hs).Nodup
 few:(namesOf hs).length<=24
structure iz (hs:List aL) (l:Letter):Prop where
 sent:Good l.1.1
 taken:Good l.1.2
 least:1<=l.2.1
 most:∀ m,l.2.2=some m->l.2.1<=m
 BJ:∃ h1∈hs,∃ h2∈hs,l.1.1∈fG h1/\l.1.2∈fG h2/\h1.name≠h2.name
structure jM (hs:List aL) (ls:List Letter):Prop where
 few:ls.length<=24
 all:∀ l∈ls,iz hs l
 rise:(ls.map ab5).Pairwise (λa b=>Qd a b=true)
inductive Da where
 | non | bl (b:Bool) | int (i:Int) | str (z:Str) | tup (xs:List Da) | oth
mutual
inductive cj (H:Hp):V->Da->Prop
 | non:cj H .non .non
 | bl (b:Bool):cj H (.bl b) (.bl b)
 | int (i:Int):cj H (.int i) (.int i)
 | str (z:Str) (h:z.length<=sizeLine):cj H (.str z) (.str z)
 | tup {a:aaH} {vs:List V} {xs:List Da}:H a=some (.tup vs)->vs.length<=25->cF H vs xs->cj H (.ref a) (.tup xs)
 | lst {a:aaH} {vs:List V}:H a=some (.lst vs)->cj H (.ref a) .oth
 | Qg {a:aaH} {kvs:List (Key × V)}:H a=some (.dK kvs)->cj H (.ref a) .oth
inductive cF (H:Hp):List V->List Da->Prop
 | nil:cF H [] []
 | cons {v:V} {vs:List V} {x:Da} {xs:List Da}:cj H v x->cF H vs xs->cF H (v :: vs) (x :: xs)
end
mutual
theorem cj.same {H H':Hp} (s:Same H H'):∀ {v:V} {d:Da},cj H v d->cj H' v d
 | _,_,.non=>.non
 | _,_,.bl b=>.bl b
 | _,_,.int i=>.int i
 | _,_,.str z h=>.str z h
 | _,_,.tup h l r=>.tup (s _ _ h) l (cF.same s r)
 | _,_,.lst h=>.lst (s _ _ h)
 | _,_,.Qg h=>.Qg (s _ _ h)
theorem cF.same {H H':Hp} (s:Same H H'):∀ {v:List V} {d:List Da},cF H v d->cF H' v d
 | _,_,.nil=>.nil
 | _,_,.cons h r=>.cons (cj.same s h) (cF.same s r)
end
theorem cF.len {H:Hp}:∀ {vs:List V} {xs:List Da},cF H vs xs->vs.length=xs.length
 | _,_,.nil=>rfl
 | _,_,.cons _ r=>by rw [abD,abD,r.len]
theorem cF.get {H:Hp}:∀ {vs:List V} {xs:List Da},cF H vs xs->∀ {i:Nat} {v:V},vs[i]?=some v->∃ x,xs[i]?=some x/\cj H v x
 | _,_,.nil,i,v,e=>by simp at e
 | _,_,.cons h r,i,v,e=>by
   cases i with
   | zero=>cases (show some _=some v from e); exact ⟨_,rfl,h⟩
   | succ i=>exact r.get (by simpa using e)
theorem cF.inv {H:Hp} {vs:List V} {x:Da} {xs:List Da} (h:cF H vs (x :: xs)):∃ v r,vs=v :: r/\cj H v x/\cF H r xs:=by
 cases h with
 | cons h r=>exact ⟨_,_,rfl,h,r⟩
theorem cF.agR {H:Hp} {vs:List V} (h:cF H vs []):vs=[]:=by cases h; rfl
theorem cF.agS {H:Hp} {vs:List V} {a:Da} (h:cF H vs [a]):∃ v1,vs=[v1]/\cj H v1 a:=by
 obtain ⟨v,r,rfl,h1,h2⟩:=h.inv;obtain rfl:=h2.agR;exact ⟨_,rfl,h1⟩
theorem cF.two {H:Hp} {vs:List V} {a b:Da} (h:cF H vs [a,b]):∃ v1 v2,vs=[v1,v2]/\cj H v1 a/\cj H v2 b:=by
 obtain ⟨v,r,rfl,h1,h2⟩:=h.inv;obtain ⟨w,rfl,h3⟩:=h2.agS;exact ⟨_,_,rfl,h1,h3⟩
theorem cF.four {H:Hp} {vs:List V} {a b c d:Da} (h:cF H vs [a,b,c,d]):∃ v1 v2 v3 v4,vs=[v1,v2,v3,v4]/\cj H v1 a/\cj H v2 b/\cj H v3 c/\cj H v4 d:=by
 obtain ⟨v,r,rfl,h1,h2⟩:=h.inv;obtain ⟨w,r,rfl,h3,h4⟩:=h2.inv;obtain ⟨x,y,rfl,h5,h6⟩:=h4.two;exact ⟨_,_,_,_,rfl,h1,h3,h5,h6⟩
theorem vJ {n:Nat} {xs:List Da} (h:xs.length=n+1):∃ x r,xs=x :: r/\r.length=n:=by
 cases xs with
 | nil=>cases h
 | cons x r=>exact ⟨x,r,rfl,Nat.succ.inj h⟩
theorem len2 {xs:List Da} (h:xs.length=2):∃ a b,xs=[a,b]:=by
 obtain ⟨a,r1,rfl,h1⟩:=vJ h;obtain ⟨b,r2,rfl,h2⟩:=vJ h1;obtain rfl:=aeu h2;exact ⟨a,b,rfl⟩
theorem agT {xs:List Da} (h:xs.length=4):∃ a b c d,xs=[a,b,c,d]:=by
 obtain ⟨a,r1,rfl,h1⟩:=vJ h;obtain ⟨b,r2,rfl,h2⟩:=vJ h1;obtain ⟨c,d,rfl⟩:=len2 h2;exact ⟨a,b,c,d,rfl⟩
theorem cj.ZQ {H:Hp} {v:V} {xs:List Da} (h:cj H v (.tup xs)):∃ a vs,v=.ref a/\H a=some (.tup vs)/\vs.length<=25/\cF H vs xs:=by
 cases h with
 | tup h l r=>exact ⟨_,_,rfl,h,l,r⟩
noncomputable def ZR:Da->Bool
 | .tup _=>true
 | _=>false
noncomputable def gA:Da->Bool
 | .int _=>true
 | _=>false
noncomputable def qF:Da->Bool
 | .str z=>Dh (.str z)
 | _=>false
noncomputable def intD:Da->Int
 | .int i=>i
 | _=>0
noncomputable def GJ (d:Da) (n:Nat):Bool:=match d with
 | .tup xs=>decide (xs.length=n)
 | _=>false
noncomputable def agU:Da->Bool
 | .tup [a,b]=>qF a && gA b
 | _=>false
noncomputable def BK (n l h d:Da):Bool:=qF n && ((gA l && (gA h && gA d)) && (decide (intD l<=intD h) && decide (0<=intD d)))
noncomputable def zX (l:Int):Da->Bool
 | .non=>true
 | .int i=>decide (l<=i)
 | _=>false
noncomputable def bG:Da->Bool
 | .tup [s,t,l,m]=>qF s && (qF t && (gA l && (decide (1<=intD l) && zX (intD l) m)))
 | _=>false
theorem cj.kind {K:aaf} {H:Hp} {v:V} {d:Da} (h:cj H v d):Thing K H v/\(∃ T,jd K H v (.type T)/\abf K (.type T) (.type "tuple")=some (ZR d))/\isW v=gA d/\Dh v=qF d:=by
 cases h with
 | non=>exact ⟨⟨⟨_,.non⟩,λz e=>by cases e⟩,⟨_,.non,(Bv (K:=K) (jd.non (H:=H))).2.2.2⟩,rfl,rfl⟩
 | bl b=>exact ⟨⟨⟨_,.bl b⟩,λz e=>by cases e⟩,⟨_,.bl b,(Bv (K:=K) (jd.bl (H:=H) b)).2.2.2⟩,rfl,rfl⟩
 | int i=>exact ⟨⟨⟨_,.int i⟩,λz e=>by cases e⟩,⟨_,.int i,(Bv (K:=K) (jd.int (H:=H) i)).2.2.2⟩,rfl,rfl⟩
 | str z hz=>exact ⟨⟨⟨_,.str z⟩,λy e=>by cases e; exact hz⟩,⟨_,.str z,(Bv (K:=K) (jd.str (H:=H) z)).2.2.2⟩,rfl,rfl⟩
 | tup e l r=>exact ⟨⟨⟨_,.tup e⟩,λz e=>by cases e⟩,⟨_,.tup e,(Bv (K:=K) (jd.tup e)).2.2.2⟩,rfl,rfl⟩
 | lst e=>exact ⟨⟨⟨_,.lst e⟩,λz e=>by cases e⟩,⟨_,.lst e,(Bv (K:=K) (jd.lst e)).2.2.2⟩,rfl,rfl⟩
 | Qg e=>exact ⟨⟨⟨_,.dK e⟩,λz e=>by cases e⟩,⟨_,.dK e,(Bv (K:=K) (jd.dK e)).2.2.2⟩,rfl,rfl⟩
noncomputable def spD (f:Da->Bool):Sp:=λvs H Q _=>∃ (x:V) (d:Da),vs=[x]/\cj H x d/\∀ H',Same H H'->Q (.bl (f d)) H'
noncomputable def vK:Sp:=λvs H Q _=>∃ (x:V) (d:Da) (n:Nat),vs=[x,.int (n:Int)]/\cj H x d/\Q (.bl (GJ d n)) H
noncomputable def BL:Sp:=λvs H Q _=>∃ (x0 x1 x2 x3:V) (d0 d1 d2 d3:Da),vs=[x0,x1,x2,x3]/\cj H x0 d0/\cj H x1 d1/\cj H x2 d2/\cj H x3 d3/\∀ H',Same H H'->Q (.bl (BK d0 d1 d2 d3)) H'
theorem sG {K:aaf} {H H':Hp} {a:aaH} {xs:List V} (s:Same H H') (h:cG K H a xs):cG K H' a xs:=by
 rcases h with (h | ⟨o,h⟩) | h
 . exact .inl (.inl (s _ _ h))
 . exact .inl (.inr ⟨o,s _ _ h⟩)
 . exact .inr h
section
variable {P:abt} {w:acU} {K:aaf} {mg:Str->Option aat} {base:afp} {t8 t6 tR tL:Tok}
end
end GF
namespace GF
open PySem L2
section
variable {P:abt} {w:acU} {K:aaf} {mg:Str->Option aat} {base:afp} {t8 t6 tR tL:Tok}
end
noncomputable def wO:Sp:=λvs H Q _=>∃ (a:aaH) (ss:List Str),vs=[.ref a]/\H a=some (.lst (ss.map V.str))/\ss.length<=3800/\∀ H',Same H H'->Q (.bl (decide ss.Nodup)) H'
theorem zY {ks:List Key}:∀ i,i<=ks.length->(dD ks i).length=i->(ks.take i).Nodup
 | 0,_,_=>by rw [aie]; exact anM
 | i+1,hi,h=>by
   have hk:ks[i]?=some ks[i]:=aaj (by omega);have le:=vH ks i;rw [pI hk] at h;cases q:vG (dD ks i) ks[i] with
   | true=>rw [q,if_pos rfl] at h; omega
   | false =>
     rw [q,if_neg aaK,aay] at h;have h':(dD ks i).length=i:=by simpa using h
     have ih:=zY i (by omega) h';have e:dD ks i=ks.take i:=zZ i (by omega) h';rw [abz,hk];rw [aeS];refine ⟨ih,by simp,λa ha b hb z=>?_⟩;have hb':b=ks[i]:=by simpa using hb
     rw [hb'] at z;rw [e] at q;have:=JB.mpr (show ks[i]∈ks.take i by rw [<- z]; exact ha);rw [q] at this; cases this
where zZ:∀ i,i<=ks.length->(dD ks i).length=i->dD ks i=ks.take i
 | 0,_,_=>rfl
 | i+1,hi,h=>by
   have hk:ks[i]?=some ks[i]:=aaj (by omega);have le:=vH ks i;rw [pI hk] at h |-;cases q:vG (dD ks i) ks[i] with
   | true=>rw [q,if_pos rfl] at h; omega
   | false =>
     rw [q,if_neg aaK,aay] at h;rw [if_neg aaK,zZ i (by omega) (by simpa using h),abz,hk];rfl
section
variable {P:abt} {w:acU} {K:aaf} {mg:Str->Option aat} {base:afp} {t8 t6 tR tL:Tok}
end
noncomputable def nU (h:aL):List (Str × Str):=(qH h).map λr=>(r.1,h.name)
noncomputable def pairsOf (hs:List aL):List (Str × Str):=hs.flatMap nU
theorem GK (h:aL):(nU h).map ab5=fG h:=by unfold nU fG; rw [afn]; rfl
theorem nY (hs:List aL):(pairsOf hs).map ab5=namesOf hs:=by
 unfold pairsOf namesOf;rw [akN];congr 1
 funext h
 exact GK h
noncomputable def JM (ps:List (Str × Str)) (n:Str):Option Str:=(ps.find? λp=>decide (p.1=n)).map aiA
theorem acI {X:Cx}:gC X (compareOp .Eq) (fS λi j=>.bl (decide (i=j))):=by
 intro pins s σ H x y v u Q I rx ry q;refine wA pins s σ H x y v u Q I rx ry ?_
 cases x <;> cases y <;> first
   | exact (show False from q).elim
   | (refine ⟨rfl,?_⟩
      rename_i i j
      have e:decide (V.str i=V.str j)=decide (i=j):=by rw [aen]; simp
      rw [e]; exact q)
section
variable {P:abt} {w:acU} {K:aaf} {mg:Str->Option aat} {base:afp} {t8 t6 tR tL:Tok}
end
open Builtin.Int in
theorem acJ {X:Cx}:gC X (binaryOp .Mult) (Oj IntMulOk λi j=>.int (i * j)):=(opI λ_ _ _ _ _ _ _ hc q=>PyProof.Rows.mul_int q hc:gC X (binaryOp .Mult) (rI IntMulOk λi j=>.int (i * j))).Oj
noncomputable def Qh (n:Int):Prop:=alQ n<=1048576
noncomputable def BP:Sp:=λvs H Q _=>∃ c:Int,vs=[.int c]/\alQ c<=2000000/\∀ n:Int,0<=n->Q (.int n) H
noncomputable def bU (H:Hp) (p:aaH):Prop:=∃ n:Int,H p=some (.lst [.int n])/\0<=n
noncomputable def BR (K:aaf):Sp:=λvs H Q _=>∃ (a:aaH) (ns:List Int) (k:Int),vs=[.ref a,.int k]/\cG K H a (ns.map V.int)/\(∀ n∈ns,Qh n)/\ns.length<=63/\0<=k/\k<=1000/\∀ (p:aaH) (H':Hp),H p=none->bU H' p->Same H H'->Q (.ref p) H'
noncomputable def n6:Sp:=λvs H Q _=>∃ (p:aaH) (m:Int),vs=[.ref p,.int m]/\bU H p/\0<m/\m<1073741824/\∀ (d:Int) (H':Hp),0<=d->d<m->bU H' p->aY p H H'->Q (.int d) H'
section
variable {P:abt} {w:acU} {K:aaf} {mg:Str->Option aat} {base:afp} {t8 t6 tR tL:Tok}
end
noncomputable def Qi:List Nat:=(acF 26).map (97+·)
noncomputable def Qj (t:Nat):List Nat:=Qi.drop t++Qi.take t
noncomputable def oh (t sz pick k:Nat):List Nat :=
 if pick=0 then aft (1+k % 8) ((Qj t).getD (k / 8) 0) else if pick=1 then (Qj t).getD (k % 26) 0 :: ((Qj t).drop 4).take sz else ((Qj t).drop 4).take sz++[(Qj t).getD (k % 26) 0]
noncomputable def JN (l:List (List Nat)):Bool:=decide l.Nodup && l.all λs=>decide (1<=s.length) && decide (s.length<=8) && s.all low
noncomputable def qL:List Nat:=[113,113,113,113,113,113,113,114]
noncomputable def qS:Str:=⟨qL.toArray⟩
theorem BW:((acF 26).all λt=>(acF 8).all λsz=>(acF 3).all λpick=>(acF 12).all λk=>!decide (oh t sz pick k=qL))=true:=by decide +kernel
theorem DP:((acF 26).all λt=>(acF 8).all λsz=>(acF 3).all λpick=>JN ((acF 12).map (oh t sz pick)))=true:=by decide +kernel
noncomputable def nameS (t sz pick k:Nat):Str:=⟨(oh t sz pick k).toArray⟩
noncomputable def dH (t sz pick:Nat):List Str:=(acF 12).map (nameS t sz pick)
theorem Ly {t sz pick:Nat} (ht:t<26) (hz:sz<8) (hp:pick<3):(dH t sz pick).Nodup/\∀ s∈dH t sz pick,Good s:=by
 have h:=abP.mp (abP.mp (abP.mp DP t (adv.mpr ht)) sz (adv.mpr hz)) pick (adv.mpr hp);unfold JN at h;obtain ⟨h1,h2⟩:=abr.mp h;have h1':=of_decide_eq_true h1;constructor
 . unfold dH;rw [abJ,ado] at h1' |-;refine h1'.imp λ{a b} z e=>z ?_
   have:=congrArg (λs:Str=>s.cps.toList) e;simpa [nameS] using this
 . intro s hs;obtain ⟨k,hk,rfl⟩:=abj.mp hs;have h3:=abP.mp h2 (oh t sz pick k) (abj.mpr ⟨k,hk,rfl⟩);obtain ⟨h4,h5⟩:=abr.mp h3;obtain ⟨h6,h7⟩:=abr.mp h4;refine ⟨?_,?_,λc hc=>abP.mp h5 c (by simpa [nameS] using hc)⟩
   . have:=of_decide_eq_true h6; simpa [nameS,aku] using this
   . have:=of_decide_eq_true h7; simpa [nameS,aku] using this
theorem Qk {t sz pick:Nat} (ht:t<26) (hz:sz<8) (hp:pick<3):∀ s∈dH t sz pick,s≠qS:=by
 intro s hs e;obtain ⟨k,hk,rfl⟩:=abj.mp hs;have h:=abP.mp (abP.mp (abP.mp (abP.mp BW t (adv.mpr ht)) sz (adv.mpr hz)) pick (adv.mpr hp)) k hk;have:=congrArg (λs:Str=>s.cps.toList) e;have e2:oh t sz pick k=qL:=by simpa [nameS,qS] using this
 rw [e2] at h;exact absurd h (by decide)
noncomputable def abc:Str:="abcdefghijklmnopqrstuvwxyz"
theorem ZS:abc.cps.toList=Qi:=by decide +kernel
theorem vN {t:Nat} (h:t<=26):(Qj t).length=26:=by
 unfold Qj;rw [aay,afQ,abI,show Qi.length=26 by decide];omega
theorem BX:abc.length=26:=by decide +kernel
theorem Ql {t:Nat} (ht:t<=26):(agP abc (some (t:Int)) none++agP abc none (some (t:Int))).cps.toList=Qj t:=by
 rw [app_list,PB,wM];unfold Pz Qj;rw [HT.jJ,HT.rO,BX,ZS,aiv ht,adT (by rw [afQ,show Qi.length=26 by decide]; omega)]
theorem wQ {l:List Nat} {k:Int} (h0:0<=k) (h1:k<l.length):zO l k=some (l.getD k.toNat 0):=by
 obtain ⟨n,rfl⟩:=adQ h0;refine je ?_;have hn:n<l.length:=by omega
 rw [aaj hn];simp [ahK,hn]
section
variable {P:abt} {w:acU} {K:aaf} {mg:Str->Option aat} {base:afp} {t8 t6 tR tL:Tok}
end
noncomputable def Lz (r:Row):ajb:=.tuple [.str r.1,.int r.2]
noncomputable def wR (rs:List Row):ajb:=.list (rs.map Lz)
theorem Good.ok {z:Str} (g:Good z):PyData.strOk z=true:=by
 unfold PyData.strOk;rw [Array.all_eq_true_iff_forall_mem];intro c hc;have h:=g.all c (by simpa using hc);unfold low at h;have h2:=of_decide_eq_true (abr.mp h).2;exact decide_eq_true (by omega)
theorem DQ:∀ {rs:List Row},(∀ r∈rs,Good r.1)->aiu (wR rs)=true:=by
 intro rs h
 have h1:adA (rs.map Lz)=true:=by
   induction rs with
   | nil=>rfl
   | cons r rs ih =>
     rw [abn];unfold adA;rw [ih λq hq=>h q (abk _ hq),Bool.and_true];unfold Lz agz adA;have z:=(h r abw).ok;simp [agz,adA,z]
 have h2:afr (rs.map Lz)<=1:=by
   clear h h1
   induction rs with
   | nil=>exact abH _
   | cons r rs ih =>
     rw [abn];unfold afr;have e:agB (Lz r)=1:=by simp [Lz,agB,afr]
     rw [e];omega
 unfold aiu wR;rw [adB];refine ⟨?_,?_⟩
 . unfold agz; exact h1
 . unfold agB; exact decide_eq_true (by omega)
theorem VJ {K:aaf} {H:Hp} {a:aaH} {vs:List V} {rs:List Row} (ha:H a=some (.lst vs)) (p:abG (fB H) vs rs):Dp K H (.ref a) (wR rs):=by
 refine .lst (cG.of ha) ?_;clear ha
 induction p with
 | nil=>exact .nil
 | cons h _ ih =>
   obtain ⟨b,rfl,hb⟩:=h;exact .cons (.tup (bQ.of hb) (.cons (.str _) (.cons (.int _) .nil))) ih
theorem Qm (rs:List Row):ahH (wR rs) (.list [])=rs.isEmpty:=by
 cases rs with
 | nil=>simp [wR,ahH,aom]
 | cons r rs=>simp [wR,ahH,aom]
structure Yi (K:aaf) (x y:V) (H:Hp) (Q:VK):Prop where
 h:acr K x y H Q
theorem GP {X:Cx} (hu:X.A.units+64<cLine):gC X (compareOp .NotEq) (Yi X.K):=λpins s σ H x y v u Q I rx ry h=>Bt hu pins s σ H x y v u Q I rx ry h.h
theorem Qn {K:aaf} {H:Hp} {a l:aaH} {vs:List V} {rs:List Row} {Q:VK} (ha:H a=some (.lst vs)) (p:abG (fB H) vs rs) (g:∀ r∈rs,Good r.1) (hl:H l=some (.lst [])) (q:Q (.bl (!rs.isEmpty)) H):Yi K (.ref a) (.ref l) H Q :=
 ⟨wR rs,.list [],VJ ha p,.lst (cG.of hl) .nil,DQ g,rfl,by rw [Qm]; exact q⟩
theorem DR {α:Type} {xs:List α} {x:α}:zO (xs++[x]) (-1)=some x:=by
 unfold zO Vj;have e:(xs++[x]).length=xs.length+1:=by simp
 rw [e,if_neg (by decide),if_pos (by omega)];have e2:((-1:Int)+((xs.length+1:Nat):Int)).toNat=xs.length:=by omega
 rw [e2];simp
structure HS (H0:Hp) (p R D:aaH) (ss:List Str) (room:Int) (H:Hp) (vr:List V) (kvs:List (Key × V)) (runs:List (List Row)) (m:Nat):Prop where
 pack:bU H p
 same:aY p H0 H
 hR:H R=some (.lst vr)
 pR:abG (nQ H) vr runs
 hD:H D=some (.dK kvs)
 keys:kvs.map (·.1)=(ss.take m).map acW
 vals:∀ n∈ss.take m,∃ i:Int,cL kvs (.inr n)=some (.int i)
 le:m<=ss.length
 rm:(m:Int)<=room\/m=0
 good:∀ r∈runs,JL r
theorem aY.tups {p:aaH} {H H':Hp} (hp:bU H p) (s:aY p H H'):bV H H':=λb xs e=>s b _ (λz=>by obtain ⟨n,e',_⟩:=hp; rw [z,e'] at e; cases e) e
section
variable {H0 H H':Hp} {p R D:aaH} {ss:List Str} {room:Int} {vr:List V} {kvs:List (Key × V)} {runs:List (List Row)} {m:Nat}
theorem HS.step (h:HS H0 p R D ss room H vr kvs runs m) (nR:R≠p) (nD:D≠p) (pk:bU H' p) (s:aY p H H'):HS H0 p R D ss room H' vr kvs runs m :=
 ⟨pk,h.same.trans s,s _ _ nR h.hR,aA (λ_ _ z=>z.ts (aY.tups h.pack s)) h.pR,s _ _ nD h.hD,h.keys,h.vals,h.le,h.rm,h.good⟩
theorem bU.new {q:aaH} {o:HO} (h:bU H p) (hq:H q=none):bU (upd H q o) p:=by
 obtain ⟨n,e,n0⟩:=h;exact ⟨n,by rw [aB (aH e hq)]; exact e,n0⟩
theorem bU.put {q:aaH} {o:HO} (h:bU H p) (hq:q≠p):bU (upd H q o) p:=by
 obtain ⟨n,e,n0⟩:=h;exact ⟨n,by rw [aB (acV hq)]; exact e,n0⟩
theorem HS.new {q:aaH} {o:HO} (h:HS H0 p R D ss room H vr kvs runs m) (nR:R≠p) (nD:D≠p) (hq:H q=none):HS H0 p R D ss room (upd H q o) vr kvs runs m :=
 h.step nR nD (h.pack.new hq) ((aY.of (Same.refl H)).new hq)
theorem DW {kvs:List (Key × V)} {k:Key} {v:V} (h:k ∉ kvs.map (·.1)):putK kvs k v=kvs++[(k,v)]:=by
 unfold putK;rw [if_neg];intro z;obtain ⟨x,hx,e⟩:=ah4.mp z;exact h (abj.mpr ⟨x,hx,of_decide_eq_true e⟩)
theorem wU {n:Str} (hm:ss[m]?=some n):ss.take (m+1)=ss.take m++[n]:=by rw [abz,hm]; rfl
theorem Aa {n:Str} (nd:ss.Nodup) (hm:ss[m]?=some n):n ∉ ss.take m:=λz=>by
 obtain ⟨j,hj,ej⟩:=anF.mp z;obtain ⟨hl,el⟩:=abE.mp hm;rw [abI] at hj;rw [amr] at ej;have:=(ah2 (i:=j) (j:=m) (h₀:=by omega) (h₁:=hl) nd).mp (ej.trans el.symm);omega
theorem HS.put {L tp:aaH} {vl:List V} {rs:List Row} {n:Str} {mo rd:Int} (h:HS H0 p R D ss room H vr kvs runs m) (nR:R≠p) (nD:D≠p) (nRD:R≠D) (nL:L≠p) (nLR:L≠R) (nLD:L≠D) (f0:H0 D=none) (fL:H0 L=none)
   (nd:ss.Nodup) (hm:ss[m]?=some n) (hr:(m:Int)<room) (hL:H L=some (.lst vl)) (pl:abG (fB H) vl rs) (ht:upd H D (.dK (putK kvs (.inr n) (.int mo))) tp=none) :
   HS H0 p R D ss room (upd (upd (upd H D (.dK (putK kvs (.inr n) (.int mo)))) tp (.tup [.str n,.int rd])) L (.lst (vl++[.ref tp]))) vr (putK kvs (.inr n) (.int mo)) runs (m+1) /\
   abG (fB (upd (upd (upd H D (.dK (putK kvs (.inr n) (.int mo)))) tp (.tup [.str n,.int rd])) L (.lst (vl++[.ref tp])))) (vl++[.ref tp]) (rs++[(n,rd)]):=by
 have t1:bV H (upd H D (.dK (putK kvs (.inr n) (.int mo)))):=(bV.refl H).put h.hD (λ_ z=>nomatch z);have t2:bV H (upd (upd H D (.dK (putK kvs (.inr n) (.int mo)))) tp (.tup [.str n,.int rd])):=t1.new ht;have hL1:upd H D (.dK (putK kvs (.inr n) (.int mo))) L=some (.lst vl):=by rw [aB nLD]; exact hL
 have nLt:L≠tp:=aH hL1 ht;have hL2:upd (upd H D (.dK (putK kvs (.inr n) (.int mo)))) tp (.tup [.str n,.int rd]) L=some (.lst vl):=by rw [aB nLt]; exact hL1
 have t3:=t2.put (o:=.lst (vl++[.ref tp])) hL2 (λ_ z=>nomatch z);have hle:m<ss.length:=(abE.mp hm).1
 have agV:(acW n:Key) ∉ kvs.map (·.1):=λz=>by
   rw [h.keys] at z;obtain ⟨y,hy,e⟩:=abj.mp z;exact Aa nd hm (by rw [<- ahL e]; exact hy)
 refine ⟨⟨((h.pack.put nD).new ht).put nL,?_,?_,aA (λ_ _ z=>z.ts t3) h.pR,?_,?_,?_,hle,.inl (by omega),h.good⟩,?_⟩
 . intro b o hb e;have n1:b≠D:=aH e f0;have n2:b≠L:=aH e fL;have e1:upd H D (.dK (putK kvs (.inr n) (.int mo))) b=some o:=by rw [aB n1]; exact h.same b o hb e
   rw [aB n2,aB (aH e1 ht)];exact e1
 . have e1:upd H D (.dK (putK kvs (.inr n) (.int mo))) R=some (.lst vr):=by rw [aB nRD]; exact h.hR
   rw [aB (acV nLR),aB (aH e1 ht)];exact e1
 . have e1:upd H D (.dK (putK kvs (.inr n) (.int mo))) D=some (.dK (putK kvs (.inr n) (.int mo))):=au;rw [aB (acV nLD),aB (aH e1 ht)];exact e1
 . rw [DW agV,abp,h.keys,wU hm,abp]; rfl
 . intro x hx;rw [wU hm] at hx;rw [wG];by_cases e:(acW x:Key)=acW n
   . exact ⟨mo,if_pos e⟩
   . rw [if_neg e];rcases abv.mp hx with z | z
     . exact h.vals x z
     . exact absurd (by rw [abe.mp z]) e
 . refine bC (aA (λ_ _ z=>z.ts t3) pl) (.cons ⟨tp,rfl,?_⟩ .nil);rw [aB (acV nLt),au]
end
theorem LC {rs:List Row} {n:Str} {rd:Int} (h:(rs.map aiA).Pairwise (·<·)) (g:∀ r∈rs,r.2<rd):((rs++[(n,rd)]).map aiA).Pairwise (·<·):=by
 rw [abp,anH];refine ⟨h,amE _ _,λa ha b hb=>?_⟩;obtain ⟨r,hr,rfl⟩:=abj.mp ha;have e:b=rd:=by simpa using hb
 rw [e]; exact g r hr
theorem Yj {a b c e d:Int} (h0:0<=d) (h4:d<4) (ha:0<=a/\a<=300) (hb:0<=b/\b<=300) (hc:0<=c/\c<=300) (he:0<=e/\e<=300):∃ w:Int,zO [V.int a,.int b,.int c,.int e] d=some (.int w)/\0<=w/\w<=300:=by
 obtain ⟨n,rfl⟩:=adQ h0
 match n,h4 with
 | 0,_=>exact ⟨a,rfl,ha⟩
 | 1,_=>exact ⟨b,rfl,hb⟩
 | 2,_=>exact ⟨c,rfl,hc⟩
 | 3,_=>exact ⟨e,rfl,he⟩
 | n+4,h=>exact absurd h (by omega)
noncomputable def NvR (p ln R D L:aaH) (nm:Str) (room low wide aW GQ mo:Int) (m:Nat) (x11 x14:V) (H:Hp) (ss:List Str) (vr vl:List V) (kvs:List (Key × V)) (runs:List (List Row)) (rs:List Row) (F:Int->Prop):St->Hp->Prop:=fun σ' H'=>∃ rd:Int,σ'=[some (.ref p),some (.str nm),some (.ref ln),some (.int room),some (.int low),some (.int wide),some (.int aW),some (.int mo),some (.ref R),some (.ref D),some (.int (m:Int)),some x11,some (.int (low+GQ)),some (.ref L),some x14,some (.int rd)]/\HS H p R D ss room H' vr kvs runs m/\H' L=some (.lst vl)/\abG (fB H') vl rs/\F rd
section
variable {P:abt} {w:acU} {K:aaf} {mg:Str->Option aat} {base:afp} {t8 t6 tR tL:Tok}
end
theorem acM {X:Cx}:gC X (compareOp .NotEq) (fS λi j=>.bl (!decide (i=j))):=by
 intro pins s σ H x y v u Q I rx ry q;refine O4 pins s σ H x y v u Q I rx ry ?_
 cases x <;> cases y <;> first
   | exact (show False from q).elim
   | (refine ⟨rfl,?_⟩
      rename_i i j
      have e:decide (V.str i=V.str j)=decide (i=j):=by rw [aen]; simp
      rw [e]; exact q)
theorem Qo {κ:Type} [DecidableEq κ] {kvs:List (κ × V)} {k:κ} {v:V} {x:κ × V} (h:x∈putK kvs k v):x=(k,v)\/x∈kvs:=by
 unfold putK at h;split at h
 . obtain ⟨y,hy,e⟩:=abj.mp h;split at e
   . rename_i c
     exact .inl (by rw [<- e,c])
   . exact .inr (by rw [<- e]; exact hy)
 . rcases abv.mp h with z | z
   . exact .inr z
   . exact .inl (abe.mp z)
theorem Qp {κ:Type} [DecidableEq κ] {kvs:List (κ × V)} {k:κ} (h:k∈kvs.map (·.1)):∃ v,cL kvs k=some v/\(k,v)∈kvs:=by
 induction kvs with
 | nil=>simp at h
 | cons x r ih =>
   by_cases e:x.1=k
   . refine ⟨x.2,cT e,?_⟩;rw [<- e]; exact abw
   . rw [abn] at h;rcases abu.mp h with z | z
     . exact absurd z.symm e
     . obtain ⟨v,h1,h2⟩:=ih z;exact ⟨v,by rw [cO e]; exact h1,abk _ h2⟩
noncomputable def qI (kvs:List (Key × V)) (ps:List (Str × Str)):Prop:=∀ p∈ps,cL kvs (.inr p.1)=some (.str p.2)
theorem qI.put {kvs:List (Key × V)} {ps:List (Str × Str)} {p:Str × Str} (h:qI kvs ps) (n:∀ q∈ps,q.1≠p.1):qI (putK kvs (.inr p.1) (.str p.2)) (ps++[p]):=λq hq=>by
 rw [wG];rcases abv.mp hq with z | z
 . rw [if_neg (λe=>n q z (ahL e))]; exact h q z
 . rw [abe.mp z,if_pos rfl]
noncomputable def vO (hs:List aL) (H:Hp) (kf:List (List Key × V)):Prop:=∀ kv∈kf,∃ l:Letter,kv.1=kP l.1/\aR H kv.2 l/\iz hs l
theorem vO.keys {hs:List aL} {H:Hp}:∀ {kf:List (List Key × V)},vO hs H kf->∃ ks:List (Str × Str),kf.map (·.1)=ks.map kP/\ks.length=kf.length
 | [],_=>⟨[],rfl,rfl⟩
 | kv :: r,h=>by
   obtain ⟨l,e,_⟩:=h kv abw;obtain ⟨ks,e2,e3⟩:=vO.keys (kf:=r) λx hx=>h x (abk _ hx)
   exact ⟨l.1 :: ks,by rw [abn,abn,e,e2],by simp [e3]⟩
noncomputable def dB (nm:Str) (r:List Row):List (Str × Str):=r.map λx=>(x.1,nm)
theorem uT (h:aL):nU h=h.runs.flatMap (dB h.name):=by
 unfold nU qH dB;rw [List.map_flatten,List.flatMap_def]
theorem DX {hs:List aL} {kvs:List (Key × V)} {n:Str} (ow:qI kvs (pairsOf hs)) (h:n∈namesOf hs):∃ hh∈hs,n∈fG hh/\cL kvs (.inr n)=some (.str hh.name):=by
 obtain ⟨hh,m,hn⟩:=aef.mp h;refine ⟨hh,m,hn,ow (n,hh.name) (aef.mpr ⟨hh,m,?_⟩)⟩;obtain ⟨r,hr,er⟩:=abj.mp hn;exact abj.mpr ⟨r,hr,by rw [er]⟩
theorem wV {hs:List aL} (g:∀ h∈hs,jl h) {n:Str} (h:n∈namesOf hs):Good n:=by
 obtain ⟨hh,m,hn⟩:=aef.mp h;obtain ⟨r,hr,er⟩:=abj.mp hn;obtain ⟨run,hrun,hr2⟩:=akO.mp hr;rw [<- er];exact ((g hh m).runs run hrun).names r hr2
noncomputable def PvC (p lh dh O:aaH) (hs:List aL) (H:Hp):Nat->St->Hp->Prop:=λi σ H'=>∃ (kv:List (Key × V)) (o4 o5 o6 o7:Option V),σ=[some (.ref p),some (.ref lh),some (.ref dh),some (.ref O),o4,o5,o6,o7,none,none,none,none,none,none,none,none]/\H' O=some (.dK kv)/\qI kv (pairsOf (hs.take i))/\kv.length<=(pairsOf (hs.take i)).length/\Same H H'
noncomputable def PvD (p lh dh O a:aaH) (hs:List aL) (hh:aL) (i:Nat) (H:Hp):Nat->St->Hp->Prop:=λj σ H'=>∃ (kv:List (Key × V)) (o5 o6 o7:Option V),σ=[some (.ref p),some (.ref lh),some (.ref dh),some (.ref O),some (.ref a),o5,o6,o7,none,none,none,none,none,none,none,none]/\H' O=some (.dK kv)/\qI kv (pairsOf (hs.take i)++(hh.runs.take j).flatMap (dB hh.name))/\kv.length<=(pairsOf (hs.take i)++(hh.runs.take j).flatMap (dB hh.name)).length/\Same H H'
noncomputable def PvE (p lh dh O a c2:aaH) (hs:List aL) (hh:aL) (i j:Nat) (r:List Row) (H:Hp):Nat->St->Hp->Prop:=λt σ H'=>∃ (kv:List (Key × V)) (o6 o7:Option V),σ=[some (.ref p),some (.ref lh),some (.ref dh),some (.ref O),some (.ref a),some (.ref c2),o6,o7,none,none,none,none,none,none,none,none]/\H' O=some (.dK kv)/\qI kv (pairsOf (hs.take i)++(hh.runs.take j).flatMap (dB hh.name)++(dB hh.name r).take t)/\kv.length<=(pairsOf (hs.take i)++(hh.runs.take j).flatMap (dB hh.name)++(dB hh.name r).take t).length/\Same H H'
section
variable {P:abt} {w:acU} {K:aaf} {mg:Str->Option aat} {base:afp} {t8 t6 tR tL:Tok}
end
noncomputable def Qq:List Str:=["me","you","abcdefgh","z"]
theorem VL:∀ s∈Qq,Good s:=by
 have h:Qq.all (λs=>decide (1<=s.length) && decide (s.length<=8) && s.cps.toList.all low)=true:=by decide +kernel
 intro s hs;obtain ⟨h1,h2⟩:=abr.mp (abP.mp h s hs);obtain ⟨h3,h4⟩:=abr.mp h1;exact ⟨of_decide_eq_true h3,of_decide_eq_true h4,λc hc=>abP.mp h2 c hc⟩
theorem Qs:Qq.Nodup:=by decide +kernel
theorem jw {p:aaH} {H Ha Hb:Hp} (s:Same H Ha) (n:H p=none) (b:aY p Ha Hb):Same H Hb:=λc o e=>b c o (λz=>by rw [z,n] at e; cases e) (s c o e)
theorem wW:∀ (more kvs:List (Key × V)),(more.map (·.1)).Nodup->(∀ k∈more.map (·.1),k ∉ kvs.map (·.1))->qT kvs more=kvs++more
 | [],kvs,_,_=>by rw [adx]; rfl
 | x :: r,kvs,nd,dj=>by
   rw [abn] at nd dj;have nd':=ahn.mp nd;show qT (putK kvs x.1 x.2) r=_;rw [DW (dj x.1 abw),wW r _ nd'.2,adz]
   . rfl
   . intro k hk z;rw [abp] at z;rcases abv.mp z with z | z
     . exact dj k (abk _ hk) z
     . have:k=x.1:=by simpa using z
       exact nd'.1 (by rw [<- this]; exact hk)
theorem wX {kvs more:List (Key × V)} {k:Key}:cL (kvs++more) k=(cL kvs k).or (cL more k):=by
 unfold cL;rw [amu];cases kvs.find? (λkv=>decide (kv.1=k)) <;> rfl
theorem Ab {kvs:List (Key × V)} {k:Key} (h:k ∉ kvs.map (·.1)):cL kvs k=none:=by
 cases e:cL kvs k with
 | none=>rfl
 | some v=>exact absurd (Vo e) h
section
variable {P:abt} {w:acU} {K:aaf} {mg:Str->Option aat} {base:afp} {t8 t6 tR tL:Tok}
end
noncomputable def BZ:Option Int->Da
 | none=>.non
 | some i=>.int i
noncomputable def jx (l:Letter):Da:=.tup [.str l.1.1,.str l.1.2,.int l.2.1,BZ l.2.2]
theorem Good.da {H:Hp} {z:Str} (g:Good z):cj H (.str z) (.str z):=.str z (by have:=g.hi; have jH:sizeLine=16777216:=aby; omega)
theorem LK {α:Type} {H:Hp} {R:V->α->Prop} {f:α->Da} {vs:List V} {xs:List α} (p:abG R vs xs) (h:∀ v x,x∈xs->R v x->cj H v (f x)):cF H vs (xs.map f):=by
 induction p with
 | nil=>exact .nil
 | cons r _ ih=>exact .cons (h _ _ (abw ..) r) (ih λv x hx=>h v x (abk _ hx))
section
variable {H:Hp} {v:V}
end
theorem Qt {n:Str} {l h d:Int} (g:Good n) (hw:l<=h) (hd:0<=d):BK (.str n) (.int l) (.int h) (.int d)=true:=by
 unfold BK;rw [show qF (.str n)=true from g.Dh];show (true && ((true && (true && true)) && (decide (l<=h) && decide (0<=d))))=true;rw [decide_eq_true hw,decide_eq_true hd];rfl
theorem LQ {hs:List aL} {l:Letter} (g:iz hs l):bG (jx l)=true:=by
 obtain ⟨⟨s,t⟩,le,m⟩:=l;have g1:=g.sent.Dh;have g2:=g.taken.Dh;have g3:=g.least;cases m with
 | none=>simp [jx,bG,BZ,zX,qF,gA,intD,g1,g2,g3]
 | some m =>
   have g4:=g.most m rfl;simp [jx,bG,BZ,zX,qF,gA,intD,g1,g2,g3,g4]
theorem Qu {ps:List (Str × Str)} {n x:Str} (nd:(ps.map ab5).Nodup) (h:(n,x)∈ps):JM ps n=some x:=by
 unfold JM
 induction ps with
 | nil=>simp at h
 | cons p ps ih =>
   rw [abn,ahn] at nd;by_cases e:p.1=n
   . rw [List.find?_cons_of_pos (by simp [e])];rcases abu.mp h with z | z
     . rw [<- z]; rfl
     . exact absurd (abj.mpr ⟨_,z,e.symm⟩) nd.1
   . rw [am0 (by simp [e])];rcases abu.mp h with z | z
     . rw [<- z] at e; exact absurd rfl e
     . exact ih nd.2 z
theorem owner {hs:List aL} (nd:(namesOf hs).Nodup) {h:aL} {n:Str} (hh:h∈hs) (hn:n∈fG h):JM (pairsOf hs) n=some h.name:=by
 refine Qu (by rw [nY]; exact nd) ?_;obtain ⟨r,hr,e⟩:=abj.mp hn;exact aef.mpr ⟨h,hh,abj.mpr ⟨r,hr,by rw [e]⟩⟩
structure TD (te:TE) (σ:St) (H:Hp) (d:Da):Prop where
 r:∀ H1,Same H H1->∀ Q:VK,(∀ v H2,Same H1 H2->cj H2 v d->Q v H2)->te σ H1 Q
structure GR (ta:TA) (σ:St) (H:Hp) (ds:List Da):Prop where
 r:∀ H1,Same H H1->∀ Q:List V->Hp->Prop,(∀ vs H2,Same H1 H2->cF H2 vs ds->Q vs H2)->ta σ H1 Q
theorem cF.app {H:Hp}:∀ {vs ws:List V} {xs ys:List Da},cF H vs xs->cF H ws ys->cF H (vs++ws) (xs++ys)
 | _,_,_,_,.nil,q=>q
 | _,_,_,_,.cons h r,q=>.cons h (cF.app r q)
section
variable {σ:St} {H:Hp} {te ta tb:TE} {ts:TA} {d:Da} {ds xs ys:List Da} {i j:Int} {tl th:TO} {lo hi:Option Int} {K:aaf}
theorem fV:TD (tC (.int i)) σ H (.int i):=⟨λH1 _ _ q=>q _ H1 (Same.refl _) (.int i)⟩
theorem JQ {b:Bool}:TD (tC (.bl b)) σ H (.bl b):=⟨λH1 _ _ q=>q _ H1 (Same.refl _) (.bl b)⟩
theorem q9:TD (tC .non) σ H .non:=⟨λH1 _ _ q=>q _ H1 (Same.refl _) .non⟩
theorem tX {z:Str} (h:z.length<=1000):TD (tC (.str z)) σ H (.str z):=⟨λH1 _ _ q=>q _ H1 (Same.refl _) (.str z (by have jH:sizeLine=16777216:=aby; omega))⟩
theorem ZV {k:Nat} {v:V} (e:σ[k]?=some (some v)) (h:cj H v d):TD (tV k) σ H d:=⟨λH1 s Q q=>by
 unfold tV;rw [e]
 exact q v H1 (Same.refl _) (h.same s)⟩
theorem ou {v:V} {r:St} (h:cj H v d):TD (tV 0) (some v :: r) H d:=ZV rfl h
theorem wY {v:V} {r:St} {o0:Option V} (h:cj H v d):TD (tV 1) (o0 :: some v :: r) H d:=ZV rfl h
theorem JR {v:V} {r:St} {o0 o1 o2:Option V} (h:cj H v d):TD (tV 3) (o0 :: o1 :: o2 :: some v :: r) H d:=ZV rfl h
theorem ZW {r:V->Hp->VK->Prop} (hr:r=λx H Q=>match x with | .int i=>Q (.int (-i)) H | _=>False) (h:TD te σ H (.int i)):TD (tUn r te) σ H (.int (-i)):=by
 subst hr;exact ⟨λH1 s Q q=>h.r H1 s _ λv H2 s2 hv=>by cases hv; exact q _ H2 s2 (.int _)⟩
theorem cY:GR yX σ H []:=⟨λH1 _ _ q=>q [] H1 (Same.refl _) .nil⟩
theorem aK (h:TD te σ H d) (r:GR ts σ H ds):GR (jV te ts) σ H (d :: ds):=⟨λH1 s Q q =>
 h.r H1 s _ λv H2 s2 hv=>r.r H2 (s.trans s2) _ λvs H3 s3 hvs=>q _ H3 (s2.trans s3) (.cons (hv.same s3) hvs)⟩
theorem iY (h:GR ts σ H ds) (few:ds.length<=25):TD (Zd ts) σ H (.tup ds):=⟨λH1 s Q q =>
 h.r H1 s _ λvs H2 s2 hvs=>⟨by have jH:sizeLine=16777216:=aby; have:=hvs.len; omega,λp hp=>q _ _ (s2.upd hp) (.tup au (by rw [hvs.len]; exact few) (hvs.same ((Same.refl H2).upd hp)))⟩⟩
theorem GX (h:GR ts σ H ds) (few:ds.length<=25):TD (qP ts) σ H .oth:=⟨λH1 s Q q =>
 h.r H1 s _ λvs H2 s2 hvs=>⟨by have jH:sizeLine=16777216:=aby; have:=hvs.len; omega,λp hp=>q _ _ (s2.upd hp) (.lst au)⟩⟩
theorem Qv:TD Gx σ H .oth:=⟨λH1 _ _ q p hp=>q _ _ ((Same.refl H1).upd hp) (.Qg au)⟩
end
structure Kp (H H':Hp):Prop where
 tup:∀ b xs,H b=some (.tup xs)->H' b=some (.tup xs)
 lst:∀ b xs,H b=some (.lst xs)->∃ ys,H' b=some (.lst ys)
 Qg:∀ b ks,H b=some (.dK ks)->∃ k2,H' b=some (.dK k2)
theorem Kp.refl (H:Hp):Kp H H:=⟨λ_ _ h=>h,λ_ _ h=>⟨_,h⟩,λ_ _ h=>⟨_,h⟩⟩
theorem Kp.of {H H':Hp} (s:Same H H'):Kp H H':=⟨λ_ _ h=>s _ _ h,λ_ _ h=>⟨_,s _ _ h⟩,λ_ _ h=>⟨_,s _ _ h⟩⟩
theorem Kp.trans {H H1 H2:Hp} (a:Kp H H1) (b:Kp H1 H2):Kp H H2:=⟨λ_ _ h=>b.tup _ _ (a.tup _ _ h),λ_ _ h=>let ⟨_,z⟩:=a.lst _ _ h; b.lst _ _ z,λ_ _ h=>let ⟨_,z⟩:=a.Qg _ _ h; b.Qg _ _ z⟩
theorem Kp.put {H:Hp} {a:aaH} {xs ys:List V} (h:H a=some (.lst xs)):Kp H (upd H a (.lst ys)):=by
 refine ⟨λb zs e=>?_,λb zs e=>?_,λb zs e=>?_⟩
 . rw [aB (λz=>by rw [z,h] at e; cases e)]; exact e
 . by_cases z:b=a
   . subst z; exact ⟨ys,au⟩
   . exact ⟨zs,by rw [aB z]; exact e⟩
 . exact ⟨zs,by rw [aB (λz=>by rw [z,h] at e; cases e)]; exact e⟩
mutual
theorem cj.kp {H H':Hp} (s:Kp H H'):∀ {v:V} {d:Da},cj H v d->cj H' v d
 | _,_,.non=>.non
 | _,_,.bl b=>.bl b
 | _,_,.int i=>.int i
 | _,_,.str z h=>.str z h
 | _,_,.tup h l r=>.tup (s.tup _ _ h) l (cF.kp s r)
 | _,_,.lst h=>let ⟨_,z⟩:=s.lst _ _ h; .lst z
 | _,_,.Qg h=>let ⟨_,z⟩:=s.Qg _ _ h; .Qg z
theorem cF.kp {H H':Hp} (s:Kp H H'):∀ {v:List V} {d:List Da},cF H v d->cF H' v d
 | _,_,.nil=>.nil
 | _,_,.cons h r=>.cons (cj.kp s h) (cF.kp s r)
end
section
variable {σ:St} {H:Hp} {te:TE} {ts:TA} {ds j5:List Da} {K:aaf}
theorem Ca (h:GR ts σ H ds) (few:ds.length<=1000) {Q:VK} (q:∀ a vs H2,H a=none->Same H H2->H2 a=some (.lst vs)->cF H2 vs ds->Q (.ref a) H2):qP ts σ H Q :=
 h.r H (Same.refl H) _ λvs H2 s2 hvs=>⟨by have jH:sizeLine=16777216:=aby; have:=hvs.len; omega,λp hp=>q p vs _ (by
   cases e:H p with
   | none=>rfl
   | some o=>rw [s2 _ _ e] at hp; cases hp) (s2.upd hp) au (hvs.same ((Same.refl H2).upd hp))⟩
theorem ZX {k:Nat} {a:aaH} {vs:List V} (e:σ[k]?=some (some (.ref a))) (ha:H a=some (.lst vs)) (hv:cF H vs j5) (h:GR ts σ H ds) (few:j5.length+ds.length<=1000) {Q:VK}
   (q:∀ b ws H2,H b=none->Same H H2->H2 b=some (.lst ws)->cF H2 ws (j5++ds)->Q (.ref b) H2):Ut Ph (tV k) (qP ts) σ H Q:=by
 show tV k σ H _;unfold tV;rw [e];refine Ca h (by omega) λc us H2 _ s2 ec hu=>?_
 have jH:sizeLine=16777216:=aby;have l1:=hv.len;have l2:=hu.len
 refine ⟨a,c,vs,us,rfl,rfl,s2 _ _ ha,ec,by omega,λp hp=>q p _ _ (by
   cases e:H p with
   | none=>rfl
   | some o=>rw [s2 _ _ e] at hp; cases hp) (s2.upd hp) au (((hv.same s2).app hu).same ((Same.refl H2).upd hp))⟩
theorem LR {l:aaH} {os:List V} {iF iO:Nat} {D:Ends} {a:aaH} {vs:List V} {f:Da->Da} (e:σ[iF]?=some (some (.ref a))) (ne:iO≠iF) (h0:∃ o,σ=σ.set iO o)
   (ha:H a=some (.lst vs)) (hv:cF H vs ds) (Qw:l≠a) (el:H l=some (.lst os)) (hos:cF H os j5) (few:ds.length+j5.length<=1000)
   (elt:∀ x d H',d∈j5->Kp H H'->cj H' x d->TD te (σ.set iO (some x)) H' (f d))
   (fin:∀ o H' ws,Kp H H'->aY a H H'->H' a=some (.lst ws)->cF H' ws (ds++j5.map f)->D.nx (σ.set iO o) H') :
   ∃ W:Nat->Nat->St->Hp->Prop,(∃ m,W 0 m σ H)/\∀ i m σ H,W i m σ H ->
     ((Us K l).stop i H/\D.nx σ H)\/((Us K l).go i H/\∃ N:St->Hp->Prop,(∀ σ' H',N σ' H'->∃ m',m'<m/\W (i+1) m' σ' H')/\∀ x H',(Us K l).Ur i H x H'->iK iO x σ H' fun σ2 H2=>wu (Zn K "list" rU (tV iF) (jV te yX)) { D with nx:=N,ct:=N,bk:=D.nx } σ2 H2):=by
 have jH:sizeLine=16777216:=aby;have lo:=hos.len
 refine fW (xs:=os) (λi σ' H'=>∃ o ws,σ'=σ.set iO o/\Kp H H'/\aY a H H'/\H' a=some (.lst ws)/\H' l=some (.lst os)/\cF H' ws (ds++(j5.take i).map f))
   (by obtain ⟨o,ho'⟩:=h0; exact ⟨o,vs,ho',Kp.refl _,aY.of (Same.refl _),ha,el,by simpa using hv⟩) (λi σ' H' _ ⟨_,_,_,_,_,_,z,_⟩=>cG.of z) (λi x σ' H' hx ⟨o,ws,eσ,kp,sb,ea,el',hws⟩=>?_) (fun σ' H' ⟨o,ws,eσ,kp,sb,ea,el',hws⟩=>?_)
 . subst eσ;obtain ⟨d,hd,hxd⟩:=hos.get hx;have eF:(σ.set iO (some x))[iF]?=some (some (.ref a)):=by rw [af9 ne]; exact e
   show wu (Zn K "list" rU (tV iF) (jV te yX)) _ ((σ.set iO o).set iO (some x)) H';rw [ao0];unfold wu Zn tV;rw [eF];refine ⟨.inl ⟨rfl,_,cG.of ea⟩,?_⟩;refine (elt x d H' (abq hd) kp (hxd.kp kp)).r H' (Same.refl _) _ λv H2 s2 hvd=>?_
   have lw:=hws.len;rw [aay,aac,abI] at lw;refine ⟨a,ws,v,rfl,rfl,s2 _ _ ea,by omega,?_⟩;have Z0:=s2 _ _ ea;refine ⟨some x,ws++[v],rfl,(kp.trans (Kp.of s2)).trans (Kp.put Z0),(sb.trans (aY.of s2)).upd,au,(aB Qw).trans (s2 _ _ el'),?_⟩;have z:(j5.take (i+1)).map f=(j5.take i).map f++[f d]:=by rw [abz,hd,abp]; rfl
   rw [z,<- adz];exact ((hws.same s2).app (.cons hvd .nil)).kp (Kp.put Z0)
 . subst eσ;rw [lo,acL] at hws;exact fin o H' ws kp sb ea hws
theorem Qx {Qy:TA} {iF iO:Nat} {D:Ends} {a:aaH} {vs:List V} {f:Da->Da} (e:σ[iF]?=some (some (.ref a))) (ne:iO≠iF) (h0:∃ o,σ=σ.set iO o)
   (ha:H a=some (.lst vs)) (hv:cF H vs ds) (ho:GR Qy σ H j5) (few:ds.length+j5.length<=1000)
   (elt:∀ x d H',d∈j5->Kp H H'->cj H' x d->TD te (σ.set iO (some x)) H' (f d))
   (fin:∀ o H' ws,Kp H H'->aY a H H'->H' a=some (.lst ws)->cF H' ws (ds++j5.map f)->D.nx (σ.set iO o) H') :
   Dm (uK K (qP Qy)) (iK iO) (wu (Zn K "list" rU (tV iF) (jV te yX))) D σ H:=by
 unfold Dm uK;refine Ca (ds:=j5) ho (by omega) λl os H1 fl s1 el hos=>⟨l,rfl,⟨_,cG.of el⟩,?_⟩
 have Qw:l≠a:=λz=>by rw [z,ha] at fl; cases fl
 exact LR e ne h0 (s1 _ _ ha) (hv.same s1) Qw el hos few (λx d H' hd kp hx=>elt x d H' hd ((Kp.of s1).trans kp) hx) (λo H' ws kp sb ea hws=>fin o H' ws ((Kp.of s1).trans kp) (λb u n z=>sb b u n (s1 b u z)) ea hws)
theorem Qz {Qy:TA} {iF iO:Nat} {D:Ends} {a:aaH} {vs:List V} {f:Da->List Da} (e:σ[iF]?=some (some (.ref a))) (ne:iO≠iF) (h0:∃ o,σ=σ.set iO o)
   (ha:H a=some (.lst vs)) (hv:cF H vs ds) (ho:GR Qy σ H j5) (few:ds.length+(j5.flatMap f).length<=1000) (acN:j5.length<=1000)
   (elt:∀ x d r H',d∈j5->Same H H'->cj H' x d->GR ts ((σ.set iF r).set iO (some x)) H' (f d))
   (fin:∀ o b H' ws,Same H H'->H' b=some (.lst ws)->cF H' ws (ds++j5.flatMap f)->(b=a\/H b=none)->D.nx ((σ.set iF (some (.ref b))).set iO o) H') :
   Dm (uK K (qP Qy)) (iK iO) (u9 (Ut Ph (tV iF) (qP ts)) (iK iF)) D σ H:=by
 unfold Dm uK;refine Ca (ds:=j5) ho (by omega) λl os H1 fl s1 el hos=>⟨l,rfl,⟨_,cG.of el⟩,?_⟩
 have jH:sizeLine=16777216:=aby;have lo:=hos.len
 have hF:iF<σ.length:=by
   by_cases z:iF<σ.length
   . exact z
   . rw [ag7 (by omega)] at e; cases e
 have agW:σ.set iF (some (.ref a))=σ:=by
   refine List.ext_getElem? λn=>?_
   by_cases z:iF=n
   . subst z; rw [agX hF,e]
   . rw [af9 z]
 refine fW (xs:=os) (λi σ' H'=>∃ o b ws,σ'=(σ.set iF (some (.ref b))).set iO o/\Same H1 H'/\H' b=some (.lst ws)/\cF H' ws (ds++(j5.take i).flatMap f)/\(b=a\/H b=none))
   (by obtain ⟨o,ho'⟩:=h0; exact ⟨o,a,vs,by rw [agW]; exact ho',Same.refl _,s1 _ _ ha,by simpa using hv.same s1,.inl rfl⟩) (λi σ' H' _ ⟨_,_,_,_,z,_⟩=>cG.of (z _ _ el)) (λi x σ' H' hx ⟨o,b,ws,eσ,sm,ea,hws,fb⟩=>?_) (fun σ' H' ⟨o,b,ws,eσ,sm,ea,hws,fb⟩=>?_)
 . subst eσ;obtain ⟨d,hd,hxd⟩:=hos.get hx;show u9 (Ut Ph (tV iF) (qP ts)) (iK iF) _ (((σ.set iF (some (.ref b))).set iO o).set iO (some x)) H';rw [ao0];have z:(j5.take (i+1)).flatMap f=(j5.take i).flatMap f++f d:=by rw [abz,hd,adR]; simp
   have z2:((j5.take (i+1)).flatMap f).length<=(j5.flatMap f).length:=by
     have y:j5.flatMap f=(j5.take (i+1)).flatMap f++(j5.drop (i+1)).flatMap f:=by rw [<- adR,ag9]
     rw [y,aay]; omega
   rw [z,aay] at z2;refine ZX (a:=b) (vs:=ws) (j5:=ds++(j5.take i).flatMap f) (by rw [af9 ne,agX hF]) ea hws (elt x d _ H' (abq hd) (s1.trans sm) (hxd.same sm)) (by rw [aay]; omega) λc us H2 fc s2 ec hus=>?_
   show ∃ o b ws,_;refine ⟨some x,c,us,?_,sm.trans s2,ec,by rw [z,<- adz]; exact hus,.inr ?_⟩
   . rw [List.set_comm _ _ ne,ao0]
   . cases y:H c with
     | none=>rfl
     | some u=>rw [sm _ _ (s1 _ _ y)] at fc; cases fc
 . subst eσ;rw [lo,acL] at hws;exact fin o b H' ws (s1.trans sm) ea hws fb
end
end GF
namespace GF
open PySem L2
section
variable {σ:St} {H:Hp} {te:TE} {ts:TA} {ds j5:List Da} {K:aaf} {D:Ends} {t u:TS}
theorem VN {i:Nat} (h:GR ts σ H ds) (few:ds.length<=1000) (q:∀ a vs H2,H a=none->Same H H2->H2 a=some (.lst vs)->cF H2 vs ds->D.nx (σ.set i (some (.ref a))) H2):u9 (qP ts) (iK i) D σ H:=Ca h few q
theorem QB {i:Nat} (σs:Option V->St) (hs:∀ z,σ.set i z=σs z) (h:GR ts σ H ds) (few:ds.length<=1000) (q:∀ a vs H2,H a=none->Same H H2->H2 a=some (.lst vs)->cF H2 vs ds->u D (σs (some (.ref a))) H2):yW (u9 (qP ts) (iK i)) u D σ H :=
 VN (D:={ D with nx:=u D }) h few λa vs H2 h1 h2 h3 h4=>by show u D _ _; rw [hs]; exact q a vs H2 h1 h2 h3 h4
theorem Ac {Qy:TA} {iF iO:Nat} {a:aaH} {vs:List V} {f:Da->Da} (σs:Option V->St) (hs:∀ z,σ.set iO z=σs z) (e:σ[iF]?=some (some (.ref a))) (ne:iO≠iF) (h0:∃ o,σ=σs o)
   (ha:H a=some (.lst vs)) (hv:cF H vs ds) (ho:GR Qy σ H j5) (few:ds.length+j5.length<=1000)
   (elt:∀ x d H',d∈j5->Kp H H'->cj H' x d->TD te (σs (some x)) H' (f d))
   (fin:∀ o H' ws,Kp H H'->aY a H H'->H' a=some (.lst ws)->cF H' ws (ds++j5.map f)->u D (σs o) H') :
   yW (Dm (uK K (qP Qy)) (iK iO) (wu (Zn K "list" rU (tV iF) (jV te yX)))) u D σ H :=
 Qx (D:={ D with nx:=u D }) e ne (let ⟨o,z⟩:=h0; ⟨o,z.trans (hs o).symm⟩) ha hv ho few (λx d H' h1 h2 h3=>by rw [hs]; exact elt x d H' h1 h2 h3) λo H' ws h1 h2 h3 h4=>by show u D _ _; rw [hs]; exact fin o H' ws h1 h2 h3 h4
theorem Ma {Qy:TA} {iF iO:Nat} {a:aaH} {vs:List V} {f:Da->List Da} (σs:Option V->Option V->St) (hs:∀ r z,(σ.set iF r).set iO z=σs r z) (e:σ[iF]?=some (some (.ref a))) (ne:iO≠iF) (h0:∃ o,σ=σ.set iO o)
   (ha:H a=some (.lst vs)) (hv:cF H vs ds) (ho:GR Qy σ H j5) (few:ds.length+(j5.flatMap f).length<=1000) (acN:j5.length<=1000)
   (elt:∀ x d r H',d∈j5->Same H H'->cj H' x d->GR ts (σs r (some x)) H' (f d))
   (fin:∀ o b H' ws,Same H H'->H' b=some (.lst ws)->cF H' ws (ds++j5.flatMap f)->(b=a\/H b=none)->u D (σs (some (.ref b)) o) H') :
   yW (Dm (uK K (qP Qy)) (iK iO) (u9 (Ut Ph (tV iF) (qP ts)) (iK iF))) u D σ H :=
 Qz (D:={ D with nx:=u D }) e ne h0 ha hv ho few acN (λx d r H' h1 h2 h3=>by rw [hs]; exact elt x d r H' h1 h2 h3) λo b H' ws h1 h2 h3 h4=>by show u D _ _; rw [hs]; exact fin o b H' ws h1 h2 h3 h4
end
theorem QC {H H1:Hp} {a:aaH} (s:Same H H1) (h:H1 a=none):H a=none:=by
 cases e:H a with
 | none=>rfl
 | some o=>rw [s _ _ e] at h; cases h
theorem wZ {p:Da->Prop}:∀ d∈([]:List Da),p d:=λ_ h=>by simp at h
theorem bR {p:Da->Prop} {x:Da} {l:List Da} (h:p x) (r:∀ d∈l,p d):∀ d∈x :: l,p d:=λd hd=>(abu.mp hd).elim (λe=>e ▸ h) (r d)
theorem GZ {p:Da->Prop} {l m:List Da} (h:∀ d∈l,p d) (r:∀ d∈m,p d):∀ d∈l++m,p d:=λd hd=>(abv.mp hd).elim (h d) (r d)
theorem QD {p q:Da->Prop} {f:Da->Da} {l:List Da} (h:∀ d∈l,q d) (r:∀ d,q d->p (f d)):∀ d∈l.map f,p d:=λd hd=>by
 obtain ⟨x,hx,rfl⟩:=abj.mp hd;exact r x (h x hx)
theorem VP {p q:Da->Prop} {f:Da->List Da} {l:List Da} (h:∀ d∈l,q d) (r:∀ d,q d->∀ e∈f d,p e):∀ d∈l.flatMap f,p d:=λd hd=>by
 obtain ⟨x,hx,hd⟩:=aef.mp hd;exact r x (h x hx) d hd
section
variable {n l h d r:Da}
end
section
variable {g:BI->TG} {te:BI->TE} {σ0:St} {D:aaH} {End:Hp->Prop} {H1:Hp}
end
theorem VR {z:Str} {n k:Nat} (h:(acF n).all (λk=>decide (z.cps.toList[k]?=some (97+k)))=true) (hk:k<n):zO z.cps.toList (k:Int)=some (97+k) :=
 je (of_decide_eq_true (abP.mp h k (adv.mpr hk)))
section
variable {P:abt} {w:acU} {K:aaf} {mg:Str->Option aat} {base:afp} {t8 t6 tR tL:Tok}
end
section
variable {hs:List aL} {s t l m:Da} {xs:List Da}
theorem lt1 (h:qF s=false):bG (.tup [s,t,l,m])=false:=by simp [bG,h]
theorem lt2 (h:qF t=false):bG (.tup [s,t,l,m])=false:=by simp [bG,h]
theorem lt3 (h:gA l=false):bG (.tup [s,t,l,m])=false:=by simp [bG,h]
theorem acO {i:Int} (h:i<1):bG (.tup [s,t,.int i,m])=false:=by
 have:¬ 1<=i:=by omega
 simp [bG,intD,this]
theorem lt4 {i:Int} (h:zX i m=false):bG (.tup [s,t,.int i,m])=false:=by simp [bG,intD,h]
end
section
variable {P:abt} {w:acU} {K:aaf} {mg:Str->Option aat} {base:afp} {t8 t6 tR tL:Tok}
end
section
variable {H:Hp} {v:V}
end
section
variable {g:BI->TG} {te:BI->TE} {σ0:St} {D:aaH} {End:Hp->Prop} {H1:Hp}
end
section
variable {P:abt} {w:acU} {K:aaf} {mg:Str->Option aat} {base:afp} {t8 t6 tR tL:Tok}
end
section
variable {g:BI->TG} {te:BI->TE} {σ0:St} {D:aaH} {End:Hp->Prop} {H1:Hp}
end
theorem Hf {lo c:Int} {n:Nat} {g:TG} {tb:TS} {D:Ends} {σ:St} {H:Hp} (Pv:Nat->St->Hp->Prop) (h0:Pv 0 σ H)
   (hs:∀ i σ H,i<n->Pv i σ H->g (.int (lo+i * c)) σ H fun σ2 H2=>tb { D with nx:=Pv (i+1),ct:=Pv (i+1),bk:=D.nx } σ2 H2) (hd:∀ σ H,Pv n σ H->D.nx σ H) :
   ∃ W:Nat->Nat->St->Hp->Prop,(∃ m,W 0 m σ H)/\∀ i m σ H,W i m σ H ->
     ((PJ lo c n).stop i H/\D.nx σ H)\/((PJ lo c n).go i H/\∃ N:St->Hp->Prop,(∀ σ' H',N σ' H'->∃ m',m'<m/\W (i+1) m' σ' H')/\∀ x H',(PJ lo c n).Ur i H x H'->g x σ H' fun σ2 H2=>tb { D with nx:=N,ct:=N,bk:=D.nx } σ2 H2):=by
 refine ⟨λi m σ H=>m=n-i/\i<=n/\Pv i σ H,⟨n,rfl,abH _,h0⟩,λi m σ H ⟨em,hi,p⟩=>?_⟩;subst em;rcases aoV i n with lt | ge
 . refine .inr ⟨lt,Pv (i+1),fun σ' H' p'=>⟨n-(i+1),by omega,rfl,lt,p'⟩,λx H' ⟨e,y⟩=>?_⟩;subst e y;exact hs i σ _ lt p
 . have e:i=n:=by omega
   subst e;exact .inl ⟨aaw _,hd σ H p⟩
section
variable {P:abt} {w:acU} {K:aaf} {mg:Str->Option aat} {base:afp} {t8 t6 tR tL:Tok}
end
end GF
namespace Fw
section
variable {α:Type} [DecidableEq α]
end
end Fw
namespace L2
open PySem PySem.Spec PyProof.Rows
section
variable {X:Cx}
theorem range_any (bs:List Bool):((acF bs.length).any λi=>(bs[i]?).getD false)=bs.any id:=by
 have key:∀ (l:List Bool) (k:Nat),((acF l.length).any λi=>(l[i]?).getD false)=l.any id:=λl _=>by
   induction l with
   | nil=>rfl
   | cons b l ih =>
     rw [abD,List.range_succ_eq_map,ahT,ama,ahT];congr 1
 exact key bs 0
theorem DY (hc:X.calm=true):dU X (.builtin "any") (λxs H Q=>∃ (p:aaH) (bs:List Bool),xs=[.ref p]/\cG X.K H p (bs.map V.bl)/\Q (.bl (bs.any id)) H):=by
 intro pins s σ H xs us Q I r h;obtain ⟨p,bs,rfl,hq,q⟩:=h;obtain ⟨u,rfl,ru⟩:=vals1 r;cases ru;obtain ⟨its,rv,pl,_⟩:=I.list hq;have hb:=rY rv;have hl:=pl.isList;have hlt:p<s.heap.objs.size:=by obtain ⟨_,e,_⟩:=hl; exact abh e
 refine call_any_walk (agI hl ?_)
 refine ⟨s.heap.objs.size,[s.heap.objs.size,p],[s.heap.objs.size],its.toArray.size,_,_,λi=>(bs[i]?).getD false,rfl,anB (A:=X.A.in1) (I.ok.hd hc) _ p (abB hlt) its.toArray,
   ⟨⟨_,aaL _ rfl,rfl,rfl⟩,hl.push _⟩,λi v s' Q' E' hP hQ=>?_,λh' tk hk=>?_⟩
 . obtain ⟨b,e,rfl⟩:=hb.get i v (by simpa using hP);simp only [e,Option.getD_some] at hQ;exact aeQ hQ
 . have e:((acF its.toArray.size).any λi=>(bs[i]?).getD false)=bs.any id:=by
     rw [abm,hb.length]; exact range_any bs
   rw [e];exact ⟨.bl _,H,I.kept (aoi hk),rfl,q⟩
end
section
variable {prog:abt} {w:acU} {A:acX} {E:aat->aav->Prop} {s:aav} {z TI TO T i1 i2 l1 l2:aaH} {k1 k2:Nat} {xs ys:Array aat}
end
section
variable {X:Cx} {pins:List (aaH × Obj)} {σ:St} {H N:Hp} {s:aav} {h':afp}
end
section
variable {X:Cx} {elt kx vx tg iter:Expr} {ifs:List Expr} {scope gP:Scope} {pos:Pos} {own cap:List Str} {ix:List Nat} {wi:TI} {g:BI->TG} {tt:BI->TT} {tk tv:BI->TE}
end
theorem tY:mroOf (.type "dict")=pure [.type "dict",.type "object"]:=by rw [mroOf_type]; kernel_rfl
theorem vf:typeLookup (.type "dict") "__new__" = pure (some (.builtin "dict.__new__")):=by rw [ajZ,aha]; kernel_rfl
theorem uU:TypeCalled "dict" "dict.__new__" "dict.__init__" :=
 ⟨by decide +kernel,by decide +kernel,⟨_,_,tY⟩,madeBy_type tY vf (by decide +kernel),by decide +kernel,by rw [akG]; kernel_rfl,PySem.F.slot_dict_init⟩
theorem mQ (a:aat):checkTypeCall "dict" ⟨[a],[]⟩=pure ():=by kernel_rfl
theorem w5 (a:aat):checkBuiltinCall "dict.__new__" ⟨[.type "dict",a],[]⟩=pure ():=by kernel_rfl
theorem w6:entryFor table "dict.__new__" = some afD.«dict.__new__»:=amN (by kernel_rfl)
theorem oA:plainId "dict.__new__" = true:=by decide +kernel
theorem oE:entryFor table "dict.update.loop" = some afD.«dict.update.loop»:=amN (by kernel_rfl)
theorem gW:plainId "dict.update.loop" = true:=by decide +kernel
theorem zj:isSubtype (.type "dict") (.type "dict")=pure true:=by rw [akG]; kernel_rfl
section
variable {prog:abt} {w:acU} {A:acX} {E:aat->aav->Prop} {s:aav}
theorem qJ (a:aat) {Q₁:aat->aav->Prop}
   (h:Q₁ (.ref s.heap.objs.size) { s with heap:=s.heap.push { cls:=.type "dict",data:=.dict #[] } }) :
   codeAny (model prog w) A (.call (.builtin "dict.__new__") ⟨[.type "dict",a],[]⟩) (wants Q₁ E) s:=by
 refine ajW ?_;show wpAny _ A.in1 (do checkBuiltinCall "dict.__new__" ⟨[.type "dict",a],[]⟩; again (.builtin "dict.__new__" ⟨[.type "dict",a],[]⟩)) _ _ s;refine El (alP (w5 a) (aau ⟨ahV oA _,aev w6 ?_⟩));rw [adU oA _];have hsub:=zj;have hmro:=tY;have hty:∀ s:aav,s.TypeIs (.type "dict") "type":=λ_=>rfl
 obtain ⟨hp,g,d,tk,os⟩:=s;unfold afD.«dict.__new__»
 repeat (any_goals (first | assumption | wp_step))
theorem Ea:typeLookup (.type "list") "keys" = pure none:=by rw [ajZ,aha]; kernel_rfl
set_option maxRecDepth 8000 in
theorem V0 {a:aaH} {o:Obj} {xs:Array aat} {k:Nat} {Q:Option aat->aav->Prop}
   (hx:s.heap.get? a=some o) (hc:o.cls=.type "list") (hdat:o.data=.seq xs k) (hd:o.dict=none) (hA:A.handled=none)
   (h:∀ h' tk e,Heap.NewExcOf s.heap h' e "AttributeError"->Q none { s with heap:=h',toks:=tk }) :
   wpAny (model prog w) A (getAttr? (.ref a) "keys") Q E s:=by
 obtain ⟨c,dct,dat,sl⟩:=o;simp only at hc hdat hd;subst hc hdat hd;obtain ⟨hp,g,d,tk,os⟩:=s;have hT:∀ tk',(⟨hp,g,d,tk',os⟩:aav).TypeIs (.ref a) "list":=λ_=>⟨_,hx,rfl⟩
 have f1:=sub_AttributeError;have f3:=F.slot_list_getattribute.lookup;have f4:=F.slot_list_getattribute.bind (.ref a);have f5:=am_list_getattr_none;unfold getAttr? getAttrBy? getAttrBy
 repeat (any_goals (first | assumption | exact hT _ | ((with_reducible show wpAny _ _ (call (afL "list.__getattribute__") _ _) _ _ _); refine aoI F.slot_list_getattribute (hT _) am_entry_list_getattribute (F.args_list_getattribute_2 _ _) (meets_getattribute_miss_list a xs k sl "keys" _ Ea (by decide +kernel) (by size_fits)) ⟨hx,hA,λh' tk' e hx'=>?_⟩) | wp_step))
 obtain ⟨t',u',he⟩:=hx'.there;show wpAny _ _ (getattributeRaised _ _ _ _ _ _ _) _ _ _;unfold getattributeRaised
 repeat (any_goals (first | assumption | wp_step))
 exact h _ _ _ hx'.of
theorem IsTup.pairItems {T:aaH} {x y:aat} {Q:List aat->aav->Prop} (h:ao2 s.heap T #[x,y]) (q:Q [x,y] s):wpAny (model prog w) A (am1 (.ref T)) Q E s:=by
 obtain ⟨o,e,c,n,d⟩:=h;unfold am1;refine El (ajA (T:="tuple") ⟨o,e,c⟩ ?_);rw [if_pos (by decide)];exact El (anR e d (aau q))
variable {K:Type} [DecidableEq K] (knd:KeyKind prog w K)
end
section
variable {X:Cx}
theorem xg:dU X (.type "dict") (λxs H Q=>∃ b more,xs=[.ref b]/\Rd H b (.dK more)/\∀ d,H d=none->Q (.ref d) (upd H d (.dK more))):=by
 intro pins s σ H xs us Q I r h;obtain ⟨b,more,rfl,hb,q⟩:=h;obtain ⟨u,rfl,ru⟩:=vals1 r;cases ru;obtain ⟨z2,d2,vs,rel,dd⟩:=rW I.hok hb;have lb:b<s.heap.objs.size:=by obtain ⟨o,_,_,e,_⟩:=dd; exact abh e
 refine callType_codes (Q₁:=λobj s₁=>obj=.ref s.heap.objs.size/\s₁={ s with heap:=s.heap.push { cls:=.type "dict",data:=.dict #[] } }) uU (mQ _) amF (qJ _ ⟨rfl,rfl⟩) λobj s₁ h₁=>?_
 obtain ⟨rfl,rfl⟩:=h₁;have up:∀ c o,s.heap.get? c=some o->(s.heap.push { cls:=.type "dict",data:=.dict #[] }).get? c=some o:=λc o e=>aar _ e
 have dS:(s.heap.push { cls:=.type "dict",data:=.dict #[] }).DictOf (aO X.prog X.w) s.heap.objs.size []:=anf _;have Uu:(s.heap.push { cls:=.type "dict",data:=.dict #[] }).DictOf (aO X.prog X.w) b vs:=dd.keep up;refine ⟨⟨_,aaL _ rfl,rfl⟩,amv _ _,?_⟩;unfold afD.«dict.__init__»;refine El ?_;unfold amw;refine El (akL (amb (s:={ s with heap:=s.heap.push { cls:=.type "dict",data:=.dict #[] } }) dS) ?_);refine aau ?_;show wpAny _ _ (ahW "dict.__init__" s.heap.objs.size (.ref b) [] .none) _ _ _;unfold ahW;have ty:aok { s with heap:=s.heap.push { cls:=.type "dict",data:=.dict #[] } } (.ref b) "dict":=amb (s:={ s with heap:=s.heap.push { cls:=.type "dict",data:=.dict #[] } }) Uu;refine El (ajA ty ?_);rw [if_neg (by decide)];refine El ?_;unfold Builtin.Dict.merge;refine El ?_;unfold Builtin.Dict.readDirectly;refine El (ag5 ty isSubtype_dict_dict ?_);simp only [Bool.not_true,adi,if_false];refine El (ajB ty PySem.F.slot_dict_iter.lookup (aau ?_));simp only [beq_self_eq_true,if_true];refine El (aau ?_);refine wpAny_mergeDict (s:={ s with heap:=s.heap.push { cls:=.type "dict",data:=.dict #[] } }) (hsz:=by rw [adw,<- rel.length]; omega) (ajy lb) d2 dS Uu λh' hd' ho' hs'=>?_
 show wpAny _ _ (amx s.heap.objs.size [] >>= _) _ _ _;refine El (aau (aau ⟨rfl,?_⟩));have nd:(vs.map (·.1)).Nodup:=by obtain ⟨_,_,_,_,_,_,_,_,n⟩:=dd; exact n
 rw [merged_nil_of_nodup vs nd] at hd';have kk:∀ c o,s.heap.get? c=some o->h'.get? c=some o:=λc o e=>(hs'.2 c (abB (abh e))).trans (up c o e)
 refine ⟨.ref s.heap.objs.size,_,I.laid (t':=s.toks) kk (aaw _) (Bs z2 (beq_eq_false_iff_ne.mpr (acV (abB I.big))) rel hd'),rfl,q _ (I.hok.fresh (aaw _))⟩
end
noncomputable def uV (H H':Hp):Prop:=∀ b o,H b=some o->H' b=some o\/∃ kvs ob,o=.dK kvs/\H' b=some (.gY ob o)
theorem uV.refl (H:Hp):uV H H:=λ_ _ e=>.inl e
noncomputable def Itd (d:aaH) (o:Obj) (kvs:List (Key × V)):It:=⟨λi H=>H d=some (.gY o (.dK kvs))/\i<kvs.length,λi H v H'=>H'=H/\∃ k x,kvs[i]?=some (k,x)/\v=kV k,λi H=>H d=some (.gY o (.dK kvs))/\kvs.length<=i⟩
theorem Ad {P:abt} {w:acU} {k:Key} {u:aat} (h:(aO P w).is k u=true):RelV (kV k) u:=by
 rcases bZ (show jq k u=true from h) with ⟨j,t,e1,e2⟩ | ⟨x',t,e1,e2⟩ | ⟨e1,e2⟩
 . subst e1 e2; exact ⟨t,rfl⟩
 . subst e1 e2; exact ⟨t,rfl⟩
 . subst e1 e2; rfl
section
variable {X:Cx} {pins:List (aaH × Obj)} {σ:St} {H:Hp} {s:aav}
theorem Inv.freeze {a:aaH} {kvs:List (Key × V)} (I:Inv X pins σ H s) (h:H a=some (.dK kvs)):∃ o,Inv X pins σ (upd H a (.gY o (.dK kvs))) s:=by
 obtain ⟨z,d,vs,rel,o,es,ep,e,r⟩:=wH I.hok h;exact ⟨o,I.write (t':=s.toks) (h':=s.heap) (e:=a) (by rw [h]; exact aeR) (.inl rfl) (λb u _ q=>q) ⟨o,e⟩ ⟨e,z,d,vs,rel,o,es,ep,e,r⟩⟩
theorem Inv.gY {a:aaH} {o:Obj} {kvs:List (Key × V)} (I:Inv X pins σ H s) (h:H a=some (.gY o (.dK kvs))):∃ vs es ep,KV kvs vs/\(a == sysModules)=false/\o.data=.dict es ep/\s.heap.DictAt (aO X.prog X.w) a vs ep:=by
 obtain ⟨e,z,d,vs,rel,o',es,ep,e',r⟩:=(show bT X.prog X.w H s.heap a (.gY o (.dK kvs)) from I.hok a _ h);rw [e] at e';cases e';exact ⟨vs,es,ep,rel,d,r.2.1,o,es,e,r⟩
theorem Mf {P:abt} {w:acU} {K:aaf} {tg:Expr} (d it:aaH) (o:Obj) (es:Array ah3) (ep:Nat) (kvs:List (Key × V)) (hd:o.data=.dict es ep) :
   Turn P w K tg (Itd d o kvs) [it] it (λi h=>h.IsKeyIter it d i kvs.length ep) where
 mem:=by simp
 obj:=λi h st b hb=>by
   have e:b=it:=by simpa using hb
   subst e;obtain ⟨o,e,c,dd⟩:=st;exact ⟨o,e,λv z=>by rw [dd] at z; cases z⟩
 keep:=λi h h' st k=>st.at λo e=>k it (by simp) o e
 item:=by
   intro X hP hw hK hc i pins s σ H E I hf st hg;subst hP hw hK;obtain ⟨f0,f1,f2,f3,f4,f5⟩:=hf it (by simp);obtain ⟨hd',lt⟩:=hg;obtain ⟨vs,es',ep',rel,_,dd,hat⟩:=I.gY hd';rw [hd] at dd;cases dd;have lv:=rel.length;obtain ⟨⟨k,x⟩,hx⟩:∃ p,vs[i]?=some p:=⟨vs[i]'(by omega),aaj _⟩
   have hk:∃ y,kvs[i]?=some (k,y):=by
     have z:=congrArg (λl=>l[i]?) rel.keys;simp only [aaJ,hx,ahG] at z;obtain ⟨p,e1,e2⟩:=afo.mp z;exact ⟨p.2,by rw [e1,<- e2]⟩
   obtain ⟨y,hy⟩:=hk;refine wpAny_pyNext_dict_item (by rw [<- lv]; exact st) hat hx λkey h' hkey hit' hs'=>?_
   have I1:Inv X pins σ H { s with heap:=h',toks:=s.toks }:=I.turned (λb o hb e=>hs'.extBut b o hb e) f0 f1 f3 f4 f5;rw [<- lv] at hit';obtain ⟨oi,ei,ci,di⟩:=id hit';exact ⟨_,rfl,uJ (s:={ s with heap:=h' }) (n:="dict_keyiterator") ei ci di (by decide) ⟨kV k,H,I1,Ad hkey,⟨rfl,k,y,hy,rfl⟩,hit',λb hb=>(hf b hb).1⟩⟩
 done:=by
   intro X hP hw hK hc i pins s σ H E I hf st hg;subst hP hw hK;obtain ⟨f0,f1,f2,f3,f4,f5⟩:=hf it (by simp);obtain ⟨hd',le⟩:=hg;obtain ⟨vs,es',ep',rel,_,dd,hat⟩:=I.gY hd';rw [hd] at dd;cases dd;have lv:=rel.length;exact wpAny_pyNext_dict_end (I.ok.hd hc) (by rw [<- lv]; exact st) hat (ag7 (by omega)) λh' eb=>⟨rfl,I.turned (t':=s.toks) (λb o hb e=>eb b o hb e) f0 f1 f3 f4 f5⟩
 self:=λ_ _ _ _ _ st h=>akV st h
noncomputable def acP (tl:TE):TI:=fun σ H R=>tl σ H λx H1=>∃ a kvs,x=.ref a/\Rd H1 a (.dK kvs)/\∀ (o:Obj) (H2:Hp),H2 a=some (.gY o (.dK kvs))->uV H1 H2->(∀ b,b≠a->H2 b=H1 b)->R (Itd a o kvs) H2
theorem V3 {tg l:Expr} {tl:TE} (hl:PE X l tl):PI X tg l (acP tl):=by
 intro pins s σ H R I h;refine c7 (hl pins s σ H _ I h) λv s1 ⟨x,H1,I1,r1,q1⟩=>?_
 obtain ⟨a,kvs,e,hq,q⟩:=q1;subst e;cases r1
 obtain ⟨o,H2,I2,e2,sf,oth⟩:∃ o H2,Inv X pins σ H2 s1/\H2 a=some (.gY o (.dK kvs))/\uV H1 H2/\∀ b,b≠a->H2 b=H1 b:=by
   rcases hq with hq | ⟨o,hq⟩
   . obtain ⟨o,I2⟩:=I1.freeze hq;refine ⟨o,_,I2,au,λb u e=>?_,λb hb=>aB hb⟩;by_cases z:b=a
     . subst z;rw [hq] at e;cases e;exact .inr ⟨kvs,o,rfl,au⟩
     . exact .inl (by rw [aB z]; exact e)
   . exact ⟨o,H1,I1,hq,uV.refl _,λ_ _=>rfl⟩
 obtain ⟨vs,es,ep,rel,ds,dd,hat⟩:=I2.gY e2;refine wpAny_pyIter_dict ds hat ?_;refine ⟨s1.heap.objs.size,[s1.heap.objs.size],_,_,H2,rfl,I2.kept (t':=s1.toks) λb o e=>aar _ e,Mf a _ o es ep kvs dd,⟨_,aaL _ rfl,rfl,by rw [<- rel.length]; rfl⟩,λb hb=>?_,q o H2 e2 sf oth⟩;have e:b=s1.heap.objs.size:=by simpa using hb
 subst e;exact I2.Bl (aaw _) (I2.hok.fresh (aaw _))
end
section
variable {H1:Hp} {D:aaH} {σ0:St} {g:BI->TG} {tt:BI->TT} {te:BI->TE} {End:Hp->Prop}
theorem Mg {a:aaH} {o:Obj} {kvs:List (Key × V)} (Pv:Nat->Hp->Prop) (h0:Pv 0 (upd H1 D (.lst []))) (hl:∀ i H,i<=kvs.length->Pv i H->H a=some (.gY o (.dK kvs))) (stop:∀ H,Pv kvs.length H->End H)
   (turn:∀ i k x H,kvs[i]?=some (k,x)->i<kvs.length->Pv i H->∀ b,g b (kV k) σ0 H fun σ2 H2=>tt b σ2 H2 λc H3=>if c=true then jT D (te b) σ2 H3 (Nx kvs.length i Pv) else Nx kvs.length i Pv H3) :
   ∃ W:Nat->Nat->Hp->Prop,(∃ m,W 0 m (upd H1 D (.lst [])))/\∀ b,jL (Itd a o kvs) (g b) (tt b) (jT D (te b)) σ0 End W :=
 pH kvs.length Pv h0 (λH p=>⟨⟨hl _ H (aaw _) p,aaw _⟩,stop H p⟩) λi H hi p =>
   ⟨⟨hl i H (af3 hi) p,hi⟩,λx H' ⟨e,k,y,hy,ex⟩ b=>by subst e ex; exact turn i k y _ hy hi p b⟩
end
end L2
namespace HT
open PySem PySem.Spec PyProof.Rows
section
variable {prog:abt} {w:acU} {A:acX} {E:aat->aav->Prop} {s:aav}
end
end HT
namespace L2
open PySem PySem.Spec PyProof.Rows
section
variable {X:Cx}
end
section
variable {prog:abt} {w:acU} {A:acX} {E:aat->aav->Prop} {s:aav}
variable {K:Type} [DecidableEq K] (knd:KeyKind prog w K)
end
section
variable {X:Cx}
end
end L2
namespace HT
open PySem PySem.Spec PyProof.Rows
section
variable {prog:abt} {w:acU} {A:acX} {E:aat->aav->Prop} {s:aav}
end
end HT
namespace L2
open PySem PySem.Spec PyProof.Rows
section
variable {X:Cx}
end
section
variable {X:Cx} {e e1 e2:Expr} {es:List Expr} {te:TE} {pos:Pos}
variable {tj:TJ}
end
end L2
namespace TP
open PySem PySem.Builtin PySem.Builtin.Str
end TP
namespace Eb
open PySem L2 GF
variable {P:abt} {w:acU} {K:aaf} {mg:Str->Option aat} {base:afp} {t8 t6 tR tL t9:Tok} {C NW:aaH} {c:Nat->aaH}
theorem pZ {X:Cx} {ps:List Str} {x:Str} {e:Expr} {te:TE} {pos pos':Pos} (i:Nat) (S:aZ X.N ps X.env.scope) (he:PE X e te) (hi:X.N[i]?=some x:=by rfl) (hx:Loc X.env.scope x:=by first | exact .inl rfl | exact .inr rfl) (hs:swapsWith e (some (.Name x pos')) pos.line X.env=pure false:=by rfl) (hf:X.fn x=true\/X.env.scope.names.lookup x=some .local:=by first | exact .inl rfl | exact .inr rfl | assumption):PS X (.Assign [.Name x pos'] e pos) (u9 te (iK i)):=Oz S.nd hi hx he hs hf
theorem pY {X:Cx} {ps:List Str} {x:Str} {pos:Pos} (i:Nat) (S:aZ X.N ps X.env.scope) (hi:X.N[i]?=some x:=by rfl) (hx:Loc X.env.scope x:=by first | exact .inl rfl | exact .inr rfl) (hf:X.fn x=true\/X.env.scope.names.lookup x=some .local:=by first | exact .inl rfl | exact .inr rfl | assumption):PG X (.Name x pos) (iK i):=bD S.nd hi hx hf
theorem pX {X:Cx} {a b:Expr} {ta tb:TE} {pos:Pos} {r:R2} (hr:X8 X r) (ha:PE X a ta) (hb:PE X b tb) (hs:Jv b:=by exact λ_ _=>rfl):PE X (.Subscript a b pos) (Ut r ta tb):=Dr hr ha hb hs
@[elab_as_elim] theorem gE {P:Hp} {T:aaH} {X:HO} {motive:Hp->Prop} (f:P T=none) (k:∀ N,Same P N->N T=some X->motive N):motive (upd P T X):=k _ ((Same.refl P).upd f) au
structure Cl (P:abt) (w:acU) (K:aaf) (mg:Str->Option aat) (base:afp) (k:Nat) (x:Str) (ps:List Str) (sp:Sp):Prop where
 ex:∃ f fd,aV P w K mg base dF k f fd ps sp/\mg x=some (.ref f)/\afZ K (.ref f)=true/\Binds K fd ps []
theorem jh {P:abt} {w:acU} {K:aaf} {mg:Str->Option aat} {base:afp} {k:Nat} {x:Str} {ps:List Str} {sp:Sp} {f:aaH} {fd:abL} (a:aV P w K mg base dF k f fd ps sp) (b:mg x=some (.ref f)) (c:afZ K (.ref f)=true) (d:Binds K fd ps []):Cl P w K mg base k x ps sp:=⟨_,_,a,b,c,d⟩
theorem pC {X:Cx} {k:Nat} {x:Str} {ps:List Str} {sp:Sp} {p pos:Pos} {e:Expr} {es:List Expr} {t:TA} (c:Cl X.prog X.w X.K X.mg X.base k x ps sp) (hr:fX k X.A) (ha:PA X (e :: es) t) (hg:Gl X x:=by rfl) (hdb:(x == ("__debug__" : Str))=false:=by decide) (he:starEach (e :: es) X.env=(false,eval e X.env) :: starEach es X.env:=by rfl) (hpl:(backTo pos (starEach es X.env)).any (·.1)=false:=by rfl) :
   PE X (.Call (.Name x p) (e :: es) [] pos) (X5 sp [] E0 t):=let ⟨_,_,F,m,kk,b⟩:=c.ex; Vg F hr hg m kk b .nil gZ ha hdb he hpl
noncomputable def top (i:Nat):air:=PySem.Challenge.pw_skewbooks_k39_letters_refused.main.body.getD i (.Pass ⟨0,0,0,0⟩)
noncomputable abbrev Hg:air:=top 19
noncomputable abbrev JT:air:=top 20
noncomputable abbrev Hi:air:=top 25
noncomputable abbrev Cd:air:=top 26
noncomputable abbrev Ce:air:=top 30
noncomputable abbrev Cg:air:=top 31
noncomputable abbrev Ci:air:=top 50
noncomputable abbrev oF:air:=top 51
noncomputable abbrev sI:air:=top 52
noncomputable abbrev j6:air:=top 53
noncomputable abbrev Cj:air:=top 54
noncomputable abbrev Hj:air:=top 58
noncomputable abbrev QF:air:=top 59
noncomputable abbrev QG:air:=top 60
noncomputable abbrev tZ:air:=top 61
noncomputable abbrev xq:air:=top 62
noncomputable abbrev lX:air:=top 63
noncomputable abbrev uc:air:=top 64
noncomputable abbrev fO:air:=top 65
noncomputable abbrev pJ:air:=top 66
noncomputable abbrev xr:air:=top 67
noncomputable abbrev ud:air:=top 74
noncomputable abbrev Z1:air:=top 75
structure Txt (mg:Str->Option aat) (t8 t6 tR tL:Tok):Prop where
 yQ:mg "isinstance" = none
 int:mg "int" = none
 bool:mg "bool" = none
 str:mg "str" = none
 tuple:mg "tuple" = none
 len:mg "len" = none
 all:mg "all" = none
 zip:mg "zip" = none
 set:mg "set" = none
 sorted:mg "sorted" = none
 divmod:mg "divmod" = none
 range:mg "range" = none
 max:mg "max" = none
 min:mg "min" = none
 abs:mg "abs" = none
 list:mg "list" = none
 any:mg "any" = none
 dict:mg "dict" = none
 most:mg "LONGEST_NAME" = some (.int 8 t8)
 acQ:mg "MOST_HOUSES" = some (.int 6 t6)
 Yk:mg "MOST_ROWS" = some (.int 24 tR)
 Yl:mg "MOST_LETTERS" = some (.int 24 tL)
noncomputable def qL2:List Nat:=[113,113,113,113,113,113,113,115]
noncomputable def qS2:Str:=⟨qL2.toArray⟩
theorem zm:((acF 26).all λt=>(acF 8).all λsz=>(acF 3).all λpick=>(acF 12).all λk=>!decide (oh t sz pick k=qL2))=true:=by decide +kernel
theorem Mh {t sz pick:Nat} (ht:t<26) (hz:sz<8) (hp:pick<3):∀ s∈dH t sz pick,s≠qS2:=by
 intro s hs e;obtain ⟨k,hk,rfl⟩:=abj.mp hs;have h:=abP.mp (abP.mp (abP.mp (abP.mp zm t (adv.mpr ht)) sz (adv.mpr hz)) pick (adv.mpr hp)) k hk;have:=congrArg (λs:Str=>s.cps.toList) e;have e2:oh t sz pick k=qL2:=by simpa [nameS,qS2] using this
 rw [e2] at h;exact absurd h (by decide)
noncomputable def xu:Sp:=λvs H Q _=>∃ (p:aaH),vs=[.ref p,.int 12]/\bU H p/\∀ (l:aaH) (ss:List Str) (H':Hp),H l=none->H' l=some (.lst (ss.map V.str))->ss.length=12->ss.Nodup->(∀ s∈ss,Good s)->(∀ s∈ss,s≠qS)->(∀ s∈ss,s≠qS2)->bU H' p->aY p H H'->Q (.ref l) H'
theorem V4:aZ ["thing"] ["thing"] (aJ Hg):=nj
theorem QH {f:aaH} {fd:abL} (F:dO K "is_whole" "is_whole" Hg f fd) (T:Txt mg t8 t6 tR tL):aV P w K mg base dF 1 f fd ["thing"] (lW K):=by
 refine F.ok V4 (λvs H Q E h=>?_) (λcdv A outer s H vs Q E hr h=>?_)
 . obtain ⟨x,rfl,_⟩:=h;rfl
 . obtain ⟨x,rfl,⟨⟨T',ty⟩,_⟩,q⟩:=h
   refine ⟨_,aG (bf (nG (aM jZ rfl T.yQ abl (aj (pV 0) (aj (lN (v:=.ty "int") rfl T.int PyProof.Rows.boot_int rfl) ao)))
     (jP (acy (aM jZ rfl T.yQ abl (aj (pV 0) (aj (lN (v:=.ty "bool") rfl T.bool PyProof.Rows.boot_bool rfl) ao))))))),?_⟩
   obtain ⟨k1,k2,_,_⟩:=Bv ty;have e:=ZM ty;refine ⟨x,_,_,_,rfl,ty,k1,?_⟩;cases q1:Bu T' "int" with
   | false =>
     rw [q1] at e;rw [<- e] at q;exact q
   | true =>
     rw [q1] at e;refine ⟨x,_,_,_,rfl,ty,k2,?_⟩;show Q (.bl (!Bu T' "bool")) H;rw [<- e] at q;simpa using q
theorem Z2:aZ ["thing"] ["thing"] (aJ JT):=nj
theorem V5 {f:aaH} {fd:abL} (F:dO K "is_name" "is_name" JT f fd) (T:Txt mg t8 t6 tR tL):aV P w K mg base dF 1 f fd ["thing"] (tQ K):=by
 refine F.ok Z2 (λvs H Q E h=>?_) (λcdv A outer s H vs Q E hr h=>?_)
 . obtain ⟨x,rfl,_⟩:=h;rfl
 . obtain ⟨x,rfl,⟨⟨T',ty⟩,hz⟩,q⟩:=h
   refine ⟨_,aq (bW (mY (cP (sZ (aM jZ rfl T.yQ abl (aj (pV 0) (aj (lN (v:=.ty "str") rfl T.str ano rfl) ao)))))
       (pw_or1 (cP (ZC oLe oLe aD (aM Br rfl T.len adp (aj (pV 0) ao)) (cM (v:=.int 8) rfl T.most ⟨_,rfl⟩))))) (aG (bf iJ)) aU)
     (aG (bf (aM (rZ rfl) rfl T.all aiy (aj (cD (gP:=aJ JT) (own:=["sign"]) (cap:=[]) (ix:=[]) rfl rfl iR
       (Zt (pV 0)) (λb=>bD (i:=0) (show (["sign"]:List Str).Nodup by decide +kernel) rfl (afO rfl)) (λb=>cN) (λb=>agF acs acs bY (pV 0) bY)) ao)))),?_⟩
   obtain ⟨_,_,k3,_⟩:=Bv ty;refine ⟨x,_,_,_,rfl,ty,k3,?_⟩;cases q1:Bu T' "str" with
   | false =>
     have e:Dh x=false:=by cases ty <;> first | rfl | exact absurd q1 (by decide)
     rw [e] at q;exact q H (Same.refl H)
   | true =>
     obtain ⟨z,rfl⟩:∃ z,x=.str z:=by cases ty <;> first | exact ⟨_,rfl⟩ | exact absurd q1 (by decide)
     have hz':=hz z rfl;refine ⟨z,rfl,hz',?_⟩;refine eZ (λh1=>?_) (λh1=>?_)
     . have h1':1<=z.length:=by have:=of_decide_eq_true h1; omega
       refine eZ (λh2=>?_) (λh2=>?_)
       . have e:Dh (.str z)=false:=by
           have h2':¬ z.length<=8:=by
             intro h;have:decide ((z.length:Int)<=8)=true:=decide_eq_true (by omega);rw [this] at h2; cases h2
           simp [Dh,h2']
         rw [e] at q;exact q H (Same.refl H)
       . have h2':z.length<=8:=by
           have:¬ ¬ (z.length:Int)<=8:=λh=>h2 (by rw [decide_eq_false h]; rfl)
           omega
         refine ⟨z,rfl,λD hD=>Px (λi H'=>dX H H' D ((z.cps.toList.take i).map λc=>V.bl (low c))) (dX.start hD) (λH' G=>?_) (λi c H' hc hi G b=>?_)⟩
         . refine ⟨D,z.cps.toList.map low,rfl,cG.of (by rw [G.at',take_all (by simp),afn]; rfl),?_⟩
           have e:Dh (.str z)=(z.cps.toList.map low).all id:=by
             simp [Dh,h1',h2',List.all_map]
           rw [e] at q;exact q H' G.same
         . have hl:=ZP c;have sz:z.cps.size<=sizeLine:=hz'
           have fin:∀ (k:Bool),k=low c->Nx z.cps.size i (λi H'=>dX H H' D ((z.cps.toList.take i).map λc=>V.bl (low c))) (upd H' D (.lst ((z.cps.toList.take i).map (λc=>V.bl (low c))++[.bl k]))):=λk hk=>by
             subst hk;refine nx hi ?_;show dX H _ D ((z.cps.toList.take (i+1)).map λc=>V.bl (low c));rw [Py (Vu hc)];exact G.put hD _
           refine eZ (λh3=>?_) (λh3=>?_)
           . refine ⟨_,G.at',Dz hi sz,fin _ ?_⟩;have h3':decide (97<=c)=true:=hl.1.symm.trans h3;show (!decide (("z" : Str).cps.toList<(⟨#[c]⟩:Str).cps.toList))=low c;rw [hl.2];simp [low,of_decide_eq_true h3']
           . refine ⟨_,G.at',Dz hi sz,fin _ ?_⟩;have h3':¬ 97<=c:=λh=>h3 (hl.1.trans (decide_eq_true h))
             simp [low,h3']
     . have e:Dh (.str z)=false:=by
         have h1':¬ 1<=z.length:=by
           intro h;exact h1 (decide_eq_true (by omega))
         simp [Dh,h1']
       rw [e] at q;exact q H (Same.refl H)
theorem QJ:aZ ["_law_cell"] ["_law_cell"] (aJ Hj):=nj
theorem QK {f:aaH} {fd:abL} (F:dO K "_law_mixed" "_law_mixed" Hj f fd):aV P w K mg base dF 1 f fd ["_law_cell"] BP:=by
 refine F.ok QJ (λvs H Q E h=>?_) (λcdv A outer s H vs Q E hr h=>?_)
 . obtain ⟨c,rfl,_⟩:=h;rfl
 . obtain ⟨c,rfl,hb,q⟩:=h;refine ⟨_,(aG (bf (bx oMod (bx acJ (pV 0) aD) (bx Lk aD aD)))),?_⟩;refine ⟨IntMulOk.of_le (m:=2000000) (n:=400) hb (by decide +kernel) (by decide),?_⟩;refine ⟨⟨by decide,by decide,by decide⟩,by show (0:Int)<10 ^ Int.toNat 60; decide +kernel,?_⟩;exact q _ (Int.emod_nonneg _ (by decide +kernel))
theorem V6:aZ ["_law_script","_law_k"] ["_law_script","_law_k"] (aJ QF):=nj
theorem V7 {f:aaH} {fd:abL} (F:dO K "_law_pack" "_law_pack" QF f fd) (T:Txt mg t8 t6 tR tL) (JV:Cl P w K mg base 1 "_law_mixed" ["_law_cell"] BP):aV P w K mg base dF 2 f fd ["_law_script","_law_k"] (BR K):=by
 refine F.ok V6 (λvs H Q E h=>?_) (λcdv A outer s H vs Q E hr h=>?_)
 . obtain ⟨a,ns,k,rfl,_⟩:=h;rfl
 . obtain ⟨a,ns,k,rfl,ha,hb,hl,k0,k1,q⟩:=h;have small:∀ z:Int,0<=z->z<=10000000->alQ z<=1048576:=λz z0 z1=>adS (aoa (by omega) (by omega)) (by decide)
   have fin:∀ n:Int,0<=n->qP (jV (tC (.int n)) yX) ([]:St) H Q:=λn n0=>⟨by show 1<=sizeLine; rw [aby]; decide,λp hp=>q p _ hp ⟨n,au,n0⟩ ((Same.refl H).upd hp)⟩
   refine ⟨_,(aq (bW (mO oLt (pV 1) (aM cB rfl T.len adp (aj (pV 0) ao)) (bA _)) (aG (bf (cR (aj (pC JV hr (aj (bx iT (pX Ln (pV 0) (pV 1)) (bx Zw aD (pV 1))) ao)) ao)))) aU) (aG (bf (cR (aj (pC JV hr (aj (bx iT (bx Zw aD (pV 1)) aD) ao)) ao))))),?_⟩;refine ⟨a,_,rfl,.inl ha,?_⟩;refine eZ (λz=>?_) (λz=>?_)
   . have lt:k<((ns.map V.int).length:Int):=of_decide_eq_true z;obtain ⟨j,rfl⟩:=adQ k0;rw [aac] at lt;have hj:ns[j]?=some ns[j]:=aaj (by omega);refine acz ha (v:=.int ns[j]) (je (by rw [aaJ,hj]; rfl)) ?_;refine ⟨.inl ⟨by decide,by decide⟩,?_⟩;have b1:=intBits_add_le (hb ns[j] (abq hj)) (small (23 * (j:Int)) (by omega) (by omega));refine ⟨_,rfl,adS b1 (by decide),λn n0=>?_⟩;exact fin n n0
   . refine ⟨.inl ⟨by decide,by decide⟩,?_⟩;refine ⟨_,rfl,adS (small (5099 * k+7) (by omega) (by omega)) (by decide),λn n0=>?_⟩;exact fin n n0
theorem JW:aZ ["_law_pack_here","_law_size","_law_digit"] ["_law_pack_here","_law_size"] (aJ QG):=nj
theorem V8 {f:aaH} {fd:abL} (F:dO K "_law_take" "_law_take" QG f fd) (T:Txt mg t8 t6 tR tL):aV P w K mg base dF 1 f fd ["_law_pack_here","_law_size"] n6:=by
 refine F.ok JW (λvs H Q E h=>?_) (λcdv A outer s H vs Q E hr h=>?_)
 . obtain ⟨p,m,rfl,_⟩:=h;rfl
 . obtain ⟨p,m,rfl,⟨n,hp,n0⟩,m0,m1,q⟩:=h;refine ⟨_,(aq (Bk (aM Dn rfl T.divmod PyProof.Rows.boot_divmod (aj (pX Ln (pV 0) aD) (aj (pV 1) ao))) (fU rfl (aP (Y0 (pV 0) aD agJ) (aP (pY 2 JW) dR)))) (aG (bf (pV 2)))),?_⟩;refine sy hp (i:=0) (by rfl) ?_;refine ⟨n,m,rfl,⟨m0,m1⟩,λt ht=>?_⟩;have ne:p≠t:=aH hp ht;refine ⟨t,_,rfl,bQ.of au,rfl,_,_,rfl,?_⟩;refine setAt (j:=0) (show upd H t (.tup [.int (n / m),.int (n % m)]) p=some (.lst [.int n]) by rw [aB ne]; exact hp) (by rfl) ?_;refine ⟨_,_,rfl,rfl,?_⟩;refine q _ _ (Int.emod_nonneg n (by omega)) (Int.emod_lt_of_pos n m0) ⟨n / m,au,Int.ediv_nonneg n0 (by omega)⟩ ?_;exact ((aY.of (Same.refl H)).new ht).upd
theorem j7:aZ ["_law_pack_here","_law_amount","_law_letters_here","_law_turn","_law_pick","_law_size"] ["_law_pack_here","_law_amount"] (aJ tZ):=nj
theorem QL {f:aaH} {fd:abL} (F:dO K "_law_names" "_law_names" tZ f fd) (T:Txt mg t8 t6 tR tL) (cQ:Cl P w K mg base 1 "_law_take" ["_law_pack_here","_law_size"] n6):aV P w K mg base dF 2 f fd ["_law_pack_here","_law_amount"] xu:=by
 refine F.ok j7 (λvs H Q E h=>?_) (λcdv A outer s H vs Q E hr h=>?_)
 . obtain ⟨p,rfl,_⟩:=h;rfl
 . obtain ⟨p,rfl,hp,q⟩:=h;have jH:sizeLine=16777216:=aby;refine ⟨_,(aq (pZ 2 j7 bY) (aq (pZ 3 j7 (pC cQ hr (aj (pV 0) (aj aD ao)))) (aq (pZ 2 j7 (bx Vt (dW Vw (pV 2) (FZ (pV 3)) iH) (dW Vw (pV 2) iH (FZ (pV 3))))) (aq (pZ 4 j7 (pC cQ hr (aj (pV 0) (aj aD ao)))) (aq (pZ 5 j7 (pC cQ hr (aj (pV 0) (aj aD ao)))) (aq (bW (mO oEq (pV 4) aD (bA _)) (aG (bf (cD (gP:=aJ tZ) (own:=["_law_k"]) (cap:=["_law_letters_here"]) (ix:=[2]) rfl rfl iR (fM rfl T.range (aj (pV 1) ao)) (λb=>(bD (i:=0) (show (["_law_k","_law_letters_here"]:List Str).Nodup by decide +kernel) rfl (afO rfl))) (λb=>cN) (λb=>(bx VB (pX Vv (pV 1) (bx oDiv (pV 0) aD)) (bx iT aD (bx oMod (pV 0) aD))))))) aU) (aq (bW (mO oEq (pV 4) aD (bA _)) (aG (bf (cD (gP:=aJ tZ) (own:=["_law_k"]) (cap:=["_law_letters_here","_law_size"]) (ix:=[2,5]) rfl rfl iR (fM rfl T.range (aj (pV 1) ao)) (λb=>(bD (i:=0) (show (["_law_k","_law_letters_here","_law_size"]:List Str).Nodup by decide +kernel) rfl (afO rfl))) (λb=>cN) (λb=>(bx Vt (pX Vv (pV 1) (bx oMod (pV 0) aD)) (dW Vw (pV 1) (FZ aD) (FZ (bx iT aD (pV 2))))))))) aU) (aG (bf (cD (gP:=aJ tZ) (own:=["_law_k"]) (cap:=["_law_letters_here","_law_size"]) (ix:=[2,5]) rfl rfl iR (fM rfl T.range (aj (pV 1) ao)) (λb=>(bD (i:=0) (show (["_law_k","_law_letters_here","_law_size"]:List Str).Nodup by decide +kernel) rfl (afO rfl))) (λb=>cN) (λb=>(bx Vt (dW Vw (pV 1) (FZ aD) (FZ (bx iT aD (pV 2)))) (pX Vv (pV 1) (bx oMod (pV 0) aD)))))))))))))),?_⟩;refine ⟨p,26,rfl,hp,by decide,by decide,λt H1 t0 t1 hp1 s1=>?_⟩;obtain ⟨t,rfl⟩:=adQ t0;have ht:t<26:=by omega
   have la:abc.length<=sizeLine:=by rw [BX]; omega
   refine Jz (z:=abc) la ?_;refine Jz (z:=abc) la ?_;have rt:=Ql (t:=t) (by omega)
   refine ⟨by
     have z1:=amc abc (some (t:Int)) none;have z2:=amc abc none (some (t:Int));rw [BX] at z1 z2
     omega,?_⟩
   generalize agP abc (some (t:Int)) none++agP abc none (some (t:Int))=R at rt;have lR:R.length=26:=by rw [<- len_list,rt]; exact vN (by omega)
   refine ⟨p,3,rfl,hp1,by decide,by decide,λpk H2 p0 p1 hp2 s2=>?_⟩;obtain ⟨pick,rfl⟩:=adQ p0;refine ⟨p,8,rfl,hp2,by decide,by decide,λsz H3 z0 z1 hp3 s3=>?_⟩;obtain ⟨size,rfl⟩:=adQ z0;have Hl:aY p H H3:=(s1.trans s2).trans s3;obtain ⟨ok1,ok2⟩:=Ly (t:=t) (sz:=size) (pick:=pick) ht (by omega) (by omega);have ok4:=Mh (t:=t) (sz:=size) (pick:=pick) ht (by omega) (by omega);have ok3:=Qk (t:=t) (sz:=size) (pick:=pick) ht (by omega) (by omega)
   have fin:∀ (D:aaH) (H':Hp),H3 D=none->dX H3 H' D ((dH t size pick).map V.str)->Q (.ref D) H':=λD H' hD G=>by
     refine q D (dH t size pick) H' ?_ G.at' (by unfold dH; rw [aac,aiC]) ok1 ok2 ok3 ok4 (by obtain ⟨n,e,n0⟩:=hp3; exact ⟨n,G.same _ _ e,n0⟩) (Hl.trans (aY.of G.same));cases e:H D with
     | none=>rfl
     | some o =>
       have nD:D≠p:=λz=>by
         obtain ⟨n,e',_⟩:=hp3;rw [<- z,hD] at e'; cases e'
       have:=Hl D o nD e;rw [hD] at this; cases this
   have step:∀ (i:Nat),i<12->(dH t size pick).take (i+1)=(dH t size pick).take i++[nameS t size pick i]:=λi hi=>by
     have e:(dH t size pick)[i]?=some (nameS t size pick i):=by unfold dH; rw [aaJ,aju hi]; rfl
     rw [abz,e]; rfl
   have aoF:(dH t size pick).length=12:=by unfold dH; rw [aac,aiC]
   have put:∀ (i:Nat) (D:aaH) (H':Hp) (z:Str),i<12->H3 D=none->dX H3 H' D (((dH t size pick).take i).map V.str)->z.cps.toList=oh t size pick i->∃ zs,H' D=some (.lst zs)/\zs.length<sizeLine/\Nx 12 i (λi H'=>dX H3 H' D (((dH t size pick).take i).map V.str)) (upd H' D (.lst (zs++[.str z]))):=λi D H' z hi hD G ez=>by
     refine ⟨_,G.at',by rw [aac,abI]; omega,nx hi ?_⟩;show dX H3 _ D (((dH t size pick).take (i+1)).map V.str)
     have ez':z=nameS t size pick i:=by
       cases z with
       | mk c=>unfold nameS; congr 1; rw [<- ez]
     rw [step i hi,abp,ez'];exact G.put hD _
   have all:((dH t size pick).take 12).map V.str=(dH t size pick).map V.str:=by rw [adT (by omega)]
   have acR:(agP R (some 4) (some (4+(size:Int)))).cps.toList=((Qj t).drop 4).take size:=by
     have e:agP R (some ((4:Nat):Int)) (some ((4+size:Nat):Int))=_:=Lp R 4 (4+size);have e2:agP R (some 4) (some (4+(size:Int)))=⟨((R.cps.toList.take (4+size)).drop 4).toArray⟩:=e;rw [e2,rt,ami];simp
   have aoH:(agP R (some 4) (some (4+(size:Int)))).length<=26:=by rw [<- lR]; exact amc R _ _
   refine eZ (λc1=>?_) (λc1=>?_)
   . have pk0:pick=0:=by have:=of_decide_eq_true c1; omega
     refine ⟨12,rfl,by decide,by decide,λD hD=>qX (lo:=0) (n:=12) (λi H'=>dX H3 H' D (((dH t size pick).take i).map V.str)) (dX.start hD) (λH' G=>fin D H' hD (by rw [<- all]; exact G)) (λi H' hi G b=>?_)⟩;refine ⟨⟨by decide,by decide⟩,?_⟩;refine Jy (z:=R) (by omega) (by rw [rt]; exact wQ (by omega) (by rw [vN (by omega)]; omega)) ?_;refine ⟨by show (0:Int)<8; decide,?_⟩;refine ⟨_,_,rfl,rfl,by omega,by omega,?_⟩;refine put i D H' _ hi hD G ?_;subst pk0;unfold oh;rw [if_pos rfl];show aft _ _=_;congr 1
     . omega
     . congr 1; omega
   . refine eZ (λc2=>?_) (λc2=>?_)
     . have Ym:pick=1:=by have:=of_decide_eq_true c2; omega
       refine ⟨12,rfl,by decide,by decide,λD hD=>qX (lo:=0) (n:=12) (λi H'=>dX H3 H' D (((dH t size pick).take i).map V.str)) (dX.start hD) (λH' G=>fin D H' hD (by rw [<- all]; exact G)) (λi H' hi G b=>?_)⟩;refine ⟨by show (0:Int)<26; decide,?_⟩;refine Jy (z:=R) (by omega) (by rw [rt]; exact wQ (by omega) (by rw [vN (by omega)]; omega)) ?_;refine Jz (z:=R) (by omega) ?_;refine ⟨by show 1+_<=sizeLine; omega,?_⟩;refine put i D H' _ hi hD G ?_;subst Ym;rw [app_list,acR];unfold oh;rw [if_neg (by decide),if_pos rfl];have ei:((0+(i:Int)) % 26).toNat=i % 26:=by omega
       show (Qj t).getD ((0+(i:Int)) % 26).toNat 0 :: _=_;rw [ei];rfl
     . have pk2:pick≠0/\pick≠1:=⟨λe=>c1 (decide_eq_true (by rw [e]; rfl)),λe=>c2 (decide_eq_true (by rw [e]; rfl))⟩;refine ⟨12,rfl,by decide,by decide,λD hD=>qX (lo:=0) (n:=12) (λi H'=>dX H3 H' D (((dH t size pick).take i).map V.str)) (dX.start hD) (λH' G=>fin D H' hD (by rw [<- all]; exact G)) (λi H' hi G b=>?_)⟩;refine Jz (z:=R) (by omega) ?_;refine ⟨by show (0:Int)<26; decide,?_⟩;refine Jy (z:=R) (by omega) (by rw [rt]; exact wQ (by omega) (by rw [vN (by omega)]; omega)) ?_;refine ⟨by show _+1<=sizeLine; omega,?_⟩;refine put i D H' _ hi hD G ?_;rw [app_list,acR];unfold oh;rw [if_neg pk2.1,if_neg pk2.2];congr 1;show [_]=[_];congr 2; omega
theorem QM:aZ ["thing","many"] ["thing","many"] (aJ Hi):=nj
theorem QS {f:aaH} {fd:abL} (F:dO K "has_parts" "has_parts" Hi f fd) (T:Txt mg t8 t6 tR tL):aV P w K mg base dF 1 f fd ["thing","many"] vK:=by
 refine F.ok QM (λvs H Q E h=>?_) (λcdv A outer s H vs Q E hr h=>?_)
 . obtain ⟨x,d,n,rfl,_⟩:=h;rfl
 . obtain ⟨x,d,n,rfl,hd,q⟩:=h;obtain ⟨_,⟨T',ty,kt⟩,_⟩:=hd.kind (K:=K);refine ⟨_,(aG (bf (nG (aM jZ rfl T.yQ abl (aj (pV 0) (aj (lN (v:=.ty "tuple") rfl T.tuple acn rfl) ao))) (jP (fZ oEq (aM cB rfl T.len adp (aj (pV 0) ao)) (pV 1) (bA _)))))),?_⟩;refine ⟨_,_,_,_,rfl,ty,kt,?_⟩;cases d with
   | tup xs =>
     refine bK λjm bw=>?_
     obtain ⟨a,vs,ez1,ha,l60,r⟩:=hd.ZQ;subst bw;subst ez1;refine ⟨a,vs,rfl,.inr (bQ.of ha),?_⟩;show Q (.bl (decide ((vs.length:Int)=(n:Int)))) H
     have e:decide ((vs.length:Int)=(n:Int))=decide (xs.length=n):=by
       rw [r.len,aen,decide_eq_true_iff,decide_eq_true_iff]; omega
     rw [e]; exact q
   | _=>exact q
theorem QT:aZ ["name","low","high","drift"] ["name","low","high","drift"] (aJ Cd):=nj
theorem QV {f:aaH} {fd:abL} (F:dO K "is_clock" "is_clock" Cd f fd) (T:Txt mg t8 t6 tR tL) (oG:Cl P w K mg base 1 "is_name" ["thing"] (tQ K)) (iI:Cl P w K mg base 1 "is_whole" ["thing"] (lW K)):aV P w K mg base dF 2 f fd ["name","low","high","drift"] BL:=by
 refine F.ok QT (λvs H Q E h=>?_) (λcdv A outer s H vs Q E hr h=>?_)
 . obtain ⟨x0,x1,x2,x3,d0,d1,d2,d3,rfl,_⟩:=h;rfl
 . obtain ⟨x0,x1,x2,x3,d0,d1,d2,d3,rfl,h0,h1,h2,h3,q⟩:=h;have jH:sizeLine=16777216:=aby;obtain ⟨th0,_,_,n0⟩:=h0.kind (K:=K);refine ⟨_,(aq (bW (mY (cP (sZ (pC oG hr (aj (pV 0) ao)))) (pw_or1 (cP (sZ (aM (rZ rfl) rfl T.all aiy (aj (cD (gP:=aJ Cd) (own:=["number"]) (cap:=[]) (ix:=[]) rfl rfl iR (iy (bH (aj (pV 1) (aj (pV 2) (aj (pV 3) ao))))) (λb=>(bD (i:=0) (show (["number"]:List Str).Nodup by decide +kernel) rfl (afO rfl))) (λb=>cN) (λb=>(pC iI hr (aj (pV 0) ao)))) ao)))))) (aG (bf iJ)) aU) (aG (bf (nG (fZ oLe (pV 1) (pV 2) (bA _)) (jP (fZ oGe (pV 3) aD (bA _))))))),?_⟩;refine ⟨x0,rfl,th0,λH1 s1=>?_⟩;rw [n0];unfold BK at q;cases e0:qF d0 with
   | false=>rw [e0] at q; exact q H1 s1
   | true =>
     rw [e0,ahZ] at q;refine ⟨by show 3<=sizeLine; omega,λp hp=>?_⟩;refine ⟨p,rfl,⟨_,bQ.of au⟩,λD hD=>comp_map (xs:=[x1,x2,x3]) (ys:=[gA d1,gA d2,gA d3].map V.bl) hD (bQ.of au) (by show 3<=sizeLine; omega) rfl (λi x H' hx s2 b R hR=>?_) (λH' s2 e=>?_)⟩
     . have S:=(s1.upd hp).trans s2
       have hx':∃ dd,cj H' x dd/\([gA d1,gA d2,gA d3].map V.bl)[i]?=some (.bl (gA dd)):=by
         match i,hx with
         | 0,hx=>cases hx; exact ⟨d1,h1.same S,rfl⟩
         | 1,hx=>cases hx; exact ⟨d2,h2.same S,rfl⟩
         | 2,hx=>cases hx; exact ⟨d3,h3.same S,rfl⟩
       obtain ⟨dd,hdd,ey⟩:=hx';refine bK λjm bw=>?_
       obtain ⟨th,_,w,_⟩:=hdd.kind (K:=K);subst bw;refine ⟨x,rfl,th,?_⟩;rw [w];exact hR H' _ ey (Same.refl _)
     . refine ⟨D,[gA d1,gA d2,gA d3],rfl,cG.of e,?_⟩;have ea:([gA d1,gA d2,gA d3]:List Bool).all id=(gA d1 && (gA d2 && gA d3)):=by simp
       rw [ea];have qq:=q H' ((s1.upd hp).trans s2);cases e1:(gA d1 && (gA d2 && gA d3)) with
       | false=>rw [e1] at qq; exact qq
       | true =>
         rw [e1,ahZ] at qq;obtain ⟨w1,w2⟩:=abr.mp e1;obtain ⟨w2,w3⟩:=abr.mp w2;cases h1 with
         | int i1 =>
           cases h2 with
           | int i2 =>
             cases h3 with
             | int i3 =>
               refine eZ (λz=>?_) (λz=>?_)
               . have z':decide (intD (.int i1)<=intD (.int i2))=true:=z;rw [z',ahZ] at qq;exact qq
               . have z':decide (intD (.int i1)<=intD (.int i2))=false:=(Bool.not_eq_true _).mp z;rw [z',afK] at qq;exact qq
             | _=>cases w3
           | _=>cases w2
         | _=>cases w1
theorem Mi:aZ ["names"] ["names"] (aJ Ce):=nj
theorem Mj {f:aaH} {fd:abL} (F:dO K "are_unlike" "are_unlike" Ce f fd) (T:Txt mg t8 t6 tR tL):aV P w K mg base dF 1 f fd ["names"] wO:=by
 refine F.ok Mi (λvs H Q E h=>?_) (λcdv A outer s H vs Q E hr h=>?_)
 . obtain ⟨x,hs,rfl,_⟩:=h;rfl
 . obtain ⟨a,ss,rfl,ha,few,q⟩:=h;have ek:(ss.map (acW:Str->Key)).map kV=ss.map V.str:=by rw [afn]; rfl
   refine ⟨_,(aG (bf (fZ oEq (aM Ls rfl T.len adp (aj (bJ (P0 rfl) rfl T.set anp (aj (pV 0) ao)) ao)) (aM cB rfl T.len adp (aj (pV 0) ao)) (bA _)))),?_⟩;refine ⟨a,ss.map acW,rfl,cG.of (by rw [ek]; exact ha),by rw [aac]; omega,λl hl=>?_⟩;refine ⟨l,ss.map acW,rfl,au,?_⟩;have s1:=(Same.refl H).upd (o:=.ext (PN P w l (ss.map acW))) hl;refine ⟨a,ss.map V.str,rfl,.inl (cG.of (s1 _ _ ha)),?_⟩;show Q (.bl (decide (((dD (ss.map acW) (ss.map (acW:Str->Key)).length).length:Int)=((ss.map V.str).length:Int)))) _
   have e:decide (((dD (ss.map acW) (ss.map (acW:Str->Key)).length).length:Int)=((ss.map V.str).length:Int))=decide ss.Nodup:=by
     rw [aen,decide_eq_true_iff,decide_eq_true_iff,aac,aac];constructor
     . intro z;have z2:=zY (ks:=ss.map (acW:Str->Key)) ss.length (by rw [aac]; exact aaw _) (by omega);rw [adT (by rw [aac]; exact aaw _)] at z2;rw [abJ,ado] at z2;rw [abJ];exact z2.imp λh e=>h (by rw [e])
     . intro z
       have nk:(ss.map (acW:Str->Key)).Nodup:=by
         rw [abJ,ado];exact (abJ.mp z).imp λh z=>h (ahL z)
       rw [wN nk _ (by rw [aac]; exact aaw _),abI,aac];omega
   rw [e];exact q _ s1
theorem j8:aZ ["thing","sent","taken","least","most"] ["thing"] (aJ Cg):=nj
theorem Ml {f:aaH} {fd:abL} (F:dO K "is_letter" "is_letter" Cg f fd) (Ck:Cl P w K mg base 1 "has_parts" ["thing","many"] vK) (oG:Cl P w K mg base 1 "is_name" ["thing"] (tQ K)) (iI:Cl P w K mg base 1 "is_whole" ["thing"] (lW K)):aV P w K mg base dF 2 f fd ["thing"] (spD bG):=by
 refine F.ok j8 (λvs H Q E h=>?_) (λcdv A outer s H vs Q E hr h=>?_)
 . obtain ⟨x,d,rfl,_⟩:=h;rfl
 . obtain ⟨x,d,rfl,hd,q⟩:=h;refine ⟨_,(aq (bW (cP (sZ (pC Ck hr (aj (pV 0) (aj aD ao))))) (aG (bf iJ)) aU) (aq (Bk (pV 0) (fU rfl (aP (pY 1 j8) (aP (pY 2 j8) (aP (pY 3 j8) (aP (pY 4 j8) dR)))))) (aq (bW (mY (cP (sZ (pC oG hr (aj (pV 1) ao)))) (pw_or1 (cP (sZ (pC oG hr (aj (pV 2) ao)))))) (aG (bf iJ)) aU) (aq (bW (mY (cP (sZ (pC iI hr (aj (pV 3) ao)))) (pw_or1 (mO oLt (pV 3) aD (bA _)))) (aG (bf iJ)) aU) (aG (bf (agH (fZ Zb (pV 4) iw (bA _)) (jP (nG (pC iI hr (aj (pV 4) ao)) (jP (fZ oGe (pV 4) (pV 3) (bA _)))))))))))),?_⟩;refine ⟨x,d,4,rfl,hd,?_⟩
   have no:∀ d',GJ d' 4=false->bG d'=false:=λd' h=>by
     cases d' with
     | tup xs =>
       match xs,h with
       | [],_=>rfl
       | [_],_=>rfl
       | [_,_],_=>rfl
       | [_,_,_],_=>rfl
       | [_,_,_,_],h=>cases h
       | _ :: _ :: _ :: _ :: _ :: _,_=>rfl
     | _=>rfl
   cases e:GJ d 4 with
   | false =>
     have z:=q H (Same.refl H);rw [no d e] at z;exact z
   | true =>
     cases d with
     | tup xs =>
       refine bK λjm bw=>?_
       obtain ⟨a,vs,agZ,ha,l60,r⟩:=hd.ZQ;subst bw;subst agZ;refine bK λjm bw=>?_
       obtain ⟨y1,y2,y3,y4,ag0⟩:=agT (of_decide_eq_true e);subst bw;subst ag0;refine bK λjm bw=>?_
       obtain ⟨v1,v2,v3,v4,ag1,h1,h2,h3,h4⟩:=r.four;subst bw;subst ag1;refine ⟨a,_,rfl,bQ.of ha,rfl,_,_,rfl,_,_,rfl,_,_,rfl,_,_,rfl,rfl,?_⟩;refine bK λjm bw=>?_
       obtain ⟨th1,_,_,n1⟩:=h1.kind (K:=K);subst bw;refine ⟨_,rfl,th1,λH1 s1=>?_⟩;rw [n1];have q:∀ H',Same H H'->Q (.bl (qF y1 && (qF y2 && (gA y3 && (decide (1<=intD y3) && zX (intD y3) y4))))) H':=q;cases e1:qF y1 with
       | false=>rw [e1] at q; exact q H1 s1
       | true =>
         rw [e1,ahZ] at q;refine bK λjm bw=>?_
         obtain ⟨th2,_,_,n2⟩:=(h2.same s1).kind (K:=K);subst bw;refine ⟨_,rfl,th2,λH2 s2=>?_⟩;rw [n2];have S:=s1.trans s2;cases e2:qF y2 with
         | false=>rw [e2] at q; exact q H2 S
         | true =>
           rw [e2,ahZ] at q;refine bK λjm bw=>?_
           obtain ⟨th3,_,w3,_⟩:=(h3.same S).kind (K:=K);subst bw;refine ⟨_,rfl,th3,?_⟩;rw [w3];cases e3:gA y3 with
           | false=>rw [e3] at q; exact q H2 S
           | true =>
             rw [e3,ahZ] at q;cases h3 with
             | int i3 =>
               refine eZ (λz=>?_) (λz=>?_)
               . have z':decide (1<=intD (.int i3))=false:=decide_eq_false (by have:=of_decide_eq_true z; show ¬ (1:Int)<=i3; omega);rw [z',afK] at q;exact q H2 S
               . have z':decide (1<=intD (.int i3))=true:=decide_eq_true (by
                   have:¬ i3<1:=λw=>z (decide_eq_true w)
                   show (1:Int)<=i3; omega)
                 rw [z',ahZ] at q;refine ⟨rfl,?_⟩;refine bK λjm bw=>?_
                 obtain ⟨th4,_,w4,_⟩:=(h4.same S).kind (K:=K);subst bw;cases h4 with
                 | non=>exact q H2 S
                 | int i4 =>
                   refine ⟨_,rfl,th4,?_⟩;exact q H2 S
                 | bl b4=>exact ⟨_,rfl,th4,q H2 S⟩
                 | str z4 hz4=>exact ⟨_,rfl,th4,q H2 S⟩
                 | tup g1 g2 g3=>exact ⟨_,rfl,th4,q H2 S⟩
                 | lst g1=>exact ⟨_,rfl,th4,q H2 S⟩
                 | Qg g1=>exact ⟨_,rfl,th4,q H2 S⟩
             | _=>cases e3
     | _=>cases e
noncomputable def offs (rs:List Row) (m:Str->Int):List Int:=rs.map λr=>r.2-m r.1
noncomputable def jU (rs:List Row) (d:Int) (m:Str->Int):Bool:=decide (∀ a∈offs rs m,∀ b∈offs rs m,a-b<=d)
noncomputable def Ho (h:aL) (m:Str->Int) (r:Row):Bool:=decide (h.low<=r.2-m r.1) && decide (r.2-m r.1<=h.high)
noncomputable def mU (m:Str->Int) (p:Str × Str):Bool:=decide (1<=m p.2-m p.1)
noncomputable def j9 (h:aL) (m:Str->Int):Bool:=(qH h).all (Ho h m) && (((fG h).zip ((fG h).drop 1)).all (mU m) && h.runs.all λr=>jU r h.aW m)
noncomputable def rA (m:Str->Int):List Str->Bool
 | a :: b :: r=>mU m (a,b) && rA m (b :: r)
 | _=>true
theorem JX (m:Str->Int):∀ l:List Str,(l.zip (l.drop 1)).all (mU m)=rA m l
 | []=>rfl
 | [_]=>rfl
 | a :: b :: r=>by
   have z:=JX m (b :: r);show (mU m (a,b) && ((b :: r).zip r).all (mU m))=(mU m (a,b) && rA m (b :: r));rw [<- z]; rfl
theorem Ec (m:Str->Int):∀ (l:List Str) (n:Str),rA m (l++[n])=(rA m l && (match l.getLast? with | none=>true | some a=>mU m (a,n)))
 | [],n=>rfl
 | [a],n=>by simp [rA]
 | a :: b :: r,n=>by
   have z:=Ec m (b :: r) n;show (mU m (a,b) && rA m ((b :: r)++[n]))=_;rw [z,List.getLast?_cons_cons];show _=(mU m (a,b) && rA m (b :: r) && _);rw [Bool.and_assoc]
theorem lY {h:aL} {m:Str->Int}:j9 h m=true↔(∀ r∈qH h,Ho h m r=true)/\rA m (fG h)=true/\∀ r∈h.runs,jU r h.aW m=true:=by
 unfold j9;rw [adB,adB,JX,abP,abP]
noncomputable def intOf:V->Int
 | .int i=>i
 | _=>0
noncomputable def gB (kvs:List (Key × V)) (n:Str):Int:=match cL kvs (.inr n) with | some v=>intOf v | none=>0
theorem V9 {kvs:List (Key × V)} {n:Str} {i:Int} (h:cL kvs (.inr n)=some (.int i)):gB kvs n=i:=by unfold gB; rw [h]; rfl
theorem Ed {kvs:List (Key × V)} {n x:Str} {i:Int}:gB (putK kvs (.inr n) (.int i)) x=if x=n then i else gB kvs x:=by
 unfold gB;rw [wG];by_cases e:x=n
 . rw [if_pos e,if_pos (by rw [e])]; rfl
 . rw [if_neg e,if_neg (λz=>e (ahL z))]
theorem Mp {a b:List (Key × V)} {n:Str} {i:Int} (h:cL a (.inr n)=some (.int i)):gB (a++b) n=gB a n:=by
 unfold gB; rw [wX,h]; rfl
theorem Mq {a b:List (Key × V)} {n:Str} (h:cL a (.inr n)=none):gB (a++b) n=gB b n:=by
 unfold gB; rw [wX,h]; rfl
theorem xG {m m':Str->Int}:∀ {l:List Str},(∀ n∈l,m n=m' n)->rA m l=rA m' l
 | [],_=>rfl
 | [_],_=>rfl
 | a :: b :: r,h=>by
   show (mU m (a,b) && rA m (b :: r))=(mU m' (a,b) && rA m' (b :: r));rw [xG (l:=b :: r) λn hn=>h n (abk _ hn)];unfold mU;rw [h a abw,h b (abk _ abw)]
theorem QW {m m':Str->Int} {rs:List Row} (h:∀ r∈rs,m r.1=m' r.1):offs rs m=offs rs m':=by
 unfold offs;exact ah0 λr hr=>by rw [h r hr]
theorem xH {m m':Str->Int} {rs:List Row} {d:Int} (h:∀ r∈rs,m r.1=m' r.1):jU rs d m=jU rs d m':=by
 unfold jU; rw [QW h]
theorem Ae {h:aL} {m m':Str->Int} (e:∀ n∈fG h,m n=m' n):j9 h m=j9 h m':=by
 rw [aen,lY,lY,xG e];have er:∀ r∈qH h,m r.1=m' r.1:=λr hr=>e _ (afs hr)
 have ed:∀ r∈h.runs,jU r h.aW m=jU r h.aW m':=λr hr=>xH λq hq=>er q (akO.mpr ⟨r,hr,hq⟩)
 have e2:∀ r∈qH h,Ho h m r=Ho h m' r:=λr hr=>by unfold Ho; rw [er r hr]
 exact ⟨λ⟨a,b,c⟩=>⟨λr hr=>(e2 r hr) ▸ a r hr,b,λr hr=>(ed r hr) ▸ c r hr⟩,λ⟨a,b,c⟩=>⟨λr hr=>(e2 r hr).symm ▸ a r hr,b,λr hr=>(ed r hr).symm ▸ c r hr⟩⟩
noncomputable def Ga (low wide aW off:Int) (M:Str->Int) (mo:Int) (runs:List (List Row)) (rs:List Row):Prop :=
 (∀ r∈runs.flatten++rs,low<=r.2-M r.1/\r.2-M r.1<=low+wide/\M r.1<=mo/\-20<=M r.1)/\rA M ((runs.flatten++rs).map ab5)=true/\(∀ r∈runs,jU r aW M=true) /\
 ∀ r∈rs,r.2-M r.1=off\/(r.2-M r.1=off+1/\0<aW/\off+1<=low+wide)
noncomputable def Cm (low wide aW off mo:Int) (rd:Int):Prop:=rd=mo+off\/(rd=mo+off+1/\0<aW/\off+1<=low+wide)
section
variable {low wide aW off mo:Int} {M:Str->Int} {runs:List (List Row)} {rs:List Row}
theorem QX:Ga low wide aW off M mo [] []:=⟨λr hr=>by simp at hr,rfl,λr hr=>by simp at hr,λr hr=>by simp at hr⟩
theorem JZ {o:Int} (h:Ga low wide aW off M mo runs []):Ga low wide aW o M mo runs []:=⟨h.1,h.2.1,h.2.2.1,λr hr=>by simp at hr⟩
theorem Ef {Eh:Int} (h:Ga low wide aW off M mo runs rs) (l:mo<=Eh):Ga low wide aW off M Eh runs rs:=⟨λr hr=>by have:=h.1 r hr; omega,h.2⟩
theorem QZ (h:Ga low wide aW off M mo runs rs) (d0:0<=aW):jU rs aW M=true:=by
 unfold jU offs;refine decide_eq_true λa ha b hb=>?_
 obtain ⟨r,hr,rfl⟩:=abj.mp ha;obtain ⟨q,hq,rfl⟩:=abj.mp hb;have:=h.2.2.2 r hr;have:=h.2.2.2 q hq;omega
theorem Q0 {o:Int} (h:Ga low wide aW off M mo runs rs) (d0:0<=aW):Ga low wide aW o M mo (runs++[rs]) []:=by
 have e:(runs++[rs]).flatten++[]=runs.flatten++rs:=by simp
 refine ⟨by rw [e]; exact h.1,by rw [e]; exact h.2.1,λr hr=>?_,λr hr=>by simp at hr⟩;rcases abv.mp hr with z | z
 . exact h.2.2.1 r z
 . rw [abe.mp z]; exact QZ h d0
theorem Z4 {kvs:List (Key × V)} {n:Str} {rd Eh:Int} (h:Ga low wide aW off (gB kvs) mo runs rs) (lt:mo+1<=Eh) (l20:-20<=Eh) (nn:n ∉ (runs.flatten++rs).map ab5) (ok:Cm low wide aW off Eh rd) (o0:low<=off) (o1:off<=low+wide):Ga low wide aW off (gB (putK kvs (.inr n) (.int Eh))) Eh runs (rs++[(n,rd)]):=by
 have ne:∀ r∈runs.flatten++rs,gB (putK kvs (.inr n) (.int Eh)) r.1=gB kvs r.1:=λr hr=>by
   rw [Ed,if_neg λz=>nn (abj.mpr ⟨r,hr,z⟩)]
 have nw:gB (putK kvs (.inr n) (.int Eh)) n=Eh:=by rw [Ed,if_pos rfl]
 generalize gB (putK kvs (.inr n) (.int Eh))=M' at ne nw;refine ⟨λr hr=>?_,?_,λr hr=>?_,λr hr=>?_⟩
 . rw [<- adz] at hr;rcases abv.mp hr with z | z
   . have:=h.1 r z; rw [ne r z]; omega
   . rw [abe.mp z]; show low<=rd-M' n/\rd-M' n<=low+wide/\M' n<=Eh/\-20<=M' n; rw [nw]; unfold Cm at ok; omega
 . rw [<- adz,abp];show rA M' (_++[n])=true;rw [Ec,xG (m':=gB kvs) (λx hx=>by obtain ⟨r,hr,rfl⟩:=abj.mp hx; exact ne r hr),h.2.1,ahZ];cases e:((runs.flatten++rs).map ab5).getLast? with
   | none=>rfl
   | some a =>
     obtain ⟨r,hr,rfl⟩:=abj.mp (List.mem_of_getLast? e);have:=h.1 r hr;show decide (1<=M' n-M' r.1)=true;rw [nw,ne r hr];exact decide_eq_true (by omega)
 . rw [xH λq hq=>ne q (afx _ (akO.mpr ⟨r,hr,hq⟩))]; exact h.2.2.1 r hr
 . rcases abv.mp hr with z | z
   . rw [ne r (abN _ z)]; exact h.2.2.2 r z
   . rw [abe.mp z]; show rd-M' n=off\/_; rw [nw]; unfold Cm at ok; omega
theorem Wa {r:Row} {d rd:Int} (h:Ga low wide aW off M mo runs rs) (hr:r∈rs) (d0:0<=d) (ok:Cm low wide aW off (mo+1+d) rd) (le:rd<=r.2):Cm low wide aW off (mo+1+d) (r.2+1):=by
 have:=h.1 r (abN _ hr);have:=h.2.2.2 r hr;unfold Cm at ok |-;omega
theorem Wb (h:Ga low wide aW off M mo runs []) (l0:-20<=low) (l1:low<=20) (w0:0<=wide) (w1:wide<=300) (m1:mo<=660):∀ r∈runs.flatten,-1000<=r.2/\r.2<=1000:=λr hr=>by
 have:=h.1 r (afx _ hr);omega
theorem Z5 {nm:Str} (h:Ga low wide aW off M mo runs []):j9 ⟨nm,low,low+wide,aW,runs⟩ M=true:=by
 have e:runs.flatten++[]=runs.flatten:=by simp
 have h1:=h.1;have h2:=h.2.1;rw [e] at h1 h2;refine lY.mpr ⟨λr hr=>?_,h2,h.2.2.1⟩;have:=h1 r hr;unfold Ho;rw [adB];exact ⟨decide_eq_true this.1,decide_eq_true this.2.1⟩
end
structure GoodW (h:aL):Prop extends jl h where
 narrow:h.high-h.low<=300
 ag2:-1000<=h.low
 acT:h.high<=1000
 near:∀ r∈qH h,-1000<=r.2/\r.2<=1000
 ag3:h.aW<=1000
 ag4:h.runs.length<=3
noncomputable def uf:Sp:=λvs H Q _=>∃ (p:aaH) (nm:Str) (ln:aaH) (ss:List Str) (room:Int),vs=[.ref p,.str nm,.ref ln,.int room]/\bU H p/\Good nm/\H ln=some (.lst (ss.map V.str))/\ss.length<=12/\ss.Nodup/\(∀ s∈ss,Good s) /\
 ∀ (r d:aaH) (hv:V) (h:aL) (kvs:List (Key × V)) (m:Nat) (H':Hp),H r=none->H d=none->H' r=some (.tup [hv,.ref d])->gq H' hv h->GoodW h->h.name=nm->fG h=ss.take m->m<=ss.length->((m:Int)<=room\/m=0) ->
   H' d=some (.dK kvs)->kvs.map (·.1)=(ss.take m).map acW->(∀ n∈ss.take m,∃ i:Int,cL kvs (.inr n)=some (.int i))->bU H' p->aY p H H'->j9 h (gB kvs)=true->Q (.ref r) H'
noncomputable def Cp (mo:Int) (m i:Nat):Prop:=-20<=mo/\mo<=60+40 * (m:Int)+5 * (i:Int)
noncomputable def PwA (p ln R D:aaH) (nm:Str) (room low wide aW:Int) (H:Hp) (ss:List Str):Nat->St->Hp->Prop:=λi σ H'=>∃ (mo:Int) (m:Nat) (vr:List V) (kvs:List (Key × V)) (runs:List (List Row)) (uW yR Q5 Hq Gb:Option V),σ=[some (.ref p),some (.str nm),some (.ref ln),some (.int room),some (.int low),some (.int wide),some (.int aW),some (.int mo),some (.ref R),some (.ref D),some (.int (m:Int)),uW,yR,Q5,Hq,Gb]/\HS H p R D ss room H' vr kvs runs m/\runs.flatten.map ab5=ss.take m/\runs.length<=i/\Ga low wide aW 0 (gB kvs) mo runs []/\Cp mo m i
noncomputable def PwB (p ln R D L:aaH) (nm:Str) (room low wide aW GQ:Int) (H:Hp) (ss:List Str) (i:Nat) (vr:List V) (runs:List (List Row)):Nat->St->Hp->Prop:=λj σ g8=>∃ (mo:Int) (m:Nat) (kvs:List (Key × V)) (vl:List V) (rs:List Row) (Hq Gb:Option V),σ=[some (.ref p),some (.str nm),some (.ref ln),some (.int room),some (.int low),some (.int wide),some (.int aW),some (.int mo),some (.ref R),some (.ref D),some (.int (m:Int)),some (.int (0+(i:Int))),some (.int (low+GQ)),some (.ref L),Hq,Gb]/\HS H p R D ss room g8 vr kvs runs m/\g8 L=some (.lst vl)/\abG (fB g8) vl rs/\(runs.flatten++rs).map ab5=ss.take m/\rs.length<=j/\(rs.map aiA).Pairwise (·<·)/\Ga low wide aW (low+GQ) (gB kvs) mo runs rs/\Cp mo m i
theorem bN:aZ ["_law_pack_here","_law_name","_law_names_here","_law_room","_law_low","_law_wide","_law_drift","_law_moment","_law_runs","_law_hidden","_law_at","_law_turn","_law_off","_law_rows","_law_step","_law_reading"] ["_law_pack_here","_law_name","_law_names_here","_law_room"] (aJ xq):=nj
theorem Hr {f:aaH} {fd:abL} (F:dO K "_law_house" "_law_house" xq f fd) (T:Txt mg t8 t6 tR tL) (cQ:Cl P w K mg base 1 "_law_take" ["_law_pack_here","_law_size"] n6):aV P w K mg base dF 2 f fd ["_law_pack_here","_law_name","_law_names_here","_law_room"] uf:=by
 refine F.ok bN (λvs H Q E h=>?_) (λcdv A outer s H vs Q E hr h=>?_)
 . obtain ⟨p,nm,ln,ss,room,rfl,_⟩:=h;rfl
 . obtain ⟨p,nm,ln,ss,room,rfl,hp,gn,Z6,few,nd,gs,q⟩:=h;have jH:sizeLine=16777216:=aby
   have nln:ln≠p:=λz=>by
     obtain ⟨n,e,_⟩:=hp;rw [z,e] at Z6;cases ss with
     | nil=>cases Z6
     | cons s ss=>cases Z6
   refine ⟨_,(aq (pZ 4 bN (bx Pr (pC cQ hr (aj (pV 0) (aj aD ao))) aD)) (aq (pZ 5 bN (pX Ln (cR (aj aD (aj aD (aj aD (aj aD ao))))) (pC cQ hr (aj (pV 0) (aj aD ao))))) (aq (pZ 6 bN (pX Ln (cR (aj aD (aj aD (aj aD (aj aD ao))))) (pC cQ hr (aj (pV 0) (aj aD ao))))) (aq (pZ 7 bN (bx Pr (pC cQ hr (aj (pV 0) (aj aD ao))) aD)) (aq (pZ 8 bN (cR ao)) (aq (pZ 9 bN iQ) (aq (pZ 10 bN aD) (aq (dG acK rfl (fM rfl T.range (aj (pC cQ hr (aj (pV 0) (aj aD ao))) ao)) (pY 11 bN) (aq (pZ 12 bN (bx iT (pV 4) (pC cQ hr (aj (pV 0) (aj (bx iT (pV 5) aD) ao))))) (aq (pZ 13 bN (cR ao)) (aq (dG acK rfl (fM rfl T.range (aj (bx iT aD (pC cQ hr (aj (pV 0) (aj aD ao)))) ao)) (pY 14 bN) (aG (bW (uP (mO oLt (pV 10) (pV 3) (bA _)) (pw_and1 (mO oLt (pV 10) (aM cB rfl T.len adp (aj (pV 2) ao)) (bA _)))) (aq (pZ 7 bN (bx iT (bx iT (pV 7) aD) (pC cQ hr (aj (pV 0) (aj aD ao))))) (aq (pZ 15 bN (bx iT (pV 7) (pV 12))) (aq (bW (uP (mO (GP hr.units) (pV 13) (cR ao) (bA _)) (pw_and (mO oLe (bx iT (pV 12) aD) (bx iT (pV 4) (pV 5)) (bA _)) (pw_and (mO oEq (pC cQ hr (aj (pV 0) (aj aD ao))) aD (bA _)) (pw_and1 (mO oGt (pV 6) aD (bA _)))))) (aG (pZ 15 bN (bx iT (pV 15) aD))) aU) (aq (bW (uP (mO (GP hr.units) (pV 13) (cR ao) (bA _)) (pw_and1 (mO oLe (pV 15) (pX dM (pX Ln (pV 13) (O1 Zz aD)) aD) (bA _)))) (aG (pZ 15 bN (bx iT (pX dM (pX Ln (pV 13) (O1 Zz aD)) aD) aD))) aU) (aq (jf (cU hr) (pV 9) (pX Ln (pV 2) (pV 10)) (pV 7) rfl) (aq (cW (nu adq adC adD eX (pV 13) (aj (bH (aj (pX Ln (pV 2) (pV 10)) (aj (pV 15) ao))) ao))) (aG (pZ 10 bN (bx iT (pV 10) aD))))))))) aU))) (aq (bW (mO (GP hr.units) (pV 13) (cR ao) (bA _)) (aG (cW (nu adq adC adD eX (pV 8) (aj (bJ bM rfl T.tuple acn (aj (pV 13) ao)) ao)))) aU) (aG (pZ 7 bN (bx iT (pV 7) (pC cQ hr (aj (pV 0) (aj aD ao))))))))))) (aG (bf (bH (aj (bH (aj (pV 1) (aj (pV 4) (aj (bx iT (pV 4) (pV 5)) (aj (pV 6) (aj (bJ bM rfl T.tuple acn (aj (pV 8) ao)) ao)))))) (aj (pV 9) ao))))))))))))),?_⟩;refine cV λU1 Q6=>?_
   refine ⟨p,41,rfl,hp,by decide,by decide,λd1 H1 d10 d11 hp1 s1=>?_⟩;show U1 _ _;subst Q6;refine cV λU2 Q7=>?_
   refine ⟨by show 4<=sizeLine; omega,λl1 hl1=>?_⟩;refine ⟨p,4,rfl,hp1.new hl1,by decide,by decide,λd2 H2 d2a d2b hp2 s2=>?_⟩;have nl1:l1≠p:=λz=>by obtain ⟨n,e,_⟩:=hp1; rw [<- z,hl1] at e; cases e
   obtain ⟨wide,ew,w0,w1⟩:=Yj (a:=0) (b:=3) (c:=40) (e:=300) d2a d2b (by decide) (by decide) (by decide) (by decide);refine sy (s2 l1 _ nl1 au) ew ?_;show U2 _ _;subst Q7;have S2:aY p H H2:=((aY.of (Same.refl H)).trans s1 |>.new hl1).trans s2;refine cV λU3 Wc=>?_
   refine ⟨by show 4<=sizeLine; omega,λl2 hl2=>?_⟩;refine ⟨p,4,rfl,hp2.new hl2,by decide,by decide,λd3 H3 d3a d3b hp3 s3=>?_⟩;have nl2:l2≠p:=λz=>by obtain ⟨n,e,_⟩:=hp2; rw [<- z,hl2] at e; cases e
   obtain ⟨aW,ed,dr0,dr1⟩:=Yj (a:=0) (b:=1) (c:=2) (e:=9) d3a d3b (by decide) (by decide) (by decide) (by decide);refine sy (s3 l2 _ nl2 au) ed ?_;show U3 _ _;subst Wc;have S3:aY p H H3:=(S2.new hl2).trans s3;refine cV λU4 hU4=>?_
   refine ⟨p,60,rfl,hp3,by decide,by decide,λd4 H4 d40 d41 hp4 s4=>?_⟩;show U4 _ _;subst hU4;have S4:aY p H H4:=S3.trans s4;refine cV λU5 hU5=>?_
   refine ⟨abH _,λR hR=>?_⟩;show U5 _ _;subst hU5;have nR:R≠p:=λz=>by obtain ⟨n,e,_⟩:=hp4; rw [<- z,hR] at e; cases e
   have fR:H R=none:=by
     cases e:H R with
     | none=>rfl
     | some o=>have:=S4 R o nR e; rw [hR] at this; cases this
   refine cV λU6 hU6=>?_
   refine λD hD=>?_
   show U6 _ _;subst hU6;have Uv:=hp4.new (o:=.lst []) hR;have S5:aY p H (upd H4 R (.lst [])):=S4.new hR;have nD:D≠p:=λz=>by obtain ⟨n,e,_⟩:=Uv; rw [<- z,hD] at e; cases e
   have nRD:R≠D:=aH au hD
   have fD:H D=none:=by
     cases e:H D with
     | none=>rfl
     | some o=>have:=S5 D o nD e; rw [hD] at this; cases this
   have nlD:ln≠D:=aH Z6 fD;refine ⟨p,4,rfl,Uv.new hD,by decide,by decide,λn1 H6 n1a n1b hp6 s6=>?_⟩;have S6:aY p H H6:=(S5.new hD).trans s6;obtain ⟨low,hlow⟩:∃ low,low=d1-20:=⟨_,rfl⟩;refine ⟨n1,rfl,by omega,by omega,jj (lo:=0) (n:=n1.toNat) (PwA p ln R D nm room low wide aW H ss) ?_ (λi σ H' hi ahd=>?_) (fun σ H' ahe=>?_)⟩
   . exact ⟨_,0,[],[],[],none,none,none,none,none,by subst hlow; rfl,⟨hp6,S6,s6 R _ nR (by rw [aB nRD]; exact au),.nil,s6 D _ nD au,rfl,λn hn=>by simp at hn,abH _,.inr rfl,λr hr=>by simp at hr⟩,rfl,abH _,QX,by unfold Cp; omega⟩
   . refine bK λjm bw=>?_
     obtain ⟨mo,m,vr,kvs,runs,uW,yR,Q5,Hq,Gb,eσ,S,fl,rl,fe,mb⟩:=ahd;subst bw;subst eσ;refine ⟨p,wide+1,rfl,S.pack,by omega,by omega,λGQ Ha aoR aoS hpa sa=>?_⟩;have Sa:=S.step nR nD hpa sa;refine ⟨abH _,λL hL=>?_⟩;have Sb:=Sa.new (o:=.lst []) nR nD hL;have Z7:L≠p:=λz=>by obtain ⟨n,e,_⟩:=Sa.pack; rw [<- z,hL] at e; cases e
     have nLR:L≠R:=λz=>by rw [z,Sa.hR] at hL; cases hL
     have nLD:L≠D:=λz=>by rw [z,Sa.hD] at hL; cases hL
     have fL:H L=none:=by
       cases e:H L with
       | none=>rfl
       | some o=>have:=Sa.same L o Z7 e; rw [hL] at this; cases this
     refine ⟨p,3,rfl,Sb.pack,by decide,by decide,λn2 Hc n2a n2b hpc sc=>?_⟩;have Sc:=Sb.step nR nD hpc sc;have hLc:Hc L=some (.lst []):=sc L _ Z7 au;refine ⟨1+n2,rfl,by omega,by omega,jj (lo:=0) (n:=(1+n2).toNat) (PwB p ln R D L nm room low wide aW GQ H ss i vr runs) ?_ (λj σ g8 hj ahf=>?_) (fun σ g8 ahg=>?_)⟩
     . exact ⟨mo,m,kvs,[],[],_,_,rfl,Sc,hLc,.nil,by rw [adx]; exact fl,abH _,akC,JZ fe,mb⟩
     . refine bK λjm bw=>?_
       obtain ⟨mo,m,kvs,vl,rs,Hq,Gb,eσ,S,hL',pl,J0,rl',Z8,fe,mb⟩:=ahf;subst bw;subst eσ
       have gr:∀ r∈rs,Good r.1:=λr hr=>gs r.1 (by
         have z:r.1∈ss.take m:=by rw [<- J0,abp]; exact abN _ (afs hr)
         exact afP z)
       have skip:∃ (Eh:Int) (m':Nat) (kvs':List (Key × V)) (vl':List V) (rs':List Row) (ahh ahi:Option V),([some (.ref p),some (.str nm),some (.ref ln),some (.int room),some (.int low),some (.int wide),some (.int aW),some (.int mo),some (.ref R),some (.ref D),some (.int (m:Int)),some (.int (0+(i:Int))),some (.int (low+GQ)),some (.ref L),some (.int (0+(j:Int))),Gb]:St)=[some (.ref p),some (.str nm),some (.ref ln),some (.int room),some (.int low),some (.int wide),some (.int aW),some (.int Eh),some (.ref R),some (.ref D),some (.int (m':Int)),some (.int (0+(i:Int))),some (.int (low+GQ)),some (.ref L),ahh,ahi] /\
         HS H p R D ss room g8 vr kvs' runs m'/\g8 L=some (.lst vl')/\abG (fB g8) vl' rs'/\(runs.flatten++rs').map ab5=ss.take m'/\rs'.length<=j+1/\(rs'.map aiA).Pairwise (·<·)/\Ga low wide aW (low+GQ) (gB kvs') Eh runs rs'/\Cp Eh m' i:=⟨mo,m,kvs,vl,rs,_,_,rfl,S,hL',pl,J0,akE rl',Z8,fe,mb⟩
       refine eZ (λc1=>?_) (λc1=>skip);refine ⟨ln,_,rfl,.inl (cG.of (S.same ln _ nln Z6)),?_⟩;refine eZ (λc2=>?_) (λc2=>skip);clear skip;have hroom:(m:Int)<room:=of_decide_eq_true c1
       have hlen:m<ss.length:=by
         have z:(m:Int)<((ss.map V.str).length:Int):=of_decide_eq_true c2;rw [aac] at z; omega
       refine bK λRz1 Q8=>?_
       obtain ⟨n,hn⟩:∃ n,ss[m]?=some n:=⟨ss[m],aaj hlen⟩;subst Q8;refine cV λV1 hV1=>?_
       refine ⟨p,30,rfl,S.pack,by decide,by decide,λd5 Hd d50 d51 hpd sd=>?_⟩;show V1 _ _;subst hV1;refine cV λV2 hV2=>?_
       show V2 _ _;subst hV2;have Sd:=S.step nR nD hpd sd;have hLd:Hd L=some (.lst vl):=sd L _ Z7 hL';have pld:abG (fB Hd) vl rs:=aA (λ_ _ z=>z.ts (aY.tups S.pack sd)) pl;refine JK (NvR p ln R D L nm room low wide aW GQ (mo+1+d5) m (.int (0+(i:Int))) (.int (0+(j:Int))) H ss vr vl kvs runs rs (Cm low wide aW (low+GQ) (mo+1+d5))) (λU hU=>?_) (fun σ2 H2 hN2=>?_)
       . have Q9:∀ (rd:Int) (H9:Hp),Cm low wide aW (low+GQ) (mo+1+d5) rd->HS H p R D ss room H9 vr kvs runs m->H9 L=some (.lst vl)->abG (fB H9) vl rs->U [some (.ref p),some (.str nm),some (.ref ln),some (.int room),some (.int low),some (.int wide),some (.int aW),some (.int (mo+1+d5)),some (.ref R),some (.ref D),some (.int (m:Int)),some (.int (0+(i:Int))),some (.int (low+GQ)),some (.ref L),some (.int (0+(j:Int))),some (.int rd)] H9:=λrd H9 x0 x1 x2 x3=>hU _ _ ⟨rd,rfl,x1,x2,x3,x0⟩
         refine ⟨abH _,λe1 Z9=>?_⟩;have Se:=Sd.new (o:=.lst []) nR nD Z9;have hLe:upd Hd e1 (.lst []) L=some (.lst vl):=(aB (aH hLd Z9)).trans hLd;have Yn:abG (fB (upd Hd e1 (.lst []))) vl rs:=aA (λ_ _ z=>z.ts ((bV.refl Hd).new Z9)) pld;refine Qn hLe Yn gr au ?_;generalize (!rs.isEmpty)=bb;cases bb with
         | false=>exact Q9 _ _ (.inl rfl) Se hLe Yn
         | true =>
           refine eZ (λk1=>?_) (λk1=>Q9 _ _ (.inl rfl) Se hLe Yn);refine ⟨p,3,rfl,Se.pack,by decide,by decide,λd6 Hh _ _ hph sh=>?_⟩;have Sh:=Se.step nR nD hph sh;have hLh:Hh L=some (.lst vl):=sh L _ Z7 hLe;have plh:abG (fB Hh) vl rs:=aA (λ_ _ z=>z.ts (aY.tups Se.pack sh)) Yn;exact eZ (λk2=>eZ (λk3=>Q9 _ _ (.inr ⟨rfl,of_decide_eq_true k3,of_decide_eq_true k1⟩) Sh hLh plh) (λk3=>Q9 _ _ (.inl rfl) Sh hLh plh)) (λk2=>Q9 _ _ (.inl rfl) Sh hLh plh)
       refine bK λRz1 Q8=>?_
       obtain ⟨rd,aoZ,Sx,hLx,plx,rok⟩:=hN2;subst Q8;subst aoZ;refine JK (NvR p ln R D L nm room low wide aW GQ (mo+1+d5) m (.int (0+(i:Int))) (.int (0+(j:Int))) H ss vr vl kvs runs rs (λrd=>(∀ r∈rs,r.2<rd)/\Cm low wide aW (low+GQ) (mo+1+d5) rd)) (λU hU=>?_) (fun σ3 H3 hN3=>?_)
       . refine ⟨abH _,λfa hfa=>?_⟩;have Sga:=Sx.new (o:=.lst []) nR nD hfa;have Mr:upd H2 fa (.lst []) L=some (.lst vl):=(aB (aH hLx hfa)).trans hLx;have Ra:abG (fB (upd H2 fa (.lst []))) vl rs:=aA (λ_ _ z=>z.ts ((bV.refl _).new hfa)) plx;refine Qn Mr Ra gr au ?_;rcases anq rs with er | ⟨rs0,rl0,er⟩
         . subst er;exact hU _ _ ⟨_,rfl,Sga,Mr,Ra,λr hr=>by simp at hr,rok⟩
         . rw [anr] at er;have ne:(!rs.isEmpty)=true:=by rw [er]; simp
           rw [ne]
           have acY:∃ Di vL,vl=Di++[vL]/\∀ Hx,abG (fB Hx) vl rs->fB Hx vL rl0:=by
             have hv:vl≠[]:=λz=>by
               have:=pl.length;rw [z,er] at this;simp at this
             obtain ⟨Di,vL,ev⟩:=(anq vl).resolve_left hv;rw [anr] at ev;refine ⟨Di,vL,ev,λHx px=>?_⟩;have l1:=px.length;rw [ev,er,aay,aay] at l1;have e1:vl[Di.length]?=some vL:=by rw [ev]; simp
             obtain ⟨r,hr,ra⟩:=bh px e1
             have e2:rs[Di.length]?=some rl0:=by
               have:Di.length=rs0.length:=by simpa using l1
               rw [er,this]; simp
             rw [e2] at hr;cases hr;exact ra
           refine bK λjm bw=>?_
           obtain ⟨Di,vL,evl,acZ⟩:=acY;obtain ⟨gaa,rfl,gba⟩:=acZ _ Ra;subst bw
           have Rb:∀ rd:Int,rl0.2<rd->∀ r∈rs,r.2<rd:=λrd h r hr=>by
             rw [er] at hr Z8;rcases abv.mp hr with z | z
             . rw [abp] at Z8;have:=(anH.mp Z8).2.2 r.2 (afs z) rl0.2 (by simp);omega
             . rw [abe.mp z]; exact h
           refine sy Mr (i:=-1) (v:=.ref gaa) (by rw [evl]; exact DR) ?_;refine cg (bQ.of gba) (i:=1) (v:=.int rl0.2) (by rfl) ?_;refine eZ (λcc=>?_) (λcc=>?_)
           . refine sy Mr (i:=-1) (v:=.ref gaa) (by rw [evl]; exact DR) ?_;refine cg (bQ.of gba) (i:=1) (v:=.int rl0.2) (by rfl) ?_;exact hU _ _ ⟨_,rfl,Sga,Mr,Ra,Rb _ (by omega),Wa fe (by rw [er]; simp) d50 rok (of_decide_eq_true cc)⟩
           . have cc2:¬ rd<=rl0.2:=λz=>cc (decide_eq_true z)
             exact hU _ _ ⟨_,rfl,Sga,Mr,Ra,Rb _ (by omega),rok⟩
       refine bK λRz1 Q8=>?_
       obtain ⟨rd,ao3,Sy,hLy,ply,lt,rok⟩:=hN3;subst Q8;subst ao3;refine sy (Sy.same ln _ nln Z6) (i:=(m:Int)) (v:=.str n) (je (by rw [aaJ,hn]; rfl)) ?_;refine ⟨D,_,rfl,qR.k (k:=acW n) Sy.hD (by have z:=congrArg afN Sy.keys; rw [aac,aac,abI] at z; omega),?_⟩;have hLq:upd H3 D (.dK (putK kvs (.inr n) (.int (mo+1+d5)))) L=some (.lst vl):=(aB nLD).trans hLy;refine ⟨.inl ⟨rfl,_,cG.of hLq⟩,?_⟩;refine sy ((aB nlD).trans (Sy.same ln _ nln Z6)) (i:=(m:Int)) (v:=.str n) (je (by rw [aaJ,hn]; rfl)) ?_;refine ⟨by show 2<=sizeLine; omega,λtp htp=>?_⟩;obtain ⟨Sq,pq⟩:=HS.put (rd:=rd) Sy nR nD nRD Z7 nLR nLD fD fL nd hn hroom hLy ply htp;refine ⟨L,vl,_,rfl,rfl,(aB (aH hLq htp)).trans hLq,by have z:=ply.length; omega,?_⟩;exact ⟨_,m+1,_,_,rs++[(n,rd)],_,_,rfl,Sq,au,pq,by rw [<- adz,abp,J0,wU hn]; rfl,by rw [aay]; exact aiJ rl' 1,LC Z8 lt,Z4 fe (by omega) (by unfold Cp at mb; omega) (λz=>Aa nd hn (J0 ▸ z)) rok (by omega) (by omega),by unfold Cp at mb |-; omega⟩
     . refine bK λjm bw=>?_
       obtain ⟨mo,m,kvs,vl,rs,Hq,Gb,eσ,S,hL',pl,J0,rl',Z8,fe,mb⟩:=ahg;subst bw;subst eσ
       have gr:∀ r∈rs,Good r.1:=λr hr=>gs r.1 (by
         have z:r.1∈ss.take m:=by rw [<- J0,abp]; exact abN _ (afs hr)
         exact afP z)
       refine ⟨abH _,λe1 Z9=>?_⟩;have Se:=S.new (o:=.lst []) nR nD Z9;have hLe:upd g8 e1 (.lst []) L=some (.lst vl):=(aB (aH hL' Z9)).trans hL';have Yn:abG (fB (upd g8 e1 (.lst []))) vl rs:=aA (λ_ _ z=>z.ts ((bV.refl _).new Z9)) pl;have lr:=Yn.length;have lrr:=Se.pR.length;refine Qn hLe Yn gr au ?_;refine eZ (λc1=>?_) (λc1=>?_)
       . have rne:rs≠[]:=λz=>by rw [z] at c1; cases c1
         refine ⟨.inl ⟨rfl,_,cG.of Se.hR⟩,?_⟩;refine ⟨L,vl,rfl,.inl ⟨cG.of hLe,λt9 ht9=>?_⟩⟩;have St:=Se.new (o:=.tup vl) nR nD ht9;refine ⟨R,vr,_,rfl,rfl,St.hR,by omega,?_⟩;have tt:bV (upd (upd g8 e1 (.lst [])) t9 (.tup vl)) (upd (upd (upd g8 e1 (.lst [])) t9 (.tup vl)) R (.lst (vr++[.ref t9]))):=(bV.refl _).put St.hR (λ_ z=>nomatch z)
         have Su:HS H p R D ss room (upd (upd (upd g8 e1 (.lst [])) t9 (.tup vl)) R (.lst (vr++[.ref t9]))) (vr++[.ref t9]) kvs (runs++[rs]) m:=by
           refine ⟨St.pack.put nR,λb o hb e=>?_,au,?_,(aB (acV nRD)).trans St.hD,St.keys,St.vals,St.le,St.rm,λr hr=>?_⟩
           . rw [aB (aH e fR)]; exact St.same b o hb e
           . refine bC (aA (λ_ _ z=>z.ts tt) St.pR) (.cons ⟨t9,vl,rfl,tt _ _ au,aA (λ_ _ z=>z.ts (((bV.refl _).new ht9).trans tt)) Yn⟩ .nil)
           . rcases abv.mp hr with z | z
             . exact St.good r z
             . rw [abe.mp z];exact ⟨rne,by omega,gr,Z8⟩
         refine ⟨p,5,rfl,Su.pack,by decide,by decide,λd9 Hz d90 d91 hpz sz=>?_⟩;exact ⟨_,m,_,kvs,runs++[rs],_,_,_,_,_,rfl,Su.step nR nD hpz sz,by rw [List.flatten_append]; simpa using J0,by rw [aay]; exact aiJ rl 1,Ef (Q0 fe dr0) (by omega),by unfold Cp at mb |-; omega⟩
       . have rne:rs=[]:=by
           cases rs with
           | nil=>rfl
           | cons r rs=>exact absurd rfl c1
         subst rne;refine ⟨p,5,rfl,Se.pack,by decide,by decide,λd9 Hz d90 d91 hpz sz=>?_⟩;exact ⟨_,m,_,kvs,runs,_,_,_,_,_,rfl,Se.step nR nD hpz sz,by simpa using J0,akE rl,Ef (JZ fe) (by omega),by unfold Cp at mb |-; omega⟩
   . refine bK λjm bw=>?_
     obtain ⟨mo,m,vr,kvs,runs,uW,yR,Q5,Hq,Gb,eσ,S,fl,rl,fe,mb⟩:=ahe;subst bw;subst eσ;have lr:=S.pR.length;refine ⟨R,vr,rfl,.inl ⟨cG.of S.hR,λt1 h1=>?_⟩⟩;have Sa:=S.new (o:=.tup vr) nR nD h1;refine ⟨by show 5<=sizeLine; omega,λt2 h2=>?_⟩;have Sb:=Sa.new (o:=.tup [.str nm,.int low,.int (low+wide),.int aW,.ref t1]) nR nD h2;refine ⟨by show 2<=sizeLine; omega,λt3 h3=>?_⟩;have Sc:=Sb.new (o:=.tup [.ref t2,.ref D]) nR nD h3;have nt3:t3≠p:=λz=>by obtain ⟨n,e,_⟩:=Sb.pack; rw [<- z,h3] at e; cases e
     have ft3:H t3=none:=by
       cases e:H t3 with
       | none=>rfl
       | some o=>have:=Sb.same t3 o nt3 e; rw [h3] at this; cases this
     refine q t3 D (.ref t2) ⟨nm,low,low+wide,aW,runs⟩ kvs m _ ft3 fD au ⟨t2,.ref t1,rfl,(aB (aH au h3)).trans au,t1,vr,rfl,?_,Sc.pR⟩ ⟨⟨gn,by show low<=low+wide; omega,dr0,by show runs.length<=25; omega,Sc.good⟩,by show low+wide-low<=300; omega,by show -1000<=low; omega,by show low+wide<=1000; omega,Wb fe (by omega) (by omega) (by omega) (by omega) (by unfold Cp at mb; have:=Sc.le; omega),by show aW<=1000; omega,by show runs.length<=3; omega⟩ rfl fl Sc.le Sc.rm Sc.hD Sc.keys Sc.vals Sc.pack Sc.same (Z5 fe);have e1:upd (upd H' t1 (.tup vr)) t2 (.tup [.str nm,.int low,.int (low+wide),.int aW,.ref t1]) t1=some (.tup vr):=(aB (aH au h2)).trans au;exact (aB (aH e1 h3)).trans e1
end Eb
namespace L2
open PySem PySem.Spec PyProof.Rows PySem.W
namespace SA
structure SO (N:Nat) (lt:Nat->Nat->Bool):Prop where
 ao8:∀ i j,i<N->j<N->lt i j=true->lt j i=false
 trans:∀ i j k,i<N->j<N->k<N->lt i j=true->lt j k=true->lt i k=true
 tot:∀ i j,i<N->j<N->i≠j->lt i j=true\/lt j i=true
noncomputable def Gd (N:Nat) (p:Array Nat):Prop:=p.toList.Perm (acF N)
theorem iB {α β:Type} {N:Nat} {lt:Nat->Nat->Bool} {f:α->KasT β}:∀ t:KasT α,fQ N lt (t.bind f)=(fQ N lt t).bind λa=>fQ N lt (f a)
 | .ret _=>rfl
 | .ask i j k=>by
   show (if i<N/\j<N then fQ N lt ((k (lt i j)).bind f) else none)=(if i<N/\j<N then fQ N lt (k (lt i j)) else none).bind _;by_cases c:i<N/\j<N
   . rw [if_pos c,if_pos c]; exact iB _
   . rw [if_neg c,if_neg c]; rfl
section
variable {N:Nat} {lt:Nat->Nat->Bool} {p:Array Nat}
theorem xJ {α:Type} {i j:Nat} {k:Bool->KasT α} (hi:i<N) (hj:j<N):fQ N lt (.ask i j k)=fQ N lt (k (lt i j)):=by
 show (if i<N/\j<N then fQ N lt (k (lt i j)) else none)=_;rw [if_pos ⟨hi,hj⟩]
theorem Gd.size (g:Gd N p):p.size=N:=by
 have:=g.length_eq;rw [abC,aiC] at this;exact this
theorem getD_some {i:Nat} (h:i<p.size):p[i]?=some (p.getD i 0):=by
 simp [apl,h]
theorem vP {q:Array Nat} {i j:Nat} (h:q[i]?=p[j]?):q.getD i 0=p.getD j 0:=by
 rw [alR,alR,h]
theorem Gd.lo (g:Gd N p) {i:Nat} (h:i<N):p.getD i 0<N:=by
 have e:=getD_some (p:=p) (by rw [g.size]; exact h);have m:p.getD i 0∈p.toList:=anD.mpr (Array.mem_of_getElem? e);exact adv.mp (g.mem_iff.mp m)
theorem Gd.ne (g:Gd N p) {i j:Nat} (hi:i<N) (hj:j<N) (h:i≠j):p.getD i 0≠p.getD j 0:=λe=>by
 have nd:p.toList.Nodup:=g.nodup_iff.mpr List.nodup_range;have hi':i<p.toList.length:=by rw [abC,g.size]; exact hi
 have hj':j<p.toList.length:=by rw [abC,g.size]; exact hj
 have e1:p.toList[i]=p.toList[j]:=by
   have a:=getD_some (p:=p) (i:=i) (by rw [g.size]; exact hi);have b:=getD_some (p:=p) (i:=j) (by rw [g.size]; exact hj);rw [<- af4] at a b;rw [aaj hi'] at a;rw [aaj hj'] at b;rw [abx a,abx b,e]
 exact h ((ah2 nd).mp e1)
theorem Gd.of {q:Array Nat} (g:Gd N p) (h:q.Perm p):Gd N q:=(Array.perm_iff_toList_perm.mp h).trans g
noncomputable def Uw (lt:Nat->Nat->Bool) (p:Array Nat) (m:Nat):Prop:=∀ i j,i<j->j<m->lt (p.getD i 0) (p.getD j 0)=true
noncomputable def Dsc (lt:Nat->Nat->Bool) (p:Array Nat) (m:Nat):Prop:=∀ i j,i<j->j<m->lt (p.getD j 0) (p.getD i 0)=true
variable (S:SO N lt)
include S
theorem other (g:Gd N p) {i j:Nat} (hi:i<N) (hj:j<N) (h:i≠j) (n:lt (p.getD i 0) (p.getD j 0)=false):lt (p.getD j 0) (p.getD i 0)=true:=by
 rcases S.tot _ _ (g.lo hi) (g.lo hj) (g.ne hi hj h) with z | z
 . rw [n] at z; cases z
 . exact z
theorem Rc (g:Gd N p) {n:Nat} (h1:1<=n) (hn:n<N) (a:Uw lt p n) (l:lt (p.getD (n-1) 0) (p.getD n 0)=true):Uw lt p (n+1):=λi j ij hj=>by
 by_cases c:j<n
 . exact a i j ij c
 . obtain rfl:j=n:=by omega
   by_cases c2:i=j-1
   . rw [c2]; exact l
   . exact S.trans _ _ _ (g.lo (by omega)) (g.lo (by omega)) (g.lo hn) (a i (j-1) (by omega) (by omega)) l
theorem Rf (g:Gd N p) {n:Nat} (h1:1<=n) (hn:n<N) (a:Dsc lt p n) (l:lt (p.getD n 0) (p.getD (n-1) 0)=true):Dsc lt p (n+1):=λi j ij hj=>by
 by_cases c:j<n
 . exact a i j ij c
 . obtain rfl:j=n:=by omega
   by_cases c2:i=j-1
   . rw [c2]; exact l
   . exact S.trans _ _ _ (g.lo hn) (g.lo (by omega)) (g.lo (by omega)) l (a i (j-1) (by omega) (by omega))
theorem Hs (g:Gd N p):∀ (f n:Nat),1<=n->n+f<=N->Uw lt p n->∃ m,fQ N lt (kas_asc p f n)=some m/\n<=m/\m<=n+f/\Uw lt p m/\(m<n+f->lt (p.getD m 0) (p.getD (m-1) 0)=true)
 | 0,n,_,_,a=>⟨n,rfl,aaw _,aaw _,a,λh=>absurd h (by omega)⟩
 | f+1,n,h1,h2,a=>by
   unfold kas_asc;rw [xJ (g.lo (by omega)) (g.lo (by omega))];cases c:lt (p.getD n 0) (p.getD (n-1) 0) with
   | true=>exact ⟨n,rfl,aaw _,by omega,a,λ_=>c⟩
   | false =>
     obtain ⟨m,r,m1,m2,m3,m4⟩:=Hs g f (n+1) (by omega) (by omega) (Rc S g h1 (by omega) a (other S g (by omega) (by omega) (by omega) c));exact ⟨m,r,by omega,by omega,m3,λh=>m4 (by omega)⟩
theorem Rg (g:Gd N p):∀ (f n:Nat),1<=n->n+f<=N->Dsc lt p n->∃ m,fQ N lt (kas_desc f p n 0)=some (p,m,0)/\n<=m/\m<=n+f/\Dsc lt p m
 | 0,n,_,_,a=>⟨n,rfl,aaw _,aaw _,a⟩
 | f+1,n,h1,h2,a=>by
   unfold kas_desc;rw [xJ (g.lo (by omega)) (g.lo (by omega))];cases c:lt (p.getD n 0) (p.getD (n-1) 0) with
   | true =>
     obtain ⟨m,r,m1,m2,m3⟩:=Rg g f (n+1) (by omega) (by omega) (Rf S g h1 (by omega) a c);exact ⟨m,r,by omega,by omega,m3⟩
   | false =>
     show ∃ m,fQ N lt (.ask (p.getD (n-1) 0) (p.getD n 0) _)=_/\_;rw [xJ (g.lo (by omega)) (g.lo (by omega)),other S g (by omega) (by omega) (by omega) c];exact ⟨n,rfl,aaw _,by omega,a⟩
omit S in
theorem aad (g:Gd N p) {n:Nat} (hn:n<=N) (a:Dsc lt p n):Gd N (apu p 0 n)/\Uw lt (apu p 0 n) n:=by
 refine ⟨g.of (mirror_perm _ _ _ _),λi j ij hj=>?_⟩
 have e:∀ k,k<n->(apu p 0 n).getD k 0=p.getD (n-1-k) 0:=λk hk=>vP (by
   unfold apu;rw [getElem?_mirror_all (by rw [g.size]; exact hn)]
   rw [if_pos ⟨abH _,hk⟩,show 0+n-1-k=n-1-k by omega])
 rw [e i (by omega),e j hj];exact a _ _ (by omega) (by omega)
theorem Rh (g:Gd N p) (h2:2<=N):∃ m p',fQ N lt (kas_count N p)=some (m,p')/\1<=m/\m<=N/\Gd N p'/\Uw lt p' m:=by
 unfold kas_count;rw [iB];obtain ⟨m,r,m1,m2,m3,m4⟩:=Hs S g (N-1) 1 (aaw _) (by omega) (λi j ij hj=>absurd ij (by omega));rw [r];show ∃ _ _,fQ N lt (if (m == N)=true then _ else _)=_/\_;by_cases c:m=N
 . rw [if_pos (beq_iff_eq.mpr c)];exact ⟨m,p,rfl,m1,by omega,g,m3⟩
 . rw [if_neg (λz=>c (beq_iff_eq.mp z))];by_cases c1:m > 1
   . rw [if_pos c1,xJ (g.lo (by omega)) (g.lo (by omega)),m3 0 (m-1) (by omega) (by omega)];exact ⟨m,p,rfl,m1,by omega,g,m3⟩
   . rw [if_neg c1];obtain rfl:m=1:=by omega
     unfold kas_descPart;rw [iB]
     have d2:Dsc lt p 2:=λi j ij hj=>by
       obtain rfl:j=1:=by omega
       obtain rfl:i=0:=by omega
       exact m4 (by omega)
     obtain ⟨q,rq,q1,q2,q3⟩:=Rg S g (N-2) 2 (by omega) (by omega) d2;rw [show N-(1+1)=N-2 by omega,rq];show ∃ _ _,fQ N lt (kas_tail3 q N p)=_/\_;unfold kas_tail3;obtain ⟨g',a'⟩:=aad g (by omega) q3;obtain ⟨k,rk',k1,k2,k3,_⟩:=Hs S g' (N-q) q (by omega) (by omega) a';rw [iB,rk'];exact ⟨k,_,rfl,by omega,by omega,g',k3⟩
theorem xK (g:Gd N p) {k:Nat} (hk:k<N) (a:Uw lt p k):∀ (f l r:Nat),l<=r->r<=k->r-l<=f->(∀ i,i<l->lt (p.getD i 0) (p.getD k 0)=true)->(∀ i,r<=i->i<k->lt (p.getD k 0) (p.getD i 0)=true) ->
   ∃ m,fQ N lt (kas_place p k f l r)=some m/\m<=k/\(∀ i,i<m->lt (p.getD i 0) (p.getD k 0)=true)/\∀ i,m<=i->i<k->lt (p.getD k 0) (p.getD i 0)=true
 | 0,l,r,h1,h2,h3,lo,hi=>⟨l,rfl,by omega,lo,λi a b=>hi i (by omega) b⟩
 | f+1,l,r,h1,h2,h3,lo,hi=>by
   unfold kas_place;by_cases c:l ≥ r
   . rw [if_pos c];exact ⟨l,rfl,by omega,lo,λi a b=>hi i (by omega) b⟩
   . rw [if_neg c,xJ (g.lo hk) (g.lo (by omega))];cases d:lt (p.getD k 0) (p.getD ((l+r) / 2) 0) with
     | true =>
       refine xK g hk a f l ((l+r) / 2) (by omega) (by omega) (by omega) lo λi h4 h5=>?_
       by_cases e:i=(l+r) / 2
       . rw [e]; exact d
       . exact S.trans _ _ _ (g.lo hk) (g.lo (by omega)) (g.lo (by omega)) d (a _ _ (by omega) h5)
     | false =>
       refine xK g hk a f ((l+r) / 2+1) r (by omega) h2 (by omega) (λi h4=>?_) hi;have z:=other S g hk (by omega) (by omega) d;by_cases e:i=(l+r) / 2
       . rw [e]; exact z
       . exact S.trans _ _ _ (g.lo (by omega)) (g.lo (by omega)) (g.lo hk) (a _ _ (by omega) (by omega)) z
theorem Ri:∀ (f:Nat) {p:Array Nat} {k:Nat},Gd N p->1<=k->k+f=N->Uw lt p k->∃ p',fQ N lt (kas_bin f p k)=some p'/\Gd N p'/\Uw lt p' N
 | 0,p,k,g,_,e,a=>⟨p,rfl,g,by rw [<- e]; exact a⟩
 | f+1,p,k,g,h1,e,a=>by
   unfold kas_bin;rw [iB];obtain ⟨m,r,m1,lo,hi⟩:=xK S g (k:=k) (by omega) a k 0 k (abH _) (aaw _) (by omega) (λi h=>absurd h (by omega)) (λi h h'=>absurd h (by omega));rw [r];have g':Gd N (bubble p k (k-m)):=g.of (bubble_perm _ _ _);refine Ri f g' (by omega) (by omega) λi j ij hj=>?_
   have v:∀ t,(bubble p k (k-m)).getD t 0=if t=m then p.getD k 0 else if m<t/\t<=k then p.getD (t-1) 0 else p.getD t 0:=λt=>by
     have z:=getElem?_bubble (xs:=p) (src:=k) (by rw [g.size]; omega) (k-m) (by omega) t;rw [show k-(k-m)=m by omega] at z;by_cases c:t=m
     . rw [if_pos c] at z |-; exact vP z
     . rw [if_neg c] at z |-;by_cases c2:m<t/\t<=k
       . rw [if_pos c2] at z |-; exact vP z
       . rw [if_neg c2] at z |-; exact vP z
   rw [v i,v j];by_cases c:i=m
   . rw [if_pos c,if_neg (by omega),if_pos (by omega)];exact hi _ (by omega) (by omega)
   . rw [if_neg c];by_cases c2:m<i/\i<=k
     . rw [if_pos c2,if_neg (by omega),if_pos (by omega)];exact a _ _ (by omega) (by omega)
     . rw [if_neg c2];by_cases c3:j=m
       . rw [if_pos c3]; exact lo _ (by omega)
       . rw [if_neg c3];by_cases c4:m<j/\j<=k
         . rw [if_pos c4]; exact a _ _ (by omega) (by omega)
         . rw [if_neg c4]; exact a _ _ ij (by omega)
theorem Wd (h2:2<=N):∃ p,fQ N lt (kas_sort N)=some p/\Gd N p/\Uw lt p N:=by
 unfold kas_sort;rw [iB];obtain ⟨m,p',r,m1,m2,g,a⟩:=Rh S (p:=(acF N).toArray) (by show ((acF N).toArray.toList).Perm _; rw [List.toList_toArray]) h2;rw [r];show ∃ p,fQ N lt (if m<N then kas_bin (N-max m 1) p' (max m 1) else .ret p')=some p/\_;rw [show max m 1=m by omega];by_cases c:m<N
 . rw [if_pos c];exact Ri S (N-m) g m1 (by omega) a
 . rw [if_neg c];obtain rfl:m=N:=by omega
   exact ⟨p',rfl,g,a⟩
end
end SA
theorem Rj {κ:Type} {lt:κ->κ->Bool} (S:Strict lt) {ks:List κ} (hn:ks.Nodup) (h2:2<=ks.length) (d:κ) :
   ∃ p:Array Nat,fQ ks.length (λi j=>lt (ks.getD i d) (ks.getD j d)) (kas_sort ks.length)=some p/\(p.toList.map λi=>ks.getD i d).Perm ks/\(p.toList.map λi=>ks.getD i d).Pairwise (λa b=>lt a b=true)/\p.toList.Perm (acF ks.length):=by
 have so:SA.SO ks.length (λi j=>lt (ks.getD i d) (ks.getD j d)):=by
   refine ⟨λi j _ _ h=>?_,λi j k _ _ _ h1 h2=>S.trans _ _ _ h1 h2,λi j hi hj ne=>S.tot _ _ λe=>ne ?_⟩
   . cases c:lt (ks.getD j d) (ks.getD i d) with
     | false=>rfl
     | true=>have z:=S.trans _ _ _ h c; rw [S.Qc] at z; cases z
   . simp only [ahK,aaj hi,aaj hj,Option.getD_some] at e;exact (ah2 hn).mp e
 obtain ⟨p,r,g,a⟩:=SA.Wd so h2
 have all:((acF ks.length).map λi=>ks.getD i d)=ks:=by
   apply akP
   . simp
   . intro i h1 h2;simp [ahK,h2]
 refine ⟨p,r,?_,?_,g⟩
 . have z:=aon (λi=>ks.getD i d) g;rw [all] at z;exact z
 . rw [ado,List.pairwise_iff_getElem];intro i j hi hj ij;have sz:=g.size;rw [abC] at hi hj;have z:=a i j ij (by omega);have ei:p.getD i 0=p.toList[i]'(by rw [abC]; exact hi):=by simp [apl,hi]
   have ej:p.getD j 0=p.toList[j]'(by rw [abC]; exact hj):=by simp [apl,hj]
   rw [ei,ej] at z;exact z
structure Kd (α:Type) where
 key:α->Key
 val:α->aat->Prop
 lt:α->α->Bool
 ty:String
 inj:∀ a b,key a=key b->a=b
 strict:Strict lt
 is:∀ x v,val x v->jq (key x) v=true
 first:∀ (prog:abt) (w:acU) (A:acX) (E:aat->aav->Prop) (s:aav) (x y:α) (v u:aat) (Q:Bool->aav->Prop),val x v->val y u->Q (lt x y) s->wpAny (model prog w) A (oneLt' true v u) Q E s
 next:∀ (prog:abt) (w:acU) (A:acX) (E:aat->aav->Prop) (s:aav) (x y:α) (v u:aat) (Q:Bool->aav->Prop),val x v->val y u->Q (lt x y) s->wpAny (model prog w) A (oneLt' false v u) Q E s
 aae:(afE ty != afE "tuple")=true
 same:(afE ty == afE ty)=true
 vv:α->V
 rel:∀ x u,RelV (vv x) u->val x u
 looks:∀ (M:ao6) (h:afp) (x:α) (v:aat),val x v->aoK M h (typeOf v) (.type ty)
noncomputable def kdS:Kd Str where
 key:=acW
 val x v:=∃ t,v=.str x t
 lt:=slt
 ty:="str"
 inj:=λ_ _ h=>ahL h
 strict:=ju
 is:=λx v ⟨t,e⟩=>by rw [e]; exact tD x t
 first:=λ_ _ _ _ _ _ _ _ _ _ ⟨_,e⟩ ⟨_,e'⟩ q=>by rw [e,e']; exact oneLt_str q
 next:=λ_ _ _ _ _ _ _ _ _ _ ⟨_,e⟩ ⟨_,e'⟩ q=>by rw [e,e']; exact kat_one _ _ (PySem.P.lt_str q)
 aae:=rfl
 same:=rfl
 vv:=V.str
 rel:=λ_ _ h=>h
 looks:=λ_ _ _ _ ⟨_,e⟩=>by rw [e]; exact .now
noncomputable def kdI:Kd Int where
 key i:=afv (some i)
 val x v:=∃ t,v=.int x t
 lt i j:=decide (i<j)
 ty:="int"
 inj:=λ_ _ h=>abx (amA h)
 strict:=⟨λa=>decide_eq_false (by omega),λa b c h1 h2=>decide_eq_true (by have:=of_decide_eq_true h1; have:=of_decide_eq_true h2; omega),λa b h=>by
   rcases Int.lt_or_gt_of_ne h with z | z
   . exact .inl (decide_eq_true z)
   . exact .inr (decide_eq_true z)⟩
 is:=λx v ⟨t,e⟩=>by rw [e]; exact tu x t
 first:=λ_ _ _ _ _ _ _ _ _ _ ⟨_,e⟩ ⟨_,e'⟩ q=>by rw [e,e']; exact oneLt_int q
 next:=λ_ _ _ _ _ _ _ _ _ _ ⟨_,e⟩ ⟨_,e'⟩ q=>by rw [e,e']; exact kat_one _ _ (PySem.P.lt_int q)
 aae:=rfl
 same:=rfl
 vv:=V.int
 rel:=λ_ _ h=>h
 looks:=λ_ _ _ _ ⟨_,e⟩=>by rw [e]; exact .now
section
variable {α β:Type} [DecidableEq α] [DecidableEq β] [Inhabited α] [Inhabited β] (K1:Kd α) (K2:Kd β)
noncomputable def Rk (a b:α × β):Bool:=if a.1=b.1 then (if a.2=b.2 then false else K2.lt a.2 b.2) else K1.lt a.1 b.1
omit [Inhabited α] [Inhabited β] in
theorem xM:Strict (Rk K1 K2) where
 Qc:=λa=>by unfold Rk; rw [if_pos rfl,if_pos rfl]
 trans:=λa b c h1 h2=>by
   unfold Rk at h1 h2 |-;by_cases e1:a.1=b.1
   . rw [if_pos e1] at h1;by_cases f1:a.2=b.2
     . rw [if_pos f1] at h1; cases h1
     . rw [if_neg f1] at h1;by_cases e2:b.1=c.1
       . rw [if_pos e2] at h2;by_cases f2:b.2=c.2
         . rw [if_pos f2] at h2; cases h2
         . rw [if_neg f2] at h2;have z:=K2.strict.trans _ _ _ h1 h2;rw [if_pos (e1.trans e2),if_neg (λy=>by rw [y,K2.strict.Qc] at z; cases z)];exact z
       . rw [if_neg e2] at h2;rw [e1,if_neg e2]; exact h2
   . rw [if_neg e1] at h1;by_cases e2:b.1=c.1
     . rw [<- e2,if_neg e1]; exact h1
     . rw [if_neg e2] at h2;have z:=K1.strict.trans _ _ _ h1 h2;rw [if_neg (λy=>by rw [y,K1.strict.Qc] at z; cases z)];exact z
 tot:=λa b h=>by
   unfold Rk;by_cases e:a.1=b.1
   . have f:a.2≠b.2:=λz=>h (ao4 e z)
     rw [if_pos e,if_neg f,if_pos e.symm,if_neg (acV f)];exact K2.strict.tot _ _ f
   . rw [if_neg e,if_neg (acV e)];exact K1.strict.tot _ _ e
omit [DecidableEq α] [DecidableEq β] [Inhabited α] [Inhabited β]
noncomputable def Rm (h:afp) (a:aaH) (v:aat) (k:α × β):Prop:=∃ b o m v1 v2 rest,v=.ref b/\b≠a/\h.get? b=some o/\o.cls=.type "tuple"/\o.data=.seq (v1 :: v2 :: rest:List aat).toArray m/\K1.val k.1 v1/\K2.val k.2 v2/\∀ u∈rest,∃ q:Key,jq q u=true
inductive ig (h:afp) (a:aaH):List aat->List (α × β)->Prop
 | nil:ig h a [] []
 | cons {v:aat} {vs:List aat} {k:α × β} {ks:List (α × β)}:Rm K1 K2 h a v k->ig h a vs ks->ig h a (v :: vs) (k :: ks)
variable {K1 K2}
theorem ig.len {h:afp} {a:aaH} {vs:List aat} {ks:List (α × β)} (p:ig K1 K2 h a vs ks):vs.length=ks.length:=by
 induction p with
 | nil=>rfl
 | cons _ _ ih=>rw [abD,abD,ih]
theorem ig.get [Inhabited α] [Inhabited β] {h:afp} {a:aaH} {vs:List aat} {ks:List (α × β)} (p:ig K1 K2 h a vs ks):∀ i,i<ks.length->Rm K1 K2 h a (vs.getD i acS) (ks.getD i (default,default)):=by
 induction p with
 | nil=>intro i hi; exact absurd hi (Nat.not_lt_zero _)
 | cons q _ ih =>
   intro i hi;cases i with
   | zero=>exact q
   | succ i=>exact ih i (by simpa using hi)
theorem ig.keep {h h':afp} {a:aaH} {vs:List aat} {ks:List (α × β)} (p:ig K1 K2 h a vs ks) (k:∀ b o,b≠a->h.get? b=some o->h'.get? b=some o):ig K1 K2 h' a vs ks:=by
 induction p with
 | nil=>exact .nil
 | cons q _ ih =>
   obtain ⟨b,o,m,v1,v2,rest,e,nb,g,r⟩:=q;exact .cons ⟨b,o,m,v1,v2,rest,e,nb,k b o nb g,r⟩ ih
theorem ig.of [Inhabited α] [Inhabited β] {h:afp} {a:aaH}:∀ {vs:List aat} {ks:List (α × β)},vs.length=ks.length->(∀ i,i<ks.length->Rm K1 K2 h a (vs.getD i acS) (ks.getD i (default,default)))->ig K1 K2 h a vs ks
 | [],[],_,_=>.nil
 | v :: vs,k :: ks,hl,f=>.cons (f 0 (Nat.succ_pos _)) (ig.of (by simpa using hl) λi hi=>f (i+1) (Nat.succ_lt_succ hi))
 | [],_ :: _,hl,_=>by simp at hl
 | _ :: _,[],hl,_=>by simp at hl
end
section
variable {α β:Type} [DecidableEq α] [DecidableEq β] [Inhabited α] [Inhabited β] {K1:Kd α} {K2:Kd β}
variable {prog:abt} {w:acU} {A:acX} {E:aat->aav->Prop} {s:aav}
omit [DecidableEq α] [DecidableEq β] [Inhabited α] [Inhabited β] in
theorem Ei {b fin:Bool} {Q:Bool->aav->Prop} (q:Q fin s):∀ (rest:List aat) (i:Nat),(∀ u∈rest,∃ q:Key,jq q u=true)->KatLex prog w A b fin Q (rest.zip rest) i s
 | [],_,_=>kat_nil q
 | u :: r,i,h=>by
   obtain ⟨k,hk⟩:=h u abw;refine apn ((aO prog w).eqBool (show (aO prog w).is k u=true from hk) (show (aO prog w).is k u=true from hk) ?_);rw [decide_eq_true rfl];exact kat_yes (Ei q r (i+1) λv hv=>h v (abk _ hv))
omit [Inhabited α] [Inhabited β] in
theorem Wf {a:aaH} {v v':aat} {k k':α × β} {Q:Bool->aav->Prop} (p:Rm K1 K2 s.heap a v k) (p':Rm K1 K2 s.heap a v' k') (hd:k=k'->v=v') (q:Q (Rk K1 K2 k k') s):wpAny (model prog w) A (keyLt' (tuples' true) v v') Q E s:=by
 obtain ⟨b,o,m,v1,v2,rest,rfl,_,g,c,d,h1,h2,h3⟩:=p;obtain ⟨b',o',m',u1,u2,rest',rfl,_,g',c',d',h1',h2',h3'⟩:=p';unfold Rk at q;have k1:(aO prog w).is (K1.key k.1) v1=true:=K1.is _ _ h1;have k2:(aO prog w).is (K2.key k.2) v2=true:=K2.is _ _ h2;have k1':(aO prog w).is (K1.key k'.1) u1=true:=K1.is _ _ h1';have k2':(aO prog w).is (K2.key k'.2) u2=true:=K2.is _ _ h2';by_cases e:k.1=k'.1
 . rw [if_pos e] at q;by_cases f:k.2=k'.2
   . rw [if_pos f] at q;have eb:b=b':=Value.ref.inj (hd (ao4 e f));subst eb;rw [g] at g';cases g';refine kat_lt g d g d ?_;show KatLex prog w A true (decide (_<_)) Q ((v1 :: v2 :: rest).zip (v1 :: v2 :: rest)) 0 s;rw [decide_eq_false (afM _)];refine Ei q _ 0 λu hu=>?_
     rcases abu.mp hu with rfl | hu
     . exact ⟨_,K1.is _ _ h1⟩
     . rcases abu.mp hu with rfl | hu
       . exact ⟨_,K2.is _ _ h2⟩
       . exact h3 u hu
   . rw [if_neg f] at q;refine kat_lt g d g' d' ?_;show KatLex prog w A true (decide (_<_)) Q ((v1,u1) :: (v2,u2) :: rest.zip rest') 0 s;refine apn ((aO prog w).eqBool k1 k1' ?_);rw [show decide (K1.key k.1=K1.key k'.1)=true from decide_eq_true (by rw [e])];refine kat_yes (apn ((aO prog w).eqBool k2 k2' ?_));rw [show decide (K2.key k.2=K2.key k'.2)=false from decide_eq_false (λz=>f (K2.inj _ _ z))];refine kat_no ?_;show wpAny _ A (oneLt' false _ _) Q _ s;exact K2.next _ _ _ _ _ _ _ _ _ _ h2 h2' q
 . rw [if_neg e] at q;refine kat_lt g d g' d' ?_;show KatLex prog w A true (decide (_<_)) Q ((v1,u1) :: (v2,u2) :: rest.zip rest') 0 s;refine apn ((aO prog w).eqBool k1 k1' ?_);rw [show decide (K1.key k.1=K1.key k'.1)=false from decide_eq_false (λz=>e (K1.inj _ _ z))];refine kat_no ?_;show wpAny _ A (oneLt' true _ _) Q _ s;exact K1.first _ _ _ _ _ _ _ _ _ _ h1 h1' q
omit [DecidableEq α] [DecidableEq β] [Inhabited α] [Inhabited β] in
theorem Ms {h:afp} {a:aaH} {vs:List aat} {ks:List (α × β)} (p:ig K1 K2 h a vs ks):∃ fs,KatTups h vs fs/\fs.length=ks.length/\∀ v∈fs,∃ x,K1.val x v:=by
 induction p with
 | nil=>exact ⟨[],.nil,rfl,λv h=>by cases h⟩
 | cons q _ ih =>
   obtain ⟨fs,h1,h2,h3⟩:=ih;obtain ⟨b,o,m,v1,v2,rest,rfl,_,g,c,d,hv,_⟩:=q;refine ⟨v1 :: fs,.cons g c d (by rfl) h1,by rw [abD,abD,h2],λv hv'=>?_⟩;rcases abu.mp hv' with e | e
   . rw [e]; exact ⟨_,hv⟩
   . exact h3 v e
theorem Wg {γ:Type} [Inhabited γ] {ks:List γ} (hn:ks.Nodup) {i j:Nat} {d:γ} (hi:i<ks.length) (hj:j<ks.length) (e:ks.getD i d=ks.getD j d):i=j:=by
 simp only [ahK,aaj hi,aaj hj,Option.getD_some] at e;exact (ah2 hn).mp e
theorem Mt {a:aaH} {vs:List aat} {ks:List (α × β)} {n:Nat} {P:Fin->aav->Prop} (ho:s.heap.get? a=some (seqObj "list" vs.toArray n)) (hp:ig K1 K2 s.heap a vs ks) (hn:ks.Nodup) (h6:ks.length<64)
   (h:∀ (l:List Nat),l.Perm (acF ks.length)->(l.map λi=>ks.getD i (default,default)).Perm ks->(l.map λi=>ks.getD i (default,default)).Pairwise (λx y=>Rk K1 K2 x y=true)->P (.done (.ret .none)) { s with heap:=sortedHeap s.heap a vs (l.map λi=>vs.getD i acS).toArray }) :
   wpAny (model prog w) A (afD.«list.sort» ⟨[.ref a],[]⟩) P E s:=by
 have jH:sizeLine=16777216:=aby;have len:=hp.len;rw [list_sort_plain];have la:a<s.heap.objs.size:=abh ho;refine El (listItems_at ho rfl (El (aoo ho rfl ?_ (by rw [abm]; omega) (abH _))));obtain ⟨e1,g1⟩:∃ e1,(s.heap.update a (aic λ_=>#[])).get? a=some (seqObj "list" #[] e1):=⟨_,get?_update_seq ho (λ_=>#[])⟩;refine El (apd g1 rfl (El (wpAny_newTuple ?_ (by simp; omega))));refine El (amD ?_ (abH _));refine ac6 ?_;have g6:(((s.heap.update a (aic λ_=>#[])).push (seqObj "tuple" vs.toArray 0)).push (seqObj "list" #[] 0)).get? a=some (seqObj "list" #[] e1):=aar _ (aar _ g1)
 have kk:∀ b o,b≠a->s.heap.get? b=some o->(((s.heap.update a (aic λ_=>#[])).push (seqObj "tuple" vs.toArray 0)).push (seqObj "list" #[] 0)).get? b=some o:=λb o nb e =>
   aar _ (aar _ (((afW s.heap a _).2 b nb).trans e))
 show wpAny (model prog w) A _ P E { s with heap:=((s.heap.update a (aic λ_=>#[])).push (seqObj "tuple" vs.toArray 0)).push (seqObj "list" #[] 0) };dsimp only;have sz:vs.toArray.size=vs.length:=by simp
 by_cases c2:vs.toArray.size<2
 . rw [if_pos c2,if_pos c2];refine El (aau ?_);rw [StateT.run_pure];refine El (aau ?_);dsimp only;refine El (apd g6 rfl ?_)
   have em:((vs.toArray.zip vs.toArray).map (·.2))=vs.toArray:=by
     apply amM.mp;rw [Array.toList_map,Array.toList_zip];exact List.map_snd_zip (aaw _)
   refine El (aoo g6 rfl ?_ (abH _) (by show ((vs.toArray.zip vs.toArray).map (·.2)).size<=_; rw [em,sz]; omega));simp only [bne_self_eq_false,adi,if_false];refine aau ?_;show P _ { s with heap:=sortedHeap s.heap a vs ((vs.toArray.zip vs.toArray).map (·.2)) };rw [em]
   have all:∀ {α:Type} (xs:List α) (d:α),((acF xs.length).map λi=>xs.getD i d)=xs:=λxs d=>by
     apply akP
     . simp
     . intro i h1 h2;simp [ahK,h2]
   have fin:=h (acF ks.length) (List.Perm.refl _) (by rw [all]) (by
     rw [all]
     match ks,len with
     | [],_=>exact akC
     | [_],_=>exact amE _ _
     | _ :: _ :: _,len=>rw [sz,len,abD,abD] at c2; omega)
   rw [<- len,all] at fin;exact fin
 . rw [if_neg c2,if_neg c2];have p6:=hp.keep kk;obtain ⟨fs,t1,t2,t3⟩:=Ms p6;obtain ⟨p,r1,r2,r3,r4⟩:=Rj (xM K1 K2) hn (by omega) (default,default);refine El (kat_kind (T:=.type K1.ty) t1 (by omega) (λv hv=>?_) K1.same ?_)
   . obtain ⟨x,hx⟩:=t3 v hv;exact K1.looks _ _ _ _ hx
   . rw [K1.aae]
     refine El (afF (kat_run (ks:=vs) (vs:=vs) (κ:=tuples' true) (Q:=λst' s'=>s'={ s with heap:=((s.heap.update a (aic λ_=>#[])).push (seqObj "tuple" vs.toArray 0)).push (seqObj "list" #[] 0) }/\arrOf st'=p.map (kas_item (vs.toArray.zip vs.toArray))/\failedOf st'=none/\p.size=vs.length)
       (G:=λp' s'=>p'=p/\s'={ s with heap:=((s.heap.update a (aic λ_=>#[])).push (seqObj "tuple" vs.toArray 0)).push (seqObj "list" #[] 0) }) rfl (by omega) (by omega) (λp' st' s' q1 q2 q3 ⟨q4,q5⟩=>by subst q4; exact ⟨q5,q2,q3,q1⟩)
       (DK (n:=ks.length) (lt:=λi j=>Rk K1 K2 (ks.getD i (default,default)) (ks.getD j (default,default))) (λi j C hi hj hC=>Wf (p6.get i hi) (p6.get j hj) (λek=>by rw [Wg hn hi hj ek]) hC) _ p _ (by rw [len]; exact r1) ⟨rfl,rfl⟩)) ?_ λ_ _ e=>e)
     rintro ⟨⟨⟩,st'⟩ s' ⟨rfl,har,hf,hsz⟩;dsimp only;have em:=kat_snds (vs:=vs) rfl har;refine El (apd g6 rfl ?_);have psz:p.toList.length=vs.length:=by rw [abC]; exact hsz
     refine El (aoo g6 rfl ?_ (abH _) (by rw [em,abm,aac,psz]; omega));rw [hf];simp only [bne_self_eq_false,adi,if_false];refine aau ?_;show P _ { s with heap:=sortedHeap s.heap a vs ((arrOf st').map (·.2)) };rw [em];exact h p.toList r4 r2 r3
theorem xO {x:aat} {ks:List (α × β)} {T:List aat->Prop} {Q:aat->aav->Prop} (hn:ks.Nodup) (h6:ks.length<64)
   (col:∀ (R:List aat->aav->Prop),(∀ (h':afp) (tk:Nat) (vs:List aat),(∀ b o,s.heap.get? b=some o->h'.get? b=some o)->ig K1 K2 h' h'.objs.size vs ks->T vs->R vs { s with heap:=h',toks:=tk })->wpAny (model prog w) A.in1 (collect x) R E s)
   (h:∀ (h1 h':afp) (tk:Nat) (vs:List aat) (l:List Nat) (n:Nat),(∀ b o,s.heap.get? b=some o->h1.get? b=some o)->(∀ b o,h1.get? b=some o->h'.get? b=some o)->T vs->vs.length=ks.length->h'.get? h1.objs.size=some (seqObj "list" (l.map λi=>vs.getD i acS).toArray n) ->
     l.Perm (acF ks.length)->(l.map λi=>ks.getD i (default,default)).Perm ks->(l.map λi=>ks.getD i (default,default)).Pairwise (λx y=>Rk K1 K2 x y=true)->Q (.ref h1.objs.size) { s with heap:=h',toks:=tk }) :
   wpAny (model prog w) A (call (.builtin "sorted") [x]) Q E s:=by
 refine (ahk apc aoW aoX (aoY _) ?_);unfold afD.«sorted»;refine (El (m:=checkCount "sorted" 1 1 _) (aau ?_));refine El (col _ λh' tk vs kk hS hT=>?_);have hl:=hS.len;have jH:sizeLine=16777216:=aby;refine El (amD ?_ (by omega));have g0:(h'.push (seqObj "list" vs.toArray 0)).get? h'.objs.size=some (seqObj "list" vs.toArray 0):=aaL _ rfl
 refine El (ac6 (aea anO (s:={ s with heap:=h'.push (seqObj "list" vs.toArray 0),toks:=tk }) ⟨_,g0,rfl⟩ anj
   (Mt (s:={ s with heap:=h'.push (seqObj "list" vs.toArray 0),toks:=tk }) g0 (hS.keep λb o _ e=>aar _ e) hn h6 λl l1 l2 l3=>⟨_,rfl,?_⟩) (anP _)))
 obtain ⟨n,gn⟩:=aol (vs:=vs) (out:=(l.map λi=>vs.getD i acS).toArray) g0;refine aau ⟨_,rfl,h h' _ tk vs l n kk (λb o e1=>?_) hT hl gn l1 l2 l3⟩;have lt:b<h'.objs.size:=abh e1;show (sortedHeap (h'.push (seqObj "list" vs.toArray 0)) h'.objs.size vs _).get? b=some o;rw [anQ (abB lt) (by rw [afy]; exact afV lt)];exact aar _ e1
noncomputable def Ht:V->Bool
 | .int _=>true | .str _=>true | .non=>true | _=>false
theorem Mu {v:V} {u:aat} (h:Ht v=true) (r:RelV v u):∃ q:Key,jq q u=true:=by
 cases v <;> first | (cases h; done) | skip
 . cases r; exact ⟨.inl none,vZ⟩
 . obtain ⟨t,rfl⟩:=r; exact ⟨_,tu _ t⟩
 . obtain ⟨t,rfl⟩:=r; exact ⟨_,tD _ t⟩
theorem J1:∀ {as:List aaH} {us:List aat},Vals (as.map V.ref) us->us=as.map abA
 | [],_,.nil=>rfl
 | a :: as,_,.cons h r=>by cases h; rw [J1 r]; rfl
theorem xP:∀ {vs:List V} {us:List aat},Vals vs us->(∀ v∈vs,Ht v=true)->∀ u∈us,∃ q:Key,jq q u=true
 | _,_,.nil,_,u,hu=>by cases hu
 | _,_,.cons h r,f,u,hu=>by
   rcases abu.mp hu with e | e
   . rw [e]; exact Mu (f _ abw) h
   . exact xP r (λv hv=>f v (abk _ hv)) u e
theorem qK {X:Cx}:dU X (.builtin "sorted") (λxs H Q=>∃ (p:aaH) (ts:List (aaH × (α × β))),xs=[.ref p]/\cG X.K H p ((ts.map (·.1)).map V.ref)/\(∀ t∈ts,∃ rest:List V,H t.1=some (.tup (K1.vv t.2.1 :: K2.vv t.2.2 :: rest))/\∀ v∈rest,Ht v=true)/\(ts.map (·.2)).Nodup/\ts.length<64 /\
   ∀ (l:aaH) (ts':List (aaH × (α × β))),H l=none->ts'.Perm ts->ts'.Pairwise (λa b=>Rk K1 K2 a.2 b.2=true)->Q (.ref l) (upd H l (.lst ((ts'.map (·.1)).map V.ref)))):=by
 intro pins s σ H xs us Q I r h;obtain ⟨p,ts,rfl,hp,hT,hn,h64,q⟩:=h;obtain ⟨u,rfl,ru⟩:=vals1 r;cases ru;obtain ⟨its,rv,pl,hz⟩:=I.list hp;have ei:=J1 rv;subst ei;have jH:sizeLine=16777216:=aby;obtain ⟨o,n,g1,g2,_,g3⟩:=pl
 have at':∀ i,i<ts.length->((ts.map (·.1)).map abA).getD i acS=.ref (ts.getD i (0,default,default)).1/\(ts.map (·.2)).getD i (default,default)=(ts.getD i (0,default,default)).2:=λi hi=>by
   simp [ahK,aaJ,aaj hi]
 refine xO (K1:=K1) (K2:=K2) (ks:=ts.map (·.2)) (T:=λvs=>vs=(ts.map (·.1)).map abA) hn (by rw [aac]; exact h64) (λR hR=>wpAny_collect_seq p (.inl rfl) g1 g2 g3 (λh' kk=>?_) (by rw [abm,aac,aac]; omega)) λh1 h' tk vs l n k1 k2 hT' hvl ho l1 l2 l3=>?_
 . refine hR h' s.toks ((ts.map (·.1)).map abA) kk (ig.of (by simp) λi hi=>?_) rfl;rw [aac] at hi;rw [(at' i hi).1,(at' i hi).2]
   have hm:ts.getD i (0,default,default)∈ts:=by
     simp only [ahK,aaj hi,Option.getD_some];exact ah5 hi
   obtain ⟨rest,et,pr⟩:=hT _ hm;obtain ⟨_,its,rv,ob,e1,e2,⟨m,e3⟩,_⟩:=(show bT X.prog X.w H s.heap _ (.tup _) from I.hok _ _ et);have g:=kk _ _ e1;cases rv with
   | cons r1 rv =>
     cases rv with
     | cons r2 rv=>exact ⟨_,ob,m,_,_,_,rfl,abB (abh g),g,e2,e3,K1.rel _ _ r1,K2.rel _ _ r2,xP rv pr⟩
 . have I1:Inv X pins σ H { s with heap:=h1,toks:=tk }:=I.kept k1;rw [aac] at l1;have lb:∀ i∈l,i<ts.length:=λi hi=>adv.mp (l1.mem_iff.mp hi)
   have eo:(l.map λi=>vs.getD i acS)=((l.map λi=>ts.getD i (0,default,default)).map (·.1)).map abA:=by
     have z:(l.map λi=>vs.getD i acS)=l.map λi=>abA (ts.getD i (0,default,default)).1:=ah0 λi hi=>by rw [hT']; exact (at' i (lb i hi)).1
     rw [z,afn,afn];rfl
   rw [eo] at ho
   have ek:(l.map λi=>(ts.map (·.2)).getD i (default,default))=(l.map λi=>ts.getD i (0,default,default)).map (·.2):=by
     rw [afn];exact ah0 λi hi=>(at' i (lb i hi)).2
   have pm:(l.map λi=>ts.getD i (0,default,default)).Perm ts:=by
     have z:=aon (λi=>ts.getD i (0,default,default)) l1
     have all:((acF ts.length).map λi=>ts.getD i (0,default,default))=ts:=by
       apply akP
       . simp
       . intro i h1 h2;simp [ahK,h2]
     rw [all] at z;exact z
   rw [ek,ado] at l3;have lt':=pm.length_eq;refine ⟨.ref h1.objs.size,_,I1.laid (t':=tk) (o:=.lst (((l.map λi=>ts.getD i (0,default,default)).map (·.1)).map V.ref)) k2 (aaw _) ⟨by rw [aac,aac]; omega,((l.map λi=>ts.getD i (0,default,default)).map (·.1)).map abA,n,?_,ho⟩,rfl,q _ _ (I1.hok.fresh (aaw _)) pm l3⟩;generalize ((l.map λi=>ts.getD i (0,default,default)).map (·.1))=ys
   induction ys with
   | nil=>exact .nil
   | cons y ys ih=>exact .cons rfl ih
end
section
variable {X:Cx}
theorem lZ (hc:X.calm=true):dU X (.builtin "sorted") (λxs H Q=>∃ (p:aaH) (kvs:List (List Key × V)) (ks:List (Str × Str)),xs=[.ref p]/\H p=some (.dT kvs)/\kvs.map (·.1)=ks.map kP/\ks.length<64 /\
   ∀ (l:aaH) (as:List aaH) (ks':List (Str × Str)),H l=none->ks'.Perm ks->ks'.Pairwise (λx y=>Qd x y=true)->as.length=ks'.length->(∀ (i:Nat) (a:aaH) (k:Str × Str),as[i]?=some a->ks'[i]?=some k->H a=some (.tup ((kP k).map kV)))->Q (.ref l) (upd H l (.lst (as.map V.ref)))):=by
 intro pins s σ H xs us Q I r h;obtain ⟨p,kvs,ks,rfl,hp,hk,h6,q⟩:=h;obtain ⟨u,rfl,ru⟩:=vals1 r;cases ru;obtain ⟨z,d,xs,rel,o,es,ep,g1,g2,g3,g4,g5⟩:=(show bT X.prog X.w H s.heap p (.dT kvs) from I.hok p _ hp)
 have hkx:xs.map (·.1)=ks.map kP:=by
   rw [<- hk];exact (uQ rel).symm
 have hn:ks.Nodup:=by
   rw [hkx] at g5;rw [abJ] at g5 |-;rw [ado] at g5;exact g5.imp λ{a b} h e=>h (by rw [e])
 have hxl:xs.length=ks.length:=by have:=congrArg afN hkx; simpa using this
 have aho:es.size=ks.length:=by rw [<- abC,g4,aac,hxl]
 have jH:sizeLine=16777216:=aby
 have fact:∀ i,i<ks.length->(es[i]?).map (·.key)=some (abA (xs.map (·.2.1))[i]!)/\H (xs.map (·.2.1))[i]! = some (.tup ((kP (ks.getD i (default,default))).map kV)):=λi hi=>by
   have ex:xs[i]?=some xs[i]:=aaj (by omega);obtain ⟨kv,ekv,e1,e2,_⟩:=fu rel ex
   have ea:(xs.map (·.2.1))[i]! = xs[i].2.1:=by
     rw [List.getElem!_eq_getElem?_getD,aaJ,ex]; rfl
   rw [ea];refine ⟨?_,?_⟩
   . rw [<- af4,g4,aaJ,ex]; rfl
   . rw [e1] at e2;have e3:(xs.map (·.1))[i]?=some xs[i].1:=by rw [aaJ,ex]; rfl
     rw [hkx,aaJ,aaj hi] at e3;have e4:kP ks[i]=xs[i].1:=abx e3;have e5:ks.getD i (default,default)=ks[i]:=by simp [ahK,hi]
     rw [e5,e4]; exact e2
 refine xO (K1:=kdS) (K2:=kdS) (T:=λvs=>∀ i,i<ks.length->vs.getD i acS=.ref (xs.map (·.2.1))[i]!) hn h6 (λR hR=>ajm (A:=X.A.in1) (ZK (es:=es) (ep:=ep) d) (by simpa using I.ok.hd hc) ⟨o,g1,g2,g3⟩ (by omega) λh' tk acc kk hacc=>?_) λh1 h' tk vs l n k1 k2 hT hvl ho l1 l2 l3=>?_
 . have al:acc.toList.length=ks.length:=by rw [abC]; exact hacc.1.trans aho
   have at':∀ i,i<ks.length->acc.toList.getD i acS=.ref (xs.map (·.2.1))[i]!:=λi hi=>by
     have e1:acc.toList[i]?=some acc.toList[i]:=aaj (by omega);obtain ⟨e,ee,ev⟩:=hacc.2 i acc.toList[i] (by rw [<- af4]; exact e1);have f:=(fact i hi).1;rw [ee] at f;have f':e.key=abA (xs.map (·.2.1))[i]!:=abx f;simp only [ahK,e1,Option.getD_some];rw [ev,f']
   refine hR h' tk acc.toList kk (ig.of al λi hi=>?_) at';rw [at' i hi];obtain ⟨_,its,rv,ob,e1,e2,⟨m,e3⟩,_⟩:=(show bT X.prog X.w H s.heap _ (.tup ((kP (ks.getD i (default,default))).map kV)) from I.hok _ _ (fact i hi).2);have g:=kk _ _ e1;obtain ⟨v1,v2,rfl,r1,r2⟩:=vals2 (show Vals [V.str _,V.str _] its from rv);obtain ⟨t1,rfl⟩:=r1;obtain ⟨t2,rfl⟩:=r2;exact ⟨_,ob,m,_,_,[],rfl,abB (abh g),g,e2,e3,⟨t1,rfl⟩,⟨t2,rfl⟩,λu hu=>by cases hu⟩
 . have I1:Inv X pins σ H { s with heap:=h1,toks:=tk }:=I.kept k1;have l1:∀ i∈l,i<ks.length:=λi hi=>adv.mp (l1.mem_iff.mp hi)
   have l3:(l.map λi=>ks.getD i (default,default)).Pairwise (λx y=>Qd x y=true):=l3;have ll:l.length=ks.length:=by have:=l2.length_eq; simpa using this
   have eo:(l.map λi=>vs.getD i acS)=(l.map λi=>(xs.map (·.2.1))[i]!).map abA:=by
     rw [afn];exact ah0 λi hi=>hT i (l1 i hi)
   refine ⟨.ref h1.objs.size,_,I1.laid (t':=tk) (o:=.lst ((l.map λi=>(xs.map (·.2.1))[i]!).map V.ref)) k2 (aaw _) ⟨by rw [aac,aac]; omega,(l.map λi=>(xs.map (·.2.1))[i]!).map abA,n,?_,by rw [<- eo]; exact ho⟩,rfl,
     q _ _ _ (I1.hok.fresh (aaw _)) l2 l3 (by simp) λj a k ea ek=>?_⟩
   . generalize (l.map λi=>(xs.map (·.2.1))[i]!)=ys
     induction ys with
     | nil=>exact .nil
     | cons y ys ih=>exact .cons rfl ih
   . rw [aaJ] at ea ek;cases ej:l[j]? with
     | none=>rw [ej] at ea; cases ea
     | some i =>
       rw [ej] at ea ek;cases (show some _=some a from ea);cases (show some _=some k from ek);exact (fact i (l1 i (abq ej))).2
end
end L2
namespace Eb
open PySem L2 GF
variable {P:abt} {w:acU} {K:aaf} {mg:Str->Option aat} {base:afp} {t8 t6 tR tL t9:Tok} {C NW:aaH} {c:Nat->aaH}
noncomputable def Rn (B:Int) (l:Letter):Prop:=l.2.1<=B/\∀ m,l.2.2=some m->m<=B
noncomputable def Ro (hs:List aL) (M:Str->Int) (l:Letter):Prop:=iz hs l/\Rn 4100 l
noncomputable def xQ (hs:List aL) (M:Str->Int) (H:Hp) (kf:List (List Key × V)):Prop:=∀ kv∈kf,∃ l:Letter,kv.1=kP l.1/\aR H kv.2 l/\Ro hs M l
theorem xQ.keys {hs:List aL} {M:Str->Int} {H:Hp} {kf:List (List Key × V)} (h:xQ hs M H kf):∃ ks:List (Str × Str),kf.map (·.1)=ks.map kP/\ks.length=kf.length :=
 vO.keys (hs:=hs) (H:=H) λkv hkv=>let ⟨l,a,b,c⟩:=h kv hkv; ⟨l,a,b,c.1⟩
noncomputable def mj:Sp:=λvs H Q _=>∃ (p lh dh:aaH) (vh:List V) (hs:List aL) (kvs:List (Key × V)),vs=[.ref p,.ref lh,.ref dh]/\bU H p/\H lh=some (.lst vh)/\abG (gq H) vh hs/\hs.length<=6/\(∀ h∈hs,jl h)/\(namesOf hs).Nodup/\(namesOf hs).length<=24 /\
 H dh=some (.dK kvs)/\kvs.map (·.1)=(namesOf hs).map acW/\(∀ n∈namesOf hs,∃ i:Int,cL kvs (.inr n)=some (.int i)/\-2000<=i/\i<=2000) /\
 ∀ (x:V) (ls:List Letter) (H':Hp),jk H' x ls->jM hs ls->ls.length<=6->(∀ l∈ls,Rn 4100 l)->bU H' p->aY p H H'->Q x H'
noncomputable def PwF (p lh dh O l8 F:aaH) (hs:List aL) (M:Str->Int) (H2:Hp):Nat->St->Hp->Prop:=λi σ H'=>∃ (kf:List (List Key × V)) (o4 o5 o6 o7 yS uW yR Q5 Hq Gb:Option V),σ=[some (.ref p),some (.ref lh),some (.ref dh),some (.ref O),o4,o5,o6,o7,some (.ref l8),some (.ref F),yS,uW,yR,Q5,Hq,Gb]/\bU H' p/\aY p H2 H'/\H' F=some (.dT kf)/\kf.length<=i/\xQ hs M H' kf
theorem bO:aZ ["_law_pack_here","_law_houses","_law_hidden","_law_home","_law_house_here","_law_run","_law_name","_law_reading","_law_rows","_law_found","_law_turn","_law_one","_law_other","_law_gap","_law_slack","_law_most"] ["_law_pack_here","_law_houses","_law_hidden"] (aJ lX):=nj
theorem Cq {f:aaH} {fd:abL} (F:dO K "_law_letters" "_law_letters" lX f fd) (T:Txt mg t8 t6 tR tL) (cQ:Cl P w K mg base 1 "_law_take" ["_law_pack_here","_law_size"] n6):aV P w K mg base dF 2 f fd ["_law_pack_here","_law_houses","_law_hidden"] mj:=by
 refine F.ok bO (λvs H Q E h=>?_) (λcdv A outer s H vs Q E hr h=>?_)
 . obtain ⟨p,lh,dh,vh,hs,kvs,rfl,_⟩:=h;rfl
 . obtain ⟨p,lh,dh,vh,hs,kvs,rfl,hp,hlh,ph,h6,gh,nd,few,hdh,keys,vals,q⟩:=h;have jH:sizeLine=16777216:=aby
   have nlh:lh≠p:=λz=>by
     obtain ⟨n,e,_⟩:=hp;rw [z,e] at hlh;cases ph with
     | nil=>cases hlh
     | cons h _=>obtain ⟨a,b,rfl,_⟩:=h; cases hlh
   have ndh:dh≠p:=λz=>by obtain ⟨n,e,_⟩:=hp; rw [z,e] at hdh; cases hdh
   refine ⟨_,(aq (pZ 3 bO iQ) (aq (dG acK rfl (cX (pV 1)) (pY 4 bO) (aG (dG acK rfl (iy (pX dM (pV 4) aD)) (pY 5 bO) (aG (dG acK rfl (iy (pV 5)) (fU rfl (aP (pY 6 bO) (aP (pY 7 bO) dR))) (aG (jf (cU hr) (pV 3) (pV 6) (pX dM (pV 4) aD) rfl))))))) (aq (pZ 8 bO (aM (lU rfl) rfl T.sorted adt (aj (pV 2) ao))) (aq (pZ 9 bO Dv) (aq (dG acK rfl (fM rfl T.range (aj (pC cQ hr (aj (pV 0) (aj aD ao))) ao)) (pY 10 bO) (aG (bW (mO oGt (aM cB rfl T.len adp (aj (pV 8) ao)) aD (bA _)) (aq (pZ 11 bO (Dr Ln (pV 8) (pC cQ hr (aj (pV 0) (aj (aM cB rfl T.len adp (aj (pV 8) ao)) ao))) (λ_ _=>rfl))) (aq (pZ 12 bO (Dr Ln (pV 8) (pC cQ hr (aj (pV 0) (aj (aM cB rfl T.len adp (aj (pV 8) ao)) ao))) (λ_ _=>rfl))) (aq (pZ 13 bO (bx Pr (eN (cU hr) (pV 2) (pV 12) (λ_ _=>rfl)) (eN (cU hr) (pV 2) (pV 11) (λ_ _=>rfl)))) (aq (pZ 14 bO (pC cQ hr (aj (pV 0) (aj aD ao)))) (aG (bW (uP (mO acM (eN (cU hr) (pV 3) (pV 11) (λ_ _=>rfl)) (eN (cU hr) (pV 3) (pV 12) (λ_ _=>rfl)) (bA _)) (pw_and1 (mO oGt (pV 13) aD (bA _)))) (aq (pZ 15 bO (Dr Ln (cR (aj iw (aj (pV 13) (aj (bx iT (pV 13) (pV 14)) ao)))) (pC cQ hr (aj (pV 0) (aj aD ao))) (λ_ _=>rfl))) (aG (jf (cU hr) (pV 9) (bH (aj (pV 11) (aj (pV 12) ao))) (bH (aj (pV 11) (aj (pV 12) (aj (aM (zG rfl) rfl T.max ant (aj aD (aj (bx Pr (pV 13) (pV 14)) ao))) (aj (pV 15) ao))))) rfl))) aU)))))) aU))) (aG (bf (bJ bM rfl T.tuple acn (aj (cD (gP:=aJ lX) (own:=["_law_pair"]) (cap:=["_law_found"]) (ix:=[9]) rfl rfl iR (cX (aM (lZ rfl) rfl T.sorted adt (aj (pV 9) ao))) (λb=>(bD (i:=0) (show (["_law_pair","_law_found"]:List Str).Nodup by decide +kernel) rfl (afO rfl))) (λb=>cN) (λb=>(eN (cU hr) (pV 1) (pV 0) (λ_ _=>rfl)))) ao))))))))),?_⟩;refine λO hO=>?_
   have s0:Same H (upd H O (.dK [])):=(Same.refl H).upd hO
   have ahp:(pairsOf hs).length<=24:=by
     have z:=few;rw [<- nY,aac] at z;exact z
   have ndP:((pairsOf hs).map ab5).Nodup:=by rw [nY]; exact nd
   have ac4:∀ (A:List (Str × Str)) (x:Str × Str) (B:List (Str × Str)) (kv:List (Key × V)),pairsOf hs=A++x :: B->qI kv A->kv.length<=A.length->qI (putK kv (.inr x.1) (.str x.2)) (A++[x])/\(putK kv (.inr x.1) (.str x.2)).length<=(A++[x]).length/\kv.length<sizeLine:=λA x B kv e ow kl=>by
     have l1:=ahp;rw [e,aay,abD] at l1;refine ⟨qI.put ow λy hy z=>?_,?_,by omega⟩
     . rw [e,abp,abn] at ndP;exact (aeS.mp ndP).2.2 y.1 (afs hy) x.1 abw z
     . have z:=gD kv (.inr x.1) (V.str x.2);rw [aay];exact adS z (aiJ kl 1)
   refine ⟨lh,rfl,⟨_,cG.of (s0 _ _ hlh)⟩,fW (xs:=vh) (PvC p lh dh O hs H) ⟨[],none,none,none,none,rfl,au,λx hx=>by simp [pairsOf] at hx,abH _,s0⟩ (λi σ H' _ ahq=>by obtain ⟨_,_,_,_,_,_,_,_,_,s⟩:=ahq; exact cG.of (s _ _ hlh)) (λi x σ H' hx ahr=>?_) (fun σ H1 ahs=>?_)⟩
   . refine bK λjm bw=>?_
     obtain ⟨kv,o4,o5,o6,o7,eσ,eO,ow,kl,s⟩:=ahr;subst bw;subst eσ;obtain ⟨hh,hhi,ha⟩:=bh ph hx;have gd:=gh hh (abq hhi);refine bK λjm bw=>?_
     obtain ⟨a,b,aht,ga,c,vr,ahu,gc,pr⟩:=ha;subst bw;subst aht;subst ahu;refine cg (bQ.of (s _ _ ga)) (i:=4) (v:=.ref c) (by rfl) ?_
     have e0:pairsOf hs=pairsOf (hs.take i)++(nU hh++pairsOf (hs.drop (i+1))):=by
       unfold pairsOf
       have e1:hs=hs.take i++(hh :: hs.drop (i+1)):=by
         obtain ⟨li,fi⟩:=abE.mp hhi;rw [<- fi,akm,ag9]
       conv=>lhs; rw [e1]
       rw [adR,afX]
     refine ⟨c,rfl,⟨_,bQ.of (s _ _ gc)⟩,rM (xs:=vr) (PvD p lh dh O a hs hh i H) ⟨kv,o5,o6,o7,rfl,eO,by simpa using ow,by simpa using kl,s⟩ (λj σ H' _ ahv=>by obtain ⟨_,_,_,_,_,_,_,_,s⟩:=ahv; exact bQ.of (s _ _ gc)) (λj y σ H' hy ahw=>?_) (fun σ H' ahx=>?_)⟩
     . refine bK λjm bw=>?_
       obtain ⟨kv,o5,o6,o7,eσ,eO,ow,kl,s⟩:=ahw;subst bw;subst eσ;refine bK λjm bw=>?_
       obtain ⟨r,hr',c2,ws,ahy,g2,pr2⟩:=bh pr hy;subst bw;subst ahy
       have e1:nU hh=(hh.runs.take j).flatMap (dB hh.name)++(dB hh.name r++(hh.runs.drop (j+1)).flatMap (dB hh.name)):=by
         rw [uT]
         have e1:hh.runs=hh.runs.take j++(r :: hh.runs.drop (j+1)):=by
           obtain ⟨li,fi⟩:=abE.mp hr';rw [<- fi,akm,ag9]
         conv=>lhs; rw [e1]
         rw [adR,afX]
       refine ⟨c2,rfl,⟨_,bQ.of (s _ _ g2)⟩,rM (xs:=ws) (PvE p lh dh O a c2 hs hh i j r H) ⟨kv,o6,o7,rfl,eO,by simpa using ow,by simpa using kl,s⟩ (λt σ H' _ ahz=>by obtain ⟨_,_,_,_,_,_,_,s⟩:=ahz; exact bQ.of (s _ _ g2)) (λt z σ H' hz ahA=>?_) (fun σ H' ahB=>?_)⟩
       . refine bK λjm bw=>?_
         obtain ⟨kv,o6,o7,eσ,eO,ow,kl,s⟩:=ahA;subst bw;subst eσ;refine bK λjm bw=>?_
         obtain ⟨rr,hrr,ra1,ahC,ra2⟩:=bh pr2 hz;subst bw;subst ahC;have hp':(dB hh.name r)[t]?=some (rr.1,hh.name):=by unfold dB; rw [aaJ,hrr]; rfl
         refine ⟨ra1,_,rfl,bQ.of (s _ _ ra2),rfl,_,_,rfl,_,_,rfl,rfl,?_⟩;refine cg (bQ.of (s _ _ ga)) (i:=0) (v:=.str hh.name) (by rfl) ?_
         have e2:dB hh.name r=(dB hh.name r).take t++((rr.1,hh.name) :: (dB hh.name r).drop (t+1)):=by
           obtain ⟨li,fi⟩:=abE.mp hp';rw [<- fi,akm,ag9]
         obtain ⟨w1,w2,w3⟩:=ac4 (pairsOf (hs.take i)++(hh.runs.take j).flatMap (dB hh.name)++(dB hh.name r).take t) (rr.1,hh.name) ((dB hh.name r).drop (t+1)++((hh.runs.drop (j+1)).flatMap (dB hh.name)++pairsOf (hs.drop (i+1)))) kv (by
           rw [e0,e1]
           conv=>lhs; rw [e2]
           simp only [adz,af7]) ow kl
         refine ⟨O,_,rfl,qR.k (k:=acW rr.1) eO w3,?_⟩;refine ⟨_,_,_,rfl,au,?_,?_,λb' o' e'=>by rw [aB (aH e' hO)]; exact s _ _ e'⟩
         . rw [abz,hp',<- adz]; exact w1
         . rw [abz,hp',<- adz]; exact w2
       . refine bK λjm bw=>?_
         obtain ⟨kv,o6,o7,eσ,eO,ow,kl,s⟩:=ahB;subst bw;subst eσ;have l2:=pr2.length;have e2:(dB hh.name r).take ws.length=dB hh.name r:=adT (by unfold dB; rw [aac]; omega);rw [e2] at ow kl;refine ⟨kv,_,_,_,rfl,eO,?_,?_,s⟩
         . rw [abz,hr',adR]; simpa using ow
         . rw [abz,hr',adR]; simpa using kl
     . refine bK λjm bw=>?_
       obtain ⟨kv,o5,o6,o7,eσ,eO,ow,kl,s⟩:=ahx;subst bw;subst eσ;rw [pr.length,acL,<- uT] at ow kl
       have e2:pairsOf (hs.take (i+1))=pairsOf (hs.take i)++nU hh:=by
         unfold pairsOf;rw [abz,hhi,adR];simp
       exact ⟨kv,_,_,_,_,rfl,eO,by rw [e2]; exact ow,by rw [e2]; exact kl,s⟩
   . refine bK λjm bw=>?_
     obtain ⟨kvo,o4,o5,o6,o7,eσ,eO,ow,kl,s1⟩:=ahs;subst bw;subst eσ;rw [ph.length,acL] at ow kl
     refine ⟨dh,kvs,namesOf hs,rfl,s1 _ _ hdh,keys,by omega,λl8 ss hl8 pm so=>?_⟩;have s2:Same H1 (upd H1 l8 (.lst (ss.map V.str))):=(Same.refl H1).upd hl8;generalize eH2:upd H1 l8 (.lst (ss.map V.str))=H2 at s2;have h8:H2 l8=some (.lst (ss.map V.str)):=by rw [<- eH2]; exact au
     have sH:Same H H2:=s1.trans s2;have hp2:bU H2 p:=by obtain ⟨n,e,n0⟩:=hp; exact ⟨n,sH _ _ e,n0⟩
     refine λF hF=>?_
     have nF:F≠p:=λz=>by obtain ⟨n,e,_⟩:=hp2; rw [<- z,hF] at e; cases e
     have n8:l8≠p:=λz=>by
       obtain ⟨n,e,_⟩:=hp2;rw [<- z,h8] at e;cases ss with
       | nil=>cases e
       | cons s ss=>cases e
     have nO:O≠p:=λz=>by obtain ⟨n,e,_⟩:=hp2; rw [<- z,s2 _ _ eO] at e; cases e
     have lss:ss.length=(namesOf hs).length:=pm.length_eq;have Mv:∀ x∈ss,x∈namesOf hs:=λx hx=>pm.mem_iff.mp hx
     refine ⟨p,7,rfl,hp2.new hF,by decide,by decide,λn7 H3 n7a n7b hp3 s3=>?_⟩;have SB3:aY p H2 H3:=((aY.of (Same.refl H2)).new hF).trans s3;refine ⟨n7,rfl,by omega,by omega,jj (lo:=0) (n:=n7.toNat) (PwF p lh dh O l8 F hs (gB kvs) H2) ⟨[],_,_,_,_,_,_,_,_,_,_,rfl,hp3,SB3,s3 F _ nF au,abH _,λx hx=>by simp at hx⟩ (λi σ H' hi ahD=>?_) (fun σ H' ahE=>?_)⟩
     . refine bK λjm bw=>?_
       obtain ⟨kf,o4,o5,o6,o7,yS,uW,yR,Q5,Hq,Gb,eσ,pk,sb,eF,kl,fo⟩:=ahD;subst bw;subst eσ;refine ⟨l8,_,rfl,.inl (cG.of (sb l8 _ n8 h8)),?_⟩;refine eZ (λc1=>?_) (λc1=>⟨kf,_,_,_,_,_,_,_,_,_,_,rfl,pk,sb,eF,akE kl,fo⟩)
       have many:1<ss.length:=by
         have z:(1:Int)<((ss.map V.str).length:Int):=of_decide_eq_true c1;rw [aac] at z; omega
       have pick:∀ d:Int,0<=d->d<((ss.map V.str).length:Int)->∃ x,x∈ss/\zO (ss.map V.str) d=some (.str x):=λd d0 d1=>by
         obtain ⟨n,rfl⟩:=adQ d0;rw [aac] at d1;have hn:n<ss.length:=by omega
         exact ⟨ss[n],ah5 hn,je (by rw [aaJ,aaj hn]; rfl)⟩
       have Wh:(0:Int)<((ss.map V.str).length:Int)/\((ss.map V.str).length:Int)<1073741824:=by rw [aac]; omega
       refine cV λW1 hW1=>?_
       refine ⟨l8,_,rfl,.inl (cG.of (sb l8 _ n8 h8)),?_⟩;refine ⟨p,_,rfl,pk,Wh.1,Wh.2,λd1 Ha d1a d1b pka sa=>?_⟩;have sba:=sb.trans sa;obtain ⟨one,m1,e1⟩:=pick d1 d1a d1b;refine sy (sba l8 _ n8 h8) e1 ?_;show W1 _ _;subst hW1;refine cV λW2 hW2=>?_
       refine ⟨l8,_,rfl,.inl (cG.of (sba l8 _ n8 h8)),?_⟩;refine ⟨p,_,rfl,pka,Wh.1,Wh.2,λd2 Hb d2a d2b pkb Rp=>?_⟩;have sbb:=sba.trans Rp;obtain ⟨other,m2,e2⟩:=pick d2 d2a d2b;refine sy (sbb l8 _ n8 h8) e2 ?_;show W2 _ _;subst hW2;refine cV λW3 hW3=>?_
       obtain ⟨g2,eg2,b21,b22⟩:=vals other (Mv _ m2);obtain ⟨g1,eg1,b11,b12⟩:=vals one (Mv _ m1);have hdb:Hb dh=some (.dK kvs):=sbb dh _ ndh (sH _ _ hdh);refine ⟨dh,_,rfl,eg2 ▸ eY.k (k:=acW other) hdb,?_⟩;refine ⟨dh,_,rfl,eg1 ▸ eY.k (k:=acW one) hdb,?_⟩;show W3 _ _;subst hW3;refine cV λW4 hW4=>?_
       refine ⟨p,9,rfl,pkb,by decide,by decide,λsk Hc sk0 sk1 pkc sc=>?_⟩;show W4 _ _;subst hW4;have sbc:=sbb.trans sc;have eFc:Hc F=some (.dT kf):=(sa.trans (Rp.trans sc)) F _ nF eF
       have foc:xQ hs (gB kvs) Hc kf:=λkv hkv=>by
         refine bK λjm bw=>?_
         obtain ⟨l,w1,w2,w3⟩:=fo kv hkv;subst bw;exact ⟨l,w1,w2.ts (aY.tups pk (sa.trans (Rp.trans sc))),w3⟩
       refine bK λjm bw=>?_
       obtain ⟨hh1,q1,q2,q3⟩:=DX ow (Mv _ m1);subst bw;refine bK λjm bw=>?_
       obtain ⟨hh2,r1,r2,r3⟩:=DX ow (Mv _ m2);subst bw;have hOc:Hc O=some (.dK kvo):=sbc O _ nO (s2 _ _ eO);refine ⟨O,_,rfl,q3 ▸ eY.k (k:=acW one) hOc,?_⟩;refine ⟨O,_,rfl,r3 ▸ eY.k (k:=acW other) hOc,?_⟩;have skip:∀ (σ:St),(∃ o4 o5 o6 o7 yS uW yR Q5 Hq Gb:Option V,σ=[some (.ref p),some (.ref lh),some (.ref dh),some (.ref O),o4,o5,o6,o7,some (.ref l8),some (.ref F),yS,uW,yR,Q5,Hq,Gb])->∃ (kf:List (List Key × V)) (o4 o5 o6 o7 yS uW yR Q5 Hq Gb:Option V),σ=[some (.ref p),some (.ref lh),some (.ref dh),some (.ref O),o4,o5,o6,o7,some (.ref l8),some (.ref F),yS,uW,yR,Q5,Hq,Gb]/\bU Hc p/\aY p H2 Hc/\Hc F=some (.dT kf)/\kf.length<=i+1/\xQ hs (gB kvs) Hc kf:=fun σ ⟨a4,a5,a6,a7,a10,a11,a12,a13,a14,a15,e⟩=>⟨kf,a4,a5,a6,a7,a10,a11,a12,a13,a14,a15,e,pkc,sbc,eFc,akE kl,foc⟩
       refine eZ (λc2=>?_) (λc2=>skip _ ⟨_,_,_,_,_,_,_,_,_,_,rfl⟩)
       have hne:hh1.name≠hh2.name:=λz=>by
         rw [decide_eq_true z] at c2;cases c2
       refine eZ (λc3=>?_) (λc3=>skip _ ⟨_,_,_,_,_,_,_,_,_,_,rfl⟩);have apr:0<g2-g1:=of_decide_eq_true c3;refine cV λW5 hW5=>?_
       refine ⟨by show 3<=sizeLine; omega,λl3 hl3=>?_⟩;have nl3:l3≠p:=λz=>by obtain ⟨n,e,_⟩:=pkc; rw [<- z,hl3] at e; cases e
       refine ⟨p,3,rfl,pkc.new hl3,by decide,by decide,λd3 Hd d3a d3b pkd sd=>?_⟩;have scd:aY p Hc Hd:=((aY.of (Same.refl Hc)).new hl3).trans sd
       obtain ⟨mo,emo,hmo⟩:∃ mo:Option Int,zO [V.non,.int (g2-g1),.int (g2-g1+sk)] d3=some (nM mo)/\∀ m,mo=some m->g2-g1<=m/\m<=4100:=by
         obtain ⟨n,rfl⟩:=adQ d3a
         match n,d3b with
         | 0,_=>exact ⟨none,rfl,λm e=>nomatch e⟩
         | 1,_=>exact ⟨some (g2-g1),rfl,λm e=>by cases e; omega⟩
         | 2,_=>exact ⟨some (g2-g1+sk),rfl,λm e=>by cases e; omega⟩
         | n+3,h=>exact absurd h (by omega)
       refine sy (sd l3 _ nl3 au) emo ?_;show W5 _ _;subst hW5;refine ⟨1,g2-g1-sk,rfl,?_⟩;obtain ⟨lst,ahJ,hl1,hl2⟩:∃ lst:Int,lst=(if g2-g1-sk > 1 then g2-g1-sk else 1)/\1<=lst/\lst<=g2-g1:=⟨_,rfl,by split <;> omega,by split <;> omega⟩;rw [<- ahJ];refine ⟨by show 4<=sizeLine; omega,λt1 ht1=>?_⟩;refine ⟨by show 2<=sizeLine; omega,λt2 ht2=>?_⟩;have eFd:Hd F=some (.dT kf):=scd F _ nF eFc;have eF1:upd Hd t1 (.tup [.str one,.str other,.int lst,nM mo]) F=some (.dT kf):=(aB (aH eFd ht1)).trans eFd;have eF2:upd (upd Hd t1 (.tup [.str one,.str other,.int lst,nM mo])) t2 (.tup [.str one,.str other]) F=some (.dT kf):=(aB (aH eF1 ht2)).trans eF1;refine ⟨F,_,rfl,qR.t (k:=kP (one,other)) eF2 au (by omega),?_⟩;have tt:bV Hc (upd (upd (upd Hd t1 (.tup [.str one,.str other,.int lst,nM mo])) t2 (.tup [.str one,.str other])) F (.dT (putK kf (kP (one,other)) (.ref t1)))):=(((aY.tups pkc scd).new ht1).new ht2).put eF2 (λ_ z=>nomatch z)
       have et1:upd (upd (upd Hd t1 (.tup [.str one,.str other,.int lst,nM mo])) t2 (.tup [.str one,.str other])) F (.dT (putK kf (kP (one,other)) (.ref t1))) t1=some (.tup [.str one,.str other,.int lst,nM mo]):=by
         rw [aB (aH eFd ht1).symm,aB (aH au ht2)]; exact au
       refine ⟨_,_,_,_,_,_,_,_,_,_,_,rfl,((pkd.new ht1).new ht2).put nF,λb o hb e=>?_,au,?_,λkv hkv=>?_⟩
       . have z1:=(sbc.trans scd) b o hb e;rw [aB (aH e hF)];exact (((aY.of (Same.refl Hd)).new ht1).new ht2) b o hb z1
       . exact adS (gD kf (kP (one,other)) (.ref t1)) (aiJ kl 1)
       . rcases Qo hkv with z | z
         . subst z;exact ⟨((one,other),lst,mo),rfl,⟨t1,rfl,et1⟩,⟨wV gh (Mv _ m1),wV gh (Mv _ m2),hl1,λm e=>by have:=(hmo m e).1; show lst<=m; omega,hh1,q1,hh2,r1,q2,r2,hne⟩,⟨by show lst<=4100; omega,λm e=>(hmo m e).2⟩⟩
         . refine bK λjm bw=>?_
           obtain ⟨l,w1,w2,w3⟩:=foc kv z;subst bw;exact ⟨l,w1,w2.ts tt,w3⟩
     . refine bK λjm bw=>?_
       obtain ⟨kf,o4,o5,o6,o7,yS,uW,yR,Q5,Hq,Gb,eσ,pk,sb,eF,kl,fo⟩:=ahE;subst bw;subst eσ;obtain ⟨ks,ek,lk⟩:=fo.keys;refine ⟨F,kf,ks,rfl,eF,ek,by omega,λl9 as ks' hl9 pm' pw la ha=>?_⟩;have lks:ks'.length=ks.length:=pm'.length_eq;have s9:Same H' (upd H' l9 (.lst (as.map V.ref))):=(Same.refl H').upd hl9;generalize eH9:upd H' l9 (.lst (as.map V.ref))=H9 at s9;have h9:H9 l9=some (.lst (as.map V.ref)):=by rw [<- eH9]; exact au
       refine ⟨l9,rfl,⟨_,cG.of h9⟩,λD hD=>tM (xs:=as.map V.ref) (λi g8=>∃ (zs:List V) (ls:List Letter),dX H9 g8 D zs/\abG (aR H9) zs ls/\ls.map ab5=ks'.take i/\∀ l∈ls,Ro hs (gB kvs) l) ⟨[],[],dX.start hD,.nil,rfl,λl hl=>by simp at hl⟩ (λi g8 _ ahM=>by obtain ⟨_,_,G,_⟩:=ahM; exact cG.of (G.same _ _ h9)) (λg8 ahN=>?_) (λi x g8 hx hi ahO b=>?_)⟩
       . refine bK λjm bw=>?_
         obtain ⟨zs,ls,G,pz,el,gl⟩:=ahN;subst bw;have lx:ks'.take (as.map V.ref).length=ks':=adT (by rw [aac]; omega);rw [lx] at el;have l1:=congrArg afN el;rw [aac] at l1;have l2:=pz.length;refine ⟨D,zs,rfl,.inl ⟨cG.of G.at',λt ht=>?_⟩⟩;refine q (.ref t) ls _ ⟨t,zs,rfl,au,aA (λ_ _ z=>z.ts (G.same.tups.new ht)) pz⟩ ⟨by omega,λl hl=>(gl l hl).1,by rw [el]; exact pw⟩ (by omega) (λl hl=>(gl l hl).2) ?_ ?_
         . obtain ⟨n,e,n0⟩:=pk;exact (show bU g8 p from ⟨n,G.same _ _ (s9 _ _ e),n0⟩).new ht
         . exact (((aY.of sH).trans (sb.trans (aY.of (s9.trans G.same)))).new ht)
       . refine bK λjm bw=>?_
         obtain ⟨zs,ls,G,pz,el,gl⟩:=ahO;subst bw;rw [aaJ] at hx
         obtain ⟨a,ea,rfl⟩:∃ a,as[i]?=some a/\x=V.ref a:=by
           cases e:as[i]? with
           | none=>rw [e] at hx; cases hx
           | some a=>rw [e] at hx; exact ⟨a,rfl,(abx hx).symm⟩
         have li:i<ks'.length:=by rw [aac] at hi; omega
         have eki:ks'[i]?=some ks'[i]:=aaj li;have hka:H' a=some (.tup ((kP ks'[i]).map kV)):=ha i a _ ea eki
         have mk:kP ks'[i]∈kf.map (·.1):=by
           rw [ek];exact afs (pm'.mem_iff.mp (ah5 li))
         obtain ⟨v,ev,mv⟩:=Qp mk;refine bK λjm bw=>?_
         obtain ⟨l,w1,w2,w3⟩:=fo _ mv;subst bw;have el1:l.1=ks'[i]:=(tO w1).symm;have sg:Same H' g8:=s9.trans G.same;refine ⟨F,v,rfl,ev ▸ eY.t (k:=kP ks'[i]) (sg _ _ eF) (sg _ _ hka),?_⟩;have l2:=pz.length;have l1:=congrArg afN el;rw [aac,abI] at l1;refine ⟨zs,G.at',by omega,nx hi ⟨zs++[v],ls++[l],G.put hD v,bC pz (.cons (w2.ts s9.tups) .nil),?_,λl' hl'=>?_⟩⟩
         . rw [abp,el,abz,eki];show _++[l.1]=_++[ks'[i]];rw [el1]
         . rcases abv.mp hl' with z | z
           . exact gl l' z
           . rw [abe.mp z]; exact w3
noncomputable def rB (K:aaf):Sp:=λvs H Q _=>∃ (a:aaH) (ns:List Int) (k:Int),vs=[.ref a,.int k]/\cG K H a (ns.map V.int)/\(∀ n∈ns,Qh n)/\ns.length<=63/\0<=k/\k<=100/\∀ (x:V) (hs:List aL) (ls:List Letter) (H':Hp),dY H' x hs ls->cH hs->jM hs ls->(∀ z∈hs.map aL.name,z∈Qq)->(∀ h∈hs,GoodW h)->(∀ l∈ls,Rn 4100 l)->(∀ n∈namesOf hs,n≠qS/\n≠qS2)->(namesOf hs).length<=10->ls.length<=6->Same H H'->Q x H'
noncomputable def PvG (a hd ln lh dh:aaH) (k d4:Int) (ss:List Str) (H3:Hp):Nat->St->Hp->Prop:=λi σ H'=>∃ (vh:List V) (hs:List aL) (kvs:List (Key × V)) (m:Nat) (o8 o9 yS uW:Option V),σ=[some (.ref a),some (.int k),some (.ref hd),some (.ref ln),some (.int (1+d4)),some (.ref lh),some (.ref dh),some (.int (10-(m:Int))),o8,o9,yS,uW]/\H' lh=some (.lst vh)/\abG (gq H') vh hs/\H' dh=some (.dK kvs)/\kvs.map (·.1)=(namesOf hs).map acW/\(∀ n∈namesOf hs,∃ i:Int,cL kvs (.inr n)=some (.int i))/\namesOf hs=ss.take m/\m<=10/\hs.length=i/\hs.map aL.name=Qq.take i/\(∀ h∈hs,GoodW h)/\(∀ h∈hs,j9 h (gB kvs)=true)/\Same H3 H'
theorem cJ:aZ ["_law_script","_law_k","_law_head","_law_names_here","_law_amount","_law_houses","_law_hidden","_law_room","_law_j","_law_rest","_law_house_here","_law_more"] ["_law_script","_law_k"] (aJ uc):=nj
theorem Ej {f:aaH} {fd:abL} (F:dO K "_law_ledger" "_law_ledger" uc f fd) (T:Txt mg t8 t6 tR tL) (xT:Cl P w K mg base 2 "_law_pack" ["_law_script","_law_k"] (BR K)) (Wi:Cl P w K mg base 2 "_law_names" ["_law_pack_here","_law_amount"] xu) (cQ:Cl P w K mg base 2 "_law_take" ["_law_pack_here","_law_size"] n6) (Mw:Cl P w K mg base 2 "_law_house" ["_law_pack_here","_law_name","_law_names_here","_law_room"] uf) (Ek:Cl P w K mg base 2 "_law_letters" ["_law_pack_here","_law_houses","_law_hidden"] mj):aV P w K mg base dF 3 f fd ["_law_script","_law_k"] (rB K):=by
 refine F.ok cJ (λvs H Q E h=>?_) (λcdv A outer s H vs Q E hr h=>?_)
 . obtain ⟨a,ns,k,rfl,_⟩:=h;rfl
 . obtain ⟨a,ns,k,rfl,ha,hb,hl,k0,k1,q⟩:=h;have jH:sizeLine=16777216:=aby;refine ⟨_,(aq (pZ 2 cJ (pC xT hr (aj (pV 0) (aj (pV 1) ao)))) (aq (pZ 3 cJ (pC Wi hr (aj (pV 2) (aj aD ao)))) (aq (pZ 4 cJ (bx iT aD (pC cQ hr (aj (pV 2) (aj aD ao))))) (aq (pZ 5 cJ (cR ao)) (aq (pZ 6 cJ iQ) (aq (pZ 7 cJ aD) (aq (dG acK rfl (fM rfl T.range (aj (pV 4) ao)) (pY 8 cJ) (aq (pZ 9 cJ (dW rR (pV 3) (FZ (aM pG rfl T.len adp (aj (pV 6) ao))) (FZ aD))) (aq (Bk (pC Mw hr (aj (pC xT hr (aj (pV 0) (aj (bx iT (bx iT (pV 1) aD) (pV 8)) ao))) (aj (pX Ln (cR (aj bY (aj bY (aj bY (aj bY ao))))) (pV 8)) (aj (pV 9) (aj (pV 7) ao))))) (fU rfl (aP (pY 10 cJ) (aP (pY 11 cJ) dR)))) (aq (cW (nu adq adC adD eX (pV 5) (aj (pV 10) ao))) (aq (cW (nu ah1 ams PySem.F.type_dict_update Lw (pV 6) (aj (pV 11) ao))) (aG (pZ 7 cJ (bx Pr aD (aM pG rfl T.len adp (aj (pV 6) ao)))))))))) (aG (bf (bH (aj (bJ bM rfl T.tuple acn (aj (pV 5) ao)) (aj (pC Ek hr (aj (pC xT hr (aj (pV 0) (aj (bx iT (pV 1) aD) ao))) (aj (pV 5) (aj (pV 6) ao)))) ao)))))))))))),?_⟩;refine cV λU1 Q6=>?_
   refine ⟨a,ns,k,rfl,ha,hb,hl,k0,by omega,λhd H1 fhd Ym s1=>?_⟩;show U1 _ _;subst Q6;refine cV λU2 Q7=>?_
   refine ⟨hd,rfl,Ym,λln ss H2 fln eln l12 nd gs nq nq2 pk2 Rp=>?_⟩;show U2 _ _;subst Q7;have S2:Same H H2:=jw s1 fhd Rp;refine cV λU3 Wc=>?_
   refine ⟨hd,4,rfl,pk2,by decide,by decide,λd4 H3 d4a d4b pk3 Wj=>?_⟩;show U3 _ _;subst Wc;have S3:Same H H3:=jw S2 fhd Wj;have ahP:ln≠hd:=λz=>by obtain ⟨n,e,_⟩:=Ym; rw [<- z,fln] at e; cases e
   have ac8:H3 ln=some (.lst (ss.map V.str)):=Wj ln _ ahP eln;refine cV λU4 hU4=>?_
   refine ⟨abH _,λlh flh=>?_⟩;show U4 _ _;subst hU4;refine cV λU5 hU5=>?_
   refine λdh fdh=>?_
   show U5 _ _;subst hU5;have S4:Same H3 (upd (upd H3 lh (.lst [])) dh (.dK [])):=((Same.refl H3).upd flh).upd fdh;have nld:lh≠dh:=aH au fdh;have apB:=S4 _ _ ac8;have Wk:ss.length=12:=l12;refine ⟨1+d4,rfl,by omega,by omega,jj (lo:=0) (n:=(1+d4).toNat) (PvG a hd ln lh dh k d4 ss H3) ⟨[],[],[],0,none,none,none,none,rfl,(aB nld).trans au,.nil,au,rfl,λn hn=>by simp [namesOf] at hn,rfl,by decide,rfl,rfl,λh hh=>by simp at hh,λh hh=>by simp at hh,S4⟩ (λi σ H' hi ahR=>?_) (fun σ H' ahS=>?_)⟩
   . refine bK λjm bw=>?_
     obtain ⟨vh,hs,kvs,m,o8,o9,yS,uW,eσ,elh,ph,edh,keys,vals,nms,m10,lhs,hnm,gh,kh,S⟩:=ahR;subst bw;subst eσ;have i4:i<4:=by omega
     have oH:kvs.length=m:=by
       have z:=congrArg afN keys;rw [aac,aac,nms,abI] at z;omega
     have SH:Same H H':=S3.trans S;refine ⟨dh,kvs,rfl,edh,?_⟩;refine ⟨ln,_,rfl,cG.of (S _ _ ac8),λlr flr=>?_⟩
     have ahU:qQ (ss.map V.str) (some (kvs.length:Int)) (some 10)=((ss.take 10).drop m).map V.str:=by
       unfold qQ;rw [show (some 10:Option Int)=some ((10:Nat):Int) from rfl,HT.jJ,HT.jJ,aac,l12,oH,aiv (show m<=12 by omega),aiv (show 10<=12 by decide),<- List.map_drop,<- List.map_take,ami]
     rw [ahU];have s5:Same H' (upd H' lr (.lst (((ss.take 10).drop m).map V.str))):=(Same.refl H').upd flr;generalize eH5:upd H' lr (.lst (((ss.take 10).drop m).map V.str))=H5 at s5;have elr:H5 lr=some (.lst (((ss.take 10).drop m).map V.str)):=by rw [<- eH5]; exact au
     have SH5:Same H H5:=SH.trans s5;refine ⟨a,ns,k+1+(0+(i:Int)),rfl,sG SH5 ha,hb,hl,by omega,by omega,λp H6 fp pk6 s6=>?_⟩;refine ⟨by show 4<=sizeLine; omega,λl4 fl4=>?_⟩;obtain ⟨nm,enm⟩:∃ nm,Qq[i]?=some nm:=⟨Qq[i],aaj (show i<4 from i4)⟩
     have eat:zO (Qq.map V.str) (0+(i:Int))=some (.str nm):=by
       rw [anu];exact je (by rw [aaJ,enm]; rfl)
     refine sy (xs:=Qq.map V.str) au eat ?_;have gnm:Good nm:=VL nm (abq enm);have s7:Same H5 (upd H6 l4 (.lst (Qq.map V.str))):=s6.upd fl4;have pk7:bU (upd H6 l4 (.lst (Qq.map V.str))) p:=pk6.new fl4;have ssl:((ss.take 10).drop m).length=10-m:=by rw [afQ,abI]; omega
     have sub:((ss.take 10).drop m).Sublist ss:=(aoL _ _).trans (afH _ _);refine ⟨p,nm,lr,(ss.take 10).drop m,10-(m:Int),rfl,pk7,gnm,s7 _ _ elr,by omega,sub.nodup nd,λs hs'=>gs s (sub.subset hs'),λr d hv hh kv m' H8 fr fd er hat ghh ehn Hu le rm ed J2 vals2 pk8 sb8 kph=>?_⟩;have fp5:H5 p=none:=fp;have S8:Same H5 H8:=jw s7 fp5 sb8;refine ⟨r,_,rfl,bQ.of er,rfl,_,_,rfl,_,_,rfl,rfl,?_⟩;have Rq:H8 lh=some (.lst vh):=S8 _ _ (s5 _ _ elh);have aag:H8 dh=some (.dK kvs):=S8 _ _ (s5 _ _ edh);refine ⟨.inl ⟨rfl,_,cG.of Rq⟩,?_⟩;have lv:=ph.length;refine ⟨lh,vh,_,rfl,rfl,Rq,by omega,?_⟩
     have ndd:dh≠d:=λz=>by
       rw [<- z] at fd;have w:=(s7 _ _ (s5 _ _ edh));cases (fd.symm.trans w)
     have Yo:dh≠lh:=λz=>by rw [z,Rq] at aag; cases aag
     have ahX:d≠lh:=λz=>by rw [z,Rq] at ed; cases ed
     have aah:upd H8 lh (.lst (vh++[hv])) dh=some (.dK kvs):=(aB Yo).trans aag;have ed9:upd H8 lh (.lst (vh++[hv])) d=some (.dK kv):=(aB ahX).trans ed
     have ahY:kv.length=m':=by
       have z:=congrArg afN J2;rw [aac,aac,abI] at z;omega
     refine ⟨.inr (.inr (.inl ⟨rfl,.inl ⟨_,aah⟩⟩)),?_⟩;refine ⟨dh,d,kvs,kv,rfl,rfl,ndd,aah,ed9,by omega,?_⟩;have mm:m+m'<=10:=by omega
     have e10:namesOf (hs++[hh])=ss.take (m+m'):=by
       have z:namesOf (hs++[hh])=namesOf hs++fG hh:=by unfold namesOf; rw [adR]; simp
       rw [z,nms,Hu,ami,List.take_take,List.take_add,aiv (by omega)]
     have ndk:(ss.take (m+m')).Nodup:=(afH _ _).nodup nd
     have aai:ss.take (m+m')=ss.take m++((ss.take 10).drop m).take m':=by
       rw [<- e10];unfold namesOf;rw [adR];have z:hs.flatMap fG=ss.take m:=nms;rw [z,<- Hu]; simp
     have inj:∀ l:List Str,l.Nodup->(l.map (acW:Str->Key)).Nodup:=λl hl=>by
       rw [abJ,ado];exact (abJ.mp hl).imp λh z=>h (ahL z)
     have ada:=inj _ ndk;rw [aai,abp] at ada;obtain ⟨nda,ndb,ndc⟩:=aeS.mp ada
     have emk:qT kvs kv=kvs++kv:=wW kv kvs (by rw [J2]; exact ndb) (λx hx z=>by
       rw [J2] at hx;rw [keys,nms] at z
       exact ndc x z x hx rfl)
     rw [emk];have tt:bV H8 (upd (upd H8 lh (.lst (vh++[hv]))) dh (.dK (kvs++kv))):=((bV.refl H8).put Rq (λ_ z=>nomatch z)).put aah (λ_ z=>nomatch z);refine ⟨dh,_,rfl,au,?_⟩;refine ⟨vh++[hv],hs++[hh],kvs++kv,m+m',some (.int (0+(i:Int))),some (.ref lr),some hv,some (.ref d),?_,(aB (acV Yo)).trans au,?_,au,?_,?_,e10,mm,by rw [aay,lhs]; rfl,?_,?_,?_,?_⟩
     . have el:(10-((kvs++kv).length:Int))=10-((m+m':Nat):Int):=by rw [aay,oH,ahY]
       show [_,_,_,_,_,_,_,some (V.int (10-((kvs++kv).length:Int))),_,_,_,_]=_;rw [el]
     . refine bC (aA (λ_ _ z=>(z.ts s5.tups).ts (S8.tups.trans tt)) ph) (.cons (hat.ts tt) .nil)
     . rw [abp,keys,J2,e10,nms,aai,abp]
     . intro n hn;rw [e10,aai] at hn;rw [wX];rcases abv.mp hn with z | z
       . obtain ⟨v,ev⟩:=vals n (by rw [nms]; exact z);exact ⟨v,by rw [ev]; rfl⟩
       . obtain ⟨v,ev⟩:=vals2 n z;refine ⟨v,?_⟩
         have no:cL kvs (.inr n)=none:=Ab (λy=>by
           rw [keys,nms] at y
           exact ndc (acW n) y (acW n) (afs z) rfl)
         rw [no,ev]; rfl
     . rw [abp,hnm,abz,enm,<- ehn]; rfl
     . intro h hh';rcases abv.mp hh' with z | z
       . exact gh h z
       . rw [abe.mp z]; exact ghh
     . have a1:∀ n∈namesOf hs,gB (kvs++kv) n=gB kvs n:=λn hn=>by
         obtain ⟨v,ev⟩:=vals n hn;exact Mp ev
       have a2:∀ n∈fG hh,gB (kvs++kv) n=gB kv n:=λn hn=>Mq (Ab (λy=>by
           rw [keys,nms] at y;rw [Hu] at hn
           exact ndc (acW n) y (acW n) (afs hn) rfl))
       intro h hh';rcases abv.mp hh' with z | z
       . rw [Ae λn hn=>a1 n (aef.mpr ⟨h,z,hn⟩)]; exact kh h z
       . rw [abe.mp z,Ae a2]; exact kph
     . intro b o e;have z:=S8 _ _ (s5 _ _ (S _ _ e));have n1:b≠lh:=aH e flh
       have n2:b≠dh:=λy=>by
         rw [y] at e;have:=(aB (o:=.lst []) (acV nld)).trans e;rw [fdh] at this; cases this
       rw [aB n2,aB n1]; exact z
   . refine bK λjm bw=>?_
     obtain ⟨vh,hs,kvs,m,o8,o9,yS,uW,eσ,elh,ph,edh,keys,vals,nms,m10,lhs,hnm,gh,kh,S⟩:=ahS;subst bw;subst eσ;have SH:Same H H':=S3.trans S;have lv:=ph.length;have ln':hs.length<=4:=by omega
     refine ⟨lh,vh,rfl,.inl ⟨cG.of elh,λt1 ft1=>?_⟩⟩;have s5:Same H' (upd H' t1 (.tup vh)):=(Same.refl H').upd ft1;generalize eH5:upd H' t1 (.tup vh)=H5 at s5;have et1:H5 t1=some (.tup vh):=by rw [<- eH5]; exact au
     refine ⟨a,ns,k+5,rfl,sG (SH.trans s5) ha,hb,hl,by omega,by omega,λp H6 fp pk6 s6=>?_⟩;have s56:Same H' H6:=s5.trans s6;have ndn:(namesOf hs).Nodup:=by rw [nms]; exact (afH _ _).nodup nd
     have adb:(namesOf hs).length<=24:=by rw [nms,abI]; omega
     refine ⟨p,lh,dh,vh,hs,kvs,rfl,pk6,s56 _ _ elh,aA (λ_ _ z=>z.ts s56.tups) ph,by omega,(λh hh=>(gh h hh).tojl),ndn,adb,s56 _ _ edh,keys,(λn hn=>by
       obtain ⟨i,ei⟩:=vals n hn;obtain ⟨k,hk,hn'⟩:=aef.mp hn;obtain ⟨r,hr2,rfl⟩:=abj.mp hn';have z:=(lY.mp (kh k hk)).1 r hr2;unfold Ho at z;have z1:=of_decide_eq_true (abr.mp z).1;have z2:=of_decide_eq_true (abr.mp z).2;rw [V9 ei] at z1 z2;have g:=gh k hk;have y1:=g.ag2;have y2:=g.acT;have y3:=g.near r hr2
       exact ⟨i,ei,by omega,by omega⟩),λx ls H7 lat gl l6 kls pk7 sb7=>?_⟩
     have S7:Same H5 H7:=jw s6 fp sb7;refine ⟨by show 2<=sizeLine; omega,λt ft=>?_⟩;have S7t:Same H5 (upd H7 t (.tup [.ref t1,x])):=S7.upd ft;refine q (.ref t) hs ls _ ⟨t,.ref t1,x,rfl,au,⟨t1,vh,rfl,S7t _ _ et1,aA (λ_ _ z=>z.ts (s5.trans S7t).tups) ph⟩,lat.ts ((bV.refl H7).new ft)⟩ ⟨by omega,by omega,(λh hh=>(gh h hh).tojl),by rw [hnm]; exact (afH _ _).nodup Qs,ndn,adb⟩ gl (λz hz=>afP (hnm ▸ hz)) gh kls (λn hn=>by rw [nms] at hn; exact ⟨nq n (afP hn),nq2 n (afP hn)⟩) (by rw [nms,abI]; omega) l6 (SH.trans (s5.trans S7t))
end Eb
namespace L2
open PySem PySem.Spec PyProof.Rows PySem.W
section
variable {X:Cx}
theorem Af:∀ {xs:List V} {us:List aat} (k:Nat),Vals xs us->Vals (xs.take k) (us.take k)
 | _,_,0,_=>by rw [aie,aie]; exact .nil
 | _,_,_+1,.nil=>.nil
 | _,_,k+1,.cons h r=>.cons h (Af k r)
theorem Ag:∀ {xs:List V} {us:List aat} (k:Nat),Vals xs us->Vals (xs.drop k) (us.drop k)
 | _,_,0,r=>r
 | _,_,_+1,.nil=>.nil
 | _,_,k+1,.cons _ r=>Ag k r
noncomputable def Wm:V->List V->Hp->VK->Prop:=λx vs H Q=>∃ (l:aaH) (xs:List V) (k:Nat) (y:V),x=.ref l/\vs=[.int (k:Int),y]/\H l=some (.lst xs)/\k<=xs.length/\xs.length<sizeLine/\Q .non (upd H l (.lst (xs.take k++y :: xs.drop k)))
theorem Mx:MtM X "list.insert" Wm:=by
 intro pins s σ H x vs v us Q I rx rv h;obtain ⟨l,xs,k,y,rfl,rfl,hH,hk,hz,q⟩:=h;cases rx;obtain ⟨u,w',rfl,ru,Pb⟩:=vals2 rv;obtain ⟨t,rfl⟩:=ru;obtain ⟨z,its,n,r,hl,e⟩:=I.K8 hH;have jH:sizeLine=16777216:=aby
 have fits:¬(!Builtin.List.listFitsIndex (k:Int))=true:=by
   have:al3 (k:Int)=true:=by
     unfold al3;rw [adB];exact ⟨decide_eq_true (by omega),decide_eq_true (by omega)⟩
   rw [this]; decide
 have li:its.length=xs.length:=r.length.symm;have ei:∃ i:Int,i=(k:Int):=⟨_,rfl⟩;obtain ⟨i,hi⟩:=ei;rw [<- hi] at fits |-;have hsz:its.toArray.size<=sizeLine:=by rw [abm]; omega
 have m:=PySem.AutoListH.list_insert_list_int_val_1 l its.toArray n i t w' fits hsz;refine aoI F.slot_list_insert ⟨_,e,rfl⟩ F.entry_list_insert (F.args_list_insert_3 _ _ _) m ⟨e,?_⟩;refine ⟨.non,_,I.acd (its':=its.take k++w' :: its.drop k) hH e ?_ ((Af k r).append (.cons Pb (Ag k r))) ?_,rfl,q⟩
 . have ek:(if i<0 then (i+((its.toArray.size:Nat):Int)).toNat else min i.toNat its.toArray.size)=k:=by
     rw [if_neg (by omega),abm];omega
   apply amM.mp;simp only [ek];simp;exact adT (by rw [afQ]; exact aaw _)
 . rw [aay,abD,abI,afQ];omega
end
end L2
namespace Eb
open PySem L2 GF
variable {P:abt} {w:acU} {K:aaf} {mg:Str->Option aat} {base:afp} {t8 t6 tR tL t9:Tok} {C NW:aaH} {c:Nat->aaH}
theorem xU {H H1:Hp} {p:aaH} (h:bU H p) (s:Same H H1):bU H1 p:=let ⟨n,e,n0⟩:=h; ⟨n,s _ _ e,n0⟩
noncomputable def ug:Sp:=λvs H Q _=>∃ (p l:aaH) (xs:List V),vs=[.ref p,.ref l]/\bU H p/\H l=some (.lst xs)/\l≠p/\xs.length<=100/\∀ (d:aaH) (ys:List V) (H':Hp),H d=none->H' d=some (.lst ys)->ys.Perm xs->bU H' p->aY p H H'->Q (.ref d) H'
theorem rC:aZ ["_law_pack_here","_law_things","_law_found","_law_thing"] ["_law_pack_here","_law_things"] (aJ xr):=nj
theorem Hv {f:aaH} {fd:abL} (F:dO K "_law_mixed_up" "_law_mixed_up" xr f fd) (T:Txt mg t8 t6 tR tL) (cQ:Cl P w K mg base 1 "_law_take" ["_law_pack_here","_law_size"] n6):aV P w K mg base dF 2 f fd ["_law_pack_here","_law_things"] ug:=by
 refine F.ok rC (λvs H Q E h=>?_) (λcdv A outer s H vs Q E hr h=>?_)
 . obtain ⟨p,l,xs,rfl,_⟩:=h;rfl
 . obtain ⟨p,l,xs,rfl,pk,hl,nlp,few,q⟩:=h;have jH:sizeLine=16777216:=aby;refine ⟨_,(aq (pZ 2 rC (cR ao)) (aq (dG acK rfl (cX (pV 1)) (pY 3 rC) (aG (cW (nu adq PySem.F.slot_list_insert PySem.F.type_list_insert Mx (pV 2) (aj (pC cQ hr (aj (pV 0) (aj (bx iT (aM cB rfl T.len adp (aj (pV 2) ao)) aD) ao))) (aj (pV 3) ao)))))) (aG (bf (pV 2))))),?_⟩;refine ⟨abH _,λD hD=>?_⟩;have s0:Same H (upd H D (.lst [])):=(Same.refl H).upd hD;have nDp:D≠p:=λe=>by obtain ⟨n,z,_⟩:=pk; rw [<- e,hD] at z; cases z
   have nlD:l≠D:=λe=>by rw [e,hD] at hl; cases hl
   refine ⟨l,rfl,⟨_,cG.of (s0 _ _ hl)⟩,fW (xs:=xs) (λi σ H'=>∃ (ys:List V) (o3:Option V),σ=[some (.ref p),some (.ref l),some (.ref D),o3]/\H' D=some (.lst ys)/\ys.Perm (xs.take i)/\bU H' p/\∀ b u,b≠p->H b=some u->H' b=some u) ⟨[],none,rfl,au,.nil,xU pk s0,λb u _ e=>s0 _ _ e⟩ (λi σ H' _ hz=>by obtain ⟨_,_,_,_,_,_,s⟩:=hz; exact cG.of (s _ _ nlp hl)) (λi v σ H1 hv hz=>?_) (fun σ H1 hz=>?_)⟩
   . obtain ⟨ys,o3,rfl,eD,pm,Ym,s1⟩:=hz;have ly:=pm.length_eq;rw [abI] at ly;refine ⟨.inl ⟨rfl,_,cG.of eD⟩,?_⟩;refine ⟨D,_,rfl,.inl (cG.of eD),?_⟩;refine ⟨p,(ys.length:Int)+1,rfl,Ym,by omega,by omega,λd H2 d0 d1 pk2 Rp=>?_⟩;obtain ⟨k,rfl⟩:∃ k:Nat,d=(k:Int):=⟨d.toNat,by omega⟩;have Ux:H2 D=some (.lst ys):=Rp D _ nDp eD;refine ⟨D,ys,k,v,rfl,rfl,Ux,by omega,by omega,?_⟩;refine ⟨ys.take k++v :: ys.drop k,_,rfl,au,?_,?_,λb u nb e=>?_⟩
     . rw [abz,hv]
       have z:(ys.take k++v :: ys.drop k).Perm (v :: ys):=by
         refine List.perm_middle.trans ?_;rw [ag9]
       refine z.trans ((pm.cons v).trans ?_);exact (List.perm_append_singleton v _).symm
     . obtain ⟨n,e,r⟩:=pk2;exact ⟨n,by rw [aB (acV nDp)]; exact e,r⟩
     . rw [aB (aH e hD)];exact Rp b u nb (s1 b u nb e)
   . obtain ⟨ys,o3,rfl,eD,pm,Ym,s1⟩:=hz;rw [acL] at pm;exact q D ys H1 hD eD pm Ym (λb u nb e=>s1 b u nb e)
section
variable {H1:Hp} {D:aaH} {σ0:St} {g:BI->TG} {te:BI->TE} {End:Hp->Prop} {α β:Type}
theorem Mz {K:aaf} {R:V->α->Prop} {R':Hp->V->β->Prop} {a:aaH} {xs:List V} {bs:List α} {f:α->β} (mono:∀ {H H':Hp} {v b},bV H H'->R' H v b->R' H' v b) (hD:H1 D=none) (hT:H1 a=some (.tup xs)) (few:xs.length<=1000) (pr:abG R xs bs)
   (turn:∀ (x:V) (c:α) (H':Hp),c∈bs->R x c->Same H1 H'->∀ b (Q:VK),(∀ v g8,Same H' g8->R' g8 v (f c)->Q v g8)->g b x σ0 H' fun σ2 H2=>te b σ2 H2 Q)
   (fin:∀ vs H',Same H1 H'->H' D=some (.lst vs)->abG (R' H') vs (bs.map f)->End H') :
   ∃ W:Nat->Nat->Hp->Prop,(∃ m,W 0 m (upd H1 D (.lst [])))/\∀ b,jL (Vd K a) (g b) (Vs) (jT D (te b)) σ0 End W :=
 wL (xs:=xs) (λi H'=>∃ zs,dX H1 H' D zs/\abG (R' H') zs ((bs.take i).map f)) ⟨[],dX.start hD,.nil⟩ (λi H' _ hz=>by obtain ⟨_,G,_⟩:=hz; exact bQ.of (G.same _ _ hT)) (λH' hz=>by
   obtain ⟨zs,G,pz⟩:=hz;rw [pr.length,acL] at pz;exact fin zs H' G.same G.at' pz) (λi x H' hx hi hz b=>by
   obtain ⟨zs,G,pz⟩:=hz;obtain ⟨c,hc,rc⟩:=bh pr hx;refine turn x c H' (abq hc) rc G.same b _ λv g8 s hv=>?_
   have jH:sizeLine=16777216:=aby;have lz:=pz.length;rw [aac,abI] at lz;have G2:=G.more s;have tt:bV g8 (upd g8 D (.lst (zs++[v]))):=λc ys e=>by rw [aB (λz=>by rw [z,G2.at'] at e; cases e)]; exact e
   refine ⟨zs,G2.at',by omega,nx hi ⟨zs++[v],G2.put hD v,?_⟩⟩;rw [abz,hc,abp]
   exact bC (aA (λ_ _ z=>mono (s.tups.trans tt) z) pz) (.cons (mono tt hv) .nil))
end
noncomputable abbrev Em:=Str × Int × Str × Int
noncomputable def Ol (H:Hp) (v:V) (t:Em):Prop:=∃ a,v=.ref a/\H a=some (.tup [.str t.1,.int t.2.1,.str t.2.2.1,.int t.2.2.2])
theorem Ol.ts {H H':Hp} {v:V} {t:Em} (h:Ol H v t) (s:bV H H'):Ol H' v t:=let ⟨a,e,g⟩:=h; ⟨a,e,s _ _ g⟩
noncomputable def trR (h:aL) (j:Nat) (r:Row):Em:=(h.name,2 * (j:Int)+1,r.1,r.2)
noncomputable def trJ (h:aL) (j:Nat):List Em:=(h.runs.getD j []).map (trR h j)
noncomputable def trH (h:aL):List Em:=(acF h.runs.length).flatMap (trJ h)
noncomputable def Wn (hs:List aL):List Em:=hs.flatMap trH
noncomputable def Hw:Sp:=λvs H Q _=>∃ (x:V) (hs:List aL) (ls:List Letter),vs=[x]/\dY H x hs ls/\cH hs/\∀ (d:aaH) (ws:List V) (H':Hp),H d=none->H' d=some (.lst ws)->abG (Ol H') ws (Wn hs)->Same H H'->Q (.ref d) H'
theorem sJ:aZ ["_law_ledger_here","_law_found","_law_house_here","_law_number"] ["_law_ledger_here"] (aJ pJ):=nj
theorem Wo {f:aaH} {fd:abL} (F:dO K "_law_told_rows" "_law_told_rows" pJ f fd) (T:Txt mg t8 t6 tR tL):aV P w K mg base dF 1 f fd ["_law_ledger_here"] Hw:=by
 refine F.ok sJ (λvs H Q E h=>?_) (λcdv A outer s H vs Q E hr h=>?_)
 . obtain ⟨x,hs,ls,rfl,_⟩:=h;rfl
 . obtain ⟨x,hs,ls,rfl,⟨a,y,z,rfl,ha,⟨c,vh,rfl,hc,ph⟩,hL⟩,gh,q⟩:=h;have jH:sizeLine=16777216:=aby;refine ⟨_,(aq (pZ 1 sJ (cR ao)) (aq (dG acK rfl (iy (pX dM (pV 0) aD)) (pY 2 sJ) (aG (dG acK rfl (fM rfl T.range (aj (aM cB rfl T.len adp (aj (pX dM (pV 2) aD) ao)) ao)) (pY 3 sJ) (aG (pZ 1 sJ (bx nA (pV 1) (cD (gP:=aJ pJ) (own:=["_law_name","_law_reading"]) (cap:=["_law_house_here","_law_number"]) (ix:=[2,3]) rfl rfl iR (iy (pX dM (pX dM (pV 2) aD) (pV 3))) (λb=>(fU rfl (aP (bD (i:=0) (show (["_law_name","_law_reading","_law_house_here","_law_number"]:List Str).Nodup by decide +kernel) rfl (afO rfl)) (aP (bD (i:=1) (show (["_law_name","_law_reading","_law_house_here","_law_number"]:List Str).Nodup by decide +kernel) rfl (afO rfl)) dR)))) (λb=>cN) (λb=>(bH (aj (pX dM (pV 2) aD) (aj (bx iT (bx Zw aD (pV 3)) aD) (aj (pV 0) (aj (pV 1) ao))))))))))))) (aG (bf (pV 1))))),?_⟩;refine ⟨abH _,λF fF=>?_⟩;have s1:Same H (upd H F (.lst [])):=(Same.refl H).upd fF;refine cg (bQ.of (s1 _ _ ha)) (i:=0) (v:=.ref c) (by rfl) ?_;have h6:=gh.hi;have lh:=ph.length;refine ⟨c,rfl,⟨_,bQ.of (s1 _ _ hc)⟩,rM (xs:=vh) (λi σ H'=>∃ (D:aaH) (ws:List V) (o2 o3:Option V),σ=[some (.ref a),some (.ref D),o2,o3]/\H D=none/\H' D=some (.lst ws)/\ws.length<=i * 625/\abG (Ol H') ws (Wn (hs.take i))/\Same H H') ⟨F,[],none,none,rfl,fF,au,abH _,.nil,s1⟩ (λi σ H' _ hz=>by obtain ⟨_,_,_,_,_,_,_,_,_,s⟩:=hz; exact bQ.of (s _ _ hc)) (λi v σ H2 hv hz=>?_) (fun σ H2 hz=>?_)⟩
   . refine bK λjm bw=>?_
     obtain ⟨D,ws,o2,o3,ez1,fD,eD,lw,pw,s⟩:=hz;subst bw;subst ez1;obtain ⟨hh,hhi,ht⟩:=bh ph hv;refine bK λjm bw=>?_
     obtain ⟨c1,b1,ez2,e1,c5,vr,ez3,e5,pr⟩:=ht;subst bw;subst ez2;subst ez3;have gd:=gh.all hh (abq hhi);have lr:=pr.length;have few:=gd.few;have hi6:i<hs.length:=(abE.mp hhi).1;refine cg (bQ.of (s _ _ e1)) (i:=4) (v:=.ref c5) (by rfl) ?_;refine ⟨c5,_,rfl,.inr (bQ.of (s _ _ e5)),?_⟩;refine ⟨(vr.length:Int),rfl,by omega,by omega,jj (lo:=0) (n:=((vr.length:Int)).toNat) (λj σ H'=>∃ (D:aaH) (ws:List V) (o3:Option V),σ=[some (.ref a),some (.ref D),some (.ref c1),o3]/\H D=none/\H' D=some (.lst ws)/\ws.length<=i * 625+j * 25/\abG (Ol H') ws (Wn (hs.take i)++(acF j).flatMap (trJ hh))/\Same H H') ⟨D,ws,o3,rfl,fD,eD,by omega,by simpa using pw,s⟩ (λj σ H3 hj hz=>?_) (fun σ H3 hz=>?_)⟩
     . refine bK λjm bw=>?_
       obtain ⟨D,ws,o3,ez4,fD,eD,lw,pw,s3⟩:=hz;subst bw;subst ez4;have hj':j<vr.length:=by omega
       refine bK λjm bw=>?_
       obtain ⟨rs,hrj,c2,w2,e2v,e2,p2⟩:=bh pr (aaj hj');subst bw;have gr:=gd.runs rs (abq hrj);have l2:=p2.length;have f25:=gr.few;refine cg (bQ.of (s3 _ _ e1)) (i:=4) (v:=.ref c5) (by rfl) ?_;refine cg (bQ.of (s3 _ _ e5)) (i:=0+(j:Int)) (v:=.ref c2) (by rw [anu]; exact je (by rw [aaj hj',e2v])) ?_;refine ⟨c2,rfl,⟨_,bQ.of (s3 _ _ e2)⟩,λD2 hD2=>Mz (R':=Ol) (f:=trR hh j) (λt z=>z.ts t) hD2 (s3 _ _ e2) (by omega) p2 (λx r H4 hr' rr s4 bb R hR=>?_) (λzs H4 s4 Ux pz=>?_)⟩
       . obtain ⟨c3,rfl,e3⟩:=rr;refine ⟨c3,_,rfl,bQ.of ((s3.trans s4) _ _ e3),rfl,_,_,rfl,_,_,rfl,rfl,?_⟩;refine cg (bQ.of ((s3.trans s4) _ _ e1)) (i:=0) (v:=.str hh.name) (by rfl) ?_;refine ⟨.inl ⟨by decide,by decide⟩,?_⟩;refine ⟨by show 4<=sizeLine; omega,λp hp=>?_⟩;refine hR _ _ ((Same.refl H4).upd hp) ⟨p,rfl,?_⟩;rw [au];show some (HO.tup [.str hh.name,.int (2 * (0+(j:Int))+1),.str r.1,.int r.2])=_;rw [anu];rfl
       . have lz:=pz.length;rw [aac] at lz;have eD4:=s4 _ _ eD;refine ⟨D,D2,ws,zs,rfl,rfl,eD4,Ux,by omega,λp hp=>?_⟩;have s5:Same H4 (upd H4 p (.lst (ws++zs))):=(Same.refl H4).upd hp;have Wq:=(s3.trans s4).trans s5;refine ⟨p,ws++zs,_,rfl,(s3.trans s4).free hp,au,by rw [aay]; omega,?_,Wq⟩;rw [List.range_succ,adR,<- adz];refine bC (aA (λ_ _ z=>z.ts (s4.trans s5).tups) pw) ?_
         have ez:(List.flatMap (trJ hh) [j])=rs.map (trR hh j):=by
           simp [trJ,ahK,hrj]
         rw [ez];exact aA (λ_ _ z=>z.ts s5.tups) pz
     . refine bK λjm bw=>?_
       obtain ⟨D,ws,o3,ez5,fD,eD,lw,pw,s3⟩:=hz;subst bw;subst ez5;have en:((vr.length:Int)).toNat=hh.runs.length:=by omega
       rw [en] at lw pw;refine ⟨D,ws,_,_,rfl,fD,eD,by omega,?_,s3⟩;unfold Wn at pw |-;rw [abz,hhi,adR];simpa [trH] using pw
   . refine bK λjm bw=>?_
     obtain ⟨D,ws,o2,o3,ez6,fD,eD,lw,pw,s⟩:=hz;subst bw;subst ez6;rw [lh,acL] at pw;exact q D ws H2 fD eD pw s
noncomputable def qM (H:Hp) (v:V) (h:aL):Prop:=∃ a,v=.ref a/\H a=some (.tup [.str h.name,.int h.low,.int h.high,.int h.aW])
theorem qM.ts {H H':Hp} {v:V} {h:aL} (c:qM H v h) (s:bV H H'):qM H' v h:=let ⟨a,e,g⟩:=c; ⟨a,e,s _ _ g⟩
noncomputable def Rr (h:aL):Da:=.tup [.str h.name,.int h.low,.int h.high,.int h.aW]
theorem qM.da {H:Hp} {v:V} {h:aL} (c:qM H v h) (g:jl h):cj H v (Rr h):=by
 obtain ⟨a,rfl,e⟩:=c;exact .tup e (show 4<=25 by decide) (.cons g.name.da (.cons (.int _) (.cons (.int _) (.cons (.int _) .nil))))
noncomputable def jy (H:Hp) (v:V) (hs:List aL):Prop:=∃ a vs,v=.ref a/\H a=some (.tup vs)/\abG (qM H) vs hs
noncomputable def xV:Sp:=λvs H Q _=>∃ (x:V) (h:aL),vs=[x]/\qM H x h/\jl h/\∀ H',Same H H'->Q (.bl true) H'
noncomputable def uh:Sp:=λvs H Q _=>∃ (x:V) (hs:List aL),vs=[x]/\jy H x hs/\cH hs/\∀ H',Same H H'->Q (.bl true) H'
theorem kj:aZ ["thing","name","low","high","drift"] ["thing"] (aJ Ci):=nj
theorem MF {f:aaH} {fd:abL} (F:dO K "is_empty_house" "is_empty_house" Ci f fd) (Ck:Cl P w K mg base 2 "has_parts" ["thing","many"] vK) (Wr:Cl P w K mg base 2 "is_clock" ["name","low","high","drift"] BL):aV P w K mg base dF 3 f fd ["thing"] xV:=by
 refine F.ok kj (λvs H Q E h=>?_) (λcdv A outer s H vs Q E hr h=>?_)
 . obtain ⟨x,h,rfl,_⟩:=h;rfl
 . obtain ⟨x,h,rfl,hx,g,q⟩:=h;refine ⟨_,(aq (bW (cP (sZ (pC Ck hr (aj (pV 0) (aj aD ao))))) (aG (bf iJ)) aU) (aq (Bk (pV 0) (fU rfl (aP (pY 1 kj) (aP (pY 2 kj) (aP (pY 3 kj) (aP (pY 4 kj) dR)))))) (aG (bf (pC Wr hr (aj (pV 1) (aj (pV 2) (aj (pV 3) (aj (pV 4) ao))))))))),?_⟩;refine ⟨x,Rr h,4,rfl,hx.da g,?_⟩;obtain ⟨a,rfl,e⟩:=hx;refine ⟨a,_,rfl,bQ.of e,rfl,_,_,rfl,_,_,rfl,_,_,rfl,_,_,rfl,rfl,?_⟩;refine ⟨_,_,_,_,.str h.name,.int h.low,.int h.high,.int h.aW,rfl,g.name.da,.int _,.int _,.int _,λH' s'=>?_⟩;rw [Qt g.name g.wide g.aW];exact q H' s'
theorem Hy:aZ ["thing"] ["thing"] (aJ oF):=nj
theorem HB {f:aaH} {fd:abL} (F:dO K "are_empty_houses" "are_empty_houses" oF f fd) (T:Txt mg t8 t6 tR tL) (Rt:Cl P w K mg base 3 "is_empty_house" ["thing"] xV) (Ru:Cl P w K mg base 3 "are_unlike" ["names"] wO):aV P w K mg base dF 4 f fd ["thing"] uh:=by
 refine F.ok Hy (λvs H Q E h=>?_) (λcdv A outer s H vs Q E hr h=>?_)
 . obtain ⟨x,hs,rfl,_⟩:=h;rfl
 . obtain ⟨x,hs,rfl,⟨c,vs,rfl,hc,pc⟩,gh,q⟩:=h;have jH:sizeLine=16777216:=aby;have len:=pc.length;have h1:=gh.lo;have h6:=gh.hi;have hd:cj H (.ref c) (.tup (hs.map Rr)):=.tup hc (by omega) (LK pc λv x hx q=>q.da (gh.all x hx));obtain ⟨_,⟨T',ty,kt⟩,_⟩:=hd.kind (K:=K);refine ⟨_,(aq (bW (mY (cP (sZ (aM jZ rfl T.yQ abl (aj (pV 0) (aj (lN (v:=.ty "tuple") rfl T.tuple acn rfl) ao))))) (pw_or1 (cP (ZC oLe oLe aD (aM cB rfl T.len adp (aj (pV 0) ao)) (cM (v:=.int 6) rfl T.acQ ⟨_,rfl⟩))))) (aG (bf iJ)) aU) (aq (bW (cP (sZ (aM (rZ rfl) rfl T.all aiy (aj (cD (gP:=aJ oF) (own:=["house"]) (cap:=[]) (ix:=[]) rfl rfl iR (iy (pV 0)) (λb=>(bD (i:=0) (show (["house"]:List Str).Nodup by decide +kernel) rfl (afO rfl))) (λb=>cN) (λb=>(pC Rt hr (aj (pV 0) ao)))) ao)))) (aG (bf iJ)) aU) (aG (bf (pC Ru hr (aj (cD (gP:=aJ oF) (own:=["house"]) (cap:=[]) (ix:=[]) rfl rfl iR (iy (pV 0)) (λb=>(bD (i:=0) (show (["house"]:List Str).Nodup by decide +kernel) rfl (afO rfl))) (λb=>cN) (λb=>(pX dM (pV 0) aD))) ao)))))),?_⟩;refine ⟨_,_,_,_,rfl,ty,kt,?_⟩;refine ⟨c,vs,rfl,.inr (bQ.of hc),?_⟩;refine eZ (λz=>?_) (λz=>absurd (decide_eq_true (show (1:Int)<=(vs.length:Int) by omega)) z);refine eZ (λw=>by rw [decide_eq_true (show (vs.length:Int)<=6 by omega)] at w; cases w) (λw=>?_);refine ⟨c,rfl,⟨_,bQ.of hc⟩,λD hD=>comp_map (xs:=vs) (ys:=(hs.map λ_=>true).map V.bl) hD (bQ.of hc) (by omega) (by rw [aac,aac]; omega) (λi x H' hx s2 b R hR=>?_) (λH' s2 e=>?_)⟩
   . obtain ⟨h,hy,ya⟩:=bh pc hx;exact ⟨x,h,rfl,ya.ts s2.tups,gh.all h (abq hy),λg8 s=>hR g8 _ (by rw [aaJ,aaJ,hy]; rfl) s⟩
   . refine ⟨D,_,rfl,cG.of e,?_⟩;rw [show (hs.map λ_=>true).all id=true from abP.mpr λb hb=>by obtain ⟨_,_,rfl⟩:=abj.mp hb; rfl];have hc2:=s2 _ _ hc;refine ⟨c,rfl,⟨_,bQ.of hc2⟩,λD2 hD2=>comp_map (xs:=vs) (ys:=hs.map λh=>V.str h.name) hD2 (bQ.of hc2) (by omega) (by rw [aac]; omega) (λi x H3 hx s4 b R hR=>?_) (λH3 s4 e2=>?_)⟩
     . obtain ⟨h,hh',ca⟩:=bh pc hx;obtain ⟨a1,rfl,g1⟩:=ca.ts (s2.trans s4).tups;refine cg (bQ.of g1) (i:=0) (v:=.str h.name) (by rfl) ?_;exact hR H3 _ (by rw [aaJ,hh']; rfl) (Same.refl _)
     . refine ⟨D2,hs.map aL.name,rfl,by rw [afn]; exact e2,by rw [aac]; omega,λH4 s5=>?_⟩;rw [decide_eq_true gh.names];exact q H4 ((s2.trans s4).trans s5)
noncomputable abbrev Place:=Str × Int × Int
noncomputable def um (H:Hp) (a:aaH) (m:Str->Option Place):Prop:=∃ kvs,H a=some (.dK kvs)/\∀ n,(m n=none->cL kvs (.inr n)=none)/\∀ p,m n=some p->∃ b,cL kvs (.inr n)=some (.ref b)/\H b=some (.tup [.str p.1,.int p.2.1,.int p.2.2])
noncomputable def aX (m:Str->Option Place) (s t:Str):Bool:=match m s,m t with
 | some a,some b=>decide (a.1=b.1)
 | _,_=>false
noncomputable def kE:Sp:=λvs H Q _=>∃ (a:aaH) (m:Str->Option Place) (s t:Str),vs=[.ref a,.str s,.str t]/\um H a m/\Q (.bl (aX m s t)) H
theorem MJ:aZ ["rows","sent","taken"] ["rows","sent","taken"] (aJ Cj):=nj
theorem MK {f:aaH} {fd:abL} (F:dO K "is_within_a_house" "is_within_a_house" Cj f fd):aV P w K mg base dF 1 f fd ["rows","sent","taken"] kE:=by
 refine F.ok MJ (λvs H Q E h=>?_) (λcdv A outer s H vs Q E hr h=>?_)
 . obtain ⟨a,m,s,t,rfl,_⟩:=h;rfl
 . obtain ⟨a,m,s,t,rfl,⟨kvs,eO,hk⟩,q⟩:=h;refine ⟨_,(aG (bf (nG (wk (jr (cU hr) (pV 1) (pV 0))) (nG (wk (jr (cU hr) (pV 2) (pV 0))) (jP (fZ wA (pX dM (eN (cU hr) (pV 0) (pV 1) (λ_ _=>rfl)) aD) (pX dM (eN (cU hr) (pV 0) (pV 2) (λ_ _=>rfl)) aD) (bA _))))))),?_⟩;refine ⟨a,_,rfl,eY.k (k:=acW s) eO,?_⟩;cases es:m s with
   | none =>
     rw [(hk s).1 es]
     have q':Q (.bl false) H:=by
       have e:aX m s t=false:=by unfold aX; rw [es]
       rw [e] at q; exact q
     exact q'
   | some p =>
     obtain ⟨b,v1,g1⟩:=(hk s).2 p es;rw [v1];refine ⟨a,_,rfl,eY.k (k:=acW t) eO,?_⟩;cases et:m t with
     | none =>
       rw [(hk t).1 et]
       have q':Q (.bl false) H:=by
         have e:aX m s t=false:=by unfold aX; rw [es,et]
         rw [e] at q; exact q
       exact q'
     | some p' =>
       obtain ⟨b',v2,g2⟩:=(hk t).2 p' et;rw [v2];refine ⟨a,_,rfl,v1 ▸ eY.k (k:=acW s) eO,?_⟩;refine cg (bQ.of g1) (i:=0) (v:=.str p.1) (by rfl) ?_;refine ⟨a,_,rfl,v2 ▸ eY.k (k:=acW t) eO,?_⟩;refine cg (bQ.of g2) (i:=0) (v:=.str p'.1) (by rfl) ?_;refine ⟨rfl,?_⟩
       have e:aX m s t=decide (V.str p.1=V.str p'.1):=by
         unfold aX;rw [es,et];simp
       rw [e] at q;exact q
end Eb
namespace L2
open PySem PySem.Spec PyProof.Rows
noncomputable def ade:HO->Prop
 | .dK _=>True
 | .dT _=>True
 | _=>False
noncomputable def Rv (H0 H H':Hp):Prop:=∃ a o u,H a=some (.gY o u)/\ade u/\(∀ o u,H0 a≠some (.gY o u))/\H'=upd H a u
section
variable {X:Cx} {pins:List (aaH × Obj)} {σ:St} {H H':Hp} {s:aav}
theorem Inv.adf (I:Inv X pins σ H s) (t:Rv X.H₀ H H'):Inv X pins σ H' s:=by
 obtain ⟨a,o,u,e,du,hz,rfl⟩:=t;have ne:∀ b,H b=none->b≠a:=λb hb z=>by subst z; rw [e] at hb; cases hb
 have nt:∀ b xs,H b=some (.tup xs)->b≠a:=λb xs hb z=>by subst z; rw [e] at hb; cases hb
 have no:∀ b y,H b=some (.own y)->b≠a:=λb xs hb z=>by subst z; rw [e] at hb; cases hb
 refine ⟨I.ok,I.os,I.bare,⟨I.base.keep,I.base.slot,λb o' h1 h2 h3=>?_,I.base.there,λb xs h=>?_,λb o' u' h=>?_,λb ps h=>?_⟩,I.loc,I.cell,?_,λx c h=>?_,λp hp=>?_,λb v h=>?_,I.len⟩
 . have z:=I.base.free b o' h1 h2 h3;rw [aB (ne b z)]; exact z
 . have z:=I.base.tups b xs h;rw [aB (nt b xs z)]; exact z
 . have z:=I.base.qy b o' u' h;have n:b≠a:=λq=>by subst q; exact hz _ _ h
   rw [aB n]; exact z
 . obtain ⟨m,z⟩:=I.base.qN b ps h;have n:b≠a:=λq=>by subst q; rw [e] at z; cases z
   exact ⟨m,by rw [aB n]; exact z⟩
 . rw [aB (ne _ I.free)]; exact I.free
 . have z:=I.jc x c h;rw [aB (ne _ z)]; exact z
 . obtain ⟨p1,p2,p3⟩:=I.pin p hp;exact ⟨p1,by rw [aB (ne _ p2)]; exact p2,p3⟩
 . have st:∀ {c:aaH} {w':HO},bT X.prog X.w H s.heap c w'->bT X.prog X.w (upd H a u) s.heap c w':=λ{c w'} q =>
     q.stay (λ_ _ _ q=>q) (λc q=>by rw [aB (no _ _ q)]; exact q) λc xs q=>by rw [aB (nt _ _ q)]; exact q
   by_cases z:b=a
   . subst z;rw [au] at h;cases h;exact st (show bT X.prog X.w H s.heap b (.gY o u) from I.hok b _ e).2
   . rw [aB z] at h;exact st (I.hok b v h)
variable {e:Expr} {te:TE} {st:air} {ts:TS}
noncomputable def adg (H0:Hp) (t:TE):TE:=fun σ H Q=>t σ H λv H1=>∃ H2,Rv H0 H1 H2/\Q v H2
theorem J3 (h:PE X e te):PE X e (adg X.H₀ te):=by
 intro pins s σ H Q I q;exact c7 (h pins s σ H _ I q) λu s1 ⟨v,H1,I1,r,H2,t,q2⟩=>⟨v,H2,I1.adf t,r,q2⟩
noncomputable def adh (H0:Hp) (t:TS):TS:=λD σ H=>∃ H1,Rv H0 H H1/\t D σ H1
theorem J4 (h:PS X st ts):PS X st (adh X.H₀ ts):=by
 intro pins s σ H D I ⟨H1,t,q⟩;exact h pins s σ H1 D (I.adf t) q
end
noncomputable def Iti (d:aaH) (o:Obj) (kvs:List (Key × V)):It:=⟨λi H=>H d=some (.gY o (.dK kvs))/\i<kvs.length,λi H v H'=>∃ T k x,H T=none/\v=.ref T/\kvs[i]?=some (k,x)/\H'=upd H T (.tup [kV k,x]),λi H=>H d=some (.gY o (.dK kvs))/\kvs.length<=i⟩
theorem HD {P:abt} {w:acU} {K:aaf} {elts:List Expr} {kk:Nat} {pos:Pos} (d it:aaH) (o:Obj) (es:Array ah3) (ep:Nat) (kvs:List (Key × V)) (hd:o.data=.dict es ep) :
   Turn P w K (.Tuple elts kk pos) (Iti d o kvs) [it] it (λi h=>∃ ok ov,IsItemIter h it d i kvs.length ep ok ov) where
 mem:=by simp
 obj:=λi h st b hb=>by
   have e:b=it:=by simpa using hb
   subst e;obtain ⟨ok,ov,st⟩:=st;exact ⟨_,st,λv z=>by cases (show ao7 _=Data.cell v from z)⟩
 keep:=λi h h' ⟨ok,ov,st⟩ k=>⟨ok,ov,k it (by simp) _ st⟩
 item:=by
   intro X hP hw hK hc i pins s σ H E I hf st hg;subst hP hw hK;obtain ⟨hd',lt⟩:=hg;obtain ⟨ok,ov,st⟩:=st;obtain ⟨vs,es',ep',rel,_,dd,hat⟩:=I.gY hd';rw [hd] at dd;cases dd;have lv:=rel.length;obtain ⟨⟨k,u⟩,hx⟩:∃ p,vs[i]?=some p:=⟨vs[i]'(by omega),aaj _⟩;obtain ⟨⟨k',x⟩,hy,e1,ru⟩:=fu rel hx;cases (show k'=k from e1);rw [lv] at st;refine wpAny_pyNext_items_item st hat hx λkey h' hkey ho hT hsz hk=>?_
   refine ⟨_,rfl,wpAny_letOwnedTupleGo_items (s:={ s with heap:=h' }) ho λh2 b1 b2=>?_⟩;have lte:it<s.heap.objs.size:=abh st;have nz:s.heap.objs.size≠it:=ajy lte;have eT:h2.get? s.heap.objs.size=some { cls:=.type "tuple",data:=.seq #[key,u] }:=(b2.2 _ nz).trans hT;have fresh:H s.heap.objs.size=none:=I.hok.fresh (aaw _)
   have I1:Inv X pins σ (upd H s.heap.objs.size (.tup [kV k,x])) { s with heap:=s.heap.push { cls:=.type "tuple",data:=.seq #[key,u] } } :=
     I.laid (t':=s.toks) (λ_ _ e=>aar _ e) (aaw _) ⟨by show 2<=sizeLine; rw [aby]; decide,[key,u],.cons (Ad hkey) (.cons ru .nil),lM.new _ _⟩
   have hf1:∀ c∈[it],qz X pins (upd H s.heap.objs.size (.tup [kV k,x])) c:=λc hc=>by
     have e:c=it:=by simpa using hc
     subst e;exact ⟨by rw [aB (acV nz)]; exact (hf _ (by simp)).1,(hf _ (by simp)).2⟩
   have I2:Inv X pins σ (upd H s.heap.objs.size (.tup [kV k,x])) { s with heap:=h2,toks:=s.toks }:=I1.Vx (t':=s.toks) (λc o hc q=>by
     by_cases ec:c=s.heap.objs.size
     . subst ec;have e':(s.heap.push { cls:=.type "tuple",data:=.seq #[key,u] }).get? s.heap.objs.size=some o:=q;rw [aaL _ rfl] at e';cases e';exact eT
     . have e':(s.heap.push { cls:=.type "tuple",data:=.seq #[key,u] }).get? c=some o:=q;rw [aoM _ _ _ ec] at e';have ni:c≠it:=by simpa using hc
       exact (b2.2 c ni).trans (hk c o ni e')) hf1
   rw [<- lv] at b1;exact ⟨.ref s.heap.objs.size,_,I2,rfl,⟨_,_,_,fresh,rfl,hy,rfl⟩,⟨_,_,b1⟩,λc hc=>(hf1 c hc).1⟩
 done:=by
   intro X hP hw hK hc i pins s σ H E I hf st hg;subst hP hw hK;obtain ⟨f0,f1,f2,f3,f4,f5⟩:=hf it (by simp);obtain ⟨hd',le⟩:=hg;obtain ⟨ok,ov,st⟩:=st;obtain ⟨vs,es',ep',rel,_,dd,hat⟩:=I.gY hd';rw [hd] at dd;cases dd;have lv:=rel.length;rw [lv] at st;exact wpAny_pyNext_items_end (I.ok.hd hc) st hat (ag7 (by omega)) λh' eb=>⟨rfl,I.turned (t':=s.toks) (λb o hb e=>eb b o hb e) f0 f1 f3 f4 f5⟩
 self:=λ_ _ _ _ _ ⟨_,_,st⟩ h=>PySem.W.kcp_self st h
section
variable {X:Cx} {apos cpos pos:Pos} {d:Expr} {td:TE} {elts:List Expr} {kk:Nat}
noncomputable def aak (td:TE):TI:=fun σ H R=>td σ H λx H1=>∃ a kvs,x=.ref a/\Rd H1 a (.dK kvs)/\∀ (o:Obj) (H2:Hp),H2 a=some (.gY o (.dK kvs))->uV H1 H2->(∀ b,b≠a->H2 b=H1 b)->R (Iti a o kvs) H2
theorem Rw (hl:PE X d td) (hbase:attributeBase d "items" X.env (eval d X.env)=eval d X.env:=by rfl) (hline:(apos.endLine == cpos.line)=true:=by rfl) :
   PI X (.Tuple elts kk pos) (.Call (.Attribute d "items" apos) [] [] cpos) (aak td):=by
 intro pins s σ H R I h;refine amG hbase hline (c7 (hl pins s σ H _ I h) λv s1 ⟨x,H1,I1,r1,q1⟩=>?_);obtain ⟨a,kvs,e,hq,q⟩:=q1;subst e;cases r1
 obtain ⟨o,H2,I2,e2,sf,oth⟩:∃ o H2,Inv X pins σ H2 s1/\H2 a=some (.gY o (.dK kvs))/\uV H1 H2/\∀ b,b≠a->H2 b=H1 b:=by
   rcases hq with hq | ⟨o,hq⟩
   . obtain ⟨o,I2⟩:=I1.freeze hq;refine ⟨o,_,I2,au,λb u e=>?_,λb hb=>aB hb⟩;by_cases z:b=a
     . subst z;rw [hq] at e;cases e;exact .inr ⟨kvs,o,rfl,au⟩
     . exact .inl (by rw [aB z]; exact e)
   . exact ⟨o,H1,I1,hq,uV.refl _,λ_ _=>rfl⟩
 obtain ⟨vs,es,ep,rel,ds,dd,hat⟩:=I2.gY e2;have tI:=Gy I2 (.inl ⟨kvs,.inr ⟨o,e2⟩⟩);refine ⟨"dict","dict.items",ah1,amH,PySem.F.type_dict_items,tI.1,tI.2.1,aii rfl (an4 ?_)⟩;refine al9 amH tI.1 PySem.F.entry_dict_items (PySem.F.args_dict_items_1 _) (meets_dict_items (aO X.prog X.w) a ds) ⟨⟨vs,hat.dictOf⟩,?_⟩;have I3:Inv X pins σ H2 { s1 with heap:=s1.heap.push { cls:=.type "dict_items",data:=.fields #[.ref a] } }:=I2.kept (t':=s1.toks) λb o e=>aar _ e
 have hat3:=hat.push { cls:=.type "dict_items",data:=.fields #[.ref a] };refine wpAny_pyIter_items (s:={ s1 with heap:=s1.heap.push { cls:=.type "dict_items",data:=.fields #[.ref a] } }) ⟨_,aaL _ rfl,rfl,rfl⟩ hat3 ?_;refine ⟨_,[_],_,_,H2,rfl,I3.kept (t':=s1.toks) λb o e=>aar _ e,HD a _ o es ep kvs dd,⟨.none,.none,by rw [rel.length]; exact aaL _ rfl⟩,λb hb=>?_,q o H2 e2 sf oth⟩;have e:=abe.mp hb;subst e;exact I3.Bl (aaw _) (I3.hok.fresh (aaw _))
end
theorem MN {a:aaH} {o:Obj} {kvs:List (Key × V)} {g:TG} {tb:TS} {D:Ends} {σ:St} {H:Hp} (Pv:Nat->St->Hp->Prop) (h0:Pv 0 σ H) (hl:∀ i σ H,i<=kvs.length->Pv i σ H->H a=some (.gY o (.dK kvs)))
   (hs:∀ i k x T σ H,kvs[i]?=some (k,x)->Pv i σ H->H T=none->g (.ref T) σ (upd H T (.tup [kV k,x])) fun σ2 H2=>tb { D with nx:=Pv (i+1),ct:=Pv (i+1),bk:=D.nx } σ2 H2) (hd:∀ σ H,Pv kvs.length σ H->D.nx σ H) :
   ∃ W:Nat->Nat->St->Hp->Prop,(∃ m,W 0 m σ H)/\∀ i m σ H,W i m σ H ->
     ((Iti a o kvs).stop i H/\D.nx σ H)\/((Iti a o kvs).go i H/\∃ N:St->Hp->Prop,(∀ σ' H',N σ' H'->∃ m',m'<m/\W (i+1) m' σ' H')/\∀ x H',(Iti a o kvs).Ur i H x H'->g x σ H' fun σ2 H2=>tb { D with nx:=N,ct:=N,bk:=D.nx } σ2 H2):=by
 refine ⟨λi m σ H=>m=kvs.length-i/\i<=kvs.length/\Pv i σ H,⟨kvs.length,by simp,abH _,h0⟩,?_⟩;rintro i m σ H ⟨rfl,hi,p⟩;have q:=hl i σ H hi p;by_cases hlt:i<kvs.length
 . refine .inr ⟨⟨q,hlt⟩,Pv (i+1),fun σ' H' p'=>⟨kvs.length-(i+1),by omega,rfl,hlt,p'⟩,λx H' y=>?_⟩;obtain ⟨T,k,x',fT,rfl,hx,rfl⟩:=y;exact hs i k x' T σ H hx p fT
 . have e:i=kvs.length:=by omega
   subst e;exact .inl ⟨⟨q,aaw _⟩,hd σ H p⟩
noncomputable def aal (d:aaH) (o:Obj) (kvs:List (List Key × V)):It:=⟨λi H=>H d=some (.gY o (.dT kvs))/\i<kvs.length,λi H v H'=>H'=H/\∃ k x b,kvs[i]?=some (k,x)/\v=.ref b/\H b=some (.tup (k.map kV)),λi H=>H d=some (.gY o (.dT kvs))/\i=kvs.length⟩
section
variable {X:Cx} {pins:List (aaH × Obj)} {σ:St} {H:Hp} {s:aav}
theorem Inv.Ws {a:aaH} {kvs:List (List Key × V)} (I:Inv X pins σ H s) (h:H a=some (.dT kvs)):∃ o,Inv X pins σ (upd H a (.gY o (.dT kvs))) s:=by
 obtain ⟨z,d,xs,rel,o,es,ep,e,r⟩:=(show bT X.prog X.w H s.heap a (.dT kvs) from I.hok a _ h);refine ⟨o,I.write (t':=s.toks) (h':=s.heap) (e:=a) (by rw [h]; exact aeR) (.inl rfl) (λb u _ q=>q) ⟨o,e⟩ ⟨e,z,d,xs,?_,o,es,ep,e,r⟩⟩
 exact KT.keeps rel λb ys q=>by
   have n:b≠a:=λz=>by subst z; rw [h] at q; cases q
   rw [aB n]; exact q
theorem Inv.aam {a:aaH} {o:Obj} {kvs:List (List Key × V)} (I:Inv X pins σ H s) (h:H a=some (.gY o (.dT kvs))):∃ xs es ep,KT H kvs xs/\(a == sysModules)=false/\o.data=.dict es ep/\zf s.heap a es ep/\es.toList=xs.map (entryOfKey (tupleKind (aO X.prog X.w))):=by
 obtain ⟨e,z,d,xs,rel,o',es,ep,e',ex,dd,el,_⟩:=(show bT X.prog X.w H s.heap a (.gY o (.dT kvs)) from I.hok a _ h);rw [e] at e';cases e';exact ⟨xs,es,ep,rel,d,dd,⟨o,e,ex,dd⟩,el⟩
end
theorem HF {P:abt} {w:acU} {K:aaf} {tg:Expr} (d it:aaH) (o:Obj) (es:Array ah3) (ep:Nat) (kvs:List (List Key × V)) (hd:o.data=.dict es ep) :
   Turn P w K tg (aal d o kvs) [it] it (λi h=>h.IsKeyIter it d i kvs.length ep) where
 mem:=by simp
 obj:=λi h st b hb=>by
   have e:b=it:=by simpa using hb
   subst e;obtain ⟨o,e,c,dd⟩:=st;exact ⟨o,e,λv z=>by rw [dd] at z; cases z⟩
 keep:=λi h h' st k=>st.at λo e=>k it (by simp) o e
 item:=by
   intro X hP hw hK hc i pins s σ H E I hf st hg;subst hP hw hK;obtain ⟨f0,f1,f2,f3,f4,f5⟩:=hf it (by simp);obtain ⟨hd',lt⟩:=hg;obtain ⟨xs,es',ep',rel,_,dd,hat,el⟩:=I.aam hd';rw [hd] at dd;cases dd;have lv:=rel.length;have le:es.size=kvs.length:=by rw [<- abC,el,aac,lv]
   have lx:i<xs.length:=by omega
   obtain ⟨⟨k,x⟩,hy,e1,e2,_⟩:=fu rel (aaj lx);rw [<- le] at st;refine JF st hat (by omega) λh' hit' hs'=>?_
   have I1:Inv X pins σ H { s with heap:=h',toks:=s.toks }:=I.turned (λb o hb e=>hs'.extBut b o hb e) f0 f1 f3 f4 f5;rw [le] at hit';obtain ⟨oi,ei,ci,di⟩:=id hit'
   have ek:(es[i]'(by omega)).key=.ref xs[i].2.1:=by
     have z:es.toList[i]?=some (es[i]'(by omega)):=by rw [af4]; exact ajd _
     rw [el,aaJ,aaj lx] at z;rw [<- abx z];rfl
   exact ⟨_,rfl,uJ (s:={ s with heap:=h' }) (n:="dict_keyiterator") ei ci di (by decide) ⟨.ref xs[i].2.1,H,I1,ek,⟨rfl,k,x,_,hy,rfl,e2⟩,hit',λb hb=>(hf b hb).1⟩⟩
 done:=by
   intro X hP hw hK hc i pins s σ H E I hf st hg;subst hP hw hK;obtain ⟨f0,f1,f2,f3,f4,f5⟩:=hf it (by simp);obtain ⟨hd',le'⟩:=hg;obtain ⟨xs,es',ep',rel,_,dd,hat,el⟩:=I.aam hd';rw [hd] at dd;cases dd;have lv:=rel.length;have le:es.size=kvs.length:=by rw [<- abC,el,aac,lv]
   rw [le',<- le] at st;exact Qa (I.ok.hd hc) st hat λh' eb=>⟨rfl,I.turned (t':=s.toks) (λb o hb e=>eb b o hb e) f0 f1 f3 f4 f5⟩
 self:=λ_ _ _ _ _ st h=>akV st h
section
variable {X:Cx} {tg l:Expr} {tl:TE}
noncomputable def aan (tl:TE):TI:=fun σ H R=>tl σ H λx H1=>∃ a kvs,x=.ref a/\H1 a=some (.dT kvs)/\∀ (o:Obj),R (aal a o kvs) (upd H1 a (.gY o (.dT kvs)))
theorem En (hl:PE X l tl):PI X tg l (aan tl):=by
 intro pins s σ H R I h;refine c7 (hl pins s σ H _ I h) λv s1 ⟨x,H1,I1,r1,q1⟩=>?_
 obtain ⟨a,kvs,e,hq,q⟩:=q1;subst e;cases r1;obtain ⟨o,I2⟩:=I1.Ws hq;obtain ⟨xs,es,ep,rel,ds,dd,hat,el⟩:=I2.aam au;have le:es.size=kvs.length:=by rw [<- abC,el,aac,rel.length]
 refine JD ds hat ?_;refine ⟨s1.heap.objs.size,[s1.heap.objs.size],_,_,_,rfl,I2.kept (t':=s1.toks) λb o e=>aar _ e,HF a _ o es ep kvs dd,⟨_,aaL _ rfl,rfl,by rw [<- le]; rfl⟩,λb hb=>?_,q o⟩;have e:=abe.mp hb;subst e;exact I2.Bl (aaw _) (I2.hok.fresh (aaw _))
variable {H1:Hp} {D:aaH} {σ0:St} {g:BI->TG} {tt:BI->TT} {te:BI->TE} {End:Hp->Prop}
theorem xW {a:aaH} {o:Obj} {kvs:List (List Key × V)} (Pv:Nat->Hp->Prop) (h0:Pv 0 (upd H1 D (.lst []))) (hl:∀ i H,i<=kvs.length->Pv i H->H a=some (.gY o (.dT kvs))) (stop:∀ H,Pv kvs.length H->End H)
   (turn:∀ i k x b' H,kvs[i]?=some (k,x)->H b'=some (.tup (k.map kV))->i<kvs.length->Pv i H->∀ b,g b (.ref b') σ0 H fun σ2 H2=>tt b σ2 H2 λc H3=>if c=true then jT D (te b) σ2 H3 (Nx kvs.length i Pv) else Nx kvs.length i Pv H3) :
   ∃ W:Nat->Nat->Hp->Prop,(∃ m,W 0 m (upd H1 D (.lst [])))/\∀ b,jL (aal a o kvs) (g b) (tt b) (jT D (te b)) σ0 End W :=
 pH kvs.length Pv h0 (λH p=>⟨⟨hl _ H (aaw _) p,rfl⟩,stop H p⟩) λi H hi p =>
   ⟨⟨hl i H (af3 hi) p,hi⟩,λx H' ⟨e,k,y,b',hy,ex,eb⟩ b=>by subst e ex; exact turn i k y b' _ hy eb hi p b⟩
end
end L2
namespace L2
open PySem PySem.Spec PyProof.Rows PySem.W
section
variable {prog:abt} {w:acU} {A:acX} {E:aat->aav->Prop} {s:aav}
theorem xX {x:aat} {ns:List Int} {Q:aat->aav->Prop} (h64:ns.length<64)
   (col:∀ (R:List aat->aav->Prop),(∀ (h':afp) (tk:Nat) (vs:List aat),(∀ b o,s.heap.get? b=some o->h'.get? b=some o)->ajV vs ns->vs.length=ns.length->R vs { s with heap:=h',toks:=tk })->wpAny (model prog w) A.in1 (collect x) R E s)
   (h:∀ (h1 h':afp) (tk:Nat) (out:List aat) (ns':List Int) (n:Nat),(∀ b o,s.heap.get? b=some o->h1.get? b=some o)->(∀ b o,h1.get? b=some o->h'.get? b=some o)->h'.get? h1.objs.size=some (seqObj "list" out.toArray n)->ajV out ns'->ns'.Perm ns->ns'.Pairwise (·<=·)->Q (.ref h1.objs.size) { s with heap:=h',toks:=tk }) :
   wpAny (model prog w) A (call (.builtin "sorted") [x]) Q E s:=by
 refine ahk apc aoW aoX (aoY _) ?_;unfold afD.«sorted»;refine El (m:=checkCount "sorted" 1 1 _) (aau ?_);refine El (col _ λh' tk vs kk hS hl=>?_);have jH:sizeLine=16777216:=aby;refine El (amD ?_ (by omega));have g0:(h'.push (seqObj "list" vs.toArray 0)).get? h'.objs.size=some (seqObj "list" vs.toArray 0):=aaL _ rfl
 refine El (ac6 (aea anO (s:={ s with heap:=h'.push (seqObj "list" vs.toArray 0),toks:=tk }) ⟨_,g0,rfl⟩ anj
   (list_sort_tree (s:={ s with heap:=h'.push (seqObj "list" vs.toArray 0),toks:=tk }) g0 hS (by omega) λout ns' q1 q2 q3=>⟨_,rfl,?_⟩) (anP _)))
 obtain ⟨n,hn⟩:=aol (vs:=vs) (out:=out) g0;refine aau ⟨_,rfl,h h' _ tk out.toList ns' n kk (λb o e1=>?_) (by rw [akS]; exact hn) q1 q2 q3⟩;have lt:b<h'.objs.size:=abh e1;show (sortedHeap (h'.push (seqObj "list" vs.toArray 0)) h'.objs.size vs _).get? b=some o;rw [anQ (abB lt) (by rw [afy]; exact afV lt)];exact aar _ e1
end
section
variable {X:Cx}
theorem J5:∀ {ns:List Int} {us:List aat},ajV us ns->Vals (ns.map V.int) us:=by
 intro ns us h
 induction h with
 | nil=>exact .nil
 | cons x t _ ih=>exact .cons ⟨t,rfl⟩ ih
theorem Cr:∀ {ns:List Int} {us:List aat},us.length=ns.length->(∀ (i:Nat) (v:aat),us[i]?=some v->∃ x t,ns[i]?=some x/\v=.int x t)->ajV us ns
 | [],[],_,_=>.nil
 | x :: ns,u :: us,hl,h=>by
   obtain ⟨y,t,e,rfl⟩:=h 0 u rfl;cases (show some x=some y from e);exact .cons x t (Cr (by simpa using hl) λi v e=>h (i+1) v (by simpa using e))
 | [],_ :: _,hl,_=>by simp at hl
 | _ :: _,[],hl,_=>by simp at hl
theorem zp (hc:X.calm=true):dU X (.builtin "sorted") (λxs H Q=>∃ (p:aaH) (kvs:List (Key × V)) (ns:List Int),xs=[.ref p]/\H p=some (.dK kvs)/\kvs.map (·.1)=ns.map (λi=>(afv (some i):Key))/\ns.length<64/\∀ (l:aaH) (ns':List Int),H l=none->ns'.Perm ns->ns'.Pairwise (·<=·)->Q (.ref l) (upd H l (.lst (ns'.map V.int)))):=by
 intro pins s σ H xs us Q I r h;obtain ⟨p,kvs,ns,rfl,hp,hk,h64,q⟩:=h;obtain ⟨u,rfl,ru⟩:=vals1 r;cases ru;obtain ⟨z,d,vs,rel,dd⟩:=wH I.hok hp;have hl:kvs.length=ns.length:=by have:=congrArg afN hk; simpa using this
 have hvl:vs.length=ns.length:=by rw [<- rel.length]; exact hl
 have jH:sizeLine=16777216:=aby;obtain ⟨ep,hat⟩:=dd.dictAt;refine xX h64 (λR hR=>ajm (A:=X.A.in1) (PySem.W.kdl_dict (knd:=aO X.prog X.w) (kvs:=vs) (ep:=ep) d) (by simpa using I.ok.hd hc) hat (by omega) λh' tk acc kk hacc=>?_) λh1 h' tk out ns' n k1 k2 ho hS hp2 hs=>?_
 . have al:acc.toList.length=ns.length:=by rw [abC]; exact hacc.1.trans hvl
   refine hR h' tk acc.toList kk (Cr al λi v e=>?_) al;obtain ⟨k,x,ek,hk'⟩:=hacc.2 i v (by simpa using e)
   have ek2:(kvs.map (·.1))[i]?=some k:=by
     rw [rel.keys,aaJ,ek]; rfl
   rw [hk,aaJ] at ek2;cases es:ns[i]? with
   | none=>rw [es] at ek2; cases ek2
   | some y =>
     rw [es] at ek2;cases (show some (afv (some y):Key)=some k from ek2);rcases bZ (show jq (afv (some y)) v=true from hk') with ⟨j,t,e1,e2⟩ | ⟨x',t,e1,e2⟩ | ⟨e1,e2⟩
     . cases e1;exact ⟨y,t,rfl,e2⟩
     . cases e1
     . cases e1
 . have I1:Inv X pins σ H { s with heap:=h1,toks:=tk }:=I.kept k1;have hl':ns'.length=ns.length:=hp2.length_eq;exact ⟨.ref h1.objs.size,_,I1.laid (t':=tk) (o:=.lst (ns'.map V.int)) k2 (aaw _) ⟨by rw [aac]; omega,out,n,J5 hS,ho⟩,rfl,q _ _ (I1.hok.fresh (aaw _)) hp2 hs⟩
end
section
variable {prog:abt} {w:acU} {A:acX} {E:aat->aav->Prop} {s:aav}
end
theorem pK:Slot "set_iterator" "__next__" "set_iterator.__next__":=.of (owner:="set_iterator") (n:="__next__") (by rw [ajZ,aha]; kernel_rfl) (by decide +kernel) (by decide +kernel) (by decide +kernel) (by first | exact .inl (by decide +kernel) | exact .inr (by decide +kernel)) (by rw [akG]; kernel_rfl)
theorem J6:Slot "set_iterator" "__iter__" "set_iterator.__iter__":=.of (owner:="set_iterator") (n:="__iter__") (by rw [ajZ,aha]; kernel_rfl) (by decide +kernel) (by decide +kernel) (by decide +kernel) (by first | exact .inl (by decide +kernel) | exact .inr (by decide +kernel)) (by rw [akG]; kernel_rfl)
theorem Ah:entryFor table "set_iterator.__next__" = some afD.«set_iterator.__next__»:=amN (by kernel_rfl)
theorem MP:entryFor table "set_iterator.__iter__" = some afD.«dict_keyiterator.__iter__»:=entryFor_alias (id':="dict_keyiterator.__iter__") (by kernel_rfl) rfl (by decide +kernel) (by kernel_rfl)
theorem HJ:entryFor table "set.__iter__" = some afD.«frozenset.__iter__»:=entryFor_alias (id':="frozenset.__iter__") (by kernel_rfl) rfl (by decide +kernel) (by kernel_rfl)
theorem Eo:Manifest.owners.lookup (String.ofList ['r','o','t','a','r','e','t','i','_','t','e','s'].reverse)=some Manifest.sig_set_iterator:=by kernel_rfl
theorem Ai (a:aat):argsOk "set_iterator.__next__" ⟨[a],[]⟩:=by unfold argsOk; rw [signature?_of (id:="set_iterator.__next__") (n:=['_','_','t','x','e','n','_','_']) (o:=['r','o','t','a','r','e','t','i','_','t','e','s']) (by kernel_rfl) Eo]; kernel_rfl
theorem M4 (a:aat):argsOk "set_iterator.__iter__" ⟨[a],[]⟩:=by unfold argsOk; rw [signature?_of (id:="set_iterator.__iter__") (n:=['_','_','r','e','t','i','_','_']) (o:=['r','o','t','a','r','e','t','i','_','t','e','s']) (by kernel_rfl) Eo]; kernel_rfl
section
variable {prog:abt} {w:acU} {A:acX} {E:aat->aav->Prop} {s:aav} {a it:aaH} {p:Nat->Bool} {ep:Nat}
end
theorem xY {α:Type}:∀ (l:List α) (i:Nat) (h:i<l.length),(l[i] :: l.eraseIdx i).Perm l
 | x :: l,0,_=>.refl _
 | x :: l,i+1,h=>by
   have h':i<l.length:=by simpa using h
   simp only [List.getElem_cons_succ,List.eraseIdx_cons_succ];exact (List.Perm.swap _ _ _).trans ((xY l i h').cons x)
theorem J7 {α:Type} (f:Nat->Nat):∀ (n k:Nat) (l:List α) (out:Array α),l.length=n->(ao1 f n k l out).toList.Perm (out.toList++l)
 | 0,k,l,out,h=>by
   have e:l=[]:=aeu h;subst e;simp [ao1]
 | n+1,k,l,out,h=>by
   have lt:f k % l.length<l.length:=Nat.mod_lt _ (by omega);unfold ao1;rw [aaj lt];dsimp only;refine (J7 f n (k+1) (l.eraseIdx (f k % l.length)) _ (by rw [List.length_eraseIdx_of_lt lt]; omega)).trans ?_;rw [Array.toList_push,adz];exact List.Perm.append_left _ (xY l _ lt)
theorem M5:typeLookup (.type "set") "__len__" = pure (some (.builtin "set.__len__")):=by rw [ajZ,aha]; kernel_rfl
section
variable {prog:abt} {w:acU} {A:acX} {E:aat->aav->Prop} {s:aav} {r:aaH} {Q:Bool->aav->Prop}
theorem Rx (hT:s.TypeIs (.ref r) "set") (q:Q false s):wpAny (model prog w) A (alS (.ref r)) Q E s:=by
 unfold alS;refine El (ajB hT M5 ?_);generalize hid:("set.__len__" : String)=idS
 wp_delta
 rw [show splitId idS=some ("set","__len__") from by subst hid; decide +kernel];subst hid;refine El (ag5 (T:="set") (b:=true) hT (by rw [akG]; kernel_rfl) ?_);refine wpAny_ite_split (λz=>absurd z (by decide)) (λ_=>?_);refine wpAny_ite_split (λ_=>?_) (λz=>absurd (by decide +kernel) z);exact El (ajA hT (aau q))
end
theorem M6 {l m:List Int} (h:l.Perm m) (hl:l.Pairwise (·<=·)) (hm:m.Pairwise (·<=·)):l=m:=h.eq_of_pairwise (λ_ _ _ _ h1 h2=>Int.le_antisymm h1 h2) hl hm
section
variable {X:Cx}
end
end L2
namespace HT
open PySem PySem.Spec PyProof.Rows
noncomputable def lexLe:List Int->List Int->Bool
 | [],[]=>true
 | [],_ :: _=>true
 | _ :: _,[]=>false
 | x :: xs,y :: ys=>if x=y then lexLe xs ys else decide (x<=y)
theorem HW (x y:Int) (xs ys:List Int):lexLe (x :: xs) (y :: ys)=if x=y then lexLe xs ys else decide (x<=y):=rfl
theorem zq:lexLe [] []=true:=rfl
theorem xZ (y:Int) (ys:List Int):lexLe [] (y :: ys)=true:=rfl
theorem yc (x:Int) (xs:List Int):lexLe (x :: xs) []=false:=rfl
theorem Ry (A:acX) (s:aav) (a:Int) (t:Tok) (c:Int) (u:Tok) (prog:abt) (w:acU) (E:aat->aav->Prop) (Q:aat->aav->Prop) (h:Q (.bool (decide (a<=c))) s) :
   wpAny (model prog w) A (richCompare .LtE (.int a t) (.int c u)) Q E s :=
 (PyProof.Rows.le_int h:wpAny (model prog w) A (compareOp .LtE (.int a t) (.int c u)) Q E s)
section
open PySem.SeqAt
open PySem.AutoSeq1 (wpAny_loadPart')
open PySem.MeetsSeq PySem.MeetsSeq2 PySem.MeetsSeq3
theorem zu (l b:aaH) (items items2:Array aat) (n n2:Nat) (dd dd2:Option aaH) (sl sl2:Array (Option aat)) (ns ms:List Int) (hi:ajV items.toList ns) (hj:ajV items2.toList ms) :
   Meets (afD.«tuple.__le__» ⟨[.ref l,.ref b],[]⟩)
     (λ_ R s=>s.heap.get? l=some { cls:=.type "tuple",dict:=dd,data:=.seq items n,slots:=sl }/\s.heap.get? b=some { cls:=.type "tuple",dict:=dd2,data:=.seq items2 n2,slots:=sl2 } /\
       R (.ok (.ret (.bool (lexLe ns ms)))) s) :=
 .of_wp λprog w A R s h=>by
   obtain ⟨hp,g,d,tk,os⟩:=s; obtain ⟨hl,hb,h⟩:=h;have f2:=AutoSeq1.sub_tuple_tuple;have z1:items.size=ns.length:=by rw [<- hi.length]; simp
   have z2:items2.size=ms.length:=by rw [<- hj.length]; simp
   wp_walk using wpAny_loadPart' hl,wpAny_loadPart' hb,wpAny_forIn_list _ (λrest b s'=>b.1=none/\s'=⟨hp,g,d,tk,os⟩/\∃ (vs ws:List aat) (ns' ms':List Int),rest=vs.zip ws /\
     ajV vs ns'/\ajV ws ms'/\ns'.length+items2.size=ms'.length+items.size/\R (.ok (.ret (.bool (lexLe ns' ms')))) ⟨hp,g,d,tk,os⟩) _
   case turn =>
     rintro ⟨y,x⟩ rest b s' ⟨hb',rfl,vs,ws,ns',ms',hz,hvi,hwi,hlen,hR⟩;cases hvi with
     | nil=>rw [List.zip_nil_left] at hz; cases hz
     | cons a t ah8 =>
       cases hwi with
       | nil=>rw [List.zip_nil_right] at hz; cases hz
       | cons c u ah9 =>
         rw [aop] at hz;injection hz with hyx hrest
         injection hyx with hy hx
         subst hy hx;rw [HW] at hR;simp only [abD] at hlen;obtain ⟨e,he,hiff⟩:=O9 A.in1 ⟨hp,g,d,tk,os⟩ a t c u;refine El (he prog w _ _ ?_);cases e with
         | true =>
           rw [if_pos (hiff.mp rfl)] at hR
           wp_walk
           exact ⟨rfl,rfl,_,_,_,_,hrest,ah8,ah9,by omega,hR⟩
         | false =>
           rw [if_neg (λq=>absurd (hiff.mpr q) aaK)] at hR;have hri:=Ry A.in1 ⟨hp,g,d,tk,os⟩ a t c u prog w
           wp_walk using hri
           exact ⟨_,rfl,by simpa using hR⟩
   case fin =>
     rintro ⟨b1,b2⟩ s' ⟨hb',rfl,vs,ws,ns',ms',hz,hvi,hwi,hlen,hR⟩;simp only at hb';subst hb'
     have hv:lexLe ns' ms'=decide (items.size<=items2.size):=by
       cases hvi with
       | nil =>
         cases hwi with
         | nil =>
           simp only [adw] at hlen;rw [zq];exact (decide_eq_true (by omega)).symm
         | cons c u hw =>
           simp only [adw,abD] at hlen;rw [xZ];exact (decide_eq_true (by omega)).symm
       | cons a t hv =>
         cases hwi with
         | nil =>
           simp only [adw,abD] at hlen;rw [yc];exact (decide_eq_false (by omega)).symm
         | cons c u hw =>
           rw [aop] at hz;cases hz
     rw [hv] at hR
     wp_walk
     exact ⟨_,rfl,by simpa [Builtin.Tuple.tupleCompareSizes] using hR⟩
   case h =>
     exact ⟨rfl,rfl,items.toList,items2.toList,ns,ms,rfl,hi,hj,by omega,h⟩
end
section
variable {prog:abt} {w:acU} {A:acX} {E:aat->aav->Prop} {s:aav}
theorem HX {l b:aaH} {items items2:Array aat} {ns ms:List Int} {Q:aat->aav->Prop} (hl:ao2 s.heap l items) (hb:ao2 s.heap b items2) (hi:ajV items.toList ns) (hj:ajV items2.toList ms)
   (hu:A.units<cLine) (h:Q (.bool (lexLe ns ms)) s):wpAny (model prog w) A (compareOp .LtE (.ref l) (.ref b)) Q E s:=by
 obtain ⟨⟨cls,dd,data,sl⟩,ho,hc,n,hd⟩:=id hl;obtain ⟨⟨cls2,dd2,data2,sl2⟩,ho2,hc2,n2,hd2⟩:=id hb;simp only at hc hd hc2 hd2;subst hc hd hc2 hd2
 exact richCompare_meets_room (op:=.LtE) ⟨_,ho,rfl⟩ ⟨_,ho2,rfl⟩ PySem.F.slot_tuple_le PySem.F.entry_tuple_le (PySem.F.args_tuple_le_2 _ _) (zu l b items items2 n n2 dd dd2 sl sl2 ns ms hi hj)
   ⟨ho,ho2,show ah7 (lexLe ns ms)≠Value.notImplemented/\Q (.bool (lexLe ns ms)) s from ⟨(λx=>nomatch x),h⟩⟩ hu
end
section
open PySem.SeqAt
open PySem.AutoSeq1 (wpAny_loadPart')
open PySem.MeetsSeq PySem.MeetsSeq2 PySem.MeetsSeq3
end
section
variable {prog:abt} {w:acU} {A:acX} {E:aat->aav->Prop} {s:aav}
end
end HT
namespace L2
open PySem PySem.Spec PyProof.Rows
section
variable {X:Cx}
noncomputable def aia (K:aaf):R2:=λx y H Q=>∃ a b ns ms,x=.ref a/\y=.ref b/\bQ K H a (ns.map V.int)/\bQ K H b (ms.map V.int)/\Q (.bl (HT.lexLe ns ms)) H
theorem aao (hu:X.A.units<cLine):gC X (compareOp .LtE) (aia X.K):=by
 intro pins s σ H x y v u Q I rx ry h;obtain ⟨a,b,ns,ms,rfl,rfl,ha,hb,q⟩:=h;cases rx;cases ry;obtain ⟨its,r1,p1,_⟩:=I.tuple ha;obtain ⟨its2,r2,p2,_⟩:=I.tuple hb;exact HT.HX p1 p2 (intsAre_of r1) (intsAre_of r2) hu ⟨.bl (HT.lexLe ns ms),H,I,rfl,q⟩
end
section
variable {prog:abt} {w:acU} {A:acX} {E:aat->aav->Prop} {s:aav}
end
section
variable {X:Cx}
noncomputable def aib (K:aaf) (b:Bool):R2:=λx y H Q=>∃ (d:ajb) (es:List ajb),Dp K H x d/\Dp K H y (.list es)/\d.canLay0=true/\d.depth<=60/\adA es=true/\Q (.bl (xor b (es.any λe=>ahH e d))) H
theorem Rz (hu:X.A.units+64<cLine):gC X (compareOp .In) (aib X.K false):=by
 intro pins s σ H x y v u Q I rx ry h;obtain ⟨d,es,hd,he,cd,dd,ce,q⟩:=h;obtain ⟨as,ra⟩:=hd.reads I rx;obtain ⟨bs,rb⟩:=he.reads I ry;rw [Bool.false_xor] at q;exact SeqAt.in_list_reads rb ra ce cd (by have:=Nat.min_le_right (afr es) d.depth; omega) ⟨.bl _,H,I,rfl,q⟩
end
noncomputable def aap (td ty tx:TE):TE:=fun σ H Q=>td σ H λx H1=>∃ a,x=.ref a/\IsD H1 a/\ty σ H1 λy H2=>tx σ H2 λz H3=>∃ kvs k,H3 a=some (.dK kvs)/\y=kV k/\kvs.length<sizeLine /\
 (∀ v,cL kvs k=some v->Q v H3)/\(cL kvs k=none->Q z (upd H3 a (.dK (putK kvs k z))))
section
variable {X:Cx} {o e f:Expr} {apos cpos:Pos} {td ty tx:TE}
theorem RB (ho:PE X o td) (he:PE X e ty) (hf:PE X f tx) (m:M2 X o "setdefault" apos e f cpos):PE X (.Call (.Attribute o "setdefault" apos) [e,f] [] cpos) (aap td ty tx):=by
 intro pins s σ H Q I h;refine wpAny_Call_method m.base m.few m.line ah1 alH PySem.F.type_dict_setdefault (c7 (ho pins s σ H _ I h) λu s1 ⟨x,H1,I1,rx,a,ex,d,q1⟩=>?_);subst ex;obtain rfl:u=abA a:=rx;obtain ⟨t1,t2,_⟩:=Gy I1 d;refine ⟨t1,t2,?_⟩;rw [m.trees]
 refine aii rfl (akR (al7 (c7 (he pins s1 σ H1 _ I1 q1) λiv s2 ⟨y,H2,I2,ry,q2⟩ =>
   al7 (c7 (hf pins s2 σ H2 _ I2 q2) λfv s3 ⟨z,H3,I3,rz,kvs,k,ea,ey,hl,c1,c2⟩=>aoC ?_))))
 subst ey;obtain ⟨zl,hd,vs,rel,dd⟩:=wH I3.hok ea
 refine al9 alH dd.typeIs PySem.F.entry_dict_setdefault (PySem.F.args_dict_setdefault_3 _ _ _) (kt_meets_setdefault (aO X.prog X.w) a (zQ ry) hd fv)
   ⟨vs,dd,by rw [<- rel.length]; exact zl,λv hv=>?_,λhn h' Uu hs=>?_⟩
 . have r:=rel.val k;rw [hv] at r;cases e1:cL kvs k with
   | none=>rw [e1] at r; exact aek r
   | some v' =>
     rw [e1] at r;exact ⟨v',H3,I3.tok _,r,c1 v' e1⟩
 . have e1:cL kvs k=none:=by
     have r:=rel.val k;rw [hn] at r;cases e1:cL kvs k with
     | none=>rfl
     | some v'=>rw [e1] at r; exact aek r
   have hq:∃ q,h'.get? a=some q:=let ⟨q,_,_,hq,_⟩:=Uu; ⟨q,hq⟩
   have lp:=gD kvs k z;exact ⟨z,_,vC I3 (by rw [ea]; exact aeR) hs hq (Bs (by omega) hd (rel.put k rz) Uu),rz,c2 e1⟩
noncomputable def J8 (v a:aaH):HO:=.ext λh=>h.IsValuesView v a
noncomputable def adk (td:TE):TE:=fun σ H Q=>td σ H λx H1=>∃ a kvs,x=.ref a/\Rd H1 a (.dK kvs)/\∀ v,H1 v=none->Q (.ref v) (upd H1 v (J8 v a))
theorem J9 (ho:PE X o td) (hbase:attributeBase o "values" X.env (eval o X.env)=eval o X.env:=by rfl) (hline:(apos.endLine == cpos.line)=true:=by rfl):PE X (.Call (.Attribute o "values" apos) [] [] cpos) (adk td):=by
 intro pins s σ H Q I h;refine amG hbase hline (c7 (ho pins s σ H _ I h) λv s1 ⟨x,H1,I1,r1,q1⟩=>?_);obtain ⟨a,kvs,e,hq,q⟩:=q1;subst e;cases r1;obtain ⟨zl,ds,vs,rel,dd⟩:=rW I1.hok hq;have tI:=Gy I1 (.inl ⟨kvs,hq⟩);refine ⟨"dict","dict.values",ah1,amy,PySem.F.type_dict_values,tI.1,tI.2.1,aii rfl (an4 ?_)⟩;refine al9 amy tI.1 PySem.F.entry_dict_values (PySem.F.args_dict_values_1 _) (meets_dict_values (aO X.prog X.w) a ds) ⟨⟨vs,dd⟩,?_⟩;refine ⟨.ref s1.heap.objs.size,_,I1.laid (t':=s1.toks) (o:=J8 s1.heap.objs.size a) (λb o e=>aar _ e) (aaw _) ⟨⟨_,aaL _ rfl,rfl,rfl⟩,⟨_,aaL _ rfl⟩,λh1 h2 z k=>?_⟩,rfl,q _ (I1.hok.fresh (aaw _))⟩;obtain ⟨o,e,r⟩:=z;exact ⟨o,k o e,r⟩
theorem yd (hc:X.calm=true):dU X (.type "list") (λxs H Q=>∃ v a kvs,xs=[.ref v]/\H v=some (J8 v a)/\Rd H a (.dK kvs)/\∀ p,H p=none->Q (.ref p) (upd H p (.lst (kvs.map (·.2))))):=by
 intro pins s σ H xs us Q I r h;obtain ⟨v,a,kvs,rfl,hv,ha,q⟩:=h;obtain ⟨u,rfl,ru⟩:=vals1 r;cases ru;obtain ⟨zl,ds,vs,rel,dd⟩:=rW I.hok ha;obtain ⟨ep,hat⟩:=dd.dictAt;obtain ⟨vw,_⟩:=(show bT X.prog X.w H s.heap v (J8 v a) from I.hok v _ hv);have lv:=rel.length;refine PySem.W.kdl_call (PySem.W.kdl_values (knd:=aO X.prog X.w) (r:=v) (d:=a) (kvs:=vs) (ep:=ep)) (I.ok.hd hc) ⟨vw,hat⟩ (by rw [<- lv]; exact zl) λh' tk acc c kk hl hacc=>?_
 have hvl:Vals (kvs.map (·.2)) acc.toList:=by
   have al:acc.toList.length=kvs.length:=by rw [abC,lv]; exact hacc.1
   have key:∀ (kvs:List (Key × V)) (vs:List (Key × aat)) (us:List aat),KV kvs vs->us.length=kvs.length->(∀ (i:Nat) (u:aat),us[i]?=some u->∃ k,vs[i]?=some (k,u))->Vals (kvs.map (·.2)) us:=by
     intro kvs vs us hk;unfold KV at hk
     induction hk generalizing us with
     | nil=>intro l _; rw [aeu l]; exact .nil
     | @cons p q ps qs h t ih =>
       intro l hu;cases us with
       | nil=>simp at l
       | cons u us =>
         obtain ⟨k,e⟩:=hu 0 u rfl;have e':q=(k,u):=abx e;refine .cons (by have:=h.2; rw [e'] at this; exact this) (ih us (by simpa using l) λi u' hi=>hu (i+1) u' (by simpa using hi))
   exact key kvs vs acc.toList rel al λi u hi=>hacc.2 i u (by simpa using hi)
 refine ⟨.ref s.heap.objs.size,_,I.laid (t':=tk) (o:=.lst (kvs.map (·.2))) kk (aaw _) ⟨by rw [aac]; exact zl,acc.toList,c,hvl,by rw [akS]; exact hl⟩,rfl,q _ (I.hok.fresh (aaw _))⟩
end
noncomputable def adl (P:abt) (w:acU) (H:Hp) (h:afp) (d:aaH) (kvs:List (List Key × V)):Prop:=∃ xs:List (List Key × aaH × aat),KT H kvs xs /\
 ∃ o es ep,h.get? d=some o/\o.ExactDict/\o.data=.dict es ep/\es.toList=xs.map (entryOfKey (tupleKind (aO P w)))/\(xs.map (·.1)).Nodup
section
variable {prog:abt} {w:acU} {A:acX} {E:aat->aav->Prop}
theorem adn {H:Hp} {h:afp} (ok:∀ b ks,H b=some (.tup (ks.map kV))->(tupleKind (aO prog w)).is h ks b):∀ {l:List (List Key × V)} {m:List (List Key × aaH × aat)},KT H l m->∀ x∈m,(tupleKind (aO prog w)).is h x.1 x.2.1:=by
 intro l m q
 induction q with
 | nil=>intro x hx; exact nomatch hx
 | @cons p q ps qs hq t ih =>
   intro x hx;rcases abu.mp hx with e | hx
   . subst e;exact ok _ _ (by rw [<- hq.1]; exact hq.2.1)
   . exact ih x hx
theorem aaq {R:aod->aav->Prop} {d it l:aaH} {items:Array aat} {H:Hp} {kvs:List (List Key × V)} (hu:(tupleKind (aO prog w)).room A.in1) (hh:A.in1.handled=none) (n1:d≠it) (n2:d≠l) (n3:it≠l) (hb:kvs.length<=sizeLine) (hn:items.size=kvs.length) (nd:(kvs.map (·.1)).Nodup) (fr:∀ b u,H b=some u->b≠d/\b≠it) :
   ∀ (k i:Nat) (s:aav),kvs.length-i=k->i<=kvs.length->adl prog w H s.heap d (kvs.take i)->s.heap.IsListIter it l i->s.heap.IsList l items->(∀ b ks,H b=some (.tup (ks.map kV))->(tupleKind (aO prog w)).is s.heap ks b) ->
   (∀ (j:Nat) (kv:List Key × V),kvs[j]?=some kv->∃ T b u,items[j]?=some (.ref T)/\ao2 s.heap T #[.ref b,u]/\H b=some (.tup (kv.1.map kV))/\RelV kv.2 u/\T≠d/\T≠it) ->
   (∀ (h':afp) (tk:Nat),adl prog w H h' d kvs->(∀ b o,b≠d->b≠it->s.heap.get? b=some o->h'.get? b=some o)->R (.ok (.ret .none)) { s with heap:=h',toks:=tk }) ->
   codeAny (model prog w) A (.builtin "dict.update.loop" ⟨[.ref d,.ref it,rawInt i,.none],[]⟩) R s:=by
 intro k
 induction k with
 | zero =>
   intro i s hk hi hd hit hl ok ht hR;have hin:i=kvs.length:=by omega
   refine aev oE ?_;rw [adU gW _];show wpAny _ A.in1 (pyNext (.ref it) >>= _) _ _ s;refine El (am9 hh hit hl (akl (by omega)) λh' eb=>?_);show wpAny _ A.in1 (amx d [] >>= λ_=>ret acS) _ _ _;refine El (aau (aau (hR h' s.toks ?_ λb o _ b2 e=>eb b o b2 e)));rw [hin,acL] at hd;obtain ⟨xs,kt,o,es,ep,ho,r⟩:=hd;exact ⟨xs,kt,o,es,ep,eb _ _ n1 ho,r⟩
 | succ k ih =>
   intro i s hk hi hd hit hl ok ht hR;have hlt:i<kvs.length:=by omega
   obtain ⟨kv,hkv⟩:∃ kv,kvs[i]?=some kv:=⟨kvs[i],aaj hlt⟩;obtain ⟨T,kb,u,hx,hT,hkb,ru,t1,t2⟩:=ht i kv hkv;refine aev oE ?_;rw [adU gW _];show wpAny _ A.in1 (pyNext (.ref it) >>= _) _ _ s;refine El (amQ hit hl hx λh' g1 sb=>?_);have hT':ao2 h' T #[.ref kb,u]:=by obtain ⟨o,e,r⟩:=hT; exact ⟨o,(sb.2 T t2).trans e,r⟩
   obtain ⟨xs,kt,o,es,ep,ho,h2,h3,h4,h5⟩:=hd
   have Yp:∀ {ha hb:afp},(∀ b o,b≠d->b≠it->ha.get? b=some o->hb.get? b=some o)->(∀ b ks,H b=some (.tup (ks.map kV))->(tupleKind (aO prog w)).is ha ks b)->∀ b ks,H b=some (.tup (ks.map kV))->(tupleKind (aO prog w)).is hb ks b:=λkk z b ks e=>by
     obtain ⟨o,its,m,e1,r⟩:=z b ks e;exact ⟨o,its,m,kk b o (fr b _ e).1 (fr b _ e).2 e1,r⟩
   have ok':=Yp (λb o _ b2 e=>(sb.2 b b2).trans e) ok;have hd':h'.DictOfH (tupleKind (aO prog w)) d xs:=⟨o,es,ep,(sb.2 d n1).trans ho,h2,h3,h4,adn ok' kt,h5⟩
   have xl:xs.length=i:=by
     have z:=ago kt;rw [abI] at z;omega
   refine El (ac6 (El (anS (IsTup.pairItems hT' ?_))));show wpAny _ A.in1 (holding [.ref kb,u] (dictSet d (.ref kb) u)) _ _ _;refine ac6 ?_;refine wpAny_dictSet_heap (s:={ s with heap:=h' }) (hsz:=by omega) hu (ok' kb kv.1 hkb) hd' λhz dz Rp=>?_
   show wpAny _ A.in1 (again (.builtin "dict.update.loop" ⟨[.ref d,.ref it,rawInt ((i:Int)+1),.none],[]⟩)) _ _ _;have kk:∀ b o,b≠d->b≠it->s.heap.get? b=some o->hz.get? b=some o:=λb o b1 b2 e=>(Rp.2 b b1).trans ((sb.2 b b2).trans e)
   have tk1:kvs.take (i+1)=kvs.take i++[kv]:=by rw [abz,hkv]; rfl
   have nin:((kvs.take i).any λx=>decide (x.1=kv.1))=false:=by
     rw [akr];intro x hx z;have z':x.1=kv.1:=of_decide_eq_true z;obtain ⟨j,hj,ej⟩:=ac5 hx;rw [abI] at hj;rw [amr] at ej;have a1:(kvs.map (·.1))[j]?=some x.1:=by rw [aaJ,aaj (by omega),ej]; rfl
     have a2:(kvs.map (·.1))[i]?=some x.1:=by rw [aaJ,hkv,z']; rfl
     have:=(agL (by rw [aac]; omega) nd).mp (a1.trans a2.symm);omega
   have kt2:KT H (kvs.take (i+1)) (storedH xs kv.1 kb u):=by
     have z:=kt.put kv.1 hkb ru;unfold putK at z;rw [nin,if_neg aaK] at z;rw [tk1];exact z
   obtain ⟨o2,es2,ep2,z1,z2,z3,z4,_,z5⟩:=dz;refine aau ⟨ahV gW _,ih (i+1) _ (by omega) hlt ⟨_,kt2,o2,es2,ep2,z1,z2,z3,z4,z5⟩ (g1.at λo e=>(Rp.2 it (acV n1)).trans e) (hl.at λo e=>kk _ o (acV n2) (acV n3) e) (Yp kk ok) (λj kv2 hj=>?_) λh3 tk hd3 k3=>?_⟩
   . obtain ⟨T2,b2,u2,a1,⟨o,a2,a2'⟩,a3,a4,a5,a6⟩:=ht j kv2 hj;exact ⟨T2,b2,u2,a1,⟨o,kk _ _ a5 a6 a2,a2'⟩,a3,a4,a5,a6⟩
   . exact hR h3 tk hd3 λb o b1 b2 e=>k3 b o b1 b2 (kk b o b1 b2 e)
end
section
variable {X:Cx}
theorem Ep (hc:X.calm=true) (hu:X.A.units+64<cLine):dU X (.type "dict") (λxs H Q=>∃ (l:aaH) (ps:List (aaH × aaH × (List Key × V))),xs=[.ref l]/\H l=some (.lst (ps.map λp=>.ref p.1))/\(∀ p∈ps,H p.1=some (.tup [.ref p.2.1,p.2.2.2])/\H p.2.1=some (.tup (p.2.2.1.map kV)))/\(ps.map (·.2.2.1)).Nodup/\∀ d,H d=none->Q (.ref d) (upd H d (.dT (ps.map (·.2.2))))):=by
 intro pins s σ H xs us Q I r h;obtain ⟨l,ps,rfl,hl,hp,hnd,q⟩:=h;obtain ⟨u,rfl,ru⟩:=vals1 r;cases ru;obtain ⟨zl,its,n,rv,ln,el⟩:=I.K8 hl;rw [ln] at zl;have ll:l<s.heap.objs.size:=abh el;refine callType_codes (Q₁:=λobj s₁=>obj=.ref s.heap.objs.size/\s₁={ s with heap:=s.heap.push { cls:=.type "dict",data:=.dict #[] } }) uU (mQ _) amF (qJ _ ⟨rfl,rfl⟩) λobj s₁ h₁=>?_
 obtain ⟨rfl,rfl⟩:=h₁;have up:∀ c o,s.heap.get? c=some o->(s.heap.push { cls:=.type "dict",data:=.dict #[] }).get? c=some o:=λc o e=>aar _ e
 have dS:(s.heap.push { cls:=.type "dict",data:=.dict #[] }).DictOf (aO X.prog X.w) s.heap.objs.size []:=anf _;have dT:(s.heap.push { cls:=.type "dict",data:=.dict #[] }).get? s.heap.objs.size=some { cls:=.type "dict",data:=.dict #[] }:=aaL _ rfl;refine ⟨⟨_,aaL _ rfl,rfl⟩,amv _ _,?_⟩;unfold afD.«dict.__init__»;refine El ?_;unfold amw;refine El (akL (amb (s:={ s with heap:=s.heap.push { cls:=.type "dict",data:=.dict #[] } }) dS) ?_);refine aau ?_;show wpAny _ _ (ahW "dict.__init__" s.heap.objs.size (.ref l) [] .none) _ _ _;unfold ahW;refine El (ajA (T:="list") ⟨_,up _ _ el,rfl⟩ ?_);rw [if_pos (by decide)];refine El (V0 (A:=X.A.in1.in1) (up _ _ el) rfl rfl rfl (I.ok.hd hc) λh1 tk e ne=>?_);rw [if_pos (show (none:Option aat).isNone=true from rfl)];refine El (aov ?_);have k1:∀ c o,s.heap.get? c=some o->h1.get? c=some o:=λc o q=>ne.keeps c o (up c o q)
 have sz1:s.heap.objs.size<h1.objs.size:=by obtain ⟨o,_,_,e,_⟩:=dS; exact abh (ne.keeps _ _ e)
 have hl1:h1.IsList l its.toArray:=⟨_,k1 _ _ el,rfl,n,rfl⟩;refine El (agI (s:={ s with heap:=h1,toks:=tk }) hl1 ?_);have k2:∀ c o,h1.get? c=some o->(h1.push { cls:=.type "list_iterator",data:=.fields #[.ref l,.int 0 0] }).get? c=some o:=λc o q=>aar _ q
 refine aau ⟨ahV gW _,?_⟩;have dz:∀ c,c<s.heap.objs.size->c≠s.heap.objs.size/\c≠h1.objs.size:=λc hc=>⟨abB hc,abB (Nat.lt_trans hc sz1)⟩
 have aas:∀ c o,s.heap.get? c=some o->(h1.push { cls:=.type "list_iterator",data:=.fields #[.ref l,.int 0 0] }).get? c=some o:=λc o e=>k2 _ _ (k1 _ _ e)
 have nln:ps.length=its.length:=by rw [<- ln,aac]
 have Vy:∀ b ks,H b=some (.tup (ks.map kV))->(tupleKind (aO X.prog X.w)).is (h1.push { cls:=.type "list_iterator",data:=.fields #[.ref l,.int 0 0] }) ks b:=λb ks e=>by
   obtain ⟨o,i2,m,e1,r⟩:=wI I.hok e;exact ⟨o,i2,m,aas _ _ e1,r⟩
 refine aaq (A:=X.A.in1) (d:=s.heap.objs.size) (it:=h1.objs.size) (l:=l) (items:=its.toArray) (H:=H) (kvs:=ps.map (·.2.2)) (by show X.A.units+1+1<cLine; omega) (I.ok.hd hc) (abB sz1) (acV (dz l ll).1) (acV (dz l ll).2) (by rw [aac]; omega) (by simp only [abm,aac]; omega) (by rw [afn]; exact hnd) (λb u e=>dz b (I.hok b u e).lt) _ 0 _ rfl (abH _)
   ⟨[],.nil,_,#[],0,k2 _ _ (ne.keeps _ _ dT),⟨rfl,rfl,rfl⟩,rfl,rfl,anM⟩ ⟨_,aaL _ rfl,rfl,rfl⟩ (hl1.at λo q=>k2 _ o q) Vy (λj kv hj=>?_) λh3 tk3 hd3 k3=>⟨rfl,?_⟩
 . rw [aaJ] at hj;cases ej:ps[j]? with
   | none=>rw [ej] at hj; cases hj
   | some p =>
     rw [ej] at hj;cases (show some p.2.2=some kv from hj);obtain ⟨p1,p2⟩:=hp p (abq ej);obtain ⟨_,i2,r2,ob⟩:=(show bT X.prog X.w H s.heap p.1 (.tup [.ref p.2.1,p.2.2.2]) from I.hok _ _ p1);obtain ⟨k,v,rfl,rk,rw⟩:=vals2 r2;cases rk;obtain ⟨o,a2,a2'⟩:=ob.to;have lt:=abh a2;obtain ⟨u,hu',ru'⟩:=rv.get (i:=j) (x:=V.ref p.1) (by rw [aaJ,ej]; rfl);cases ru';exact ⟨p.1,p.2.1,v,by simpa using hu',⟨o,aas _ _ a2,a2'⟩,p2,rw,(dz _ lt).1,(dz _ lt).2⟩
 . have kk:∀ c o,s.heap.get? c=some o->h3.get? c=some o:=λc o e=>k3 c o (dz c (abh e)).1 (dz c (abh e)).2 (aas _ _ e)
   obtain ⟨xs,kt,o,es,ep,g1,g2,g3,g4,g5⟩:=hd3;refine ⟨.ref s.heap.objs.size,_,I.laid (t':=tk3) (o:=.dT (ps.map (·.2.2))) kk (aaw _) ⟨by rw [aac]; omega,beq_eq_false_iff_ne.mpr (acV (abB I.big)),xs,kt.keeps λb ys e=>?_,o,es,ep,g1,g2,g3,g4,g5⟩,rfl,q _ (I.hok.fresh (aaw _))⟩;rw [aB (abB (I.hok b _ e).lt)];exact e
end
end L2
namespace Eb
open PySem L2 GF
variable {P:abt} {w:acU} {K:aaf} {mg:Str->Option aat} {base:afp} {t8 t6 tR tL t9:Tok} {C NW:aaH} {c:Nat->aaH}
section
variable {H1:Hp} {D:aaH} {σ0:St} {g:BI->TG} {te:BI->TE} {tt:BI->TT} {End:Hp->Prop} {α β:Type}
theorem jN {keep:α->Bool} {bs:List α} {i:Nat} {c:α} (h:bs[i]?=some c):(bs.take (i+1)).filter keep=(bs.take i).filter keep++if keep c=true then [c] else []:=by
 rw [abz,h,ahb];cases z:keep c <;> simp [z]
theorem fP {K:aaf} {R:V->α->Prop} {R':Hp->V->β->Prop} {F:α->β->Prop} {keep:α->Bool} {a:aaH} {xs:List V} {bs:List α} (mono:∀ {H H':Hp} {v b},Same H H'->R' H v b->R' H' v b) (uX:∀ {H:Hp} {o:HO} {v b},(∃ zs,H D=some (.lst zs))->R' H v b->R' (upd H D o) v b)
   (hD:H1 D=none) (hT:H1 a=some (.lst xs)) (few:xs.length<=1000) (pr:abG R xs bs)
   (turn:∀ (i:Nat) (x:V) (c:α) (H':Hp),bs[i]?=some c->R x c->Same H1 H'->∀ b (N:Hp->Prop) (Q:VK),(keep c=false->∀ g8,Same H' g8->N g8)->(keep c=true->∀ v g8 y,Same H' g8->R' g8 v y->F c y->Q v g8)->g b x σ0 H' fun σ2 H2=>tt b σ2 H2 λcc H3=>if cc=true then te b σ2 H3 Q else N H3)
   (fin:∀ vs ys H',Same H1 H'->H' D=some (.lst vs)->abG (R' H') vs ys->abG F (bs.filter keep) ys->End H') :
   ∃ W:Nat->Nat->Hp->Prop,(∃ m,W 0 m (upd H1 D (.lst [])))/\∀ b,jL (Us K a) (g b) (tt b) (jT D (te b)) σ0 End W :=
 tM (xs:=xs) (λi H'=>∃ zs ys,dX H1 H' D zs/\zs.length<=i/\abG (R' H') zs ys/\abG F ((bs.take i).filter keep) ys) ⟨[],[],dX.start hD,abH _,.nil,.nil⟩ (λi H' _ hz=>by obtain ⟨_,_,G,_⟩:=hz; exact cG.of (G.same _ _ hT)) (λH' hz=>by
   obtain ⟨zs,ys,G,_,pz,pf⟩:=hz;rw [pr.length,acL] at pf;exact fin zs ys H' G.same G.at' pz pf) (λi x H' hx hi hz b=>by
   have jH:sizeLine=16777216:=aby;obtain ⟨zs,ys,G,lz,pz,pf⟩:=hz;obtain ⟨c,hc,rc⟩:=bh pr hx;refine turn i x c H' hc rc G.same b _ _ (λk g8 s=>nx hi ⟨zs,ys,G.more s,by omega,aA (λ_ _ z=>mono s z) pz,by rw [jN hc,k,if_neg aaK,adx]; exact pf⟩) (λk v g8 y s r f=>?_);refine ⟨zs,(G.more s).at',by omega,nx hi ⟨zs++[v],ys++[y],(G.more s).put hD v,by rw [aay]; simp; omega,?_,by rw [jN hc,k,if_pos rfl]; exact bC pf (.cons f .nil)⟩⟩
   exact bC (aA (λ_ _ z=>uX ⟨_,(G.more s).at'⟩ (mono s z)) pz) (.cons (uX ⟨_,(G.more s).at'⟩ r) .nil))
end
theorem dN {H:Hp} {D:aaH} {o:HO} (h:∃ zs,H D=some (.lst zs)):bV H (upd H D o):=λb xs e=>by
 have n:b≠D:=λz=>by obtain ⟨zs,y⟩:=h; rw [z,y] at e; cases e
 rw [aB n]; exact e
noncomputable abbrev aQ:=Str × Place
noncomputable def Wt (H:Hp) (v:V) (p:Place):Prop:=∃ b,v=.ref b/\H b=some (.tup [.str p.1,.int p.2.1,.int p.2.2])
theorem Wt.ts {H H':Hp} {v:V} {p:Place} (h:Wt H v p) (s:bV H H'):Wt H' v p:=let ⟨b,e,g⟩:=h; ⟨b,e,s _ _ g⟩
noncomputable def jz (H:Hp) (kv:Key × V) (p:aQ):Prop:=kv.1=.inr p.1/\Wt H kv.2 p.2
theorem jz.ts {H H':Hp} {kv:Key × V} {p:aQ} (h:jz H kv p) (s:bV H H'):jz H' kv p:=⟨h.1,h.2.ts s⟩
noncomputable def iu (H:Hp) (a:aaH) (kt:List aQ):Prop:=∃ kvs,H a=some (.dK kvs)/\abG (jz H) kvs kt
noncomputable def ktM (kt:List aQ) (n:Str):Option Place:=(kt.find? λp=>decide (p.1=n)).map (·.2)
theorem kJ {H:Hp} {n:Str}:∀ {kvs:List (Key × V)} {kt:List aQ},abG (jz H) kvs kt->(ktM kt n=none->cL kvs (.inr n)=none)/\∀ p,ktM kt n=some p->∃ b,cL kvs (.inr n)=some (.ref b)/\H b=some (.tup [.str p.1,.int p.2.1,.int p.2.2])
 | _,_,.nil=>⟨λ_=>rfl,λp e=>(by cases e)⟩
 | kv :: _,r :: _,.cons h t=>by
   obtain ⟨h1,b,h2,h3⟩:=h;by_cases z:r.1=n
   . have e1:∀ l,ktM (r :: l) n=some r.2:=λl=>by simp [ktM,z]
     rw [e1];refine ⟨λe=>(by cases e),λp e=>?_⟩;cases e;exact ⟨b,by rw [cT (by rw [h1,z]),h2],h3⟩
   . have e1:∀ l,ktM (r :: l) n=ktM l n:=λl=>by simp [ktM,z]
     rw [e1,cO (by rw [h1]; exact λy=>z (ahL y))];exact kJ t
theorem iu.at {H:Hp} {a:aaH} {kt:List aQ} (h:iu H a kt):um H a (ktM kt):=let ⟨kvs,e,p⟩:=h; ⟨kvs,e,λ_=>kJ p⟩
theorem vQ {kt:List aQ} {n:Str}:(ktM kt n).isSome=true↔n∈kt.map (·.1):=by
 unfold ktM;rw [amo,List.find?_isSome];simp [eq_comm]
noncomputable def own (h:Str) (n:Int) (p:aQ):Bool:=decide (p.2.1=h) && decide (p.2.2.1=n)
noncomputable def yU (p:aQ):Int × Str:=(p.2.2.2,p.1)
noncomputable abbrev ltR (a b:Int × Str):Bool:=Rk kdI kdS a b
noncomputable def Om (r:Row):Int × Str:=(r.2,r.1)
noncomputable def yg (h:Str) (kt:List aQ) (n:Int) (run:List Row):Prop:=(run.map Om).Perm ((kt.filter (own h n)).map yU)/\(run.map Om).Pairwise (λa b=>ltR a b=true)
noncomputable def yh (h:Str) (kt:List aQ) (runs:List (List Row)):Prop:=∃ ns:List Int,ns.Pairwise (·<·)/\(∀ n,n∈ns↔∃ p∈kt,own h n p=true)/\abG (yg h kt) ns runs
theorem M7 {α:Type} {lt:α->α->Bool} (S:Strict lt) {l m:List α} (p:l.Perm m) (hl:l.Pairwise (λa b=>lt a b=true)) (hm:m.Pairwise (λa b=>lt a b=true)):l=m :=
 p.eq_of_pairwise (λa b _ _ h1 h2=>by have h3:=S.trans _ _ _ h1 h2; rw [S.Qc] at h3; cases h3) hl hm
theorem Wu {a b:List Row} (h:a.map Om=b.map Om):a=b:=by
 have e:∀ r:Row,((Om r).2,(Om r).1)=r:=λr=>rfl
 have z:∀ l:List Row,(l.map Om).map (λx=>((x.2,x.1):Row))=l:=λl=>by rw [afn]; exact (ah0 λr _=>e r).trans (List.map_id l)
 rw [<- z a,h,z b]
theorem HY {h:Str} {kt:List aQ} {n:Int} {a b:List Row} (x:yg h kt n a) (y:yg h kt n b):a=b :=
 Wu (M7 (xM kdI kdS) (x.1.trans y.1.symm) x.2 y.2)
theorem RG {l m:List Int} (hl:l.Pairwise (·<·)) (hm:m.Pairwise (·<·)) (h:∀ n,n∈l↔n∈m):l=m:=by
 have nl:l.Nodup:=hl.imp λh=>by omega
 have nm:m.Nodup:=hm.imp λh=>by omega
 exact ((al4 nl nm).mpr h).eq_of_pairwise (λa b _ _ h1 h2=>by omega) hl hm
theorem gG {α β:Type} {F:α->β->Prop} (u:∀ a b c,F a b->F a c->b=c):∀ {l:List α} {m m':List β},abG F l m->abG F l m'->m=m'
 | _,_,_,.nil,.nil=>rfl
 | _,_,_,.cons h r,.cons h' r'=>by rw [u _ _ _ h h',gG u r r']
theorem Er {h:Str} {kt:List aQ} {a b:List (List Row)} (x:yh h kt a) (y:yh h kt b):a=b:=by
 obtain ⟨ns,p1,m1,r1⟩:=x;obtain ⟨ms,p2,m2,r2⟩:=y;have e:=RG p1 p2 λn=>(m1 n).trans (m2 n).symm
 subst e;exact gG (F:=yg h kt) (λ_ _ _ x y=>HY x y) r1 r2
noncomputable def LstAt (H:Hp) (l:aaH) (rs:List (Int × Str)):Prop:=∃ ts:List (aaH × (Int × Str)),H l=some (.lst ((ts.map (·.1)).map V.ref))/\(∀ t∈ts,H t.1=some (.tup [.int t.2.1,.str t.2.2]))/\ts.map (·.2)=rs
noncomputable def RD (H0:Hp) (h:Str) (pre:List aQ) (H:Hp) (R:aaH):Prop:=∃ es:List (Int × aaH),H R=some (.dK (es.map λe=>(afv (some e.1),V.ref e.2)))/\(es.map (·.1)).Nodup/\(es.map (·.2)).Nodup/\(∀ e∈es,LstAt H e.2 ((pre.filter (own h e.1)).map yU))/\(∀ n,n∈es.map (·.1)↔∃ p∈pre,own h n p=true)/\es.length<=pre.length/\∀ e∈es,H0 e.2=none
noncomputable def zx (es:List (Int × aaH)) (n:Int):Option aaH:=(es.find? λe=>decide (e.1=n)).map (·.2)
theorem Es {es:List (Int × aaH)} {n:Int} {l:aaH} (h:zx es n=some l):(n,l)∈es:=by
 unfold zx at h;obtain ⟨e,he,rfl⟩:=afo.mp h;have h1:=amk he;have h2:e.1=n:=by have:=List.find?_some he; simpa using this
 rw [<- h2];exact h1
theorem Aj {es:List (Int × aaH)} {n:Int} (h:zx es n=none):n ∉ es.map (·.1):=by
 unfold zx at h;rw [am2,List.find?_eq_none] at h;intro z;obtain ⟨e,he,rfl⟩:=abj.mp z;exact h e he (decide_eq_true rfl)
theorem vR (es:List (Int × aaH)) (n:Int):cL (es.map λe=>((afv (some e.1):Key),V.ref e.2)) (afv (some n))=(zx es n).map V.ref:=by
 induction es with
 | nil=>rfl
 | cons e es ih =>
   rw [abn];by_cases z:e.1=n
   . rw [cT (by rw [z])];simp [zx,z]
   . rw [cO (λy=>z (abx (amA y))),ih];simp [zx,z]
theorem LstAt.same {H H':Hp} {l:aaH} {rs:List (Int × Str)} (h:LstAt H l rs) (s:Same H H'):LstAt H' l rs:=let ⟨ts,e,g,m⟩:=h; ⟨ts,s _ _ e,λt ht=>s _ _ (g t ht),m⟩
theorem LstAt.but {H H':Hp} {l:aaH} {rs:List (Int × Str)} (h:LstAt H l rs) (e:H' l=H l) (s:bV H H'):LstAt H' l rs:=let ⟨ts,g,t,m⟩:=h; ⟨ts,e.trans g,λx hx=>s _ _ (t x hx),m⟩
theorem RD.old {h:Str} {pre:List aQ} {H0 H H':Hp} {R:aaH} {p:aQ} {es:List (Int × aaH)} {l T:aaH} (hp:p.2.1=h) (eR:H R=some (.dK (es.map λe=>(afv (some e.1),V.ref e.2)))) (n1:(es.map (·.1)).Nodup) (n2:(es.map (·.2)).Nodup) (ls:∀ e∈es,LstAt H e.2 ((pre.filter (own h e.1)).map yU)) (mem:∀ n,n∈es.map (·.1)↔∃ p∈pre,own h n p=true) (few:es.length<=pre.length) (nw:∀ e∈es,H0 e.2=none)
   (hl:(p.2.2.1,l)∈es) (sm:∀ b u,b≠l->H b=some u->H' b=some u) (nl:LstAt H' l (((pre.filter (own h p.2.2.1)).map yU)++[yU p])):RD H0 h (pre++[p]) H' R:=by
 have ll:∃ zs,H l=some (.lst zs):=by obtain ⟨ts,e,_⟩:=ls _ hl; exact ⟨_,e⟩
 have nR:R≠l:=λz=>by obtain ⟨zs,e⟩:=ll; rw [<- z,eR] at e; cases e
 have own1:own h p.2.2.1 p=true:=by unfold own; rw [decide_eq_true hp,decide_eq_true rfl]; rfl
 refine ⟨es,sm _ _ nR eR,n1,n2,λe he=>?_,λn=>?_,by rw [aay]; omega,nw⟩
 . rw [ahb,abp];by_cases z:e.1=p.2.2.1
   . have e2:e.2=l:=by
       obtain ⟨i,hi,ei⟩:=ac5 he;obtain ⟨j,hj,ej⟩:=ac5 hl;have a1:(es.map (·.1))[i]?=some e.1:=by rw [aaJ,aaj hi,ei]; rfl
       have a2:(es.map (·.1))[j]?=some e.1:=by rw [aaJ,aaj hj,ej,z]; rfl
       have ij:=(agL (by rw [aac]; exact hi) n1).mp (a1.trans a2.symm);subst ij;rw [<- ei,ej]
     rw [e2,z];have f1:([p].filter (own h p.2.2.1)).map yU=[yU p]:=by rw [amI own1]; rfl
     rw [f1];exact nl
   . have o2:own h e.1 p=false:=by unfold own; rw [show decide (p.2.2.1=e.1)=false from decide_eq_false (λy=>z y.symm),afB]
     have f1:([p].filter (own h e.1)).map yU=[]:=by rw [aj9 (by rw [o2]; exact aaK)]; rfl
     rw [f1,adx]
     have ne:e.2≠l:=λy=>by
       obtain ⟨i,hi,ei⟩:=ac5 he;obtain ⟨j,hj,ej⟩:=ac5 hl;have a1:(es.map (·.2))[i]?=some e.2:=by rw [aaJ,aaj hi,ei]; rfl
       have a2:(es.map (·.2))[j]?=some e.2:=by rw [aaJ,aaj hj,ej,y]; rfl
       have ij:=(agL (by rw [aac]; exact hi) n2).mp (a1.trans a2.symm);subst ij;rw [ei] at ej;exact z (by rw [ej])
     obtain ⟨ts,g,t,m⟩:=ls e he;exact ⟨ts,sm _ _ ne g,λx hx=>sm _ _ (λy=>by obtain ⟨zs,e'⟩:=ll; have:=t x hx; rw [y,e'] at this; cases this) (t x hx),m⟩
 . rw [mem n];constructor
   . rintro ⟨q,hq,oq⟩;exact ⟨q,afx _ hq,oq⟩
   . rintro ⟨q,hq,oq⟩;rcases abv.mp hq with hq | hq
     . exact ⟨q,hq,oq⟩
     . rw [abe] at hq;subst hq;have en:q.2.2.1=n:=of_decide_eq_true (abr.mp oq).2;rw [<- en];exact (mem _).mp (abj.mpr ⟨_,hl,rfl⟩)
theorem RD.new {h:Str} {pre:List aQ} {H0 H H':Hp} {R:aaH} {p:aQ} {es:List (Int × aaH)} {l:aaH} (hp:p.2.1=h) (n1:(es.map (·.1)).Nodup) (n2:(es.map (·.2)).Nodup) (ls:∀ e∈es,LstAt H' e.2 ((pre.filter (own h e.1)).map yU)) (mem:∀ n,n∈es.map (·.1)↔∃ p∈pre,own h n p=true) (few:es.length<=pre.length) (nw:∀ e∈es,H0 e.2=none) (nwl:H0 l=none)
   (hv:zx es p.2.2.1=none) (fl:H l=none) (old:∀ e∈es,∃ u,H e.2=some u) (eR:H' R=some (.dK ((es++[(p.2.2.1,l)]).map λe=>(afv (some e.1),V.ref e.2)))) (nl:LstAt H' l [yU p]):RD H0 h (pre++[p]) H' R:=by
 have own1:own h p.2.2.1 p=true:=by unfold own; rw [decide_eq_true hp,decide_eq_true rfl]; rfl
 have nin:=Aj hv;refine ⟨es++[(p.2.2.1,l)],eR,?_,?_,λe he=>?_,λn=>?_,by rw [aay,aay]; simpa using few,λe he=>(abv.mp he).elim (nw e) λz=>by rw [abe.mp z]; exact nwl⟩
 . rw [abp];exact aeS.mpr ⟨n1,by simp,λa ha b hb=>by rw [ahc,abe] at hb; exact λz=>nin (by rw [<- hb,<- z]; exact ha)⟩
 . rw [abp];refine aeS.mpr ⟨n2,by simp,λa ha b hb z=>?_⟩;rw [ahc,abe] at hb;obtain ⟨e,he,rfl⟩:=abj.mp ha;obtain ⟨u,hu⟩:=old e he;rw [z,hb,fl] at hu;cases hu
 . rw [ahb,abp];rcases abv.mp he with he | he
   . have ne:e.1≠p.2.2.1:=λz=>nin (by rw [<- z]; exact abj.mpr ⟨e,he,rfl⟩)
     have o2:own h e.1 p=false:=by unfold own; rw [show decide (p.2.2.1=e.1)=false from decide_eq_false (λy=>ne y.symm),afB]
     have f1:([p].filter (own h e.1)).map yU=[]:=by rw [aj9 (by rw [o2]; exact aaK)]; rfl
     rw [f1,adx];exact ls e he
   . rw [abe] at he;subst he
     have f0:pre.filter (own h p.2.2.1)=[]:=by
       rw [am3];intro q hq oq;exact nin ((mem _).mpr ⟨q,hq,oq⟩)
     have f1:([p].filter (own h p.2.2.1)).map yU=[yU p]:=by rw [amI own1]; rfl
     show LstAt H' l ((pre.filter (own h p.2.2.1)).map yU++_);rw [f0,f1];exact nl
 . rw [abp,abv,mem n];constructor
   . rintro (⟨q,hq,oq⟩ | hq)
     . exact ⟨q,afx _ hq,oq⟩
     . rw [ahc,abe] at hq;subst hq;exact ⟨p,abN _ (abe.mpr rfl),own1⟩
   . rintro ⟨q,hq,oq⟩;rcases abv.mp hq with hq | hq
     . exact .inl ⟨q,hq,oq⟩
     . rw [abe] at hq;subst hq;refine .inr ?_;rw [ahc,abe];exact (of_decide_eq_true (abr.mp oq).2).symm
theorem RD.skip {h:Str} {pre:List aQ} {H0 H:Hp} {R:aaH} {p:aQ} (hp:p.2.1≠h) (r:RD H0 h pre H R):RD H0 h (pre++[p]) H R:=by
 obtain ⟨es,eR,n1,n2,ls,mem,few,nw⟩:=r;have o2:∀ n,own h n p=false:=λn=>by unfold own; rw [decide_eq_false hp,afK]
 refine ⟨es,eR,n1,n2,λe he=>?_,λn=>?_,by rw [aay]; omega,nw⟩
 . rw [ahb,aj9 (by rw [o2]; exact aaK),List.filter_nil,adx];exact ls e he
 . rw [mem n];constructor
   . rintro ⟨q,hq,oq⟩;exact ⟨q,afx _ hq,oq⟩
   . rintro ⟨q,hq,oq⟩;rcases abv.mp hq with hq | hq
     . exact ⟨q,hq,oq⟩
     . rw [abe] at hq;subst hq;rw [o2] at oq;cases oq
theorem Yq {H:Hp} {a:aaH} {kvs:List (Key × V)} (e:H a=some (.dK kvs)):∀ o u,H a≠some (.gY o u):=λo u z=>by rw [e] at z; cases z
theorem RK {H:Hp} {a:aaH} {kvs:List (List Key × V)} (e:H a=some (.dT kvs)):∀ o u,H a≠some (.gY o u):=λo u z=>by rw [e] at z; cases z
theorem uo {H H2 H':Hp} {a:aaH} {u:HO} (e:H a=some u) (oth:∀ b,b≠a->H2 b=H b) (s:∀ b o,b≠a->H2 b=some o->H' b=some o):Same H (upd H' a u):=λb o hb=>by
 by_cases z:b=a
 . subst z;rw [au,<- e,hb]
 . rw [aB z];exact s b o z (by rw [oth b z]; exact hb)
noncomputable def yj:Sp:=λvs H Q _=>∃ (h:Str) (a:aaH) (kt:List aQ),vs=[.str h,.ref a]/\iu H a kt/\kt.length<=60/\(kt.map (·.1)).Nodup/\∀ (x:V) (runs:List (List Row)) (H':Hp),tW H' x runs->yh h kt runs->Same H H'->Q x H'
theorem jo:aZ ["house","rows","runs","name","owner","run","reading"] ["house","rows"] (aJ sI):=nj
theorem M8 {f:aaH} {fd:abL} (F:dO K "runs_of" "runs_of" sI f fd) (T:Txt mg t8 t6 tR tL):aV P w K mg base dF 1 f fd ["house","rows"] yj:=by
 refine F.ok jo (λvs H Q E h=>?_) (λcdv A outer s H vs Q E hr h=>?_)
 . obtain ⟨h,a,kt,rfl,_⟩:=h;rfl
 . obtain ⟨h,a,kt,rfl,⟨kvs,ea,pk⟩,few,nd,q⟩:=h;have jH:sizeLine=16777216:=aby;have lk:=pk.length;refine ⟨_,(aq (pZ 2 jo iQ) (aq (dG acK rfl (Rw (pV 1)) (fU rfl (aP (pY 3 jo) (aP (fU rfl (aP (pY 4 jo) (aP (pY 5 jo) (aP (pY 6 jo) dR)))) dR))) (aG (bW (mO wA (pV 4) (pV 0) (bA _)) (aG (cW (nu adq adC adD eX (RB (pV 2) (pV 5) (cR ao) ⟨rfl,rfl,rfl,rfl⟩) (aj (bH (aj (pV 6) (aj (pV 3) ao))) ao)))) aU))) (aG (J4 (bf (bJ bM rfl T.tuple acn (aj (cD (gP:=aJ sI) (own:=["run"]) (cap:=["runs"]) (ix:=[2]) rfl rfl iR (cX (aM (zp rfl) rfl T.sorted adt (aj (pV 2) ao))) (λb=>(bD (i:=0) (show (["run","runs"]:List Str).Nodup by decide +kernel) rfl (afO rfl))) (λb=>cN) (λb=>(bJ bM rfl T.tuple acn (aj (cD (gP:=(jX ({ kind:=.function,names:=[(afR ".0",.local),(afR "run",.local),(afR "tuple",.globalImplicit),(afR "sorted",.globalImplicit),(afR "runs",.free)],isGenerator:=false,isCoroutine:=false }:Scope) (aJ sI))) (own:=["reading","name"]) (cap:=[]) (ix:=[]) rfl rfl iR (cX (aM (qK (K1:=kdI) (K2:=kdS)) rfl T.sorted adt (aj (eN (cU hr) (pV 1) (pV 0) (λ_ _=>rfl)) ao))) (λb=>(fU rfl (aP (bD (i:=0) (show (["reading","name"]:List Str).Nodup by decide +kernel) rfl (afO rfl)) (aP (bD (i:=1) (show (["reading","name"]:List Str).Nodup by decide +kernel) rfl (afO rfl)) dR)))) (λb=>cN) (λb=>(bH (aj (pV 1) (aj (pV 0) ao))))) ao)))) ao))))))),?_⟩;refine λR fR=>?_
   have s1:Same H (upd H R (.dK [])):=(Same.refl H).upd fR;have nRa:R≠a:=λz=>by rw [z,ea] at fR; cases fR
   refine ⟨a,kvs,rfl,.inl (s1 _ _ ea),λo H2 e2 sf oth=>?_⟩;refine MN (λi σ H'=>∃ (o3 o4 o5 o6:Option V),σ=[some (.str h),some (.ref a),some (.ref R),o3,o4,o5,o6]/\RD H h (kt.take i) H' R/\H' a=some (.gY o (.dK kvs))/\∀ b u,b≠a->H b=some u->H' b=some u) ⟨none,none,none,none,rfl,?_,e2,?_⟩ (λi σ H' _ hz=>by obtain ⟨_,_,_,_,_,_,e,_⟩:=hz; exact e) (λi k x T σ H3 hx hz fT=>?_) (fun σ H3 hz=>?_)
   . refine ⟨[],by rw [oth R nRa]; exact au,.nil,.nil,λe he=>(by cases he),λn=>?_,abH _,λe he=>(by cases he)⟩;rw [aie];simp
   . intro b u nb e;rw [oth b nb];exact s1 _ _ e
   . obtain ⟨o3,o4,o5,o6,rfl,⟨es,eR,n1,n2,ls,mem,Wv,nw⟩,Uy,sm⟩:=hz;obtain ⟨p,hp,hk1,b,hx2,eb⟩:=bh pk hx;obtain rfl:k=.inr p.1:=hk1;obtain rfl:x=.ref b:=hx2;have li:i<kt.length:=(abE.mp hp).1;have lt0:(kt.take i).length=i:=by rw [abI]; omega
     have tk:kt.take (i+1)=kt.take i++[p]:=by rw [abz,hp]; rfl
     have nba:b≠a:=λz=>by rw [z,ea] at eb; cases eb
     refine gE fT λH4 sT eT=>?_
     have eb3:=sT _ _ (sm b _ nba eb);refine ⟨T,_,rfl,bQ.of eT,rfl,_,_,rfl,_,_,rfl,⟨b,_,rfl,bQ.of eb3,rfl,_,_,rfl,_,_,rfl,_,_,rfl,rfl,⟨rfl,?_⟩⟩⟩;refine ⟨rfl,?_⟩;have aif:∀ e∈es,∃ u,H3 e.2=some u:=λe he=>by obtain ⟨ts,g,_⟩:=ls e he; exact ⟨_,g⟩
     refine eZ (λz=>?_) (λz=>?_)
     . have ph:p.2.1=h:=by simpa using z
       have eRT:=sT _ _ eR;refine ⟨R,rfl,.inl ⟨_,.inl eRT⟩,abH _,λL fL=>?_⟩;refine gE fL λH5 sL eL=>?_
       have S3L:=sT.trans sL;have fL3:H3 L=none:=sT.free fL;have nLR:L≠R:=λz=>by rw [z,eRT] at fL; cases fL
       refine ⟨_,afv (some p.2.2.1),sL _ _ eRT,rfl,by rw [aac]; omega,λv hv=>?_,λhn=>?_⟩
       . rw [vR] at hv;obtain ⟨l,hl,rfl⟩:=afo.mp hv;have ml:=Es hl;obtain ⟨ts,el,ht,em⟩:=ls _ ml;have elL:=S3L _ _ el
         have lts:ts.length<=60:=by
           have z1:=congrArg afN em;rw [aac,aac] at z1;have z2:=af5 (own h p.2.2.1) (kt.take i);rw [lt0] at z2;show ts.length<=60;have z3:ts.length=(List.filter (own h p.2.2.1) (List.take i kt)).length:=z1;omega
         refine ⟨.inl ⟨rfl,_,cG.of elL⟩,by show 2<=sizeLine; omega,λT0 fT0=>?_⟩;refine gE fT0 λH6 s0 e0=>?_
         have SA:=S3L.trans s0;have el0:=SA _ _ el;refine ⟨l,_,.ref T0,rfl,rfl,el0,by rw [aac,aac]; omega,?_⟩;have smL:∀ b u,b≠l->H3 b=some u->upd H6 l (.lst ((ts.map (·.1)).map V.ref++[.ref T0])) b=some u:=λb u n e=>by rw [aB n]; exact SA _ _ e
         have Qw:a≠l:=λz=>by rw [<- z,Uy] at el; cases el
         have nT0:T0≠l:=λz=>by rw [z,elL] at fT0; cases fT0
         have l0:H l=none:=nw _ ml;refine ⟨_,_,_,_,rfl,?_,smL _ _ Qw Uy,λb u n e=>smL _ _ (λz=>?_) (sm b u n e)⟩
         . rw [tk];refine RD.old (T:=T0) ph eR n1 n2 ls mem Wv nw ml smL ⟨ts++[(T0,yU p)],?_,λt ht'=>?_,by rw [abp,em]; rfl⟩
           . rw [au,abp,abp]; rfl
           . rcases abv.mp ht' with ht' | ht'
             . refine smL _ _ (λz=>?_) (ht t ht');have:=ht t ht';rw [z,el] at this;cases this
             . rw [abe] at ht';subst ht';rw [aB nT0];exact e0
         . rw [z,l0] at e;cases e
       . rw [vR,am2] at hn;have eLR:upd H5 R (.dK (putK (es.map λe=>((afv (some e.1):Key),V.ref e.2)) (afv (some p.2.2.1)) (.ref L))) L=some (.lst []):=by rw [aB nLR]; exact eL
         have eRR:upd H5 R (.dK (putK (es.map λe=>((afv (some e.1):Key),V.ref e.2)) (afv (some p.2.2.1)) (.ref L))) R=some (.dK ((es++[(p.2.2.1,L)]).map λe=>((afv (some e.1):Key),V.ref e.2))):=by
           rw [au,abp];unfold putK;rw [if_neg]
           . rfl
           . rw [iM,vR,hn]; exact aaK
         have sR:∀ b u,b≠R->H5 b=some u->upd H5 R (.dK (putK (es.map λe=>((afv (some e.1):Key),V.ref e.2)) (afv (some p.2.2.1)) (.ref L))) b=some u:=λb u n e=>by rw [aB n]; exact e
         generalize hH6:upd H5 R (.dK (putK (es.map λe=>((afv (some e.1):Key),V.ref e.2)) (afv (some p.2.2.1)) (.ref L)))=H6 at eLR eRR sR |-;clear hH6;refine ⟨.inl ⟨rfl,_,cG.of eLR⟩,by show 2<=sizeLine; omega,λT0 fT0=>?_⟩;refine gE fT0 λH7 s0 e0=>?_
         refine ⟨L,_,.ref T0,rfl,rfl,s0 _ _ eLR,by show 0<sizeLine; omega,?_⟩;have nT0:T0≠L:=λz=>by rw [z,eLR] at fT0; cases fT0
         have nRL:R≠L:=acV nLR;have smA:∀ b u,b≠R->b≠L->H3 b=some u->upd H7 L (.lst ([]++[.ref T0])) b=some u:=λb u n1 n2 e=>by rw [aB n2]; exact s0 _ _ (sR _ _ n1 (S3L _ _ e))
         have naR:a≠R:=acV nRa;have naL:a≠L:=λz=>by rw [<- z,Uy] at fL3; cases fL3
         have l0:H L=none:=by
           cases y:H L with
           | none=>rfl
           | some u=>rw [sm L u (acV naL) y] at fL3; cases fL3
         refine ⟨_,_,_,_,rfl,?_,smA _ _ naR naL Uy,λb u n e=>smA _ _ (λz=>?_) (λz=>?_) (sm b u n e)⟩
         . rw [tk];refine RD.new (H:=H3) ph n1 n2 (λe he=>?_) mem Wv nw l0 hn fL3 aif (by rw [aB nRL]; exact s0 _ _ eRR) ⟨[(T0,yU p)],au,λt ht'=>?_,rfl⟩
           . obtain ⟨ts,g,t,m⟩:=ls e he;refine ⟨ts,smA _ _ (λz=>by rw [z,eR] at g; cases g) (λz=>by rw [z,fL3] at g; cases g) g,λx hx=>smA _ _ (λz=>?_) (λz=>?_) (t x hx),m⟩
             . have:=t x hx; rw [z,eR] at this; cases this
             . have:=t x hx; rw [z,fL3] at this; cases this
           . rw [abe] at ht';subst ht';rw [aB nT0];exact e0
         . rw [z,fR] at e; cases e
         . rw [z,l0] at e; cases e
     . have ph:p.2.1≠h:=λy=>z (by rw [y]; simp)
       refine ⟨_,_,_,_,rfl,?_,sT _ _ Uy,λb u n e=>sT _ _ (sm b u n e)⟩;rw [tk];refine RD.skip ph ⟨es,sT _ _ eR,n1,n2,λe he=>(ls e he).same sT,mem,Wv,nw⟩
   . obtain ⟨o3,o4,o5,o6,rfl,rd,Uy,sm⟩:=hz;rw [lk,acL] at rd;obtain ⟨es,eR3,n1,n2,ls,mem,Wv,nw⟩:=rd;refine ⟨_,⟨a,o,.dK kvs,Uy,aeR,Yq ea,rfl⟩,?_⟩
     have sH:Same H (upd H3 a (.dK kvs)):=λb u e=>by
       by_cases z:b=a
       . subst z; rw [au,<- ea,e]
       . rw [aB z]; exact sm b u z e
     have eR:upd H3 a (.dK kvs) R=some (.dK (es.map λe=>(afv (some e.1),V.ref e.2))):=by rw [aB nRa]; exact eR3
     have lsA:∀ e∈es,LstAt (upd H3 a (.dK kvs)) e.2 ((kt.filter (own h e.1)).map yU):=λe he=>by
       refine (ls e he).but (aB λz=>?_) λb xs eb=>?_
       . have:=nw e he; rw [z,ea] at this; cases this
       . rw [aB λz=>by rw [z,Uy] at eb; cases eb]; exact eb
     generalize hH4:upd H3 a (.dK kvs)=H4 at sH eR lsA |-;clear hH4;refine ⟨R,_,es.map (·.1),rfl,eR,by rw [afn,afn]; rfl,by rw [aac]; omega,λl ns' fl pm pw=>?_⟩;refine gE fl λH5 s5 e5=>?_
     have nd':ns'.Nodup:=pm.nodup_iff.mpr n1
     have lt':ns'.Pairwise (·<·):=by
       have z:=List.pairwise_and_iff.mpr ⟨pw,nd'⟩;exact z.imp λ{a b} h=>by have:=h.1; have:=h.2; omega
     have ln':ns'.length<=60:=by rw [pm.length_eq,aac]; omega
     have pR:abG (λ(x:V) (n:Int)=>x=V.int n) (ns'.map V.int) ns':=by
       have key:∀ l:List Int,abG (λ(x:V) (n:Int)=>x=V.int n) (l.map V.int) l:=λl=>by
         induction l with
         | nil=>exact .nil
         | cons x l ih=>exact .cons rfl ih
       exact key ns'
     refine ⟨l,rfl,⟨_,cG.of e5⟩,λD1 fD1=>fP (R':=nQ) (F:=yg h kt) (keep:=λ_=>true) (λs r=>r.ts s.tups) (λe r=>r.ts (dN e)) fD1 e5 (by rw [aac]; omega) pR (λi x n H6 hn rx s6 b N Q1 _ q1=>?_) (λvs runs H6 s6 Ww pv pf=>?_)⟩
     . subst rx;have q2:=q1 rfl;have ml:n∈es.map (·.1):=pm.mem_iff.mp (abq hn)
       obtain ⟨l2,hl2⟩:∃ l2,zx es n=some l2:=by
         cases y:zx es n with
         | none=>exact absurd ml (Aj y)
         | some l2=>exact ⟨l2,rfl⟩
       have ail:=Es hl2;obtain ⟨ts,el,ht,em⟩:=(lsA _ ail).same (s5.trans s6);have eR6:=(s5.trans s6) _ _ eR
       have dg:eY H6 R (.int n) (some (.ref l2)):=by
         have z:=eY.k (k:=afv (some n)) eR6;rw [vR,hl2] at z;exact z
       refine ⟨R,.ref l2,rfl,dg,?_⟩
       have lts:ts.length<=60:=by
         have z1:(ts.map (·.2)).length=((kt.filter (own h n)).map yU).length:=congrArg afN em;rw [aac,aac] at z1;have z2:=af5 (own h n) kt;omega
       have ndt:(ts.map (·.2)).Nodup:=by
         rw [em];have z:((kt.filter (own h n)).map (·.1)).Nodup:=(amO _ alT).nodup nd;rw [abJ,ado] at z |-;exact z.imp λh e=>h (congrArg aiA e)
       refine ⟨l2,ts,rfl,cG.of el,λt ht'=>⟨[],ht t ht',λv hv=>(by cases hv)⟩,ndt,by omega,λl3 ts' fl3 Uz pw3=>?_⟩;refine gE fl3 λH7 s7 e7=>?_
       have pT:abG (λ(x:V) (t:aaH × (Int × Str))=>x=V.ref t.1) ((ts'.map (·.1)).map V.ref) ts':=by
         have key:∀ l:List (aaH × (Int × Str)),abG (λ(x:V) (t:aaH × (Int × Str))=>x=V.ref t.1) ((l.map (·.1)).map V.ref) l:=λl=>by
           induction l with
           | nil=>exact .nil
           | cons x l ih=>exact .cons rfl ih
         exact key ts'
       refine ⟨l3,rfl,⟨_,cG.of e7⟩,λD2 fD2=>fP (R':=fB) (F:=λt r=>r=((t.2.2,t.2.1):Row)) (keep:=λ_=>true) (λs r=>r.ts s.tups) (λe r=>r.ts (dN e)) fD2 e7 (by rw [aac,aac,Uz.length_eq]; omega) pT (λj y t H8 hj ry s8 b' N' Q3 _ q3=>?_) (λws rs H8 s8 Ux pw8 pf8=>?_)⟩
       . subst ry;have et:H8 t.1=some (.tup [.int t.2.1,.str t.2.2]):=(s7.trans s8) _ _ (ht t (Uz.mem_iff.mp (abq hj)));refine ⟨t.1,_,rfl,bQ.of et,rfl,_,_,rfl,_,_,rfl,rfl,?_⟩;refine ⟨by show 2<=sizeLine; omega,λp8 hp8=>?_⟩;exact q3 rfl _ _ _ ((Same.refl H8).upd hp8) ⟨p8,rfl,au⟩ rfl
       . have s9:=s7.trans s8;refine ⟨D2,ws,rfl,.inl ⟨cG.of Ux,λp8 hp8=>?_⟩⟩;have s10:Same H8 (upd H8 p8 (.tup ws)):=(Same.refl H8).upd hp8;refine q2 _ _ rs (s9.trans s10) ⟨p8,ws,rfl,au,aA (λ_ _ z=>z.ts s10.tups) pw8⟩ ?_;rw [afY.mpr (λ_ _=>rfl)] at pf8
         have ers:rs.map Om=ts'.map (·.2):=by
           have key:∀ {l:List (aaH × (Int × Str))} {m:List Row},abG (λt r=>r=((t.2.2,t.2.1):Row)) l m->m.map Om=l.map (·.2):=λ{l m} z=>by
             induction z with
             | nil=>rfl
             | cons h _ ih=>rw [abn,abn,ih,h]; rfl
           exact key pf8
         refine ⟨?_,?_⟩
         . rw [ers];refine (Uz.map _).trans ?_;rw [em]
         . rw [ers,ado];exact pw3
     . rw [afY.mpr (λ_ _=>rfl)] at pf;refine ⟨D1,vs,rfl,.inl ⟨cG.of Ww,λp8 hp8=>?_⟩⟩;have s10:Same H6 (upd H6 p8 (.tup vs)):=(Same.refl H6).upd hp8;refine q _ runs _ ⟨p8,vs,rfl,au,aA (λ_ _ z=>z.ts s10.tups) pv⟩ ⟨ns',lt',λn=>?_,pf⟩ (((sH.trans s5).trans s6).trans s10);rw [pm.mem_iff,mem n]
section
variable {H1:Hp} {D:aaH} {σ0:St} {g:BI->TG} {te:BI->TE} {End:Hp->Prop} {α β:Type}
theorem uq {K:aaf} {R:V->α->Prop} {R':Hp->V->β->Prop} {F:α->β->Prop} {a:aaH} {xs:List V} {bs:List α} (mono:∀ {H H':Hp} {v b},Same H H'->R' H v b->R' H' v b) (uX:∀ {H:Hp} {o:HO} {v b},(∃ zs,H D=some (.lst zs))->R' H v b->R' (upd H D o) v b)
   (hD:H1 D=none) (hT:H1 a=some (.tup xs)) (few:xs.length<=1000) (pr:abG R xs bs)
   (turn:∀ (i:Nat) (x:V) (c:α) (H':Hp),bs[i]?=some c->R x c->Same H1 H'->∀ b (Q:VK),(∀ v g8 y,Same H' g8->R' g8 v y->F c y->Q v g8)->g b x σ0 H' fun σ2 H2=>te b σ2 H2 Q)
   (fin:∀ vs ys H',Same H1 H'->H' D=some (.lst vs)->abG (R' H') vs ys->abG F bs ys->End H') :
   ∃ W:Nat->Nat->Hp->Prop,(∃ m,W 0 m (upd H1 D (.lst [])))/\∀ b,jL (Vd K a) (g b) (Vs) (jT D (te b)) σ0 End W :=
 wL (xs:=xs) (λi H'=>∃ zs ys,dX H1 H' D zs/\zs.length<=i/\abG (R' H') zs ys/\abG F (bs.take i) ys) ⟨[],[],dX.start hD,abH _,.nil,.nil⟩ (λi H' _ hz=>by obtain ⟨_,_,G,_⟩:=hz; exact bQ.of (G.same _ _ hT)) (λH' hz=>by
   obtain ⟨zs,ys,G,_,pz,pf⟩:=hz;rw [pr.length,acL] at pf;exact fin zs ys H' G.same G.at' pz pf) (λi x H' hx hi hz b=>by
   have jH:sizeLine=16777216:=aby;obtain ⟨zs,ys,G,lz,pz,pf⟩:=hz;obtain ⟨c,hc,rc⟩:=bh pr hx;refine turn i x c H' hc rc G.same b _ (λv g8 y s r f=>?_);refine ⟨zs,(G.more s).at',by omega,nx hi ⟨zs++[v],ys++[y],(G.more s).put hD v,by rw [aay]; simp; omega,?_,by rw [abz,hc]; exact bC pf (.cons f .nil)⟩⟩
   exact bC (aA (λ_ _ z=>uX ⟨_,(G.more s).at'⟩ (mono s z)) pz) (.cons (uX ⟨_,(G.more s).at'⟩ r) .nil))
end
noncomputable def yp (H:Hp) (kv:List Key × V) (l:Letter):Prop:=kv.1=kP l.1/\∃ b,kv.2=.ref b/\H b=some (.tup [.int l.2.1,nM l.2.2])
theorem yp.ts {H H':Hp} {kv:List Key × V} {l:Letter} (h:yp H kv l) (s:bV H H'):yp H' kv l:=let ⟨a,b,e,g⟩:=h; ⟨a,b,e,s _ _ g⟩
noncomputable def RL (H:Hp) (a:aaH) (ls:List Letter):Prop:=∃ kvs,H a=some (.dT kvs)/\abG (yp H) kvs ls
noncomputable def Ak (kt:List aQ) (k:Str × Str):Bool:=decide (k.1∈kt.map (·.1)) && decide (k.2∈kt.map (·.1))
theorem mq {H:Hp} {kvs:List (Key × V)} {kt:List aQ} (p:abG (jz H) kvs kt) (n:Str):(cL kvs (.inr n)).isSome=decide (n∈kt.map (·.1)):=by
 obtain ⟨h1,h2⟩:=kJ (n:=n) p;cases e:ktM kt n with
 | none =>
   rw [h1 e];refine (decide_eq_false λz=>?_).symm;have:=vQ.mpr z;rw [e] at this;cases this
 | some q =>
   obtain ⟨b,h3,_⟩:=h2 q e;rw [h3];exact (decide_eq_true (vQ.mp (by rw [e]; rfl))).symm
theorem Ka {H:Hp} {k:Str × Str}:∀ {kvs:List (List Key × V)} {ls:List Letter},abG (yp H) kvs ls->k∈ls.map ab5->∃ l∈ls,l.1=k/\∃ b,cL kvs (kP k)=some (.ref b)/\H b=some (.tup [.int l.2.1,nM l.2.2])
 | _,_,.nil,h=>by cases h
 | kv :: _,l :: _,.cons h t,hk=>by
   obtain ⟨h1,b,h2,h3⟩:=h;by_cases z:l.1=k
   . exact ⟨l,abw,z,b,by rw [cT (by rw [h1,z]),h2],h3⟩
   . rw [abn,abu] at hk;obtain ⟨l',m,e,b',v,g⟩:=Ka t (hk.resolve_left λy=>z y.symm);exact ⟨l',abk _ m,e,b',by rw [cO (by rw [h1]; exact λy=>z (tO y))]; exact v,g⟩
theorem RN {H:Hp} {kvs:List (List Key × V)} {ls:List Letter} (p:abG (yp H) kvs ls):kvs.map (·.1)=(ls.map ab5).map kP:=by
 induction p with
 | nil=>rfl
 | cons h _ ih=>rw [abn,abn,abn,ih,h.1]
noncomputable def ur (kt:List aQ) (h h':aL):Prop:=h'.name=h.name/\h'.low=h.low/\h'.high=h.high/\h'.aW=h.aW/\yh h.name kt h'.runs
noncomputable def mV (kt:List aQ) (ls ls':List Letter):Prop:=ls'.Perm (ls.filter λl=>Ak kt l.1)/\(ls'.map ab5).Pairwise (λa b=>Qd a b=true)
theorem pN {kt:List aQ} {h a b:aL} (x:ur kt h a) (y:ur kt h b):a=b:=by
 obtain ⟨a1,a2,a3,a4,a5⟩:=a;obtain ⟨b1,b2,b3,b4,b5⟩:=b;obtain ⟨x1,x2,x3,x4,x5⟩:=x;obtain ⟨y1,y2,y3,y4,y5⟩:=y;have e5:a5=b5:=Er x5 y5;simp only at x1 x2 x3 x4 y1 y2 y3 y4;subst x1 x2 x3 x4 e5;rw [<- y2,<- y3,<- y4,y1]
theorem mz {kt:List aQ} {ls a b:List Letter} (x:mV kt ls a) (y:mV kt ls b):a=b:=by
 have z:∀ {l:List Letter},(l.map ab5).Pairwise (λa b=>Qd a b=true)->l.Pairwise (λa b=>Qd a.1 b.1=true):=λh=>ado.mp h
 exact (x.1.trans y.1.symm).eq_of_pairwise (λa b _ _ h1 h2=>by have h3:=lV.trans _ _ _ h1 h2; rw [lV.Qc] at h3; cases h3) (z x.2) (z y.2)
theorem Wx {ls:List Letter} (n:(ls.map ab5).Nodup) {a b:Letter} (ha:a∈ls) (hb:b∈ls) (e:a.1=b.1):a=b:=by
 obtain ⟨i,hi,ei⟩:=ac5 ha;obtain ⟨j,hj,ej⟩:=ac5 hb;have a1:(ls.map ab5)[i]?=some a.1:=by rw [aaJ,aaj hi,ei]; rfl
 have a2:(ls.map ab5)[j]?=some a.1:=by rw [aaJ,aaj hj,ej,e]; rfl
 have ij:=(agL (by rw [aac]; exact hi) n).mp (a1.trans a2.symm);subst ij;rw [<- ei,ej]
theorem Et {kt:List aQ} {ls ls':List Letter} {ks:List (Str × Str)} (n:(ls.map ab5).Nodup) (pk:ks.Perm (ls.map ab5)) (pw:ks.Pairwise (λa b=>Qd a b=true)) (pf:abG (λ(k:Str × Str) (l:Letter)=>l∈ls/\l.1=k) (ks.filter (Ak kt)) ls'):mV kt ls ls':=by
 have e:ls'.map ab5=ks.filter (Ak kt):=by
   have key:∀ {m:List (Str × Str)} {l:List Letter},abG (λ(k:Str × Str) (l:Letter)=>l∈ls/\l.1=k) m l->l.map ab5=m:=λz=>by
     induction z with
     | nil=>rfl
     | cons h _ ih=>rw [abn,ih,h.2]
   exact key pf
 have sub:∀ l∈ls',l∈ls:=λl hl=>by
   obtain ⟨i,hi,ei⟩:=ac5 hl;obtain ⟨k,_,h1,_⟩:=fu pf (aaj hi);rw [<- ei]; exact h1
 have nk:ks.Nodup:=pk.nodup_iff.mpr n;have n':(ls'.map ab5).Nodup:=by rw [e]; exact nk.filter _
 have nls:∀ {l:List Letter},(l.map ab5).Nodup->l.Nodup:=λ{l} h=>by
   rw [abJ,ado] at h;exact h.imp λh z=>h (by rw [z])
 refine ⟨?_,by rw [e]; exact pw.filter _⟩;refine (al4 (nls n') ((nls n).filter _)).mpr λl=>⟨λh=>?_,λh=>?_⟩
 . refine aej.mpr ⟨sub l h,?_⟩;have:l.1∈ks.filter (Ak kt):=by rw [<- e]; exact abj.mpr ⟨l,h,rfl⟩
   exact (aej.mp this).2
 . obtain ⟨h1,h2⟩:=aej.mp h
   have h3:l.1∈ls'.map ab5:=by
     rw [e];exact aej.mpr ⟨pk.mem_iff.mpr (abj.mpr ⟨l,h1,rfl⟩),h2⟩
   obtain ⟨l2,m2,e2⟩:=abj.mp h3;rw [<- Wx n (sub l2 m2) h1 e2];exact m2
theorem iu.same {H H':Hp} {a:aaH} {kt:List aQ} (h:iu H a kt) (s:Same H H'):iu H' a kt:=let ⟨kvs,e,p⟩:=h; ⟨kvs,s _ _ e,aA (λ_ _ z=>z.ts s.tups) p⟩
theorem RL.same {H H':Hp} {a:aaH} {ls:List Letter} (h:RL H a ls) (s:Same H H'):RL H' a ls:=let ⟨kvs,e,p⟩:=h; ⟨kvs,s _ _ e,aA (λ_ _ z=>z.ts s.tups) p⟩
noncomputable def uw:Sp:=λvs H Q _=>∃ (x:V) (ak al:aaH) (hs:List aL) (kt:List aQ) (ls:List Letter),vs=[x,.ref ak,.ref al]/\jy H x hs/\hs.length<=6/\iu H ak kt/\kt.length<=60/\(kt.map (·.1)).Nodup/\RL H al ls/\ls.length<=60/\(ls.map ab5).Nodup /\
 ∀ (v:V) (hs':List aL) (ls':List Letter) (H':Hp),dY H' v hs' ls'->abG (ur kt) hs hs'->mV kt ls ls'->Same H H'->Q v H'
theorem rD:aZ ["houses","rows","letters","full","sent_and_taken"] ["houses","rows","letters"] (aJ j6):=nj
theorem Ia {f:aaH} {fd:abL} (F:dO K "put_down" "put_down" j6 f fd) (T:Txt mg t8 t6 tR tL) (RP:Cl P w K mg base 1 "runs_of" ["house","rows"] yj):aV P w K mg base dF 2 f fd ["houses","rows","letters"] uw:=by
 refine F.ok rD (λvs H Q E h=>?_) (λcdv A outer s H vs Q E hr h=>?_)
 . obtain ⟨x,ak,al,hs,kt,ls,rfl,_⟩:=h;rfl
 . obtain ⟨x,ak,al,hs,kt,ls,rfl,⟨c,vh,rfl,ec,pc⟩,aip,hk,adu,nd,hl,aiq,nl,q⟩:=h;have jH:sizeLine=16777216:=aby;have lc:=pc.length;refine ⟨_,(aq (pZ 3 rD (bJ bM rfl T.tuple acn (aj (cD (gP:=aJ j6) (own:=["house"]) (cap:=["rows"]) (ix:=[1]) rfl rfl iR (iy (pV 0)) (λb=>(bD (i:=0) (show (["house","rows"]:List Str).Nodup by decide +kernel) rfl (afO rfl))) (λb=>cN) (λb=>(bx rQ (pV 0) (bH (aj (pC RP hr (aj (pX dM (pV 0) aD) (aj (pV 1) ao))) ao))))) ao))) (aq (wK (i:=4) rD.nd rfl rfl (gP:=aJ j6) (own:=["pair"]) (cap:=["rows"]) (ix:=[1]) rfl rfl iR (cX (aM (lZ rfl) rfl T.sorted adt (aj (pV 2) ao))) (λb=>(bD (i:=0) (show (["pair","rows"]:List Str).Nodup by decide +kernel) rfl (afO rfl))) (λb=>(vD (uP (lO (jr (cU hr) (pX dM (pV 0) aD) (pV 1))) (pw_and1 (lO (jr (cU hr) (pX dM (pV 0) aD) (pV 1))))))) (λb=>(pV 0))) (aG (bf (bH (aj (pV 3) (aj (bJ bM rfl T.tuple acn (aj (cD (gP:=aJ j6) (own:=["pair"]) (cap:=["letters"]) (ix:=[2]) rfl rfl iR (cX (pV 4)) (λb=>(bD (i:=0) (show (["pair","letters"]:List Str).Nodup by decide +kernel) rfl (afO rfl))) (λb=>cN) (λb=>(bx rQ (pV 0) (eN (cU hr) (pV 1) (pV 0) (λ_ _=>rfl))))) ao)) ao))))))),?_⟩;refine ⟨c,rfl,⟨_,bQ.of ec⟩,λD1 fD1=>uq (R':=gq) (F:=ur kt) (λs r=>r.ts s.tups) (λe r=>r.ts (dN e)) fD1 ec (by omega) pc (λi x h H2 hi rx s2 b Q1 q1=>?_) (λvs1 hs' H2 s2 Ww pv1 pf1=>?_)⟩
   . obtain ⟨a1,rfl,e1⟩:=rx;have e2:=s2 _ _ e1;refine cg (bQ.of e2) (i:=0) (v:=.str h.name) (by rfl) ?_;refine ⟨h.name,ak,kt,rfl,hk.same s2,adu,nd,λy runs H3 hy ro s3=>?_⟩;refine ⟨by show 1<=sizeLine; omega,λp3 hp3=>?_⟩;refine gE hp3 λH4 s4 e4=>?_
     refine ⟨a1,p3,_,_,rfl,rfl,bQ.of ((s3.trans s4) _ _ e2),bQ.of e4,by simp,by show 4+1<=sizeLine; omega,λz=>(by cases z),λ_ p5 Uv=>?_⟩;have s5:Same H4 (upd H4 p5 (.tup ([.str h.name,.int h.low,.int h.high,.int h.aW]++[y]))):=(Same.refl H4).upd Uv;exact q1 _ _ ⟨h.name,h.low,h.high,h.aW,runs⟩ ((s3.trans s4).trans s5) ⟨p5,y,rfl,au,hy.ts (s4.trans s5).tups⟩ ⟨rfl,rfl,rfl,rfl,ro⟩
   . refine ⟨D1,vs1,rfl,.inl ⟨cG.of Ww,λp3 hp3=>?_⟩⟩;refine gE hp3 λH3 s3 e3=>?_
     have S3:=s2.trans s3;have hh3:j4 H3 (.ref p3) hs':=⟨p3,vs1,rfl,e3,aA (λ_ _ z=>z.ts s3.tups) pv1⟩;obtain ⟨oH,el,pl⟩:=hl.same S3;refine ⟨al,oH,ls.map ab5,rfl,el,RN pl,by rw [aac]; omega,λl as ks' fl pm pw la at'=>?_⟩;refine gE fl λH4 s4 e4=>?_
     have at4:∀ (i:Nat) (a:aaH) (k:Str × Str),as[i]?=some a->ks'[i]?=some k->H4 a=some (.tup [.str k.1,.str k.2]):=λi a k h1 h2=>s4 _ _ (at' i a k h1 h2)
     have Yr:ks'.length=ls.length:=by rw [pm.length_eq,aac]
     have pas:abG (λ(x:V) (k:Str × Str)=>∃ a,x=.ref a/\H4 a=some (.tup [.str k.1,.str k.2])) (as.map V.ref) ks':=by
       have key:∀ (as:List aaH) (ks:List (Str × Str)),as.length=ks.length->(∀ (i:Nat) (a:aaH) (k:Str × Str),as[i]?=some a->ks[i]?=some k->H4 a=some (.tup [.str k.1,.str k.2]))->abG (λ(x:V) (k:Str × Str)=>∃ a,x=.ref a/\H4 a=some (.tup [.str k.1,.str k.2])) (as.map V.ref) ks:=by
         intro as
         induction as with
         | nil=>intro ks hl _; rw [aeu hl.symm]; exact .nil
         | cons a as ih =>
           intro ks hl h;cases ks with
           | nil=>simp at hl
           | cons k ks=>exact .cons ⟨a,rfl,h 0 a k rfl rfl⟩ (ih ks (by simpa using hl) λi a' k' h1 h2=>h (i+1) a' k' (by simpa using h1) (by simpa using h2))
       exact key as ks' la at4
     obtain ⟨kkv,ek,pk⟩:=hk.same (S3.trans s4);refine ⟨l,rfl,⟨_,cG.of e4⟩,λD2 fD2=>fP (R':=λH x (k:Str × Str)=>∃ a,x=.ref a/\H a=some (.tup [.str k.1,.str k.2])) (F:=λk k'=>k=k') (keep:=Ak kt) (λs r=>let ⟨a,e,g⟩:=r; ⟨a,e,s _ _ g⟩) (λe r=>let ⟨a,e',g⟩:=r; ⟨a,e',dN e _ _ g⟩) fD2 e4 (by rw [aac]; omega) pas (λi x k H5 hi rx s5 b N Q1 n1 q1=>?_) (λvs2 ks2 H5 s5 Ux pv2 pf2=>?_)⟩
     . obtain ⟨a,rfl,ea⟩:=rx;have ea5:=s5 _ _ ea;have pk5:=aA (λ_ _ z=>jz.ts z s5.tups) pk;refine cg (bQ.of ea5) (i:=0) (v:=.str k.1) (by rfl) ?_;refine ⟨ak,_,rfl,eY.k (k:=acW k.1) (s5 _ _ ek),_,rfl,?_⟩;rw [mq pk5];refine eZ (λz1=>?_) (λz1=>?_)
       . refine cg (bQ.of ea5) (i:=1) (v:=.str k.2) (by rfl) ?_;refine ⟨ak,_,rfl,eY.k (k:=acW k.2) (s5 _ _ ek),_,rfl,?_⟩;rw [mq pk5];refine eZ (λz2=>?_) (λz2=>?_)
         . exact q1 (by unfold Ak; rw [z1,z2]; rfl) _ _ k (Same.refl _) ⟨a,rfl,ea5⟩ rfl
         . exact n1 (by unfold Ak; rw [aiE.mpr z2,afB]) _ (Same.refl _)
       . exact n1 (by unfold Ak; rw [aiE.mpr z1,afK]) _ (Same.refl _)
     . have ek2:ks2=ks'.filter (Ak kt):=by
         have key:∀ {l m:List (Str × Str)},abG (λk k'=>k=k') l m->m=l:=λz=>by
           induction z with
           | nil=>rfl
           | cons h _ ih=>rw [ih,h]
         exact key pf2
       subst ek2;have S5:=(S3.trans s4).trans s5;have f2:=af5 (Ak kt) ks';have lv2:=pv2.length;refine ⟨D2,rfl,⟨_,cG.of Ux⟩,λD3 fD3=>fP (R':=aR) (F:=λk l=>l∈ls/\l.1=k) (keep:=λ_=>true) (λs r=>r.ts s.tups) (λe r=>r.ts (dN e)) fD3 Ux (by omega) pv2 (λi x k H6 hi rx s6 b N Q1 _ q1=>?_) (λvs3 ls' H6 s6 eD3 pv3 pf3=>?_)⟩
       . obtain ⟨a,rfl,ea⟩:=rx;have ea6:=s6 _ _ ea;obtain ⟨aiw,el6,pl6⟩:=hl.same (S5.trans s6);have mk:k∈ls.map ab5:=pm.mem_iff.mp (aej.mp (abq hi)).1;obtain ⟨l0,ml0,el0,bb,vv,gb⟩:=Ka pl6 mk
         have dg:eY H6 al (.ref a) (some (.ref bb)):=by
           have z:=eY.t (k:=kP k) el6 (b:=a) ea6;rw [vv] at z;exact z
         refine ⟨al,.ref bb,rfl,dg,?_⟩;refine ⟨a,bb,_,_,rfl,rfl,bQ.of ea6,bQ.of gb,by simp,by show 2+2<=sizeLine; omega,λz=>(by cases z),λ_ p7 hp7=>?_⟩;refine q1 rfl _ _ l0 ((Same.refl H6).upd hp7) ⟨p7,rfl,?_⟩ ⟨ml0,el0⟩;rw [au,el0];rfl
       . rw [afY.mpr (λ_ _=>rfl)] at pf3;refine ⟨D3,vs3,rfl,.inl ⟨cG.of eD3,λp7 hp7=>?_⟩⟩;refine gE hp7 λH7 s7 e7=>?_
         refine ⟨by show 2<=sizeLine; omega,λp8 hp8=>?_⟩;have s8:Same H7 (upd H7 p8 (.tup [.ref p3,.ref p7])):=(Same.refl H7).upd hp8;have S38:=(((s4.trans s5).trans s6).trans s7).trans s8;refine q _ hs' ls' _ ⟨p8,_,_,rfl,au,hh3.ts S38.tups,⟨p7,vs3,rfl,s8 _ _ e7,aA (λ_ _ z=>z.ts (s7.trans s8).tups) pv3⟩⟩ pf1 (Et nl pm pw pf3) (S3.trans S38)
end Eb
namespace L2
open PySem PySem.Spec PyProof.Rows
section
variable {prog:abt} {w:acU} {A:acX} {E:aat->aav->Prop} {s:aav}
theorem Wy {d:aaH} (nS:(d == sysModules)=false) :
   MeetsIn prog w (afD.«dict.__len__» ⟨[.ref d],[]⟩) (λ_ R s=>∃ es ep,zf s.heap d es ep/\R (.ok (.ret (.int es.size s.toks))) { s with toks:=s.toks+1 }) :=
 .of_wp λA R s ⟨es,ep,hm,q⟩=>by
   obtain ⟨o,e,_,dat⟩:=hm;show wpAny _ _ (dictSize d >>= _) _ _ _;unfold dictSize;refine El (El (akD e dat (aau (?_))));show wpAny _ _ (Builtin.Dict.pendingCount d >>= _) _ _ _;refine El (wpAny_pendingCount_other nS (wpAny_ret_mkInt ?_));rw [Nat.add_zero]; exact q
theorem Wz {d:aaH} {es:Array ah3} {ep:Nat} {Q:aat->aav->Prop} (nS:(d == sysModules)=false) (hm:zf s.heap d es ep) (fit:(es.size:Int)<2 ^ 63) (q:∀ t tk,Q (.int es.size t) { s with toks:=tk }) :
   wpAny (model prog w) A (call (.builtin "len") [.ref d]) Q E s:=by
 refine ahk kind_len plain_len entry_len (args_len1 _) ?_;unfold afD.«len»;refine El (m:=oneArg "len" _) (aau (?_))
 refine El (m:=callSpecial? (.ref d) (afR "__len__")) (afw (name:=afR "__len__") hm.typ anv
   (al9 anv hm.typ PySem.F.entry_dict_len (PySem.F.args_dict_len_1 _) (Wy nS) ⟨es,ep,hm,?_⟩))
 refine El (ac6 (aau (El (wpAny_letGo ?_))));show wpAny _ _ (if ((es.size:Nat):Int)<0 then _ else _) _ _ _;rw [if_neg (show ¬ ((es.size:Nat):Int)<0 by omega)];show wpAny _ _ (if ((es.size:Nat):Int) ≥ 2 ^ 63 then _ else _) _ _ _;rw [if_neg (show ¬ ((es.size:Nat):Int) ≥ 2 ^ 63 by omega)];exact El (ape (aau ⟨_,rfl,q _ _⟩))
end
theorem Al {X:Cx}:dU X (.builtin "len") (λxs H Q=>∃ a kvs,xs=[V.ref a]/\H a=some (.dT kvs)/\Q (.int (afN kvs)) H):=by
 intro pins s σ H xs us Q I r h;obtain ⟨a,kvs,rfl,ha,q⟩:=h;obtain ⟨u,rfl,ru⟩:=vals1 r;cases ru;obtain ⟨z,nS,ys,rel,o,es,ep,g1,g2,g3,g4,g5⟩:=(show bT X.prog X.w H s.heap a (.dT kvs) from I.hok a _ ha);have e:es.size=kvs.length:=by rw [<- abC,g4,aac,<- ago rel]
 have jH:sizeLine=16777216:=aby;refine Wz nS ⟨o,g1,g2,g3⟩ (by omega) λt tk=>?_
 rw [e];exact ⟨.int kvs.length,H,I.kept (t':=tk) λ_ _ e=>e,⟨t,rfl⟩,q⟩
end L2
namespace Eb
open PySem L2 GF
variable {P:abt} {w:acU} {K:aaf} {mg:Str->Option aat} {base:afp} {t8 t6 tR tL t9:Tok} {C NW:aaH} {c:Nat->aaH}
noncomputable abbrev Ib:air:=inClass (top 56) 0
noncomputable abbrev pO:air:=inClass (top 56) 1
noncomputable abbrev mC:air:=inClass (top 56) 2
noncomputable abbrev rE:air:=inClass (top 56) 3
noncomputable abbrev pP:air:=inClass (top 56) 4
noncomputable abbrev ux:air:=inClass (top 56) 6
noncomputable def zy (ch:V) (ak al ae:aaH):List (Str × V):=[("houses",ch),("kept",.ref ak),("letters",.ref al),("ends",.ref ae)]
theorem RQ (ch:V) (ak al ae:aaH):(zy ch ak al ae).lookup ("houses" : Str)=some ch:=by rfl
theorem jA (ch:V) (ak al ae:aaH):(zy ch ak al ae).lookup ("kept" : Str)=some (.ref ak):=by rfl
theorem oJ (ch:V) (ak al ae:aaH):(zy ch ak al ae).lookup ("letters" : Str)=some (.ref al):=by rfl
theorem RT (ch:V) (ak al ae:aaH):(zy ch ak al ae).lookup ("ends" : Str)=some (.ref ae):=by rfl
theorem RV (ch:V) (ak Kc al ae:aaH):gO "kept" (.ref Kc) (zy ch ak al ae)=zy ch Kc al ae:=by rfl
noncomputable def h0 (hs:List aL):Str:=(hs.map aL.name).headD ""
noncomputable def Ke (H:Hp) (a:aaH) (n:Str):Prop:=∃ kvs:List (Key × V),H a=some (.dK kvs)/\(kvs.length<=1/\∀ kv∈kvs,kv.1=.inr n)/\∀ k v,cL kvs k=some v->∃ b r,v=.ref b/\H b=some (.tup [.int 0,.int r])
structure iU (C:aaH) (H:Hp) (x dx:aaH) (ch:V) (ak al ae:aaH) (hs:List aL) (kt:List aQ) (ls:List Letter):Prop where
 ob:H x=some (.ins C dx (zy ch ak al ae))
 ck:jy H ch hs
 kp:iu H ak kt
 lt:RL H al ls
 en:Ke H ae (h0 hs)
 ne:ak≠ae
 nd:(kt.map (·.1)).Nodup
 nl:(ls.map ab5).Nodup
 fk:kt.length<=24
 fl:ls.length<=24
 f6:hs.length<=6
structure KCls (K:aaf) (mg:Str->Option aat) (C:aaH) (t9:Tok):Prop where
 cl:Cls K C
 nH:jR K C "houses"
 nK:jR K C "kept"
 nL:jR K C "letters"
 nE:jR K C "ends"
 mgC:mg "Keeper" = some (.ref C)
 run:mg "MOST_RUN" = some (.int 9 t9)
theorem Ke.same {H H':Hp} {a:aaH} {n:Str} (h:Ke H a n) (s:Same H H'):Ke H' a n:=let ⟨kvs,e,l,f⟩:=h; ⟨kvs,s _ _ e,l,λk v hv=>let ⟨b,r,e1,e2⟩:=f k v hv; ⟨b,r,e1,s _ _ e2⟩⟩
theorem jy.ts {H H':Hp} {v:V} {hs:List aL} (h:jy H v hs) (s:bV H H'):jy H' v hs:=let ⟨a,vs,e,g,p⟩:=h; ⟨a,vs,e,s _ _ g,aA (λ_ _ z=>qM.ts z s) p⟩
theorem iU.same {C:aaH} {H H':Hp} {x dx:aaH} {ch:V} {ak al ae:aaH} {hs:List aL} {kt:List aQ} {ls:List Letter} (h:iU C H x dx ch ak al ae hs kt ls) (s:Same H H'):iU C H' x dx ch ak al ae hs kt ls :=
 ⟨s _ _ h.ob,h.ck.ts s.tups,h.kp.same s,h.lt.same s,h.en.same s,h.ne,h.nd,h.nl,h.fk,h.fl,h.f6⟩
noncomputable def vU (C:aaH):Sp:=λvs H Q _=>∃ (x dx:aaH) (ch:V) (hs:List aL),vs=[.ref x,ch]/\H x=some (.ins C dx [])/\jy H ch hs/\cH hs/\∀ (ak al ae:aaH) (H':Hp),H ak=none->H al=none->H ae=none->iU C H' x dx ch ak al ae hs [] []->(∀ b o,b≠x->H b=some o->H' b=some o)->Q .non H'
noncomputable def kO (C:aaH):Sp:=λvs H Q _=>∃ (x dx:aaH) (ch:V) (ak al ae:aaH) (hs:List aL) (kt:List aQ) (ls:List Letter) (h:Str) (r:Int),vs=[.ref x,.str h,.int r]/\iU C H x dx ch ak al ae hs kt ls/\h∈hs.map aL.name/\0<=r/\r<=9/\∀ H',Same H H'->Q .non H'
noncomputable def mD (C:aaH):Sp:=λvs H Q _=>∃ (x dx:aaH) (ch:V) (ak al ae:aaH) (hs:List aL) (kt:List aQ) (ls:List Letter) (h n:Str) (r i:Int),vs=[.ref x,.str h,.int r,.str n,.int i]/\iU C H x dx ch ak al ae hs kt ls/\Good n/\Good h/\(∀ p∈kt,Good p.2.1)/\n ∉ kt.map (·.1)/\(h,r,i) ∉ kt.map (·.2)/\∀ H',Same H H'->Q .non H'
theorem WD:aZ ["self","houses"] ["self","houses"] (aJ Ib):=nj
theorem WK {f:aaH} {fd:abL} (F:dO K "__init__" "Keeper.__init__" Ib f fd) (T:Txt mg t8 t6 tR tL) (TC:KCls K mg C t9) (M9:Cl P w K mg base 4 "are_empty_houses" ["thing"] uh):aV P w K mg base dF 5 f fd ["self","houses"] (vU C):=by
 refine F.ok WD (λvs H Q E h=>?_) (λcdv A outer s H vs Q E hr h=>?_)
 . obtain ⟨x,dx,ch,hs,rfl,_⟩:=h;rfl
 . obtain ⟨x,dx,ch,hs,rfl,ex,hc,gh,q⟩:=h;refine ⟨_,(aq (bW (cP (sZ (pC M9 hr (aj (pV 1) ao)))) (aG (dJ)) aU) (aq (wB (pV 0) (pV 1) rfl) (aq (wB (pV 0) iQ rfl) (aq (wB (pV 0) Dv rfl) (aG (wB (pV 0) iQ rfl)))))),?_⟩;refine ⟨ch,hs,rfl,hc,gh,λH1 s1=>?_⟩;have ex1:=s1 _ _ ex;refine ⟨x,C,dx,[],rfl,ex1,TC.cl,TC.nH,by show 0<1000; decide,?_⟩;intro ak fk;have Ys:x≠ak:=λz=>by rw [<- z,au] at fk; cases fk
   refine ⟨x,C,dx,_,rfl,by rw [aB Ys]; exact au,TC.cl,TC.nK,by show 1<1000; decide,?_⟩;intro al fl;have nxl:x≠al:=λz=>by rw [<- z,au] at fl; cases fl
   refine ⟨x,C,dx,_,rfl,by rw [aB nxl]; exact au,TC.cl,TC.nL,by show 2<1000; decide,?_⟩;intro ae fe;have nxe:x≠ae:=λz=>by rw [<- z,au] at fe; cases fe
   refine ⟨x,C,dx,_,rfl,by rw [aB nxe]; exact au,TC.cl,TC.nE,by show 3<1000; decide,?_⟩;have fk1:H1 ak=none:=by rw [aB (acV Ys)] at fk; exact fk
   have nlk:al≠ak:=λz=>by rw [z,aB (acV Ys),au] at fl; cases fl
   have fl1:H1 al=none:=by rw [aB (acV nxl),aB nlk,aB (acV nxl)] at fl; exact fl
   have nel:ae≠al:=λz=>by rw [z,aB (acV nxl),au] at fe; cases fe
   have nek:ae≠ak:=λz=>by rw [z,aB (acV Ys),aB (acV nlk),aB (acV Ys),au] at fe; cases fe
   have fe1:H1 ae=none:=by rw [aB (acV nxe),aB nel,aB (acV nxe),aB nek,aB (acV nxe)] at fe; exact fe
   have sm:∀ b o,b≠x->H b=some o->(upd (upd (upd (upd (upd (upd (upd H1 x (.ins C dx (gO "houses" ch []))) ak (.dK [])) x (.ins C dx (gO "kept" (.ref ak) (gO "houses" ch [])))) al (.dT [])) x (.ins C dx (gO "letters" (.ref al) (gO "kept" (.ref ak) (gO "houses" ch []))))) ae (.dK [])) x (.ins C dx (gO "ends" (.ref ae) (gO "letters" (.ref al) (gO "kept" (.ref ak) (gO "houses" ch [])))))) b=some o:=λb o n e=>by
     have e1:=s1 _ _ e;rw [aB n,aB (aH e1 fe1),aB n,aB (aH e1 fl1),aB n,aB (aH e1 fk1),aB n];exact e1
   refine q ak al ae _ (s1.free fk1) (s1.free fl1) (s1.free fe1) ⟨au,hc.ts λb xs e=>sm b _ (λz=>by rw [z,ex] at e; cases e) e,⟨[],?_,.nil⟩,⟨[],?_,.nil⟩,⟨[],?_,⟨abH _,λkv hv=>(by cases hv)⟩,λk v hv=>(by cases hv)⟩,acV nek,.nil,.nil,abH _,abH _,gh.hi⟩ sm
   . rw [aB (acV Ys),aB (acV nek),aB (acV Ys),aB (acV nlk),aB (acV Ys),au]
   . rw [aB (acV nxl),aB (acV nel),aB (acV nxl),au]
   . rw [aB (acV nxe),au]
theorem Ie:aZ ["self","house","run"] ["self","house","run"] (aJ pO):=nj
theorem Ig {f:aaH} {fd:abL} (F:dO K "need_run" "Keeper.need_run" pO f fd) (T:Txt mg t8 t6 tR tL) (TC:KCls K mg C t9) (iI:Cl P w K mg base 1 "is_whole" ["thing"] (lW K)):aV P w K mg base dF 2 f fd ["self","house","run"] (kO C):=by
 refine F.ok Ie (λvs H Q E h=>?_) (λcdv A outer s H vs Q E hr h=>?_)
 . obtain ⟨x,dx,ch,ak,al,ae,hs,kt,ls,h,r,rfl,_⟩:=h;rfl
 . obtain ⟨x,dx,ch,ak,al,ae,hs,kt,ls,h,r,rfl,kp,mh,r0,r9,q⟩:=h;have jH:sizeLine=16777216:=aby;have f6:=kp.f6;refine ⟨_,(aq (bW (mY (cP (sZ (aM jZ rfl T.yQ abl (aj (pV 1) (aj (lN (v:=.ty "str") rfl T.str ano rfl) ao))))) (pw_or1 (mO Bq (pV 1) (cD (gP:=aJ pO) (own:=["known"]) (cap:=[]) (ix:=[]) rfl rfl iR (iy (dw (pV 0) rfl)) (λb=>(bD (i:=0) (show (["known"]:List Str).Nodup by decide +kernel) rfl (afO rfl))) (λb=>cN) (λb=>(pX dM (pV 0) aD))) (by with_unfolding_all rfl)))) (aG (dJ)) aU) (aG (bW (mY (cP (sZ (pC iI hr (aj (pV 2) ao)))) (pw_or1 (cP (ZC oLe oLe aD (pV 2) (cM (v:=.int 9) rfl TC.run ⟨_,rfl⟩))))) (aG (dJ)) aU))),?_⟩;refine ⟨_,_,_,_,rfl,.str h,rfl,?_⟩;obtain ⟨c,vh,ec0,ec,pc⟩:=kp.ck;have lc:=pc.length;refine ⟨x,C,dx,_,ch,rfl,kp.ob,TC.cl,TC.nH,RQ _ _ _ _,?_⟩;subst ec0;refine ⟨c,rfl,⟨_,bQ.of ec⟩,λD hD=>comp_map (xs:=vh) (ys:=hs.map λh=>V.str h.name) hD (bQ.of ec) (by omega) (by rw [aac]; omega) (λi x H3 hx s4 b R hR=>?_) (λH3 s4 e2=>?_)⟩
   . obtain ⟨h,hh',ca⟩:=bh pc hx;obtain ⟨a1,rfl,g1⟩:=ca.ts s4.tups;refine cg (bQ.of g1) (i:=0) (v:=.str h.name) (by rfl) ?_;exact hR H3 _ (by rw [aaJ,hh']; rfl) (Same.refl _)
   . have inn:inV (.str h) (hs.map λh=>V.str h.name)=true:=by
       obtain ⟨h',m,rfl⟩:=abj.mp mh;exact ah4.mpr ⟨.str h'.name,abj.mpr ⟨h',m,rfl⟩,by simp [Vl]⟩
     refine ⟨D,_,rfl,.inl (cG.of e2),rfl,abP.mpr λv hv=>by obtain ⟨_,_,rfl⟩:=abj.mp hv; rfl,?_⟩;rw [inn];refine ⟨_,rfl,tU,?_⟩;refine eZ (λz=>?_) (λz=>absurd (decide_eq_true r0) z);refine eZ (λw=>by rw [decide_eq_true r9] at w; cases w) (λw=>?_);exact q H3 s4
noncomputable def zA (p:Place):ajb:=.tuple [.str p.1,.int p.2.1,.int p.2.2]
theorem Kf (p q:Place):ahH (zA p) (zA q)=decide (p=q):=by
 obtain ⟨a,b,c⟩:=p;obtain ⟨d,e,f⟩:=q;simp only [zA,ahH,aom,Bool.and_true];rw [aen];simp [Prod.mk.injEq]
theorem Cu {p:Place} (g:Good p.1):(zA p).canLay0=true:=by
 have z:=g.ok;simp [zA,agz,adA,z]
theorem Kg {ps:List Place} (g:∀ p∈ps,Good p.1):adA (ps.map zA)=true:=by
 induction ps with
 | nil=>rfl
 | cons p ps ih =>
   rw [abn];unfold adA;rw [Cu (g p abw),ih λq hq=>g q (abk _ hq)];rfl
theorem Kh {K:aaf} {H H':Hp} {kvs:List (Key × V)} {kt:List aQ} (p:abG (jz H) kvs kt) (s:bV H H'):Oi K H' (kvs.map (·.2)) ((kt.map (·.2)).map zA):=by
 induction p with
 | nil=>exact .nil
 | cons h _ ih =>
   obtain ⟨_,b,e,g⟩:=h;rw [abn,abn,abn,e];exact .cons (.tup (bQ.of (s _ _ g)) (.cons (.str _) (.cons (.int _) (.cons (.int _) .nil)))) ih
theorem uY:aZ ["self","house","run","name","reading"] ["self","house","run","name","reading"] (aJ mC):=nj
theorem Eu {f:aaH} {fd:abL} (F:dO K "need_free" "Keeper.need_free" mC f fd) (T:Txt mg t8 t6 tR tL) (TC:KCls K mg C t9) (oG:Cl P w K mg base 1 "is_name" ["thing"] (tQ K)) (iI:Cl P w K mg base 1 "is_whole" ["thing"] (lW K)):aV P w K mg base dF 2 f fd ["self","house","run","name","reading"] (mD C):=by
 refine F.ok uY (λvs H Q E h=>?_) (λcdv A outer s H vs Q E hr h=>?_)
 . obtain ⟨x,dx,ch,ak,al,ae,hs,kt,ls,h,n,r,i,rfl,_⟩:=h;rfl
 . obtain ⟨x,dx,ch,ak,al,ae,hs,kt,ls,h,n,r,i,rfl,kp,gn,gh,gk,nn,np,q⟩:=h;have jH:sizeLine=16777216:=aby;refine ⟨_,(aq (bW (mY (cP (sZ (pC oG hr (aj (pV 3) ao)))) (pw_or1 (lO (jr (cU hr) (pV 3) (dw (pV 0) rfl))))) (aG (dJ)) aU) (aG (bW (mY (cP (sZ (pC iI hr (aj (pV 4) ao)))) (pw_or1 (mO (Rz hr.units) (bH (aj (pV 1) (aj (pV 2) (aj (pV 4) ao)))) (bJ (yd rfl) rfl T.list aij (aj (J9 (dw (pV 0) rfl)) ao)) (by with_unfolding_all rfl)))) (aG (dJ)) aU))),?_⟩;refine ⟨_,rfl,gn.thing,λH1 s1=>?_⟩;rw [gn.Dh];have Am:=kp.same s1;refine ⟨x,C,dx,_,_,rfl,Am.ob,TC.cl,TC.nK,jA _ _ _ _,?_⟩;obtain ⟨kvs,ek,pk⟩:=Am.kp;refine ⟨ak,_,rfl,eY.k (k:=acW n) ek,_,rfl,?_⟩;rw [mq pk,decide_eq_false nn];refine ⟨_,rfl,tU,?_⟩;refine ⟨by show 3<=sizeLine; omega,λp hp=>?_⟩;refine gE hp λH2 s2 e2=>?_
   refine ⟨x,C,dx,_,_,rfl,s2 _ _ Am.ob,TC.cl,TC.nK,jA _ _ _ _,?_⟩;refine ⟨ak,kvs,rfl,.inl (s2 _ _ ek),λv hv=>?_⟩;refine gE hv λH3 s3 e3=>?_
   refine ⟨v,ak,kvs,rfl,e3,.inl ((s2.trans s3) _ _ ek),λl hl=>?_⟩;refine gE hl λH4 s4 e4=>?_
   refine ⟨zA (h,r,i),(kt.map (·.2)).map zA,.tup (bQ.of ((s3.trans s4) _ _ e2)) (.cons (.str _) (.cons (.int _) (.cons (.int _) .nil))),.lst (cG.of e4) (Kh pk ((s2.trans s3).trans s4).tups),Cu gh,by simp [zA,agB,afr],Kg (λp hp=>by obtain ⟨y,hy,rfl⟩:=abj.mp hp; exact gk y hy),?_⟩
   have aax:((kt.map (·.2)).map zA).any (λe=>ahH e (zA (h,r,i)))=false:=by
     rw [ama,akr];intro p hp z;have z':ahH (zA p) (zA (h,r,i))=true:=z;rw [Kf] at z';exact np (of_decide_eq_true z' ▸ hp)
   rw [aax];exact q H4 (((s1.trans s2).trans s3).trans s4)
noncomputable def Ih (C:aaH):Sp:=λvs H Q _=>∃ (x dx:aaH) (ch:V) (ak al ae:aaH) (hs:List aL) (kt:List aQ) (ls:List Letter) (h n:Str) (r i:Int),vs=[.ref x,.str h,.int r,.str n,.int i]/\iU C H x dx ch ak al ae hs kt ls/\Good n/\Good h/\(∀ p∈kt,Good p.2.1)/\n ∉ kt.map (·.1)/\(h,r,i) ∉ kt.map (·.2)/\h∈hs.map aL.name/\1<=r/\r<=9/\kt.length<24 /\
 (∀ l∈ls,aX (ktM (kt++[(n,h,r,i)])) l.1.1 l.1.2=false)/\∀ (Kc:aaH) (H':Hp),H Kc=none->iU C H' x dx ch Kc al ae hs (kt++[(n,h,r,i)]) ls->aY x H H'->Q (.str "kept") H'
theorem oK {H H':Hp} {kvs:List (Key × V)} {kt:List aQ} {n:Str} {p:Place} {b:aaH} (pk:abG (jz H) kvs kt) (nn:n ∉ kt.map (·.1)) (s:bV H H') (eb:H' b=some (.tup [.str p.1,.int p.2.1,.int p.2.2])):abG (jz H') (putK kvs (.inr n) (.ref b)) (kt++[(n,p)]):=by
 have z:(kvs.any λkv=>decide (kv.1=acW n))=false:=by
   rw [iM,mq pk,decide_eq_false nn]
 unfold putK;rw [z,if_neg aaK];exact bC (aA (λ_ _ y=>jz.ts y s) pk) (.cons ⟨rfl,b,rfl,eb⟩ .nil)
theorem WL {r i e:Int} (h:1<=r):HT.lexLe [r,i] [0,e]=false:=by
 have:¬ r=0:=by omega
 have h2:¬ r<=0:=by omega
 simp [HT.lexLe,this,h2]
theorem sO:aZ ["self","house","run","name","reading","rows"] ["self","house","run","name","reading"] (aJ rE):=nj
theorem WM {f gJ fH:aaH} {fd fJ dZ:abL} (F:dO K "tell" "Keeper.tell" rE f fd) (T:Txt mg t8 t6 tR tL) (TC:KCls K mg C t9) (jB:Cl P w K mg base 3 "is_within_a_house" ["rows","sent","taken"] kE)
   (kW:aV P w K mg base dF 3 gJ fJ ["self","house","run"] (kO C)) (kY:Meth K C "need_run" gJ) (kZ:Binds K fJ ["self","house","run"] [])
   (jC:aV P w K mg base dF 3 fH dZ ["self","house","run","name","reading"] (mD C)) (jD:Meth K C "need_free" fH) (jE:Binds K dZ ["self","house","run","name","reading"] []):aV P w K mg base dF 4 f fd ["self","house","run","name","reading"] (Ih C):=by
 refine F.ok sO (λvs H Q E h=>?_) (λcdv A outer s H vs Q E hr h=>?_)
 . obtain ⟨x,dx,ch,ak,al,ae,hs,kt,ls,h,n,r,i,rfl,_⟩:=h;rfl
 . obtain ⟨x,dx,ch,ak,al,ae,hs,kt,ls,h,n,r,i,rfl,kp,gn,gh,gk,nn,np,mh,r1,r9,UG,wi,q⟩:=h;have jH:sizeLine=16777216:=aby;refine ⟨_,(aq (cW (gj (pV 0) TC.cl kY kW hr kZ .nil gZ (aj (pV 1) (aj (pV 2) ao)))) (aq (cW (gj (pV 0) TC.cl jD jC hr jE .nil gZ (aj (pV 1) (aj (pV 2) (aj (pV 3) (aj (pV 4) ao)))))) (aq (bW (mO oGe (aM pG rfl T.len adp (aj (dw (pV 0) rfl) ao)) (cM (v:=.int 24) rfl T.Yk ⟨_,rfl⟩) (bA _)) (aG (dJ)) aU) (aq (pZ 5 sO (bJ xg rfl T.dict akn (aj (dw (pV 0) rfl) ao))) (aq (jf (cU hr) (pV 5) (pV 3) (bH (aj (pV 1) (aj (pV 2) (aj (pV 4) ao)))) rfl) (aq (bW (sZ (J3 (aM (DY rfl) rfl T.any anw (aj (cD (gP:=aJ rE) (own:=["sent","taken"]) (cap:=["rows"]) (ix:=[5]) rfl rfl iR (En (dw (pV 0) rfl)) (λb=>(fU rfl (aP (bD (i:=0) (show (["sent","taken","rows"]:List Str).Nodup by decide +kernel) rfl (afO rfl)) (aP (bD (i:=1) (show (["sent","taken","rows"]:List Str).Nodup by decide +kernel) rfl (afO rfl)) dR)))) (λb=>cN) (λb=>(pC jB hr (aj (pV 2) (aj (pV 0) (aj (pV 1) ao)))))) ao)))) (aG (dJ)) aU) (aq (bW (uP (lO (jr (cU hr) (pV 1) (dw (pV 0) rfl))) (pw_and1 (mO (aao hr.Zc) (bH (aj (pV 2) (aj (pV 4) ao))) (eN (cU hr) (dw (pV 0) rfl) (pV 1) (λ_ _=>rfl)) (bA _)))) (aG (dJ)) aU) (aq (wB (pV 0) (pV 5) rfl) (aG (bf bY)))))))))),?_⟩;refine ⟨x,dx,_,rfl,kp.ob,by rfl,?_⟩;refine ⟨x,dx,ch,ak,al,ae,hs,kt,ls,h,r,rfl,kp,mh,by omega,r9,λH1 s1=>?_⟩;have Am:=kp.same s1;refine ⟨x,dx,_,rfl,Am.ob,by rfl,?_⟩;refine ⟨x,dx,ch,ak,al,ae,hs,kt,ls,h,n,r,i,rfl,Am,gn,gh,gk,nn,np,λH2 s2=>?_⟩;have WQ:=Am.same s2;refine ⟨x,C,dx,_,_,rfl,WQ.ob,TC.cl,TC.nK,jA _ _ _ _,?_⟩;obtain ⟨kvs,ek,pk⟩:=WQ.kp;have lk:=pk.length;refine ⟨ak,kvs,rfl,ek,?_⟩;refine eZ (λz=>by have z':=of_decide_eq_true z; omega) (λ_=>?_);refine ⟨x,C,dx,_,_,rfl,WQ.ob,TC.cl,TC.nK,jA _ _ _ _,?_⟩;refine ⟨ak,kvs,rfl,.inl ek,λd hd=>?_⟩;refine gE hd λH3 s3 e3=>?_
   refine ⟨by show 3<=sizeLine; omega,λT0 hT=>?_⟩;refine gE hT λH4 s4 e4=>?_
   refine ⟨d,_,rfl,qR.k (k:=acW n) (s4 _ _ e3) (by omega),?_⟩;have fd2:H2 d=none:=hd;have S24:Same H2 H4:=s3.trans s4;have s5:Same H2 (upd H4 d (.dK (putK kvs (.inr n) (.ref T0)))):=λb u e=>by rw [aB (aH e hd)]; exact S24 _ _ e
   have e5:upd H4 d (.dK (putK kvs (.inr n) (.ref T0))) d=some (.dK (putK kvs (.inr n) (.ref T0))):=au;have nTd:T0≠d:=λz=>by rw [z,e3] at hT; cases hT
   have eT5:upd H4 d (.dK (putK kvs (.inr n) (.ref T0))) T0=some (.tup [.str h,.int r,.int i]):=by rw [aB nTd]; exact e4
   generalize hH5:upd H4 d (.dK (putK kvs (.inr n) (.ref T0)))=H5 at s5 e5 eT5 |-;clear hH5;have kl5:iu H5 d (kt++[(n,h,r,i)]):=⟨_,e5,oK pk nn s5.tups eT5⟩;have Ge:=WQ.same s5;refine ⟨x,C,dx,_,_,rfl,Ge.ob,TC.cl,TC.nL,oJ _ _ _ _,?_⟩;obtain ⟨oH,el,pl⟩:=Ge.lt;have ll:=pl.length;have fl:=Ge.fl;refine ⟨al,oH,rfl,el,λo D fD=>?_⟩;have oth:∀ b,b≠al->upd H5 al (.gY o (.dT oH)) b=H5 b:=λb n=>aB n
   have ef:upd H5 al (.gY o (.dT oH)) al=some (.gY o (.dT oH)):=au;generalize hH6:upd H5 al (.gY o (.dT oH))=H6 at oth ef fD |-;clear hH6;have Qw:∀ b u,H5 b=some u->(∀ k,u≠.dT k)->b≠al:=λb u e n z=>by rw [z,el] at e; exact n _ (abx e).symm
   have t56:bV H5 H6:=λb xs e=>by rw [oth b (Qw b _ e (λk z=>by cases z))]; exact e
   have kl6:um H6 d (ktM (kt++[(n,h,r,i)])):=by
     obtain ⟨kk,ekk,Nb⟩:=kl5;exact iu.at ⟨kk,by rw [oth d (Qw d _ ekk (λk z=>by cases z))]; exact ekk,aA (λ_ _ y=>jz.ts y t56) Nb⟩
   refine xW (λj H'=>dX H6 H' D (((ls.take j).map λl=>aX (ktM (kt++[(n,h,r,i)])) l.1.1 l.1.2).map V.bl)) (dX.start fD) (λj H' _ G=>G.same _ _ ef) (λH7 G=>?_) (λj k v b' H7 hj eb hi G bb=>?_)
   . rw [ll,acL] at G
     have aiD:(ls.map λl=>aX (ktM (kt++[(n,h,r,i)])) l.1.1 l.1.2).any id=false:=by
       rw [ama,akr];intro l hl z;have z':aX (ktM (kt++[(n,h,r,i)])) l.1.1 l.1.2=true:=z;rw [wi l hl] at z';cases z'
     have eal:H al=some (.dT oH):=by
       obtain ⟨k0,e0,_⟩:=kp.lt;have z:=((s1.trans s2).trans s5) _ _ e0;rw [el] at z;cases z;exact e0
     refine ⟨D,_,rfl,cG.of G.at',_,⟨al,o,.dT oH,G.same _ _ ef,aeR,RK eal,rfl⟩,?_⟩;rw [aiD];have s7:Same H5 (upd H7 al (.dT oH)):=uo el oth λb u _ e=>G.same _ _ e
     generalize hH8:upd H7 al (.dT oH)=H8 at s7 |-;clear hH8;have kp8:=Ge.same s7;have kl8:=kl5.same s7;refine ⟨x,C,dx,_,_,rfl,kp8.ob,TC.cl,TC.nE,RT _ _ _ _,?_⟩;obtain ⟨ekv,ee,le,fe⟩:=kp8.en;refine ⟨ae,_,rfl,eY.k (k:=acW h) ee,_,rfl,?_⟩
     have fin:∀ H9,Same H8 H9->Q (.str "kept") (upd H9 x (.ins C dx (gO "kept" (.ref d) (zy ch ak al ae)))):=λH9 s9=>by
       have kp9:=kp8.same s9;have kl9:=kl8.same s9;have nx:∀ b u,H9 b=some u->(∀ a b c,u≠.ins a b c)->b≠x:=λb u e n z=>by rw [z,kp9.ob] at e; exact n _ _ _ (abx e).symm
       have sx:∀ b u,b≠x->H9 b=some u->upd H9 x (.ins C dx (gO "kept" (.ref d) (zy ch ak al ae))) b=some u:=λb u n e=>by rw [aB n]; exact e
       have tx:bV H9 (upd H9 x (.ins C dx (gO "kept" (.ref d) (zy ch ak al ae)))):=λb xs e=>sx _ _ (nx b _ e (λ_ _ _ z=>by cases z)) e
       have fd0:H d=none:=(s1.trans s2).free fd2;refine q d _ fd0 ⟨by rw [au,RV],kp9.ck.ts tx,?_,?_,?_,?_,?_,kp.nl,by rw [aay]; show kt.length+1<=24; omega,kp.fl,kp.f6⟩ λb u n e=>sx _ _ n ((((s1.trans s2).trans s5).trans s7).trans s9 _ _ e)
       . obtain ⟨kk,ekk,Nb⟩:=kl9;exact ⟨kk,sx _ _ (nx d _ ekk (λ_ _ _ z=>by cases z)) ekk,aA (λ_ _ y=>jz.ts y tx) Nb⟩
       . obtain ⟨kk,ekk,Nb⟩:=kp9.lt;exact ⟨kk,sx _ _ (nx al _ ekk (λ_ _ _ z=>by cases z)) ekk,aA (λ_ _ y=>yp.ts y tx) Nb⟩
       . obtain ⟨kk,ekk,lkk,RW⟩:=kp9.en;exact ⟨kk,sx _ _ (nx ae _ ekk (λ_ _ _ z=>by cases z)) ekk,lkk,λk v hv=>let ⟨b,r,e1,e2⟩:=RW k v hv; ⟨b,r,e1,tx _ _ e2⟩⟩
       . intro z;obtain ⟨kk,ekk,_⟩:=kp.en;rw [<- z,fd0] at ekk;cases ekk
       . rw [abp];exact aeS.mpr ⟨kp.nd,by simp,λa ha b hb z=>nn (by rw [ahc,abe] at hb; have hb':b=n:=hb; rw [<- hb',<- z]; exact ha)⟩
     cases ve:cL ekv (acW h:Key) with
     | none =>
       refine Zr ?_;refine Zr ?_;exact ⟨x,C,dx,_,rfl,kp8.ob,TC.cl,TC.nK,by show 4<1000; decide,fin H8 (Same.refl _)⟩
     | some v =>
       refine agA ?_;obtain ⟨b,e0,rfl,eb⟩:=fe _ _ ve;refine ⟨by show 2<=sizeLine; omega,λp hp=>?_⟩;refine gE hp λH9 s9 e9=>?_
       refine ⟨x,C,dx,_,_,rfl,s9 _ _ kp8.ob,TC.cl,TC.nE,RT _ _ _ _,?_⟩;refine ⟨ae,.ref b,rfl,by have z:=eY.k (k:=acW h) (s9 _ _ ee); rw [ve] at z; exact z,?_⟩;refine ⟨p,b,[r,i],[0,e0],rfl,rfl,bQ.of e9,bQ.of (s9 _ _ eb),?_⟩;rw [WL r1];exact ⟨x,C,dx,_,rfl,s9 _ _ kp8.ob,TC.cl,TC.nK,by show 4<1000; decide,fin H9 s9⟩
   . obtain ⟨l,hl,hk,_⟩:=bh pl hj;obtain rfl:k=kP l.1:=hk;refine ⟨b',_,rfl,bQ.of eb,rfl,_,_,rfl,_,_,rfl,rfl,?_⟩
     have klj:um H7 d (ktM (kt++[(n,h,r,i)])):=by
       obtain ⟨kk,ekk,RW⟩:=kl6;exact ⟨kk,G.same _ _ ekk,λm=>⟨(RW m).1,λp hp=>let ⟨b,v,g⟩:=(RW m).2 p hp; ⟨b,v,G.same _ _ g⟩⟩⟩
     refine ⟨d,_,l.1.1,l.1.2,rfl,klj,?_⟩;refine ⟨_,G.at',by rw [aac,aac,abI]; omega,nx hi ?_⟩;have z:=G.put fD (.bl (aX (ktM (kt++[(n,h,r,i)])) l.1.1 l.1.2));rw [abz,hl];simpa using z
noncomputable def pQ (C:aaH):Sp:=λvs H Q _=>∃ (x dx:aaH) (ch:V) (ak al ae:aaH) (hs:List aL) (kt:List aQ) (ls:List Letter) (l:Letter),vs=[.ref x,.str l.1.1,.str l.1.2,.int l.2.1,nM l.2.2]/\iU C H x dx ch ak al ae hs kt ls/\Good l.1.1/\Good l.1.2/\bG (jx l)=true/\l.1.1≠l.1.2/\l.1 ∉ ls.map ab5/\aX (ktM kt) l.1.1 l.1.2=false/\ls.length<24 /\
 ∀ (H':Hp),iU C H' x dx ch ak al ae hs kt (ls++[l])->aY al H H'->Q .non H'
noncomputable def uy (C:aaH):Sp:=λvs H Q _=>∃ (x dx:aaH) (ch:V) (ak al ae:aaH) (hs:List aL) (kt:List aQ) (ls:List Letter),vs=[.ref x]/\iU C H x dx ch ak al ae hs kt ls/\∀ (v:V) (hs':List aL) (ls':List Letter) (H':Hp),dY H' v hs' ls'->abG (ur kt) hs hs'->mV kt ls ls'->Same H H'->Q v H'
theorem Cv {H:Hp} {k:Str × Str}:∀ {kvs:List (List Key × V)} {ls:List Letter},abG (yp H) kvs ls->k ∉ ls.map ab5->cL kvs (kP k)=none
 | _,_,.nil,_=>rfl
 | kv :: _,l :: _,.cons h t,hk=>by
   rw [abn,abu,not_or] at hk;rw [cO (by rw [h.1]; exact λy=>hk.1 (tO y).symm)];exact Cv t hk.2
theorem Ii:aZ ["self"] ["self"] (aJ ux):=nj
theorem Ij {f:aaH} {fd:abL} (F:dO K "ledger" "Keeper.ledger" ux f fd) (TC:KCls K mg C t9) (Nf:Cl P w K mg base 2 "put_down" ["houses","rows","letters"] uw):aV P w K mg base dF 3 f fd ["self"] (uy C):=by
 refine F.ok Ii (λvs H Q E h=>?_) (λcdv A outer s H vs Q E hr h=>?_)
 . obtain ⟨x,dx,ch,ak,al,ae,hs,kt,ls,rfl,_⟩:=h;rfl
 . obtain ⟨x,dx,ch,ak,al,ae,hs,kt,ls,rfl,kp,q⟩:=h;refine ⟨_,(aG (bf (pC Nf hr (aj (dw (pV 0) rfl) (aj (dw (pV 0) rfl) (aj (dw (pV 0) rfl) ao)))))),?_⟩;refine ⟨x,C,dx,_,_,rfl,kp.ob,TC.cl,TC.nH,RQ _ _ _ _,x,C,dx,_,_,rfl,kp.ob,TC.cl,TC.nK,jA _ _ _ _,x,C,dx,_,_,rfl,kp.ob,TC.cl,TC.nL,oJ _ _ _ _,?_⟩;have fk:=kp.fk;have fl:=kp.fl;exact ⟨ch,ak,al,hs,kt,ls,rfl,kp.ck,kp.f6,kp.kp,by omega,kp.nd,kp.lt,by omega,kp.nl,q⟩
theorem yq:aZ ["self","sent","taken","least","most"] ["self","sent","taken","least","most"] (aJ pP):=nj
theorem Ik {f:aaH} {fd:abL} (F:dO K "letter" "Keeper.letter" pP f fd) (T:Txt mg t8 t6 tR tL) (TC:KCls K mg C t9) (yr:Cl P w K mg base 2 "is_letter" ["thing"] (spD bG)) (jB:Cl P w K mg base 2 "is_within_a_house" ["rows","sent","taken"] kE):aV P w K mg base dF 3 f fd ["self","sent","taken","least","most"] (pQ C):=by
 refine F.ok yq (λvs H Q E h=>?_) (λcdv A outer s H vs Q E hr h=>?_)
 . obtain ⟨x,dx,ch,ak,al,ae,hs,kt,ls,l,rfl,_⟩:=h;rfl
 . obtain ⟨x,dx,ch,ak,al,ae,hs,kt,ls,l,rfl,kp,g1,g2,gl,ne,nk,nw,UG,q⟩:=h;have jH:sizeLine=16777216:=aby;refine ⟨_,(aq (bW (mY (cP (sZ (pC yr hr (aj (bH (aj (pV 1) (aj (pV 2) (aj (pV 3) (aj (pV 4) ao))))) ao)))) (pw_or1 (mO wA (pV 1) (pV 2) (bA _)))) (aG (dJ)) aU) (aq (bW (mY (lO (jr (cU hr) (bH (aj (pV 1) (aj (pV 2) ao))) (dw (pV 0) rfl))) (pw_or1 (sZ (pC jB hr (aj (dw (pV 0) rfl) (aj (pV 1) (aj (pV 2) ao))))))) (aG (dJ)) aU) (aq (bW (mO oGe (aM Al rfl T.len adp (aj (dw (pV 0) rfl) ao)) (cM (v:=.int 24) rfl T.Yl ⟨_,rfl⟩) (bA _)) (aG (dJ)) aU) (aG (jf (cU hr) (dw (pV 0) rfl) (bH (aj (pV 1) (aj (pV 2) ao))) (bH (aj (pV 3) (aj (pV 4) ao))) rfl))))),?_⟩;refine ⟨by show 4<=sizeLine; omega,λp hp=>?_⟩;refine gE hp λH1 s1 e1=>?_
   have dm:cj H1 (nM l.2.2) (BZ l.2.2):=by
     cases l.2.2 with
     | none=>exact .non
     | some m=>exact .int m
   refine ⟨.ref p,jx l,rfl,.tup e1 (by show 4<=25; decide) (.cons g1.da (.cons g2.da (.cons (.int _) (.cons dm .nil)))),λH2 s2=>?_⟩;rw [gl];refine ⟨rfl,?_⟩;rw [decide_eq_false (λz=>ne (V.str.inj z):¬ V.str l.1.1=V.str l.1.2)];refine ⟨by show 2<=sizeLine; omega,λp3 hp3=>?_⟩;refine gE hp3 λH3 s3 e3=>?_
   have S3:=(s1.trans s2).trans s3;have Ew:=kp.same S3;refine ⟨x,C,dx,_,_,rfl,Ew.ob,TC.cl,TC.nL,oJ _ _ _ _,?_⟩;obtain ⟨oH,el,pl⟩:=Ew.lt;have ll:=pl.length;refine ⟨al,_,rfl,eY.t (k:=kP l.1) el e3,_,rfl,?_⟩;rw [Cv pl nk];refine ⟨x,C,dx,_,_,rfl,Ew.ob,TC.cl,TC.nK,jA _ _ _ _,?_⟩;refine ⟨ak,_,l.1.1,l.1.2,rfl,Ew.kp.at,?_⟩;rw [nw];refine ⟨x,C,dx,_,_,rfl,Ew.ob,TC.cl,TC.nL,oJ _ _ _ _,?_⟩;refine ⟨al,oH,rfl,el,?_⟩;refine eZ (λz=>by have z':=of_decide_eq_true z; omega) (λ_=>?_);refine ⟨by show 2<=sizeLine; omega,λp4 hp4=>?_⟩;refine gE hp4 λH4 s4 e4=>?_
   refine ⟨x,C,dx,_,_,rfl,s4 _ _ Ew.ob,TC.cl,TC.nL,oJ _ _ _ _,?_⟩;refine ⟨by show 2<=sizeLine; omega,λp5 Uv=>?_⟩;refine gE Uv λH5 s5 e5=>?_
   have Wq:=s4.trans s5;have S5:=S3.trans Wq;refine ⟨al,_,rfl,qR.t (k:=kP l.1) (Wq _ _ el) e5 (by omega),?_⟩;have Ge:=Ew.same Wq;have el5:=Wq _ _ el;have na:∀ b u,H5 b=some u->(∀ k,u≠.dT k)->b≠al:=λb u e n z=>by rw [z,el5] at e; exact n _ (abx e).symm
   have sx:∀ b u,b≠al->H5 b=some u->upd H5 al (.dT (putK oH (kP l.1) (.ref p4))) b=some u:=λb u n e=>by rw [aB n]; exact e
   have tx:bV H5 (upd H5 al (.dT (putK oH (kP l.1) (.ref p4)))):=λb xs e=>sx _ _ (na b _ e (λ_ z=>by cases z)) e
   refine q _ ⟨sx _ _ (na x _ Ge.ob (λ_ z=>by cases z)) Ge.ob,Ge.ck.ts tx,?_,?_,?_,kp.ne,kp.nd,?_,kp.fk,by rw [aay]; show ls.length+1<=24; omega,kp.f6⟩ λb u n e=>sx _ _ n (S5 _ _ e)
   . obtain ⟨kk,ekk,Nb⟩:=Ge.kp;exact ⟨kk,sx _ _ (na ak _ ekk (λ_ z=>by cases z)) ekk,aA (λ_ _ y=>jz.ts y tx) Nb⟩
   . refine ⟨_,au,?_⟩;have z:(oH.any λkv=>decide (kv.1=kP l.1))=false:=by rw [iM,Cv pl nk]; rfl
     have ep:putK oH (kP l.1) (.ref p4)=oH++[(kP l.1,.ref p4)]:=by unfold putK; rw [z,if_neg aaK]
     rw [ep] at tx |-;exact bC (aA (λ_ _ y=>yp.ts y (Wq.tups.trans tx)) pl) (.cons ⟨rfl,p4,rfl,tx _ _ (s5 _ _ e4)⟩ .nil)
   . obtain ⟨kk,ekk,lkk,RW⟩:=Ge.en;exact ⟨kk,sx _ _ (na ae _ ekk (λ_ z=>by cases z)) ekk,lkk,λk v hv=>let ⟨b,r,e1,e2⟩:=RW k v hv; ⟨b,r,e1,tx _ _ e2⟩⟩
   . rw [abp];exact aeS.mpr ⟨kp.nl,by simp,λa ha b hb z=>nk (by rw [ahc,abe] at hb; rw [<- hb,<- z]; exact ha)⟩
section
variable {H1:Hp} {D:aaH} {σ0:St} {g:BI->TG} {te:BI->TE} {tt:BI->TT} {End:Hp->Prop} {α β:Type}
theorem Ng {R:Key × V->α->Prop} {R':Hp->V->β->Prop} {F:α->β->Prop} {keep:α->Bool} {a:aaH} {o:Obj} {kvs:List (Key × V)} {bs:List α} (mono:∀ {H H':Hp} {v b},Same H H'->R' H v b->R' H' v b) (uX:∀ {H:Hp} {o:HO} {v b},(∃ zs,H D=some (.lst zs))->R' H v b->R' (upd H D o) v b)
   (hD:H1 D=none) (hT:H1 a=some (.gY o (.dK kvs))) (few:kvs.length<=1000) (pr:abG R kvs bs)
   (turn:∀ (i:Nat) (kv:Key × V) (c:α) (H':Hp),bs[i]?=some c->R kv c->Same H1 H'->∀ b (N:Hp->Prop) (Q:VK),(keep c=false->∀ g8,Same H' g8->N g8)->(keep c=true->∀ v g8 y,Same H' g8->R' g8 v y->F c y->Q v g8)->g b (kV kv.1) σ0 H' fun σ2 H2=>tt b σ2 H2 λcc H3=>if cc=true then te b σ2 H3 Q else N H3)
   (fin:∀ vs ys H',Same H1 H'->H' D=some (.lst vs)->abG (R' H') vs ys->abG F (bs.filter keep) ys->End H') :
   ∃ W:Nat->Nat->Hp->Prop,(∃ m,W 0 m (upd H1 D (.lst [])))/\∀ b,jL (Itd a o kvs) (g b) (tt b) (jT D (te b)) σ0 End W :=
 Mg (kvs:=kvs) (λi H'=>∃ zs ys,dX H1 H' D zs/\zs.length<=i/\abG (R' H') zs ys/\abG F ((bs.take i).filter keep) ys) ⟨[],[],dX.start hD,abH _,.nil,.nil⟩ (λi H' _ hz=>by obtain ⟨_,_,G,_⟩:=hz; exact G.same _ _ hT) (λH' hz=>by
   obtain ⟨zs,ys,G,_,pz,pf⟩:=hz;rw [pr.length,acL] at pf;exact fin zs ys H' G.same G.at' pz pf) (λi k x H' hx hi hz b=>by
   have jH:sizeLine=16777216:=aby;obtain ⟨zs,ys,G,lz,pz,pf⟩:=hz;obtain ⟨c,hc,rc⟩:=bh pr hx;refine turn i (k,x) c H' hc rc G.same b _ _ (λkk g8 s=>nx hi ⟨zs,ys,G.more s,by omega,aA (λ_ _ z=>mono s z) pz,by rw [jN hc,kk,if_neg aaK,adx]; exact pf⟩) (λkk v g8 y s r f=>?_);refine ⟨zs,(G.more s).at',by omega,nx hi ⟨zs++[v],ys++[y],(G.more s).put hD v,by rw [aay]; simp; omega,?_,by rw [jN hc,kk,if_pos rfl]; exact bC pf (.cons f .nil)⟩⟩
   exact bC (aA (λ_ _ z=>uX ⟨_,(G.more s).at'⟩ (mono s z)) pz) (.cons (uX ⟨_,(G.more s).at'⟩ r) .nil))
end
noncomputable def OAt (H:Hp) (v:V) (p:aQ):Prop:=∃ b,v=.ref b/\H b=some (.tup [.str p.2.1,.int p.2.2.1,.int p.2.2.2,.str p.1])
theorem OAt.ts {H H':Hp} {v:V} {p:aQ} (h:OAt H v p) (s:bV H H'):OAt H' v p:=let ⟨b,e,g⟩:=h; ⟨b,e,s _ _ g⟩
noncomputable def RX (H:Hp) (v:V) (p:aQ):Prop:=∃ b,v=.ref b/\H b=some (.tup [.int p.2.2.2,.str p.1])
theorem RX.ts {H H':Hp} {v:V} {p:aQ} (h:RX H v p) (s:bV H H'):RX H' v p:=let ⟨b,e,g⟩:=h; ⟨b,e,s _ _ g⟩
theorem lq {α:Type}:∀ {l m:List α},abG (λk k'=>k'=k) l m->m=l
 | _,_,.nil=>rfl
 | _,_,.cons h t=>by rw [lq t,h]
theorem Ao {α β:Type} {f:α->β}:∀ {l:List α} {m:List β},abG (λa b=>b=f a) l m->m=l.map f
 | _,_,.nil=>rfl
 | _,_,.cons h t=>by rw [Ao t,h]; rfl
theorem paired_ints:∀ {vs:List V} {ns:List Int},abG (λ(v:V) n=>v=V.int n) vs ns->vs=ns.map V.int
 | _,_,.nil=>rfl
 | _,_,.cons h t=>by rw [paired_ints t,h]; rfl
theorem Kl {H:Hp}:∀ {vs:List V} {ps:List aQ},abG (RX H) vs ps->∃ ts:List (aaH × (Int × Str)),vs=(ts.map (·.1)).map V.ref/\(∀ t∈ts,H t.1=some (.tup [.int t.2.1,.str t.2.2]))/\ts.map (·.2)=ps.map yU
 | _,_,.nil=>⟨[],rfl,λ_ h=>(by cases h),rfl⟩
 | _,p :: _,.cons h t=>by
   obtain ⟨ts,e,g,m⟩:=Kl t;obtain ⟨b,rfl,eb⟩:=h;refine ⟨(b,yU p) :: ts,by rw [e]; rfl,λt ht=>?_,by rw [abn,m]; rfl⟩;rcases abu.mp ht with rfl | ht
   . exact eb
   . exact g t ht
theorem RZ {p:aQ}:∀ {l:List aQ},(l.map (·.1)).Nodup->p∈l->ktM l p.1=some p.2
 | [],_,h=>by cases h
 | x :: l,nd,h=>by
   rw [abn,ahn] at nd;rcases abu.mp h with rfl | h
   . simp [ktM]
   . have ne:¬ x.1=p.1:=λz=>nd.1 (by rw [z]; exact abj.mpr ⟨p,h,rfl⟩)
     have:=RZ nd.2 h;simp only [ktM] at this |-;rw [am0 (by simpa using ne)];exact this
noncomputable def R0 (H:Hp) (v:V) (l:Letter):Prop:=∃ b1 b2 b3,v=.ref b1/\H b1=some (.tup [.ref b2,.ref b3])/\H b2=some (.tup [.str l.1.1,.str l.1.2])/\aR H (.ref b3) l
theorem R0.ts {H H':Hp} {v:V} {l:Letter} (h:R0 H v l) (s:bV H H'):R0 H' v l:=let ⟨b1,b2,b3,e,g1,g2,g3⟩:=h; ⟨b1,b2,b3,e,s _ _ g1,s _ _ g2,g3.ts s⟩
noncomputable def Ey (H:Hp) (kv:List Key × V) (l:Letter):Prop:=kv.1=kP l.1/\aR H kv.2 l
theorem Ey.ts {H H':Hp} {kv:List Key × V} {l:Letter} (h:Ey H kv l) (s:bV H H'):Ey H' kv l:=⟨h.1,h.2.ts s⟩
theorem Km {H:Hp}:∀ {vs:List V} {ls:List Letter},abG (R0 H) vs ls->∃ ps:List (aaH × aaH × (List Key × V)),vs=ps.map (λp=>V.ref p.1)/\(∀ p∈ps,H p.1=some (.tup [.ref p.2.1,p.2.2.2])/\H p.2.1=some (.tup (p.2.2.1.map kV)))/\abG (Ey H) (ps.map (·.2.2)) ls
 | _,_,.nil=>⟨[],rfl,λ_ h=>(by cases h),.nil⟩
 | _,l :: _,.cons h t=>by
   obtain ⟨ps,e,g,m⟩:=Km t;obtain ⟨b1,b2,b3,rfl,e1,e2,e3⟩:=h;refine ⟨(b1,b2,(kP l.1,.ref b3)) :: ps,by rw [e]; rfl,λp hp=>?_,.cons ⟨rfl,e3⟩ m⟩;rcases abu.mp hp with rfl | hp
   . exact ⟨e1,e2⟩
   . exact g p hp
theorem Nh {H:Hp} {kvs:List (List Key × V)} {ls:List Letter} (p:abG (Ey H) kvs ls):kvs.map (·.1)=(ls.map ab5).map kP:=by
 induction p with
 | nil=>rfl
 | cons h _ ih=>rw [abn,abn,abn,ih,h.1]
theorem Ez {H:Hp} {k:Str × Str}:∀ {kvs:List (List Key × V)} {ls:List Letter},abG (Ey H) kvs ls->k∈ls.map ab5->∃ l∈ls,l.1=k/\∃ v,cL kvs (kP k)=some v/\aR H v l
 | _,_,.nil,h=>by cases h
 | kv :: _,l :: _,.cons h t,hk=>by
   obtain ⟨h1,h2⟩:=h;by_cases z:l.1=k
   . exact ⟨l,abw,z,kv.2,by rw [cT (by rw [h1,z])],h2⟩
   . rw [abn,abu] at hk;obtain ⟨l',m,e,b',v,g⟩:=Ez t (hk.resolve_left λy=>z y.symm);exact ⟨l',abk _ m,e,b',by rw [cO (by rw [h1]; exact λy=>z (tO y))]; exact v,g⟩
theorem Il (kt:List aQ) (h:Str) (n:Int):(kt.filter λp=>decide (p.2.1=h)).filter (λp=>decide (p.2.2.1=n))=kt.filter (own h n):=by
 rw [aoq];congr 1
 funext p
 unfold own;rw [Bool.and_comm]
theorem eE:aZ ["_law_clocks","_law_rows","_law_letters_here","_law_houses","_law_clock","_law_own","_law_runs","_law_number","_law_some","_law_told"] ["_law_clocks","_law_rows","_law_letters_here"] (aJ fO):=nj
noncomputable def iV (t:Em):aQ:=(t.2.2.1,t.1,t.2.1,t.2.2.2)
noncomputable def mZ (hs:List aL):List aQ:=(Wn hs).map iV
theorem sS {hs:List aL} {p:aQ}:p∈mZ hs↔∃ h∈hs,∃ j,j<h.runs.length/\∃ r∈h.runs.getD j [],p=(r.1,h.name,2 * (j:Int)+1,r.2):=by
 unfold mZ Wn trH trJ;rw [abj];constructor
 . rintro ⟨t,ht,rfl⟩;obtain ⟨h,hh,ht⟩:=aef.mp ht;obtain ⟨j,hj,ht⟩:=aef.mp ht;obtain ⟨r,hr,rfl⟩:=abj.mp ht;exact ⟨h,hh,j,adv.mp hj,r,hr,rfl⟩
 . rintro ⟨h,hh,j,hj,r,hr,rfl⟩;exact ⟨trR h j r,aef.mpr ⟨h,hh,aef.mpr ⟨j,adv.mpr hj,abj.mpr ⟨r,hr,rfl⟩⟩⟩,rfl⟩
theorem range_getD {α:Type} (l:List (List α)):(acF l.length).flatMap (λj=>l.getD j [])=l.flatten:=by
 have e:(acF l.length).map (λj=>l.getD j [])=l:=by
   refine akP (by simp) λi h1 h2=>?_
   simp [ahK,aaj h2]
 rw [List.flatMap_def,e]
theorem iC (hs:List aL):(mZ hs).map (·.1)=namesOf hs:=by
 unfold mZ Wn namesOf;rw [afn,akN];congr 1
 funext h
 unfold trH fG qH;rw [<- range_getD,akN,akN];congr 1
 funext j
 unfold trJ;rw [afn];rfl
theorem Im {hs:List aL} (n:(hs.map aL.name).Nodup) {a b:aL} (ha:a∈hs) (hb:b∈hs) (e:a.name=b.name):a=b:=by
 obtain ⟨i,hi,ei⟩:=ac5 ha;obtain ⟨j,hj,ej⟩:=ac5 hb;have a1:(hs.map aL.name)[i]?=some a.name:=by rw [aaJ,aaj hi,ei]; rfl
 have a2:(hs.map aL.name)[j]?=some a.name:=by rw [aaJ,aaj hj,ej,e]; rfl
 have ij:=(agL (by rw [aac]; exact hi) n).mp (a1.trans a2.symm);subst ij;rw [<- ei,ej]
theorem getD_mem {α:Type} {l:List (List α)} {j:Nat} (h:j<l.length):l.getD j []∈l:=by
 simp only [ahK,aaj h,Option.getD_some];exact ah5 h
theorem R3 {rs:List Row} (h:(rs.map aiA).Pairwise (·<·)) {a b:Row} (ha:a∈rs) (hb:b∈rs) (e:a.2=b.2):a=b:=by
 have n:(rs.map aiA).Nodup:=h.imp λh=>by omega
 obtain ⟨i,hi,ei⟩:=ac5 ha;obtain ⟨j,hj,ej⟩:=ac5 hb;have a1:(rs.map aiA)[i]?=some a.2:=by rw [aaJ,aaj hi,ei]; rfl
 have a2:(rs.map aiA)[j]?=some a.2:=by rw [aaJ,aaj hj,ej,e]; rfl
 have ij:=(agL (by rw [aac]; exact hi) n).mp (a1.trans a2.symm);subst ij;rw [<- ei,ej]
theorem WR {hs:List aL} (g:cH hs):(mZ hs).Nodup:=by
 have n:((mZ hs).map (·.1)).Nodup:=by rw [iC]; exact g.rows
 rw [abJ,ado] at n;exact n.imp λh e=>h (by rw [e])
theorem R4 {hs:List aL} (g:cH hs) {p q:aQ} (hp:p∈mZ hs) (hq:q∈mZ hs) (e:p.2=q.2):p=q:=by
 obtain ⟨h,hh,j,hj,r,hr,rfl⟩:=sS.mp hp;obtain ⟨h',hh',j',hj',r',hr',rfl⟩:=sS.mp hq;simp only [Prod.mk.injEq] at e;obtain ⟨e1,e2,e3⟩:=e;have:=Im g.names hh hh' e1;subst this;have:j=j':=by omega
 subst this;have:=R3 ((g.all h hh).runs _ (getD_mem hj)).rise hr hr' e3;rw [this]
theorem EY {hs:List aL} (g:cH hs):((mZ hs).map (·.2)).Nodup:=by
 rw [abJ,ado];exact (abJ.mp (WR g)).imp_of_mem λha hb h e=>h (R4 g ha hb e)
theorem Aq {hs:List aL} {l:Letter} {kt:List aQ} (g:cH hs) (gl:iz hs l) (sub:∀ p∈kt,p∈mZ hs):aX (ktM kt) l.1.1 l.1.2=false:=by
 have key:∀ n p,ktM kt n=some p->JM (pairsOf hs) n=some p.1:=λn p e=>by
   unfold ktM at e;obtain ⟨q,hq,rfl⟩:=afo.mp e;have hn:q.1=n:=by have:=List.find?_some hq; simpa using this
   obtain ⟨h,hh,j,hj,r,hr,rfl⟩:=sS.mp (sub q (amk hq));have hn':r.1=n:=hn;rw [<- hn'];exact owner g.rows hh (abj.mpr ⟨r,akO.mpr ⟨_,getD_mem hj,hr⟩,rfl⟩)
 obtain ⟨h1,m1,h2,m2,n1,n2,ne⟩:=gl.BJ;unfold aX;cases e1:ktM kt l.1.1 with
 | none=>rfl
 | some p =>
   cases e2:ktM kt l.1.2 with
   | none=>rfl
   | some q =>
     refine decide_eq_false λz=>ne ?_
     have a1:=key _ _ e1;have a2:=key _ _ e2;rw [owner g.rows m1 n1] at a1;rw [owner g.rows m2 n2] at a2;rw [abx a1,abx a2,z]
theorem Fb {α β:Type} {F:α->β->Prop} {xs ys:List α} (p:ys.Perm xs):∀ {bs:List β},abG F xs bs->∃ cs,cs.Perm bs/\abG F ys cs:=by
 induction p with
 | nil=>intro bs h; cases h; exact ⟨[],.nil,.nil⟩
 | cons x _ ih =>
   intro bs h;cases h with
   | cons h t =>
     obtain ⟨cs,pc,q⟩:=ih t;exact ⟨_ :: cs,pc.cons _,.cons h q⟩
 | swap x y l =>
   intro bs h;cases h with
   | cons h t =>
     cases t with
     | cons h' t=>exact ⟨_,List.Perm.swap _ _ _,.cons h' (.cons h t)⟩
 | trans _ _ ih1 ih2 =>
   intro bs h;obtain ⟨cs,pc,q⟩:=ih2 h;obtain ⟨ds,pd,q'⟩:=ih1 q;exact ⟨ds,pd.trans pc,q'⟩
noncomputable def Fd (r:Row):ajb:=.tuple [.str r.1,.int r.2]
noncomputable def yt (rs:List Row):ajb:=.tuple (rs.map Fd)
noncomputable def pU (h:aL):ajb:=.tuple [.str h.name,.int h.low,.int h.high,.int h.aW,.tuple (h.runs.map yt)]
noncomputable def Io:Option Int->ajb
 | none=>.none
 | some i=>.int i
noncomputable def Ar (l:Letter):ajb:=.tuple [.str l.1.1,.str l.1.2,.int l.2.1,Io l.2.2]
noncomputable def Av (hs:List aL) (ls:List Letter):ajb:=.tuple [.tuple (hs.map pU),.tuple (ls.map Ar)]
theorem pW {α:Type} {K:aaf} {H:Hp} {R:V->α->Prop} {f:α->ajb} {vs:List V} {xs:List α} (p:abG R vs xs) (h:∀ v x,R v x->Dp K H v (f x)):Oi K H vs (xs.map f):=by
 induction p with
 | nil=>exact .nil
 | cons r _ ih=>exact .cons (h _ _ r) ih
theorem oM {K:aaf} {H:Hp} {v:V} {hs:List aL} {ls:List Letter} (h:dY H v hs ls):Dp K H v (Av hs ls):=by
 obtain ⟨a,x,y,rfl,ea,⟨b,vb,rfl,eb,pb⟩,⟨c,vc,rfl,ec,pc⟩⟩:=h;refine .tup (bQ.of ea) (.cons (.tup (bQ.of eb) (pW pb λv h hh=>?_)) (.cons (.tup (bQ.of ec) (pW pc λv l hl=>?_)) .nil))
 . obtain ⟨a1,b1,rfl,e1,c1,v1,rfl,e2,p1⟩:=hh;refine .tup (bQ.of e1) (.cons (.str _) (.cons (.int _) (.cons (.int _) (.cons (.int _) (.cons (.tup (bQ.of e2) (pW p1 λv rs hr=>?_)) .nil)))));obtain ⟨a2,v2,rfl,e3,p2⟩:=hr;refine .tup (bQ.of e3) (pW p2 λv r hr=>?_);obtain ⟨a3,rfl,e4⟩:=hr;exact .tup (bQ.of e4) (.cons (.str _) (.cons (.int _) .nil))
 . obtain ⟨a1,rfl,e1⟩:=hl;refine .tup (bQ.of e1) (.cons (.str _) (.cons (.str _) (.cons (.int _) (.cons ?_ .nil))));cases l.2.2 with
   | none=>exact .non
   | some i=>exact .int i
theorem sU {α:Type} {f:α->ajb}:∀ {xs:List α},(∀ x∈xs,(f x).canLay0=true)->adA (xs.map f)=true
 | [],_=>rfl
 | x :: xs,h=>by
   rw [abn];unfold adA;rw [h x abw,sU λy hy=>h y (abk _ hy)];rfl
theorem lB {α:Type} {f:α->ajb} {d:Nat}:∀ {xs:List α},(∀ x∈xs,(f x).depth<=d)->afr (xs.map f)<=d
 | [],_=>abH _
 | x :: xs,h=>by
   rw [abn];unfold afr;have h1:=h x abw;have h2:=lB (xs:=xs) λy hy=>h y (abk _ hy)
   omega
structure R5 (hs:List aL) (ls:List Letter):Prop where
 hn:∀ h∈hs,Good h.name
 rn:∀ h∈hs,∀ rs∈h.runs,∀ r∈rs,Good r.1
 ln:∀ l∈ls,Good l.1.1/\Good l.1.2
theorem Ni (r:Row):(Fd r).depth=1:=by simp [Fd,agB,afr]
theorem Nj (rs:List Row):(yt rs).depth<=2:=by
 unfold yt agB;have:=lB (f:=Fd) (d:=1) (xs:=rs) λr _=>by rw [Ni]; exact aaw _
 omega
theorem Fe (h:aL):(pU h).depth<=4:=by
 have:=lB (f:=yt) (d:=2) (xs:=h.runs) λr _=>Nj r
 have e:(PyData.tuple (h.runs.map yt)).depth<=3:=by unfold agB; omega
 unfold pU;simp only [agB,afr] at e |-;omega
theorem Nk (l:Letter):(Ar l).depth<=1:=by
 unfold Ar;cases l.2.2 <;> simp [Io,agB,afr]
theorem eV {hs:List aL} {ls:List Letter} (g:R5 hs ls):aiu (Av hs ls)=true:=by
 have h1:=sU (f:=pU) (xs:=hs) λh hh=>by
   have r:=sU (f:=yt) (xs:=h.runs) λrs hr=>by
     unfold yt agz
     exact sU λr hr'=>by
       have z:=(g.rn h hh rs hr r hr').ok;simp [Fd,agz,adA,z]
   have z:=(g.hn h hh).ok;simp [pU,agz,adA,z,r]
 have h2:=sU (f:=Ar) (xs:=ls) λl hl=>by
   have z1:=(g.ln l hl).1.ok;have z2:=(g.ln l hl).2.ok;unfold Ar;cases l.2.2 <;> simp [Io,agz,adA,z1,z2]
 have d1:=lB (f:=pU) (d:=4) (xs:=hs) λh _=>Fe h
 have d2:=lB (f:=Ar) (d:=1) (xs:=ls) λl _=>Nk l
 unfold aiu;rw [adB];refine ⟨?_,decide_eq_true ?_⟩
 . simp [Av,agz,adA,h1,h2]
 . simp only [Av,agB,afr];omega
theorem vV {hs:List aL} {ls:List Letter} (g:R5 hs ls):ahH (Av hs ls) (Av hs ls)=true:=SeqAt.eqv_refl _ (abr.mp (eV g)).1
theorem Aw {hs hs':List aL} {ls ls':List Letter} {kt:List aQ} (gn:∀ h∈hs,Good h.name) (gk:∀ p∈kt,Good p.1) (gl:∀ l∈ls,Good l.1.1/\Good l.1.2) (p:abG (ur kt) hs hs') (lo:mV kt ls ls'):R5 hs' ls':=by
 have key:∀ h'∈hs',∃ h∈hs,ur kt h h':=λh' hh=>by
   obtain ⟨i,hi,ei⟩:=ac5 hh;obtain ⟨h,e,q⟩:=fu p (aaj hi);exact ⟨h,abq e,ei ▸ q⟩
 refine ⟨λh' hh=>?_,λh' hh rs hr r hr'=>?_,λl hl=>gl l (aej.mp (lo.1.mem_iff.mp hl)).1⟩
 . obtain ⟨h,m,q⟩:=key h' hh;rw [q.1];exact gn h m
 . obtain ⟨h,m,q⟩:=key h' hh;obtain ⟨ns,_,_,pr⟩:=q.2.2.2.2;obtain ⟨i,hi,ei⟩:=ac5 hr;obtain ⟨n,_,ro⟩:=fu pr (aaj hi);rw [ei] at ro;have z:Om r∈(kt.filter (own h.name n)).map yU:=ro.1.mem_iff.mp (abj.mpr ⟨r,hr',rfl⟩);obtain ⟨p,hp,ep⟩:=abj.mp z;have e2:p.1=r.1:=congrArg aiA ep;rw [<- e2];exact gk p (aej.mp hp).1
end Eb
namespace L2
open PySem PySem.Spec PyProof.Rows
section
variable {X:Cx} {pins:List (aaH × Obj)} {σ:St} {H:Hp} {s:aav}
theorem Inv.track (I:Inv X pins σ H s) {b:aaH} {u:HO} (e:H b=some u):b ∉ frs X.stack:=λz=>by
 rw [I.vq b z] at e; cases e
theorem Inv.old (I:Inv X pins σ H s) {b:aaH} {u:Obj} (e:X.s₀.heap.get? b=some u) (hb:b ∉ X.fs):b ∉ frs X.stack:=λz=>by
 rcases abu.mp (I.Bh b z) with q | q
 . rw [q] at e; exact absurd (ab4 (abh e) I.ok.above) (afM _)
 . exact hb q
theorem Inv.out (I:Inv X pins σ H s) (hex:X.ex=[]) {h2:afp} (hk:∀ b o,s.heap.get? b=some o->b ∉ frs X.stack->h2.get? b=some o)
   (hs:∀ b o,s.heap.get? b=some o->b∈frs X.stack->∃ sl,h2.get? b=some { o with slots:=sl }):Un X.fs [] X.H₀ H X.s₀.heap h2/\mX X.prog X.w H h2:=by
 have nx:∀ b:aaH,b ∉ X.ex:=λb=>by rw [hex]; simp
 refine ⟨⟨λb o q n hb _=>hk b o (I.base.keep b o q n hb (nx b)) (I.old q hb),λb o q n hb _=>?_,λb o q n _=>I.base.free b o q n (nx b),λb o q _=>?_,I.base.tups,I.base.qy,I.base.qN⟩,λa o e=>?_⟩
 . obtain ⟨sl,e⟩:=I.base.slot b o q n hb (nx b);by_cases z:b∈frs X.stack
   . obtain ⟨sl2,e2⟩:=hs b _ e z;exact ⟨sl2,e2⟩
   . exact ⟨sl,hk b _ e z⟩
 . obtain ⟨o2,e⟩:=I.base.there b o q (nx b);by_cases z:b∈frs X.stack
   . obtain ⟨sl2,e2⟩:=hs b _ e z;exact ⟨_,e2⟩
   . exact ⟨_,hk b _ e z⟩
 . refine (I.hok a o e).stay (λb u hb q=>hk b u q ?_) (λ_ q=>q) λ_ _ q=>q
   rcases hb with rfl | hb
   . exact I.track e
   . exact I.track hb
theorem Inv.there (I:Inv X pins σ H s) {b:aaH} {u:HO} (e:H b=some u):∃ o,s.heap.get? b=some o:=by
 have z:=I.hok b u e;have l:=z.lt;cases q:s.heap.get? b with
 | some o=>exact ⟨o,rfl⟩
 | none =>
   exfalso;revert z;cases u with
   | lst xs=>intro z; obtain ⟨_,_,_,_,r⟩:=z; rw [q] at r; cases r
   | tup xs=>intro z; obtain ⟨_,_,_,o,r,_⟩:=z; rw [q] at r; cases r
   | dK kvs=>intro z; obtain ⟨_,_,_,_,o,_,_,r,_⟩:=z; rw [q] at r; cases r
   | dT kvs=>intro z; obtain ⟨_,_,_,_,o,_,_,r,_⟩:=z; rw [q] at r; cases r
   | set S n=>intro z; obtain ⟨o,_,_,_,r,_⟩:=z; rw [q] at r; cases r
   | ins C dx fs=>intro z; obtain ⟨_,_,_,r,_⟩:=z; rw [q] at r; cases r
   | own y=>intro z; obtain ⟨_,r⟩:=z; rw [q] at r; cases r
   | xd fs=>intro z; obtain ⟨_,⟨_,_,_,r,_⟩,_⟩:=z; rw [q] at r; cases r
   | rng lo hi=>intro z; obtain ⟨_,_,_,r⟩:=z; rw [q] at r; cases r
   | gY ob u=>intro z; obtain ⟨r,_⟩:=z; rw [q] at r; cases r
   | XS ps=>intro z; have r:s.heap.get? b=some _:=z; rw [q] at r; cases r
   | met f y=>intro z; have r:s.heap.get? b=some _:=z; rw [q] at r; cases r
   | ext φ=>intro z; obtain ⟨_,⟨_,r⟩,_⟩:=z; rw [q] at r; cases r
end
theorem aaz {K:aaf} {h:afp} {C:aaH} {bmB:List aat} {newId:String} (X:K.In h) (q:af2 K C bmB newId=true) :
   ∃ (nm qn:Str) (N:aaH) (bs bm:List aat) (hd:Bool) (sn:List Str) (sub:List aat) (ab:Bool) (col:Option Bool) (dd:Option aaH) (k0 k1 k2 k3 k5:Option aat) (mN:Str->Option aat),
     h.get? C=some (excClassObj nm qn C N bs bm hd sn sub ab col dd k0 k1 k2 k3 k5 newId)/\h.Ns N mN/\mN "__init__" = none/\apv h bmB bm:=by
 unfold af2 at q;split at q
 case h_1 dd cd sl ho =>
   split at q
   case h_1 C' bm k0 k1 k2 k3 n k5 hm hs =>
     obtain ⟨q,hni⟩:=abr.mp q;obtain ⟨q,hok⟩:=abr.mp q;obtain ⟨q,ht⟩:=abr.mp q;obtain ⟨q,hdel⟩:=abr.mp q;obtain ⟨q1,q2⟩:=abr.mp q;have q1:=beq_iff_eq.mp q1;have q2:=beq_iff_eq.mp q2;have hni:=beq_iff_eq.mp hni;subst q1 q2;obtain ⟨nm,bs,mro,ns,qn,hd,sn,sub,ab,col,del⟩:=cd;have hm2:mro=abA C' :: bm:=hm;have R6:del=false:=by simpa using hdel
     subst hm2 R6
     have hsl:sl=#[k0,k1,k2,k3,some (.builtin n),k5]:=by
       cases sl with
       | mk l=>exact congrArg Array.mk hs
     subst hsl;exact ⟨nm,qn,ns,bs,bm,hd,sn,sub,ab,col,dd,k0,k1,k2,k3,k5,_,X _ _ ho,.of_isNs (amd X hok),PySem.W.nsMap_none_of_in X hok hni,aor X ht⟩
   case h_2=>cases q
 case h_2=>cases q
section
variable {X:Cx} {E:XK} {x:Str} {C:aaH} {np cpos pos:Pos} {e:Expr} {es:List Expr} {t:TA}
noncomputable def aaA (C:aaH) (E:XK) (t:TA):TS:=λ_ σ H=>t σ H λvs H1=>vs.length<=sizeLine/\E (.ref C) none H1
end
section
variable {X:Cx} {pins:List (aaH × Obj)} {σ:St} {H:Hp} {s:aav}
theorem vW {M:ao6} {A:acX} {E:aat->aav->Prop} {i:Nat} {x:Str} {pos:Pos} {Q:Unit->aav->Prop} (I:Inv X pins σ H s) (hN:X.N.Nodup) (hi:X.N[i]?=some x) (hk:X.env.scope.names.lookup x=some .local)
   (h:∀ s',Inv X pins (σ.set i none) H s'->Q () s'):wpAny M A (do bindName X.env x .none; unbindBehindTheSuite X.env x pos) Q E s:=by
 obtain ⟨m,hn,hl⟩:=id I.loc;have afq:i<σ.length:=by rw [I.len]; exact (abE.mp hi).1
 refine wpAny_nameGoes_keeps hk hn (by rw [I.ok.kind]; rfl) λh' v hn' hs=>h _ ?_
 have far:∀ {b:aaH} {o:Obj},X.s₀.heap.get? b=some o->h'.get? b=s.heap.get? b:=λe=>hs.2 _ (abB (ab4 (abh e) I.ok.above))
 refine ⟨I.ok,I.os,I.bare,⟨λb o e n hb hx=>(far e).trans (I.base.keep b o e n hb hx),λb o e n hb hx=>?_,I.base.free,λb o e hx=>?_,I.base.tups,I.base.qy,I.base.qN⟩,⟨_,hn',λj y v' e1 e2 e3=>?_⟩,λy c e=>?_,I.free,I.jc,λp hp=>?_,λb ob e=>?_,by rw [List.length_set]; exact I.len⟩
 . obtain ⟨sl,e1⟩:=I.base.slot b o e n hb hx;exact ⟨sl,(far e).trans e1⟩
 . obtain ⟨o',e1⟩:=I.base.there b o e hx;exact ⟨o',(far e).trans e1⟩
 . by_cases hj:j=i
   . subst hj;rw [agX afq] at e2;cases e2
   . rw [af9 (acV hj)] at e2;obtain ⟨u',r',q⟩:=hl j y v' e1 e2 e3;refine ⟨u',r',?_⟩;rcases q with ⟨k,e⟩ | ⟨k,c,e,z⟩
     . refine .inl ⟨k,?_⟩;have ny:y≠x:=λe=>hj (v9 hN e1 (e ▸ hi))
       show (if y=x then v else m y)=some u';rw [if_neg ny]; exact e
     . exact .inr ⟨k,c,e,z.sameBut hs (I.Vc y c e)⟩
 . obtain ⟨w',z⟩:=I.cell y c e;exact ⟨w',z.sameBut hs (I.Vc y c e)⟩
 . obtain ⟨e,n,ne,nf,d⟩:=I.pin p hp;exact ⟨(hs.2 p.1 ne).trans e,n,ne,nf,d⟩
 . refine (I.hok b ob e).stay (λc w' hc q=>(hs.2 c ?_).trans q) (λ_ q=>q) λ_ _ q=>q
   intro z;subst z;rcases hc with hc | hc
   . rw [<- hc,I.free] at e; cases e
   . rw [I.free] at hc; cases hc
noncomputable abbrev Cx.marked (X:Cx) (a:aaH) (E:aat->aav->Prop):Cx:={ X with A:=X.A.mark (some (.ref a)),calm:=false,xe:=E }
theorem Cx.Ok.marked (ok:X.Ok) (a:aaH) (E:aat->aav->Prop):(X.marked a E).Ok :=
 ⟨ok.mod,ok.kind,ok.glob,ok.blt,ok.above,ok.inj,ok.has,ok.cab,(λz=>nomatch z),ok.frames,ok.stk,ok.exf,ok.bs,ok.Uo,ok.KN,ok.KQ,ok.tE,ok.X3⟩
theorem Inv.marked (I:Inv X pins σ H s) (a:aaH) (E:aat->aav->Prop):Inv (X.marked a E) pins σ H s:=⟨I.ok.marked a E,I.os,I.bare,I.base,I.loc,I.cell,I.free,I.jc,I.pin,I.hok,I.len⟩
theorem Inv.unmarked {a:aaH} {E:aat->aav->Prop} (ok:X.Ok) (I:Inv (X.marked a E) pins σ H s):Inv X pins σ H s:=⟨ok,I.os,I.bare,I.base,I.loc,I.cell,I.free,I.jc,I.pin,I.hok,I.len⟩
noncomputable def ExcAt (a C:aaH) (h:afp):Prop:=∃ o vs,h.get? a=some o/\o.cls=.ref C/\o.data=.fields vs
theorem aaB {P:abt} {w:acU} {l:List Env} {H1 H2:Hp} {h1 h2 h5 B G:afp} (un:Un (frs l) [] H1 H2 h1 h2) (hok:mX P w H2 h2) (fr:∀ b∈frs l,H2 b=none) (ff:h2.FunFrames G l)
   (cov:∀ b o,h2.get? b=some o->b ∉ frs l->((∃ u,H2 b=some u)\/∃ u,h1.get? b=some u)->B.get? b=some o) (st:B.StaysIn h5) (up:h2.UpToSlots h5):Un (frs l) [] H1 H2 h1 h5/\mX P w H2 h5:=by
 refine ⟨⟨λb o q n hb hx=>st b o (cov b o (un.keep b o q n hb hx) hb (.inr ⟨o,q⟩)),λb o q n hb hx=>?_,un.free,λb o q hx=>?_,un.tups,un.qy,un.qN⟩,λa o e=>?_⟩
 . obtain ⟨sl,e⟩:=un.slot b o q n hb hx;obtain ⟨_,o',ho',nf⟩:=ff.mem hb;rw [e] at ho'; cases ho';obtain ⟨sl2,e2⟩:=up b _ e nf;exact ⟨sl2,e2⟩
 . obtain ⟨o2,e⟩:=un.there b o q hx;by_cases hb:b∈frs l
   . obtain ⟨_,o',ho',nf⟩:=ff.mem hb;rw [e] at ho'; cases ho';obtain ⟨sl2,e2⟩:=up b _ e nf;exact ⟨_,e2⟩
   . exact ⟨_,st b _ (cov b _ e hb (.inr ⟨o,q⟩))⟩
 . have nf:∀ {b u},H2 b=some u->b ∉ frs l:=λ{b u} z y=>by rw [fr b y] at z; cases z
   refine (hok a o e).stay (λb u hb q=>?_) (λ_ q=>q) λ_ _ q=>q
   rcases hb with hb | hb
   . subst hb; exact st b u (cov b u q (nf e) (.inl ⟨_,e⟩))
   . exact st b u (cov b u q (nf hb) (.inl ⟨_,hb⟩))
end
section
variable {X:Cx} {k:Nat} {f S:aaH} {fd:abL} {ps:List Str} {sp:Sp} {qC:List V} {ds:List aat} {x n c:Str} {fp cp ep np hp pos:Pos} {e:Expr} {es:List Expr} {t:TA} {i:Nat} {b0:air} {suite:List air} {ts:TS}
end
end L2
namespace L2
open PySem PySem.Spec PySem.W PyProof.Rows PySem.Builtin PySem.Builtin.ObjectAttr PySem.Builtin.Getset_descriptor
section
variable {prog:abt} {w:acU} {A:acX} {E:aat->aav->Prop} {K:aaf} {h:afp} {g:Array al6} {d:Drawn} {t:Nat} {os:OsState} {a C:aaH}
noncomputable def jO (K:aaf) (C:aaH):Bool:=findIn K (.ref C) "__getattribute__" == some (some (.builtin "BaseException.__getattribute__")) && findIn K (.ref C) "__getattr__" == some none && findIn K (.ref C) "__class__" == some (some (.builtin "object.__class__")) &&
 mroIn K C (.type "object") == some true && subIn K (.ref C) (.type "BaseException") == some true && (clsIn K C).isSome
theorem fY (e:jO K C=true):findIn K (.ref C) "__getattribute__" = some (some (.builtin "BaseException.__getattribute__"))/\findIn K (.ref C) "__getattr__" = some none/\findIn K (.ref C) "__class__" = some (some (.builtin "object.__class__")) /\
   mroIn K C (.type "object")=some true/\subIn K (.ref C) (.type "BaseException")=some true/\(clsIn K C).isSome=true:=by
 unfold jO at e;simp only [adB,beq_iff_eq] at e;obtain ⟨⟨⟨⟨⟨e1,e2⟩,e3⟩,e4⟩,e5⟩,e6⟩:=e;exact ⟨e1,e2,e3,e4,e5,e6⟩
theorem oN {M:ao6} (p:ExcAt a C h):aoK M h (typeOf (.ref a)) (.ref C):=by
 obtain ⟨o,_,e1,e2,_⟩:=p;exact e2 ▸ (Looks.ld e1).andThen .now
theorem Ip {R:aod->aav->Prop} {tp:aat} (X:K.In h) (p:ExcAt a C h) (e:jO K C=true) (hq:R (.ok (.ret (.ref C))) ⟨h,g,d,t,os⟩) :
   codeAny (model prog w) A (.call (.builtin "getset_descriptor.__get__") ⟨[.builtin "object.__class__",.ref a,tp],[]⟩) R ⟨h,g,d,t,os⟩:=by
 have L0:aoK (model prog w) h (typeOf (.ref a)) (.ref C):=oN p;have L1:=looks_mroIn (M:=model prog w) X (fY e).2.2.2.1;refine aga (PySem.W.KF.slot_gs.plain) (PySem.W.KF.entry_gs) (PySem.W.KF.slot_gs.check _ _ _ _ _ _ _ _ PySem.W.KF.type_class (PySem.W.KF.args_gs _ _ _) ?_);unfold afD.«getset_descriptor.__get__»; unfold descrGet;rw [dga_obj]; refine El (aau ?_);unfold descrGetter; unfold descrCheckInstance descrNameAndClass; unfold isInstance;simp only [PySem.W.KF.owner_class]
 repeat lk
 refine ⟨aio _ (by decide +kernel),aev (PySem.W.KF.entry_class) ?_⟩;unfold afD.«object.__class__»; unfold shownTypeOf
 repeat lk
 exact hq
theorem Cw {tk:Tok} {Q:Fin->aav->Prop} (X:K.In h) (p:ExcAt a C h) (e:jO K C=true) (hq:Q (.done (.ret (.ref C))) ⟨h,g,d,t,os⟩) :
   wpAny (model prog w) A (afD.«object.__getattribute__» ⟨[.ref a,.str "__class__" tk],[]⟩) Q E ⟨h,g,d,t,os⟩:=by
 have L0:aoK (model prog w) h (typeOf (.ref a)) (.ref C):=oN p;have L1:=akM (M:=model prog w) X (fY e).2.2.1;have L5:aoK (model prog w) h (typeOf (.builtin "object.__class__")) (.type "getset_descriptor"):=aos F.typeOf_object_class;have L6:aoK (model prog w) h (typeLookup (.type "getset_descriptor") "__get__") (some (.builtin "getset_descriptor.__get__")):=aos F.slot_gs_get.lookup;have L7:=aos (M:=model prog w) (h:=h) F.slot_gs_set.lookup;unfold afD.«object.__getattribute__»
 repeat ((fail_if_success (with_reducible show wpAny _ _ (call _ _) _ _ _)); (first | lk | wp_step))
 refine aiz (Ip X p e ?_)
 repeat (any_goals (first | assumption | wp_step))
theorem Fg {tk:Tok} {R:aod->aav->Prop} (X:K.In h) (p:ExcAt a C h) (e:jO K C=true) (hq:R (.ok (.ret (.ref C))) ⟨h,g,d,t,os⟩) :
   codeAny (model prog w) A (.call (.builtin "BaseException.__getattribute__") ⟨[.ref a,.str "__class__" tk],[]⟩) R ⟨h,g,d,t,os⟩:=by
 refine aga PySem.F.excAttr_ValueError.ga.plain F.entry_bexc_ga ?_;have hk:builtinKind "BaseException.__getattribute__" = some .slot:=(by decide +kernel);have hsplit:splitId "BaseException.__getattribute__" = some ("BaseException","__getattribute__"):=(by decide +kernel);have ha:=F.args_bexc_ga (.ref a) (.str "__class__" tk);have L0:aoK (model prog w) h (typeOf (.ref a)) (.ref C):=oN p;have L1:=looks_subIn (M:=model prog w) X (fY e).2.2.2.2.1;simp only [checkBuiltinCall,hk,hsplit];refine El ?_;unfold isInstance
 repeat ((fail_if_success (with_reducible show wpAny _ _ (afD.«object.__getattribute__» _) _ _ _)); (first | lk | wp_step))
 refine Cw X p e ?_;exact hq
theorem Fi {Q:Option aat->aav->Prop} (X:K.In h) (p:ExcAt a C h) (e:jO K C=true) (hq:Q (some (.ref C)) ⟨h,g,d,t+1,os⟩) :
   wpAny (model prog w) A (getAttr? (.ref a) "__class__") Q E ⟨h,g,d,t,os⟩:=by
 have L0:aoK (model prog w) h (typeOf (.ref a)) (.ref C):=oN p;have L1:=akM (M:=model prog w) X (fY e).1;have L2:=akM (M:=model prog w) X (fY e).2.1;have f3:=PySem.F.excAttr_ValueError.ga.bind (.ref a);have hx2:(afL "BaseException.__getattribute__" == afL "object.__getattribute__")=false:=(by decide +kernel)
 have hx1:(onTheHeap (abA C) && afL "BaseException.__getattribute__" == afL "object.__getattribute__")=false:=by
   rw [hx2]; exact afB _
 unfold getAttr? getAttrBy?; unfold getAttrBy;refine El (wpAny_mkText ?_);refine El (aiB ?_);refine ac6 (El (L0.at ?_));refine El (L1.at ?_);dsimp only;rw [if_neg (by rw [hx1]; exact aaK)];unfold getAttrByItsOwn
 repeat ((fail_if_success (with_reducible show wpAny _ _ (Sem.attempt _) _ _ _)); (first | lk | wp_step))
 refine aiB (ac6 ?_);unfold callGetattribute;rw [if_neg (show ¬ ((false && onTheHeap (afL "BaseException.__getattribute__"))=true) from aaK)];unfold boundAndCalled;rw [f3]; refine El (aau ?_);refine aiz (Fg X p e ?_)
 repeat (any_goals (first | assumption | wp_step))
theorem R7 (e:jO K C=true):KitX K (.ref a) (.ref C) (ExcAt a C) where
 ty:=λ_ _ _ p=>oN p
 it:=λ_ _ X _=>by
   obtain ⟨cd,hc⟩:=af6.mp (fY e).2.2.2.2.2;unfold clsIn at hc;split at hc
   case h_1 ho =>
     intro A' Q' E' s' k q;unfold isType; unfold loadHead;exact El (anJ (k _ _ (X _ _ ho)) (aau q))
   case h_2=>cases hc
 ne:=λh tp dd its n sl X htp=>by
   obtain ⟨cd,hc⟩:=af6.mp (fY e).2.2.2.2.2;refine aiE.mpr λq=>?_
   have z:C=tp:=Value.ref.inj (beq_iff_eq.mp q);subst z;unfold clsIn at hc;split at hc
   case h_1 ho=>cases (X _ _ ho).symm.trans htp
   case h_2=>cases hc
 ca:=λ{_ _ _ _ _ s} X p k=>by
   obtain ⟨h,g,d,t,os⟩:=s;exact Fi X p e k
end
section
variable {X:Cx}
end
end L2
namespace FD
open PySem PyProof.Rows
section
variable {M:ao6} {A:acX} {E:aat->aav->Prop} {s:aav} {B:afp} {env:Env} {l:List Env} {L e:aaH} {P:Obj->Prop} {fl:aat}
noncomputable def Hold (P:Obj->Prop):Prop:=∀ (o:Obj) (v:aat),P o->P (o.mapFields (·.setIfInBounds 1 v))
structure Tr (h B:afp) (e:aaH) (P:Obj->Prop) (fl:aat):Prop where
 ex:∃ (o:Obj) (vs:Array aat) (T:aaH) (oT:Obj) (ts:Array aat),h.get? e=some o/\P o/\o.data=.fields vs/\vs[1]?=some (.ref T)/\(B.get? T=none/\T≠e)/\h.get? T=some oT/\oT.data=.fields ts/\ts[3]?=some fl
structure R8 (B:afp) (l:List Env) (e:aaH) (P:Obj->Prop) (fl:aat) (h:afp):Prop where
 stay:B.StaysIn h
 new:B.get? e=none
 frs:h.FunFrames B l
 tr:Tr h B e P fl
theorem R9 {h:afp} {T:aaH} {oT:Obj} {ts:Array aat} (hT:h.get? T=some oT) (hd:oT.data=.fields ts) {b:aaH} {o:Obj} (hb:h.get? b=some o) (nf:∀ vs,o.data≠.fields vs):b≠T:=λq=>by
 subst q;rw [hT] at hb;cases hb;exact nf ts hd
theorem Cy {h:afp} {T:aaH} {f:Obj->Obj} (nT:B.get? T=none) (st:B.StaysIn h):B.StaysIn (h.update T f):=λb o q=>by
 have n:b≠T:=λz=>by rw [z,nT] at q; cases q
 exact (ac9 _ _ (acV n)).trans (st b o q)
theorem Ir {h:afp} {T:aaH} {f:Obj->Obj} {oT:Obj} {ts:Array aat} (hT:h.get? T=some oT) (hd:oT.data=.fields ts) (fr:h.FunFrames B l):(h.update T f).FunFrames B l :=
 fr.of_keeps λb o hb nf=>⟨o,(ac9 _ _ (acV (R9 hT hd hb nf))).trans hb,rfl⟩
theorem Sg {h:afp} {T:aaH} {f:Obj->Obj} {oT:Obj} {ts:Array aat} (hT:h.get? T=some oT) (hd:oT.data=.fields ts):h.UpToSlots (h.update T f) :=
 λb o hb nf=>⟨o.slots,(ac9 _ _ (acV (R9 hT hd hb nf))).trans hb⟩
theorem lands {Q:Unit->aav->Prop} (F:R8 B l e P fl s.heap) (hQ:∀ h',R8 B l e P .none h'->s.heap.UpToSlots h'->Q () { s with heap:=h' }):wpAny M A (setFlight (.ref e) none) Q E s:=by
 obtain ⟨st,nw,fr,⟨o,vs,T,oT,ts,ho,po,hd,h1,⟨nT,nTe⟩,hT,hdT,h3⟩⟩:=F;unfold setFlight;refine El (akt ho hd h1 ?_);rw [if_pos (show (abA T != acS)=true by simp)];have z3:3<ts.size:=(afS.mp h3).1;refine ahl hT hdT z3 (hQ _ ⟨Cy nT st,nw,Ir hT hdT fr,⟨o,vs,T,_,_,(ac9 _ _ nTe).trans ho,po,hd,h1,⟨nT,nTe⟩,adP _ hT (aix (ag8 hdT _)),ag8 hdT _,?_⟩⟩ (Sg hT hdT));simp [z3]
theorem entry {outer:List Env} {o:Obj} {vs:Array aat} {head:aat} {b:Bool} {Q:Unit->aav->Prop} (hP:Hold P) (hfr:A.frames=some (env :: outer)) (fr:s.heap.FunFrames B (env :: outer)) (hf:env.frame=some L)
   (ho:s.heap.get? e=some o) (po:P o) (st:B.StaysIn s.heap) (nw:B.get? e=none) (hd:o.data=.fields vs) (hz:1<vs.size)
   (hQ:∀ h',R8 B (env :: outer) e P (rawInt L) h'->s.heap.UpToSlots h'->Q () { s with heap:=h' }) :
   wpAny M A (do let a <- frameOf env; let pl <- entryPlaceOf L b; let c <- an5 head a .none (rawInt L) .none pl; setField (.ref e) 1 c) Q E s:=by
 have nfr:e ∉ (env :: outer).filterMap (·.frame):=λhm=>by
   obtain ⟨_,o',ho',nf⟩:=fr.mem hm;rw [ho] at ho';cases ho';exact nf vs hd
 refine El (wpAny_frameOf_fun hfr fr hf λh1 s1=>El (wpAny_entryPlaceOf λpl hpl=>?_));unfold an5 newFields;refine El (adH ?_ (hpl.sizeOk5 _ _ _ _ _));have ho1:h1.get? e=some o:=(s1.2.1 e nfr).trans ho;have st1:B.StaysIn h1:=λc u q=>(s1.2.1 c λhm=>by rw [(fr.mem hm).1] at q; cases q).trans (st c u q)
 generalize eob:({ cls:=.type "traceback",dict:=none,data:=.fields ([head,.ref L,.none,rawInt L,.none]++(if pl.isEmpty then aft 6 acS else pl)).toArray }:Obj)=ob;have hob:ob.data=.fields ([head,.ref L,.none,rawInt L,.none]++(if pl.isEmpty then aft 6 acS else pl)).toArray:=by rw [<- eob]
 have hof:ob.isFreed=false:=aix hob;have ho2:(h1.push ob).get? e=some o:=aar _ ho1;have nTe:h1.objs.size≠e:=ajy (abh ho1);have hT2:(h1.push ob).get? h1.objs.size=some ob:=aaL _ hof;refine ahl ho2 hd hz (hQ _ ⟨?_,nw,?_,⟨_,_,h1.objs.size,ob,_,adP _ ho2 (aix (ag8 hd _)),hP _ _ po,ag8 hd _,?_,⟨st1.fresh,nTe⟩,(ac9 _ _ (acV nTe)).trans hT2,hob,?_⟩⟩ ?_)
 . exact Cy nw λc u q=>aar _ (st1 c u q)
 . refine Ir ho2 hd (fr.of_keeps λc u q nf=>?_);obtain ⟨sl,q1⟩:=s1.2.2 c u q;exact ⟨_,aar _ q1,rfl⟩
 . simp [hz]
 . first | (simp; done) | (rcases hpl with rfl | ⟨_,_,_,_,_,_,_,rfl⟩ <;> simp)
 . refine Heap.UpToSlots.trans (h₂:=h1.push ob) (λc u q nf=>?_) (Sg ho2 hd);obtain ⟨sl,q1⟩:=s1.2.2 c u q;exact ⟨sl,aar _ q1⟩
theorem adE {outer:List Env} {o:Obj} {vs:Array aat} {Q:Unit->aav->Prop} (hP:Hold P) (hfr:A.frames=some (env :: outer)) (fr:s.heap.FunFrames B (env :: outer)) (hf:env.frame=some L)
   (ho:s.heap.get? e=some o) (po:P o) (st:B.StaysIn s.heap) (nw:B.get? e=none) (hd:o.data=.fields vs) (h1:vs[1]?=some .none)
   (hQ:∀ h',R8 B (env :: outer) e P (rawInt L) h'->s.heap.UpToSlots h'->Q () { s with heap:=h' }):wpAny M A (noteFrame (.ref e) env) Q E s:=by
 unfold noteFrame;simp only [hf];refine El (akt ho hd h1 ?_);rw [if_neg (by decide)];exact entry hP hfr fr hf ho po st nw hd (afS.mp h1).1 hQ
theorem looks {outer:List Env} {Q:Unit->aav->Prop} (hP:Hold P) (hfr:A.frames=some (env :: outer)) (hf:env.frame=some L) (F:R8 B (env :: outer) e P .none s.heap)
   (hQ:∀ h',R8 B (env :: outer) e P (rawInt L) h'->s.heap.UpToSlots h'->Q () { s with heap:=h' }):wpAny M A (noteFrame (.ref e) env) Q E s:=by
 obtain ⟨st,nw,fr,⟨o,vs,T,oT,ts,ho,po,hd,h1,⟨nT,nTe⟩,hT,hdT,h3⟩⟩:=F;unfold noteFrame;simp only [hf];refine El (akt ho hd h1 ?_);rw [if_pos (show (abA T != acS)=true by simp)];refine El (akt hT hdT h3 ?_);rw [if_neg (show ¬ ((acS == rawInt L)=true) by simp [rawInt])];refine El (ahl hT hdT (afS.mp h3).1 ?_);exact entry hP hfr (Ir hT hdT fr) hf ((ac9 _ _ nTe).trans ho) po (Cy nT st) nw hd (afS.mp h1).1 λh' F' up=>hQ h' F' ((Sg hT hdT).trans up)
theorem Ko {outer:List Env} {o:Obj} {vs:Array aat} {Q:Unit->aav->Prop} (hP:Hold P) (hfr:A.frames=some (env :: outer)) (fr:s.heap.FunFrames B (env :: outer)) (hf:env.frame=some L)
   (ho:s.heap.get? e=some o) (po:P o) (st:B.StaysIn s.heap) (nw:B.get? e=none) (hd:o.data=.fields vs) (h1:vs[1]?=some .none)
   (hQ:∀ h',R8 B outer e P .none h'->s.heap.UpToSlots h'->Q () { s with heap:=h' }):wpAny M A (leaving env (.ref e)) Q E s:=by
 unfold leaving;refine El (adE hP hfr fr hf ho po st nw hd h1 λh2 F2 u2=>lands (s:={ s with heap:=h2 }) F2 λh3 F3 u3=>?_);obtain ⟨k1,k2,⟨_,_,k3⟩,k4⟩:=F3;exact hQ h3 ⟨k1,k2,k3,k4⟩ (u2.trans u3)
theorem leaves {outer:List Env} {Q:Unit->aav->Prop} (hP:Hold P) (hfr:A.frames=some (env :: outer)) (hf:env.frame=some L) (F:R8 B (env :: outer) e P .none s.heap)
   (hQ:∀ h',R8 B outer e P .none h'->s.heap.UpToSlots h'->Q () { s with heap:=h' }):wpAny M A (leaving env (.ref e)) Q E s:=by
 unfold leaving;refine El (looks hP hfr hf F λh2 F2 u2=>lands (s:={ s with heap:=h2 }) F2 λh3 F3 u3=>?_);obtain ⟨k1,k2,⟨_,_,k3⟩,k4⟩:=F3;exact hQ h3 ⟨k1,k2,k3,k4⟩ (u2.trans u3)
end
end FD
namespace L2
open PySem PySem.Spec PyProof.Rows PyProof
noncomputable abbrev adF (us:List aat):Obj:={ cls:=.type "tuple",data:=.seq us.toArray }
noncomputable abbrev exB (C a:aaH):Obj:={ cls:=.ref C,data:=.fields #[.ref a,.none,.none,.none,.bool false,.none] }
noncomputable abbrev Yt (h:afp) (C:aaH) (us:List aat):afp:=(h.push (adF us)).push (exB C h.objs.size)
theorem lC {h:afp} {C:aaH} {us:List aat} (b:aaH) (o:Obj) (e:h.get? b=some o):(Yt h C us).get? b=some o:=aar _ (aar _ e)
theorem Ss (h:afp) (C:aaH) (us:List aat):(Yt h C us).get? (h.objs.size+1)=some (exB C h.objs.size):=by heap_get
section
variable {prog:abt} {w:acU} {A:acX} {E:aat->aav->Prop} {h:afp} {g:Array al6} {d:Drawn} {t:Nat} {os:OsState} {nm q:Str} {C N f:aaH} {bs bm bmB sub:List aat} {hdct ab:Bool} {sn:List Str} {col:Option Bool} {dd:Option aaH} {k0 k1 k2 k3 k5:Option aat} {B newId initId:String}
theorem tcI (F:ExcBaseFacts B newId initId bmB) (T:apv h bmB bm) {mN:Str->Option aat} {us:List aat} {Q:Fin->aav->Prop} (hC:h.get? C=some (excClassObj nm q C N bs bm hdct sn sub ab col dd k0 k1 k2 k3 k5 newId)) (hn:h.Ns N mN) (hni:mN "__init__" = some (.ref f))
   (hb:∀ self,aot (model prog w) (Yt h C us) (bindSpecial (.ref f) self) (.ref f,[self]))
   (hq:wpAny (model prog w) A (call (.ref f) (.ref (h.objs.size+1) :: us)) (λu s'=>u=.none/\Q (.done (.ret (.ref (h.objs.size+1)))) s') E ⟨Yt h C us,g,d,t,os⟩) (few:us.length<=sizeLine) :
   wpAny (model prog w) A (afD.«type.__call__» ⟨.ref C :: us,[]⟩) Q E ⟨h,g,d,t,os⟩:=by
 repeat (first | with_reducible refine aiF hC ?_ | with_reducible refine wpAny_madeBy_exc hC ?_ | wp_step)
 refine codeAny_call_builtin_code (aio _ F.quiet) (wpAny_check_new_subT F T hC (codeAny_exc_new_subT F T hC ?_ few));have c1:(abA C :: bm).contains (.ref C)=true:=by simp
 have n1:(Yt h C us).Ns N mN:=hn.keeps lC;show wpAny _ A _ _ _ _;unfold isInstance
 repeat (first | with_reducible refine aiF (Ss h C us) ?_ | (with_reducible refine an6 (lC _ _ hC) ?_; rw [c1]) | wp_step)
 show wpAny _ A (typeLookup (.ref C) _) _ _ _;refine wpAny_typeLookup_tail (lC _ _ hC) n1 (T.keeps lC) F.mroIs F.init.lookup ?_;rw [hni];refine ac6 (El ((hb _).at (El (afF hq (λu s' z=>?_) λ_ _ x=>x))));obtain ⟨rfl,z⟩:=z;refine aau ?_
 wp_walk
 exact z
theorem adG (F:ExcBaseFacts B newId initId bmB) (T:apv h bmB bm) {mN:Str->Option aat} {us:List aat} {Q:aat->aav->Prop} (hC:h.get? C=some (excClassObj nm q C N bs bm hdct sn sub ab col dd k0 k1 k2 k3 k5 newId)) (hn:h.Ns N mN) (hni:mN "__init__" = some (.ref f))
   (hb:∀ self,aot (model prog w) (Yt h C us) (bindSpecial (.ref f) self) (.ref f,[self]))
   (hq:wpAny (model prog w) (A.under (.builtin "type.__call__" ⟨.ref C :: us,[]⟩)) (call (.ref f) (.ref (h.objs.size+1) :: us)) (λu s'=>u=.none/\Q (.ref (h.objs.size+1)) s') E ⟨Yt h C us,g,d,t,os⟩) (few:us.length<=sizeLine) :
   wpAny (model prog w) A (call (.ref C) us) Q E ⟨h,g,d,t,os⟩:=by
 have f1:=tc_lookup;have f2:=tc_bind (.ref C);have ty:(⟨h,g,d,t,os⟩:aav).TypeIs (.ref C) "type":=⟨_,hC,rfl⟩;refine aiz (ajW ?_);show wpAny _ _ (callAny (.ref C) _) _ _ _
 repeat (any_goals (first | assumption | with_reducible refine aiF hC ?_ | wp_step))
 refine ⟨rfl,?_⟩;refine codeAny_call_builtin_at (aio _ (by decide +kernel)) entry_typeCall (wpAny_check_type_call_sub hC (tcI F T hC hn hni hb ?_ few));refine afF hq (λu s' z=>⟨z.1,?_⟩) λ_ _ x=>x
 exact z.2
end
end L2
namespace L2
open PySem PySem.Spec PyProof.Rows PyProof PySem.W PySem.Builtin PySem.Builtin.ObjectAttr
noncomputable def four:List aat:=[.type "ValueError",.type "Exception",.type "BaseException",.type "object"]
theorem Fj (self:aat):refuseLoop self "__setattr__" four=pure ():=by unfold four; kernel_rfl
noncomputable def lD (l:List aat):Prop:=∃ rs:List aaH,l=rs.map abA++four
theorem Iu (self:aat) {l:List aat} (e:lD l):refuseLoop self "__setattr__" l=pure ():=by
 obtain ⟨rs,rfl⟩:=e
 induction rs with
 | nil=>exact Fj self
 | cons b r ih=>rw [abn,af7,refuseLoop_ref]; exact ih
theorem Sv {l:List aat} (e:lD l):l.contains (.type "object")=true:=by
 obtain ⟨rs,rfl⟩:=e;simp [four]
theorem WT {l:List aat} (e:lD l):l.isEmpty=false:=by
 obtain ⟨rs,rfl⟩:=e;cases rs <;> rfl
section
variable {prog:abt} {w:acU} {A:acX} {K:Frag} {C x:aaH} {s:aav} {R:aod->aav->Prop}
theorem aiG {ox:Obj} {od:Option Obj} {name:Str} {tk:Tok} {v:aat} (X:K.In s.heap) (I:amf s.heap x ox C od) {cd:apf} (hc:clsIn K C=some cd) (ho:lD cd.mro) (ht:findIn K (.ref C) name=some none)
   (h:∀ b,wpAny (model prog w) A.in1 (storeInOwnDict (.ref x) (.ref C) (.str name tk) name v b) (λfin s'=>match fin with | .done f=>R (.ok f) s' | .again c'=>c'.quiet=true/\codeAny (model prog w) A c' R s') (λe s'=>R (.error e) s') s) :
   codeAny (model prog w) A (.call (.builtin "object.__setattr__") ⟨[.ref x,.str name tk,v],[]⟩) R s:=by
 have SF:=PySem.F.store_object;have ne:=WT ho;have top:aoK (model prog w) s.heap (isInstance (.ref x) (.type "object")) true:=I.type.andThen (looks_mroIn X (by unfold mroIn; rw [hc,Option.bind_some,if_neg (by rw [ne]; decide),Sv ho]))
 refine aga SF.slot.plain SF.entry (check_slot (i:="object.__setattr__") (owner:="object")
   (n:="__setattr__") (rest:=[.str name tk,v]) SF.kind SF.split top (SF.args (.ref x) (.str name tk) v) ?_)
 have hm:aoK (model prog w) s.heap (mroOf (.ref C)) cd.mro:=(looks_clsIn X hc).andThen .now;rw [osa_eq,refuse_eq];refine El (El (I.type.here (El (hm.here ?_))));rw [Iu _ ho];exact aau (El (I.type.here (El ((akM X ht).here (El (aau (h _)))))))
theorem aiH {fs:Array aat} {sl:Array (Option aat)} {cd:apf} {name:Str} {v:aat} {Q:Unit->aav->Prop} {E:aat->aav->Prop} (X:K.In s.heap) (hx:s.heap.get? x=some ⟨.ref C,none,.fields fs,sl⟩)
   (hs:findIn K (.ref C) "__setattr__" = some (some (.builtin "object.__setattr__"))) (hc:clsIn K C=some cd) (ho:lD cd.mro) (hd:cd.hasDict=true) (ht:findIn K (.ref C) name=some none)
   (h:∀ h',h'.get? x=some ⟨.ref C,some s.heap.objs.size,.fields fs,sl⟩->h'.Ns1 s.heap.objs.size (λy=>if y=name then some v else none)->(∀ b,b≠x->b≠s.heap.objs.size->h'.get? b=s.heap.get? b)->Q () { s with heap:=h',toks:=s.toks+2 }) :
   wpAny (model prog w) A (setAttr (.ref x) name v) Q E s:=by
 have J:amf s.heap x ⟨.ref C,none,.fields fs,sl⟩ C none:=⟨hx,rfl,rfl,aeR⟩;refine aox X J hs (aiG (s:={ s with toks:=s.toks+1 }) X J hc ho ht λb=>?_);refine El (aau (El (El (anJ hx (El (aoc (s:={ s with toks:=s.toks+1 }) (an0 X hc) ?_))))));rw [hd];obtain ⟨hp,g,d,t,os⟩:=s;dsimp only
 iterate 9 wp_step
 have lt:x<hp.objs.size:=abh hx;have ne:x≠hp.objs.size:=abB lt;have hx1:(hp.push { cls:=afE "dict",data:=alL #[] }).get? x=some ⟨.ref C,none,.fields fs,sl⟩:=aar _ hx;have u1:=adP (λo:Obj=>{ cls:=o.cls,dict:=some hp.objs.size,data:=o.data,slots:=o.slots }) hx1 rfl;have u2:∀ b,b≠x->((hp.push { cls:=afE "dict",data:=alL #[] }).update x λo=>{ cls:=o.cls,dict:=some hp.objs.size,data:=o.data,slots:=o.slots }).get? b=(hp.push { cls:=afE "dict",data:=alL #[] }).get? b:=λb n=>ac9 _ _ (acV n)
 have e0:(hp.push { cls:=afE "dict",data:=alL #[] }).get? hp.objs.size=some { cls:=afE "dict",data:=alL #[] }:=by heap_get
 generalize ((hp.push { cls:=afE "dict",data:=alL #[] }).update x λo=>{ cls:=o.cls,dict:=some hp.objs.size,data:=o.data,slots:=o.slots })=h1 at u1 u2 |-;have e1:h1.get? hp.objs.size=some { cls:=afE "dict",data:=alL #[] }:=by rw [u2 _ (acV ne)]; exact e0
 have n1:h1.Ns1 hp.objs.size (λ_=>none):=aoz ⟨_,#[],_,e1,rfl,(λe he=>absurd he (by simp)),λ_=>rfl⟩;refine El (aau (El ?_));refine wpAny_nsSet1 (s:=⟨h1,g,d,t+1,os⟩) n1 λh' hn2 hs2=>?_
 have w0:am6 (λ_=>(none:Option aat)) []:=λy hy=>absurd rfl hy
 obtain ⟨oD,esD,epD,hoD,hdD,hcD⟩:=hn2.count (aoy name v w0);refine El (wpAny_lookBehind hoD (by rw [hdD]; exact pastItsLine_dict (adS hcD (by show 1<=_; exact abO rfl))) ?_);refine aau (h h' ((hs2.2 _ ne).trans u1) hn2 λb n1 n2=>?_);rw [hs2.2 b n2,u2 b n1];exact aoM _ _ _ n2
end
section
variable {M:ao6} {A:acX} {E:aat->aav->Prop} {env:Env} {nm q:Str} {C N:aaH} {bs bm sub:List aat} {hdct ab:Bool} {sn:List Str} {col:Option Bool} {dd:Option aaH} {k0 k1 k2 k3 k5:Option aat} {newId:String}
theorem aaD {s:aav} {x:Sem aat} {Q:Flow->aav->Prop} (hbase:bm.contains (.type "BaseException")=true) (hh:A.handled=none)
   (h:wpAny M A x (λv s1=>∃ e t di,v=.ref e/\s1.heap.get? C=some (excClassObj nm q C N bs bm hdct sn sub ab col dd k0 k1 k2 k3 k5 newId)/\s1.heap.get? e=some ⟨.ref C,di,.fields #[.ref t,.none,.none,.none,.bool false,.none],#[]⟩/\E (.ref e) s1) E s) :
   wpAny M A (raiseStmt env (some x) none) Q E s:=by
 have c1:(abA C :: bm).contains (.type "BaseException")=true:=by rw [List.contains_cons,hbase,Bool.or_true]
 unfold raiseStmt;refine El (afF h (λv s1 h1=>?_) λ_ _ x=>x);obtain ⟨e,t,di,rfl,hC,he,hE⟩:=h1;obtain ⟨hp,g,d,tk,os⟩:=s1
 repeat (first | with_reducible refine aiF he ?_ | with_reducible refine aiF hC ?_ | (with_reducible refine an6 hC ?_; rw [c1]) | wp_step)
 exact wpAny_raiseNew_none hh hE
end
end L2
namespace L2
open PySem PySem.Spec PyProof.Rows
section
variable {X:Cx} {k:Nat} {f S C:aaH} {fd:abL} {ps:List Str} {sp:Sp} {qC:List V} {ds:List aat} {n c m:Str} {cp ep np hp pos apos:Pos} {e o:Expr} {es:List Expr} {t:TA} {ta:TE} {i:Nat} {b0:air} {suite:List air} {ts:TS}
end
noncomputable def PX (C:aaH) (dd:Option aaH) (o:Obj):Prop:=o.cls=.ref C/\o.dict=dd
theorem vX {C:aaH} {dd:Option aaH}:FD.Hold (PX C dd):=λo v h=>by
 obtain ⟨cls,dict,data,slots⟩:=o;cases data <;> exact h
noncomputable def Cz (P:abt) (w:acU):K6:=λouter H s E e s' =>
 ∃ (a C:aaH) (dd:Option aaH) (B:afp) (H':Hp),e=.ref a/\s'.os=s.os/\am7 s'.gens/\Un (frs outer) [] H H' s.heap s'.heap/\mX P w H' s'.heap/\FD.R8 B outer a (PX C dd) .none s'.heap /\
   (∀ b o,s'.heap.get? b=some o->b ∉ frs outer->((∃ u,H' b=some u)\/∃ u,s.heap.get? b=some u)->B.get? b=some o)/\H' a=none/\E (.ref C) dd H'
noncomputable def vY (X:Cx) (E:XK):Prop:=X.stack=X.env :: X.outer/\X.env.frame=some X.env.locals/\X.ex=[]/\X.calm=true /\
 ∀ e s',wpAny (model X.prog X.w) X.A (leaving X.env e) (λ_ s2=>Cz X.prog X.w X.outer X.H₀ X.s₀ E e s2) (λe' s2=>Cz X.prog X.w X.outer X.H₀ X.s₀ E e' s2) s'->X.xe e s'
theorem iD {P:abt} {w:acU} {K:aaf} {mg:Str->Option aat} {base:afp} {N:List Str} {qual:Str} {scope:Scope} {f:aaH} {cd:aat} {A:acX} {outer:List Env} {s:aav} {H:Hp} {E:XK} :
   vY (Dq (Cz P w) P w K mg base N qual scope f cd A outer s H E) E:=⟨rfl,rfl,rfl,rfl,λ_ _ h=>h⟩
section
variable {X:Cx} {E:XK}
theorem WW (L:vY X E):Passes (Cz X.prog X.w) X E:=by
 intro pins σ H s e s' I h;obtain ⟨hst,hf,hex,hcalm,hxe⟩:=L;obtain ⟨a,C,dd,B,H2,rfl,hos,bare,un,hok,fl,cov,na,hE⟩:=h;refine hxe _ _ ?_;have I2:Inv X pins σ H2 s':=I.call' (ch:=[]) hos un hok bare (λb z=>by simp at z);have hfr:X.A.frames=some (X.env :: X.outer):=by rw [<- hst]; exact I.ok.frames
 have J0:=fl;rw [hst] at J0;refine FD.leaves vX hfr hf J0 λh2 PL up=>?_
 have hst':∀ b o,s'.heap.get? b=some o->b ∉ frs X.stack->((∃ u,H2 b=some u)\/∃ u,X.s₀.heap.get? b=some u)->h2.get? b=some o:=λb o q nb hb=>PL.stay b o (cov b o q nb (hb.imp id λz=>by
   obtain ⟨u,hu⟩:=z
   exact I.base.there b u hu (by rw [hex]; simp)))
 have nx:∀ b:aaH,b ∉ X.ex:=λb=>by rw [hex]; simp
 refine ⟨a,C,dd,B,H2,rfl,I2.os,I2.bare,⟨λb o q n hb _=>?_,λb o q n hb _=>?_,λb o q n _=>I2.base.free b o q n (nx b),λb o q _=>?_,I2.base.tups,I2.base.qy,I2.base.qN⟩,λb u hu=>?_,PL,λb o q nb hb=>?_,na,hE⟩
 . exact hst' b o (I2.base.keep b o q n hb (nx b)) (I2.old q hb) (.inr ⟨o,q⟩)
 . obtain ⟨sl,e1⟩:=I2.base.slot b o q n hb (nx b);by_cases z:b∈frs X.stack
   . obtain ⟨_,o',ho',nf⟩:=I2.stack.mem z;rw [e1] at ho'; cases ho';obtain ⟨sl2,e2⟩:=up b _ e1 nf;exact ⟨sl2,e2⟩
   . exact ⟨sl,hst' b _ e1 z (.inr ⟨o,q⟩)⟩
 . obtain ⟨o2,e1⟩:=I2.base.there b o q (nx b);by_cases z:b∈frs X.stack
   . obtain ⟨_,o',ho',nf⟩:=I2.stack.mem z;rw [e1] at ho'; cases ho';obtain ⟨sl2,e2⟩:=up b _ e1 nf;exact ⟨_,e2⟩
   . exact ⟨_,hst' b _ e1 z (.inr ⟨o,q⟩)⟩
 . refine (I2.hok b u hu).stay (λc v hc q=>?_) (λ_ q=>q) λ_ _ q=>q
   rcases hc with rfl | hc
   . exact hst' c v q (I2.track hu) (.inl ⟨_,hu⟩)
   . exact hst' c v q (I2.track hc) (.inl ⟨_,hc⟩)
 . have Sw:b ∉ frs X.stack:=by
     rcases hb with ⟨u,hu⟩ | ⟨u,hu⟩
     . exact I2.track hu
     . exact I2.old hu nb
   obtain ⟨o2,e1⟩:∃ o2,s'.heap.get? b=some o2:=by
     rcases hb with ⟨u,hu⟩ | ⟨u,hu⟩
     . exact I2.there hu
     . exact I2.base.there b u hu (nx b)
   have z:=hst' b o2 e1 Sw hb;rw [q] at z; cases z
   exact cov b o e1 Sw (hb.imp id λz=>by
     obtain ⟨u,hu⟩:=z
     exact I.base.there b u hu (nx b))
end
section
variable {X:Cx} {E:XK} {x:Str} {C:aaH} {np cpos pos:Pos} {e:Expr} {es:List Expr} {t:TA}
theorem qb (L:vY X E) (oc:af2 X.K C [.type "ValueError",.type "Exception",.type "BaseException",.type "object"] "ValueError.__new__" = true) (hg:Gl X x) (hm:X.mg x=some (.ref C)) (ha:PA X (e :: es) t)
   (hdb:(x == ("__debug__" : Str))=false:=by decide) (he:starEach (e :: es) X.env=(false,eval e X.env) :: starEach es X.env:=by rfl) (hpl:(backTo cpos (starEach es X.env)).any (·.1)=false:=by rfl) :
   PS X (.Raise (some (.Call (.Name x np) (e :: es) [] cpos)) none pos) (aaA C E t):=by
 intro pins s σ H D I h;obtain ⟨hst,hf,hex,hcalm,hxe⟩:=L;obtain ⟨nm,qn,N,bs,bm,hd,sn,sub,ab,col,dd,k0,k1,k2,k3,k5,mN,hC,hN,hni,hT⟩:=aaz I.mod.Vb oc
 have hpl':(backTo cpos (starEach (e :: es) X.env)).any (·.1)=false:=by
   rw [he];show (false || (backTo cpos (starEach es X.env)).any (·.1))=false;rw [hpl]; rfl
 refine wpAny_Raise_call_subT (C:=C) (nm:=nm) (q:=qn) (N:=N) (bs:=bs) (bm:=bm) (hdct:=hd) (sn:=sn) (sub:=sub) (ab:=ab) (col:=col) (dd:=dd) (k0:=k0) (k1:=k1) (k2:=k2) (k3:=k3) (k5:=k5) (mN:=mN) al5 (hT.hasType (by decide)) (I.ok.hd hcalm) hpl' hni (pD I hg hm ⟨rfl,?_⟩ hdb);have h1:=ha cpos pins s σ H _ I h;rw [he] at h1 |-;refine akR (c7 h1 λus s2 z=>?_);obtain ⟨vs,H2,I2,rv,hl,hE⟩:=z;refine ⟨rfl,by rw [<- rv.length]; exact hl,I2.bk _ _ hC,hN.keeps I2.bk,hT.keeps I2.bk,λh' a hme=>hxe _ _ ?_⟩;have hfr:X.A.frames=some (X.env :: X.outer):=by rw [<- hst]; exact I.ok.frames
 have hFF:s2.heap.FunFrames (agO s2.heap (frs X.stack)) (X.env :: X.outer):=by
   have z:=am4 (as:=frs X.stack) I2.stack (λenv he a ha=>ajL.mpr ⟨env,he,ha⟩);rw [hst] at z |-;exact z
 obtain ⟨tt,heE,_,_⟩:=hme.there
 have nw:(agO s2.heap (frs X.stack)).get? a=none:=by
   cases z:(agO s2.heap (frs X.stack)).get? a with
   | none=>rfl
   | some u=>have y:=ajC _ z; rw [hme.new] at y; cases y
 refine FD.Ko (B:=agO s2.heap (frs X.stack)) (P:=PX C none) vX hfr (hFF.of_keeps λb o hb _=>⟨o,hme.keeps b o hb,rfl⟩) hf heE ⟨rfl,rfl⟩ (λb o z=>hme.keeps b o (ajC _ z)) nw rfl rfl λh2 fl up=>?_
 have hk:∀ b o,s2.heap.get? b=some o->b ∉ frs X.stack->h2.get? b=some o:=λb o q nb=>fl.stay b o (afT _ q nb)
 obtain ⟨un,hok⟩:=I2.out hex hk (λb o q hb=>by
   obtain ⟨_,o',ho',nf⟩:=I2.stack.mem hb;rw [q] at ho'; cases ho'
   exact up b o (hme.keeps b o q) nf)
 refine ⟨a,C,none,_,H2,rfl,I2.os,I2.bare,un,hok,fl,λb o q nb hb=>?_,?_,hE⟩
 . rcases hb with ⟨u,hu⟩ | ⟨u,hu⟩
   . obtain ⟨o2,e2⟩:=I2.there hu;have z:=hk b o2 e2 (I2.track hu);rw [q] at z; cases z;exact afT _ e2 (I2.track hu)
   . obtain ⟨o2,e2⟩:=I2.base.there b u hu (by rw [hex]; simp);have Sw:=I2.old hu nb;have z:=hk b o2 e2 Sw;rw [q] at z; cases z;exact afT _ e2 Sw
 . cases z:H2 a with
   | none=>rfl
   | some u =>
     obtain ⟨o,eo⟩:=I2.there z;rw [hme.new] at eo; cases eo
end
noncomputable def vg (a C:aaH) (dd:Option aaH) (h:afp):Prop:=∃ o vs,h.get? a=some o/\PX C dd o/\o.data=.fields vs
noncomputable def lE (a C:aaH) (dd:Option aaH):HO:=.ext (vg a C dd)
theorem vg.at {a C:aaH} {dd:Option aaH} {h:afp} (e:vg a C dd h):ExcAt a C h:=by
 obtain ⟨o,vs,e,p,d⟩:=e;exact ⟨o,vs,e,p.1,d⟩
theorem WX {H:Hp} {P:abt} {w:acU} {h:afp} {a C:aaH} {dd:Option aaH} (e:vg a C dd h):bT P w H h a (lE a C dd):=by
 refine ⟨e,?_,λh1 h2 p k=>?_⟩
 . obtain ⟨o,_,e,_⟩:=e; exact ⟨o,e⟩
 . obtain ⟨o,vs,e,r⟩:=p;exact ⟨o,vs,k o e,r⟩
theorem Iv {P:abt} {w:acU} {l:List Env} {H1 H2:Hp} {h1 h5:afp} {a C:aaH} {dd:Option aaH} (un:Un (frs l) [] H1 H2 h1 h5) (hok:mX P w H2 h5) (na:H2 a=none) (n1:h1.get? a=none) (e:vg a C dd h5) :
   Un (frs l) [] H1 (upd H2 a (lE a C dd)) h1 h5/\mX P w (upd H2 a (lE a C dd)) h5:=by
 refine ⟨⟨un.keep,un.slot,λb o q n hx=>?_,un.there,λb xs q=>?_,λb o u q=>?_,λb ps q=>?_⟩,λb u q=>?_⟩
 . rw [aB (λz=>by rw [z,n1] at q; cases q)];exact un.free b o q n hx
 . have z:=un.tups b xs q;rw [aB (aH z na)]; exact z
 . have z:=un.qy b o u q;rw [aB (aH z na)]; exact z
 . obtain ⟨more,z⟩:=un.qN b ps q;exact ⟨more,by rw [aB (aH z na)]; exact z⟩
 . by_cases hb:b=a
   . subst hb;rw [au] at q; cases q;exact WX e
   . rw [aB hb] at q;exact (hok b u q).stay (λ_ _ _ r=>r) (λc r=>by rw [aB (aH r na)]; exact r) λc xs r=>by rw [aB (aH r na)]; exact r
section
variable {X:Cx} {k:Nat} {f S C:aaH} {fd:abL} {ps:List Str} {sp:Sp} {qC:List V} {ds:List aat} {n c m:Str} {cp ep np hp pos apos:Pos} {e o:Expr} {es:List Expr} {t:TA} {ta:TE} {i:Nat} {b0:air} {suite:List air} {ts:TS}
noncomputable def aaE (K:aaf) (C:aaH) (m:Str) (S:aaH) (i:Nat) (sp:Sp) (qC:List V) (ta:TE) (t:TA) (ts:TS):TS:=λD σ H =>
 O7 C m sp qC (λcl dd H2=>aji K cl (.ref S)=some true/\∀ a C,cl=.ref C->H2 a=none->ts { nx:=fun σ' H'=>D.nx (σ'.set i none) H',rt:=D.rt,bk:=fun σ' H'=>D.bk (σ'.set i none) H',ct:=fun σ' H'=>D.ct (σ'.set i none) H' } (σ.set i (some (.ref a))) (upd H2 a (lE a C dd))) ta t σ H λ_ H2=>D.nx σ H2
theorem yu {pl:Sem Bool} (hob:PE X.nox o ta) (hc:Cls X.K C) (hm:Meth X.K C m f) (F:aV X.prog X.w X.K X.mg X.base (Cz X.prog X.w) k f fd ps sp) (hr:fX k X.A) (hb:Binds X.K fd ps ds) (hd:Vals qC ds) (ha:PA X.nox (e :: es) t)
   (hst:X.stack=X.env :: X.outer) (hf:X.env.frame=some X.env.locals) (hN:X.N.Nodup) (hi:X.N[i]?=some n) (hl:X.env.scope.names.lookup n=some .local) (hgc:Gl X c) (hmc:X.mg c=some (.ref S)) (hsu:∀ a E',FW (X.marked a E') (b0 :: suite) ts)
   (hdc:(c == ("__debug__" : Str))=false:=by decide) (he:starEach (e :: es) X.env=(false,eval e X.env) :: starEach es X.env:=by rfl) (hpl:(backTo cp (starEach es X.env)).any (·.1)=false:=by rfl)
   (ht:eval (.Call (.Attribute o m apos) (e :: es) [] cp) X.env=(do
     let ov <- eval o X.env
     standAt apos.atName
     let (f,first) <- holding [ov] (getMethod ov m pl)
     callWith cp f first (backTo cp (starEach (e :: es) X.env)) (backToKw cp (keywordEach [] X.env))):=by rfl)
   (hs:swapsWith (.Call (.Attribute o m apos) (e :: es) [] cp) none ep.line X.env=pure false:=by rfl) :
   PS X (.Try [.Expr (.Call (.Attribute o m apos) (e :: es) [] cp) ep] [.ExceptHandler (some (.Name c np)) (some n) (b0 :: suite) hp] [] [] pos) (aaE X.K C m S i sp qC ta t ts):=by
 intro pins s σ H D I h;refine wpAny_Try_except (amK (wpAny_Expr_any ?_ I.quiet hs));refine akI (pl:=pl) (afF (hob pins s σ H _ (I.wish _) h) (λu0 s0 z=>?_) λ_ _ z=>aek z) ht;obtain ⟨x0,H0,I0,rx,a0,dx,fs,ex0,ea,lk,q0⟩:=z;have I0:=I0.jQ;subst ex0;obtain rfl:u0=abA a0:=rx;refine qO I0 ea hc hm lk ?_;refine ain (first:=[.ref a0]) (h₀:=X.base) I.ok.mod.Vb hm.kp (afF (ha cp pins s0 σ H0 _ (I0.wish _) q0) (λus s1 z=>?_) λ_ _ z=>aek z) he hpl;obtain ⟨vs,H1,I1,r,q⟩:=z;have I1:=I1.jQ;refine ⟨I1.pB,?_⟩;have r2:Vals ((V.ref a0 :: vs)++qC) ((abA a0 :: us)++ds):=(show Vals (V.ref a0 :: vs) (abA a0 :: us) from .cons rfl r).append hd;have hlen:((abA a0 :: us)++ds).length=ps.length:=by rw [<- r2.length]; exact F.len _ _ _ _ q
 refine aiz (agq (F.run X.A X.stack s1 H1 ⟨abA a0 :: us,[]⟩ ((abA a0 :: us)++ds) ((V.ref a0 :: vs)++qC) _ _ hr I1.env0 (hb s1 _ I1.pB hlen) r2 q) λres s' hq=>?_);cases res with
 | ok fl =>
   cases fl with
   | ret u =>
     obtain ⟨v,H2,I2,_,q2⟩:=I1.after hq;exact ajD (ajD ⟨σ,H2,I2,q2⟩)
   | next=>exact aek hq
   | brk=>exact aek hq
   | cont=>exact aek hq
 | error ex =>
   obtain ⟨a,C,dd,B,H2,rfl,hos,bare,un,hok,fl,cov,na,hmt,hts⟩:=hq;obtain ⟨h2,g',d',t',o'⟩:=s';have hos:o'=s1.os:=hos;subst hos;have I2:Inv X pins σ H2 ⟨h2,g',d',t',s1.os⟩:=I1.call (ch:=[]) un hok bare (λb z=>by simp at z);have hfr:X.A.frames=some (X.env :: X.outer):=by rw [<- hst]; exact I.ok.frames
   have J0:=fl;rw [hst] at J0;have ff:h2.FunFrames B X.stack:=fl.frs
   have n1:s1.heap.get? a=none:=by
     cases z:s1.heap.get? a with
     | none=>rfl
     | some u =>
       obtain ⟨oe,ws,_,_,_,hoe,_,hod,_⟩:=fl.tr.ex
       have nfa:a ∉ frs X.stack:=λy=>by
         obtain ⟨_,o',ho',nf⟩:=ff.mem y;rw [hoe] at ho'; cases ho';exact nf _ hod
       have:=cov a oe hoe nfa (.inr ⟨u,z⟩);rw [fl.new] at this; cases this
   have turn:∀ (h5:afp) (tk:Nat),B.StaysIn h5->h2.UpToSlots h5->vg a C dd h5->Inv X pins σ (upd H2 a (lE a C dd)) ⟨h5,g',d',tk,s1.os⟩:=λh5 tk st up ea=>by
     obtain ⟨u5,k5⟩:=aaB un hok (I2.vq) ff cov st up;obtain ⟨u6,k6⟩:=Iv u5 k5 na n1 ea;exact I1.call (ch:=[]) u6 k6 bare (λb z=>by simp at z)
   have seen:∀ {h5:afp} {l:List Env},FD.R8 B l a (PX C dd) .none h5->vg a C dd h5:=λz=>by
     obtain ⟨oe,ws,_,_,_,hoe,hoc,hod,_⟩:=z.tr.ex;exact ⟨oe,ws,hoe,hoc,hod⟩
   refine FD.looks vX hfr hf J0 λh4 adI up4=>?_
   refine FD.lands adI λh5 fl5 up5=>?_
   have I5:=turn h5 t' fl5.stay (up4.trans up5) (seen fl5);refine wpAny_handleBy_cons (codeAny_handlers_test (pD (X:=X.marked a λ_ _=>False) (I5.marked a _) hgc hmc ?_ hdc)) (by intro q; cases q)
   have LT:aot (model X.prog X.w) h5 (typeOf (.ref a)) (.ref C):=by
     obtain ⟨o,_,e1,⟨e2,_⟩,_⟩:=seen fl5;exact e2 ▸ (PySem.W.Looks.ld e1).andThen .now
   refine (PySem.W.exm_one (K:=X.K) I5.pB LT hmt).at ?_;refine codeAny_handlers_suite_as ?_;refine FD.lands fl5 λh6 fl6 up6=>?_
   have I6:=turn h6 t' fl6.stay ((up4.trans up5).trans up6) (seen fl6);refine wg (v:=.ref a) I6 hN hi (.inl hl) rfl (λs7 I7=>?_) (.inr hl);refine c7 (hsu a _ pins s7 _ _ _ (I7.marked a _) (hts a C rfl na)) λfw s8 q8=>?_
   cases fw with
   | next =>
     obtain ⟨σ8,H8,I8,q8⟩:=q8;exact vW (I8.unmarked I.ok) hN hi hl λs9 I9=>⟨_,H8,I9,q8⟩
   | brk =>
     obtain ⟨σ8,H8,I8,q8⟩:=q8;exact vW (I8.unmarked I.ok) hN hi hl λs9 I9=>⟨_,H8,I9,q8⟩
   | cont =>
     obtain ⟨σ8,H8,I8,q8⟩:=q8;exact vW (I8.unmarked I.ok) hN hi hl λs9 I9=>⟨_,H8,I9,q8⟩
   | ret u =>
     obtain ⟨v8,σ8,H8,I8,r8,q8⟩:=q8;exact vW (I8.unmarked I.ok) hN hi hl λs9 I9=>⟨v8,_,H8,I9,r8,q8⟩
end
theorem dO.okD {P:abt} {w:acU} {K:aaf} {mg:Str->Option aat} {base:afp} {x qual:Str} {st:air} {f:aaH} {fd:abL} {N ps:List Str} {k:Nat} {sp:Sp} (F:dO K x qual st f fd) (S:aZ N ps (aJ st)) (len:∀ vs H Q E,sp vs H Q E->vs.length=ps.length)
   (hb:∀ (cdv:aat) (A:acX) (outer:List Env) (s:aav) (H:Hp) (vs:List V) (Q:VK) (E:XK),fX k (A.deeper (envOfC qual (aJ st) s.heap.objs.size f cdv))->sp vs H Q E ->
     ∃ t,FW (Dq (Cz P w) P w K mg base N qual (aJ st) f cdv A outer s H E) (gQ st) t/\t { nx:=λ_ H'=>Q .non H',rt:=Q } (start N vs) H):aV P w K mg base (Cz P w) (k+1) f fd ps sp:=by
 obtain ⟨_,_,_,_,_,_,cdv,_,_,rfl,lk,hcd⟩:=F.ex;exact X7 lk hcd S len λA outer s H vs Q E hr hsp=>hb cdv A outer s H vs Q E hr hsp
end L2
namespace L2
open PySem PySem.Spec PyProof.Rows PySem.W
noncomputable abbrev Nm (C t:aaH) (dd:Option aaH):Obj:={ cls:=.ref C,dict:=dd,data:=.fields #[.ref t,.none,.none,.none,.bool false,.none] }
noncomputable def Np (a C t:aaH) (dd:Option aaH):HO:=.ext λh=>h.get? a=some (Nm C t dd)
theorem SJ {P:abt} {w:acU} {H:Hp} {h:afp} {a C t:aaH} {dd:Option aaH} (e:h.get? a=some (Nm C t dd)):bT P w H h a (Np a C t dd):=⟨e,⟨_,e⟩,λ_ _ p k=>k _ p⟩
structure WY (K:Frag) (C:aaH) (f:Str):Prop where
 sa:findIn K (.ref C) "__setattr__" = some (some (.builtin "object.__setattr__"))
 cd:∃ cd,clsIn K C=some cd/\lD cd.mro/\cd.hasDict=true
 na:findIn K (.ref C) f=some none
section
variable {X:Cx} {pins:List (aaH × Obj)} {σ:St} {H:Hp} {s:aav} {a C t:aaH} {f:Str} {A:acX} {E:aat->aav->Prop}
theorem Fl {y:V} {u:aat} {Q:Unit->aav->Prop} (I:Inv X pins σ H s) (e:H a=some (Np a C t none)) (c:WY X.K C f) (ry:RelV y u)
   (h:∀ d s',H d=none->Inv X pins σ (upd (upd H d (.xd [(f,y)])) a (Np a C t (some d))) s'->Q () s'):wpAny (model X.prog X.w) A (setAttr (.ref a) f u) Q E s:=by
 obtain ⟨ha,_,_⟩:=(show bT _ _ _ _ a (Np a C t none) from I.hok a _ e);obtain ⟨cd,hc,hm,hd⟩:=c.cd;refine aiH I.pB ha c.sa hc hm hd c.na λh' h1 h2 h3=>h _ _ (I.hok.fresh (aaw _)) ?_
 have ne:a≠s.heap.objs.size:=abB (abh ha);have m1:(h'.update a λ_=>Nm C t none).get? a=some (Nm C t none):=adP _ h1 rfl;have m2:∀ b,b≠a->(h'.update a λ_=>Nm C t none).get? b=h'.get? b:=λb n=>ac9 _ _ (acV n)
 generalize (h'.update a λ_=>Nm C t none)=hq at m1 m2
 have I1:=I.laid (a:=s.heap.objs.size) (o:=.xd [(f,y)]) (h':=hq) (t':=s.toks+2) (λb v q=>by
   by_cases z:b=a
   . subst z;rw [ha] at q;cases q;exact m1
   . exact (m2 b z).trans ((h3 b z (abB (abh q))).trans q)) (aaw _) ⟨_,h2.at λo q=>(m2 _ (acV ne)).trans q,λg=>by
   show mW (ahQ g [(f,y)]) (if g=f then some u else none);by_cases z:g=f
   . subst z;rw [if_pos rfl,List.lookup_cons_self];exact ry
   . rw [if_neg z,afu,beq_false_of_ne z]
     exact aeR⟩
 exact I1.write (x:=a) (e:=a) (o:=Np a C t (some s.heap.objs.size)) (t':=s.toks+2) (by rw [aB ne,e]; exact aeR) (.inl rfl) (λb v n q=>by rw [<- m2 b n]; exact q) ⟨_,h1⟩ (SJ h1)
noncomputable def adJ (K:Frag) (ta tv:TE) (f:Str):TS:=λD σ H=>tv σ H λy H1=>ta σ H1 λx H2=>∃ a C t,x=.ref a/\H2 a=some (Np a C t none)/\WY K C f/\∀ d,H2 d=none->D.nx σ (upd (upd H2 d (.xd [(f,y)])) a (Np a C t (some d)))
theorem W0 {o value:Expr} {pos pos':Pos} {ta tv:TE} (ha:PE X o ta) (hv:PE X value tv) (hs:swapsWith value (some (.Attribute o f pos')) pos.line X.env=pure false:=by rfl):PS X (.Assign [.Attribute o f pos'] value pos) (adJ X.K ta tv f):=by
 intro pins s σ H D I h;refine aks (c7 (hv pins s σ H _ I h) λu s1 ⟨y,H1,I1,ry,q⟩=>c7 (ha pins s1 σ H1 _ I1 q) λov s2 ⟨x,H2,I2,rx,a,C,t,ex,ea,c,q2⟩=>?_) hs;subst ex;obtain rfl:ov=abA a:=rx;exact Fl I2 ea c ry λd s3 hd I3=>⟨σ,_,I3,q2 d hd⟩
end
noncomputable def uz (K:Frag) (C f:aaH) (bmB:List aat) (newId:String):Bool:=match K.lookup C with
 | some ⟨.type "type",_,.cls cd,sl⟩=>(match cd.mro,sl.toList with
   | .ref C' :: bm,[_,_,_,_,some (.builtin n),_]=>C' == C && n == newId && !cd.hasDel && tailIn K bmB bm && nsOkIn K cd.ns && (nsIn K cd.ns "__init__" == some (some (.ref f)))
   | _,_=>false)
 | _=>false
theorem W6 {K:Frag} {h:afp} {N:aaH} {mg:Str->Option aat} {n:Str} {v:aat} (X:K.In h) (G:h.Ns N mg) (e:nsIn K N n=some (some v)):mg n=some v:=by
 obtain ⟨o,es,ep,ho,hd,_,hf⟩:=G;unfold nsIn at e;split at e
 case h_1 q =>
   have z:=X _ _ q;rw [ho] at z;cases z;cases hd;split at e
   case h_1 he =>
     rw [<- hf];unfold nsFind findBy;rw [<- aob,he];cases e;rfl
   case h_2=>(split at e <;> cases e)
 case h_2=>cases e
theorem W7 {K:Frag} {h:afp} {C f:aaH} {bmB:List aat} {newId:String} (X:K.In h) (q:uz K C f bmB newId=true) :
   ∃ (nm qn:Str) (N:aaH) (bs bm:List aat) (hd:Bool) (sn:List Str) (sub:List aat) (ab:Bool) (col:Option Bool) (dd:Option aaH) (k0 k1 k2 k3 k5:Option aat) (mN:Str->Option aat),
     h.get? C=some (excClassObj nm qn C N bs bm hd sn sub ab col dd k0 k1 k2 k3 k5 newId)/\h.Ns N mN/\mN "__init__" = some (.ref f)/\apv h bmB bm:=by
 unfold uz at q;split at q
 case h_1 dd cd sl ho =>
   split at q
   case h_1 C' bm k0 k1 k2 k3 n k5 hm hs =>
     obtain ⟨q,hni⟩:=abr.mp q;obtain ⟨q,hok⟩:=abr.mp q;obtain ⟨q,ht⟩:=abr.mp q;obtain ⟨q,hdel⟩:=abr.mp q;obtain ⟨q1,q2⟩:=abr.mp q;have q1:=beq_iff_eq.mp q1;have q2:=beq_iff_eq.mp q2;have hni:=beq_iff_eq.mp hni;subst q1 q2;obtain ⟨nm,bs,mro,ns,qn,hd,sn,sub,ab,col,del⟩:=cd;have hm2:mro=abA C' :: bm:=hm;have R6:del=false:=by simpa using hdel
     subst hm2 R6
     have hsl:sl=#[k0,k1,k2,k3,some (.builtin n),k5]:=by
       cases sl with
       | mk l=>exact congrArg Array.mk hs
     subst hsl;exact ⟨nm,qn,ns,bs,bm,hd,sn,sub,ab,col,dd,k0,k1,k2,k3,k5,_,X _ _ ho,.of_isNs (amd X hok),W6 X (.of_isNs (amd X hok)) hni,aor X ht⟩
   case h_2=>cases q
 case h_2=>cases q
noncomputable def yw (H:Hp) (a:aaH):Hp:=λb=>if b=a then none else H b
theorem yx {H:Hp} {a:aaH}:yw H a a=none:=if_pos rfl
theorem oO {H:Hp} {a b:aaH} (n:b≠a):yw H a b=H b:=if_neg n
theorem Fo {H:Hp} {a b:aaH} {o:HO} (e:yw H a b=some o):b≠a/\H b=some o:=by
 by_cases z:b=a
 . rw [z,yx] at e; cases e
 . rw [oO z] at e; exact ⟨z,e⟩
section
variable {X:Cx} {pins:List (aaH × Obj)} {σ:St} {H:Hp} {s:aav}
theorem Inv.aiI (I:Inv X pins σ H s) (hex:X.ex=[]) {h2:afp} {a:aaH} {φ:afp->Prop} (ha:H a=some (.ext φ)) (na:X.s₀.heap.get? a=none) (hk:∀ b o,b≠a->s.heap.get? b=some o->b ∉ frs X.stack->h2.get? b=some o)
   (hs:∀ b o,s.heap.get? b=some o->b∈frs X.stack->∃ sl,h2.get? b=some { o with slots:=sl }):Un X.fs [] X.H₀ (yw H a) X.s₀.heap h2/\mX X.prog X.w (yw H a) h2:=by
 have nx:∀ b:aaH,b ∉ X.ex:=λb=>by rw [hex]; simp
 have ne:∀ b o,X.s₀.heap.get? b=some o->b≠a:=λb o q z=>by rw [z,na] at q; cases q
 have j9:∀ b u,H b=some u->(∀ φ,u≠.ext φ)->yw H a b=some u:=λb u q n=>by
   rw [oO λz=>?_,q];rw [z,ha] at q;exact n φ (abx q).symm
 refine ⟨⟨λb o q n hb _=>hk b o (ne b o q) (I.base.keep b o q n hb (nx b)) (I.old q hb),λb o q n hb _=>?_,λb o q n _=>?_,λb o q _=>?_,λb xs q=>j9 _ _ (I.base.tups b xs q) (λ_ z=>nomatch z),λb o u q=>j9 _ _ (I.base.qy b o u q) (λ_ z=>nomatch z),λb ps q=>?_⟩,λc o e=>?_⟩
 . obtain ⟨sl,e⟩:=I.base.slot b o q n hb (nx b);by_cases z:b∈frs X.stack
   . obtain ⟨sl2,e2⟩:=hs b _ e z;exact ⟨sl2,e2⟩
   . exact ⟨sl,hk b _ (ne b o q) e z⟩
 . rw [oO (ne b o q)];exact I.base.free b o q n (nx b)
 . obtain ⟨o2,e⟩:=I.base.there b o q (nx b);by_cases z:b∈frs X.stack
   . obtain ⟨sl2,e2⟩:=hs b _ e z;exact ⟨_,e2⟩
   . exact ⟨_,hk b _ (ne b o q) e z⟩
 . obtain ⟨more,e⟩:=I.base.qN b ps q;exact ⟨more,j9 _ _ e λ_ z=>nomatch z⟩
 . obtain ⟨nc,e⟩:=Fo e;refine (I.hok c o e).stay (λb u hb q=>?_) (λb q=>j9 _ _ q λ_ z=>nomatch z) λb xs q=>j9 _ _ q λ_ z=>nomatch z
   rcases hb with rfl | hb
   . exact hk b u nc q (I.track e)
   . exact hk b u (λz=>by rw [z,ha] at hb; cases hb) q (I.track hb)
end
section
variable {X:Cx} {E:XK} {x:Str} {C f:aaH} {fd:abL} {k:Nat} {ps:List Str} {sp:Sp} {np cpos pos:Pos} {e:Expr} {es:List Expr} {t:TA}
noncomputable def W8 (C:aaH) (sp:Sp) (E:XK) (t:TA):TS:=λ_ σ H=>t σ H λvs H1=>vs.length<=sizeLine/\∀ a tt,H1 a=none->sp (.ref a :: vs) (upd H1 a (Np a C tt none)) (λv H2=>v=.non/\∃ d,H2 a=some (Np a C tt (some d))/\E (.ref C) (some d) (yw H2 a)) (λ_ _ _=>False)
theorem Nq (L:vY X E) (oc:uz X.K C f [.type "ValueError",.type "Exception",.type "BaseException",.type "object"] "ValueError.__new__" = true) (fn:isFn X.K (.ref f)=true) (kp:keepIn X.K (.ref C)=true)
   (F:aV X.prog X.w X.K X.mg X.base dF k f fd ps sp) (hr:fX (k+1) X.A) (hb:Binds X.K fd ps []) (hg:Gl X x) (hm:X.mg x=some (.ref C)) (ha:PA X (e :: es) t)
   (hdb:(x == ("__debug__" : Str))=false:=by decide) (he:starEach (e :: es) X.env=(false,eval e X.env) :: starEach es X.env:=by rfl) (hpl:(backTo cpos (starEach es X.env)).any (·.1)=false:=by rfl) :
   PS X (.Raise (some (.Call (.Name x np) (e :: es) [] cpos)) none pos) (W8 C sp E t):=by
 intro pins s σ H D I h;obtain ⟨hst,hf,hex,hcalm,hxe⟩:=L;obtain ⟨nm,qn,N,bs,bm,hd,sn,sub,ab,col,dd,k0,k1,k2,k3,k5,mN,hC,hN,hni,hT⟩:=W7 I.mod.Vb oc;rw [arm_exec_Raise];refine El (ajK (aaD (C:=C) (nm:=nm) (q:=qn) (N:=N) (bs:=bs) (bm:=bm) (hdct:=hd) (sn:=sn) (sub:=sub) (ab:=ab) (col:=col) (dd:=dd) (k0:=k0) (k1:=k1) (k2:=k2) (k3:=k3) (k5:=k5) (newId:="ValueError.__new__") (hT.hasType (by decide)) (I.ok.hd hcalm) ?_));refine El ?_;refine aik (pD I hg hm ?_ hdb);refine ain (h₀:=X.base) I.ok.mod.Vb kp (c7 (ha cpos pins s σ H _ I h) λus s1 z=>?_) he hpl;obtain ⟨vs,H1,I1,r,few,q⟩:=z;refine ⟨I1.pB,?_⟩;obtain ⟨hp,g,d,tk,os⟩:=s1;refine adG (f:=f) al5 (hT.keeps I1.bk) (I1.bk _ _ hC) (hN.keeps I1.bk) hni (λself=>bind_fn (K:=X.K) (λb o z=>lC b o (I1.pB b o z)) self (beq_iff_eq.mp fn)) ?_ (by show us.length<=sizeLine; rw [<- r.length]; exact few)
 have I2:Inv X pins σ (upd H1 (hp.objs.size+1) (Np (hp.objs.size+1) C hp.objs.size none)) ⟨Yt hp C us,g,d,tk,os⟩:=by
   have I1':Inv X pins σ H1 ⟨hp.push (adF us),g,d,tk,os⟩:=I1.kept (t':=tk) λb u z=>aar _ z
   exact I1'.laid (a:=hp.objs.size+1) (t':=tk) (λb u z=>aar _ z) (aoO (afy _ _)) (SJ (Ss hp C us))
 have na0:X.s₀.heap.get? (hp.objs.size+1)=none:=by
   cases z:X.s₀.heap.get? (hp.objs.size+1) with
   | none=>rfl
   | some u =>
     obtain ⟨o,y⟩:=I1.base.there _ u z (by rw [hex]; simp);have l:=abh y;exact absurd l (by show ¬ (hp.objs.size+1<hp.objs.size); omega)
 have hq:=q (hp.objs.size+1) hp.objs.size (I1.hok.fresh (alK _));have r2:Vals (V.ref (hp.objs.size+1) :: vs) (abA (hp.objs.size+1) :: us):=.cons rfl r
 have hl:((abA (hp.objs.size+1) :: us)++[]).length=ps.length:=by
   rw [adx,<- r2.length]; exact F.len _ _ _ _ hq
 have hbb:=hb _ (abA (hp.objs.size+1) :: us) I2.pB hl;rw [adx] at hbb;refine aiz (agq (F.run _ X.stack _ _ ⟨abA (hp.objs.size+1) :: us,[]⟩ (abA (hp.objs.size+1) :: us) _ _ _ (hr.make C us []) (I2.env0.make C us []) hbb r2 hq) λres s' hq'=>?_);cases res with
 | error ex=>exact aek hq'
 | ok fl =>
   cases fl with
   | next=>exact aek hq'
   | brk=>exact aek hq'
   | cont=>exact aek hq'
   | ret u =>
     obtain ⟨v,H3,I3,rv,ev,d3,hd3,hE⟩:=I2.after hq';subst ev;refine ⟨rv,?_⟩;obtain ⟨ho,_,_⟩:=(show bT _ _ _ _ (hp.objs.size+1) (Np (hp.objs.size+1) C hp.objs.size (some d3)) from I3.hok _ _ hd3);generalize hp.objs.size+1=a at hd3 ho na0 hE |-;refine El (ajK (aau ⟨a,_,some d3,rfl,I3.bk _ _ hC,ho,hxe _ _ ?_⟩));have hfr:X.A.frames=some (X.env :: X.outer):=by rw [<- hst]; exact I.ok.frames
     have hFF:s'.heap.FunFrames (agO s'.heap (a :: frs X.stack)) (X.env :: X.outer):=by
       have z:=am4 (as:=a :: frs X.stack) I3.stack (λenv he b hb=>abk _ (ajL.mpr ⟨env,he,hb⟩));rw [hst] at z |-;exact z
     have nw:(agO s'.heap (a :: frs X.stack)).get? a=none:=anC _ abw;refine FD.Ko (B:=agO s'.heap (a :: frs X.stack)) (P:=PX C (some d3)) vX hfr hFF hf ho ⟨rfl,rfl⟩ (λb o z=>ajC _ z) nw rfl rfl λh2 fl up=>?_
     have hk:∀ b o,b≠a->s'.heap.get? b=some o->b ∉ frs X.stack->h2.get? b=some o:=λb o n z nb=>fl.stay b o (afT _ z λy=>(abu.mp y).elim n nb)
     obtain ⟨un,hok⟩:=I3.aiI hex hd3 na0 hk (λb o z hb=>by
       obtain ⟨_,o',ho',nf⟩:=I3.stack.mem hb;rw [z] at ho'; cases ho'
       exact up b o z nf)
     refine ⟨a,C,some d3,_,_,rfl,I3.os,I3.bare,un,hok,fl,λb o z nb hb=>?_,yx,hE⟩;rcases hb with ⟨u,hu⟩ | ⟨u,hu⟩
     . obtain ⟨n,hu⟩:=Fo hu;obtain ⟨o2,e2⟩:=I3.there hu;have y:=hk b o2 n e2 (I3.track hu);rw [z] at y; cases y;exact afT _ e2 λy=>(abu.mp y).elim n (I3.track hu)
     . have n:b≠a:=λy=>by rw [y,na0] at hu; cases hu
       obtain ⟨o2,e2⟩:=I3.base.there b u hu (by rw [hex]; simp);have Sw:=I3.old hu nb;have y:=hk b o2 n e2 Sw;rw [z] at y; cases y;exact afT _ e2 λy=>(abu.mp y).elim n Sw
end
end L2
namespace L2
open PySem PySem.Spec PySem.W PyProof.Rows PySem.Builtin PySem.Builtin.ObjectAttr PySem.Builtin.Getset_descriptor
section
variable {prog:abt} {w:acU} {A:acX} {E:aat->aav->Prop} {K:aaf} {h:afp} {g:Array al6} {d:Drawn} {t:Nat} {os:OsState} {a C dx:aaH} {f:Str} {m:Str->Option aat} {v:aat}
theorem SM {M:ao6} (X:K.In h) (p:vg a C (some dx) h) (n:h.Ns1 dx m) (hv:m f=some v) (hh:hasDictIn K C=true) (na:findIn K (.ref C) f=some none):aoK M h (find (.ref a) (.ref C) f) (.value v):=by
 obtain ⟨o,vs,e1,⟨e2,e3⟩,e4⟩:=p;obtain ⟨od,ho,hl⟩:=zH n
 have no:notCls o=true:=by
   obtain ⟨cls,dict,data,slots⟩:=o;dsimp only at e2 e4;subst e4;rfl
 have J:amf h a o C (some od):=⟨e1,e2,no,by rw [e3]; exact ho⟩;exact looks_find X J (findObj_own hh na rfl (by rw [hl,hv]))
theorem Nr {tk:Tok} {Q:Fin->aav->Prop} (X:K.In h) (p:vg a C (some dx) h) (n:h.Ns1 dx m) (hv:m f=some v) (hh:hasDictIn K C=true) (na:findIn K (.ref C) f=some none) (hq:Q (.done (.ret v)) ⟨h,g,d,t,os⟩) :
   wpAny (model prog w) A (afD.«object.__getattribute__» ⟨[.ref a,.str f tk],[]⟩) Q E ⟨h,g,d,t,os⟩:=by
 have L0:aoK (model prog w) h (typeOf (.ref a)) (.ref C):=oN p.at
 have L1:=SM (M:=model prog w) X p n hv hh na;unfold afD.«object.__getattribute__»;refine El (aau (El (aau (El (L0.at (El (L1.at ?_)))))));exact aau hq
theorem SN {tk:Tok} {R:aod->aav->Prop} (X:K.In h) (p:vg a C (some dx) h) (n:h.Ns1 dx m) (hv:m f=some v) (hh:hasDictIn K C=true) (na:findIn K (.ref C) f=some none) (e:jO K C=true) (hq:R (.ok (.ret v)) ⟨h,g,d,t,os⟩) :
   codeAny (model prog w) A (.call (.builtin "BaseException.__getattribute__") ⟨[.ref a,.str f tk],[]⟩) R ⟨h,g,d,t,os⟩:=by
 refine aga PySem.F.excAttr_ValueError.ga.plain F.entry_bexc_ga ?_;have hk:builtinKind "BaseException.__getattribute__" = some .slot:=(by decide +kernel);have hsplit:splitId "BaseException.__getattribute__" = some ("BaseException","__getattribute__"):=(by decide +kernel);have ha:=F.args_bexc_ga (.ref a) (.str f tk);have L0:aoK (model prog w) h (typeOf (.ref a)) (.ref C):=oN p.at
 have L1:=looks_subIn (M:=model prog w) X (fY e).2.2.2.2.1;simp only [checkBuiltinCall,hk,hsplit];refine El ?_;unfold isInstance
 repeat ((fail_if_success (with_reducible show wpAny _ _ (afD.«object.__getattribute__» _) _ _ _)); (first | lk | wp_step))
 exact Nr X p n hv hh na hq
theorem SQ {b:Bool} {Q:aat->aav->Prop} (X:K.In h) (p:vg a C (some dx) h) (n:h.Ns1 dx m) (hv:m f=some v) (hh:hasDictIn K C=true) (na:findIn K (.ref C) f=some none) (e:jO K C=true) (hd:handedIn v=true) (hq:Q v ⟨h,g,d,t+1,os⟩) :
   wpAny (model prog w) A (getAttr (.ref a) f b) Q E ⟨h,g,d,t,os⟩:=by
 have L0:aoK (model prog w) h (typeOf (.ref a)) (.ref C):=oN p.at
 have L1:=akM (M:=model prog w) X (fY e).1;have L2:=akM (M:=model prog w) X (fY e).2.1;have f3:=PySem.F.excAttr_ValueError.ga.bind (.ref a);have hx2:(afL "BaseException.__getattribute__" == afL "object.__getattribute__")=false:=(by decide +kernel)
 have hx1:(onTheHeap (abA C) && afL "BaseException.__getattribute__" == afL "object.__getattribute__")=false:=by
   rw [hx2]; exact afB _
 unfold getAttr; unfold getAttrBy;refine El (wpAny_mkText ?_);refine ac6 (El (L0.at ?_));refine El (L1.at ?_);dsimp only;rw [if_neg (by rw [hx1]; exact aaK)];unfold getAttrByItsOwn
 repeat ((fail_if_success (with_reducible show wpAny _ _ (Sem.attempt _) _ _ _)); (first | lk | wp_step))
 refine aiB (ac6 ?_);unfold callGetattribute;have hb0:¬ ((b && onTheHeap (afL "BaseException.__getattribute__"))=true):=by cases b <;> exact aaK
 rw [if_neg hb0];unfold boundAndCalled;rw [f3]; refine El (aau ?_);refine aiz (SN X p n hv hh na e ?_);show wpAny _ _ (handedOut v) _ _ _;rw [handedOut_of hd];exact aau hq
end
section
variable {X:Cx}
noncomputable def adK (K:Frag) (ta:TE) (f:Str):TE:=fun σ H Q=>ta σ H λx H1=>∃ a C dx fs v,x=.ref a/\H1 a=some (lE a C (some dx))/\H1 dx=some (.xd fs)/\jO K C=true/\hasDictIn K C=true/\findIn K (.ref C) f=some none/\fs.lookup f=some v/\Q v H1
theorem W9 {e:Expr} {f:Str} {pos:Pos} {ta:TE} (he:PE X e ta) (hb:attributeBase e f X.env (eval e X.env)=eval e X.env:=by rfl):PE X (.Attribute e f pos) (adK X.K ta f):=by
 intro pins s σ H Q I h;refine Jq hb (c7 (he pins s σ H _ I h) λu s1 ⟨x,H1,I1,rx,a,C,dx,fs,v,ex,ea,ed,ec,hd,na,l,q⟩=>?_);subst ex;obtain rfl:u=abA a:=rx;obtain ⟨p,_⟩:=I1.hok a _ ea;obtain ⟨m,n,r⟩:=(show bT _ _ _ _ dx (.xd fs) from I1.hok dx _ ed);obtain ⟨u,hu,ru⟩:=mW.some_of (v:=v) (o:=m f) (by rw [<- l]; exact r f);obtain ⟨hp,g,d,t,os⟩:=s1;exact SQ I1.pB p n hu hd na ec (zJ ru) ⟨v,H1,I1.tok _,ru,q⟩
noncomputable def aiK (K:Frag) (xs:List V) (H:Hp) (Q:VK):Prop:=∃ (a C:aaH) (dd:Option aaH) (v:V) (u:aat) (b:Bool),xs=[.ref a,v]/\(∀ u',RelV v u'->u'=u)/\H a=some (lE a C dd)/\jO K C=true/\kitOne K (.ref C) u=some b/\Q (.bl b) H
theorem cI:dU X (.builtin "isinstance") (aiK X.K):=by
 intro pins s σ H xs us Q I r h;obtain ⟨a,C,dd,v,u,b,rfl,hu,ha,ec,eb,q⟩:=h;obtain ⟨u1,u2,rfl,r1,r2⟩:=vals2 r;cases hu _ r2;have r1:u1=abA a:=r1;subst r1;obtain ⟨p,_⟩:=I.hok a _ ha;exact kia_one (R7 ec) I.pB (vg.at p) eb (λz=>nomatch z) λtk=>⟨.bl b,H,I.tok tk,rfl,q⟩
end
end L2
namespace Eb
open PySem L2 GF
variable {P:abt} {w:acU} {K:aaf} {mg:Str->Option aat} {base:afp} {t8 t6 tR tL t9:Tok} {C NW:aaH} {c:Nat->aaH}
noncomputable def oR (C NR:aaH):Sp:=λvs H _ E=>∃ (x dx:aaH) (ch:V) (ak al ae:aaH) (hs:List aL) (kt:List aQ) (ls:List Letter) (h n:Str) (r i:Int),vs=[.ref x,.str h,.int r,.str n,.int i]/\iU C H x dx ch ak al ae hs kt ls/\Good n/\Good h/\(∀ p∈kt,Good p.2.1)/\n ∉ kt.map (·.1)/\(h,r,i)∈kt.map (·.2)/\∀ H',Same H H'->E (.ref NR) none H'
theorem CG {f:aaH} {fd:abL} (F:dO K "need_free" "Keeper.need_free" mC f fd) (T:Txt mg t8 t6 tR tL) (TC:KCls K mg C t9) (oG:Cl P w K mg base 1 "is_name" ["thing"] (tQ K)) (iI:Cl P w K mg base 1 "is_whole" ["thing"] (lW K)) {NR:aaH} (xR:af2 K NR [.type "ValueError",.type "Exception",.type "BaseException",.type "object"] "ValueError.__new__" = true) (mR:mg "NoReading" = some (.ref NR)):aV P w K mg base (Cz P w) 2 f fd ["self","house","run","name","reading"] (oR C NR):=by
 refine F.okD uY (λvs H Q E h=>?_) (λcdv A outer s H vs Q E hr h=>?_)
 . obtain ⟨x,dx,ch,ak,al,ae,hs,kt,ls,h,n,r,i,rfl,_⟩:=h;rfl
 . obtain ⟨x,dx,ch,ak,al,ae,hs,kt,ls,h,n,r,i,rfl,kp,gn,gh,gk,nn,np,q⟩:=h;have jH:sizeLine=16777216:=aby;refine ⟨_,(aq (bW (mY (cP (sZ (pC oG hr (aj (pV 3) ao)))) (pw_or1 (lO (jr (cU hr) (pV 3) (dw (pV 0) rfl))))) (aG (dJ)) aU) (aG (bW (mY (cP (sZ (pC iI hr (aj (pV 4) ao)))) (pw_or1 (mO (Rz hr.units) (bH (aj (pV 1) (aj (pV 2) (aj (pV 4) ao)))) (bJ (yd rfl) rfl T.list aij (aj (J9 (dw (pV 0) rfl)) ao)) (by with_unfolding_all rfl)))) (aG (qb iD xR rfl mR (aj bY ao))) aU))),?_⟩;refine ⟨_,rfl,gn.thing,λH1 s1=>?_⟩;rw [gn.Dh];have Am:=kp.same s1;refine ⟨x,C,dx,_,_,rfl,Am.ob,TC.cl,TC.nK,jA _ _ _ _,?_⟩;obtain ⟨kvs,ek,pk⟩:=Am.kp;refine ⟨ak,_,rfl,eY.k (k:=acW n) ek,_,rfl,?_⟩;rw [mq pk,decide_eq_false nn];refine ⟨_,rfl,tU,?_⟩;refine ⟨by show 3<=sizeLine; omega,λp hp=>?_⟩;refine gE hp λH2 s2 e2=>?_
   refine ⟨x,C,dx,_,_,rfl,s2 _ _ Am.ob,TC.cl,TC.nK,jA _ _ _ _,?_⟩;refine ⟨ak,kvs,rfl,.inl (s2 _ _ ek),λv hv=>?_⟩;refine gE hv λH3 s3 e3=>?_
   refine ⟨v,ak,kvs,rfl,e3,.inl ((s2.trans s3) _ _ ek),λl hl=>?_⟩;refine gE hl λH4 s4 e4=>?_
   refine ⟨zA (h,r,i),(kt.map (·.2)).map zA,.tup (bQ.of ((s3.trans s4) _ _ e2)) (.cons (.str _) (.cons (.int _) (.cons (.int _) .nil))),.lst (cG.of e4) (Kh pk ((s2.trans s3).trans s4).tups),Cu gh,by simp [zA,agB,afr],Kg (λp hp=>by obtain ⟨y,hy,rfl⟩:=abj.mp hp; exact gk y hy),?_⟩
   have aax:((kt.map (·.2)).map zA).any (λe=>ahH e (zA (h,r,i)))=true:=by
     rw [ama,ah4];refine ⟨_,np,?_⟩;show ahH (zA (h,r,i)) (zA (h,r,i))=true;rw [Kf];exact decide_eq_true rfl
   rw [aax];exact ⟨by show 1<=sizeLine; omega,q H4 (((s1.trans s2).trans s3).trans s4)⟩
noncomputable abbrev Iw:air:=inClass (top 4) 0
noncomputable def CJ (NW:aaH):Sp:=λvs H Q _=>∃ (a t:aaH) (v:V),vs=[.ref a,v]/\H a=some (Np a NW t none)/\∀ (d:aaH) (H':Hp),H d=none->H'=upd (upd H d (.xd [("name",v)])) a (Np a NW t (some d))->Q .non H'
theorem SX:aZ ["self","name"] ["self","name"] (aJ Iw):=nj
theorem Tc {f:aaH} {fd:abL} (F:dO K "__init__" "NoRow.__init__" Iw f fd) (xc:WY K NW "name"):aV P w K mg base dF 1 f fd ["self","name"] (CJ NW):=by
 refine F.ok SX (λvs H Q E h=>?_) (λcdv A outer s H vs Q E hr h=>?_)
 . obtain ⟨a,t,v,rfl,_⟩:=h;rfl
 . obtain ⟨a,t,v,rfl,ha,q⟩:=h;refine ⟨_,(aG (W0 (pV 0) (pV 1))),?_⟩;exact ⟨a,NW,t,rfl,ha,xc,λd hd=>q d _ hd rfl⟩
noncomputable def CK (C NR:aaH):Sp:=λvs H _ E=>∃ (x dx:aaH) (ch:V) (ak al ae:aaH) (hs:List aL) (kt:List aQ) (ls:List Letter) (h n:Str) (r i:Int),vs=[.ref x,.str h,.int r,.str n,.int i]/\iU C H x dx ch ak al ae hs kt ls/\Good n/\Good h/\(∀ p∈kt,Good p.2.1)/\n ∉ kt.map (·.1)/\(h,r,i)∈kt.map (·.2)/\h∈hs.map aL.name/\1<=r/\r<=9/\∀ (H':Hp),Same H H'->E (.ref NR) none H'
theorem Td {f gJ fH:aaH} {fd fJ dZ:abL} (F:dO K "tell" "Keeper.tell" rE f fd) {NR:aaH} (TC:KCls K mg C t9)
   (kW:aV P w K mg base dF 3 gJ fJ ["self","house","run"] (kO C)) (kY:Meth K C "need_run" gJ) (kZ:Binds K fJ ["self","house","run"] [])
   (jC:aV P w K mg base (Cz P w) 3 fH dZ ["self","house","run","name","reading"] (oR C NR)) (jD:Meth K C "need_free" fH) (jE:Binds K dZ ["self","house","run","name","reading"] []):aV P w K mg base (Cz P w) 4 f fd ["self","house","run","name","reading"] (CK C NR):=by
 refine F.okD sO (λvs H Q E h=>?_) (λcdv A outer s H vs Q E hr h=>?_)
 . obtain ⟨x,dx,ch,ak,al,ae,hs,kt,ls,h,n,r,i,rfl,_⟩:=h;rfl
 . obtain ⟨x,dx,ch,ak,al,ae,hs,kt,ls,h,n,r,i,rfl,kp,gn,gh,gk,nn,np,mh,r1,r9,q⟩:=h;refine ⟨_,(aq (cW (gj (pV 0) TC.cl kY kW hr kZ .nil gZ (aj (pV 1) (aj (pV 2) ao)))) (aq (cW (gj (pV 0) TC.cl jD jC hr jE .nil (WW iD) (aj (pV 1) (aj (pV 2) (aj (pV 3) (aj (pV 4) ao)))))) zF)),?_⟩;refine ⟨x,dx,_,rfl,kp.ob,by rfl,?_⟩;refine ⟨x,dx,ch,ak,al,ae,hs,kt,ls,h,r,rfl,kp,mh,by omega,r9,λH1 s1=>?_⟩;have Am:=kp.same s1;refine ⟨x,dx,_,rfl,Am.ob,by rfl,?_⟩;exact ⟨x,dx,ch,ak,al,ae,hs,kt,ls,h,n,r,i,rfl,Am,gn,gh,gk,nn,np,λH2 s2=>q H2 (s1.trans s2)⟩
noncomputable def CN (C NW:aaH):Sp:=λvs H _ E=>∃ (x dx:aaH) (ch:V) (ak al ae:aaH) (hs:List aL) (kt:List aQ) (ls:List Letter) (h n:Str) (r i:Int),vs=[.ref x,.str h,.int r,.str n,.int i]/\iU C H x dx ch ak al ae hs kt ls/\Good n/\Good h/\(∀ p∈kt,Good p.2.1)/\n ∉ kt.map (·.1)/\(h,r,i) ∉ kt.map (·.2)/\h∈hs.map aL.name/\1<=r/\r<=9/\kt.length<24 /\
 (∃ l∈ls,aX (ktM (kt++[(n,h,r,i)])) l.1.1 l.1.2=true)/\∀ (d:aaH) (H':Hp),H d=none->H' d=some (.xd [("name",.str n)])->Same H H'->E (.ref NW) (some d) H'
theorem Te {f gJ fH:aaH} {fd fJ dZ:abL} (F:dO K "tell" "Keeper.tell" rE f fd) (T:Txt mg t8 t6 tR tL) (TC:KCls K mg C t9) (jB:Cl P w K mg base 3 "is_within_a_house" ["rows","sent","taken"] kE)
   (kW:aV P w K mg base dF 3 gJ fJ ["self","house","run"] (kO C)) (kY:Meth K C "need_run" gJ) (kZ:Binds K fJ ["self","house","run"] [])
   (jC:aV P w K mg base dF 3 fH dZ ["self","house","run","name","reading"] (mD C)) (jD:Meth K C "need_free" fH) (jE:Binds K dZ ["self","house","run","name","reading"] []) {aaF:aaH} {Yu:abL} (aiL:aV P w K mg base dF 2 aaF Yu ["self","name"] (CJ NW)) (aiM:Binds K Yu ["self","name"] []) (xI:uz K NW aaF [.type "ValueError",.type "Exception",.type "BaseException",.type "object"] "ValueError.__new__" = true) (nI:agp K (.ref aaF)=true) (kI:afZ K (.ref NW)=true) (mI:mg "NoRow" = some (.ref NW)):aV P w K mg base (Cz P w) 4 f fd ["self","house","run","name","reading"] (CN C NW):=by
 refine F.okD sO (λvs H Q E h=>?_) (λcdv A outer s H vs Q E hr h=>?_)
 . obtain ⟨x,dx,ch,ak,al,ae,hs,kt,ls,h,n,r,i,rfl,_⟩:=h;rfl
 . obtain ⟨x,dx,ch,ak,al,ae,hs,kt,ls,h,n,r,i,rfl,kp,gn,gh,gk,nn,np,mh,r1,r9,UG,wi,q⟩:=h;have jH:sizeLine=16777216:=aby;refine ⟨_,(aq (cW (gj (pV 0) TC.cl kY kW hr kZ .nil gZ (aj (pV 1) (aj (pV 2) ao)))) (aq (cW (gj (pV 0) TC.cl jD jC hr jE .nil gZ (aj (pV 1) (aj (pV 2) (aj (pV 3) (aj (pV 4) ao)))))) (aq (bW (mO oGe (aM pG rfl T.len adp (aj (dw (pV 0) rfl) ao)) (cM (v:=.int 24) rfl T.Yk ⟨_,rfl⟩) (bA _)) (aG (dJ)) aU) (aq (pZ 5 sO (bJ xg rfl T.dict akn (aj (dw (pV 0) rfl) ao))) (aq (jf (cU hr) (pV 5) (pV 3) (bH (aj (pV 1) (aj (pV 2) (aj (pV 4) ao)))) rfl) (aq (bW (sZ (J3 (aM (DY rfl) rfl T.any anw (aj (cD (gP:=aJ rE) (own:=["sent","taken"]) (cap:=["rows"]) (ix:=[5]) rfl rfl iR (En (dw (pV 0) rfl)) (λb=>(fU rfl (aP (bD (i:=0) (show (["sent","taken","rows"]:List Str).Nodup by decide +kernel) rfl (afO rfl)) (aP (bD (i:=1) (show (["sent","taken","rows"]:List Str).Nodup by decide +kernel) rfl (afO rfl)) dR)))) (λb=>cN) (λb=>(pC jB hr (aj (pV 2) (aj (pV 0) (aj (pV 1) ao)))))) ao)))) (aG (Nq iD xI nI kI aiL hr aiM rfl mI (aj (pV 3) ao))) aU) zF)))))),?_⟩;refine ⟨x,dx,_,rfl,kp.ob,by rfl,?_⟩;refine ⟨x,dx,ch,ak,al,ae,hs,kt,ls,h,r,rfl,kp,mh,by omega,r9,λH1 s1=>?_⟩;have Am:=kp.same s1;refine ⟨x,dx,_,rfl,Am.ob,by rfl,?_⟩;refine ⟨x,dx,ch,ak,al,ae,hs,kt,ls,h,n,r,i,rfl,Am,gn,gh,gk,nn,np,λH2 s2=>?_⟩;have WQ:=Am.same s2;refine ⟨x,C,dx,_,_,rfl,WQ.ob,TC.cl,TC.nK,jA _ _ _ _,?_⟩;obtain ⟨kvs,ek,pk⟩:=WQ.kp;have lk:=pk.length;refine ⟨ak,kvs,rfl,ek,?_⟩;refine eZ (λz=>by have z':=of_decide_eq_true z; omega) (λ_=>?_);refine ⟨x,C,dx,_,_,rfl,WQ.ob,TC.cl,TC.nK,jA _ _ _ _,?_⟩;refine ⟨ak,kvs,rfl,.inl ek,λd hd=>?_⟩;refine gE hd λH3 s3 e3=>?_
   refine ⟨by show 3<=sizeLine; omega,λT0 hT=>?_⟩;refine gE hT λH4 s4 e4=>?_
   refine ⟨d,_,rfl,qR.k (k:=acW n) (s4 _ _ e3) (by omega),?_⟩;have fd2:H2 d=none:=hd;have S24:Same H2 H4:=s3.trans s4;have s5:Same H2 (upd H4 d (.dK (putK kvs (.inr n) (.ref T0)))):=λb u e=>by rw [aB (aH e hd)]; exact S24 _ _ e
   have e5:upd H4 d (.dK (putK kvs (.inr n) (.ref T0))) d=some (.dK (putK kvs (.inr n) (.ref T0))):=au;have nTd:T0≠d:=λz=>by rw [z,e3] at hT; cases hT
   have eT5:upd H4 d (.dK (putK kvs (.inr n) (.ref T0))) T0=some (.tup [.str h,.int r,.int i]):=by rw [aB nTd]; exact e4
   generalize hH5:upd H4 d (.dK (putK kvs (.inr n) (.ref T0)))=H5 at s5 e5 eT5 |-;clear hH5;have kl5:iu H5 d (kt++[(n,h,r,i)]):=⟨_,e5,oK pk nn s5.tups eT5⟩;have Ge:=WQ.same s5;refine ⟨x,C,dx,_,_,rfl,Ge.ob,TC.cl,TC.nL,oJ _ _ _ _,?_⟩;obtain ⟨oH,el,pl⟩:=Ge.lt;have ll:=pl.length;have fl:=Ge.fl;refine ⟨al,oH,rfl,el,λo D fD=>?_⟩;have oth:∀ b,b≠al->upd H5 al (.gY o (.dT oH)) b=H5 b:=λb n=>aB n
   have ef:upd H5 al (.gY o (.dT oH)) al=some (.gY o (.dT oH)):=au;generalize hH6:upd H5 al (.gY o (.dT oH))=H6 at oth ef fD |-;clear hH6;have Qw:∀ b u,H5 b=some u->(∀ k,u≠.dT k)->b≠al:=λb u e n z=>by rw [z,el] at e; exact n _ (abx e).symm
   have t56:bV H5 H6:=λb xs e=>by rw [oth b (Qw b _ e (λk z=>by cases z))]; exact e
   have kl6:um H6 d (ktM (kt++[(n,h,r,i)])):=by
     obtain ⟨kk,ekk,Nb⟩:=kl5;exact iu.at ⟨kk,by rw [oth d (Qw d _ ekk (λk z=>by cases z))]; exact ekk,aA (λ_ _ y=>jz.ts y t56) Nb⟩
   refine xW (λj H'=>dX H6 H' D (((ls.take j).map λl=>aX (ktM (kt++[(n,h,r,i)])) l.1.1 l.1.2).map V.bl)) (dX.start fD) (λj H' _ G=>G.same _ _ ef) (λH7 G=>?_) (λj k v b' H7 hj eb hi G bb=>?_)
   . rw [ll,acL] at G
     have aiN:(ls.map λl=>aX (ktM (kt++[(n,h,r,i)])) l.1.1 l.1.2).any id=true:=by
       obtain ⟨l,hl,z⟩:=wi;rw [ama,ah4];exact ⟨l,hl,z⟩
     have eal:H al=some (.dT oH):=by
       obtain ⟨k0,e0,_⟩:=kp.lt;have z:=((s1.trans s2).trans s5) _ _ e0;rw [el] at z;cases z;exact e0
     refine ⟨D,_,rfl,cG.of G.at',_,⟨al,o,.dT oH,G.same _ _ ef,aeR,RK eal,rfl⟩,?_⟩;rw [aiN];have s7:Same H5 (upd H7 al (.dT oH)):=uo el oth λb u _ e=>G.same _ _ e
     generalize hH8:upd H7 al (.dT oH)=H8 at s7 |-;clear hH8;have S8:=((s1.trans s2).trans s5).trans s7;refine ⟨by show 1<=sizeLine; omega,λa tt fa=>⟨a,tt,.str n,rfl,au,λd2 H' fd e=>⟨rfl,d2,by rw [e]; exact au,?_⟩⟩⟩;have nda:d2≠a:=λz=>by rw [z,au] at fd; cases fd
     have fd8:H8 d2=none:=by rw [aB nda] at fd; exact fd
     refine q d2 _ (S8.free fd8) ?_ λb u eb=>?_
     . rw [oO nda,e,aB nda]; exact au
     . have z:=S8 _ _ eb;have n1:b≠a:=aH z fa;have n2:b≠d2:=aH z fd8;rw [oO n1,e,aB n1,aB n2,aB n1]; exact z
   . obtain ⟨l,hl,hk,_⟩:=bh pl hj;obtain rfl:k=kP l.1:=hk;refine ⟨b',_,rfl,bQ.of eb,rfl,_,_,rfl,_,_,rfl,rfl,?_⟩
     have klj:um H7 d (ktM (kt++[(n,h,r,i)])):=by
       obtain ⟨kk,ekk,RW⟩:=kl6;exact ⟨kk,G.same _ _ ekk,λm=>⟨(RW m).1,λp hp=>let ⟨b,v,g⟩:=(RW m).2 p hp; ⟨b,v,G.same _ _ g⟩⟩⟩
     refine ⟨d,_,l.1.1,l.1.2,rfl,klj,?_⟩;refine ⟨_,G.at',by rw [aac,aac,abI]; omega,nx hi ?_⟩;have z:=G.put fD (.bl (aX (ktM (kt++[(n,h,r,i)])) l.1.1 l.1.2));rw [abz,hl];simpa using z
noncomputable def rF (C NL:aaH):Sp:=λvs H _ E=>∃ (x dx:aaH) (ch:V) (ak al ae:aaH) (hs:List aL) (kt:List aQ) (ls:List Letter) (s t l m:V) (ds dt dl dm:Da),vs=[.ref x,s,t,l,m]/\iU C H x dx ch ak al ae hs kt ls/\cj H s ds/\cj H t dt/\cj H l dl/\cj H m dm /\
 (bG (.tup [ds,dt,dl,dm])=false\/bG (.tup [ds,dt,dl,dm])=true/\∃ k:Str × Str,s=.str k.1/\t=.str k.2/\(k.1=k.2\/k.1≠k.2/\(k∈ls.map ab5\/k ∉ ls.map ab5/\(aX (ktM kt) k.1 k.2=true\/aX (ktM kt) k.1 k.2=false/\ls.length=24)))) /\
 ∀ (H':Hp),Same H H'->E (.ref NL) none H'
theorem Tf {H:Hp} {k:Str × Str}:∀ {kvs:List (List Key × V)} {ls:List Letter},abG (yp H) kvs ls->k∈ls.map ab5->∃ v,cL kvs (kP k)=some v
 | _,_,.nil,hk=>by cases hk
 | kv :: _,l :: _,.cons h t,hk=>by
   by_cases z:k=l.1
   . exact ⟨kv.2,by rw [cT (by rw [h.1,z])]⟩
   . rw [abn,abu] at hk;rw [cO (by rw [h.1]; exact λy=>z (tO y).symm)];exact Tf t (hk.resolve_left z)
theorem Fp {f:aaH} {fd:abL} (F:dO K "letter" "Keeper.letter" pP f fd) (T:Txt mg t8 t6 tR tL) (TC:KCls K mg C t9) (yr:Cl P w K mg base 2 "is_letter" ["thing"] (spD bG)) (jB:Cl P w K mg base 2 "is_within_a_house" ["rows","sent","taken"] kE) {NL:aaH} (xL:af2 K NL [.type "ValueError",.type "Exception",.type "BaseException",.type "object"] "ValueError.__new__" = true) (mL:mg "NoLetter" = some (.ref NL)):aV P w K mg base (Cz P w) 3 f fd ["self","sent","taken","least","most"] (rF C NL):=by
 refine F.okD yq (λvs H Q E h=>?_) (λcdv A outer s H vs Q E hr h=>?_)
 . obtain ⟨x,dx,ch,ak,al,ae,hs,kt,ls,s,t,l,m,ds,dt,dl,dm,rfl,_⟩:=h;rfl
 . obtain ⟨x,dx,ch,ak,al,ae,hs,kt,ls,vS,vT,vL,vM,ds,dt,dl,dm,rfl,kp,d1,d2,d3,d4,hc,q⟩:=h;have jH:sizeLine=16777216:=aby;refine ⟨_,(aq (bW (mY (cP (sZ (pC yr hr (aj (bH (aj (pV 1) (aj (pV 2) (aj (pV 3) (aj (pV 4) ao))))) ao)))) (pw_or1 (mO wA (pV 1) (pV 2) (bA _)))) (aG (qb iD xL rfl mL (aj bY ao))) aU) (aq (bW (mY (lO (jr (cU hr) (bH (aj (pV 1) (aj (pV 2) ao))) (dw (pV 0) rfl))) (pw_or1 (sZ (pC jB hr (aj (dw (pV 0) rfl) (aj (pV 1) (aj (pV 2) ao))))))) (aG (qb iD xL rfl mL (aj bY ao))) aU) (aq (bW (mO oGe (aM Al rfl T.len adp (aj (dw (pV 0) rfl) ao)) (cM (v:=.int 24) rfl T.Yl ⟨_,rfl⟩) (bA _)) (aG (qb iD xL rfl mL (aj bY ao))) aU) (aG (dJ))))),?_⟩;refine ⟨by show 4<=sizeLine; omega,λp hp=>?_⟩;refine gE hp λH1 s1 e1=>?_
   refine ⟨.ref p,.tup [ds,dt,dl,dm],rfl,.tup e1 (by show 4<=25; decide) (.cons (d1.same s1) (.cons (d2.same s1) (.cons (d3.same s1) (.cons (d4.same s1) .nil)))),λH2 s2=>?_⟩;have S2:=s1.trans s2;rcases hc with hc | ⟨hc,k,rfl,rfl,hk⟩
   . rw [hc];exact ⟨by show 1<=sizeLine; omega,q _ S2⟩
   . rw [hc];refine ⟨rfl,?_⟩;rcases hk with hk | ⟨ne,hk⟩
     . rw [decide_eq_true (by rw [hk]:V.str k.1=V.str k.2)];exact ⟨by show 1<=sizeLine; omega,q _ S2⟩
     . rw [decide_eq_false (λz=>ne (V.str.inj z):¬ V.str k.1=V.str k.2)];refine ⟨by show 2<=sizeLine; omega,λp3 hp3=>?_⟩;refine gE hp3 λH3 s3 e3=>?_
       have S3:=S2.trans s3;have Ew:=kp.same S3;refine ⟨x,C,dx,_,_,rfl,Ew.ob,TC.cl,TC.nL,oJ _ _ _ _,?_⟩;obtain ⟨oH,el,pl⟩:=Ew.lt;have ll:=pl.length;refine ⟨al,_,rfl,eY.t (k:=kP k) el e3,_,rfl,?_⟩;rcases hk with hk | ⟨nk,hk⟩
       . obtain ⟨v,ev⟩:=Tf pl hk;rw [ev];exact ⟨by show 1<=sizeLine; omega,q _ S3⟩
       . rw [Cv pl nk];refine ⟨x,C,dx,_,_,rfl,Ew.ob,TC.cl,TC.nK,jA _ _ _ _,?_⟩;refine ⟨ak,_,k.1,k.2,rfl,Ew.kp.at,?_⟩;rcases hk with hw | ⟨hw,h24⟩
         . rw [hw];exact ⟨by show 1<=sizeLine; omega,q _ S3⟩
         . rw [hw];refine ⟨x,C,dx,_,_,rfl,Ew.ob,TC.cl,TC.nL,oJ _ _ _ _,?_⟩;refine ⟨al,oH,rfl,el,?_⟩;refine eZ (λz=>?_) (λz=>absurd (decide_eq_true (by omega)) z);exact ⟨by show 1<=sizeLine; omega,q _ S3⟩
end Eb
namespace PySem
noncomputable def iZ (bs:List Bool) (i:Nat):Int:=if (bs[i]?).getD false=true then 1 else 0
theorem Kq (bs:List Bool) (i:Nat):0<=iZ bs i/\iZ bs i<=1:=by unfold iZ; split <;> omega
theorem Kr (bs:List Bool):∀ n,0<=preSum (iZ bs) n/\preSum (iZ bs) n<=n
 | 0=>⟨apb _,apb _⟩
 | n+1=>by
   have a:=Kr bs n;have b:=Kq bs n;show 0<=preSum (iZ bs) n+iZ bs n/\preSum (iZ bs) n+iZ bs n<=((n+1:Nat):Int);omega
theorem Tg {α:Type} {M:ao6} {A:acX} {c:Bool} {x y:Sem α} {Q:α->aav->Prop} {E:aat->aav->Prop} {s:aav} (hc:c=true) (h:wpAny M A x Q E s):wpAny M A (if c=true then x else y) Q E s:=by rw [if_pos hc]; exact h
section
variable {prog:abt} {w:acU} {A:acX} {R:aod->aav->Prop} {I:aaH} {fp wr:List aaH} {n:Nat} {P:Nat->aat->Prop} {St:Nat->afp->Prop}
theorem Nt (W:Walks prog w A.in1 I fp wr n P St) (bs:List Bool) (hb:∀ i v,P i v->v=.bool ((bs[i]?).getD false)) (few:n<=1000) (S:aaH) (nS:S ∉ fp) :
   ∀ (k i:Nat) (s:aav) (tA:Tok) (c:Nat),n-i=k->i<=n->St i s.heap->s.heap.get? S=some { cls:=.type "list",dict:=none,data:=.seq #[.int (preSum (iZ bs) i) tA] c,slots:=#[] } ->
   (∀ h' tk t',(∀ b o,b ∉ wr->b≠S->s.heap.get? b=some o->h'.get? b=some o)->R (.ok (.ret (.int (preSum (iZ bs) n) t'))) { s with heap:=h',toks:=tk }) ->
   codeAny (model prog w) A (.builtin "sum.loop" ⟨[.ref I,.ref S,rawInt 0,rawInt 0],[]⟩) R s:=by
 have nw:S ∉ wr:=λz=>nS (W.sub _ z)
 intro k
 induction k with
 | zero =>
   intro i s tA c ek li st hS hR;obtain rfl:i=n:=(by omega);refine aev F.entry_sum_loop ?_;rw [adU akQ _];show wpAny _ A.in1 (seqItems? (.ref S) >>= _) _ _ s;refine El (anR hS rfl ?_);show wpAny _ A.in1 (tryCatch (pyNext (.ref I)) _ >>= _) _ _ s;exact El (anS (W.done s _ _ st λh' tk q=>aau (hR h' tk tA λb o nb _ e=>q b o nb e)))
 | succ k ih =>
   intro i s tA c ek li st hS hR;have lt:i<n:=by omega
   refine aev F.entry_sum_loop ?_;rw [adU akQ _];show wpAny _ A.in1 (seqItems? (.ref S) >>= _) _ _ s;refine El (anR hS rfl ?_);show wpAny _ A.in1 (tryCatch (pyNext (.ref I)) _ >>= _) _ _ s;refine El (anS (W.item i s _ _ lt st λv h' tk hP st' q=>?_));obtain rfl:=hb i v hP;have hS':=q S _ nw hS;have a:=Kr bs i;have b:=Kq bs i
   have step:∀ m:Int,iZ bs i=m->0<=m->m<=1->wpAny (model prog w) A.in1 (mkInt (preSum (iZ bs) i+m) >>= λr=>(do updateSeq S λ_=>#[r]; again (.builtin "sum.loop" ⟨[.ref I,.ref S,rawInt 0,rawInt 0],[]⟩))) (λfin s'=>match fin with | .done f=>R (.ok f) s' | .again c'=>c'.quiet=true/\codeAny (model prog w) A c' R s') (λe s'=>R (.error e) s') { s with heap:=h',toks:=tk }:=λm em _ _=>by
     subst em;refine El (ape ?_);refine El (wpAny_updateSeq hS' rfl (aau ⟨ahV akQ _,ih (i+1) _ tk _ (by omega) lt (W.frame _ _ _ st' λb hb o e=>?_) (adP _ hS' rfl) λh2 tk2 t2 q2=>?_⟩))
     . exact (ac9 _ _ λz:S=b=>nS (by rw [z]; exact hb)).trans e
     . exact hR h2 tk2 t2 λb o nb Sw e=>q2 b o nb Sw ((ac9 _ _ (acV Sw)).trans (q b o nb e))
   have fits:∀ m:Int,0<=m->m<=1->((decide (-(2 ^ 63)<=m) && decide (m<2 ^ 63)) && (decide (-(2 ^ 63)<=preSum (iZ bs) i+m) && decide (preSum (iZ bs) i+m<2 ^ 63)))=true:=λm _ _=>by
     simp only [adB,decide_eq_true_eq];omega
   cases hz:(bs[i]?).getD false with
   | true =>
     have em:iZ bs i=1:=by unfold iZ; rw [hz]; rfl
     show wpAny _ A.in1 (if (_:Bool)=true then (mkInt (preSum (iZ bs) i+1) >>= _) else _) _ _ _;exact Tg (fits 1 (by decide) (by decide)) (step 1 em (by decide) (by decide))
   | false =>
     have em:iZ bs i=0:=by unfold iZ; rw [hz]; rfl
     show wpAny _ A.in1 (if (_:Bool)=true then (mkInt (preSum (iZ bs) i+0) >>= _) else _) _ _ _;exact Tg (fits 0 (by decide) (by decide)) (step 0 em (by decide) (by decide))
end
section
variable {prog:abt} {w:acU} {A:acX} {E:aat->aav->Prop} {s:aav}
theorem Nu {x:aat} {Q:aat->aav->Prop}
   (h:wpAny (model prog w) A.in1 (pyIter x) (λit s2=>∃ I fp wr n P St bs,it=.ref I/\Walks prog w A.in1 I fp wr n P St/\St 0 s2.heap/\(∀ b∈fp,b<s2.heap.objs.size)/\(∀ i v,P i v->v=.bool ((bs[i]?).getD false))/\n<=1000 /\
     ∀ h' tk t',(∀ b o,b ∉ wr->s2.heap.get? b=some o->h'.get? b=some o)->Q (.int (preSum (iZ bs) n) t') { s2 with heap:=h',toks:=tk }) E s):wpAny (model prog w) A (call (.builtin "sum") [x]) Q E s:=by
 refine call_function_tree F.kind_sum F.plain_sum F.entry_sum (F.args_sum1 _) ?_;unfold afD.«sum»;simp only [abD,adw];rw [if_neg (by decide)];refine El (alP (show Builtin.Builtins.bindParams "sum" ["start"] 0 { }=pure [none] from rfl) (El (afF h (λit s2 h2=>?_) λ_ _ e=>e)));obtain ⟨I,fp,wr,n,P,St,bs,rfl,W,st,hfp,hb,few,hQ⟩:=h2;refine El (ape (El (aau ?_)));simp only [List.forIn_cons,anN];refine El (El (El (ag5 (T:="int") (b:=false) (aoG _ _ _) sub_int_str ?_)));simp only [adi,if_false];refine aau (El (El (ag5 (T:="int") (b:=false) (aoG _ _ _) sub_int_bytes ?_)));simp only [adi,if_false];refine aau (El (El (ag5 (T:="int") (b:=false) (aoG _ _ _) sub_int_bytearray ?_)));simp only [adi,if_false];refine aau (aau (El (adH ?_)));have nS:s2.heap.objs.size ∉ fp:=λz=>afM _ (hfp _ z)
 refine aau ⟨ahV akQ _,Nt W bs hb few s2.heap.objs.size nS n 0 _ s2.toks 0 rfl (abH _) (W.frame 0 _ _ st λb _ o e=>aar _ e) (aaL _ rfl) λh' tk t' q=>?_⟩;exact hQ h' tk t' λb o nb e=>q b o nb (abB (abh e)) (aar _ e)
end
end PySem
namespace L2
open PySem PySem.Spec PyProof.Rows
section
variable {X:Cx}
theorem Nv (hc:X.calm=true):dU X (.builtin "sum") (λxs H Q=>∃ (p:aaH) (bs:List Bool),xs=[.ref p]/\cG X.K H p (bs.map V.bl)/\bs.length<=1000/\Q (.int (preSum (iZ bs) bs.length)) H):=by
 intro pins s σ H xs us Q I r h;obtain ⟨p,bs,rfl,hq,few,q⟩:=h;obtain ⟨u,rfl,ru⟩:=vals1 r;cases ru;obtain ⟨its,rv,pl,_⟩:=I.list hq;have hb:=rY rv;have hl:=pl.isList;have hlt:p<s.heap.objs.size:=by obtain ⟨_,e,_⟩:=hl; exact abh e
 refine Nu (agI hl ?_)
 refine ⟨s.heap.objs.size,[s.heap.objs.size,p],[s.heap.objs.size],its.toArray.size,_,_,bs,rfl,anB (A:=X.A.in1) (I.ok.hd hc) _ p (abB hlt) its.toArray,
   ⟨⟨_,aaL _ rfl,rfl,rfl⟩,hl.push _⟩,λb hb=>?_,λi v hP=>?_,by rw [abm,hb.length]; exact few,λh' tk t' hk=>?_⟩
 . rw [afy];simp only [abu,ajl,or_false] at hb;rcases hb with rfl | rfl
   . exact ajk _
   . exact afV hlt
 . obtain ⟨b,e,rfl⟩:=hb.get i v (by simpa using hP);rw [e]; rfl
 . have e:its.toArray.size=bs.length:=by rw [abm,hb.length]
   rw [e];exact ⟨.int _,H,I.kept (aoi hk),⟨_,rfl⟩,q⟩
end
end L2
namespace L2
open PySem PySem.Spec PyProof.Rows PyProof PySem.MeetsSeq
section
variable {X:Cx}
noncomputable def Xa:V->List V->Hp->VK->Prop:=λx vs H Q=>∃ (l:aaH) (bs:List Bool) (j:Nat),x=.ref l/\vs=[.bl true]/\H l=some (.lst (bs.map V.bl))/\bs.length<=1000/\bs[j]?=some true/\(∀ i,i<j->bs[i]?=some false)/\Q (.int j) H
theorem Fq (a b:Bool):EqGives (.bool a) (.bool b) (a == b):=λprog w _ E _ Q h=>anE a b prog w E Q h
theorem Ny:MtM X "list.index" Xa:=by
 intro pins s σ H x vs v us Q I rx rv h;obtain ⟨l,bs,j,rfl,rfl,hH,few,hj,hno,q⟩:=h;cases rx;obtain ⟨u,rfl,ru⟩:=rv.one;cases ru;obtain ⟨z,its,n,r,hl,e⟩:=I.K8 hH;have hb:=rY r;have lj:j<bs.length:=(abE.mp hj).1;have ln:its.length=bs.length:=hb.length
 have at_:∀ i b,bs[i]?=some b->its[i]?=some (ah7 b):=λi b hi=>by
   have li:i<its.length:=by rw [ln]; exact (abE.mp hi).1
   obtain ⟨b',e1,e2⟩:=hb.get i its[i] (aaj li);rw [hi] at e1;cases e1;rw [aaj li,e2]
 refine aoI F.slot_list_index ⟨_,e,rfl⟩ F.entry_list_index (F.args_list_index_2 _ _)
   (PySem.MeetsSeq.list_index l its.toArray n (.bool true) (λy:aat=>y == ah7 true) (λy hy=>?_) j (by simpa [ln] using lj) (by omega) ?_ ?_) ⟨e,?_⟩
 . obtain ⟨i,hi,ei⟩:=ac5 (by simpa using hy:y∈its);obtain ⟨b',_,e2⟩:=hb.get i its[i] (aaj hi);rw [<- ei,e2];cases b'
   . exact Fq false true
   . exact Fq true true
 . have z1:=at_ j true hj;have lj':j<its.length:=by rw [ln]; exact lj
   rw [aaj lj'] at z1;show (its.toArray[j] == ah7 true)=true;rw [anI,abx z1];rfl
 . intro m hm lt;have z1:=at_ m false (hno m lt);have lm:m<its.length:=by simpa using hm
   rw [aaj lm] at z1;show (its.toArray[m] == ah7 true)=false;rw [anI,abx z1];rfl
 . exact ⟨.int j,H,I.tok _,⟨_,rfl⟩,q⟩
end
end L2
namespace Eb
open PySem L2 GF
variable {P:abt} {w:acU} {K:aaf} {mg:Str->Option aat} {base:afp} {t8 t6 tR tL t9:Tok} {C NW:aaH} {c:Nat->aaH}
noncomputable abbrev Ti:air:=top 68
theorem Ft:bootBuiltins "ValueError" = some (.type "ValueError"):=by rfl
structure Sorts (mg:Str->Option aat) (c:Nat->aaH):Prop where
 m0:mg "NoBound" = some (.ref (c 0))
 m1:mg "NoPlacing" = some (.ref (c 1))
 m2:mg "NoRow" = some (.ref (c 2))
 m3:mg "NoWord" = some (.ref (c 3))
 m4:mg "TooMany" = some (.ref (c 4))
 m5:mg "NoNumber" = some (.ref (c 5))
 m6:mg "NoOrder" = some (.ref (c 6))
 m7:mg "NoHouse" = some (.ref (c 7))
 m8:mg "NoRun" = some (.ref (c 8))
 m9:mg "NoReading" = some (.ref (c 9))
 m10:mg "NoLetter" = some (.ref (c 10))
 m11:mg "NoMerge" = some (.ref (c 11))
 m12:mg "NoText" = some (.ref (c 12))
 m13:mg "NoCall" = some (.ref (c 13))
 m14:mg "NoKept" = some (.ref (c 14))
 ve:mg "ValueError" = none
 su:mg "sum" = none
structure rG (K:aaf) (c:Nat->aaH) (C:aaH) (j:Nat):Prop where
 ex:jO K C=true
 ve:abf K (.ref C) (.type "ValueError")=some true
 is:∀ k,k<15->abf K (.ref C) (.ref (c k))=some (decide (k=j))
 lt:j<15
noncomputable def vp (j:Nat):List Bool:=(acF 15).map λk=>decide (k=j)
theorem Tj:∀ j,j<15->preSum (iZ (vp j)) 15=1:=by decide
theorem Xb {j:Nat} (h:j<15):(vp j)[j]?=some true/\∀ i,i<j->(vp j)[i]?=some false:=by
 refine ⟨?_,λi hi=>?_⟩
 . unfold vp;rw [aaJ,aju h];simp
 . unfold vp;rw [aaJ,aju (by omega)];simp;omega
noncomputable def yC (K:aaf) (c:Nat->aaH):Sp:=λvs H Q _=>∃ (a C:aaH) (dd:Option aaH) (j:Nat),vs=[.ref a]/\H a=some (lE a C dd)/\rG K c C j/\∀ H',Same H H'->Q (.int (j:Int)) H'
theorem sV:aZ ["_law_e","_law_sorts"] ["_law_e"] (aJ Ti):=nj
theorem Xc {f:aaH} {fd:abL} (F:dO K "_law_sort" "_law_sort" Ti f fd) (T:Txt mg t8 t6 tR tL) (M:Sorts mg c):aV P w K mg base dF 1 f fd ["_law_e"] (yC K c):=by
 refine F.ok sV (λvs H Q E h=>?_) (λcdv A outer s H vs Q E hr h=>?_)
 . obtain ⟨a,C,dd,j,rfl,_⟩:=h;rfl
 . obtain ⟨a,C,dd,j,rfl,ha,so,q⟩:=h;have jH:sizeLine=16777216:=aby;refine ⟨_,(aq (pZ 1 sV (cR (aj (aM cI rfl T.yQ abl (aj (pV 0) (aj (cM (v:=.ref (c 0)) rfl M.m0 rfl) ao))) (aj (aM cI rfl T.yQ abl (aj (pV 0) (aj (cM (v:=.ref (c 1)) rfl M.m1 rfl) ao))) (aj (aM cI rfl T.yQ abl (aj (pV 0) (aj (cM (v:=.ref (c 2)) rfl M.m2 rfl) ao))) (aj (aM cI rfl T.yQ abl (aj (pV 0) (aj (cM (v:=.ref (c 3)) rfl M.m3 rfl) ao))) ao)))))) (aq (pZ 1 sV (bx nA (pV 1) (cR (aj (aM cI rfl T.yQ abl (aj (pV 0) (aj (cM (v:=.ref (c 4)) rfl M.m4 rfl) ao))) (aj (aM cI rfl T.yQ abl (aj (pV 0) (aj (cM (v:=.ref (c 5)) rfl M.m5 rfl) ao))) (aj (aM cI rfl T.yQ abl (aj (pV 0) (aj (cM (v:=.ref (c 6)) rfl M.m6 rfl) ao))) (aj (aM cI rfl T.yQ abl (aj (pV 0) (aj (cM (v:=.ref (c 7)) rfl M.m7 rfl) ao))) ao))))))) (aq (pZ 1 sV (bx nA (pV 1) (cR (aj (aM cI rfl T.yQ abl (aj (pV 0) (aj (cM (v:=.ref (c 8)) rfl M.m8 rfl) ao))) (aj (aM cI rfl T.yQ abl (aj (pV 0) (aj (cM (v:=.ref (c 9)) rfl M.m9 rfl) ao))) (aj (aM cI rfl T.yQ abl (aj (pV 0) (aj (cM (v:=.ref (c 10)) rfl M.m10 rfl) ao))) (aj (aM cI rfl T.yQ abl (aj (pV 0) (aj (cM (v:=.ref (c 11)) rfl M.m11 rfl) ao))) ao))))))) (aq (pZ 1 sV (bx nA (pV 1) (cR (aj (aM cI rfl T.yQ abl (aj (pV 0) (aj (cM (v:=.ref (c 12)) rfl M.m12 rfl) ao))) (aj (aM cI rfl T.yQ abl (aj (pV 0) (aj (cM (v:=.ref (c 13)) rfl M.m13 rfl) ao))) (aj (aM cI rfl T.yQ abl (aj (pV 0) (aj (cM (v:=.ref (c 14)) rfl M.m14 rfl) ao))) ao)))))) (aq (bW (mY (cP (sZ (aM cI rfl T.yQ abl (aj (pV 0) (aj (lN (v:=.ty "ValueError") rfl M.ve Ft rfl) ao))))) (pw_or1 (mO oNe (aM (Nv rfl) rfl M.su PyProof.Rows.boot_sum (aj (pV 1) ao)) aD (bA _)))) (aG (bf iw)) aU) (aG (bf (nu adq PySem.F.slot_list_index PySem.F.type_list_index Ny (pV 1) (aj iJ ao))))))))),?_⟩;refine cV λU0 hU0=>?_
   refine ⟨a,C,dd,_,.ref (c 0),_,rfl,(λ_ r=>r),ha,so.ex,so.is 0 (by decide),?_⟩;refine ⟨a,C,dd,_,.ref (c 1),_,rfl,(λ_ r=>r),ha,so.ex,so.is 1 (by decide),?_⟩;refine ⟨a,C,dd,_,.ref (c 2),_,rfl,(λ_ r=>r),ha,so.ex,so.is 2 (by decide),?_⟩;refine ⟨a,C,dd,_,.ref (c 3),_,rfl,(λ_ r=>r),ha,so.ex,so.is 3 (by decide),?_⟩;refine ⟨by show 4<=sizeLine; omega,λl0 aiO=>?_⟩;show U0 _ _;subst hU0;refine gE aiO λaiP aiQ aiR=>?_
   have S0:Same H aiP:=aiQ;refine cV λU1 Q6=>?_
   refine ⟨a,C,dd,_,.ref (c 4),_,rfl,(λ_ r=>r),(S0 _ _ ha),so.ex,so.is 4 (by decide),?_⟩;refine ⟨a,C,dd,_,.ref (c 5),_,rfl,(λ_ r=>r),(S0 _ _ ha),so.ex,so.is 5 (by decide),?_⟩;refine ⟨a,C,dd,_,.ref (c 6),_,rfl,(λ_ r=>r),(S0 _ _ ha),so.ex,so.is 6 (by decide),?_⟩;refine ⟨a,C,dd,_,.ref (c 7),_,rfl,(λ_ r=>r),(S0 _ _ ha),so.ex,so.is 7 (by decide),?_⟩;refine ⟨by show 4<=sizeLine; omega,λl1 aiS=>?_⟩;refine gE aiS λaqG adL aiT=>?_
   refine ⟨l0,l1,_,_,rfl,rfl,adL _ _ aiR,aiT,by show 4+4<=sizeLine; omega,λp1 aiU=>?_⟩;show U1 _ _;subst Q6;refine gE aiU λaiV aiW aiX=>?_
   have S1:Same H aiV:=S0.trans (adL.trans aiW);refine cV λU2 Q7=>?_
   refine ⟨a,C,dd,_,.ref (c 8),_,rfl,(λ_ r=>r),(S1 _ _ ha),so.ex,so.is 8 (by decide),?_⟩;refine ⟨a,C,dd,_,.ref (c 9),_,rfl,(λ_ r=>r),(S1 _ _ ha),so.ex,so.is 9 (by decide),?_⟩;refine ⟨a,C,dd,_,.ref (c 10),_,rfl,(λ_ r=>r),(S1 _ _ ha),so.ex,so.is 10 (by decide),?_⟩;refine ⟨a,C,dd,_,.ref (c 11),_,rfl,(λ_ r=>r),(S1 _ _ ha),so.ex,so.is 11 (by decide),?_⟩;refine ⟨by show 4<=sizeLine; omega,λl2 aiY=>?_⟩;refine gE aiY λaqH adM aiZ=>?_
   refine ⟨p1,l2,_,_,rfl,rfl,adM _ _ aiX,aiZ,by show 8+4<=sizeLine; omega,λp2 ai0=>?_⟩;show U2 _ _;subst Q7;refine gE ai0 λai1 ai2 ai3=>?_
   have S2:Same H ai1:=S1.trans (adM.trans ai2);refine cV λU3 Wc=>?_
   refine ⟨a,C,dd,_,.ref (c 12),_,rfl,(λ_ r=>r),(S2 _ _ ha),so.ex,so.is 12 (by decide),?_⟩;refine ⟨a,C,dd,_,.ref (c 13),_,rfl,(λ_ r=>r),(S2 _ _ ha),so.ex,so.is 13 (by decide),?_⟩;refine ⟨a,C,dd,_,.ref (c 14),_,rfl,(λ_ r=>r),(S2 _ _ ha),so.ex,so.is 14 (by decide),?_⟩;refine ⟨by show 3<=sizeLine; omega,λl3 ai4=>?_⟩;refine gE ai4 λaqI adN ai5=>?_
   refine ⟨p2,l3,_,_,rfl,rfl,adN _ _ ai3,ai5,by show 12+3<=sizeLine; omega,λp3 ai6=>?_⟩;show U3 _ _;subst Wc;refine gE ai6 λadO ai7 ai8=>?_
   have S3:Same H adO:=S2.trans (adN.trans ai7);have el:adO p3=some (.lst ((vp j).map V.bl)):=ai8;have ln:(vp j).length=15:=by unfold vp; rw [aac,aiC]
   refine ⟨a,C,dd,_,.type "ValueError",_,rfl,(λ_ r=>r),S3 _ _ ha,so.ex,so.ve,?_⟩;refine ⟨p3,vp j,rfl,cG.of el,by omega,?_⟩;have e1:preSum (iZ (vp j)) (vp j).length=1:=by rw [ln]; exact Tj j so.lt
   rw [e1];obtain ⟨a1,a2⟩:=Xb so.lt;refine ⟨.inl ⟨rfl,_,cG.of el⟩,?_⟩;exact ⟨p3,vp j,j,rfl,rfl,el,by omega,a1,a2,q _ S3⟩
noncomputable abbrev yD:air:=top 69
noncomputable abbrev CP:air:=top 70
noncomputable abbrev rH:air:=top 71
noncomputable def qd (C:aaH):Sp:=λvs H Q _=>∃ (x dx:aaH) (ch:V) (ak al ae:aaH) (hs:List aL) (kt:List aQ) (ls:List Letter) (p:aaH) (s t l m:V) (ds dt dl dm:Da),vs=[.ref x,.ref p]/\H p=some (.tup [s,t,l,m])/\iU C H x dx ch ak al ae hs kt ls/\cj H s ds/\cj H t dt/\cj H l dl/\cj H m dm /\
 (bG (.tup [ds,dt,dl,dm])=false\/bG (.tup [ds,dt,dl,dm])=true/\∃ k:Str × Str,s=.str k.1/\t=.str k.2/\(k.1=k.2\/k.1≠k.2/\(k∈ls.map ab5\/k ∉ ls.map ab5/\(aX (ktM kt) k.1 k.2=true\/aX (ktM kt) k.1 k.2=false/\ls.length=24))))/\∀ (H':Hp),Same H H'->Q (.bl true) H'
noncomputable def yE (C:aaH):Sp:=λvs H Q _=>∃ (x dx:aaH) (ch:V) (ak al ae:aaH) (hs:List aL) (kt:List aQ) (ls:List Letter) (p:aaH) (h n:Str) (r i:Int),vs=[.ref x,.ref p]/\H p=some (.tup [.str h,.int r,.str n,.int i])/\iU C H x dx ch ak al ae hs kt ls/\Good n/\Good h/\(∀ p∈kt,Good p.2.1)/\n ∉ kt.map (·.1)/\(h,r,i) ∉ kt.map (·.2)/\h∈hs.map aL.name/\1<=r/\r<=9/\kt.length<24 /\
 (∃ l∈ls,aX (ktM (kt++[(n,h,r,i)])) l.1.1 l.1.2=true)/\∀ (H':Hp),Same H H'->Q (.bl true) H'
noncomputable def oU (C:aaH):Sp:=λvs H Q _=>∃ (x dx:aaH) (ch:V) (ak al ae:aaH) (hs:List aL) (kt:List aQ) (ls:List Letter) (h:Str),vs=[.ref x,.str h]/\iU C H x dx ch ak al ae hs kt ls/\Good ("qqqqqqqs" : Str)/\Good h/\(∀ p∈kt,Good p.2.1)/\("qqqqqqqs" : Str) ∉ kt.map (·.1)/\(h,9,1000000)∈kt.map (·.2)/\h∈hs.map aL.name/\∀ (H':Hp),Same H H'->Q (.bl true) H'
theorem mF:aZ ["_law_keeper","_law_told","_law_caught","_law_e"] ["_law_keeper","_law_told"] (aJ yD):=nj
theorem Iz {f:aaH} {fd:abL} (F:dO K "_law_refused" "_law_refused" yD f fd) (T:Txt mg t8 t6 tR tL) (TC:KCls K mg C t9) (M:Sorts mg c) {S Yv NL:aaH} {Fv:abL} (mS:mg "SkewError" = some (.ref S))
   (G_m:aV P w K mg base (Cz P w) 3 Yv Fv ["self","sent","taken","least","most"] (rF C NL)) (m_m:Meth K C "letter" Yv) (b_m:Binds K Fv ["self","sent","taken","least","most"] []) (xm:aji K (.ref NL) (.ref S)=some true) (so:rG K c NL 10) (yF:Cl P w K mg base 3 "_law_sort" ["_law_e"] (yC K c)):aV P w K mg base dF 4 f fd ["_law_keeper","_law_told"] (qd C):=by
 refine F.ok mF (λvs H Q E h=>?_) (λcdv A outer s H vs Q E hr h=>?_)
 . obtain ⟨x,dx,ch,ak,al,ae,hs,kt,ls,p,s,t,l,m,ds,dt,dl,dm,rfl,_⟩:=h;rfl
 . obtain ⟨x,dx,ch,ak,al,ae,hs,kt,ls,p,vS,vT,vL,vM,ds,dt,dl,dm,rfl,hp,kp,d1,d2,d3,d4,hc,q⟩:=h;refine ⟨_,(aq (pZ 2 mF iw) (aq (yu (i:=3) (pV 0) TC.cl m_m G_m hr b_m .nil (aj (pX dM (pV 1) aD) (aj (pX dM (pV 1) aD) (aj (pX dM (pV 1) aD) (aj (pX dM (pV 1) aD) ao)))) rfl rfl mF.nd rfl rfl rfl mS (λa E'=>aG (pZ 2 mF (pV 3)))) (aG (bf (nG (wk (Bj (pV 2))) (jP (fZ oEq (pC yF hr (aj (pV 2) ao)) aD (bA _)))))))),?_⟩;refine ⟨x,dx,_,rfl,kp.ob,by rfl,?_⟩;refine cg (bQ.of hp) (i:=0) (v:=vS) (by rfl) ?_;refine cg (bQ.of hp) (i:=1) (v:=vT) (by rfl) ?_;refine cg (bQ.of hp) (i:=2) (v:=vL) (by rfl) ?_;refine cg (bQ.of hp) (i:=3) (v:=vM) (by rfl) ?_;refine ⟨x,dx,ch,ak,al,ae,hs,kt,ls,vS,vT,vL,vM,ds,dt,dl,dm,rfl,kp,d1,d2,d3,d4,hc,λH1 s1=>⟨xm,λa C' e na=>?_⟩⟩;cases e;have s2:Same H1 (upd H1 a (lE a NL none)):=(Same.refl H1).upd na;have e2:upd H1 a (lE a NL none) a=some (lE a NL none):=au;generalize hH2:upd H1 a (lE a NL none)=H2 at s2 e2;clear hH2;exact ⟨a,NL,none,10,rfl,e2,so,λH3 s3=>q H3 ((s1.trans s2).trans s3)⟩
theorem qg:aZ ["_law_keeper","_law_told","_law_caught","_law_e"] ["_law_keeper","_law_told"] (aJ CP):=nj
theorem Nz {f:aaH} {fd:abL} (F:dO K "_law_row_refused" "_law_row_refused" CP f fd) (T:Txt mg t8 t6 tR tL) (TC:KCls K mg C t9) (M:Sorts mg c) {S Yv NW:aaH} {Fv:abL} (mS:mg "SkewError" = some (.ref S))
   (G_m:aV P w K mg base (Cz P w) 4 Yv Fv ["self","house","run","name","reading"] (CN C NW)) (m_m:Meth K C "tell" Yv) (b_m:Binds K Fv ["self","house","run","name","reading"] []) (xm:aji K (.ref NW) (.ref S)=some true) (so:rG K c NW 2) (hd:ahm K NW=true) (na:abF K (.ref NW) "name" = some none) (yF:Cl P w K mg base 4 "_law_sort" ["_law_e"] (yC K c)):aV P w K mg base dF 5 f fd ["_law_keeper","_law_told"] (yE C):=by
 refine F.ok qg (λvs H Q E h=>?_) (λcdv A outer s H vs Q E hr h=>?_)
 . obtain ⟨x,dx,ch,ak,al,ae,hs,kt,ls,p,h,n,r,i,rfl,_⟩:=h;rfl
 . obtain ⟨x,dx,ch,ak,al,ae,hs,kt,ls,p,h,n,r,i,rfl,hp,kp,gn,gh,gk,nn,np,mh,r1,r9,UG,wi,q⟩:=h;refine ⟨_,(aq (pZ 2 qg iw) (aq (yu (i:=3) (pV 0) TC.cl m_m G_m hr b_m .nil (aj (pX dM (pV 1) aD) (aj (pX dM (pV 1) aD) (aj (pX dM (pV 1) aD) (aj (pX dM (pV 1) aD) ao)))) rfl rfl qg.nd rfl rfl rfl mS (λa E'=>aG (pZ 2 qg (pV 3)))) (aG (bf (nG (wk (Bj (pV 2))) (nG (fZ oEq (pC yF hr (aj (pV 2) ao)) aD (bA _)) (jP (fZ acI (W9 (pV 2)) (pX dM (pV 1) aD) (bA _))))))))),?_⟩;refine ⟨x,dx,_,rfl,kp.ob,by rfl,?_⟩;refine cg (bQ.of hp) (i:=0) (v:=.str h) (by rfl) ?_;refine cg (bQ.of hp) (i:=1) (v:=.int r) (by rfl) ?_;refine cg (bQ.of hp) (i:=2) (v:=.str n) (by rfl) ?_;refine cg (bQ.of hp) (i:=3) (v:=.int i) (by rfl) ?_;refine ⟨x,dx,ch,ak,al,ae,hs,kt,ls,h,n,r,i,rfl,kp,gn,gh,gk,nn,np,mh,r1,r9,UG,wi,λd H1 fd ed s1=>⟨xm,λa C' e na'=>?_⟩⟩;cases e;have s2:Same H1 (upd H1 a (lE a NW (some d))):=(Same.refl H1).upd na';have e2:upd H1 a (lE a NW (some d)) a=some (lE a NW (some d)):=au;generalize hH2:upd H1 a (lE a NW (some d))=H2 at s2 e2;clear hH2;refine ⟨a,NW,some d,2,rfl,e2,so,λH3 s3=>?_⟩;refine ⟨a,NW,d,_,.str n,rfl,s3 _ _ e2,(s2.trans s3) _ _ ed,so.ex,hd,na,by rfl,?_⟩;refine cg (bQ.of (((s1.trans s2).trans s3) _ _ hp)) (i:=2) (v:=.str n) (by rfl) ?_;show Q (.bl (decide (n=n))) H3;rw [decide_eq_true rfl];exact q H3 ((s1.trans s2).trans s3)
theorem ji:aZ ["_law_keeper","_law_house_here","_law_caught","_law_e"] ["_law_keeper","_law_house_here"] (aJ rH):=nj
theorem CQ {f:aaH} {fd:abL} (F:dO K "_law_reading_first" "_law_reading_first" rH f fd) (T:Txt mg t8 t6 tR tL) (TC:KCls K mg C t9) (M:Sorts mg c) {S Yv NR:aaH} {Fv:abL} (mS:mg "SkewError" = some (.ref S))
   (G_m:aV P w K mg base (Cz P w) 4 Yv Fv ["self","house","run","name","reading"] (CK C NR)) (m_m:Meth K C "tell" Yv) (b_m:Binds K Fv ["self","house","run","name","reading"] []) (xm:aji K (.ref NR) (.ref S)=some true) (so:rG K c NR 9) (yF:Cl P w K mg base 4 "_law_sort" ["_law_e"] (yC K c)):aV P w K mg base dF 5 f fd ["_law_keeper","_law_house_here"] (oU C):=by
 refine F.ok ji (λvs H Q E h=>?_) (λcdv A outer s H vs Q E hr h=>?_)
 . obtain ⟨x,dx,ch,ak,al,ae,hs,kt,ls,h,rfl,_⟩:=h;rfl
 . obtain ⟨x,dx,ch,ak,al,ae,hs,kt,ls,h,rfl,kp,gn,gh,gk,nn,np,mh,q⟩:=h;refine ⟨_,(aq (pZ 2 ji iw) (aq (yu (i:=3) (pV 0) TC.cl m_m G_m hr b_m .nil (aj (pV 1) (aj aD (aj bY (aj (bx Lk aD aD) ao)))) rfl rfl ji.nd rfl rfl rfl mS (λa E'=>aG (pZ 2 ji (pV 3)))) (aG (bf (nG (wk (Bj (pV 2))) (jP (fZ oEq (pC yF hr (aj (pV 2) ao)) aD (bA _)))))))),?_⟩;refine ⟨x,dx,_,rfl,kp.ob,by rfl,?_⟩;refine ⟨⟨by decide,by decide,by decide⟩,?_⟩;refine ⟨x,dx,ch,ak,al,ae,hs,kt,ls,h,_,9,1000000,rfl,kp,gn,gh,gk,nn,np,mh,by decide,by decide,λH1 s1=>⟨xm,λa C' e na=>?_⟩⟩;cases e;have s2:Same H1 (upd H1 a (lE a NR none)):=(Same.refl H1).upd na;have e2:upd H1 a (lE a NR none) a=some (lE a NR none):=au;generalize hH2:upd H1 a (lE a NR none)=H2 at s2 e2;clear hH2;exact ⟨a,NR,none,9,rfl,e2,so,λH3 s3=>q H3 ((s1.trans s2).trans s3)⟩
noncomputable abbrev yG:air:=top 73
theorem uD {t u:TS} {D:Ends} {σ:St} {H:Hp} (h:∀ U:St->Hp->Prop,U=u D->t { D with nx:=U } σ H):yW t u D σ H:=h (u D) rfl
noncomputable def WiL (kt:List aQ) (l:Letter):Prop:=l.1.1∈kt.map (·.1)/\l.1.2∈kt.map (·.1)/\l.1.1≠l.1.2/\aX (ktM kt) l.1.1 l.1.2=true/\l.2=(1,none)
noncomputable def uE:Sp:=λvs H Q _=>∃ (a:aaH) (kt:List aQ),vs=[.ref a]/\iu H a kt/\kt.length<=24/\∀ (l:aaH) (us:List V) (ms:List Letter) (H':Hp),H l=none->H' l=some (.lst us)->abG (aR H') us ms->(∀ m∈ms,WiL kt m)->ms.length<=8->Same H H'->Q (.ref l) H'
theorem Ks {H:Hp} {kvs:List (Key × V)} {kt:List aQ} (p:abG (jz H) kvs kt):kvs.map (·.1)=(kt.map (·.1)).map acW:=by
 induction p with
 | nil=>rfl
 | cons h _ ih=>rw [abn,abn,abn,h.1,ih]
theorem ai9 (xs:List V):qQ xs none (some 8)=xs.take 8:=by
 show (xs.drop (HT.eG xs.length 0 none)).take (HT.eG xs.length xs.length (some ((8:Nat):Int))-HT.eG xs.length 0 none)=_;rw [HT.rO,HT.jJ,amh,anh,akK];omega
theorem Fx {kt:List aQ} {n:Str} (h:n∈kt.map (·.1)):∃ p,ktM kt n=some p:=af6.mp (vQ.mpr h)
theorem mG:aZ ["_law_rows","_law_found","_law_one","_law_other"] ["_law_rows"] (aJ yG):=nj
theorem IK {f:aaH} {fd:abL} (F:dO K "_law_within" "_law_within" yG f fd) (T:Txt mg t8 t6 tR tL):aV P w K mg base dF 1 f fd ["_law_rows"] uE:=by
 refine F.ok mG (λvs H Q E h=>?_) (λcdv A outer s H vs Q E hr h=>?_)
 . obtain ⟨a,kt,rfl,_⟩:=h;rfl
 . obtain ⟨a,kt,rfl,kl,k24,q⟩:=h;have jH:sizeLine=16777216:=aby;refine ⟨_,(aq (pZ 1 mG (cR ao)) (aq (dG acK rfl (cX (aM (lU rfl) rfl T.sorted adt (aj (pV 0) ao))) (pY 2 mG) (aG (dG acK rfl (cX (aM (lU rfl) rfl T.sorted adt (aj (pV 0) ao))) (pY 3 mG) (aG (bW (uP (mO acM (pV 2) (pV 3) (bA _)) (pw_and1 (mO acI (pX dM (eN (cU hr) (pV 0) (pV 2) (λ_ _=>rfl)) aD) (pX dM (eN (cU hr) (pV 0) (pV 3) (λ_ _=>rfl)) aD) (bA _)))) (aG (cW (nu adq adC adD eX (pV 1) (aj (bH (aj (pV 2) (aj (pV 3) (aj aD (aj iw ao))))) ao)))) aU))))) (aG (bf (dW rR (pV 1) iH (FZ aD)))))),?_⟩;refine cV λU1 Q6=>?_
   refine ⟨abH _,λF fF=>?_⟩;show U1 _ _;subst Q6;refine gE fF λH1 s1 eF1=>?_
   obtain ⟨kvs,ek,pk⟩:=id kl;have nF:a≠F:=aH ek fF;have lk:=pk.length;refine uD λU2 Q7=>?_
   refine ⟨a,kvs,kt.map (·.1),rfl,s1 _ _ ek,Ks pk,by rw [aac]; omega,λl ss fl pm _=>?_⟩;refine gE fl λH2 s2 el=>?_
   have lss:=pm.length_eq;rw [aac] at lss;have nlF:l≠F:=λz=>by rw [z,eF1] at fl; cases fl
   refine ⟨l,rfl,⟨_,cG.of el⟩,fW (xs:=ss.map V.str) (λi σ H'=>∃ (us:List V) (ms:List Letter) (o2 o3:Option V),σ=[some (.ref a),some (.ref F),o2,o3]/\H' F=some (.lst us)/\abG (aR H') us ms/\(∀ m∈ms,WiL kt m)/\ms.length<=24 * i/\aY F H2 H') ⟨[],[],none,none,rfl,s2 _ _ eF1,.nil,(λm hm=>by cases hm),aaw _,aY.of (Same.refl _)⟩ (λi σ H' _ hz=>by obtain ⟨_,_,_,_,_,_,_,_,_,S⟩:=hz; exact cG.of (S _ _ nlF el)) (λi v σ H3 hv hz=>?_) (fun σ H3 hz=>?_)⟩
   . obtain ⟨us,ms,o2,o3,rfl,eF,pu,wi,lm,S3⟩:=hz;rw [aaJ] at hv;obtain ⟨one,ho,rfl⟩:=afo.mp hv;have m1:one∈kt.map (·.1):=pm.mem_iff.mp (abq ho);have i24:i<24:=by have:=(abE.mp ho).1; omega
     have ek3:=S3 _ _ nF (s2 _ _ (s1 _ _ ek));refine ⟨a,kvs,kt.map (·.1),rfl,ek3,Ks pk,by rw [aac]; omega,λl2 s2' PL pm2 _=>?_⟩;refine gE PL λH4 s4 el2=>?_
     have ls2:=pm2.length_eq;rw [aac] at ls2;have nl2:l2≠F:=λz=>by rw [z,eF] at PL; cases PL
     refine ⟨l2,rfl,⟨_,cG.of el2⟩,fW (xs:=s2'.map V.str) (λj σ H'=>∃ (us:List V) (ms:List Letter) (o3:Option V),σ=[some (.ref a),some (.ref F),some (.str one),o3]/\H' F=some (.lst us)/\abG (aR H') us ms/\(∀ m∈ms,WiL kt m)/\ms.length<=24 * i+j/\aY F H4 H') ⟨us,ms,o3,rfl,s4 _ _ eF,aA (λ_ _ z=>z.ts s4.tups) pu,wi,by omega,aY.of (Same.refl _)⟩ (λj σ H' _ hz=>by obtain ⟨_,_,_,_,_,_,_,_,S⟩:=hz; exact cG.of (S _ _ nl2 el2)) (λj v σ H5 hv hz=>?_) (fun σ H5 hz=>?_)⟩
     . obtain ⟨us,ms,o3,rfl,eF5,Yw,wi5,lm5,S5⟩:=hz;rw [aaJ] at hv;obtain ⟨other,ho2,rfl⟩:=afo.mp hv;have m2:other∈kt.map (·.1):=pm2.mem_iff.mp (abq ho2);have j24:j<24:=by have:=(abE.mp ho2).1; omega
       have Wq:∀ b o,b≠F->H3 b=some o->H5 b=some o:=λb o n e=>S5 _ _ n (s4 _ _ e)
       have S25:∀ b o,b≠F->H2 b=some o->H5 b=some o:=λb o n e=>Wq _ _ n (S3 _ _ n e)
       have tS:bV H H5:=λb xs e=>S25 b _ (aH e fF) ((s1.trans s2) _ _ e)
       have ek5:H5 a=some (.dK kvs):=S25 _ _ nF ((s1.trans s2) _ _ ek);have pk5:=aA (λ_ _ z=>jz.ts z tS) pk;obtain ⟨p1,e1⟩:=Fx m1;obtain ⟨p2,e2⟩:=Fx m2;obtain ⟨b1,v1,g1⟩:=(kJ (n:=one) pk5).2 p1 e1;obtain ⟨b2,v2,g2⟩:=(kJ (n:=other) pk5).2 p2 e2;have skip:∃ (us:List V) (ms:List Letter) (o3':Option V),[some (.ref a),some (.ref F),some (.str one),some (.str other)]=[some (V.ref a),some (.ref F),some (.str one),o3']/\H5 F=some (.lst us)/\abG (aR H5) us ms/\(∀ m∈ms,WiL kt m)/\ms.length<=24 * i+(j+1)/\aY F H4 H5:=⟨us,ms,_,rfl,eF5,Yw,wi5,by omega,S5⟩;refine eZ (λz1=>?_) (λz1=>Zr skip);refine ⟨a,.ref b1,rfl,by have z:=eY.k (k:=acW one) ek5; rw [v1] at z; exact z,?_⟩;refine cg (bQ.of g1) (i:=0) (v:=.str p1.1) (by rfl) ?_;refine ⟨a,.ref b2,rfl,by have z:=eY.k (k:=acW other) ek5; rw [v2] at z; exact z,?_⟩;refine cg (bQ.of g2) (i:=0) (v:=.str p2.1) (by rfl) ?_;refine eZ (λz2=>?_) (λz2=>skip);refine ⟨.inl ⟨rfl,_,cG.of eF5⟩,?_⟩;refine ⟨by show 4<=sizeLine; omega,λt ft=>?_⟩;refine gE ft λH6 s6 et=>?_
       have eF6:=s6 _ _ eF5;have lu:=Yw.length;refine ⟨F,us,_,rfl,rfl,eF6,by omega,?_⟩;have TT:bV H6 (upd H6 F (.lst (us++[.ref t]))):=λb xs e=>by rw [aB (λz=>by rw [z,eF6] at e; cases e)]; exact e
       refine ⟨us++[.ref t],ms++[((one,other),1,none)],_,rfl,au,bC (aA (λ_ _ z=>(z.ts s6.tups).ts TT) Yw) (.cons ⟨t,rfl,TT _ _ et⟩ .nil),λm hm=>?_,by rw [aay]; simp; omega,λb o n e=>by rw [aB n]; exact s6 _ _ (S5 _ _ n e)⟩;rcases abv.mp hm with z | z
       . exact wi5 m z
       . rw [abe.mp z];refine ⟨m1,m2,λz=>?_,?_,rfl⟩
         . have z1':(!decide (one=other))=true:=z1;rw [decide_eq_true z] at z1'; cases z1'
         . unfold aX;rw [e1,e2];exact z2
     . obtain ⟨us,ms,o3,rfl,eF5,Yw,wi5,lm5,S5⟩:=hz;rw [aac,ls2] at lm5;exact ⟨us,ms,_,_,rfl,eF5,Yw,wi5,by omega,λb o n e=>S5 _ _ n (s4 _ _ (S3 _ _ n e))⟩
   . obtain ⟨us,ms,o2,o3,rfl,eF,pu,wi,lm,S3⟩:=hz;show U2 _ _;subst Q7;refine ⟨F,us,rfl,cG.of eF,λp fp=>?_⟩;rw [ai9];have s4:Same H3 (upd H3 p (.lst (us.take 8))):=(Same.refl H3).upd fp;have S:Same H H3:=λb o e=>S3 _ _ (aH e fF) ((s1.trans s2) _ _ e)
     refine q p (us.take 8) (ms.take 8) _ (S.free fp) au (uR 8 (aA (λ_ _ z=>z.ts s4.tups) pu)) (λm hm=>wi m (afP hm)) (by rw [abI]; omega) (S.trans s4)
noncomputable abbrev IV:air:=top 72
noncomputable def Fy (d:Da):Prop:=∃ s t l m,d=.tup [s,t,l,m]/\(bG d=false\/∃ n,s=.str n/\t=.str n)
theorem Fz {s t l m:Da} (h:bG (.tup [s,t,l,m])=false):Fy (.tup [s,t,l,m]):=⟨s,t,l,m,rfl,.inl h⟩
noncomputable def CT:Sp:=λvs H Q _=>∃ (one other:Str),vs=[.str one,.str other]/\one.length<=1000/\other.length<=1000/\∀ (l:aaH) (us:List V) (ds:List Da) (H':Hp),H' l=some (.lst us)->cF H' us ds->ds.length<=40->(∀ d∈ds,Fy d)->Same H H'->Q (.ref l) H'
theorem lG:aZ ["_law_one","_law_other","_law_found","_law_odd"] ["_law_one","_law_other"] (aJ IV):=nj
theorem Tn {f:aaH} {fd:abL} (F:dO K "_law_no_letters" "_law_no_letters" IV f fd):aV P w K mg base dF 1 f fd ["_law_one","_law_other"] CT:=by
 refine F.ok lG (λvs H Q E h=>?_) (λcdv A outer s H vs Q E hr h=>?_)
 . obtain ⟨one,other,rfl,_⟩:=h;rfl
 . obtain ⟨one,other,rfl,l1,l2,q⟩:=h;have jH:sizeLine=16777216:=aby;have L1:one.length<=sizeLine:=by omega
   have L2:other.length<=sizeLine:=by omega
   refine ⟨_,(SSs.h (sE (Qf (i:=2) lG.nd rfl (afO rfl) (nJ (aN (gU (aN (qV 0) (aN (qV 0) (aN eU (aN qZ cZ))))) (aN (gU (aN (qV 0) (aN (qV 1) (aN eU (aN qZ cZ))))) (aN (gU (aN (qV 0) (aN (qV 1) (aN (acH ⟨Zz⟩ eU) (aN eU cZ))))) (aN (gU (aN (qV 0) (aN (qV 1) (aN eU (aN eU cZ))))) (aN (gU (aN (qV 0) (aN (qV 1) (aN eU (aN eU cZ))))) cZ))))))) (sE (GD acK rfl (Bw (nJ (aN qY (aN qY (aN qY (aN qZ (aN eU (aN JG (aN (gU (aN (qV 0) cZ)) (aN (nJ (aN (qV 0) cZ)) (aN DN cZ))))))))))) (Bx (i:=3) lG.nd rfl (afO rfl)) (vI (Qf (i:=2) lG.nd rfl (afO rfl) (acG ⟨nA⟩ (qV 2) (nJ (aN (gU (aN (qV 3) (aN (qV 1) (aN eU (aN qZ cZ))))) (aN (gU (aN (qV 0) (aN (qV 3) (aN eU (aN qZ cZ))))) cZ))))))) (sE (GD acK rfl (Bw (nJ (aN qZ (aN JG (aN qY (aN (gU (aN eU cZ)) (aN (nJ (aN eU cZ)) cZ))))))) (Bx (i:=3) lG.nd rfl (afO rfl)) (vI (JH (Yh adq adC adD ⟨eX⟩ (qV 2) (aN (gU (aN (qV 0) (aN (qV 1) (aN (qV 3) (aN qZ cZ))))) cZ))))) (sE (GD acK rfl (Bw (nJ (aN JG (aN JG (aN qY (aN (gU (aN eU cZ)) (aN (nJ (aN eU cZ)) (aN DN (aN qY cZ))))))))) (Bx (i:=3) lG.nd rfl (afO rfl)) (vI (JH (Yh adq adC adD ⟨eX⟩ (qV 2) (aN (gU (aN (qV 0) (aN (qV 1) (aN eU (aN (qV 3) cZ))))) cZ))))) (vI (ZL (qV 2)))))))),?_⟩;show yW (u9 _ _) _ _ [some (.str one),some (.str other),none,none] H;refine (QB (λz=>[some (.str one),some (.str other),z,none]) (λ_=>rfl) (aK (iY (aK (ou (.str _ L1)) (aK (ou (.str _ L1)) (aK fV (aK q9 cY)))) (by exact abO rfl)) (aK (iY (aK (ou (.str _ L1)) (aK (wY (.str _ L2)) (aK fV (aK q9 cY)))) (by exact abO rfl)) (aK (iY (aK (ou (.str _ L1)) (aK (wY (.str _ L2)) (aK (ZW rfl fV) (aK fV cY)))) (by exact abO rfl)) (aK (iY (aK (ou (.str _ L1)) (aK (wY (.str _ L2)) (aK fV (aK fV cY)))) (by exact abO rfl)) (aK (iY (aK (ou (.str _ L1)) (aK (wY (.str _ L2)) (aK fV (aK fV cY)))) (by exact abO rfl)) cY))))) (by exact abO rfl) λa1 vs1 H1 fa1 s1 ea1 hv1=>?_);obtain ⟨ds1,hv1,B1,ln1⟩:∃ ds,cF H1 vs1 ds/\(∀ d∈ds,Fy d)/\ds.length<=5:=⟨_,hv1,bR ⟨_,_,_,_,rfl,.inr ⟨one,rfl,rfl⟩⟩ (bR (Fz (acO (by decide))) (bR (Fz (acO (by decide))) (bR (Fz (lt4 rfl)) (bR (Fz (lt4 rfl)) wZ)))),by exact abO rfl⟩;refine (Ma (a:=a1) (λr z=>[some (.str one),some (.str other),r,z]) (λ_ _=>rfl) rfl (by decide) ⟨_,rfl⟩ ea1 hv1 (aK (tX (by decide +kernel)) (aK (tX (by decide +kernel)) (aK (tX (by decide +kernel)) (aK q9 (aK fV (aK JQ (aK (iY (aK (ou (.str _ L1)) cY) (by exact abO rfl)) (aK (GX (aK (ou (.str _ L1)) cY) (by exact abO rfl)) (aK Qv cY))))))))) (by simp only [aay,aac,abD,adw,afX,ah6]; omega) (by exact abO rfl) (λx d r H' hd s hx=>(aK (iY (aK (JR hx) (aK (wY (.str _ L2)) (aK fV (aK q9 cY)))) (by exact abO rfl)) (aK (iY (aK (ou (.str _ L1)) (aK (JR hx) (aK fV (aK q9 cY)))) (by exact abO rfl)) cY))) (λo2 a2 H2 vs2 s2 Z0 hv2 fr=>?_));obtain ⟨ds2,hv2,B2,l2⟩:∃ ds,cF H2 vs2 ds/\(∀ d∈ds,Fy d)/\ds.length<=23:=⟨_,hv2,GZ B1 (VP (q:=λd=>qF d=false) (bR (by decide +kernel) (bR (by decide +kernel) (bR (by decide +kernel) (bR rfl (bR rfl (bR rfl (bR rfl (bR rfl (bR rfl wZ))))))))) λd w=>bR (Fz (lt1 w)) (bR (Fz (lt2 w)) wZ)),by simp only [aay,aac,abD,adw,afX,ah6]; omega⟩;have fr2:H a2=none:=fr.elim (λe=>e ▸ fa1) (QC s1);have S2:Same H H2:=s1.trans s2;refine (Ac (a:=a2) (λz=>[some (.str one),some (.str other),some (.ref a2),z]) (λ_=>rfl) rfl (by decide) ⟨_,rfl⟩ Z0 hv2 (aK q9 (aK JQ (aK (tX (by decide +kernel)) (aK (iY (aK fV cY) (by exact abO rfl)) (aK (GX (aK fV cY) (by exact abO rfl)) cY))))) (by simp only [aay,aac,abD,adw,afX,ah6]; omega) (λx d H' hd kp hx=>(iY (aK (ou (.str _ L1)) (aK (wY (.str _ L2)) (aK (JR hx) (aK q9 cY)))) (by exact abO rfl))) (λo3 H3 vs3 k3 Wj Uy hv3=>?_));obtain ⟨ds3,hv3,B3,l3⟩:∃ ds,cF H3 vs3 ds/\(∀ d∈ds,Fy d)/\ds.length<=28:=⟨_,hv3,GZ B2 (QD (q:=λd=>gA d=false) (bR rfl (bR rfl (bR rfl (bR rfl (bR rfl wZ))))) λd w=>Fz (lt3 w)),by simp only [aay,aac,abD,adw,afX,ah6]; omega⟩;have S3:Same H H3:=jw S2 fr2 Wj;refine (Ac (a:=a2) (λz=>[some (.str one),some (.str other),some (.ref a2),z]) (λ_=>rfl) rfl (by decide) ⟨_,rfl⟩ Uy hv3 (aK JQ (aK JQ (aK (tX (by decide +kernel)) (aK (iY (aK fV cY) (by exact abO rfl)) (aK (GX (aK fV cY) (by exact abO rfl)) (aK Qv (aK (tX (by decide +kernel)) cY))))))) (by simp only [aay,aac,abD,adw,afX,ah6]; omega) (λx d H' hd kp hx=>(iY (aK (ou (.str _ L1)) (aK (wY (.str _ L2)) (aK fV (aK (JR hx) cY)))) (by exact abO rfl))) (λo4 H4 vs4 k4 sb4 ea4 hv4=>?_));obtain ⟨ds4,hv4,B4,l4⟩:∃ ds,cF H4 vs4 ds/\(∀ d∈ds,Fy d)/\ds.length<=35:=⟨_,hv4,GZ B3 (QD (q:=λd=>zX 1 d=false) (bR rfl (bR rfl (bR rfl (bR rfl (bR rfl (bR rfl (bR rfl wZ))))))) λd w=>Fz (lt4 w)),by simp only [aay,aac,abD,adw,afX,ah6]; omega⟩;exact q a2 vs4 ds4 H4 ea4 hv4 (by omega) B4 (jw S3 fr2 sb4)
end Eb
namespace L2.S9
open PySem PySem.Spec PyProof.Rows PySem.W L2
noncomputable def tabI (led:Bool) (ns:List Nat):SetTable:={ mask:=7,place:=ns.toArray,dummies:=#[],finger:=0,led:=led,moves:=0,plain:=true }
noncomputable def oV:List Nat->List (Int × aat)->Prop:=abG λn e=>∃ t,e=((n:Int),abW (n:Int) t)
noncomputable def oW (p:Nat->Bool):List Nat:=(if p 1 then [1] else if p 9 then [1] else [])++((if p 3 then [3] else [])++((if p 5 then [5] else [])++(if p 1 && p 9 then [6] else [])))
noncomputable def yV (p:Nat->Bool):List Nat:=(if p 1 then [1] else if p 9 then [9] else [])++((if p 3 then [3] else [])++((if p 5 then [5] else [])++(if p 1 && p 9 then [9] else [])))
noncomputable def Gf (p:Nat->Bool):List Nat:=(if p 1 then [1] else [])++((if p 3 then [3] else [])++((if p 5 then [5] else [])++(if p 9 then [9] else [])))
theorem uF (p:Nat->Bool):(oW p).length=(yV p).length/\(yV p).length<=4:=by
 unfold oW yV;cases p 1 <;> cases p 3 <;> cases p 5 <;> cases p 9 <;> decide
theorem Xd {p:Nat->Bool} {n:Nat} (h:n∈[1,3,5,9]):p n=true↔n∈yV p:=by
 simp only [abu,ajl,or_false] at h;unfold yV;rcases h with rfl | rfl | rfl | rfl
 . cases p 1 <;> cases p 3 <;> cases p 5 <;> cases p 9 <;> decide
 . cases p 1 <;> cases p 3 <;> cases p 5 <;> cases p 9 <;> decide
 . cases p 1 <;> cases p 3 <;> cases p 5 <;> cases p 9 <;> decide
 . cases p 1 <;> cases p 3 <;> cases p 5 <;> cases p 9 <;> decide
noncomputable def fK (w:acU):Bool:=w.params.followText "set-order"
noncomputable def iW (w:acU) (h:afp) (a:aaH) (p:Nat->Bool) (ep:Nat):Prop:=∃ o es,h.get? a=some o/\o.ExactSet/\o.data=.set es ep (tabI (!fK w) (oW p))/\oV (yV p) es.toList
theorem cu {l:List (Int × aat)} (h:oV [] l):l=[]:=by cases h; rfl
theorem bB {n:Nat} {ns:List Nat} {l:List (Int × aat)} (h:oV (n :: ns) l):∃ t l',l=((n:Int),abW (n:Int) t) :: l'/\oV ns l':=by
 cases h with
 | cons h r=>obtain ⟨t,rfl⟩:=h; exact ⟨t,_,rfl,r⟩
theorem Tp {n:Nat} (h:n∈[1,3,5,9]):hashInt (n:Int)=(n:Int):=by
 simp only [abu,ajl,or_false] at h;rcases h with rfl | rfl | rfl | rfl <;> decide +kernel
theorem Ku {prog:abt} {w:acU}:∀ {ns:List Nat} {l:List (Int × aat)},oV ns l->(∀ n∈ns,n∈[1,3,5,9])->ElemsOf (intKind prog w) l
 | [],l,h,_=>by rw [cu h]; intro e he; cases he
 | n :: ns,l,h,hn=>by
   obtain ⟨t,l',rfl,r⟩:=bB h;intro e he;rcases abu.mp he with rfl | he
   . exact ⟨⟨(n:Int),by simp [intKind,akq],(Tp (hn n abw)).symm⟩,rfl⟩
   . exact Ku r (λm hm=>hn m (abk _ hm)) e he
theorem Xe {p:Nat->Bool}:∀ n∈yV p,n∈[1,3,5,9]:=by
 unfold yV;cases p 1 <;> cases p 3 <;> cases p 5 <;> cases p 9 <;> decide
theorem lH {led:Bool} {p:Nat->Bool} {es:Array (Int × aat)} (h:oV (yV p) es.toList):(tabI led (oW p)).fits es.size=true:=by
 have l:=ago h;obtain ⟨l1,l2⟩:=uF p;unfold SetTable.fits tabI SetTable.fill;simp only [abm,adB,beq_iff_eq,decide_eq_true_eq];rw [abC] at l;exact ⟨l1.trans l,by show (oW p).length+0<=7; omega⟩
theorem aje {led:Bool} {p:Nat->Bool} {es:Array (Int × aat)} (h:oV (yV p) es.toList) {n:Nat} (hn:n∈[1,3,5,9]) (hp:p n=false) (h9:n≠9->p 9=false) (t:Tok) :
   ∃ es',layNew (tabI led (oW p)) es (n:Int) (abW (n:Int) t)=(es',tabI led (oW λk=>p k || decide (k=n)),false,false)/\oV (yV λk=>p k || decide (k=n)) es'.toList:=by
 obtain ⟨l⟩:=es;simp only [abu,ajl,or_false] at hn
 have key:∀ b1 b3 b5 b9:Bool,(n=1/\b1=false/\b9=false\/n=3/\b3=false/\b9=false\/n=5/\b5=false/\b9=false\/n=9/\b9=false)->oV ((if b1 then [1] else if b9 then [9] else [])++((if b3 then [3] else [])++((if b5 then [5] else [])++(if b1 && b9 then [9] else [])))) l ->
     ∃ es',layNew (tabI led ((if b1 then [1] else if b9 then [1] else [])++((if b3 then [3] else [])++((if b5 then [5] else [])++(if b1 && b9 then [6] else []))))) ⟨l⟩ (n:Int) (abW (n:Int) t)=(es',tabI led ((if (b1 || decide (1=n)) then [1] else if (b9 || decide (9=n)) then [1] else [])++((if (b3 || decide (3=n)) then [3] else [])++((if (b5 || decide (5=n)) then [5] else [])++(if (b1 || decide (1=n)) && (b9 || decide (9=n)) then [6] else [])))),false,false)/\oV ((if (b1 || decide (1=n)) then [1] else if (b9 || decide (9=n)) then [9] else [])++((if (b3 || decide (3=n)) then [3] else [])++((if (b5 || decide (5=n)) then [5] else [])++(if (b1 || decide (1=n)) && (b9 || decide (9=n)) then [9] else [])))) es'.toList:=by
   intro b1 b3 b5 b9 hb hl;rcases hb with ⟨rfl,rfl,rfl⟩ | ⟨rfl,rfl,rfl⟩ | ⟨rfl,rfl,rfl⟩ | ⟨rfl,rfl⟩
   . cases b3 <;> cases b5 <;> simp only [adi,if_false,if_true,alU,adx,af7,afK,afB] at hl
     . cases cu hl;exact ⟨#[(((1:Nat):Int),abW ((1:Nat):Int) t)],by kernel_rfl,(.cons ⟨t,rfl⟩ .nil)⟩
     . obtain ⟨t5,l5,rfl,r5⟩:=bB hl;cases cu r5;exact ⟨#[(((1:Nat):Int),abW ((1:Nat):Int) t),(((5:Nat):Int),abW ((5:Nat):Int) t5)],by kernel_rfl,(.cons ⟨t,rfl⟩ (.cons ⟨t5,rfl⟩ .nil))⟩
     . obtain ⟨t3,l3,rfl,r3⟩:=bB hl;cases cu r3;exact ⟨#[(((1:Nat):Int),abW ((1:Nat):Int) t),(((3:Nat):Int),abW ((3:Nat):Int) t3)],by kernel_rfl,(.cons ⟨t,rfl⟩ (.cons ⟨t3,rfl⟩ .nil))⟩
     . obtain ⟨t3,l3,rfl,r3⟩:=bB hl;obtain ⟨t5,l5,rfl,r5⟩:=bB r3;cases cu r5;exact ⟨#[(((1:Nat):Int),abW ((1:Nat):Int) t),(((3:Nat):Int),abW ((3:Nat):Int) t3),(((5:Nat):Int),abW ((5:Nat):Int) t5)],by kernel_rfl,(.cons ⟨t,rfl⟩ (.cons ⟨t3,rfl⟩ (.cons ⟨t5,rfl⟩ .nil)))⟩
   . cases b1 <;> cases b5 <;> simp only [adi,if_false,if_true,alU,adx,af7,afK,afB] at hl
     . cases cu hl;exact ⟨#[(((3:Nat):Int),abW ((3:Nat):Int) t)],by kernel_rfl,(.cons ⟨t,rfl⟩ .nil)⟩
     . obtain ⟨t5,l5,rfl,r5⟩:=bB hl;cases cu r5;exact ⟨#[(((3:Nat):Int),abW ((3:Nat):Int) t),(((5:Nat):Int),abW ((5:Nat):Int) t5)],by kernel_rfl,(.cons ⟨t,rfl⟩ (.cons ⟨t5,rfl⟩ .nil))⟩
     . obtain ⟨t1,l1,rfl,r1⟩:=bB hl;cases cu r1;exact ⟨#[(((1:Nat):Int),abW ((1:Nat):Int) t1),(((3:Nat):Int),abW ((3:Nat):Int) t)],by kernel_rfl,(.cons ⟨t1,rfl⟩ (.cons ⟨t,rfl⟩ .nil))⟩
     . obtain ⟨t1,l1,rfl,r1⟩:=bB hl;obtain ⟨t5,l5,rfl,r5⟩:=bB r1;cases cu r5;exact ⟨#[(((1:Nat):Int),abW ((1:Nat):Int) t1),(((3:Nat):Int),abW ((3:Nat):Int) t),(((5:Nat):Int),abW ((5:Nat):Int) t5)],by kernel_rfl,(.cons ⟨t1,rfl⟩ (.cons ⟨t,rfl⟩ (.cons ⟨t5,rfl⟩ .nil)))⟩
   . cases b1 <;> cases b3 <;> simp only [adi,if_false,if_true,alU,adx,af7,afK,afB] at hl
     . cases cu hl;exact ⟨#[(((5:Nat):Int),abW ((5:Nat):Int) t)],by kernel_rfl,(.cons ⟨t,rfl⟩ .nil)⟩
     . obtain ⟨t3,l3,rfl,r3⟩:=bB hl;cases cu r3;exact ⟨#[(((3:Nat):Int),abW ((3:Nat):Int) t3),(((5:Nat):Int),abW ((5:Nat):Int) t)],by kernel_rfl,(.cons ⟨t3,rfl⟩ (.cons ⟨t,rfl⟩ .nil))⟩
     . obtain ⟨t1,l1,rfl,r1⟩:=bB hl;cases cu r1;exact ⟨#[(((1:Nat):Int),abW ((1:Nat):Int) t1),(((5:Nat):Int),abW ((5:Nat):Int) t)],by kernel_rfl,(.cons ⟨t1,rfl⟩ (.cons ⟨t,rfl⟩ .nil))⟩
     . obtain ⟨t1,l1,rfl,r1⟩:=bB hl;obtain ⟨t3,l3,rfl,r3⟩:=bB r1;cases cu r3;exact ⟨#[(((1:Nat):Int),abW ((1:Nat):Int) t1),(((3:Nat):Int),abW ((3:Nat):Int) t3),(((5:Nat):Int),abW ((5:Nat):Int) t)],by kernel_rfl,(.cons ⟨t1,rfl⟩ (.cons ⟨t3,rfl⟩ (.cons ⟨t,rfl⟩ .nil)))⟩
   . cases b1 <;> cases b3 <;> cases b5 <;> simp only [adi,if_false,if_true,alU,adx,af7,afK,afB] at hl
     . cases cu hl;exact ⟨#[(((9:Nat):Int),abW ((9:Nat):Int) t)],by kernel_rfl,(.cons ⟨t,rfl⟩ .nil)⟩
     . obtain ⟨t5,l5,rfl,r5⟩:=bB hl;cases cu r5;exact ⟨#[(((9:Nat):Int),abW ((9:Nat):Int) t),(((5:Nat):Int),abW ((5:Nat):Int) t5)],by kernel_rfl,(.cons ⟨t,rfl⟩ (.cons ⟨t5,rfl⟩ .nil))⟩
     . obtain ⟨t3,l3,rfl,r3⟩:=bB hl;cases cu r3;exact ⟨#[(((9:Nat):Int),abW ((9:Nat):Int) t),(((3:Nat):Int),abW ((3:Nat):Int) t3)],by kernel_rfl,(.cons ⟨t,rfl⟩ (.cons ⟨t3,rfl⟩ .nil))⟩
     . obtain ⟨t3,l3,rfl,r3⟩:=bB hl;obtain ⟨t5,l5,rfl,r5⟩:=bB r3;cases cu r5;exact ⟨#[(((9:Nat):Int),abW ((9:Nat):Int) t),(((3:Nat):Int),abW ((3:Nat):Int) t3),(((5:Nat):Int),abW ((5:Nat):Int) t5)],by kernel_rfl,(.cons ⟨t,rfl⟩ (.cons ⟨t3,rfl⟩ (.cons ⟨t5,rfl⟩ .nil)))⟩
     . obtain ⟨t1,l1,rfl,r1⟩:=bB hl;cases cu r1;exact ⟨#[(((1:Nat):Int),abW ((1:Nat):Int) t1),(((9:Nat):Int),abW ((9:Nat):Int) t)],by kernel_rfl,(.cons ⟨t1,rfl⟩ (.cons ⟨t,rfl⟩ .nil))⟩
     . obtain ⟨t1,l1,rfl,r1⟩:=bB hl;obtain ⟨t5,l5,rfl,r5⟩:=bB r1;cases cu r5;exact ⟨#[(((1:Nat):Int),abW ((1:Nat):Int) t1),(((5:Nat):Int),abW ((5:Nat):Int) t5),(((9:Nat):Int),abW ((9:Nat):Int) t)],by kernel_rfl,(.cons ⟨t1,rfl⟩ (.cons ⟨t5,rfl⟩ (.cons ⟨t,rfl⟩ .nil)))⟩
     . obtain ⟨t1,l1,rfl,r1⟩:=bB hl;obtain ⟨t3,l3,rfl,r3⟩:=bB r1;cases cu r3;exact ⟨#[(((1:Nat):Int),abW ((1:Nat):Int) t1),(((3:Nat):Int),abW ((3:Nat):Int) t3),(((9:Nat):Int),abW ((9:Nat):Int) t)],by kernel_rfl,(.cons ⟨t1,rfl⟩ (.cons ⟨t3,rfl⟩ (.cons ⟨t,rfl⟩ .nil)))⟩
     . obtain ⟨t1,l1,rfl,r1⟩:=bB hl;obtain ⟨t3,l3,rfl,r3⟩:=bB r1;obtain ⟨t5,l5,rfl,r5⟩:=bB r3;cases cu r5;exact ⟨#[(((1:Nat):Int),abW ((1:Nat):Int) t1),(((3:Nat):Int),abW ((3:Nat):Int) t3),(((5:Nat):Int),abW ((5:Nat):Int) t5),(((9:Nat):Int),abW ((9:Nat):Int) t)],by kernel_rfl,(.cons ⟨t1,rfl⟩ (.cons ⟨t3,rfl⟩ (.cons ⟨t5,rfl⟩ (.cons ⟨t,rfl⟩ .nil))))⟩
 refine key (p 1) (p 3) (p 5) (p 9) ?_ h;rcases hn with rfl | rfl | rfl | rfl
 . exact .inl ⟨rfl,hp,h9 (by decide)⟩
 . exact .inr (.inl ⟨rfl,hp,h9 (by decide)⟩)
 . exact .inr (.inr (.inl ⟨rfl,hp,h9 (by decide)⟩))
 . exact .inr (.inr (.inr ⟨rfl,hp⟩))
section
variable {prog:abt} {w:acU} {A:acX} {E:aat->aav->Prop} {s:aav}
theorem ajf {a:aaH} {p:Nat->Bool} {ep n:Nat} {t:Tok} {Q:Bool->aav->Prop} (hn:n∈[1,3,5,9]) (h9:n≠9->p 9=false) (hS:iW w s.heap a p ep)
   (h:∀ h' b ep',ag6 a s.heap h'->iW w h' a (λk=>p k || decide (k=n)) ep'->Q b { s with heap:=h' }) :
   wpAny (model prog w) A (setAddHashed a (.int (n:Int) t) (n:Int)) Q E s:=by
 obtain ⟨o,es,ho,hex,hd,hel⟩:=hS;have hE:=Ku (prog:=prog) (w:=w) hel Xe;have hf:=lH (led:=!fK w) hel
 have hb:es.size<scanBound:=by
   have l:(yV p).length=es.size:=by rw [<- abC]; exact ago hel
   have l3:=(uF p).2;show es.size<4096;omega
 have hkey:(intKind prog w).is (n:Int) (.int (n:Int) t)=true:=by simp [intKind,akq]
 have hh:(intKind prog w).hash (n:Int)=(n:Int):=Tp hn;unfold setAddHashed setAddHashedIn;refine ac6 (El (akF ho hd hf ?_));dsimp only;rw [byScan_of (knd:=intKind prog w) rfl hb hE];simp only [↓reduceIte];unfold setAddByScan;refine El ?_;refine El (aov ?_)
 have sc:∀ Q:ScanMet->aav->Prop,Q (match es.toList.findIdx? (λe=>(intKind prog w).is (n:Int) e.2) with | some j=>.found (0+j) | none=>.absent) s->wpAny (model prog w) A (setScan a (.int (n:Int) t) (n:Int) true es) Q E s:=λQ q=>by
   have z:=wpAny_setScan_of (A:=A) (E:=E) (adding:=true) hkey ho hd hf hE q;rw [hh] at z;exact z
 refine El (sc _ ?_)
 have mem:∀ {ns:List Nat} {l:List (Int × aat)},oV ns l->((∃ e∈l,(intKind prog w).is (n:Int) e.2=true)↔n∈ns):=by
   intro ns l hl
   induction hl with
   | nil=>simp
   | @cons m e ms es h r ih =>
     obtain ⟨t',rfl⟩:=h;simp only [abu];constructor
     . rintro ⟨e,he | he,hk⟩
       . subst he;refine .inl ?_;simp [intKind,akq] at hk;omega
       . exact .inr (ih.mp ⟨e,he,hk⟩)
     . rintro (rfl | hm)
       . exact ⟨_,.inl rfl,by simp [intKind,akq]⟩
       . obtain ⟨e,he,hk⟩:=ih.mpr hm;exact ⟨e,.inr he,hk⟩
 have hpn:p n=true↔n∈yV p:=Xd hn;cases hr:List.findIdx? (λe=>(intKind prog w).is (n:Int) e.2) es.toList with
 | some j =>
   dsimp only;obtain ⟨hj,hpj,_⟩:=List.findIdx?_eq_some_iff_getElem.mp hr;have hSk:p n=true:=hpn.mpr ((mem hel).mp ⟨es.toList[j],ah5 hj,hpj⟩);refine aau (aau ?_);have e:s={ s with heap:=s.heap }:=by cases s; rfl
   have ef:(λk=>p k || decide (k=n))=p:=funext λk=>by
     by_cases z:k=n
     . subst z; rw [hSk]; rfl
     . rw [decide_eq_false z,amB]
   rw [e];refine h s.heap _ ep (aoJ a s.heap) ?_;rw [ef];exact ⟨o,es,ho,hex,hd,hel⟩
 | none =>
   dsimp only
   have hSk:p n=false:=by
     cases hk:p n with
     | false=>rfl
     | true =>
       obtain ⟨e,he,hp⟩:=(mem hel).mpr (hpn.mp hk);have:=List.findIdx?_eq_none_iff.mp hr e he;rw [hp] at this;exact Bool.noConfusion this
   obtain ⟨es',eL,adV⟩:=aje (led:=!fK w) hel hn hSk h9 t;rw [eL];dsimp only;refine El (aau ?_);have pl:(tabI (!fK w) (oW λk=>p k || decide (k=n))).plain=true:=rfl;simp only [pl,if_true];refine El (alP (hashByValue_scannable 8 (x:=.int (n:Int) t) rfl) ?_);simp only [show plainKind (.int (n:Int) t)=true from rfl,if_true]
   have hz:es'.size<=sizeLine:=by
     have l:(yV λk=>p k || decide (k=n)).length=es'.size:=by rw [<- abC]; exact ago adV
     have l3:=(uF λk=>p k || decide (k=n)).2;rw [aby];omega
   refine El (wpAny_storeSet_of ho hd ?_ hz)
   have full:(tabI (!fK w) (oW λk=>p k || decide (k=n))).tooFull=false:=by
     have l3:=uF λk=>p k || decide (k=n)
     unfold SetTable.tooFull SetTable.fill tabI;simp only [abm,decide_eq_false_iff_not];show ¬ (((oW λk=>p k || decide (k=n)).length+0) * 5 ≥ 7 * 3);omega
   simp only [full,afB,adi,if_false];have sb:ag6 a s.heap (s.heap.update a (apm es' (tabI (!fK w) (oW λk=>p k || decide (k=n))))):=afW ..
   have hg:(s.heap.update a (apm es' (tabI (!fK w) (oW λk=>p k || decide (k=n))))).get? a=some { o with data:=.set es' (ep+1) (tabI (!fK w) (oW λk=>p k || decide (k=n))) }:=by
     have:=adP (apm es' (tabI (!fK w) (oW λk=>p k || decide (k=n)))) ho (by rw [putSet_of _ _ hd]; rfl);rw [putSet_of _ _ hd] at this; exact this
   exact aau (aau (h _ _ (ep+1) sb ⟨_,es',hg,hex,rfl,adV⟩))
end
noncomputable def Ax (xs:List Int) (i:Nat) (k:Nat):Bool:=decide ((k:Int)∈xs.take i)
theorem Tq {xs:List Int} {i n:Nat} (h:xs[i]?=some (n:Int)):(λk=>Ax xs i k || decide (k=n))=Ax xs (i+1):=funext λk=>by
 unfold Ax;rw [abz,h];by_cases z:k=n
 . subst z; simp
 . have:¬ (k:Int)=(n:Int):=by omega
   simp [z,this]
section
variable {prog:abt} {w:acU} {A:acX} {E:aat->aav->Prop} {s:aav}
theorem adW {R:aod->aav->Prop} {I:aaH} {fp wr:List aaH} {G:Array al6->Array al6->Prop} {P:Nat->aat->Prop} {St:Nat->aav->Prop} {ks:List Int} (W:WalksS prog w A.in1 I fp wr G ks.length P St) (Z:aaH) (nZ:Z ∉ fp)
   (Vy:∀ i v,P i v->∃ (n:Nat) (t:Tok),ks[i]?=some (n:Int)/\n∈[1,3,5,9]/\v=.int (n:Int) t) (last:∀ i:Nat,∀ n:Int,ks[i]?=some n->n≠9->(9:Int) ∉ ks.take i) :
   ∀ (j i:Nat) (s:aav),ks.length-i=j->i<=ks.length->St i s->(∃ ep,iW w s.heap Z (Ax ks i) ep) ->
     (∀ s',Moved (Z :: wr) G s s'->(∃ ep,iW w s'.heap Z (Ax ks ks.length) ep)->R (.ok (.ret .none)) s') ->
     codeAny (model prog w) A (.builtin "set.update.loop" ⟨[.ref Z,.ref I],[]⟩) R s:=by
 have nW:Z ∉ wr:=λz=>nZ (W.sub _ z)
 have sub:∀ b∈wr,b∈Z :: wr:=λb z=>abk _ z
 intro j
 induction j with
 | zero =>
   intro i s ej ei st zS out;have ei':i=ks.length:=by omega
   subst ei';refine aev afA ?_;rw [adU ady _];show wpAny _ A.in1 (pyNext (.ref I) >>= _) _ _ s;refine El (W.done s _ _ st λs' mv=>?_);show wpAny _ A.in1 (ret acS) _ _ s';obtain ⟨ep,o,es,ho,rest⟩:=zS;exact aau (out s' (mv.mono sub) ⟨ep,o,es,mv.heap Z _ nW ho,rest⟩)
 | succ j ih =>
   intro i s ej ei st zS out;have lt:i<ks.length:=by omega
   refine aev afA ?_;rw [adU ady _];show wpAny _ A.in1 (pyNext (.ref I) >>= _) _ _ s;refine El (W.item i s _ _ lt st λv s' pv st' mv=>?_);obtain ⟨n,t,ek,hn,rfl⟩:=Vy i v pv;have zS':∃ ep,iW w s'.heap Z (Ax ks i) ep:=let ⟨ep,o,es,ho,rest⟩:=zS; ⟨ep,o,es,mv.heap Z _ nW ho,rest⟩
   obtain ⟨ep,zS'⟩:=zS';show wpAny _ A.in1 (holding [.int (n:Int) t] (setAdd Z (.int (n:Int) t)) >>= _) _ _ s';refine El (ac6 ?_);unfold setAdd;refine ac6 ?_;have hk:(intKind prog w).is (n:Int) (.int (n:Int) t)=true:=by simp [intKind,akq]
   have hh:(intKind prog w).hash (n:Int)=(n:Int):=Tp hn;refine El ((intKind prog w).pyHash hk ?_);rw [hh];refine ajf (s:={ s' with toks:=s'.toks+1 }) hn (λz=>decide_eq_false (last i n ek (by omega))) zS' λh2 bb ep' sb zS2=>?_
   rw [Tq ek] at zS2;refine aau ⟨ahV ady _,ih (i+1) _ (by omega) lt (W.frame _ s' _ _ st' (alK _) λb hb o e=>?_) ⟨ep',zS2⟩ λs'' mv2 z2=>?_⟩
   . rw [sb.2 b (λz:b=Z=>nZ (by rw [<- z]; exact hb))]; exact e
   . refine out s'' (Moved.trans W.gtrans ((mv.mono sub).then_heap (alK _) λb o hb e=>?_) mv2) z2;rw [sb.2 b (λz:b=Z=>hb (by rw [z]; exact abw))]; exact e
theorem Xf (x:aat) {Q₁:aat->aav->Prop} (h:Q₁ (.ref s.heap.objs.size) { s with heap:=s.heap.push (jt (!fK w)) }) :
   codeAny (model prog w) A (.call (.builtin "set.__new__") ⟨[.type "set",x],[]⟩) (wants Q₁ E) s:=by
 refine ajW ?_;have h0:=h;show wpAny _ A.in1 (do checkBuiltinCall "set.__new__" ⟨[.type "set",x],[]⟩; again (.builtin "set.__new__" ⟨[.type "set",x],[]⟩)) _ _ s;refine El (alP (PySem.F.newCall_set_1 x) (aau ⟨ahV anx _,aev PySem.F.entry_set_new ?_⟩));rw [adU anx _];unfold afD.«set.__new__»; unfold Builtin.Frozenset.newClass; have hsub:=PySem.sub_set_self;obtain ⟨h1,g1,d1,k1,o1⟩:=s;dsimp only
 wp_walk
 refine amP (aau (?_)); dsimp only; simp only [newObj];exact El (wpAny_alloc (aau (aau h0)))
theorem adX {l:aaH} {items:Array aat} {ks:List Int} {Q:aat->aav->Prop} (hh:A.handled=none) (hl:s.heap.IsList l items) (hz:items.size=ks.length)
   (Vy:∀ (i:Nat) (v:aat),items[i]?=some v->∃ (n:Nat) (t:Tok),ks[i]?=some (n:Int)/\n∈[1,3,5,9]/\v=.int (n:Int) t) (last:∀ i:Nat,∀ n:Int,ks[i]?=some n->n≠9->(9:Int) ∉ ks.take i)
   (h:∀ (h':afp) (tk:Nat),(∃ ep,iW w h' s.heap.objs.size (Ax ks ks.length) ep)->(∀ b o,s.heap.get? b=some o->h'.get? b=some o)->Q (.ref s.heap.objs.size) { s with heap:=h',toks:=tk }) :
   wpAny (model prog w) A (call (.type "set") [.ref l]) Q E s:=by
 obtain ⟨cm,tm,hmro⟩:=PySem.F.called_set.mro;have made:=PySem.F.called_set.made;have agN:=PySem.F.called_set.sub;refine aiz (ajW ?_);show wpAny _ _ (callAny (.type "set") _) _ _ _;refine aau ⟨aio _ (by decide +kernel),aev amC ?_⟩;rw [aoj (ani "set" [.ref l] []) rfl];have c1:=PySem.F.called_set.notType;have c2:=PySem.F.called_set.canCreate;have c3:=amX (.ref l)
 repeat (any_goals (first | assumption | wp_step))
 generalize hN:s.heap.objs.size=N at h;refine agq (Xf (.ref l) (E:=E) (Q₁:=λob s1=>ob=.ref s.heap.objs.size/\s1={ s with heap:=s.heap.push (jt (!fK w)) }) ⟨rfl,rfl⟩) λr s1 hr=>?_
 cases r with
 | error e=>exact hr
 | ok fl =>
   cases fl with
   | ret ob =>
     obtain ⟨rfl,rfl⟩:=hr;have gS:(s.heap.push (jt (!fK w))).get? s.heap.objs.size=some (jt (!fK w)):=aaL _ rfl;have hT:aok { s with heap:=s.heap.push (jt (!fK w)) } (.ref s.heap.objs.size) "set":=⟨_,gS,rfl⟩;have li:=PySem.F.called_set.init.lookup;have bi:=PySem.F.called_set.init.bind (.ref s.heap.objs.size)
     repeat (any_goals (first | assumption | wp_step))
     refine agq (aga (R:=wants (λr s2=>r=.none/\∃ h' tk,s2={ s with heap:=h',toks:=tk }/\(∃ ep,iW w h' s.heap.objs.size (Ax ks ks.length) ep)/\(∀ b o,s.heap.get? b=some o->h'.get? b=some o)) E)
       PySem.F.called_set.init.plain amY (check_set_init_1 hT ?_)) λr2 s2 hr2=>?_
     . obtain ⟨ol,gl,cl,nl,dl⟩:=hl;obtain ⟨oc,od,oa,os⟩:=ol;simp only at cl dl;subst cl dl;have gl':(s.heap.push (jt (!fK w))).get? l=some { cls:=.type "list",dict:=od,data:=.seq items nl,slots:=os }:=aar _ gl;have t1:=anG;have t2:=al2;have t3:(afE "list" == afE "dict")=false:=by decide
       have lst:(s.heap.push (jt (!fK w))).IsList l items:=⟨_,gl',rfl,nl,rfl⟩;unfold afD.«set.__init__» noKeywords akX;generalize hPI:pyIter=PI
       wp_walk
       subst hPI;refine agI lst ?_;refine (El (wpAny_runValue ?_));have lS:l<s.heap.objs.size:=abh gl;have h3:A.in1.in1.in1.handled=none:=by simp [hh]
       have sz:(s.heap.push (jt (!fK w))).objs.size=s.heap.objs.size+1:=afy ..;have n1:l≠(s.heap.push (jt (!fK w))).objs.size:=by rw [sz]; exact abB (afV lS)
       have n2:s.heap.objs.size ∉ [(s.heap.push (jt (!fK w))).objs.size,l]:=by
         rw [sz];intro z;rcases abu.mp z with z | z
         . exact absurd z (abB (ajk _))
         . exact absurd (abe.mp z) (ajy lS)
       have W:=(anB (prog:=prog) (w:=w) h3 _ l n1 items).toS;rw [hz] at W;refine adW W s.heap.objs.size n2 Vy last (ks.length-0) 0 _ rfl (abH _) ⟨⟨_,aaL _ rfl,rfl,rfl⟩,lst.push _⟩ ?_ λs' mv z=>?_
       . have g2:((s.heap.push (jt (!fK w))).push { cls:=.type "list_iterator",data:=.fields #[.ref l,.int 0 0] }).get? s.heap.objs.size=some (jt (!fK w)):=aar _ gS;exact ⟨0,_,#[],g2,⟨rfl,rfl,rfl⟩,rfl,.nil⟩
       . obtain ⟨h',g',d',tk',os'⟩:=s';obtain rfl:g'=s.gens:=mv.gens;obtain rfl:d'=s.drawn:=mv.drawn;obtain rfl:os'=s.os:=mv.os;show wpAny _ _ _ _ _ _;refine aau ?_;show wpAny _ _ (ret acS) _ _ _;refine aau ⟨rfl,h',tk',rfl,z,λb o e=>?_⟩;have lb:b<s.heap.objs.size:=abh e;refine mv.heap b o (λz=>?_) (aar _ (aar _ e));rcases abu.mp z with z | z
         . exact absurd z (abB lb)
         . exact absurd (abe.mp z) (by rw [sz]; exact abB (afV lb))
     . cases r2 with
       | error e=>exact hr2
       | ok PL =>
         cases PL with
         | ret r =>
           obtain ⟨rfl,h',tk,rfl,zS,kk⟩:=hr2
           repeat (any_goals (first | assumption | wp_step))
           subst hN;exact h _ _ zS kk
         | _=>exact hr2.elim
   | _=>exact hr.elim
end
noncomputable def Kv (h:afp) (it a:aaH) (slot i n ep:Nat):Prop:=h.get? it=some { cls:=.type "set_iterator",data:=.fields #[.int slot 0,.int i 0,.ref a,.int n 0,.int ep 0] }
noncomputable def uG (w:acU) (a:aaH) (ep:Nat) (es:Array (Int × aat)):List (Int × aat):=if fK w then (pickOrder (w.params.setOrder a ep) es).toList else es.toList
section
variable {prog:abt} {w:acU} {A:acX} {E:aat->aav->Prop} {s:aav} {a it:aaH} {p:Nat->Bool} {ep:Nat}
theorem CV {Q:Bool->aav->Prop} (q:Q (fK w) s):wpAny (model prog w) A setsByText Q E s:=El (amP (aau q))
theorem Tt {o:Obj} {es:Array (Int × aat)} {Q:aat->aav->Prop} (ho:s.heap.get? a=some o) (hx:o.ExactSet) (hd:o.data=.set es ep (tabI (!fK w) (oW p))) (hel:oV (yV p) es.toList)
   (q:Q (.ref s.heap.objs.size) { s with heap:=s.heap.push { cls:=.type "set_iterator",data:=.fields #[.int (0:Nat) 0,.int (0:Nat) 0,.ref a,.int es.size 0,.int ep 0] } }):wpAny (model prog w) A (pyIter (.ref a)) Q E s:=by
 have hT:s.TypeIs (.ref a) "set":=⟨o,ho,hx.1⟩;have hf:=lH (led:=!fK w) hel;refine amt hT anz (aea anz hT HJ ?_ (PySem.F.args_set_iter_1 _));unfold afD.«frozenset.__iter__» Builtin.Frozenset.slot0;refine El (El (aau ?_));refine aau ?_;refine El ?_;unfold Builtin.Frozenset.sizeOf;refine El (alV ho hd hf (aau ?_));refine El (El (akF ho hd hf ?_));refine El (CV ?_);show wpAny _ _ (pure (!fK w && (!(true:Bool) && decide (es.size > 1)))) _ _ _;rw [Bool.not_true,afK,afB];refine aau ?_;show wpAny _ _ (pure (rawInt 0) >>= _) _ _ _;refine El (aau ?_);refine El (wpAny_setEpoch_of ho hd hf ?_);exact El (adH (aau ⟨_,rfl,"set_iterator",_,⟨_,aaL _ rfl,rfl⟩,pK.lookup,q⟩))
theorem aaG (p:Nat->Bool):∀ i,i<=(oW p).length->anT (oW p).toArray (if i=0 then 0 else (oW p).getD (i-1) 0+1)=i:=by
 unfold oW;generalize p 1=b1;generalize p 3=b3;generalize p 5=b5;generalize p 9=b9;cases b1 <;> cases b3 <;> cases b5 <;> cases b9 <;> decide +kernel
noncomputable def lJ (w:acU) (p:Nat->Bool) (i:Nat):Nat:=if fK w then 0 else if i=0 then 0 else (oW p).getD (i-1) 0+1
theorem Yx {o:Obj} {es:Array (Int × aat)} {i:Nat} (ho:s.heap.get? a=some o) (hd:o.data=.set es ep (tabI (!fK w) (oW p))) (hel:oV (yV p) es.toList) (hi:i<=es.size)
   (R:Option (aat × Nat)->aav->Prop) (r:R (((uG w a ep es)[i]?).map λv=>(v.2,lJ w p (i+1))) s):wpAny (model prog w) A (setNext a (lJ w p i) i ep) R E s:=by
 have hf:=lH (led:=!fK w) hel;have len:(oW p).length=es.size:=by rw [(uF p).1,<- abC]; exact ago hel
 unfold setNext;refine El (akF ho hd hf ?_);refine El (CV ?_);unfold uG lJ at r;unfold lJ;cases hb:fK w with
 | true =>
   rw [hb,if_pos rfl] at r;rw [if_pos rfl];show wpAny _ _ (if (ep != ep)=true then _ else _) _ _ _;rw [if_neg (by simp)];refine El ?_;unfold setWalk;refine El (akF ho hd hf ?_);refine El (CV ?_);rw [hb,if_pos rfl];refine El (amP (aau (aau ?_)));have z:R (Option.map (λv=>(v.snd,0)) (pickOrder (w.params.setOrder a ep) es)[i]?) s:=by simpa using r
   exact z
 | false =>
   simp only [hb,adi,if_false] at r;rw [if_neg aaK];show wpAny _ _ (if (!(true:Bool) && decide (es.size > 1))=true then _ else _) _ _ _;rw [if_neg (by simp)];refine El ?_;show wpAny _ _ (if (!(true:Bool) && !es.isEmpty)=true then _ else _) _ _ _;rw [if_neg (by simp)];refine aau (aau ?_);show R (match es[anT (oW p).toArray (if i=0 then 0 else (oW p).getD (i-1) 0+1)]?,(oW p).toArray[anT (oW p).toArray (if i=0 then 0 else (oW p).getD (i-1) 0+1)]? with | some (_,x),some j=>some (x,j+1) | _,_=>none) s;rw [aaG p i (by omega)];by_cases lt:i<es.size
   . have e1:es[i]?=some es[i]:=ajd lt;have e2:(oW p).toArray[i]?=some ((oW p)[i]'(by omega)):=by rw [List.getElem?_toArray]; exact aaj _
     rw [e1,e2];rw [af4,e1] at r;have e3:(oW p).getD (i+1-1) 0=(oW p)[i]'(by omega):=by simp [ahK,aaj (show i<(oW p).length by omega)]
     simp only [adi,if_false,Nat.add_one_ne_zero,e3,ahG] at r;exact r
   . have e1:es[i]?=none:=akl (by omega);rw [e1];rw [af4,e1] at r;exact r
theorem Tv {o:Obj} {es:Array (Int × aat)} {i:Nat} {v:Int × aat} {Q:Option aat->aav->Prop} (ho:s.heap.get? a=some o) (hd:o.data=.set es ep (tabI (!fK w) (oW p))) (hel:oV (yV p) es.toList) (hi:i<es.size)
   (K:Kv s.heap it a (lJ w p i) i es.size ep) (hv:(uG w a ep es)[i]?=some v) (q:∀ h',Kv h' it a (lJ w p (i+1)) (i+1) es.size ep->ag6 it s.heap h'->Q (some v.2) { s with heap:=h' }):wpAny (model prog w) A (pyNext (.ref it)) Q E s:=by
 have hT:s.TypeIs (.ref it) "set_iterator":=⟨_,K,rfl⟩;have hf:=lH (led:=!fK w) hel;unfold pyNext;refine El (aiB (afw (name:=afR "__next__") hT pK (aea pK hT Ah ?_ (Ai _))));unfold afD.«set_iterator.__next__»;refine El (aau ?_);refine El (amj K rfl ?_);show wpAny _ _ (setEntries a >>= _) _ _ _;refine El (alV ho hd hf ?_);rw [if_neg (by simp)];show wpAny _ _ (setNext a (lJ w p i:Int).toNat (i:Int).toNat (ep:Int).toNat >>= _) _ _ _;rw [afI,afI,afI];refine El (Yx ho hd hel (af3 hi) _ ?_);rw [hv];dsimp only [ahG];refine El (ahl K rfl (by simp) ?_);have K1:=adP (akZ (·.setIfInBounds 0 (rawInt (lJ w p (i+1):Int)))) K rfl;refine El (ahl K1 rfl (by simp [akZ]) ?_);have K2:=adP (akZ (·.setIfInBounds 1 (rawInt ((i:Int)+1)))) K1 rfl;exact aau ⟨_,rfl,aau (q _ K2 ((afW ..).trans (afW ..)))⟩
theorem Xg {o:Obj} {es:Array (Int × aat)} {Q:Option aat->aav->Prop} (hh:A.handled=none) (ho:s.heap.get? a=some o) (hd:o.data=.set es ep (tabI (!fK w) (oW p))) (hel:oV (yV p) es.toList)
   (K:Kv s.heap it a (lJ w p es.size) es.size es.size ep) (hv:(uG w a ep es)[es.size]?=none) (q:∀ h',Heap.ExtBut it s.heap h'->Q none { s with heap:=h' }):wpAny (model prog w) A (pyNext (.ref it)) Q E s:=by
 have hT:s.TypeIs (.ref it) "set_iterator":=⟨_,K,rfl⟩;have hf:=lH (led:=!fK w) hel;unfold pyNext;refine El (aiB (afw (name:=afR "__next__") hT pK (aea pK hT Ah ?_ (Ai _))));unfold afD.«set_iterator.__next__»;refine El (aau ?_);refine El (amj K rfl ?_);show wpAny _ _ (setEntries a >>= _) _ _ _;refine El (alV ho hd hf ?_);rw [if_neg (by simp)];show wpAny _ _ (setNext a (lJ w p es.size:Int).toNat (es.size:Int).toNat (ep:Int).toNat >>= _) _ _ _;rw [afI,afI,afI];refine El (Yx ho hd hel (aaw _) _ ?_);rw [hv];dsimp only [Option.map_none];refine El (ahl K rfl (by simp) ?_);show wpAny _ _ (newExc (.type "StopIteration") [] >>= _) _ _ _;refine El ?_;simp only [newExc,newTuple];refine El (adH ?_ (by size_fits));refine El (m:=firstArgMember _ _) (alP (a:=acS) (by first | rfl | (simp only [firstArgMember]; rfl)) (adH ?_ (by size_fits)));simp only [raiseNew];refine El (wpAny_handled ?_);rw [show A.in1.handled=none from hh];refine (El (aau (wpAny_throw ?_)));refine (El (ag5 (T:="StopIteration") (b:=true) ⟨_,aaL _ rfl,rfl⟩ isSubtype_stop ?_));exact aau (q _ (((afW ..).extBut.push _).push _))
end
theorem qj {w:acU} {a:aaH} {ep:Nat} {es:Array (Int × aat)}:(uG w a ep es).Perm es.toList:=by
 unfold uG;split
 . exact (J7 _ es.size 0 es.toList #[] (by simp)).trans (by simp)
 . exact .refl _
noncomputable def Yy (w:acU) (a:aaH) (p:Nat->Bool) (o:Obj) (es:Array (Int × aat)) (ep:Nat) (h:afp):Prop:=h.get? a=some o/\o.ExactSet/\o.data=.set es ep (tabI (!fK w) (oW p))/\oV (yV p) es.toList
theorem ajg {prog:abt} {w:acU} {a:aaH} {p:Nat->Bool} {o:Obj} {es:Array (Int × aat)} {ep:Nat}:KdlSrc prog w "set" a a es.size (λi v=>∃ e,(uG w a ep es)[i]?=some e/\v=e.2) (Yy w a p o es ep) where
 type:=λ_ R=>⟨o,R.1,R.2.1.1⟩
 there:=λ_ R=>⟨abh R.1,abh R.1⟩
 keep:=λ_ _ R hk=>⟨hk a (.inl rfl) o R.1,R.2⟩
 notList:=by decide
 notTuple:=by decide
 hint:=λ_ _ _ _ R q=>Rx ⟨o,R.1,R.2.1.1⟩ q
 iter:=λA s hh R=>by
   have ne:a≠s.heap.objs.size:=abB (abh R.1);have len:(uG w a ep es).length=es.size:=by rw [qj.length_eq,abC]
   refine ⟨_,λi h=>Kv h s.heap.objs.size a (lJ w p i) i es.size ep/\Yy w a p o es ep h,(λ_ _ q=>Tt R.1 R.2.1 R.2.2.1 R.2.2.2 q),⟨λb hb=>by simp at hb; simp [hb],λi h h' st hk=>?_,λi s' Q E hi st q=>?_,λs' Q E st q=>?_,λi s' Q E st q=>?_⟩,⟨?_,aar _ R.1,R.2⟩⟩
   . exact ⟨hk _ (by simp) _ st.1,hk a (by simp) _ st.2.1,st.2.2⟩
   . have e:(uG w a ep es)[i]?=some ((uG w a ep es)[i]'(by omega)):=aaj _;refine Tv st.2.1 st.2.2.2.1 st.2.2.2.2 hi st.1 e λh' K' sb=>q _ h' s'.toks ⟨_,e,rfl⟩ ⟨K',(sb.2 a ne).trans st.2.1,st.2.2⟩ λb o' hb e'=>(sb.2 b (by simpa using hb)).trans e'
   . exact Xg hh st.2.1 st.2.2.2.1 st.2.2.2.2 st.1 (ag7 (by omega)) λh' eb=>q h' s'.toks λb o' hb e'=>eb b o' (by simpa using hb) e'
   . have hT:s'.TypeIs (.ref s.heap.objs.size) "set_iterator":=⟨_,st.1,rfl⟩;refine amt hT J6 (aea J6 hT MP ?_ (M4 _));show wpAny _ _ (ret (.ref s.heap.objs.size)) _ _ s';exact aau ⟨_,rfl,"set_iterator",_,hT,pK.lookup,q⟩
   . have e:lJ w p 0=0:=by unfold lJ; split <;> rfl
     rw [e];exact aaL _ rfl
noncomputable def Bf (w:acU) (a:aaH) (p:Nat->Bool):HO:=.ext λh=>∃ ep,iW w h a p ep
section
variable {X:Cx}
theorem NK {w0:acU} (hw:X.w=w0) (hc:X.calm=true):dU X (.type "set") (λxs H Q=>∃ (l:aaH) (ks:List Int),xs=[.ref l]/\cG X.K H l (ks.map V.int)/\(∀ k∈ks,k=1\/k=3\/k=5\/k=9)/\(∀ i:Nat,∀ n:Int,ks[i]?=some n->n≠9->(9:Int) ∉ ks.take i)/\∀ a,H a=none->Q (.ref a) (upd H a (Bf w0 a (Ax ks ks.length)))):=by
 subst hw;intro pins s σ H xs us Q I r h;obtain ⟨l,ks,rfl,hl,hk,last,q⟩:=h;obtain ⟨u,rfl,ru⟩:=vals1 r;cases ru;obtain ⟨its,rv,pl,hz⟩:=I.list hl;have len:=rv.length;rw [aac] at len;refine adX (ks:=ks) (I.ok.hd hc) pl.isList (by simpa using len.symm) (λi v e=>?_) last λh' tk zS kk=>?_
 . have lt:i<ks.length:=by
     have:=(afS.mp e).1;simp at this;omega
   obtain ⟨u,hu,t,ru⟩:=rv.get (i:=i) (x:=V.int ks[i]) (by rw [aaJ,aaj lt]; rfl)
   have ev:v=u:=by
     have e':its[i]?=some v:=by simpa using e
     rw [hu] at e';exact (abx e').symm
   subst ev;have e2:ks[i]?=some ks[i]:=aaj lt;rcases hk ks[i] (ah5 lt) with z | z | z | z
   . exact ⟨1,t,by rw [e2,z]; rfl,by decide,by rw [ru,z]; rfl⟩
   . exact ⟨3,t,by rw [e2,z]; rfl,by decide,by rw [ru,z]; rfl⟩
   . exact ⟨5,t,by rw [e2,z]; rfl,by decide,by rw [ru,z]; rfl⟩
   . exact ⟨9,t,by rw [e2,z]; rfl,by decide,by rw [ru,z]; rfl⟩
 . refine ⟨.ref s.heap.objs.size,_,I.laid (t':=tk) (o:=Bf X.w s.heap.objs.size (Ax ks ks.length)) kk (aaw _) ⟨zS,?_,λh1 h2 z k=>?_⟩,rfl,q _ (I.hok.fresh (aaw _))⟩
   . obtain ⟨_,o,_,e,_⟩:=zS;exact ⟨o,e⟩
   . obtain ⟨ep,o,es,e,rest⟩:=z;exact ⟨ep,o,es,k o e,rest⟩
theorem CW {w0:acU} (hw:X.w=w0) (hc:X.calm=true):dU X (.builtin "sorted") (λxs H Q=>∃ (a:aaH) (p:Nat->Bool),xs=[.ref a]/\H a=some (Bf w0 a p)/\∀ l,H l=none->Q (.ref l) (upd H l (.lst ((Gf p).map λn:Nat=>V.int (n:Int))))):=by
 subst hw;intro pins s σ H xs us Q I r h;obtain ⟨a,p,rfl,ha,q⟩:=h;obtain ⟨u,rfl,ru⟩:=vals1 r;cases ru;obtain ⟨⟨ep,o,es,ho,hx,hd,hel⟩,_⟩:=(show bT X.prog X.w H s.heap a (Bf X.w a p) from I.hok a _ ha);have len:(yV p).length=es.size:=by rw [<- abC]; exact ago hel
 have l3:=(uF p).2;have lo:(uG X.w a ep es).length=es.size:=by rw [qj.length_eq,abC]
 have jH:sizeLine=16777216:=aby
 have nums:∀ {ns:List Nat} {l:List (Int × aat)},oV ns l->l.map (·.1)=ns.map (λn:Nat=>(n:Int))/\∀ e∈l,∃ t,e.2=abW e.1 t:=by
   intro ns l hl
   induction hl with
   | nil=>exact ⟨rfl,λe he=>by cases he⟩
   | cons h _ ih =>
     obtain ⟨t,rfl⟩:=h;refine ⟨by simp [ih.1],λe he=>?_⟩;rcases abu.mp he with rfl | he
     . exact ⟨t,rfl⟩
     . exact ih.2 e he
 obtain ⟨n1,n2⟩:=nums hel;refine xX (ns:=(uG X.w a ep es).map (·.1)) (by rw [aac]; omega) (λR hR=>ajm (A:=X.A.in1) (ajg (p:=p) (o:=o) (es:=es) (ep:=ep)) (by simpa using I.ok.hd hc) ⟨ho,hx,hd,hel⟩ (by omega) λh' tk acc kk hacc=>?_) λh1 h' tk out ns' n k1 k2 ho' hS hp2 hs=>?_
 . have al:acc.toList.length=((uG X.w a ep es).map (·.1)).length:=by rw [abC,aac]; exact hacc.1.trans lo.symm
   refine hR h' tk acc.toList kk (Cr al λi v e=>?_) al;obtain ⟨e',he',rfl⟩:=hacc.2 i v (by simpa using e);obtain ⟨t,et⟩:=n2 e' (qj.mem_iff.mp (abq he'));exact ⟨e'.1,t,by rw [aaJ,he']; rfl,et⟩
 . have I1:Inv X pins σ H { s with heap:=h1,toks:=tk }:=I.kept k1
   have ens:ns'=(Gf p).map (λn:Nat=>(n:Int)):=by
     have pp:((yV p).map λn:Nat=>(n:Int)).Perm ((Gf p).map λn:Nat=>(n:Int)):=by
       refine aon _ ?_;unfold yV Gf;cases p 1 <;> cases p 3 <;> cases p 5 <;> cases p 9 <;> decide
     refine M6 ((hp2.trans ((qj.map _).trans (by rw [n1]))).trans pp) hs ?_;unfold Gf;generalize p 1=b1;generalize p 3=b3;generalize p 5=b5;generalize p 9=b9;cases b1 <;> cases b3 <;> cases b5 <;> cases b9 <;> decide
   have ls:(Gf p).length<=4:=by
     unfold Gf;cases p 1 <;> cases p 3 <;> cases p 5 <;> cases p 9 <;> decide
   refine ⟨.ref h1.objs.size,_,I1.laid (t':=tk) (o:=.lst (ns'.map V.int)) k2 (aaw _) ⟨by rw [aac,ens,aac]; omega,out,n,J5 hS,ho'⟩,rfl,?_⟩;have:=q _ (I1.hok.fresh (aaw _));rw [ens,afn];exact this
end
end L2.S9
namespace Eb
open PySem L2 GF
variable {P:abt} {w:acU} {K:aaf} {mg:Str->Option aat} {base:afp} {t8 t6 tR tL t9:Tok} {C NW:aaH} {c:Nat->aaH}
theorem Tw (p:Nat->Bool):((S9.Gf p).map (λn:Nat=>(n:Int))).Pairwise (·<·):=by
 unfold S9.Gf;generalize p 1=b1;generalize p 3=b3;generalize p 5=b5;generalize p 9=b9;cases b1 <;> cases b3 <;> cases b5 <;> cases b9 <;> decide
theorem Xh {ks:List Int} (h:∀ k∈ks,k=1\/k=3\/k=5\/k=9) (n:Int):n∈(S9.Gf (S9.Ax ks ks.length)).map (λn:Nat=>(n:Int))↔n∈ks:=by
 have key:∀ m:Nat,m∈S9.Gf (S9.Ax ks ks.length)↔m∈[1,3,5,9]/\(m:Int)∈ks:=λm=>by
   have e:∀ k:Nat,S9.Ax ks ks.length k=decide ((k:Int)∈ks):=λk=>by unfold S9.Ax; rw [acL]
   unfold S9.Gf;rw [e,e,e,e];simp only [abv,abu,ajl,or_false];constructor
   . rintro (z | z | z | z) <;> (split at z <;> simp at z) <;> (subst z; rename_i y; exact ⟨by simp,of_decide_eq_true y⟩)
   . rintro ⟨rfl | rfl | rfl | rfl,z⟩
     . left; rw [if_pos (decide_eq_true z)]; simp
     . right; left; rw [if_pos (decide_eq_true z)]; simp
     . right; right; left; rw [if_pos (decide_eq_true z)]; simp
     . right; right; right; rw [if_pos (decide_eq_true z)]; simp
 constructor
 . intro z;obtain ⟨m,hm,rfl⟩:=abj.mp z;exact ((key m).mp hm).2
 . intro z;rcases h n z with rfl | rfl | rfl | rfl
   . exact abj.mpr ⟨1,(key 1).mpr ⟨by decide,z⟩,rfl⟩
   . exact abj.mpr ⟨3,(key 3).mpr ⟨by decide,z⟩,rfl⟩
   . exact abj.mpr ⟨5,(key 5).mpr ⟨by decide,z⟩,rfl⟩
   . exact abj.mpr ⟨9,(key 9).mpr ⟨by decide,z⟩,rfl⟩
theorem Xi (p:Nat->Bool):(S9.Gf p).length<=4:=by
 unfold S9.Gf;cases p 1 <;> cases p 3 <;> cases p 5 <;> cases p 9 <;> decide
noncomputable def yH (kt:List aQ):Prop:=∃ A B,kt=A++B/\(∀ p∈A,p.2.2.1=1\/p.2.2.1=3\/p.2.2.1=5)/\∀ p∈B,p.2.2.1=9
theorem yH.ks {kt:List aQ} (h:yH kt) (f:aQ->Bool):(∀ k∈(kt.filter f).map (λp=>p.2.2.1),k=1\/k=3\/k=5\/k=9)/\∀ i:Nat,∀ n:Int,((kt.filter f).map (λp=>p.2.2.1))[i]?=some n->n≠9->(9:Int) ∉ ((kt.filter f).map (λp=>p.2.2.1)).take i:=by
 obtain ⟨A,B,rfl,hA,hB⟩:=h;rw [ahb,abp]
 have a9:∀ k∈(A.filter f).map (λp=>p.2.2.1),k=1\/k=3\/k=5:=λk hk=>by
   obtain ⟨p,hp,rfl⟩:=abj.mp hk;exact hA p (aej.mp hp).1
 have b9:∀ k∈(B.filter f).map (λp=>p.2.2.1),k=9:=λk hk=>by
   obtain ⟨p,hp,rfl⟩:=abj.mp hk;exact hB p (aej.mp hp).1
 generalize (A.filter f).map (λp=>p.2.2.1)=a at a9;generalize (B.filter f).map (λp=>p.2.2.1)=b at b9;refine ⟨λk hk=>?_,λi n e ne z=>?_⟩
 . rcases abv.mp hk with y | y
   . rcases a9 k y with y | y | y <;> simp [y]
   . rw [b9 k y]; simp
 . rcases aoV i a.length with y | y
   . rw [List.take_append_of_le_length (af3 y)] at z;rcases a9 9 (afP z) with q | q | q <;> omega
   . rw [agY y] at e;exact ne (b9 n (abq e))
noncomputable def oX:Sp:=λvs H Q _=>∃ (x:V) (ar ll:aaH) (hs:List aL) (kt:List aQ) (ls:List Letter) (vl:List V),vs=[x,.ref ar,.ref ll]/\jy H x hs/\hs.length<=6/\iu H ar kt/\kt.length<=60/\(kt.map (·.1)).Nodup/\yH kt/\H ll=some (.lst vl)/\abG (aR H) vl ls/\ls.length<=60/\(ls.map ab5).Nodup /\
 ∀ (v:V) (hs':List aL) (ls':List Letter) (H':Hp),dY H' v hs' ls'->abG (ur kt) hs hs'->mV kt ls ls'->Same H H'->Q v H'
theorem CZ {f:aaH} {fd:abL} (F:dO K "_law_ledger_of" "_law_ledger_of" fO f fd) (T:Txt mg t8 t6 tR tL):aV P w K mg base dF 1 f fd ["_law_clocks","_law_rows","_law_letters_here"] oX:=by
 refine F.ok eE (λvs H Q E h=>?_) (λcdv A outer s H vs Q E hr h=>?_)
 . obtain ⟨x,ar,ll,hs,kt,ls,vl,rfl,_⟩:=h;rfl
 . obtain ⟨x,ar,ll,hs,kt,ls,vl,rfl,⟨c,vh,rfl,ec,pc⟩,aip,⟨kvs,ea,pk⟩,adu,nd,ajh,eL,pL,aiq,nl,q⟩:=h;have jH:sizeLine=16777216:=aby;have lc:=pc.length;have lk:=pk.length;refine ⟨_,(aq (pZ 3 eE (cR ao)) (aq (dG acK rfl (iy (pV 0)) (pY 4 eE) (aq (wK (i:=5) eE.nd rfl rfl (gP:=aJ fO) (own:=["_law_name"]) (cap:=["_law_clock","_law_rows"]) (ix:=[4,1]) rfl rfl iR (V3 (pV 1)) (λb=>(bD (i:=0) (show (["_law_name","_law_clock","_law_rows"]:List Str).Nodup by decide +kernel) rfl (afO rfl))) (λb=>(vD (mO wA (pX dM (eN (cU hr) (pV 2) (pV 0) (λ_ _=>rfl)) aD) (pX dM (pV 1) aD) (bA _)))) (λb=>(bx rQ (eN (cU hr) (pV 2) (pV 0) (λ_ _=>rfl)) (bH (aj (pV 0) ao))))) (aq (J4 (pZ 6 eE (cR ao))) (aq (dG acK rfl (cX (aM (S9.CW (w0:=w) rfl rfl) rfl T.sorted adt (aj (bJ (S9.NK (w0:=w) rfl rfl) rfl T.set anp (aj (cD (gP:=aJ fO) (own:=["_law_place"]) (cap:=[]) (ix:=[]) rfl rfl iR (cX (pV 5)) (λb=>(bD (i:=0) (show (["_law_place"]:List Str).Nodup by decide +kernel) rfl (afO rfl))) (λb=>cN) (λb=>(pX dM (pV 0) aD))) ao)) ao))) (pY 7 eE) (aq (pZ 8 eE (aM (qK (K1:=kdI) (K2:=kdS)) rfl T.sorted adt (aj (cD (gP:=aJ fO) (own:=["_law_place"]) (cap:=["_law_number"]) (ix:=[7]) rfl rfl iR (cX (pV 5)) (λb=>(bD (i:=0) (show (["_law_place","_law_number"]:List Str).Nodup by decide +kernel) rfl (afO rfl))) (λb=>(vD (mO wA (pX dM (pV 0) aD) (pV 1) (bA _)))) (λb=>(dW VH (pV 0) (FZ aD) iH))) ao))) (aG (cW (nu adq adC adD eX (pV 6) (aj (bJ bM rfl T.tuple acn (aj (cD (gP:=aJ fO) (own:=["_law_reading","_law_name"]) (cap:=[]) (ix:=[]) rfl rfl iR (cX (pV 8)) (λb=>(fU rfl (aP (bD (i:=0) (show (["_law_reading","_law_name"]:List Str).Nodup by decide +kernel) rfl (afO rfl)) (aP (bD (i:=1) (show (["_law_reading","_law_name"]:List Str).Nodup by decide +kernel) rfl (afO rfl)) dR)))) (λb=>cN) (λb=>(bH (aj (pV 1) (aj (pV 0) ao))))) ao)) ao)))))) (aG (cW (nu adq adC adD eX (pV 3) (aj (bx rQ (pV 4) (bH (aj (bJ bM rfl T.tuple acn (aj (pV 6) ao)) ao))) ao)))))))) (aq (pZ 9 eE (bJ (Ep rfl hr.units) rfl T.dict akn (aj (cD (gP:=aJ fO) (own:=["_law_letter"]) (cap:=["_law_rows"]) (ix:=[1]) rfl rfl iR (cX (pV 2)) (λb=>(bD (i:=0) (show (["_law_letter","_law_rows"]:List Str).Nodup by decide +kernel) rfl (afO rfl))) (λb=>(vD (uP (lO (jr (cU hr) (pX dM (pV 0) aD) (pV 1))) (pw_and1 (lO (jr (cU hr) (pX dM (pV 0) aD) (pV 1))))))) (λb=>(bH (aj (dW VH (pV 0) iH (FZ aD)) (aj (pV 0) ao))))) ao))) (aG (bf (bH (aj (bJ bM rfl T.tuple acn (aj (pV 3) ao)) (aj (bJ bM rfl T.tuple acn (aj (cD (gP:=aJ fO) (own:=["_law_pair"]) (cap:=["_law_told"]) (ix:=[9]) rfl rfl iR (cX (aM (lZ rfl) rfl T.sorted adt (aj (pV 9) ao))) (λb=>(bD (i:=0) (show (["_law_pair","_law_told"]:List Str).Nodup by decide +kernel) rfl (afO rfl))) (λb=>cN) (λb=>(eN (cU hr) (pV 1) (pV 0) (λ_ _=>rfl)))) ao)) ao)))))))),?_⟩;refine ⟨abH _,λF fF=>?_⟩;refine gE fF λH1 s1 eF=>?_
   refine ⟨c,rfl,⟨_,bQ.of (s1 _ _ ec)⟩,rM (xs:=vh) (λi σ H'=>∃ (ws:List V) (hs':List aL) (o4 o5 o6 o7 o8 o9:Option V),σ=[some (.ref c),some (.ref ar),some (.ref ll),some (.ref F),o4,o5,o6,o7,o8,o9]/\H' F=some (.lst ws)/\ws.length<=i/\abG (gq H') ws hs'/\abG (ur kt) (hs.take i) hs'/\Same H H') ⟨[],[],none,none,none,none,none,none,rfl,eF,abH _,.nil,.nil,s1⟩ (λi σ H' _ hz=>by obtain ⟨_,_,_,_,_,_,_,_,_,_,_,_,_,s⟩:=hz; exact bQ.of (s _ _ ec)) (λi v σ H2 hv hz=>?_) (fun σ H2 hz=>?_)⟩
   . refine bK λjm bw=>?_
     obtain ⟨ws,hs',o4,o5,o6,o7,o8,o9,ez1,eF2,lw,pw,pf,s2⟩:=hz;subst bw;subst ez1;refine bK λjm bw=>?_
     obtain ⟨hh,hhi,a1,ez2,e1⟩:=bh pc hv;subst bw;subst ez2;have Wk:=s2 _ _ e1
     refine ⟨ar,kvs,rfl,.inl (s2 _ _ ea),λo H3 e3 sf oth=>?_⟩;have nar:∀ b u,H2 b=some u->(∀ k,u≠.dK k)->b≠ar:=λb u e n z=>by rw [z,s2 _ _ ea] at e; exact n _ (abx e).symm
     have t23:bV H2 H3:=λb xs e=>by rw [oth b (nar b _ e (λ_ z=>by cases z))]; exact e
     have Xj:=t23 _ _ Wk;have pk3:abG (jz H3) kvs kt:=aA (λ_ _ y=>jz.ts y (s2.tups.trans t23)) pk;refine λD1 fD1=>Ng (R':=OAt) (F:=λp p'=>p'=p) (keep:=λp=>decide (p.2.1=hh.name)) (λs r=>r.ts s.tups) (λe r=>r.ts (dN e)) fD1 e3 (by omega) pk3 (λj kv p H4 hj rk s4 b N Q1 n1 q1=>?_) (λvo ko H4 s4 Ww pvo pfo=>?_)
     . obtain ⟨hk1,_⟩:=rk;have hk1':kV kv.1=V.str p.1:=by rw [show kv.1=acW p.1 from hk1]; rfl
       rw [hk1'];obtain ⟨b2,v2,g2⟩:=(kJ (n:=p.1) pk3).2 p.2 (RZ nd (abq hj));have g4:=s4 _ _ g2;have dg:∀ H5,Same H4 H5->eY H5 ar (.str p.1) (some (.ref b2)):=λH5 s5=>.inl ⟨kvs,acW p.1,.inr ⟨o,(s4.trans s5) _ _ e3⟩,rfl,v2.symm⟩
       refine ⟨ar,.ref b2,rfl,dg _ (Same.refl _),?_⟩;refine cg (bQ.of g4) (i:=0) (v:=.str p.2.1) (by rfl) ?_;refine cg (bQ.of (s4 _ _ Xj)) (i:=0) (v:=.str hh.name) (by rfl) ?_;refine ⟨rfl,?_⟩;refine eZ (λz=>?_) (λz=>?_)
       . have zz:p.2.1=hh.name:=V.str.inj (of_decide_eq_true z);refine ⟨ar,.ref b2,rfl,dg _ (Same.refl _),?_⟩;refine ⟨by show 1<=sizeLine; omega,λp5 Uv=>?_⟩;refine gE Uv λH5 s5 e5=>?_
         refine ⟨b2,p5,_,_,rfl,rfl,bQ.of (s5 _ _ g4),bQ.of e5,by simp,by show 3+1<=sizeLine; omega,λz=>(by cases z),λ_ p6 hp6=>?_⟩;exact q1 (decide_eq_true zz) _ _ p (s5.trans ((Same.refl H5).upd hp6)) ⟨p6,rfl,au⟩ rfl
       . exact n1 (decide_eq_false λy=>z (by rw [y]; simp)) _ (Same.refl _)
     . have ek:=lq pfo;subst ek;have lvo:=pvo.length;have fko:=af5 (λp:aQ=>decide (p.2.1=hh.name)) kt
       refine ⟨_,⟨ar,o,.dK kvs,s4 _ _ e3,aeR,Yq ea,rfl⟩,?_⟩;have s5:Same H2 (upd H4 ar (.dK kvs)):=uo (s2 _ _ ea) oth λb u _ e=>s4 _ _ e
       have nDa:D1≠ar:=λz=>by rw [z,s4 _ _ e3] at Ww; cases Ww
       have e5:upd H4 ar (.dK kvs) D1=some (.lst vo):=by rw [aB nDa]; exact Ww
       have t45:bV H4 (upd H4 ar (.dK kvs)):=λb xs e=>by rw [aB λz=>by rw [z,s4 _ _ e3] at e; cases e]; exact e
       have adY:=aA (λ_ _ y=>OAt.ts y t45) pvo;generalize hH5:upd H4 ar (.dK kvs)=H5 at s5 e5 adY |-;clear hH5;refine ⟨abH _,λR fR=>?_⟩;refine gE fR λH6 s6 e6=>?_
       have e56:=s6 _ _ e5;have adZ:=aA (λ_ _ y=>OAt.ts y s6.tups) adY;have fR2:H2 R=none:=s5.free fR;have fR0:H R=none:=s2.free fR2
       refine ⟨D1,rfl,⟨_,cG.of e56⟩,λD2 fD2=>fP (R':=λ_ (v:V) (n:Int)=>v=V.int n) (F:=λ(p:aQ) n=>n=p.2.2.1) (keep:=λ_=>true) (λ_ r=>r) (λ_ r=>r) fD2 e56 (by omega) adZ (λj y p H7 hj ry s7 b N Q1 _ q1=>?_) (λvn ns H7 s7 Ux pvn pfn=>?_)⟩
       . obtain ⟨bb,rfl,eb⟩:=ry;refine cg (bQ.of (s7 _ _ eb)) (i:=1) (v:=.int p.2.2.1) (by rfl) ?_;exact q1 rfl _ _ _ (Same.refl _) rfl rfl
       . rw [afY.mpr (λ_ _=>rfl)] at pfn;have en:=Ao pfn;have ev:=paired_ints pvn;subst ev
         have ns9:(∀ k∈ns,k=1\/k=3\/k=5\/k=9)/\∀ i:Nat,∀ n:Int,ns[i]?=some n->n≠9->(9:Int) ∉ ns.take i:=by
           rw [en];exact ajh.ks _
         refine ⟨D2,ns,rfl,cG.of Ux,ns9.1,ns9.2,λS fS=>?_⟩;have s8:Same H7 (upd H7 S (S9.Bf w S (S9.Ax ns ns.length))):=(Same.refl H7).upd fS;have e8:upd H7 S (S9.Bf w S (S9.Ax ns ns.length)) S=some (S9.Bf w S (S9.Ax ns ns.length)):=au;refine ⟨S,_,rfl,e8,λl9 fl9=>?_⟩;generalize hH8:upd H7 S (S9.Bf w S (S9.Ax ns ns.length))=H8 at s8 e8 fl9 |-;clear hH8;refine gE fl9 λH9 s9 e9=>?_
         have S69:=(s7.trans s8).trans s9;have S29:=(s5.trans s6).trans S69;obtain ⟨ms,hms⟩:∃ ms:List Int,ms=(S9.Gf (S9.Ax ns ns.length)).map (λn:Nat=>(n:Int)):=⟨_,rfl⟩;have ems:((S9.Gf (S9.Ax ns ns.length)).map λn:Nat=>V.int (n:Int))=ms.map V.int:=by rw [hms,afn]; rfl
         rw [ems] at e9;have lms:ms.length<=4:=by rw [hms,aac]; exact Xi _
         have nlR:l9≠R:=λz=>by rw [z,(s7.trans s8) _ _ e6] at fl9; cases fl9
         have nDR:D1≠R:=λz=>by rw [<- z,e5] at fR; cases fR
         have nR9:∀ {b u},H b=some u->b≠R:=λe z=>by rw [z,fR0] at e; cases e
         refine ⟨l9,rfl,⟨_,cG.of e9⟩,fW (xs:=ms.map V.int) (λj σ H'=>∃ (vr:List V) (rr:List (List Row)) (o7 o8:Option V),σ=[some (.ref c),some (.ref ar),some (.ref ll),some (.ref F),some (.ref a1),some (.ref D1),some (.ref R),o7,o8,o9]/\H' R=some (.lst vr)/\vr.length<=j/\abG (nQ H') vr rr/\abG (yg hh.name kt) (ms.take j) rr/\∀ b u,b≠R->H9 b=some u->H' b=some u) ⟨[],[],_,_,rfl,S69 _ _ e6,abH _,.nil,.nil,λ_ _ _ e=>e⟩ (λj σ H' _ hz=>?_) (λj y σ Yd hy hz=>?_) (fun σ Yd hz=>?_)⟩
         . refine bK λjm bw=>?_
           obtain ⟨_,_,_,_,_,_,_,_,_,sm⟩:=hz;subst bw;exact cG.of (sm _ _ nlR e9)
         . refine bK λjm bw=>?_
           obtain ⟨vr,rr,o7',o8',ez3,eR,lvr,prr,prf,sm⟩:=hz;subst bw;subst ez3
           obtain ⟨m,hm,rfl⟩:∃ m,ms[j]?=some m/\V.int m=y:=by
             rw [aaJ] at hy;exact afo.mp hy
           have lj:j<ms.length:=(abE.mp hm).1;have tR:bV H9 Yd:=λb xs e=>sm _ _ (λz=>by rw [z,S69 _ _ e6] at e; cases e) e
           have ad0:Yd D1=some (.lst vo):=sm _ _ nDR (S69 _ _ e56);have ad1:=aA (λ_ _ y=>OAt.ts y (S69.tups.trans tR)) adZ;refine ⟨D1,rfl,⟨_,cG.of ad0⟩,λD3 fD3=>fP (R':=RX) (F:=λp p'=>p'=p) (keep:=λp=>decide (p.2.2.1=m)) (λs r=>r.ts s.tups) (λe r=>r.ts (dN e)) fD3 ad0 (by omega) ad1 (λj' y p NP hj' ry Xk b N Q1 n1 q1=>?_) (λvn3 kN NP Xk eD3 pv3 pf3=>?_)⟩
           . obtain ⟨bb,rfl,eb⟩:=ry;have ad2:=Xk _ _ eb;refine cg (bQ.of ad2) (i:=1) (v:=.int p.2.2.1) (by rfl) ?_;refine ⟨rfl,?_⟩;refine eZ (λz=>?_) (λz=>?_)
             . have zz:p.2.2.1=m:=V.int.inj (of_decide_eq_true z);refine ⟨⟨bb,_,rfl,ad2,λp5 H' e' s'=>?_⟩⟩;exact q1 (decide_eq_true zz) _ _ p s' ⟨p5,rfl,e'⟩ rfl
             . exact n1 (decide_eq_false λy=>z (by rw [y]; simp)) _ (Same.refl _)
           . have ek3:=lq pf3;subst ek3;refine bK λjm bw=>?_
             obtain ⟨ts,ev3,ht,em⟩:=Kl pv3;subst bw;subst ev3;rw [Il] at em
             have lts:ts.length<=60:=by
               have z1:(ts.map (·.2)).length=((kt.filter (own hh.name m)).map yU).length:=congrArg afN em;rw [aac,aac] at z1;have z2:=af5 (own hh.name m) kt;omega
             have ndt:(ts.map (·.2)).Nodup:=by
               rw [em];have z:((kt.filter (own hh.name m)).map (·.1)).Nodup:=(amO _ alT).nodup nd;rw [abJ,ado] at z |-;exact z.imp λh e=>h (congrArg aiA e)
             refine ⟨D3,ts,rfl,cG.of eD3,λt ht'=>⟨[],ht t ht',λv hv=>(by cases hv)⟩,ndt,by omega,λl3 ts' fl3 Uz pw3=>?_⟩;have s12:Same NP (upd NP l3 (.lst ((ts'.map (·.1)).map V.ref))):=(Same.refl _).upd fl3;have NQ:upd NP l3 (.lst ((ts'.map (·.1)).map V.ref)) l3=some (.lst ((ts'.map (·.1)).map V.ref)):=au;generalize aaI:upd NP l3 (.lst ((ts'.map (·.1)).map V.ref))=Yz at s12 NQ |-;clear aaI
             have pT:abG (λ(x:V) (t:aaH × (Int × Str))=>x=V.ref t.1) ((ts'.map (·.1)).map V.ref) ts':=by
               have key:∀ l:List (aaH × (Int × Str)),abG (λ(x:V) (t:aaH × (Int × Str))=>x=V.ref t.1) ((l.map (·.1)).map V.ref) l:=λl=>by
                 induction l with
                 | nil=>exact .nil
                 | cons x l ih=>exact .cons rfl ih
               exact key ts'
             have YB:=Xk.trans s12;refine ⟨.inl ⟨rfl,_,cG.of (YB _ _ eR)⟩,?_⟩;refine ⟨l3,rfl,⟨_,cG.of NQ⟩,λD4 fD4=>fP (R':=fB) (F:=λt r=>r=((t.2.2,t.2.1):Row)) (keep:=λ_=>true) (λs r=>r.ts s.tups) (λe r=>r.ts (dN e)) fD4 NQ (by rw [aac,aac,Uz.length_eq]; omega) pT (λj' y t IW hj' ry Hl b' N' Q3 _ q3=>?_) (λws4 rs IW Hl eD4 pw4 pf4=>?_)⟩
             . subst ry;have et:IW t.1=some (.tup [.int t.2.1,.str t.2.2]):=(s12.trans Hl) _ _ (ht t (Uz.mem_iff.mp (abq hj')));refine ⟨t.1,_,rfl,bQ.of et,rfl,_,_,rfl,_,_,rfl,rfl,?_⟩;refine ⟨by show 2<=sizeLine; omega,λp8 hp8=>?_⟩;exact q3 rfl _ _ _ ((Same.refl IW).upd hp8) ⟨p8,rfl,au⟩ rfl
             . refine ⟨D4,ws4,rfl,.inl ⟨cG.of eD4,λp8 hp8=>?_⟩⟩;refine gE hp8 λH14 s14 UJ=>?_
               have Tz:=(YB.trans Hl).trans s14;have ad3:=Tz _ _ eR;refine ⟨R,vr,.ref p8,rfl,rfl,ad3,by omega,?_⟩;have tL:bV H14 (upd H14 R (.lst (vr++[.ref p8]))):=dN ⟨_,ad3⟩;rw [afY.mpr (λ_ _=>rfl)] at pf4
               have ers:rs.map Om=ts'.map (·.2):=by
                 have key:∀ {l:List (aaH × (Int × Str))} {m:List Row},abG (λt r=>r=((t.2.2,t.2.1):Row)) l m->m.map Om=l.map (·.2):=λ{l m} z=>by
                   induction z with
                   | nil=>rfl
                   | cons h _ ih=>rw [abn,abn,ih,h]; rfl
                 exact key pf4
               have ro:yg hh.name kt m rs:=by
                 refine ⟨?_,?_⟩
                 . rw [ers];refine (Uz.map _).trans ?_;rw [em]
                 . rw [ers,ado];exact pw3
               refine ⟨vr++[.ref p8],rr++[rs],_,_,rfl,au,by rw [aay]; show vr.length+1<=j+1; omega,bC (aA (λ_ _ z=>nQ.ts tL (nQ.ts Tz.tups z)) prr) (.cons ⟨p8,ws4,rfl,tL _ _ UJ,aA (λ_ _ z=>fB.ts (s14.tups.trans tL) z) pw4⟩ .nil),by rw [abz,hm]; exact bC prf (.cons ro .nil),λb u n e=>?_⟩;rw [aB n];exact Tz _ _ (sm _ _ n e)
         . refine bK λjm bw=>?_
           obtain ⟨vr,rr,o7',o8',ez4,eR,lvr,prr,prf,sm⟩:=hz;subst bw;subst ez4;rw [aac,acL] at prf;rw [aac] at lvr;have FR:F≠R:=λz=>by rw [<- z,eF2] at fR2; cases fR2
           have eF9:=S29 _ _ eF2;have tR:bV H9 Yd:=λb xs e=>sm _ _ (λz=>by rw [z,S69 _ _ e6] at e; cases e) e
           have ad4:=sm _ _ FR eF9;have ea10:Yd a1=some (.tup [.str hh.name,.int hh.low,.int hh.high,.int hh.aW]):=tR _ _ (S29 _ _ Wk);refine ⟨.inl ⟨rfl,_,cG.of ad4⟩,?_⟩;refine ⟨R,vr,rfl,.inl ⟨cG.of eR,λOo ajn=>?_⟩⟩;refine gE ajn λNP Xk UL=>?_
           refine ⟨by show 1<=sizeLine; omega,λp12 ajo=>?_⟩;have s12:Same NP (upd NP p12 (.tup [.ref Oo])):=(Same.refl NP).upd ajo;have NQ:upd NP p12 (.tup [.ref Oo]) p12=some (.tup [.ref Oo]):=au;generalize aaI:upd NP p12 (.tup [.ref Oo])=Yz at s12 NQ |-;clear aaI;refine ⟨a1,p12,_,_,rfl,rfl,bQ.of ((Xk.trans s12) _ _ ea10),bQ.of NQ,by simp,by show 4+1<=sizeLine; omega,λz=>(by cases z),λ_ UW ajp=>?_⟩;have Hl:Same Yz (upd Yz UW (.tup ([.str hh.name,.int hh.low,.int hh.high,.int hh.aW]++[.ref Oo]))):=(Same.refl Yz).upd ajp;have ad5:upd Yz UW (.tup ([.str hh.name,.int hh.low,.int hh.high,.int hh.aW]++[.ref Oo])) UW=some (.tup [.str hh.name,.int hh.low,.int hh.high,.int hh.aW,.ref Oo]):=au;generalize ajq:upd Yz UW (.tup ([.str hh.name,.int hh.low,.int hh.high,.int hh.aW]++[.ref Oo]))=IW at Hl ad5 |-;clear ajq;have Kw:=(Xk.trans s12).trans Hl;have ad6:=Kw _ _ ad4;have li:i<hs.length:=(abE.mp hhi).1;refine ⟨F,ws,.ref UW,rfl,rfl,ad6,by omega,?_⟩;have tF:bV IW (upd IW F (.lst (ws++[.ref UW]))):=dN ⟨_,ad6⟩;have ajr:bV H2 IW:=(S29.tups.trans tR).trans Kw.tups
           have ri:yh hh.name kt rr:=by
             refine ⟨ms,by rw [hms]; exact Tw _,λn=>?_,prf⟩;rw [hms,Xh ns9.1,en];constructor
             . intro z;obtain ⟨p,hp,rfl⟩:=abj.mp z;obtain ⟨h1,h2⟩:=aej.mp hp;exact ⟨p,h1,by unfold own; rw [h2,decide_eq_true rfl]; rfl⟩
             . rintro ⟨p,hp,oo⟩;have h1:=(abr.mp oo).1;have h2:=of_decide_eq_true (abr.mp oo).2;exact abj.mpr ⟨p,aej.mpr ⟨hp,h1⟩,h2⟩
           refine ⟨ws++[.ref UW],hs'++[⟨hh.name,hh.low,hh.high,hh.aW,rr⟩],_,_,_,_,_,_,rfl,au,by rw [aay]; show ws.length+1<=i+1; omega,bC (aA (λ_ _ z=>gq.ts (ajr.trans tF) z) pw) (.cons ⟨UW,.ref Oo,rfl,tF _ _ ad5,Oo,vr,rfl,tF _ _ ((s12.trans Hl) _ _ UL),aA (λ_ _ z=>nQ.ts (Kw.tups.trans tF) z) prr⟩ .nil),by rw [abz,hhi]; exact bC pf (.cons ⟨rfl,rfl,rfl,rfl,ri⟩ .nil),λb u e=>?_⟩;rw [aB (λz=>by rw [z,fF] at e; cases e)];exact Kw _ _ (sm _ _ (nR9 e) (S29 _ _ (s2 _ _ e)))
   . refine bK λjm bw=>?_
     obtain ⟨ws,hs',o4,o5,o6,o7,o8,o9,ez5,eF2,lw,pwH,pf,s2⟩:=hz;subst bw;subst ez5;rw [lc,acL] at pf;have eL2:=s2 _ _ eL;have lL:=pL.length;have pL2:=aA (λ_ _ z=>aR.ts s2.tups z) pL;have Z0:=s2 _ _ ea;have pk2:=aA (λ_ _ z=>jz.ts z s2.tups) pk;refine ⟨ll,rfl,⟨_,cG.of eL2⟩,λD5 fD5=>fP (R':=R0) (F:=λl l'=>l'=l) (keep:=λl=>Ak kt l.1) (λs r=>r.ts s.tups) (λe r=>r.ts (dN e)) fD5 eL2 (by omega) pL2 (λj y l H3 hj ry s3 b N Q1 n1 q1=>?_) (λv5 lF H3 s3 eD5 pv5 pf5=>?_)⟩
     . obtain ⟨bb,rfl,eb⟩:=ry;have eb3:=s3 _ _ eb;have pk3:=aA (λ_ _ z=>jz.ts z s3.tups) pk2;refine cg (bQ.of eb3) (i:=0) (v:=.str l.1.1) (by rfl) ?_;refine ⟨ar,_,rfl,eY.k (k:=acW l.1.1) (s3 _ _ Z0),_,rfl,?_⟩;rw [mq pk3];refine eZ (λz1=>?_) (λz1=>?_)
       . refine cg (bQ.of eb3) (i:=1) (v:=.str l.1.2) (by rfl) ?_;refine ⟨ar,_,rfl,eY.k (k:=acW l.1.2) (s3 _ _ Z0),_,rfl,?_⟩;rw [mq pk3];refine eZ (λz2=>?_) (λz2=>?_)
         . refine ⟨⟨bb,_,rfl,eb3,λp5 H' e' s'=>?_⟩⟩;refine ⟨by show 2<=sizeLine; omega,λp6 hp6=>?_⟩;have s6:Same H' (upd H' p6 (.tup [.ref p5,.ref bb])):=(Same.refl H').upd hp6;exact q1 (by unfold Ak; rw [z1,z2]; rfl) _ _ l (s'.trans s6) ⟨p6,p5,bb,rfl,au,s6 _ _ e',bb,rfl,(s'.trans s6) _ _ eb3⟩ rfl
         . exact n1 (by unfold Ak; rw [aiE.mpr z2,afB]) _ (Same.refl _)
       . exact n1 (by unfold Ak; rw [aiE.mpr z1,afK]) _ (Same.refl _)
     . have el:=lq pf5;subst el;refine bK λjm bw=>?_
       obtain ⟨ps,ev,gp,pt⟩:=Km pv5;subst bw;subst ev;have nlF:((ls.filter λl=>Ak kt l.1).map ab5).Nodup:=(amO _ alT).nodup nl;have lF:=af5 (λl:Letter=>Ak kt l.1) ls;have kk:=Nh pt;refine ⟨D5,ps,rfl,eD5,gp,?_,λd hd=>?_⟩
       . have z:ps.map (λp=>p.2.2.1)=(ps.map (·.2.2)).map (·.1):=by rw [afn]; rfl
         rw [z,kk];rw [abJ,ado];exact (abJ.mp nlF).imp λh e=>h (tO e)
       . refine gE hd λH4 s4 e4=>?_
         have S24:=s3.trans s4;have eF4:=S24 _ _ eF2;have pt4:=aA (λ_ _ z=>Ey.ts z s4.tups) pt;refine ⟨F,ws,rfl,.inl ⟨cG.of eF4,λp5 Uv=>?_⟩⟩;refine gE Uv λH5 s5 e5=>?_
         refine ⟨d,_,(ls.filter λl=>Ak kt l.1).map ab5,rfl,s5 _ _ e4,kk,by rw [aac]; omega,λl as ks' fl pm pw la at'=>?_⟩;refine gE fl λH6 s6 e6=>?_
         have at6:∀ (i:Nat) (a:aaH) (k:Str × Str),as[i]?=some a->ks'[i]?=some k->H6 a=some (.tup [.str k.1,.str k.2]):=λi a k h1 h2=>s6 _ _ (at' i a k h1 h2)
         have Yr:ks'.length<=ls.length:=by rw [pm.length_eq,aac]; exact lF
         have pas:abG (λ(x:V) (k:Str × Str)=>∃ a,x=.ref a/\H6 a=some (.tup [.str k.1,.str k.2])) (as.map V.ref) ks':=by
           have key:∀ (as:List aaH) (ks:List (Str × Str)),as.length=ks.length->(∀ (i:Nat) (a:aaH) (k:Str × Str),as[i]?=some a->ks[i]?=some k->H6 a=some (.tup [.str k.1,.str k.2]))->abG (λ(x:V) (k:Str × Str)=>∃ a,x=.ref a/\H6 a=some (.tup [.str k.1,.str k.2])) (as.map V.ref) ks:=by
             intro as
             induction as with
             | nil=>intro ks hl _; rw [aeu hl.symm]; exact .nil
             | cons a as ih =>
               intro ks hl h;cases ks with
               | nil=>simp at hl
               | cons k ks=>exact .cons ⟨a,rfl,h 0 a k rfl rfl⟩ (ih ks (by simpa using hl) λi a' k' h1 h2=>h (i+1) a' k' (by simpa using h1) (by simpa using h2))
           exact key as ks' la at6
         refine ⟨l,rfl,⟨_,cG.of e6⟩,λD6 fD6=>fP (R':=aR) (F:=λk l=>l∈(ls.filter λl=>Ak kt l.1)/\l.1=k) (keep:=λ_=>true) (λs r=>r.ts s.tups) (λe r=>r.ts (dN e)) fD6 e6 (by rw [aac]; omega) pas (λj y k H7 hj ry s7 b N Q1 _ q1=>?_) (λv7 ls' H7 s7 eD6 pv7 pf7=>?_)⟩
         . obtain ⟨a,rfl,eA⟩:=ry;have S47:=(s5.trans s6).trans s7;refine bK λjm bw=>?_
           obtain ⟨l0,ml0,el0,vv,hv,gb⟩:=Ez (aA (λ_ _ z=>Ey.ts z S47.tups) pt4) (pm.mem_iff.mp (abq hj));subst bw
           have dg:eY H7 d (.ref a) (some vv):=by
             have z:=eY.t (k:=kP k) (S47 _ _ e4) (b:=a) (s7 _ _ eA);rw [hv] at z;exact z
           refine ⟨d,vv,rfl,dg,?_⟩;exact q1 rfl _ _ l0 (Same.refl _) gb ⟨ml0,el0⟩
         . rw [afY.mpr (λ_ _=>rfl)] at pf7;refine ⟨D6,v7,rfl,.inl ⟨cG.of eD6,λp8 hp8=>?_⟩⟩;refine gE hp8 λH8 s8 e8=>?_
           refine ⟨by show 2<=sizeLine; omega,λp9 hp9=>?_⟩;have s9:Same H8 (upd H8 p9 (.tup [.ref p5,.ref p8])):=(Same.refl H8).upd hp9;have S59:=((s6.trans s7).trans s8).trans s9;have S29:=(S24.trans s5).trans S59
           have allIn:ks'.filter (Ak kt)=ks':=by
             refine afY.mpr λk hk=>?_
             obtain ⟨l1,m1,rfl⟩:=abj.mp (pm.mem_iff.mp hk);exact (aej.mp m1).2
           have lo:=Et (kt:=kt) nlF pm pw (by rw [allIn]; exact pf7)
           have lo':mV kt ls ls':=by
             refine ⟨?_,lo.2⟩;have z:=lo.1;rw [aoq] at z;simpa using z
           exact q _ hs' ls' _ ⟨p9,_,_,rfl,au,⟨p5,ws,rfl,S59 _ _ e5,aA (λ_ _ z=>gq.ts S29.tups z) pwH⟩,⟨p8,v7,rfl,s9 _ _ e8,aA (λ_ _ z=>aR.ts (s8.trans s9).tups z) pv7⟩⟩ pf lo' (s2.trans S29)
theorem ajs {t u:TS} {D:Ends} {σ:St} {H:Hp} (Ok:St->Hp->Prop) (h:∀ U:St->Hp->Prop,(∀ σ H,Ok σ H->U σ H)->t { D with nx:=U } σ H) (h2:∀ σ H,Ok σ H->u D σ H):yW t u D σ H:=h (u D) h2
theorem YC {H H':Hp} {p:aaH} (h:bU H p) (s:Same H H'):bU H' p:=let ⟨n,e,z⟩:=h; ⟨n,s _ _ e,z⟩
theorem oY {H:Hp} {a b:aaH} {u v:HO} (ea:H a=some u) (eb:H b=some v) (n:u≠v):a≠b:=λz=>by rw [z,eb] at ea; exact n (abx ea).symm
theorem iU.frame {C:aaH} {H H':Hp} {x dx:aaH} {ch:V} {ak al ae q:aaH} {hs:List aL} {kt:List aQ} {ls:List Letter} (h:iU C H x dx ch ak al ae hs kt ls) (sm:∀ b u,b≠q->H b=some u->H' b=some u) (nx:q≠x) (nk:q≠ak) (nl:q≠al) (ne:q≠ae) (nt:∀ xs,H q≠some (.tup xs)):iU C H' x dx ch ak al ae hs kt ls:=by
 have tx:bV H H':=λb xs e=>sm b _ (λz=>nt xs (by rw [<- z]; exact e)) e
 refine ⟨sm _ _ (acV nx) h.ob,h.ck.ts tx,?_,?_,?_,h.ne,h.nd,h.nl,h.fk,h.fl,h.f6⟩
 . obtain ⟨kk,ekk,Nb⟩:=h.kp;exact ⟨kk,sm _ _ (acV nk) ekk,aA (λ_ _ y=>jz.ts y tx) Nb⟩
 . obtain ⟨kk,ekk,Nb⟩:=h.lt;exact ⟨kk,sm _ _ (acV nl) ekk,aA (λ_ _ y=>yp.ts y tx) Nb⟩
 . obtain ⟨kk,ekk,lkk,RW⟩:=h.en;exact ⟨kk,sm _ _ (acV ne) ekk,lkk,λk v hv=>let ⟨b,r,e1,e2⟩:=RW k v hv; ⟨b,r,e1,tx _ _ e2⟩⟩
structure RJ (C p x dx al ae ar ga:aaH) (ch:V) (H0:Hp) (hs:List aL) (ls:List Letter) (kt rt:List aQ) (lk:List Letter) (ak:aaH) (H:Hp):Prop where
 kp:iU C H x dx ch ak al ae hs kt lk
 rw:iu H ar rt
 pk:bU H p
 lg:dY H (.ref ga) hs ls
 n1:ar≠ak
 n2:ar≠ae
 sm:aY p H0 H
 fx:H0 x=none
 fr:H0 ar=none
 fl:H0 al=none
section
variable {C p x dx al ae ar ga:aaH} {ch:V} {H0:Hp} {hs:List aL} {ls:List Letter} {kt rt kt' rt':List aQ} {lk Yr:List Letter} {ak Kc q:aaH} {H H':Hp}
theorem RJ.same (h:RJ C p x dx al ae ar ga ch H0 hs ls kt rt lk ak H) (s:Same H H'):RJ C p x dx al ae ar ga ch H0 hs ls kt rt lk ak H' :=
 ⟨h.kp.same s,h.rw.same s,YC h.pk s,h.lg.ts s.tups,h.n1,h.n2,λb u n e=>s _ _ (h.sm b u n e),h.fx,h.fr,h.fl⟩
theorem RJ.chg (h:RJ C p x dx al ae ar ga ch H0 hs ls kt rt lk ak H) (s:aY q H H') (nt:∀ xs,H q≠some (.tup xs)) (q0:H0 q=none\/q=p) (kp:iU C H' x dx ch Kc al ae hs kt' Yr) (rw:iu H' ar rt') (pk:bU H' p) (n1:ar≠Kc):RJ C p x dx al ae ar ga ch H0 hs ls kt' rt' Yr Kc H':=by
 have tx:bV H H':=λb xs e=>s b _ (λz=>nt xs (by rw [<- z]; exact e)) e
 refine ⟨kp,rw,pk,h.lg.ts tx,n1,h.n2,λb u n e=>s _ _ (λz=>?_) (h.sm b u n e),h.fx,h.fr,h.fl⟩;rcases q0 with q0 | q0
 . rw [z,q0] at e; cases e
 . exact n (z.trans q0)
theorem RJ.rwF (h:RJ C p x dx al ae ar ga ch H0 hs ls kt rt lk ak H) (s:aY q H H') (nt:∀ xs,H q≠some (.tup xs)) (n:ar≠q):iu H' ar rt:=by
 have tx:bV H H':=λb xs e=>s b _ (λz=>nt xs (by rw [<- z]; exact e)) e
 obtain ⟨k4,e4,p4⟩:=h.rw;exact ⟨k4,s _ _ n e4,aA (λ_ _ y=>jz.ts y tx) p4⟩
theorem RJ.pkF (h:RJ C p x dx al ae ar ga ch H0 hs ls kt rt lk ak H) (s:aY q H H') (n:p≠q):bU H' p:=let ⟨m,e,z⟩:=h.pk; ⟨m,s _ _ n e,z⟩
theorem RJ.pack (h:RJ C p x dx al ae ar ga ch H0 hs ls kt rt lk ak H) (pk:bU H' p) (s:aY p H H'):RJ C p x dx al ae ar ga ch H0 hs ls kt rt lk ak H':=by
 obtain ⟨n,ep,_⟩:=h.pk;have nt:∀ xs,H p≠some (.tup xs):=λxs z=>by rw [ep] at z; cases z
 obtain ⟨k1,e1,_⟩:=h.kp.kp;obtain ⟨k2,e2,_⟩:=h.kp.lt;obtain ⟨k3,e3,_⟩:=h.kp.en;obtain ⟨k4,e4,p4⟩:=h.rw;exact h.chg s nt (.inr rfl) (h.kp.frame s (oY ep h.kp.ob (by simp)) (oY ep e1 (by simp)) (oY ep e2 (by simp)) (oY ep e3 (by simp)) nt) (h.rwF s nt (oY e4 ep (by simp))) pk h.n1
theorem RJ.tell (h:RJ C p x dx al ae ar ga ch H0 hs ls kt rt lk ak H) (nk:H Kc=none) (kp:iU C H' x dx ch Kc al ae hs kt' Yr) (s:aY x H H'):RJ C p x dx al ae ar ga ch H0 hs ls kt' rt Yr Kc H':=by
 have nt:∀ xs,H x≠some (.tup xs):=λxs z=>by rw [h.kp.ob] at z; cases z
 obtain ⟨k4,e4,p4⟩:=id h.rw;obtain ⟨n,ep,_⟩:=id h.pk;exact h.chg s nt (.inl h.fx) kp (h.rwF s nt (oY e4 h.kp.ob (by simp))) (h.pkF s (oY ep h.kp.ob (by simp))) (aH e4 nk)
theorem RJ.letter (h:RJ C p x dx al ae ar ga ch H0 hs ls kt rt lk ak H) (kp:iU C H' x dx ch ak al ae hs kt' Yr) (s:aY al H H'):RJ C p x dx al ae ar ga ch H0 hs ls kt' rt Yr ak H':=by
 obtain ⟨k2,e2,_⟩:=id h.kp.lt;have nt:∀ xs,H al≠some (.tup xs):=λxs z=>by rw [e2] at z; cases z
 obtain ⟨k4,e4,p4⟩:=id h.rw;obtain ⟨n,ep,_⟩:=id h.pk;exact h.chg s nt (.inl h.fl) kp (h.rwF s nt (λz=>by rw [z,e2] at e4; cases k4 <;> cases k2 <;> simp at e4)) (h.pkF s (oY ep e2 (by simp))) h.n1
theorem RJ.put (h:RJ C p x dx al ae ar ga ch H0 hs ls kt rt lk ak H) (s:aY ar H H') (rw:iu H' ar rt'):RJ C p x dx al ae ar ga ch H0 hs ls kt rt' lk ak H':=by
 obtain ⟨k4,e4,p4⟩:=id h.rw;have nt:∀ xs,H ar≠some (.tup xs):=λxs z=>by rw [e4] at z; cases z
 obtain ⟨k2,e2,_⟩:=id h.kp.lt;obtain ⟨n,ep,_⟩:=id h.pk;exact h.chg s nt (.inl h.fr) (h.kp.frame s (oY e4 h.kp.ob (by simp)) h.n1 (λz=>by rw [z,e2] at e4; cases k4 <;> cases k2 <;> simp at e4) h.n2 nt) rw (h.pkF s (oY ep e4 (by simp))) h.n1
end
theorem iG {hs:List aL} (g:cH hs) (g3:∀ h∈hs,h.runs.length<=3) {p:aQ} (hp:p∈mZ hs):Good p.1/\Good p.2.1/\p.2.1∈hs.map aL.name/\(p.2.2.1=1\/p.2.2.1=3\/p.2.2.1=5):=by
 obtain ⟨h,hh,j,hj,r,hr,rfl⟩:=sS.mp hp;have gh:=g.all h hh;have j3:=g3 h hh;refine ⟨(gh.runs _ (getD_mem hj)).names r hr,gh.name,abj.mpr ⟨h,hh,rfl⟩,?_⟩;show 2 * (j:Int)+1=1\/2 * (j:Int)+1=3\/2 * (j:Int)+1=5;omega
theorem Ay {hs:List aL} {l:Letter} (g:cH hs) (gl:iz hs l):l.1.1≠l.1.2:=λz=>by
 obtain ⟨h1,m1,h2,m2,n1,n2,ne⟩:=gl.BJ;have a1:=owner g.rows m1 n1;rw [z,owner g.rows m2 n2] at a1;exact ne (abx a1).symm
theorem jF {α:Type} {l:List α} {a:α} (h:(l++[a]).Nodup):a ∉ l:=λm=>(aeS.mp h).2.2 a m a (abe.mpr rfl) rfl
theorem Az {hs:List aL} {tr:List Em} (g:cH hs) (n10:(namesOf hs).length<=10) (pt:tr.Perm (Wn hs)) (k i:Nat):(∀ q∈((tr.drop k).take i).map iV,q∈mZ hs)/\((((tr.drop k).take i).map iV).map (·.1)).Nodup/\((((tr.drop k).take i).map iV).map (·.2)).Nodup/\(((tr.drop k).take i).map iV).length<=10:=by
 have pk:(tr.map iV).Perm (mZ hs):=pt.map iV;have sub:(((tr.drop k).take i).map iV).Sublist (tr.map iV):=((afH _ _).trans (aoL _ _)).map iV;have n1:((tr.map iV).map (·.1)).Nodup:=(pk.map _).nodup_iff.mpr (by rw [iC]; exact g.rows);have n2:((tr.map iV).map (·.2)).Nodup:=(pk.map _).nodup_iff.mpr (EY g);refine ⟨λq hq=>pk.mem_iff.mp (sub.subset hq),(sub.map _).nodup n1,(sub.map _).nodup n2,?_⟩;have l1:=sub.length_le;have l2:=pk.length_eq;have l3:(mZ hs).length=(namesOf hs).length:=by rw [<- iC,aac]
 omega
noncomputable def oZ (kt:List aQ) (ls:List Letter) (H:Hp) (v:V):Prop:=∃ (p:aaH) (s t l m:V) (ds dt dl dm:Da),v=.ref p/\H p=some (.tup [s,t,l,m])/\cj H s ds/\cj H t dt/\cj H l dl/\cj H m dm /\
 (bG (.tup [ds,dt,dl,dm])=false\/bG (.tup [ds,dt,dl,dm])=true/\∃ k:Str × Str,s=.str k.1/\t=.str k.2/\(k.1=k.2\/k.1≠k.2/\(k∈ls.map ab5\/k ∉ ls.map ab5/\(aX (ktM kt) k.1 k.2=true\/aX (ktM kt) k.1 k.2=false/\ls.length=24))))
theorem oZ.same {kt:List aQ} {ls:List Letter} {H H':Hp} {v:V} (s':Same H H') (h:oZ kt ls H v):oZ kt ls H' v:=by
 obtain ⟨p,s,t,l,m,ds,dt,dl,dm,e,ep,h1,h2,h3,h4,c⟩:=h;exact ⟨p,s,t,l,m,ds,dt,dl,dm,e,s' _ _ ep,h1.same s',h2.same s',h3.same s',h4.same s',c⟩
theorem TF {kt:List aQ} {ls:List Letter} {H:Hp} {v:V} {d:Da} (h:cj H v d) (r:Fy d):oZ kt ls H v:=by
 obtain ⟨s,t,l,m,rfl,c⟩:=r;obtain ⟨p,vs,rfl,ep,_,ra⟩:=h.ZQ;obtain ⟨v1,v2,v3,v4,rfl,h1,h2,h3,h4⟩:=ra.four;refine ⟨p,v1,v2,v3,v4,s,t,l,m,rfl,ep,h1,h2,h3,h4,?_⟩;cases e:bG (.tup [s,t,l,m]) with
 | false=>exact .inl rfl
 | true =>
   rcases c with c | ⟨n,rfl,rfl⟩
   . rw [e] at c; cases c
   . cases h1;cases h2;exact .inr ⟨rfl,(n,n),rfl,rfl,.inl rfl⟩
theorem TQ {kt:List aQ} {ls:List Letter} {H:Hp} {v:V} {m:Letter} (h:aR H v m) (g1:Good m.1.1) (g2:Good m.1.2) (e1:m.2=(1,none)) (ne:m.1.1≠m.1.2) (c:m.1∈ls.map ab5\/aX (ktM kt) m.1.1 m.1.2=true):oZ kt ls H v:=by
 obtain ⟨a,rfl,ea⟩:=h;rw [e1] at ea;refine ⟨a,_,_,_,_,.str m.1.1,.str m.1.2,.int 1,.non,rfl,ea,g1.da,g2.da,.int 1,.non,?_⟩;cases e:bG (.tup [.str m.1.1,.str m.1.2,.int 1,.non]) with
 | false=>exact .inl rfl
 | true =>
   refine .inr ⟨rfl,m.1,rfl,rfl,.inr ⟨ne,?_⟩⟩;by_cases z:m.1∈ls.map ab5
   . exact .inl z
   . exact .inr ⟨z,.inl (c.resolve_left z)⟩
theorem TV {kt:List aQ} {ls:List Letter} {H:Hp}:∀ {us:List V} {ds:List Da},cF H us ds->(∀ d∈ds,Fy d)->∀ v∈us,oZ kt ls H v
 | _,_,.nil,_,v,hv=>by cases hv
 | _,_,.cons h t,r,v,hv=>by
   rcases abu.mp hv with rfl | hv
   . exact TF h (r _ abw)
   . exact TV t (λd hd=>r d (abk _ hd)) v hv
theorem FJ {kt:List aQ} {ls:List Letter} {H:Hp} {us:List V} {ms:List Letter} (p:abG (aR H) us ms) (r:∀ m∈ms,Good m.1.1/\Good m.1.2/\m.2=(1,none)/\m.1.1≠m.1.2/\(m.1∈ls.map ab5\/aX (ktM kt) m.1.1 m.1.2=true)):∀ v∈us,oZ kt ls H v:=by
 induction p with
 | nil=>intro v hv; cases hv
 | cons h _ ih =>
   intro v hv;rcases abu.mp hv with rfl | hv
   . obtain ⟨a,b,c,d,e⟩:=r _ abw;exact TQ h a b c d e
   . exact ih (λm hm=>r m (abk _ hm)) v hv
theorem sW {z:Str} (h:(decide (1<=z.length) && decide (z.length<=8) && z.cps.toList.all low)=true):Good z:=by
 simp only [adB,decide_eq_true_eq,abP] at h;exact ⟨h.1.1,h.1.2,h.2⟩
noncomputable def qr:Str:="qqqqqqqr"
noncomputable def qs:Str:="qqqqqqqs"
theorem ajv:qr=qS:=by decide +kernel
theorem ajw:qs=qS2:=by decide +kernel
theorem NT:Good qr:=sW (by decide +kernel)
theorem FN:Good qs:=sW (by decide +kernel)
theorem qrs:qr≠qs:=by decide +kernel
noncomputable def m1:Letter:=((qr,qs),1,none)
noncomputable def m2:Letter:=((qs,qr),2,some 5)
noncomputable def bL:Nat->List Letter
 | 0=>[m1,m2]
 | 1=>[m1]
 | _=>[m2]
theorem gM {d:Nat} {l:Letter} (h:l∈bL d):l=m1\/l=m2:=by
 match d,h with
 | 0,h=>simpa [bL] using h
 | 1,h=>exact .inl (by simpa [bL] using h)
 | _+2,h=>exact .inr (by simpa [bL] using h)
theorem NZ (d:Nat):m1∈bL d\/m2∈bL d:=by
 match d with
 | 0=>exact .inl (by simp [bL])
 | 1=>exact .inl (by simp [bL])
 | _+2=>exact .inr (by simp [bL])
theorem TX (d:Nat):((bL d).map ab5).Nodup:=by
 match d with
 | 0=>simp [bL,m1,m2,qrs]
 | 1=>simp [bL]
 | _+2=>simp [bL]
theorem N5 (d:Nat):(bL d).length<=2:=by
 match d with
 | 0=>simp [bL]
 | 1=>simp [bL]
 | _+2=>simp [bL]
theorem pA {kt:List aQ} {n:Str} (h:n ∉ kt.map (·.1)):ktM kt n=none:=by
 cases e:ktM kt n with
 | none=>rfl
 | some p=>exact absurd (vQ.mp (by rw [e]; rfl)) h
theorem uH {kt:List aQ} {r:aQ} {n:Str} (h:r.1≠n):ktM (kt++[r]) n=ktM kt n:=by
 unfold ktM;rw [amu];cases e:kt.find? (λp=>decide (p.1=n)) <;> simp [h]
theorem Dc {kt:List aQ} {r:aQ} (h:r.1 ∉ kt.map (·.1)):ktM (kt++[r]) r.1=some r.2:=by
 have z:ktM kt r.1=none:=pA h;unfold ktM at z |-;rw [amu];cases e:kt.find? (λp=>decide (p.1=r.1)) with
 | none=>simp
 | some p=>rw [e] at z; cases z
theorem yI {m:Str->Option Place} {s t:Str} (h:m s=none):aX m s t=false:=by unfold aX; rw [h]
theorem TY {m:Str->Option Place} {s t:Str} (h:m t=none):aX m s t=false:=by
 unfold aX;rw [h];cases m s <;> rfl
theorem mJ {m:Str->Option Place} {s t:Str} {a b:Place} (h1:m s=some a) (h2:m t=some b):aX m s t=decide (a.1=b.1):=by unfold aX; rw [h1,h2]
theorem sX {m m':Str->Option Place} {s t:Str} (h1:m s=m' s) (h2:m t=m' t):aX m s t=aX m' s t:=by unfold aX; rw [h1,h2]
theorem Ky {kt:List aQ} (n:qs ∉ kt.map (·.1)) {d:Nat} {l:Letter} (h:l∈bL d):aX (ktM kt) l.1.1 l.1.2=false:=by
 rcases gM h with rfl | rfl
 . exact TY (pA n)
 . exact yI (pA n)
theorem Ua {kt:List aQ} (n:qs ∉ kt.map (·.1)) (d:Nat):(bL d).filter (λl=>Ak kt l.1)=[]:=by
 refine am3.mpr λl h z=>?_
 rcases gM h with rfl | rfl
 . exact n (of_decide_eq_true (abr.mp z).2)
 . exact n (of_decide_eq_true (abr.mp z).1)
theorem yJ {kt:List aQ} {ls a:List Letter} {d:Nat} (n:qs ∉ kt.map (·.1)) (h:mV kt (ls++bL d) a):mV kt ls a:=by
 obtain ⟨p,r⟩:=h;rw [ahb,Ua n,adx] at p;exact ⟨p,r⟩
structure Two (hs:List aL) (ls:List Letter) (kt:List aQ):Prop where
 sub:∀ p∈kt,p∈mZ hs
 g:cH hs
 gl:jM hs ls
 g3:∀ h∈hs,h.runs.length<=3
 nq:∀ n∈namesOf hs,n≠qr/\n≠qs
section
variable {hs:List aL} {ls:List Letter} {kt:List aQ} (T:Two hs ls kt)
include T
theorem Two.nr:qr ∉ kt.map (·.1):=λz=>by
 obtain ⟨p,hp,e⟩:=abj.mp z;have y:p.1∈namesOf hs:=by rw [<- iC]; exact abj.mpr ⟨p,T.sub p hp,rfl⟩
 exact (T.nq _ y).1 e
theorem Two.ns:qs ∉ kt.map (·.1):=λz=>by
 obtain ⟨p,hp,e⟩:=abj.mp z;have y:p.1∈namesOf hs:=by rw [<- iC]; exact abj.mpr ⟨p,T.sub p hp,rfl⟩
 exact (T.nq _ y).2 e
theorem Two.lets {l:Letter} (h:l∈ls):l.1.1∈namesOf hs/\l.1.2∈namesOf hs:=by
 obtain ⟨h1,m1,h2,m2,n1,n2,_⟩:=(T.gl.all l h).BJ;exact ⟨aef.mpr ⟨h1,m1,n1⟩,aef.mpr ⟨h2,m2,n2⟩⟩
theorem Two.nodup (d:Nat):((ls++bL d).map ab5).Nodup:=by
 rw [abp];refine aeS.mpr ⟨T.gl.rise.imp (λ{a b} h e=>by rw [e,lV.Qc] at h; cases h),TX d,λa ha b hb e=>?_⟩;subst e;obtain ⟨l,hl,rfl⟩:=abj.mp ha;obtain ⟨m,hm,e⟩:=abj.mp hb;have z:=T.nq _ (T.lets hl).1;rcases gM hm with rfl | rfl
 . exact z.1 (congrArg ab5 e).symm
 . exact z.2 (congrArg ab5 e).symm
theorem Two.r135 {p:aQ} (h:p∈kt):p.2.2.1=1\/p.2.2.1=3\/p.2.2.1=5:=(iG T.g T.g3 (T.sub p h)).2.2.2
theorem Two.gk {p:aQ} (h:p∈kt):Good p.1:=(iG T.g T.g3 (T.sub p h)).1
theorem Two.gh {p:aQ} (h:p∈kt):Good p.2.1:=(iG T.g T.g3 (T.sub p h)).2.1
theorem Two.pl {h:Str} {r i:Int} (e:r=8\/r=9):(h,r,i) ∉ kt.map (·.2):=λz=>by
 obtain ⟨p,hp,ep⟩:=abj.mp z;have y:=T.r135 hp;have:p.2.2.1=r:=congrArg (λq:Place=>q.2.1) ep;omega
variable {h0:Str}
theorem Two.Xl:qs ∉ (kt++[((qr,h0,9,1000000):aQ)]).map (·.1):=by
 rw [abp,abv];rintro (z | z)
 . exact T.ns z
 . exact qrs (abe.mp z).symm
theorem Two.YD {l:Letter} (h:l∈ls):aX (ktM (kt++[((qr,h0,9,1000000):aQ)])) l.1.1 l.1.2=false:=by
 obtain ⟨a,b⟩:=T.lets h;rw [sX (uH (T.nq _ a).1.symm) (uH (T.nq _ b).1.symm)];exact Aq T.g (T.gl.all l h) T.sub
theorem Two.all1 {d:Nat}:∀ l∈ls++bL d,aX (ktM (kt++[((qr,h0,9,1000000):aQ)])) l.1.1 l.1.2=false:=λl h=>by
 rcases abv.mp h with h | h
 . exact T.YD h
 . exact Ky T.Xl h
theorem Two.ad7 {d:Nat} {r i:Int}:∃ l∈ls++bL d,aX (ktM (kt++[((qr,h0,9,1000000):aQ)]++[((qs,h0,r,i):aQ)])) l.1.1 l.1.2=true:=by
 have e1:ktM (kt++[((qr,h0,9,1000000):aQ)]++[((qs,h0,r,i):aQ)]) qs=some (h0,r,i):=Dc (r:=(qs,h0,r,i)) T.Xl
 have e2:ktM (kt++[((qr,h0,9,1000000):aQ)]++[((qs,h0,r,i):aQ)]) qr=some (h0,9,1000000):=by
   rw [uH (λz=>qrs z.symm)];exact Dc (r:=(qr,h0,9,1000000)) T.nr
 rcases NZ d with m | m
 . exact ⟨m1,abN _ m,by rw [show m1.1=(qr,qs) from rfl,mJ e2 e1]; exact decide_eq_true rfl⟩
 . exact ⟨m2,abN _ m,by rw [show m2.1=(qs,qr) from rfl,mJ e1 e2]; exact decide_eq_true rfl⟩
theorem Two.pl1 {r i:Int} (e:r=8\/r=9/\i=7):(h0,r,i) ∉ (kt++[((qr,h0,9,1000000):aQ)]).map (·.2):=by
 rw [abp,abv];rintro (z | z)
 . exact T.pl (by omega) z
 . have y:=abe.mp z;have y1:r=9:=congrArg (λq:Place=>q.2.1) y;have y2:i=1000000:=congrArg (λq:Place=>q.2.2) y;omega
theorem Two.Ub (g0:Good h0):∀ p∈kt++[((qr,h0,9,1000000):aQ)],Good p.2.1:=λp h=>by
 rcases abv.mp h with h | h
 . exact T.gh h
 . rw [abe.mp h]; exact g0
theorem Two.gK1:∀ p∈kt++[((qr,h0,9,1000000):aQ)],Good p.1:=λp h=>by
 rcases abv.mp h with h | h
 . exact T.gk h
 . rw [abe.mp h]; exact NT
theorem Two.ad8:yH (kt++[((qr,h0,9,1000000):aQ)]):=⟨kt,[((qr,h0,9,1000000):aQ)],rfl,λp h=>T.r135 h,λp h=>by rw [abe.mp h]⟩
theorem Two.nd1 (n:(kt.map (·.1)).Nodup):((kt++[((qr,h0,9,1000000):aQ)]).map (·.1)).Nodup:=by
 rw [abp];refine aeS.mpr ⟨n,by simp,λa ha b hb e=>?_⟩;subst e;rw [abe.mp hb] at ha;exact T.nr ha
variable {h1:Str}
theorem Two.nd2 (n:(kt.map (·.1)).Nodup):((kt++[((qr,h0,9,1000000):aQ)]++[((qs,h1,9,1000000):aQ)]).map (·.1)).Nodup:=by
 rw [abp];refine aeS.mpr ⟨T.nd1 n,by simp,λa ha b hb e=>?_⟩;subst e;rw [abe.mp hb] at ha;exact T.Xl ha
theorem Two.pl2 (ne:h0≠h1):(h1,9,1000000) ∉ (kt++[((qr,h0,9,1000000):aQ)]).map (·.2):=by
 rw [abp,abv];rintro (z | z)
 . exact T.pl (by omega) z
 . exact ne (congrArg (λq:Place=>q.1) (abe.mp z)).symm
theorem Two.all2 {d:Nat} (ne:h0≠h1):∀ l∈ls++bL d,aX (ktM (kt++[((qr,h0,9,1000000):aQ)]++[((qs,h1,9,1000000):aQ)])) l.1.1 l.1.2=false:=λl h=>by
 rcases abv.mp h with h | h
 . obtain ⟨a,b⟩:=T.lets h;rw [sX (uH (T.nq _ a).2.symm) (uH (T.nq _ b).2.symm)];exact T.YD h
 . have e1:ktM (kt++[((qr,h0,9,1000000):aQ)]++[((qs,h1,9,1000000):aQ)]) qs=some (h1,9,1000000):=Dc (r:=(qs,h1,9,1000000)) T.Xl
   have e2:ktM (kt++[((qr,h0,9,1000000):aQ)]++[((qs,h1,9,1000000):aQ)]) qr=some (h0,9,1000000):=by
     rw [uH (λz=>qrs z.symm)];exact Dc (r:=(qr,h0,9,1000000)) T.nr
   rcases gM h with rfl | rfl
   . rw [show m1.1=(qr,qs) from rfl,mJ e2 e1]; exact decide_eq_false ne
   . rw [show m2.1=(qs,qr) from rfl,mJ e1 e2]; exact decide_eq_false (acV ne)
theorem Two.gK2:∀ p∈kt++[((qr,h0,9,1000000):aQ)]++[((qs,h1,9,1000000):aQ)],Good p.1:=λp h=>by
 rcases abv.mp h with h | h
 . exact T.gK1 p h
 . rw [abe.mp h]; exact FN
theorem Two.ad9:yH (kt++[((qr,h0,9,1000000):aQ)]++[((qs,h1,9,1000000):aQ)]):=⟨kt,[(qr,h0,9,1000000),(qs,h1,9,1000000)],by simp,λp h=>T.r135 h,λp h=>by
 rcases abu.mp h with rfl | h
 . rfl
 . rw [abe.mp h]⟩
theorem Two.gL {d:Nat}:∀ l∈ls++bL d,Good l.1.1/\Good l.1.2:=λl h=>by
 rcases abv.mp h with h | h
 . exact ⟨(T.gl.all l h).sent,(T.gl.all l h).taken⟩
 . rcases gM h with rfl | rfl
   . exact ⟨NT,FN⟩
   . exact ⟨FN,NT⟩
end
theorem Xm {d:Nat} {l:Letter} (h:l∈bL d):bG (jx l)=true:=by
 rcases gM h with rfl | rfl <;> decide +kernel
theorem Ja {d:Nat} {l:Letter} (h:l∈bL d):l.1.1≠l.1.2:=by
 rcases gM h with rfl | rfl
 . exact qrs
 . exact λz=>qrs z.symm
theorem Ba {d:Nat} {l:Letter} (h:l∈bL d):Good l.1.1/\Good l.1.2:=by
 rcases gM h with rfl | rfl
 . exact ⟨NT,FN⟩
 . exact ⟨FN,NT⟩
theorem ajx (xs:List V) (n:Nat):qQ xs (some (n:Int)) none=xs.drop n:=by
 unfold qQ;rw [HT.rO,HT.jJ,adT (by rw [afQ]; omega)];by_cases h:n<=xs.length
 . rw [aiv h]
 . rw [Nat.min_eq_right (by omega),am5 (aaw _),am5 (by omega)]
theorem uZ {α β:Type} {F:α->β->Prop}:∀ {l₁:List α} {l₂:List β} (n:Nat),abG F l₁ l₂->abG F (l₁.drop n) (l₂.drop n)
 | _,_,0,h=>h
 | _,_,n+1,.nil=>.nil
 | _,_,n+1,.cons _ r=>uZ n r
noncomputable def uI:Sp:=λvs H Q _=>∃ (p:aaH) (lg:V) (hs:List aL) (ls:List Letter),vs=[.ref p,lg]/\bU H p/\dY H lg hs ls/\cH hs/\jM hs ls/\(∀ h∈hs,h.runs.length<=3)/\(∀ n∈namesOf hs,n≠qS/\n≠qS2)/\(namesOf hs).length<=10/\ls.length<=6/\∀ H',aY p H H'->Q (.bl true) H'
theorem bI:aZ ["_law_pack_here","_law_ledger_here","_law_clocks","_law_keeper","_law_rows","_law_house_here","_law_run","_law_name","_law_reading","_law_sent","_law_taken","_law_least","_law_most","_law_kept","_law_things","_law_more","_law_letters_here"] ["_law_pack_here","_law_ledger_here"] (aJ ud):=nj
theorem Uc {f lK Ud Bb yK:aaH} {fd jG Kz yL sY:abL} (F:dO K "_law_right" "_law_right" ud f fd) (T:Txt mg t8 t6 tR tL) (TC:KCls K mg C t9) (aaM:Cl P w K mg base 8 "_law_told_rows" ["_law_ledger_here"] Hw) (N6:Cl P w K mg base 8 "_law_mixed_up" ["_law_pack_here","_law_things"] ug) (cQ:Cl P w K mg base 8 "_law_take" ["_law_pack_here","_law_size"] n6) (yM:Cl P w K mg base 8 "_law_ledger_of" ["_law_clocks","_law_rows","_law_letters_here"] oX) (Xn:Cl P w K mg base 8 "_law_no_letters" ["_law_one","_law_other"] CT) (N7:Cl P w K mg base 8 "_law_within" ["_law_rows"] uE) (ql:Cl P w K mg base 8 "_law_refused" ["_law_keeper","_law_told"] (qd C)) (Ue:Cl P w K mg base 8 "_law_row_refused" ["_law_keeper","_law_told"] (yE C)) (FP:Cl P w K mg base 8 "_law_reading_first" ["_law_keeper","_law_house_here"] (oU C))
   (qm:aV P w K mg base dF 8 lK jG ["self","sent","taken","least","most"] (pQ C)) (qp:Meth K C "letter" lK) (qt:Binds K jG ["self","sent","taken","least","most"] [])
   (Jb:aV P w K mg base dF 8 Ud Kz ["self","house","run","name","reading"] (Ih C)) (Jc:Meth K C "tell" Ud) (Jd:Binds K Kz ["self","house","run","name","reading"] [])
   (qu:aV P w K mg base dF 8 Bb yL ["self"] (uy C)) (qw:Meth K C "ledger" Bb) (qx:Binds K yL ["self"] [])
   (Je:aV P w K mg base dF 7 yK sY ["self","houses"] (vU C)) (M_K:Mk K C yK) (Jf:Binds K sY ["self","houses"] []):aV P w K mg base dF 9 f fd ["_law_pack_here","_law_ledger_here"] uI:=by
 refine F.ok bI (λvs H Q E h=>?_) (λcdv A outer s H vs Q E hr h=>?_)
 . obtain ⟨p,lg,hs,ls,rfl,_⟩:=h;rfl
 . obtain ⟨p,lg,hs,ls,rfl,pk,hlg,gh,gl,g3,nq,n10,l6,q⟩:=h;have jH:sizeLine=16777216:=aby;refine ⟨_,(aq (pZ 2 bI (bJ bM rfl T.tuple acn (aj (cD (gP:=aJ ud) (own:=["_law_house_here"]) (cap:=[]) (ix:=[]) rfl rfl iR (iy (pX dM (pV 1) aD)) (λb=>(bD (i:=0) (show (["_law_house_here"]:List Str).Nodup by decide +kernel) rfl (afO rfl))) (λb=>cN) (λb=>(dW VH (pV 0) iH (FZ aD)))) ao))) (aq (pZ 3 bI (Jr M_K Je hr rfl TC.mgC Jf .nil gZ (aj (pV 2) ao))) (aq (pZ 4 bI iQ) (aq (dG acK rfl (cX (dW rR (pC N6 hr (aj (pV 0) (aj (pC aaM hr (aj (pV 1) ao)) ao))) (FZ (pC cQ hr (aj (pV 0) (aj aD ao)))) iH)) (fU rfl (aP (pY 5 bI) (aP (pY 6 bI) (aP (pY 7 bI) (aP (pY 8 bI) dR))))) (aq (jf (cU hr) (pV 4) (pV 7) (bH (aj (pV 5) (aj (pV 6) (aj (pV 8) ao)))) rfl) (aG (cW (gj (pV 3) TC.cl Jc Jb hr Jd .nil gZ (aj (pV 5) (aj (pV 6) (aj (pV 7) (aj (pV 8) ao))))))))) (aq (dG acK rfl (iy (pX dM (pV 1) aD)) (fU rfl (aP (pY 9 bI) (aP (pY 10 bI) (aP (pY 11 bI) (aP (pY 12 bI) dR))))) (aG (cW (gj (pV 3) TC.cl qp qm hr qt .nil gZ (aj (pV 9) (aj (pV 10) (aj (pV 11) (aj (pV 12) ao)))))))) (aq (pZ 13 bI (rN (pV 3) TC.cl qw qu hr qx .nil gZ)) (aq (bW (mO (Bt hr.units) (pV 13) (pC yM hr (aj (pV 2) (aj (pV 4) (aj (bJ rT rfl T.list aij (aj (pX dM (pV 1) aD) ao)) ao)))) (bA _)) (aG (bf iJ)) aU) (aq (pZ 14 bI (bx nA (pC Xn hr (aj bY (aj bY ao))) (pC N7 hr (aj (pV 4) ao)))) (aq (pZ 14 bI (bx nA (pV 14) (cD (gP:=aJ ud) (own:=["_law_letter"]) (cap:=[]) (ix:=[]) rfl rfl iR (iy (pX dM (pV 1) aD)) (λb=>(bD (i:=0) (show (["_law_letter"]:List Str).Nodup by decide +kernel) rfl (afO rfl))) (λb=>cN) (λb=>(bx acE (dW VH (pV 0) iH (FZ aD)) (bH (aj aD (aj iw ao)))))))) (aq (bW (mY (cP (sZ (aM (rZ rfl) rfl T.all aiy (aj (cD (gP:=aJ ud) (own:=["_law_thing"]) (cap:=["_law_keeper"]) (ix:=[3]) rfl rfl iR (cX (pV 14)) (λb=>(bD (i:=0) (show (["_law_thing","_law_keeper"]:List Str).Nodup by decide +kernel) rfl (afO rfl))) (λb=>cN) (λb=>(pC ql hr (aj (pV 1) (aj (pV 0) ao))))) ao)))) (pw_or1 (mO (Bt hr.units) (rN (pV 3) TC.cl qw qu hr qx .nil gZ) (pV 13) (bA _)))) (aG (bf iJ)) aU) (aq (pZ 5 bI (pX dM (pX dM (pV 2) aD) aD)) (aq (pZ 15 bI (cR (aj (bH (aj bY (aj bY (aj aD (aj iw ao))))) (aj (bH (aj bY (aj bY (aj aD (aj aD ao))))) ao)))) (aq (pZ 15 bI (Dr Ln (cR (aj (pV 15) (aj (dW rR (pV 15) iH (FZ aD)) (aj (dW rR (pV 15) (FZ aD) iH) ao)))) (pC cQ hr (aj (pV 0) (aj aD ao))) (λ_ _=>rfl))) (aq (dG acK rfl (cX (pV 15)) (fU rfl (aP (pY 9 bI) (aP (pY 10 bI) (aP (pY 11 bI) (aP (pY 12 bI) dR))))) (aG (cW (gj (pV 3) TC.cl qp qm hr qt .nil gZ (aj (pV 9) (aj (pV 10) (aj (pV 11) (aj (pV 12) ao)))))))) (aq (bW (mY (mO (Bt hr.units) (rN (pV 3) TC.cl qw qu hr qx .nil gZ) (pV 13) (bA _)) (pw_or1 (mO O4 (gj (pV 3) TC.cl Jc Jb hr Jd .nil gZ (aj (pV 5) (aj aD (aj bY (aj (bx Lk aD aD) ao))))) bY (bA _)))) (aG (bf iJ)) aU) (aq (dG acK rfl (cX (cR (aj (bH (aj aD (aj aD ao))) (aj (bH (aj aD (aj aD ao))) ao)))) (fU rfl (aP (pY 6 bI) (aP (pY 8 bI) dR))) (aG (bW (cP (sZ (pC Ue hr (aj (pV 3) (aj (bH (aj (pV 5) (aj (pV 6) (aj bY (aj (pV 8) ao))))) ao))))) (aG (bf iJ)) aU))) (aq (bW (cP (sZ (pC FP hr (aj (pV 3) (aj (pV 5) ao))))) (aG (bf iJ)) aU) (aq (jf (cU hr) (pV 4) bY (bH (aj (pV 5) (aj aD (aj (bx Lk aD aD) ao)))) rfl) (aq (pZ 16 bI (bJ rT rfl T.list aij (aj (pX dM (pV 1) aD) ao))) (aq (bW (mO oGt (aM cB rfl T.len adp (aj (pV 2) ao)) aD (bA _)) (aq (pZ 16 bI (bx nA (pV 16) (pV 15))) (aq (jf (cU hr) (pV 4) bY (bH (aj (pX dM (pX dM (pV 2) aD) aD) (aj aD (aj (bx Lk aD aD) ao)))) rfl) (aG (bW (mO O4 (gj (pV 3) TC.cl Jc Jb hr Jd .nil gZ (aj (pX dM (pX dM (pV 2) aD) aD) (aj aD (aj bY (aj (bx Lk aD aD) ao))))) bY (bA _)) (aG (bf iJ)) aU)))) aU) (aG (bf (fZ (Zv hr.units) (rN (pV 3) TC.cl qw qu hr qx .nil gZ) (pC yM hr (aj (pV 2) (aj (pV 4) (aj (pV 16) ao)))) (bA _)))))))))))))))))))))))),?_⟩;have h6:=gh.hi;obtain ⟨ga,gx,gy,rfl,eg,⟨gb,vh,rfl,eb,ph⟩,⟨gc,Di,rfl,ec,pl0⟩⟩:=id hlg;have lh:=ph.length;have fp:∀ {b:aaH} {u:HO},H b=some u->∀ {H':Hp},Same H H'->∀ {c:aaH},H' c=none->c≠b:=λ{b u} e {H'} s' {c} f z=>by rw [z,s' _ _ e] at f; cases f
   obtain ⟨pn,ep,_⟩:=id pk;refine cV λU1 Q6=>?_
   refine cg (bQ.of eg) (i:=0) (v:=.ref gb) (by rfl) ?_;refine ⟨gb,rfl,⟨_,bQ.of eb⟩,λD1 fD1=>uq (R':=qM) (F:=λh h'=>h'=h) (λs r=>r.ts s.tups) (λe r=>r.ts (dN e)) fD1 eb (by omega) ph (λi y h H1 hi ry s1 b Q1 q1=>?_) (λvc hs1 H1 s1 Ww pvc pfc=>?_)⟩
   . obtain ⟨a1,b1,rfl,e1,_⟩:=ry;refine ⟨⟨a1,_,rfl,s1 _ _ e1,λp5 H' e' s'=>?_⟩⟩;exact q1 _ _ h s' ⟨p5,rfl,e'⟩ rfl
   have:=lq pfc;subst this;refine ⟨D1,vc,rfl,.inl ⟨cG.of Ww,λp2 hp2=>?_⟩⟩;refine gE hp2 λH2 s2 e2=>?_
   show U1 _ _;subst Q6;have S2:=s1.trans s2;have ck2:jy H2 (.ref p2) hs1:=⟨p2,vc,rfl,e2,aA (λ_ _ z=>qM.ts z s2.tups) pvc⟩;refine cV λU2 Q7=>?_
   intro x dx fx fdx ndx;have sm0:Same H2 (upd (upd H2 dx (.own x)) x (.ins C dx [])):=λb u e=>by rw [aB (aH e fx),aB (aH e fdx)]; exact e
   refine ⟨x,dx,.ref p2,hs1,rfl,au,ck2.ts sm0.tups,gh,λak0 al ae H3 fk fl fe Ew sm3=>⟨rfl,?_⟩⟩;show U2 _ _;subst Q7;have s3:Same H2 H3:=λb u e=>sm3 b u (aH e fx) (sm0 _ _ e)
   have S3:=S2.trans s3;refine cV λU3 Wc=>?_
   intro ar far;refine gE far λH4 s4 e4=>?_
   show U3 _ _;subst Wc;have S4:=S3.trans s4;have n2:ar≠ae:=λz=>by obtain ⟨k0,e0,_⟩:=Ew.en; rw [<- z,far] at e0; cases e0
   have n1:ar≠ak0:=λz=>by obtain ⟨k0,e0,_⟩:=Ew.kp; rw [<- z,far] at e0; cases e0
   have rj4:RJ C p x dx al ae ar ga (.ref p2) H hs1 ls [] [] [] ak0 H4:=⟨Ew.same s4,⟨[],e4,.nil⟩,YC pk S4,hlg.ts S4.tups,n1,n2,λb u _ e=>S4 _ _ e,S2.free fx,S3.free far,(S2.trans sm0).free fl⟩;refine uD λU4 hU4=>?_
   refine ⟨.ref ga,hs1,ls,rfl,rj4.lg,gh,λd6 ws H6 fd6 e6 pw6 s6=>?_⟩;have rj6:=rj4.same s6
   have lw:ws.length<=24:=by
     have z1:=pw6.length;have z2:(mZ hs1).length=(Wn hs1).length:=by unfold mZ; rw [aac]
     have z3:(mZ hs1).length=(namesOf hs1).length:=by rw [<- iC,aac]
     omega
   refine ⟨p,d6,ws,rfl,rj6.pk,e6,fp ep S4 fd6,by omega,λL ys H9 fL e9 pm pk9 sb9=>?_⟩;have rj9:=rj6.pack pk9 sb9;have Z7:L≠p:=fp ep (S4.trans s6) fL;have t69:bV H6 H9:=λb xs e=>sb9 b _ (λz=>by rw [z,(S4.trans s6) _ _ ep] at e; cases e) e
   obtain ⟨tr,ptr,pt9⟩:=Fb pm (aA (λ_ _ z=>Ol.ts z t69) pw6);refine ⟨p,3,rfl,pk9,by decide,by decide,λd Yd d0 d1 ajE aaN=>?_⟩;have aeb:=rj9.pack ajE aaN;have ajF:bV H9 Yd:=λb xs e=>aaN b _ (λz=>by obtain ⟨m,e',_⟩:=pk9; rw [z,e'] at e; cases e) e
   have e10:=aaN _ _ Z7 e9;refine ⟨L,ys,rfl,cG.of e10,λL2 fL2=>?_⟩;obtain ⟨k,rfl⟩:=adQ d0;rw [ajx];refine gE fL2 λNP Xk UL=>?_
   have aec:=aeb.same Xk;have aed:abG (Ol NP) (ys.drop k) (tr.drop k):=uZ k (aA (λ_ _ z=>Ol.ts z (ajF.trans Xk.tups)) pt9);have NL:∀ {H':Hp} {b:aaH} {u:HO},H' L2=some (.lst (ys.drop k))->H' b=some u->(∀ l,u≠.lst l)->L2≠b:=λeL eb n z=>by rw [z,eb] at eL; exact n _ (abx eL)
   refine ⟨L2,rfl,⟨_,cG.of UL⟩,fW (xs:=ys.drop k) (λi σ H'=>∃ (ak:aaH) (o5 o6 o7 o8:Option V),σ=[some (.ref p),some (.ref ga),some (.ref p2),some (.ref x),some (.ref ar),o5,o6,o7,o8,none,none,none,none,none,none,none,none]/\RJ C p x dx al ae ar ga (.ref p2) H hs1 ls (((tr.drop k).take i).map iV) (((tr.drop k).take i).map iV) [] ak H'/\H' L2=some (.lst (ys.drop k))/\abG (Ol H') (ys.drop k) (tr.drop k)) ⟨ak0,none,none,none,none,rfl,aec,UL,aed⟩ (λi σ H' _ hz=>by obtain ⟨_,_,_,_,_,_,_,e,_⟩:=hz; exact cG.of e) (λi v σ Yz hv hz=>?_) (fun σ Yz hz=>?_)⟩
   . obtain ⟨ak,o5,o6,o7,o8,rfl,rj,eL,pt⟩:=hz;obtain ⟨t,ht,a,rfl,ea⟩:=bh pt hv;have et:((tr.drop k).take (i+1)).map iV=((tr.drop k).take i).map iV++[iV t]:=by rw [abz,ht,abp]; rfl
     obtain ⟨f1,f2,f3,f4⟩:=Az gh n10 ptr k (i+1);rw [et] at f1 f2 f3 f4;rw [abp] at f2 f3;obtain ⟨gn,gH,mH,r135⟩:=iG gh g3 (f1 (iV t) (abN _ (abe.mpr rfl)));have nn:t.2.2.1 ∉ (((tr.drop k).take i).map iV).map (·.1):=jF f2;have np:(t.1,t.2.1,t.2.2.2) ∉ (((tr.drop k).take i).map iV).map (·.2):=jF f3;have lk:(((tr.drop k).take i).map iV).length<24:=by rw [aay] at f4; simp only [abD,adw] at f4; omega
     generalize ekt:((tr.drop k).take i).map iV=kt at rj et f1 nn np lk;refine ⟨a,_,rfl,bQ.of ea,rfl,_,_,rfl,_,_,rfl,_,_,rfl,_,_,rfl,rfl,?_⟩;refine ⟨by show 3<=sizeLine; omega,λT0 hT=>?_⟩;refine gE hT λIW Hl Xj=>?_
     have aee:=rj.same Hl;obtain ⟨kvs,ek,pkv⟩:=id aee.rw;have oH:=pkv.length;refine ⟨ar,_,rfl,qR.k (k:=acW t.2.2.1) ek (by omega),?_⟩;have N8:aY ar IW (upd IW ar (.dK (putK kvs (.inr t.2.2.1) (.ref T0)))):=λb u n e=>by rw [aB n]; exact e
     have UJ:upd IW ar (.dK (putK kvs (.inr t.2.2.1) (.ref T0))) ar=some (.dK (putK kvs (.inr t.2.2.1) (.ref T0))):=au;generalize ajG:upd IW ar (.dK (putK kvs (.inr t.2.2.1) (.ref T0)))=H14 at N8 UJ |-;clear ajG;have Ug:bV IW H14:=λb xs e=>N8 b _ (λz=>by rw [z,ek] at e; cases e) e
     have zB:=aee.put N8 (rt':=kt++[iV t]) ⟨_,UJ,oK pkv nn Ug (Ug _ _ Xj)⟩;have aeg:=N8 _ _ (NL (Hl _ _ eL) ek (λ_ z=>by cases z)) (Hl _ _ eL);refine ⟨x,dx,_,rfl,zB.kp.ob,by rfl,?_⟩;refine ⟨x,dx,.ref p2,ak,al,ae,hs1,kt,[],t.1,t.2.2.1,t.2.1,t.2.2.2,rfl,zB.kp,gn,gH,(λq hq=>(iG gh g3 (f1 q (afx _ hq))).2.1),nn,np,mH,by have:(iV t).2.2.1=t.2.1:=rfl; omega,by have:(iV t).2.2.1=t.2.1:=rfl; omega,lk,(λl hl=>by cases hl),λKc H15 nk ajH aaO=>?_⟩;have Jg:=zB.tell nk ajH aaO;have aeh:bV H14 H15:=λb xs e=>aaO b _ (λz=>by rw [z,zB.kp.ob] at e; cases e) e
     refine ⟨Kc,_,_,_,_,rfl,by rw [et]; exact Jg,aaO _ _ (NL aeg zB.kp.ob (λ_ z=>by cases z)) aeg,aA (λ_ _ z=>Ol.ts z ((Hl.tups.trans Ug).trans aeh)) pt⟩
   obtain ⟨ak,o5,o6,o7,o8,rfl,rj,_,_⟩:=hz;show U4 _ _;subst hU4;obtain ⟨f1,f2,f3,f4⟩:=Az gh n10 ptr k (ys.drop k).length;generalize ((tr.drop k).take (ys.drop k).length).map iV=kt at rj f1 f2 f3 f4;clear ptr aed aec aeb rj9 rj6 rj4 NL pt9 pm;have Uh:(ls.map ab5).Nodup:=gl.rise.imp λ{a b} h e=>by rw [e,lV.Qc] at h; cases h
   have TP:∀ {kt rt:List aQ} {lk:List Letter} {ak:aaH} {H':Hp},RJ C p x dx al ae ar ga (.ref p2) H hs1 ls kt rt lk ak H'->bV H H':=λr b xs e=>r.sm b _ (oY e ep (by simp)) e
   refine uD λU5 hU5=>?_
   refine cg (bQ.of (TP rj _ _ eg)) (i:=1) (v:=.ref gc) (by rfl) ?_;refine ⟨gc,rfl,⟨_,bQ.of (TP rj _ _ ec)⟩,rM (xs:=Di) (λi σ H'=>∃ (o9 yS uW yR:Option V),σ=[some (.ref p),some (.ref ga),some (.ref p2),some (.ref x),some (.ref ar),o5,o6,o7,o8,o9,yS,uW,yR,none,none,none,none]/\RJ C p x dx al ae ar ga (.ref p2) H hs1 ls kt kt (ls.take i) ak H') ⟨none,none,none,none,rfl,rj⟩ (λi σ H' _ hz=>by obtain ⟨_,_,_,_,_,r⟩:=hz; exact bQ.of (TP r _ _ ec)) (λi v σ IW hv hz=>?_) (fun σ IW hz=>?_)⟩
   . obtain ⟨o9,yS,uW,yR,rfl,rj⟩:=hz;obtain ⟨l,hl,a,rfl,ea⟩:=bh pl0 hv;have gg:=gl.all l (abq hl);have li:i<ls.length:=(abE.mp hl).1;have es:ls.take (i+1)=ls.take i++[l]:=by rw [abz,hl]; rfl
     refine ⟨a,_,rfl,bQ.of (TP rj _ _ ea),rfl,_,_,rfl,_,_,rfl,_,_,rfl,_,_,rfl,rfl,?_⟩;refine ⟨x,dx,_,rfl,rj.kp.ob,by rfl,?_⟩;refine ⟨x,dx,.ref p2,ak,al,ae,hs1,kt,ls.take i,l,rfl,rj.kp,gg.sent,gg.taken,LQ gg,Ay gh gg,?_,Aq gh gg f1,by rw [abI]; omega,λH14 ajI N8=>?_⟩
     . have z:((ls.take (i+1)).map ab5).Nodup:=((afH _ _).map _).nodup Uh;rw [es,abp] at z;exact jF z
     . exact ⟨_,_,_,_,rfl,by rw [es]; exact rj.letter ajI N8⟩
   obtain ⟨o9,yS,uW,yR,rfl,rj⟩:=hz;rw [pl0.length,acL] at rj;show U5 _ _;subst hU5
   have gN:∀ h∈hs1,Good h.name:=λh hh=>(gh.all h hh).name
   have gL:∀ l∈ls,Good l.1.1/\Good l.1.2:=λl hl=>⟨(gl.all l hl).sent,(gl.all l hl).taken⟩
   have gK:∀ q∈kt,Good q.1:=λq hq=>(iG gh g3 (f1 q hq)).1
   refine cV λU6 hU6=>?_
   refine ⟨x,dx,_,rfl,rj.kp.ob,by rfl,?_⟩;refine ⟨x,dx,.ref p2,ak,al,ae,hs1,kt,ls,rfl,rj.kp,λv1 hs2 ls2 H14 lv1 pu1 lo1 s14=>?_⟩;show U6 _ _;subst hU6;have zB:=rj.same s14;have Xo:=Aw gN gK gL pu1 lo1;refine uD λU7 hU7=>?_
   refine cg (bQ.of (TP zB _ _ eg)) (i:=1) (v:=.ref gc) (by rfl) ?_;refine ⟨gc,Di,rfl,.inr (bQ.of (TP zB _ _ ec)),λl15 ajJ=>?_⟩;refine gE ajJ λH15 s15 e15=>?_
   have Jg:=zB.same s15;have l9:yH kt:=⟨kt,[],by simp,(λq hq=>(iG gh g3 (f1 q hq)).2.2.2),λq hq=>by cases hq⟩;refine ⟨.ref p2,ar,l15,hs1,kt,ls,Di,rfl,Jg.kp.ck,by omega,Jg.rw,by omega,f2,l9,e15,aA (λ_ _ z=>z.ts (TP Jg)) pl0,by omega,Uh,λv2 hs3 ls3 H16 lv2 pu2 lo2 s16=>?_⟩;obtain rfl:=gG (F:=ur kt) (λ_ _ _ x y=>pN x y) pu1 pu2;obtain rfl:=mz lo1 lo2;refine ⟨_,_,oM (lv1.ts (s15.trans s16).tups),oM lv2,eV Xo,eV Xo,?_⟩;rw [vV Xo];show U7 _ _;subst hU7;have aei:=Jg.same s16;have ajM:=lv1.ts (s15.trans s16).tups
   have lvl:=pl0.length;refine cV λU8 hU8=>?_
   refine ⟨_,_,rfl,by decide +kernel,by decide +kernel,λl1 us1 ds1 H17 el1 da1 ld1 ajN s17=>?_⟩;have aaP:=aei.same s17;refine ⟨ar,kt,rfl,aaP.rw,by omega,λl2 us2 ms2 H18 PL el2 pm2 wi2 lm2 s18=>?_⟩;have la1:=da1.len;have la2:=pm2.length;refine ⟨l1,l2,us1,us2,rfl,rfl,s18 _ _ el1,el2,by omega,λl3 fl3=>?_⟩;refine gE fl3 λH19 s19 e19=>?_
   show U8 _ _;subst hU8;have Oa:=(aaP.same s18).same s19;refine cV λU9 hU9=>?_
   refine cg (bQ.of (TP Oa _ _ eg)) (i:=1) (v:=.ref gc) (by rfl) ?_;refine ⟨gc,rfl,⟨_,bQ.of (TP Oa _ _ ec)⟩,λD9 fD9=>uq (R:=aR H19) (R':=aR) (F:=λ(l l':Letter)=>l'=(l.1,1,none)) (λs r=>r.ts s.tups) (λe r=>r.ts (dN e)) fD9 (TP Oa _ _ ec) (by omega) (aA (λ_ _ z=>z.ts (TP Oa)) pl0) (λi y l H20 hi ry s20 b Q1 q1=>?_) (λus3 ms3 H20 s20 eD9 Uz pf3=>?_)⟩
   . obtain ⟨a1,rfl,e1⟩:=ry;refine ⟨⟨a1,_,rfl,s20 _ _ e1,λp5 H' e' s'=>?_⟩⟩;refine ⟨by show 2<=sizeLine; omega,λp6 f6=>?_⟩;have s6:Same H' (upd H' p6 (.tup [.int 1,.non])):=(Same.refl H').upd f6;refine ⟨⟨p5,p6,_,_,rfl,rfl,s6 _ _ e',au,by show 2+2<=sizeLine; omega,λp7 H7 hp7 s7=>?_⟩⟩;exact q1 _ _ (l.1,1,none) ((s'.trans s6).trans s7) ⟨p7,rfl,hp7⟩ rfl
   have la3:=Uz.length;have la4:=pf3.length;refine ⟨l3,D9,us1++us2,us3,rfl,rfl,s20 _ _ e19,eD9,by rw [aay]; omega,λl4 fl4=>?_⟩;refine gE fl4 λH21 s21 e21=>?_
   show U9 _ _;subst hU9;have aaQ:=(Oa.same s20).same s21;have YF:=((s18.trans s19).trans s20).trans s21;have ael:=(s19.trans s20).trans s21
   have tell:∀ v∈us1++us2++us3,oZ kt ls H21 v:=λv hv=>by
     rcases abv.mp hv with hv | hv
     . rcases abv.mp hv with hv | hv
       . exact (TV da1 ajN v hv).same YF
       . exact (FJ pm2 (λm hm=>by
           obtain ⟨m1,m2,m3,m4,m5⟩:=wi2 m hm;obtain ⟨q1,h1,e1⟩:=abj.mp m1;obtain ⟨q2,h2,e2⟩:=abj.mp m2
           exact ⟨e1 ▸ gK q1 h1,e2 ▸ gK q2 h2,m5,m3,.inr m4⟩) v hv).same ael
     . refine (FJ Uz (λm hm=>?_) v hv).same s21
       have key:∀ {A B:List Letter},abG (λ(l l':Letter)=>l'=(l.1,1,none)) A B->∀ m∈B,∃ l∈A,m=(l.1,1,none):=λz=>by
         induction z with
         | nil=>intro m hm; cases hm
         | cons h _ ih =>
           intro m hm;rcases abu.mp hm with rfl | hm
           . exact ⟨_,abw,h⟩
           . obtain ⟨l,hl,e⟩:=ih m hm;exact ⟨l,abk _ hl,e⟩
       obtain ⟨l,hl,rfl⟩:=key pf3 m hm;exact ⟨(gL l hl).1,(gL l hl).2,rfl,Ay (l:=l) gh (gl.all l hl),.inl (abj.mpr ⟨l,hl,rfl⟩)⟩
   have lth:(us1++us2++us3).length<=100:=by rw [aay,aay]; omega
   generalize us1++us2++us3=th at e21 tell lth;refine uD λU10 ajR=>?_
   refine ⟨l4,rfl,⟨_,cG.of e21⟩,λD10 aem=>tM (xs:=th) (λi H'=>dX H21 H' D10 ((aft i true).map V.bl)) (dX.start aem) (λi H' _ G=>cG.of (G.same _ _ e21)) (λH22 G=>?_) (λi v H22 hv hi G b=>?_)⟩
   rotate_left
   . obtain ⟨pp,vS,vT,vL,vM,ds,dt,dl,dm,rfl,hp,d1,d2,d3,d4,c⟩:=(tell v (abq hv)).same G.same;refine ⟨x,dx,.ref p2,ak,al,ae,hs1,kt,ls,pp,vS,vT,vL,vM,ds,dt,dl,dm,rfl,hp,(aaQ.same G.same).kp,d1,d2,d3,d4,c,λH23 s23=>?_⟩;refine ⟨_,(G.more s23).at',by rw [aac,akJ]; omega,nx hi ?_⟩;have z:=(G.more s23).put aem (.bl true);rw [List.replicate_succ',abp];exact z
   refine ⟨D10,_,rfl,cG.of G.at',?_⟩;have Xp:=aaQ.same G.same;have ea:(aft th.length true).all id=true:=by simp
   rw [ea];refine ⟨x,dx,_,rfl,Xp.kp.ob,by rfl,?_⟩;refine ⟨x,dx,.ref p2,ak,al,ae,hs1,kt,ls,rfl,Xp.kp,λv3 hs3 ls3 H23 lv3 pu3 lo3 s23=>?_⟩;obtain rfl:=gG (F:=ur kt) (λ_ _ _ x y=>pN x y) pu1 pu3;obtain rfl:=mz lo1 lo3;have aeo:Same H16 H23:=(s17.trans YF).trans (G.same.trans s23);have aaR:=ajM.ts aeo.tups;refine ⟨_,_,oM lv3,oM aaR,eV Xo,eV Xo,?_⟩;rw [vV Xo];show U10 _ _;subst ajR;have Xq:=Xp.same s23;have TT:Two hs1 ls kt:=⟨f1,gh,gl,g3,λn hn=>by rw [ajv,ajw]; exact nq n hn⟩;clear Xp aaQ Oa aaP aei Jg zB tell G
   have lhs:=gh.lo;obtain ⟨h0,eh0⟩:∃ h0,hs1[0]?=some h0:=⟨_,aaj (by omega)⟩;have mh0:h0∈hs1:=abq eh0
   have HN:∀ {H':Hp} {i:Nat} {h:aL},jy H' (.ref p2) hs1->hs1[i]?=some h->∃ vs c,H' p2=some (.tup vs)/\vs.length=hs1.length/\zO vs (i:Int)=some (.ref c)/\H' c=some (.tup [.str h.name,.int h.low,.int h.high,.int h.aW]):=λck e=>by
     obtain ⟨p',vs,ep',e2',pc⟩:=ck;cases ep';obtain ⟨c0,ec0,c,rfl,ec⟩:=fu pc e;exact ⟨vs,c,e2',pc.length,je ec0,ec⟩
   refine cV λU11 ajS=>?_
   obtain ⟨vs0,c0,ev0,_,ac0,ec0⟩:=HN (i:=0) Xq.kp.ck eh0;refine cg (bQ.of ev0) ac0 ?_;refine cg (bQ.of ec0) (i:=0) (v:=.str h0.name) (by rfl) ?_;show U11 _ _;subst ajS;have g0:Good h0.name:=gN h0 mh0;have mn0:h0.name∈hs1.map aL.name:=abj.mpr ⟨h0,mh0,rfl⟩
   refine cV λU12 ajU=>?_
   refine ⟨by show 4<=sizeLine; omega,λT1 fT1=>?_⟩;refine gE fT1 λA1 aaS Xr=>?_
   refine ⟨by show 4<=sizeLine; omega,λT2 fT2=>?_⟩;refine gE fT2 λA2 Ui Xu=>?_
   refine ⟨by show 2<=sizeLine; omega,λL5 fL5=>?_⟩;refine gE fL5 λA3 Xv Uj=>?_
   show U12 _ _;subst ajU;have SA3:=(aaS.trans Ui).trans Xv;have l1:∀ {H':Hp},Same A3 H'->aR H' (.ref T1) m1:=λz=>⟨T1,rfl,z _ _ ((Ui.trans Xv) _ _ Xr)⟩
   have l2:∀ {H':Hp},Same A3 H'->aR H' (.ref T2) m2:=λz=>⟨T2,rfl,z _ _ (Xv _ _ Xu)⟩
   refine cV λU13 ajX=>?_
   refine ⟨L5,_,rfl,cG.of Uj,λL6 fL6=>?_⟩;rw [show qQ [V.ref T1,V.ref T2] none (some 1)=[V.ref T1] from rfl];refine gE fL6 λA4 Xw aaT=>?_
   refine ⟨L5,_,rfl,cG.of (Xw _ _ Uj),λL7 fL7=>?_⟩;rw [show qQ [V.ref T1,V.ref T2] (some 1) none=[V.ref T2] from rfl];refine gE fL7 λA5 Uk aaU=>?_
   refine ⟨by show 3<=sizeLine; omega,λL8 fL8=>?_⟩;refine gE fL8 λA6 Ob Xx=>?_
   have Xy:=(Xw.trans Uk).trans Ob;have Oc:=Xq.same (SA3.trans Xy);refine ⟨p,3,rfl,Oc.pk,by decide,by decide,λd A7 d0 d1 ajY Dd=>?_⟩;have aer:=Oc.pack ajY Dd;have aes:dY A7 v1 hs2 ls2:=(aaR.ts (SA3.trans Xy).tups).ts (aY.tups Oc.pk Dd);have lA7:∀ {v m},aR A6 v m->aR A7 v m:=λz=>z.ts (aY.tups Oc.pk Dd)
   have nP:∀ {q:aaH},H q=none->q≠p:=λ{q} f z=>by rw [z,ep] at f; cases f
   have go:∀ (d:Nat) (Lm:aaH) (vm:List V),A7 Lm=some (.lst vm)->abG (aR A7) vm (bL d)->U13 [some (.ref p),some (.ref ga),some (.ref p2),some (.ref x),some (.ref ar),some (.str h0.name),o6,o7,o8,o9,yS,uW,yR,some v1,some (.ref l4),some (.ref Lm),none] A7:=by
     intro d Lm vm eLm pvm;clear d0 d1;subst ajX;clear l1 l2 Xy SA3 Oc lA7 Xx aaU aaT Uj Xu Xr Ob Uk Xw Xv Ui aaS Xq aaR;have ln2:=N5 d;refine uD λU14 aj0=>?_
     refine ⟨Lm,rfl,⟨_,cG.of eLm⟩,fW (xs:=vm) (λi σ H'=>∃ (o9 yS uW yR:Option V),σ=[some (.ref p),some (.ref ga),some (.ref p2),some (.ref x),some (.ref ar),some (.str h0.name),o6,o7,o8,o9,yS,uW,yR,some v1,some (.ref l4),some (.ref Lm),none]/\RJ C p x dx al ae ar ga (.ref p2) H hs1 ls kt kt (ls++(bL d).take i) ak H'/\H' Lm=some (.lst vm)/\abG (aR H') vm (bL d)/\dY H' v1 hs2 ls2) ⟨_,_,_,_,rfl,by rw [aie,adx]; exact aer,eLm,pvm,aes⟩ (λi σ H' _ hz=>by obtain ⟨_,_,_,_,_,_,e,_⟩:=hz; exact cG.of e) (λi v σ B1 hv hz=>?_) (fun σ B1 hz=>?_)⟩
     . obtain ⟨o9,yS,uW,yR,rfl,rj,eL,pL,lv⟩:=hz;obtain ⟨l,hl,a,rfl,ea⟩:=bh pL hv;have ml:l∈bL d:=abq hl;have es:(bL d).take (i+1)=(bL d).take i++[l]:=by rw [abz,hl]; rfl
       refine ⟨a,_,rfl,bQ.of ea,rfl,_,_,rfl,_,_,rfl,_,_,rfl,_,_,rfl,rfl,?_⟩;refine ⟨x,dx,_,rfl,rj.kp.ob,by rfl,?_⟩;refine ⟨x,dx,.ref p2,ak,al,ae,hs1,kt,ls++(bL d).take i,l,rfl,rj.kp,(Ba ml).1,(Ba ml).2,Xm ml,Ja ml,?_,Ky TT.ns ml,by rw [aay,abI]; omega,λB2 aj1 aaV=>?_⟩
       . have z:((ls++(bL d).take (i+1)).map ab5).Nodup:=(((List.Sublist.refl ls).append (afH _ _)).map _).nodup (TT.nodup d);rw [es,<- adz,abp] at z;exact jF z
       . obtain ⟨k2,e2k,_⟩:=id rj.kp.lt;have tB:bV B1 B2:=λb xs e=>aaV b _ (λz=>by rw [z,e2k] at e; cases e) e
         refine ⟨_,_,_,_,rfl,by rw [es,<- adz]; exact rj.letter aj1 aaV,aaV _ _ (λz=>by rw [z,e2k] at eL; cases eL) eL,aA (λ_ _ z=>z.ts tB) pL,lv.ts tB⟩
     obtain ⟨o9,yS,uW,yR,rfl,rj,eL,pL,lv⟩:=hz;rw [pL.length,acL] at rj;show U14 _ _;subst aj0;clear aer eLm pvm aes
     refine uD λU15 aj2=>?_
     refine ⟨x,dx,_,rfl,rj.kp.ob,by rfl,?_⟩;refine ⟨x,dx,.ref p2,ak,al,ae,hs1,kt,ls++bL d,rfl,rj.kp,λv4 hs4 ls4 B2 lv4 pu4 lo4 sB2=>?_⟩;obtain rfl:=gG (F:=ur kt) (λ_ _ _ x y=>pN x y) pu1 pu4;obtain rfl:=mz lo1 (yJ TT.ns lo4);refine ⟨_,_,oM lv4,oM (lv.ts sB2.tups),eV Xo,eV Xo,?_⟩;rw [vV Xo];have Od:=rj.same sB2;refine ⟨x,dx,_,rfl,Od.kp.ob,by rfl,?_⟩;refine ⟨⟨by decide,by decide,by decide⟩,?_⟩;refine ⟨x,dx,.ref p2,ak,al,ae,hs1,kt,ls++bL d,h0.name,qr,9,1000000,rfl,Od.kp,NT,g0,λq hq=>TT.gh hq,TT.nr,TT.pl (.inr rfl),mn0,by decide,by decide,by omega,TT.all1,λak1 B3 nk1 aj3 aaW=>?_⟩;have aaX:=Od.tell nk1 aj3 aaW;have tB3:bV B2 B3:=λb xs e=>aaW b _ (λz=>by rw [z,Od.kp.ob] at e; cases e) e
     have aew:=aaW _ _ (λz=>by rw [z] at eL; have y:=sB2 _ _ eL; rw [Od.kp.ob] at y; cases y) (sB2 _ _ eL);have aex:abG (aR B3) vm (bL d):=aA (λ_ _ z=>(z.ts sB2.tups).ts tB3) pL;refine ⟨rfl,?_⟩;show U15 _ _;subst aj2;clear Od rj eL pL lv
     refine uD λU16 aj4=>?_
     refine ⟨by show 2<=sizeLine; omega,λT5 fT5=>?_⟩;refine gE fT5 λC1 aj5 aj6=>?_
     refine ⟨by show 2<=sizeLine; omega,λT6 fT6=>?_⟩;refine gE fT6 λC2 aey aj7=>?_
     refine ⟨by show 2<=sizeLine; omega,λL9 fL9=>?_⟩;refine gE fL9 λC3 aaY aez=>?_
     have t5:=(aey.trans aaY) _ _ aj6;have t6:=aaY _ _ aj7;have SC:=(aj5.trans aey).trans aaY;refine ⟨L9,rfl,⟨_,cG.of aez⟩,fW (xs:=[.ref T5,.ref T6]) (λi σ H'=>∃ (o6 o8:Option V),σ=[some (.ref p),some (.ref ga),some (.ref p2),some (.ref x),some (.ref ar),some (.str h0.name),o6,o7,o8,o9,yS,uW,yR,some v1,some (.ref l4),some (.ref Lm),none]/\Same C3 H') ⟨_,_,rfl,Same.refl _⟩ (λi σ H' _ hz=>by obtain ⟨_,_,_,sD⟩:=hz; exact cG.of (sD _ _ aez)) (λi v σ D1 hv hz=>?_) (fun σ D1 hz=>?_)⟩
     . obtain ⟨o6,o8,rfl,sD⟩:=hz
       obtain ⟨a,r,j,rfl,ea,c⟩:∃ (a:aaH) (r j:Int),v=.ref a/\C3 a=some (.tup [.int r,.int j])/\(r=8/\j=5\/r=9/\j=7):=by
         match i,hv with
         | 0,hv=>cases hv; exact ⟨T5,8,5,rfl,t5,.inl ⟨rfl,rfl⟩⟩
         | 1,hv=>cases hv; exact ⟨T6,9,7,rfl,t6,.inr ⟨rfl,rfl⟩⟩
       refine ⟨a,_,rfl,bQ.of (sD _ _ ea),rfl,_,_,rfl,_,_,rfl,rfl,?_⟩;refine ⟨by show 4<=sizeLine; omega,λT7 fT7=>?_⟩;refine gE fT7 λD2 aeA aj8=>?_
       refine ⟨x,dx,.ref p2,ak1,al,ae,hs1,kt++[((qr,h0.name,9,1000000):aQ)],ls++bL d,T7,h0.name,qs,r,j,rfl,aj8,((aaX.same SC).same (sD.trans aeA)).kp,FN,g0,TT.Ub g0,TT.Xl,TT.pl1 (by omega),mn0,by omega,by omega,by rw [aay]; simp only [abD,adw]; omega,TT.ad7,λD3 sD3=>?_⟩;exact ⟨_,_,rfl,(sD.trans aeA).trans sD3⟩
     obtain ⟨o6,o8,rfl,sD⟩:=hz;show U16 _ _;subst aj4;have rjD:=(aaX.same SC).same sD;have eLD:=(SC.trans sD) _ _ aew;have pLD:abG (aR D1) vm (bL d):=aA (λ_ _ z=>z.ts (SC.trans sD).tups) aex;clear aaX aew aex;refine uD λU17 akb=>?_
     refine ⟨x,dx,.ref p2,ak1,al,ae,hs1,kt++[((qr,h0.name,9,1000000):aQ)],ls++bL d,h0.name,rfl,rjD.kp,FN,g0,TT.Ub g0,TT.Xl,abj.mpr ⟨(qr,h0.name,9,1000000),abN _ (abe.mpr rfl),rfl⟩,mn0,λE1 sE1=>?_⟩;show U17 _ _;subst akb;have rjE:=rjD.same sE1;have eLE:=sE1 _ _ eLD;have pLE:abG (aR E1) vm (bL d):=aA (λ_ _ z=>z.ts sE1.tups) pLD;clear rjD eLD pLD
     refine uD λU18 ake=>?_
     refine ⟨⟨by decide,by decide,by decide⟩,?_⟩;refine ⟨by show 3<=sizeLine; omega,λT8 fT8=>?_⟩;refine gE fT8 λE2 sE2 eE2=>?_
     have aaZ:=rjE.same sE2;obtain ⟨kvs,ek,pkv⟩:=id aaZ.rw;have oH:=pkv.length;refine ⟨ar,_,rfl,qR.k (k:=acW "qqqqqqqr") ek (by omega),?_⟩;have Wj:aY ar E2 (upd E2 ar (.dK (putK kvs (.inr "qqqqqqqr") (.ref T8)))):=λb u n e=>by rw [aB n]; exact e
     have e3:upd E2 ar (.dK (putK kvs (.inr "qqqqqqqr") (.ref T8))) ar=some (.dK (putK kvs (.inr "qqqqqqqr") (.ref T8))):=au;generalize hE3:upd E2 ar (.dK (putK kvs (.inr "qqqqqqqr") (.ref T8)))=E3 at Wj e3 |-;clear hE3;have t23:bV E2 E3:=λb xs e=>Wj b _ (λz=>by rw [z,ek] at e; cases e) e
     have Xz:=aaZ.put Wj (rt':=kt++[((qr,h0.name,9,1000000):aQ)]) ⟨_,e3,oK (n:=qr) (p:=(h0.name,9,1000000)) pkv TT.nr t23 (t23 _ _ eE2)⟩;have aeB:=Wj _ _ (λz=>by have y:=sE2 _ _ eLE; rw [z,ek] at y; cases y) (sE2 _ _ eLE);have aeC:abG (aR E3) vm (bL d):=aA (λ_ _ z=>(z.ts sE2.tups).ts t23) pLE;show U18 _ _;subst ake;clear rjE aaZ eLE pLE;refine cV λU19 akf=>?_
     refine cg (bQ.of (TP Xz _ _ eg)) (i:=1) (v:=.ref gc) (by rfl) ?_;refine ⟨gc,Di,rfl,.inr (bQ.of (TP Xz _ _ ec)),λl9 fl9=>?_⟩;refine gE fl9 λE4 aa0 aeD=>?_
     have XC:=Xz.same aa0;have akg:=aa0 _ _ aeB;have aeE:abG (aR E4) vm (bL d):=aA (λ_ _ z=>z.ts aa0.tups) aeC;have pl4:abG (aR E4) Di ls:=aA (λ_ _ z=>z.ts (TP XC)) pl0;have lvm:=aeE.length;show U19 _ _;subst akf;clear Xz aeB aeC;have asj:(kt++[((qr,h0.name,9,1000000):aQ)]).length<=11:=by rw [aay]; simp only [abD,adw]; omega
     refine ajs (fun σ H'=>∃ (kF:List aQ) (lF:List Letter) (aF lh:aaH) (vF:List V),σ=[some (.ref p),some (.ref ga),some (.ref p2),some (.ref x),some (.ref ar),some (.str h0.name),o6,o7,o8,o9,yS,uW,yR,some v1,some (.ref l4),some (.ref Lm),some (.ref lh)]/\RJ C p x dx al ae ar ga (.ref p2) H hs1 ls kF kF (ls++bL d) aF H'/\H' lh=some (.lst vF)/\abG (aR H') vF lF/\(∀ a,mV kF (ls++bL d) a->mV kF lF a)/\yH kF/\(kF.map (·.1)).Nodup/\kF.length<=12/\(∀ q∈kF,Good q.1)/\(lF.map ab5).Nodup/\lF.length<=8) (λU20 aeF=>?_) (fun σ F1 hz=>?_)
     . obtain ⟨vs1,_,ev1,akh,_,_⟩:=HN (i:=0) XC.kp.ck eh0;refine ⟨p2,_,rfl,.inr (bQ.of ev1),?_⟩;rw [akh];refine eZ (λc=>?_) (λc=>?_)
       . have two:(hs1.length:Int) > 1:=of_decide_eq_true c;obtain ⟨h1,eh1⟩:∃ h1,hs1[1]?=some h1:=⟨_,aaj (by omega)⟩;have mh1:h1∈hs1:=abq eh1;have mn1:h1.name∈hs1.map aL.name:=abj.mpr ⟨h1,mh1,rfl⟩
         have n01:h0.name≠h1.name:=λz=>by
           have a1:(hs1.map aL.name)[0]?=some h0.name:=by rw [aaJ,eh0]; rfl
           have a2:(hs1.map aL.name)[1]?=some h0.name:=by rw [aaJ,eh1,z]; rfl
           have y:=(agL (by rw [aac]; omega) gh.names).mp (a1.trans a2.symm);cases y
         refine cV λU21 aki=>?_
         refine ⟨l9,Lm,Di,vm,rfl,rfl,aeD,akg,by omega,λl10 akj=>?_⟩;refine gE akj λE5 aeG aeH=>?_
         have aeI:=XC.same aeG;have pl5:abG (aR E5) (Di++vm) (ls++bL d):=aA (λ_ _ z=>z.ts aeG.tups) (bC pl4 aeE);show U21 _ _;subst aki;refine uD λU22 akk=>?_
         obtain ⟨vs2,c2,ev2,_,ac2,ec2⟩:=HN (i:=1) aeI.kp.ck eh1;refine cg (bQ.of ev2) ac2 ?_;refine cg (bQ.of ec2) (i:=0) (v:=.str h1.name) (by rfl) ?_;refine ⟨⟨by decide,by decide,by decide⟩,?_⟩;refine ⟨by show 3<=sizeLine; omega,λT9 fT9=>?_⟩;refine gE fT9 λE6 sE6 eE6=>?_
         have aeJ:=aeI.same sE6;obtain ⟨kv6,ek6,pk6⟩:=id aeJ.rw;have aiw:=pk6.length;refine ⟨ar,_,rfl,qR.k (k:=acW "qqqqqqqs") ek6 (by omega),?_⟩;have sb7:aY ar E6 (upd E6 ar (.dK (putK kv6 (.inr "qqqqqqqs") (.ref T9)))):=λb u n e=>by rw [aB n]; exact e
         have e7:upd E6 ar (.dK (putK kv6 (.inr "qqqqqqqs") (.ref T9))) ar=some (.dK (putK kv6 (.inr "qqqqqqqs") (.ref T9))):=au;generalize hE7:upd E6 ar (.dK (putK kv6 (.inr "qqqqqqqs") (.ref T9)))=E7 at sb7 e7 |-;clear hE7;have t67:bV E6 E7:=λb xs e=>sb7 b _ (λz=>by rw [z,ek6] at e; cases e) e
         have Oe:=aeJ.put sb7 (rt':=kt++[((qr,h0.name,9,1000000):aQ)]++[((qs,h1.name,9,1000000):aQ)]) ⟨_,e7,oK (n:=qs) (p:=(h1.name,9,1000000)) pk6 TT.Xl t67 (t67 _ _ eE6)⟩;have eL7:=sb7 _ _ (λz=>by have y:=sE6 _ _ aeH; rw [z,ek6] at y; cases y) (sE6 _ _ aeH);have pl7:abG (aR E7) (Di++vm) (ls++bL d):=aA (λ_ _ z=>(z.ts sE6.tups).ts t67) pl5;show U22 _ _;subst akk;refine ⟨x,dx,_,rfl,Oe.kp.ob,by rfl,?_⟩;obtain ⟨vs3,c3,ev3,_,ac3,ec3⟩:=HN (i:=1) Oe.kp.ck eh1;refine cg (bQ.of ev3) ac3 ?_;refine cg (bQ.of ec3) (i:=0) (v:=.str h1.name) (by rfl) ?_;refine ⟨⟨by decide,by decide,by decide⟩,?_⟩;refine ⟨x,dx,.ref p2,ak1,al,ae,hs1,kt++[((qr,h0.name,9,1000000):aQ)],ls++bL d,h1.name,qs,9,1000000,rfl,Oe.kp,FN,gN h1 mh1,TT.Ub g0,TT.Xl,TT.pl2 n01,mn1,by decide,by decide,by omega,TT.all2 n01,λak2 E8 nk2 ako aa1=>?_⟩;have akp:=Oe.tell nk2 ako aa1;have t78:bV E7 E8:=λb xs e=>aa1 b _ (λz=>by rw [z,Oe.kp.ob] at e; cases e) e
         refine ⟨rfl,?_⟩;exact aeF _ _ ⟨_,ls++bL d,ak2,l10,Di++vm,rfl,akp,aa1 _ _ (λz=>by rw [z,Oe.kp.ob] at eL7; cases eL7) eL7,aA (λ_ _ z=>z.ts t78) pl7,λa ha=>ha,TT.ad9,TT.nd2 f2,by rw [aay]; simp only [abD,adw]; omega,TT.gK2,TT.nodup d,by rw [aay]; omega⟩
       . exact aeF _ _ ⟨_,ls,ak1,l9,Di,rfl,XC,aeD,pl4,λa ha=>yJ TT.Xl ha,TT.ad8,TT.nd1 f2,by omega,TT.gK1,Uh,by omega⟩
     obtain ⟨kF,lF,aF,lh,vF,rfl,rjF,eF,pF,loF,l9F,ndF,asH,gF,nlF,llF⟩:=hz;refine ⟨x,dx,_,rfl,rjF.kp.ob,by rfl,?_⟩;refine ⟨x,dx,.ref p2,aF,al,ae,hs1,kF,ls++bL d,rfl,rjF.kp,λv5 hs5 ls5 F2 lv5 Yw lo5 sF2=>?_⟩;have aa2:=rjF.same sF2;refine ⟨.ref p2,ar,lh,hs1,kF,lF,vF,rfl,aa2.kp.ck,by omega,aa2.rw,by omega,ndF,l9F,sF2 _ _ eF,aA (λ_ _ z=>z.ts sF2.tups) pF,by omega,nlF,λv6 hs6 ls6 F3 lv6 pu6 lo6 sF3=>?_⟩;have gn5:=Aw gN gF TT.gL Yw lo5;obtain rfl:=gG (F:=ur kF) (λ_ _ _ x y=>pN x y) Yw pu6;obtain rfl:=mz (loF _ lo5) lo6;refine ⟨_,_,oM (lv5.ts sF3.tups),oM lv6,eV gn5,eV gn5,?_⟩;rw [vV gn5];exact q _ (aa2.same sF3).sm
   have pA5:∃ n,A5 p=some n:=by
     obtain ⟨n,e,_⟩:=(Xq.same ((SA3.trans Xw).trans Uk)).pk;exact ⟨_,e⟩
   obtain ⟨pn5,pA5⟩:=pA5;have nL8:L8≠p:=(aH pA5 fL8).symm
   have nL:∀ {q:aaH} {l:List V},A6 q=some (.lst l)->(∀ v∈l,∃ b,v=.ref b)->l≠[]->q≠p:=λ{q l} e hl ne z=>by
     obtain ⟨n,e',_⟩:=Oc.pk;rw [z,e'] at e;cases l with
     | nil=>exact ne rfl
     | cons y ys =>
       obtain ⟨b,rfl⟩:=hl y abw;cases e
   have d3:d=0\/d=1\/d=2:=by omega
   rcases d3 with rfl | rfl | rfl
   . refine sy (v:=.ref L5) (Dd _ _ nL8 Xx) rfl ?_;exact go 0 L5 _ (Dd _ _ (nL (Xy _ _ Uj) (by simp) (by simp)) (Xy _ _ Uj)) (.cons (lA7 (l1 Xy)) (.cons (lA7 (l2 Xy)) .nil))
   . refine sy (v:=.ref L6) (Dd _ _ nL8 Xx) rfl ?_;exact go 1 L6 _ (Dd _ _ (nL ((Uk.trans Ob) _ _ aaT) (by simp) (by simp)) ((Uk.trans Ob) _ _ aaT)) (.cons (lA7 (l1 Xy)) .nil)
   . refine sy (v:=.ref L7) (Dd _ _ nL8 Xx) rfl ?_;exact go 2 L7 _ (Dd _ _ (nL (Ob _ _ aaU) (by simp) (by simp)) (Ob _ _ aaU)) (.cons (lA7 (l2 Xy)) .nil)
theorem Ul {X:Cx} {es rest:List Expr} {x1 pos} {t:TE} {ts} (h:PE X (.Tuple es x1 pos) t) (h2:PA X rest ts):PA X (.Tuple es x1 pos :: rest) (jV t ts):=aj h h2
theorem mK {X:Cx} {c j pos} {rest:List Expr} {t:TE} {ts} (h:PE X (.Constant c j pos) t) (h2:PA X rest ts):PA X (.Constant c j pos :: rest) (jV t ts):=aj h h2
theorem aa3 {X:Cx} {es rest:List Expr} {x1 pos} {t:TE} {ts} (h:SE X (.Tuple es x1 pos) t) (h2:SA X rest ts):SA X (.Tuple es x1 pos :: rest) (jV t ts):=⟨Ul h.h h2.h⟩
theorem Df {X:Cx} {c j pos} {rest:List Expr} {t:TE} {ts} (h:SE X (.Constant c j pos) t) (h2:SA X rest ts):SA X (.Constant c j pos :: rest) (jV t ts):=⟨mK h.h h2.h⟩
theorem Um {X:Cx} {C f:aaH} {fd:abL} {CX} {k:Nat} {ps} {sp:Sp} {x:Str} {ds qC E t} {es:List Expr} {x1 p1 p pos} (M:Mk X.K C f) (F:aV X.prog X.w X.K X.mg X.base CX k f fd ps sp) (hr:fX (k+1) X.A) (hg:Gl X x) (hm:X.mg x=some (.ref C)) (hb:Binds X.K fd ps ds) (hd:Vals qC ds) (hx:Passes CX X E)
   (ha:SE X (.Tuple es x1 p1) t) (hdb:(x == ("__debug__" : Str))=false:=by decide):SE X (.Call (.Name x p) [.Tuple es x1 p1] [] pos) (X6 C sp qC E (jV t yX)):=⟨Jr M F hr hg hm hb hd hx (Ul ha.h ao) hdb rfl rfl⟩
noncomputable def XD:List aL:=[⟨"a",0,0,0,[]⟩]
theorem g_a:Good "a":=sW (by decide +kernel)
theorem akv:cH XD:=by
 refine ⟨by decide,by decide,λh hh=>?_,by simp [XD],by simp [XD,namesOf,fG,qH],by decide⟩;rw [abe.mp hh];exact ⟨g_a,by decide,by decide,by decide,λr hr=>by cases hr⟩
noncomputable def tS (k:Nat):Str:=⟨#[98,97+k]⟩
noncomputable def UG (k:Nat):Letter:=(("a",tS k),1,none)
noncomputable def rJ:List Letter:=(acF 24).map UG
theorem XF:((acF 24).all λk=>decide (1<=(tS k).length) && decide ((tS k).length<=8) && (tS k).cps.toList.all low)=true:=by decide +kernel
theorem aeK:((acF 24).all λk=>bG (jx (UG k)))=true:=by decide +kernel
theorem aeL:((acF 24).all λk=>decide (("a" : Str)≠tS k))=true:=by decide +kernel
theorem XH:(rJ.map ab5).Nodup:=by decide +kernel
theorem aa4:(("a","c"):Str × Str) ∉ rJ.map ab5:=by decide +kernel
theorem aa5:(("a","ba"):Str × Str)∈rJ.map ab5:=by decide +kernel
theorem aeM:bG (.tup [.str "a",.str "c",.int 1,.non])=true:=by decide +kernel
theorem aeN:bG (.tup [.str "a",.str "ba",.int 1,.non])=true:=by decide +kernel
theorem a_c:("a" : Str)≠"c":=by decide +kernel
theorem a_b:("a" : Str)≠"ba":=by decide +kernel
noncomputable def KC (K:aaf):Sp:=λvs H Q _=>∃ (a:aaH) (ns:List Int),vs=[.ref a]/\cG K H a (ns.map V.int)/\ns.length<=63/\(∀ n∈ns,Qh n)/\∀ H',Q (.bl true) H'
theorem Dg:aZ ["_law_script","_law_k","_law_keeper"] ["_law_script"] (aJ Z1):=nj
theorem aa6 {f lK yK:aaH} {fd jG sY:abL} (F:dO K "law" "law" Z1 f fd) (T:Txt mg t8 t6 tR tL) (TC:KCls K mg C t9) (XJ:Cl P w K mg base 9 "_law_right" ["_law_pack_here","_law_ledger_here"] uI) (xT:Cl P w K mg base 9 "_law_pack" ["_law_script","_law_k"] (BR K)) (Jh:Cl P w K mg base 9 "_law_ledger" ["_law_script","_law_k"] (rB K)) (ql:Cl P w K mg base 9 "_law_refused" ["_law_keeper","_law_told"] (qd C))
   (qm:aV P w K mg base dF 9 lK jG ["self","sent","taken","least","most"] (pQ C)) (qp:Meth K C "letter" lK) (qt:Binds K jG ["self","sent","taken","least","most"] [])
   (Je:aV P w K mg base dF 8 yK sY ["self","houses"] (vU C)) (M_K:Mk K C yK) (Jf:Binds K sY ["self","houses"] []):aV P w K mg base dF 10 f fd ["_law_script"] (KC K):=by
 refine F.ok Dg (λvs H Q E h=>?_) (λcdv A outer s H vs Q E hr h=>?_)
 . obtain ⟨a,ns,rfl,_⟩:=h;rfl
 . obtain ⟨a,ns,rfl,ha,hl,hb,q⟩:=h;have jH:sizeLine=16777216:=aby;refine ⟨_,(aq (dG acK rfl (Lq rfl T.range (aj aD (aj (aM (zG rfl) rfl T.max ant (aj aD (aj (aM (K4 rfl) rfl T.min PyProof.Rows.boot_min (aj (aM cB rfl T.len adp (aj (pV 0) ao)) (aj aD ao))) ao))) (aj aD ao)))) (pY 1 Dg) (aG (bW (cP (sZ (pC XJ hr (aj (pC xT hr (aj (pV 0) (aj (bx iT (pV 1) aD) ao))) (aj (pC Jh hr (aj (pV 0) (aj (pV 1) ao))) ao))))) (aG (bf iJ)) aU))) (aq (pZ 2 Dg (SE.h (Um M_K Je hr rfl TC.mgC Jf .nil gZ (gU (aa3 (gU (Df qY (Df eU (Df eU (Df eU cZ))))) cZ))))) (aq (dG acK rfl (fM rfl T.range (aj aD ao)) (pY 1 Dg) (aG (cW (gj (pV 2) TC.cl qp qm hr qt .nil gZ (aj bY (aj (bx Vt bY (pX Vv bY (pV 1))) (aj aD (aj iw ao)))))))) (aG (bf (nG (pC ql hr (aj (pV 2) (aj (bH (mK bY (mK bY (mK aD (mK iw ao))))) ao))) (jP (pC ql hr (aj (pV 2) (aj (bH (mK bY (mK bY (mK aD (mK iw ao))))) ao)))))))))),?_⟩;refine uD λU1 Q6=>?_
   refine ⟨a,_,rfl,.inl ha,?_⟩;refine ⟨_,24,rfl,?_⟩;refine ⟨1,_,rfl,?_⟩;obtain ⟨mx,emx,mx1,mx2⟩:∃ mx:Int,mx=(if (if (24:Int)<((ns.map V.int).length:Int) then 24 else ((ns.map V.int).length:Int)) > 1 then (if (24:Int)<((ns.map V.int).length:Int) then 24 else ((ns.map V.int).length:Int)) else 1)/\1<=mx/\mx<=24:=⟨_,rfl,by split <;> omega,by split <;> (try split) <;> omega⟩;rw [<- emx]
   have en:ac1 0 mx 8<=3:=by
     unfold ac1;rw [if_pos (by decide),if_pos (by omega)];omega
   refine ⟨0,mx,8,rfl,⟨by decide,by decide,by omega,by omega,by decide,by decide⟩,Hf (λi σ H'=>∃ o1:Option V,σ=[some (.ref a),o1,none]/\Same H H') ⟨none,rfl,Same.refl H⟩ (λi σ H1 hi hz=>?_) (fun σ H1 hz=>?_)⟩
   . obtain ⟨o1,rfl,S1⟩:=hz;refine ⟨a,ns,0+(i:Int) * 8+6,rfl,sG S1 ha,hb,hl,by omega,by omega,λp H3 fp pk s3=>?_⟩;have S3:=S1.trans s3;have fpH:H p=none:=S1.free fp;refine ⟨a,ns,0+(i:Int) * 8,rfl,sG S3 ha,hb,hl,by omega,by omega,λx0 hs0 ls0 H4 lat gh gl nm gw nl nq n10 l6 s4=>?_⟩;refine ⟨p,x0,hs0,ls0,rfl,xU pk s4,lat,gh,gl,λh hh=>(gw h hh).ag4,nq,n10,l6,λH5 sb5=>?_⟩;exact ⟨_,rfl,jw (S3.trans s4) fpH sb5⟩
   obtain ⟨o1,rfl,S1⟩:=hz;show U1 _ _;subst Q6
   refine cV λU2 Q7=>?_
   refine ⟨by show 4<=sizeLine; omega,λT1 fT1=>?_⟩;refine gE fT1 λA1 aaS Xr=>?_
   refine ⟨by show 1<=sizeLine; omega,λT2 fT2=>?_⟩;refine gE fT2 λA2 Ui Xu=>?_
   have ck1:jy A2 (.ref T2) XD:=⟨_,_,rfl,Xu,.cons ⟨_,rfl,Ui _ _ Xr⟩ .nil⟩;intro x dx fx fdx ndx;have sm0:Same A2 (upd (upd A2 dx (.own x)) x (.ins C dx [])):=λb u e=>by rw [aB (aH e fx),aB (aH e fdx)]; exact e
   refine ⟨x,dx,.ref T2,XD,rfl,au,ck1.ts sm0.tups,akv,λak al ae H3 fk fl fe Am sm1=>⟨rfl,?_⟩⟩;show U2 _ _;subst Q7;refine uD λU3 Wc=>?_
   have cA:(acF 24).all (λk=>decide (("abcdefghijklmnopqrstuvwx" : Str).cps.toList[k]?=some (97+k)))=true:=by decide +kernel
   have lA:("abcdefghijklmnopqrstuvwx" : Str).length<=sizeLine:=by rw [show ("abcdefghijklmnopqrstuvwx" : Str).length=24 by decide +kernel]; omega
   refine ⟨24,rfl,by decide,by decide,jj (lo:=0) (n:=24) (λi σ H'=>∃ (o1:Option V),σ=[some (.ref a),o1,some (.ref x)]/\iU C H' x dx (.ref T2) ak al ae XD [] (rJ.take i)) ⟨o1,rfl,Am⟩ (λi σ H4 hi hz=>?_) (fun σ H4 hz=>?_)⟩
   . obtain ⟨o1,rfl,kp⟩:=hz;have hi':i<24:=hi;refine ⟨x,dx,_,rfl,kp.ob,by rfl,?_⟩;refine Jy (z:="abcdefghijklmnopqrstuvwx") lA (c:=97+i) (by rw [anu]; exact VR cA hi') ?_;refine ⟨by show 1+1<=sizeLine; omega,?_⟩;have aky:rJ[i]?=some (UG i):=by unfold rJ; rw [aaJ,aju hi']; rfl
     have es:rJ.take (i+1)=rJ.take i++[UG i]:=by rw [abz,aky]; rfl
     refine ⟨x,dx,.ref T2,ak,al,ae,XD,[],rJ.take i,UG i,rfl,kp,g_a,sW (abP.mp XF i (adv.mpr hi')),abP.mp aeK i (adv.mpr hi'),of_decide_eq_true (abP.mp aeL i (adv.mpr hi')),?_,yI (pA (by simp)),by rw [abI]; show min i 24<24; omega,λH5 Ge sb5=>?_⟩
     . have z:((rJ.take (i+1)).map ab5).Nodup:=((afH _ _).map _).nodup XH;rw [es,abp] at z;exact jF z
     . exact ⟨_,rfl,by rw [es]; exact Ge⟩
   obtain ⟨o1,rfl,kp⟩:=hz;have aeO:rJ.length=24:=by unfold rJ; rw [aac,aiC]
   rw [show (24:Nat)=rJ.length from aeO.symm,acL] at kp;show U3 _ _;subst Wc;refine ⟨by show 4<=sizeLine; omega,λT3 fT3=>?_⟩;refine gE fT3 λB1 aeP akz=>?_
   have G1:∀ {H':Hp} {z:Str},z.length<=8->cj H' (.str z) (.str z):=λ{H' z} h=>.str z (by omega)
   refine ⟨x,dx,.ref T2,ak,al,ae,XD,[],rJ,T3,.str "a",.str "c",.int 1,.non,.str "a",.str "c",.int 1,.non,rfl,akz,kp.same aeP,G1 (by decide +kernel),G1 (by decide +kernel),.int 1,.non,.inr ⟨aeM,("a","c"),rfl,rfl,.inr ⟨a_c,.inr ⟨aa4,.inr ⟨yI (pA (by simp)),aeO⟩⟩⟩⟩,λH5 s5=>?_⟩;refine ⟨by show 4<=sizeLine; omega,λT4 fT4=>?_⟩;refine gE fT4 λB2 akA akB=>?_
   exact ⟨x,dx,.ref T2,ak,al,ae,XD,[],rJ,T4,.str "a",.str "ba",.int 1,.non,.str "a",.str "ba",.int 1,.non,rfl,akB,kp.same ((aeP.trans s5).trans akA),G1 (by decide +kernel),G1 (by decide +kernel),.int 1,.non,.inr ⟨aeN,("a","ba"),rfl,rfl,.inr ⟨a_b,.inl aa5⟩⟩,λH6 s6=>q _⟩
theorem FQ {K:aaf} (bm:List aat):akH K bm bm=true:=by
 cases bm with
 | nil=>unfold akH; exact beq_self_eq_true _
 | cons v r=>unfold akH; rw [beq_self_eq_true]; rfl
theorem Ji {K:aaf} {S:aaH} {bmB:List aat} {newId:String} (h:af2 K S bmB newId=true):akH K bmB (.ref S :: bmB)=true:=by
 unfold af2 at h;split at h
 . rename_i cd sl e
   split at h
   . simp only [adB] at h;obtain ⟨⟨⟨⟨⟨_,_⟩,_⟩,_⟩,h5⟩,h6⟩:=h;unfold akH;simp only [e,h5,h6,FQ,Bool.and_self,Bool.or_true]
   . cases h
 . cases h
theorem Og {K:aaf} {C f S N:aaH} {bmB:List aat} {newId:String} {cd:apf} {sl sl2:Array (Option aat)} {od od2:Option aaH} {oc:aat} {es:Array ah3} {n:Nat} {x1 x2 x3 x4 x6:Option aat}
   (h1:K.lookup C=some ⟨.type "type",od,.cls cd,sl⟩) (h2:cd.mro=.ref C :: .ref S :: bmB) (h3:sl.toList=[x1,x2,x3,x4,some (.builtin newId),x6]) (h4:cd.hasDel=false)
   (h5:af2 K S bmB newId=true) (h6:cd.ns=N) (h7:K.lookup N=some ⟨oc,od2,.dict es n,sl2⟩) (h8:(es.toList.all λe=>match e.key with | .str _ _=>true | _=>false)=true)
   (h9:abg K N "__init__" = some (some (.ref f))):uz K C f bmB newId=true:=by
 subst h6
 have ns:PySem.W.nsOkIn K cd.ns=true:=by
   unfold PySem.W.nsOkIn;simp only [h7];rw [<- Array.all_toList];exact h8
 unfold uz;simp only [h1,h2,h3,h4,ns,h9,Ji h5,beq_self_eq_true,Bool.and_self,Bool.not_false]
theorem yN:∀ {xs:List apo} {x:apo},x∈xs->akW x<=amJ xs
 | y :: xs,x,h=>by
   unfold amJ;rcases abu.mp h with z | z
   . rw [z]; omega
   . have:=yN z; omega
theorem XM {ns:List Int} (h:PySem.W.WData.layableAll [PySem.W.WData.list (ns.map aoN)]=true):∀ n∈ns,Qh n:=λn hn=>by
 have h1:=abP.mp h _ abw;unfold PySem.W.WData.layable at h1;have h2:=of_decide_eq_true (abr.mp h1).2;unfold akW at h2;have h3:=yN (afs (f:=aoN) hn);unfold akW at h3;have e:(2:Nat) ^ 20=1048576:=by decide
 rw [e] at h2;exact adS h3 h2
theorem Oh {l:anA} {n k:Nat} {q:abt} {loose:List Str} {XP:(Str->Option aat)->afp->Prop} {YP:acU->afp->Prop} {d:DefRec} {K:Params->aaf} {CX:acU->K6} {sp:acU->Sp} {x:Str}
   (hn:l.most=some n) (hn2:n<=sizeLine) (hdf:d.params.defaults=[]) (hr:fX k callerA) (hY:∀ (w:acU) (h:afp),YP w h->(K w.params).In h)
   (F:∀ (w:acU) (mg:Str->Option aat) (fa:aaH) (h:afp),(K w.params).In h->h.Ns mainGlobals mg->mg d.name=some (.ref fa) ->
     ∃ fd:abL,(∀ (s:aav) (u:aat),ao9 s fd ⟨[u],[]⟩ [(x,u)])/\∀ base:afp,(K w.params).In base->base.Ns mainGlobals mg->aV l.prog w (K w.params) mg base (CX w) k fa fd [x] (sp w))
   (hsp:∀ (w:acU) (H:Hp) (a:aaH) (ns:List Int),ns.length<=n->(∀ m∈ns,Qh m)->Only H->cG (K w.params) H a (ns.map V.int)->sp w [.ref a] H (λv _=>v=.bl true) λ_ _ _=>False)
   (hCX:∀ (w:acU) (H:Hp) (s:aav) (e:aat) (s':aav),CX w [] H s (λ_ _ _=>False) e s'->False):PySem.W.WalkO q loose XP YP l.row.toRowW d [] (λf vs=>PySem.call f vs):=by
 intro w s₀ s₁ mg mb G Y fa o pm cd doc dV kV ho hd hcd hD hmg hg args vals as hpre hlay hrd hwl hlo;obtain rfl:dV=.none:=PySem.W.Dflts.none hD hdf;obtain rfl:kV=.none:=PySem.W.Dflts.noKw hD;obtain ⟨a,vs,ns,rfl,rfl,hobj,hints,hlen⟩:=Att.Lb hn hpre hwl;have KX:=hY w _ Y;obtain ⟨fd,hb,hF⟩:=F w mg fa _ KX G.T.g hmg;have key:=Pn KX G.T.g G.T.b G.T.builtins G.T.nolimit hg hobj hints (adS hlen hn2) hr hF hb (λH hO hS=>hsp w H a ns hlen (XM hlay) hO hS) λH e s'=>hCX w H s₁ e s'
 refine PySem.W.enter_call (agq key λr s' hq=>?_);obtain ⟨rfl,h2,h3,h4⟩:=hq;exact ⟨.inl ⟨.bool true,.bool true,[],rfl,λ_=>rfl,.bool true,Att.Ld l _,λ_=>⟨akC,λ_ hm=>(nomatch hm)⟩⟩,h2,h3,h4⟩
theorem yO {K:aaf} {C:aaH} (x1:abF K (.ref C) "__getattribute__" = some (some (.builtin "BaseException.__getattribute__"))) (x6:abF K (.ref C) "__getattr__" = some none) (x7:abF K (.ref C) "__class__" = some (some (.builtin "object.__class__"))) (x8:ajP K C (.type "object")=some true) (x9:akc K (.ref C) (.type "BaseException")=some true):jO K C=true:=by
 have x:(aou K C).isSome=true:=by
   unfold ajP at x8;cases e:aou K C with
   | some c=>rfl
   | none=>rw [e] at x8; cases x8
 unfold jO;rw [x1,x6,x7,x8,x9,x]; rfl
theorem Jj {K:aaf} {a b:aat} (x3:akc K b (.type "BaseException")=some true) (x10:(a == b)=false) (x4:abf K a b=some true):aji K a b=some true:=by
 unfold abf at x4;rw [if_neg (by rw [x10]; exact aaK)] at x4;unfold aji;rw [x3,if_pos (by rfl)]; exact x4
theorem B1 {K:aaf} {x q:Str} {st:air} {f:aaH} {fd:abL} {ps:List Str} (F:dO K x q st f fd) (l:ps.length=1:=by rfl) (h:∀ (kV doc pm:aat) (an:Option aaH) (cdv ct u0:aat),bindArgs (agy x q (jg st) (gQ st) (aJ st) .none kV doc pm an cdv ct) ⟨[u0],[]⟩=pure (ps.zip [u0]):=by intros; rfl):Binds K fd ps []:=F.binds λ_ _ _ _ _ _ us hl=>match us,hl.trans l with | [_],_=>h _ _ _ _ _ _ _
theorem B2 {K:aaf} {x q:Str} {st:air} {f:aaH} {fd:abL} {ps:List Str} (F:dO K x q st f fd) (l:ps.length=2:=by rfl) (h:∀ (kV doc pm:aat) (an:Option aaH) (cdv ct u0 u1:aat),bindArgs (agy x q (jg st) (gQ st) (aJ st) .none kV doc pm an cdv ct) ⟨[u0,u1],[]⟩=pure (ps.zip [u0,u1]):=by intros; rfl):Binds K fd ps []:=F.binds λ_ _ _ _ _ _ us hl=>match us,hl.trans l with | [_,_],_=>h _ _ _ _ _ _ _ _
theorem B3 {K:aaf} {x q:Str} {st:air} {f:aaH} {fd:abL} {ps:List Str} (F:dO K x q st f fd) (l:ps.length=3:=by rfl) (h:∀ (kV doc pm:aat) (an:Option aaH) (cdv ct u0 u1 u2:aat),bindArgs (agy x q (jg st) (gQ st) (aJ st) .none kV doc pm an cdv ct) ⟨[u0,u1,u2],[]⟩=pure (ps.zip [u0,u1,u2]):=by intros; rfl):Binds K fd ps []:=F.binds λ_ _ _ _ _ _ us hl=>match us,hl.trans l with | [_,_,_],_=>h _ _ _ _ _ _ _ _ _
theorem B4 {K:aaf} {x q:Str} {st:air} {f:aaH} {fd:abL} {ps:List Str} (F:dO K x q st f fd) (l:ps.length=4:=by rfl) (h:∀ (kV doc pm:aat) (an:Option aaH) (cdv ct u0 u1 u2 u3:aat),bindArgs (agy x q (jg st) (gQ st) (aJ st) .none kV doc pm an cdv ct) ⟨[u0,u1,u2,u3],[]⟩=pure (ps.zip [u0,u1,u2,u3]):=by intros; rfl):Binds K fd ps []:=F.binds λ_ _ _ _ _ _ us hl=>match us,hl.trans l with | [_,_,_,_],_=>h _ _ _ _ _ _ _ _ _ _
theorem B5 {K:aaf} {x q:Str} {st:air} {f:aaH} {fd:abL} {ps:List Str} (F:dO K x q st f fd) (l:ps.length=5:=by rfl) (h:∀ (kV doc pm:aat) (an:Option aaH) (cdv ct u0 u1 u2 u3 u4:aat),bindArgs (agy x q (jg st) (gQ st) (aJ st) .none kV doc pm an cdv ct) ⟨[u0,u1,u2,u3,u4],[]⟩=pure (ps.zip [u0,u1,u2,u3,u4]):=by intros; rfl):Binds K fd ps []:=F.binds λ_ _ _ _ _ _ us hl=>match us,hl.trans l with | [_,_,_,_,_],_=>h _ _ _ _ _ _ _ _ _ _ _
theorem all_mk {l:anA} {w:acU} {K:aaf} {h:afp} {mg:Str->Option aat} {fa C cS f1 f2 f3 f4 f5 f6 f7 f8 f9 f10 f11 f12 f13 f14 f15 f16 f17 f18 f19 f20 f21 f22 f23 f24 f25 f26 f27 f28 f29 f30 f31 f32 f33 f34 f35 f36 e0 e1 e2 e3 e4 e5 e6 e7 e8 e9 e10 UL Wk Xj UJ:aaH} {t8 t6 tR tL t9:Tok} {YG:apf} {nR:aaH} {odR akT:Option aaH} {slR akU:Array (Option aat)} {ocR:aat} {esR:Array ah3} {epR:Nat} {xr1 xr2 xr3 xr4 xr6:Option aat} (X:K.In h) (G:h.Ns mainGlobals mg) (hfa:mg "law" = some (.ref fa))
   {d1 d2 d3 d4 d5 d6 d7 d8 d9 d10 d11 d12 d13 d14 d15 d16 d17 d18 d19 d20 d21 d22 d23 d24 d25 d26 d27 d28 d29 d30 d31 d32 d33 d34 d35 d36:abL}
 (aC:abg K mainGlobals "Keeper" = some (some (.ref C)))
 (pS:abg K mainGlobals "SkewError" = some (some (.ref cS)))
 (p0:abg K mainGlobals "NoBound" = some (some (.ref e0)))
 (p1:abg K mainGlobals "NoPlacing" = some (some (.ref e1)))
 (p2:abg K mainGlobals "NoRow" = some (some (.ref e2)))
 (p3:abg K mainGlobals "NoWord" = some (some (.ref e3)))
 (p4:abg K mainGlobals "TooMany" = some (some (.ref e4)))
 (p5:abg K mainGlobals "NoNumber" = some (some (.ref e5)))
 (p6:abg K mainGlobals "NoOrder" = some (some (.ref e6)))
 (p7:abg K mainGlobals "NoHouse" = some (some (.ref e7)))
 (p8:abg K mainGlobals "NoRun" = some (some (.ref e8)))
 (p9:abg K mainGlobals "NoReading" = some (some (.ref e9)))
 (p10:abg K mainGlobals "NoLetter" = some (some (.ref e10)))
 (Oo:abg K mainGlobals "NoMerge" = some (some (.ref UL)))
 (p12:abg K mainGlobals "NoText" = some (some (.ref Wk)))
 (UW:abg K mainGlobals "NoCall" = some (some (.ref Xj)))
 (p14:abg K mainGlobals "NoKept" = some (some (.ref UJ)))
 (a1:abg K mainGlobals "is_whole" = some (some (.ref f1)))
 (F1:dO K "is_whole" "is_whole" Hg f1 d1)
 (a2:abg K mainGlobals "is_name" = some (some (.ref f2)))
 (F2:dO K "is_name" "is_name" JT f2 d2)
 (a3:abg K mainGlobals "has_parts" = some (some (.ref f3)))
 (F3:dO K "has_parts" "has_parts" Hi f3 d3)
 (a4:abg K mainGlobals "is_clock" = some (some (.ref f4)))
 (F4:dO K "is_clock" "is_clock" Cd f4 d4)
 (a5:abg K mainGlobals "are_unlike" = some (some (.ref f5)))
 (F5:dO K "are_unlike" "are_unlike" Ce f5 d5)
 (a6:abg K mainGlobals "is_letter" = some (some (.ref f6)))
 (F6:dO K "is_letter" "is_letter" Cg f6 d6)
 (a7:abg K mainGlobals "is_empty_house" = some (some (.ref f7)))
 (F7:dO K "is_empty_house" "is_empty_house" Ci f7 d7)
 (a8:abg K mainGlobals "are_empty_houses" = some (some (.ref f8)))
 (F8:dO K "are_empty_houses" "are_empty_houses" oF f8 d8)
 (a9:abg K mainGlobals "runs_of" = some (some (.ref f9)))
 (F9:dO K "runs_of" "runs_of" sI f9 d9)
 (a10:abg K mainGlobals "put_down" = some (some (.ref f10)))
 (F10:dO K "put_down" "put_down" j6 f10 d10)
 (a11:abg K mainGlobals "is_within_a_house" = some (some (.ref f11)))
 (F11:dO K "is_within_a_house" "is_within_a_house" Cj f11 d11)
 (a12:abg K mainGlobals "_law_mixed" = some (some (.ref f12)))
 (F12:dO K "_law_mixed" "_law_mixed" Hj f12 d12)
 (a13:abg K mainGlobals "_law_pack" = some (some (.ref f13)))
 (F13:dO K "_law_pack" "_law_pack" QF f13 d13)
 (a14:abg K mainGlobals "_law_take" = some (some (.ref f14)))
 (F14:dO K "_law_take" "_law_take" QG f14 d14)
 (a15:abg K mainGlobals "_law_names" = some (some (.ref f15)))
 (F15:dO K "_law_names" "_law_names" tZ f15 d15)
 (a16:abg K mainGlobals "_law_house" = some (some (.ref f16)))
 (F16:dO K "_law_house" "_law_house" xq f16 d16)
 (a17:abg K mainGlobals "_law_letters" = some (some (.ref f17)))
 (F17:dO K "_law_letters" "_law_letters" lX f17 d17)
 (a18:abg K mainGlobals "_law_ledger" = some (some (.ref f18)))
 (F18:dO K "_law_ledger" "_law_ledger" uc f18 d18)
 (a19:abg K mainGlobals "_law_ledger_of" = some (some (.ref f19)))
 (F19:dO K "_law_ledger_of" "_law_ledger_of" fO f19 d19)
 (a20:abg K mainGlobals "_law_told_rows" = some (some (.ref f20)))
 (F20:dO K "_law_told_rows" "_law_told_rows" pJ f20 d20)
 (a21:abg K mainGlobals "_law_mixed_up" = some (some (.ref f21)))
 (F21:dO K "_law_mixed_up" "_law_mixed_up" xr f21 d21)
 (a22:abF K (.ref C) "need_run" = some (some (.ref f22)))
 (i22:agp K (.ref f22)=true)
 (F22:dO K "need_run" "Keeper.need_run" pO f22 d22)
 (a23:abF K (.ref C) "need_free" = some (some (.ref f23)))
 (i23:agp K (.ref f23)=true)
 (F23:dO K "need_free" "Keeper.need_free" mC f23 d23)
 (a24:abF K (.ref C) "__init__" = some (some (.ref f24)))
 (i24:agp K (.ref f24)=true)
 (F24:dO K "__init__" "Keeper.__init__" Ib f24 d24)
 (a25:abF K (.ref C) "tell" = some (some (.ref f25)))
 (i25:agp K (.ref f25)=true)
 (F25:dO K "tell" "Keeper.tell" rE f25 d25)
 (a26:abF K (.ref C) "letter" = some (some (.ref f26)))
 (i26:agp K (.ref f26)=true)
 (F26:dO K "letter" "Keeper.letter" pP f26 d26)
 (a27:abF K (.ref C) "ledger" = some (some (.ref f27)))
 (i27:agp K (.ref f27)=true)
 (F27:dO K "ledger" "Keeper.ledger" ux f27 d27)
 (a28:abF K (.ref e2) "__init__" = some (some (.ref f28)))
 (i28:agp K (.ref f28)=true)
 (F28:dO K "__init__" "NoRow.__init__" Iw f28 d28)
 (a29:abg K mainGlobals "_law_sort" = some (some (.ref f29)))
 (F29:dO K "_law_sort" "_law_sort" Ti f29 d29)
 (a30:abg K mainGlobals "_law_refused" = some (some (.ref f30)))
 (F30:dO K "_law_refused" "_law_refused" yD f30 d30)
 (a31:abg K mainGlobals "_law_row_refused" = some (some (.ref f31)))
 (F31:dO K "_law_row_refused" "_law_row_refused" CP f31 d31)
 (a32:abg K mainGlobals "_law_reading_first" = some (some (.ref f32)))
 (F32:dO K "_law_reading_first" "_law_reading_first" rH f32 d32)
 (a33:abg K mainGlobals "_law_no_letters" = some (some (.ref f33)))
 (F33:dO K "_law_no_letters" "_law_no_letters" IV f33 d33)
 (a34:abg K mainGlobals "_law_within" = some (some (.ref f34)))
 (F34:dO K "_law_within" "_law_within" yG f34 d34)
 (a35:abg K mainGlobals "_law_right" = some (some (.ref f35)))
 (F35:dO K "_law_right" "_law_right" ud f35 d35)
 (a36:abg K mainGlobals "law" = some (some (.ref f36)))
 (F36:dO K "law" "law" Z1 f36 d36)
 (pg:ajj K C Str.empty=true)
 (hd:ahm K C=true)
 (po:amn K C=true)
 (sa:abF K (.ref C) "__setattr__" = some (some (.builtin "object.__setattr__")))
 (mk:anb K C=true)
 (kc:afZ K (.ref C)=true)
 (nH:abF K (.ref C) "houses" = some none)
 (nK:abF K (.ref C) "kept" = some none)
 (nL:abF K (.ref C) "letters" = some none)
 (nE:abF K (.ref C) "ends" = some none)
 (y1:abg K mainGlobals "LONGEST_NAME" = some (some (.int 8 t8)))
 (y2:abg K mainGlobals "MOST_HOUSES" = some (some (.int 6 t6)))
 (y3:abg K mainGlobals "MOST_ROWS" = some (some (.int 24 tR)))
 (y4:abg K mainGlobals "MOST_LETTERS" = some (some (.int 24 tL)))
 (y5:abg K mainGlobals "MOST_RUN" = some (some (.int 9 t9)))
 (z1:abg K mainGlobals "isinstance" = some none)
 (z2:abg K mainGlobals "int" = some none)
 (z3:abg K mainGlobals "bool" = some none)
 (z4:abg K mainGlobals "str" = some none)
 (z5:abg K mainGlobals "tuple" = some none)
 (z6:abg K mainGlobals "len" = some none)
 (z7:abg K mainGlobals "all" = some none)
 (z8:abg K mainGlobals "zip" = some none)
 (z9:abg K mainGlobals "set" = some none)
 (z10:abg K mainGlobals "sorted" = some none)
 (z11:abg K mainGlobals "divmod" = some none)
 (z12:abg K mainGlobals "range" = some none)
 (z13:abg K mainGlobals "max" = some none)
 (z14:abg K mainGlobals "min" = some none)
 (z15:abg K mainGlobals "abs" = some none)
 (z16:abg K mainGlobals "list" = some none)
 (z17:abg K mainGlobals "any" = some none)
 (z18:abg K mainGlobals "dict" = some none)
 (zV:abg K mainGlobals "ValueError" = some none)
 (zS:abg K mainGlobals "sum" = some none)
 (x3:akc K (.ref cS) (.type "BaseException")=some true)
 (ak3:abF K (.ref e2) "__getattribute__" = some (some (.builtin "BaseException.__getattribute__")))
 (ak4:abF K (.ref e2) "__getattr__" = some none)
 (ak5:abF K (.ref e2) "__class__" = some (some (.builtin "object.__class__")))
 (ak6:ajP K e2 (.type "object")=some true)
 (ak7:akc K (.ref e2) (.type "BaseException")=some true)
 (ak8:(abA e2 == abA cS)=false)
 (ak9:abf K (.ref e2) (.ref cS)=some true)
 (ala:abf K (.ref e2) (.type "ValueError")=some true)
 (alb:abf K (.ref e2) (.ref e0)=some false)
 (alc:abf K (.ref e2) (.ref e1)=some false)
 (ald:abf K (.ref e2) (.ref e2)=some true)
 (ale:abf K (.ref e2) (.ref e3)=some false)
 (alf:abf K (.ref e2) (.ref e4)=some false)
 (alg:abf K (.ref e2) (.ref e5)=some false)
 (alh:abf K (.ref e2) (.ref e6)=some false)
 (ali:abf K (.ref e2) (.ref e7)=some false)
 (alj:abf K (.ref e2) (.ref e8)=some false)
 (alk:abf K (.ref e2) (.ref e9)=some false)
 (aeT:abf K (.ref e2) (.ref e10)=some false)
 (aeU:abf K (.ref e2) (.ref UL)=some false)
 (aeV:abf K (.ref e2) (.ref Wk)=some false)
 (aeW:abf K (.ref e2) (.ref Xj)=some false)
 (aeX:abf K (.ref e2) (.ref UJ)=some false)
 (alm:abF K (.ref e9) "__getattribute__" = some (some (.builtin "BaseException.__getattribute__")))
 (aln:abF K (.ref e9) "__getattr__" = some none)
 (alo:abF K (.ref e9) "__class__" = some (some (.builtin "object.__class__")))
 (alp:ajP K e9 (.type "object")=some true)
 (alq:akc K (.ref e9) (.type "BaseException")=some true)
 (alr:(abA e9 == abA cS)=false)
 (als:abf K (.ref e9) (.ref cS)=some true)
 (alu:abf K (.ref e9) (.type "ValueError")=some true)
 (alv:abf K (.ref e9) (.ref e0)=some false)
 (alw:abf K (.ref e9) (.ref e1)=some false)
 (alx:abf K (.ref e9) (.ref e2)=some false)
 (aly:abf K (.ref e9) (.ref e3)=some false)
 (alz:abf K (.ref e9) (.ref e4)=some false)
 (alA:abf K (.ref e9) (.ref e5)=some false)
 (alB:abf K (.ref e9) (.ref e6)=some false)
 (alC:abf K (.ref e9) (.ref e7)=some false)
 (alD:abf K (.ref e9) (.ref e8)=some false)
 (alE:abf K (.ref e9) (.ref e9)=some true)
 (aeY:abf K (.ref e9) (.ref e10)=some false)
 (aeZ:abf K (.ref e9) (.ref UL)=some false)
 (ae0:abf K (.ref e9) (.ref Wk)=some false)
 (ae1:abf K (.ref e9) (.ref Xj)=some false)
 (ae2:abf K (.ref e9) (.ref UJ)=some false)
 (alF:af2 K e9 [.type "ValueError",.type "Exception",.type "BaseException",.type "object"] "ValueError.__new__" = true)
 (ae3:abF K (.ref e10) "__getattribute__" = some (some (.builtin "BaseException.__getattribute__")))
 (ae4:abF K (.ref e10) "__getattr__" = some none)
 (ae5:abF K (.ref e10) "__class__" = some (some (.builtin "object.__class__")))
 (ae6:ajP K e10 (.type "object")=some true)
 (ae7:akc K (.ref e10) (.type "BaseException")=some true)
 (ae8:(abA e10 == abA cS)=false)
 (ae9:abf K (.ref e10) (.ref cS)=some true)
 (afa:abf K (.ref e10) (.type "ValueError")=some true)
 (afb:abf K (.ref e10) (.ref e0)=some false)
 (afc:abf K (.ref e10) (.ref e1)=some false)
 (afd:abf K (.ref e10) (.ref e2)=some false)
 (afe:abf K (.ref e10) (.ref e3)=some false)
 (afg:abf K (.ref e10) (.ref e4)=some false)
 (afh:abf K (.ref e10) (.ref e5)=some false)
 (afi:abf K (.ref e10) (.ref e6)=some false)
 (afj:abf K (.ref e10) (.ref e7)=some false)
 (afk:abf K (.ref e10) (.ref e8)=some false)
 (afl:abf K (.ref e10) (.ref e9)=some false)
 (aa7:abf K (.ref e10) (.ref e10)=some true)
 (aa8:abf K (.ref e10) (.ref UL)=some false)
 (aa9:abf K (.ref e10) (.ref Wk)=some false)
 (abb:abf K (.ref e10) (.ref Xj)=some false)
 (abd:abf K (.ref e10) (.ref UJ)=some false)
 (afm:af2 K e10 [.type "ValueError",.type "Exception",.type "BaseException",.type "object"] "ValueError.__new__" = true)
 (v1a:K.lookup e2=some ⟨.type "type",odR,.cls YG,slR⟩)
 (v1b:YG.mro=.ref e2 :: .ref cS :: [.type "ValueError",.type "Exception",.type "BaseException",.type "object"])
 (v1c:slR.toList=[xr1,xr2,xr3,xr4,some (.builtin "ValueError.__new__"),xr6])
 (v1d:YG.hasDel=false)
 (v1e:af2 K cS [.type "ValueError",.type "Exception",.type "BaseException",.type "object"] "ValueError.__new__" = true)
 (v1f:YG.ns=nR)
 (v1g:K.lookup nR=some ⟨ocR,akT,.dict esR epR,akU⟩)
 (v1h:(esR.toList.all λe=>match e.key with | .str _ _=>true | _=>false)=true)
 (v1i:abg K nR "__init__" = some (some (.ref f28)))
 (v2:afZ K (.ref e2)=true)
 (v3:abF K (.ref e2) "__setattr__" = some (some (.builtin "object.__setattr__")))
 (v4:abF K (.ref e2) "name" = some none)
 (v5:ahm K e2=true)
 (v6:aou K e2=some YG)
 (v7:YG.mro=[.ref e2,.ref cS]++four)
 (v8:YG.hasDict=true) :
   ∃ fd:abL,(∀ (s:aav) (v:aat),ao9 s fd ⟨[v],[]⟩ [("_law_script",v)])/\∀ base:afp,K.In base->base.Ns mainGlobals mg->aV l.prog w K mg base dF 10 fa fd ["_law_script"] (KC K):=by
 have e:=hfa.symm.trans (aaC X G a36);cases e;have T:Txt mg t8 t6 tR tL:=⟨acD X G z1,acD X G z2,acD X G z3,acD X G z4,acD X G z5,acD X G z6,acD X G z7,acD X G z8,acD X G z9,acD X G z10,acD X G z11,acD X G z12,acD X G z13,acD X G z14,acD X G z15,acD X G z16,acD X G z17,acD X G z18,aaC X G y1,aaC X G y2,aaC X G y3,aaC X G y4⟩;have TC:KCls K mg C t9:=⟨⟨pg,hd,po,sa⟩,nH,nK,nL,nE,aaC X G aC,aaC X G y5⟩
 let c:Nat->aaH:=λk=>[e0,e1,e2,e3,e4,e5,e6,e7,e8,e9,e10,UL,Wk,Xj,UJ].getD k e0
 have M:Sorts mg c:=⟨aaC X G p0,aaC X G p1,aaC X G p2,aaC X G p3,aaC X G p4,aaC X G p5,aaC X G p6,aaC X G p7,aaC X G p8,aaC X G p9,aaC X G p10,aaC X G Oo,aaC X G p12,aaC X G UW,aaC X G p14,acD X G zV,acD X G zS⟩;have so2:rG K c e2 2:=⟨yO ak3 ak4 ak5 ak6 ak7,ala,λk hk=>match k,hk with | 0,_=>alb | 1,_=>alc | 2,_=>ald | 3,_=>ale | 4,_=>alf | 5,_=>alg | 6,_=>alh | 7,_=>ali | 8,_=>alj | 9,_=>alk | 10,_=>aeT | 11,_=>aeU | 12,_=>aeV | 13,_=>aeW | 14,_=>aeX | k+15,h=>absurd h (by omega),by decide⟩;have so9:rG K c e9 9:=⟨yO alm aln alo alp alq,alu,λk hk=>match k,hk with | 0,_=>alv | 1,_=>alw | 2,_=>alx | 3,_=>aly | 4,_=>alz | 5,_=>alA | 6,_=>alB | 7,_=>alC | 8,_=>alD | 9,_=>alE | 10,_=>aeY | 11,_=>aeZ | 12,_=>ae0 | 13,_=>ae1 | 14,_=>ae2 | k+15,h=>absurd h (by omega),by decide⟩;have alG:rG K c e10 10:=⟨yO ae3 ae4 ae5 ae6 ae7,afa,λk hk=>match k,hk with | 0,_=>afb | 1,_=>afc | 2,_=>afd | 3,_=>afe | 4,_=>afg | 5,_=>afh | 6,_=>afi | 7,_=>afj | 8,_=>afk | 9,_=>afl | 10,_=>aa7 | 11,_=>aa8 | 12,_=>aa9 | 13,_=>abb | 14,_=>abd | k+15,h=>absurd h (by omega),by decide⟩;have xc:WY K e2 "name":=⟨v3,⟨YG,v6,⟨[e2,cS],v7⟩,v8⟩,v4⟩;have b1:Binds K d1 ["thing"] []:=B1 F1;have b2:Binds K d2 ["thing"] []:=B1 F2;have b3:Binds K d3 ["thing","many"] []:=B2 F3;have b4:Binds K d4 ["name","low","high","drift"] []:=B4 F4;have b5:Binds K d5 ["names"] []:=B1 F5;have b6:Binds K d6 ["thing"] []:=B1 F6;have b7:Binds K d7 ["thing"] []:=B1 F7;have b8:Binds K d8 ["thing"] []:=B1 F8;have b9:Binds K d9 ["house","rows"] []:=B2 F9;have b10:Binds K d10 ["houses","rows","letters"] []:=B3 F10;have b11:Binds K d11 ["rows","sent","taken"] []:=B3 F11;have b12:Binds K d12 ["_law_cell"] []:=B1 F12;have b13:Binds K d13 ["_law_script","_law_k"] []:=B2 F13;have b14:Binds K d14 ["_law_pack_here","_law_size"] []:=B2 F14;have b15:Binds K d15 ["_law_pack_here","_law_amount"] []:=B2 F15;have b16:Binds K d16 ["_law_pack_here","_law_name","_law_names_here","_law_room"] []:=B4 F16;have b17:Binds K d17 ["_law_pack_here","_law_houses","_law_hidden"] []:=B3 F17;have b18:Binds K d18 ["_law_script","_law_k"] []:=B2 F18;have b19:Binds K d19 ["_law_clocks","_law_rows","_law_letters_here"] []:=B3 F19;have b20:Binds K d20 ["_law_ledger_here"] []:=B1 F20;have b21:Binds K d21 ["_law_pack_here","_law_things"] []:=B2 F21;have b22:Binds K d22 ["self","house","run"] []:=B3 F22;have b23:Binds K d23 ["self","house","run","name","reading"] []:=B5 F23;have b24:Binds K d24 ["self","houses"] []:=B2 F24;have b25:Binds K d25 ["self","house","run","name","reading"] []:=B5 F25;have b26:Binds K d26 ["self","sent","taken","least","most"] []:=B5 F26;have b27:Binds K d27 ["self"] []:=B1 F27;have b28:Binds K d28 ["self","name"] []:=B2 F28;have b29:Binds K d29 ["_law_e"] []:=B1 F29;have b30:Binds K d30 ["_law_keeper","_law_told"] []:=B2 F30;have b31:Binds K d31 ["_law_keeper","_law_told"] []:=B2 F31;have b32:Binds K d32 ["_law_keeper","_law_house_here"] []:=B2 F32;have b33:Binds K d33 ["_law_one","_law_other"] []:=B2 F33;have b34:Binds K d34 ["_law_rows"] []:=B1 F34;have b35:Binds K d35 ["_law_pack_here","_law_ledger_here"] []:=B2 F35;have b36:Binds K d36 ["_law_script"] []:=B1 F36;refine ⟨d36,λs v=>?_,λbase _ _=>?_⟩
 . obtain ⟨_,_,_,_,_,_,_,_,_,rfl,_⟩:=F36.ex;exact .of_eq rfl
 have G1:aV l.prog w K mg base dF 1 f1 _ ["thing"] (lW K):=QH F1 T;have G2:aV l.prog w K mg base dF 1 f2 _ ["thing"] (tQ K):=V5 F2 T;have G3:aV l.prog w K mg base dF 1 f3 _ ["thing","many"] vK:=QS F3 T;have G4:aV l.prog w K mg base dF 2 f4 _ ["name","low","high","drift"] BL:=QV F4 T (jh G2 (aaC X G a2) F2.kp b2) (jh G1 (aaC X G a1) F1.kp b1);have G5:aV l.prog w K mg base dF 1 f5 _ ["names"] wO:=Mj F5 T;have G6:aV l.prog w K mg base dF 2 f6 _ ["thing"] (spD bG):=Ml F6 (jh G3 (aaC X G a3) F3.kp b3) (jh G2 (aaC X G a2) F2.kp b2) (jh G1 (aaC X G a1) F1.kp b1);have G7:aV l.prog w K mg base dF 3 f7 _ ["thing"] xV:=MF F7 (jh (G3.mono (by decide)) (aaC X G a3) F3.kp b3) (jh G4 (aaC X G a4) F4.kp b4);have G8:aV l.prog w K mg base dF 4 f8 _ ["thing"] uh:=HB F8 T (jh G7 (aaC X G a7) F7.kp b7) (jh (G5.mono (by decide)) (aaC X G a5) F5.kp b5);have G9:aV l.prog w K mg base dF 1 f9 _ ["house","rows"] yj:=M8 F9 T;have G10:aV l.prog w K mg base dF 2 f10 _ ["houses","rows","letters"] uw:=Ia F10 T (jh G9 (aaC X G a9) F9.kp b9);have G11:aV l.prog w K mg base dF 1 f11 _ ["rows","sent","taken"] kE:=MK F11;have G12:aV l.prog w K mg base dF 1 f12 _ ["_law_cell"] BP:=QK F12;have G13:aV l.prog w K mg base dF 2 f13 _ ["_law_script","_law_k"] (BR K):=V7 F13 T (jh G12 (aaC X G a12) F12.kp b12);have G14:aV l.prog w K mg base dF 1 f14 _ ["_law_pack_here","_law_size"] n6:=V8 F14 T;have G15:aV l.prog w K mg base dF 2 f15 _ ["_law_pack_here","_law_amount"] xu:=QL F15 T (jh G14 (aaC X G a14) F14.kp b14);have G16:aV l.prog w K mg base dF 2 f16 _ ["_law_pack_here","_law_name","_law_names_here","_law_room"] uf:=Hr F16 T (jh G14 (aaC X G a14) F14.kp b14);have G17:aV l.prog w K mg base dF 2 f17 _ ["_law_pack_here","_law_houses","_law_hidden"] mj:=Cq F17 T (jh G14 (aaC X G a14) F14.kp b14);have G18:aV l.prog w K mg base dF 3 f18 _ ["_law_script","_law_k"] (rB K):=Ej F18 T (jh G13 (aaC X G a13) F13.kp b13) (jh G15 (aaC X G a15) F15.kp b15) (jh (G14.mono (by decide)) (aaC X G a14) F14.kp b14) (jh G16 (aaC X G a16) F16.kp b16) (jh G17 (aaC X G a17) F17.kp b17);have G19:aV l.prog w K mg base dF 1 f19 _ ["_law_clocks","_law_rows","_law_letters_here"] oX:=CZ F19 T;have G20:aV l.prog w K mg base dF 1 f20 _ ["_law_ledger_here"] Hw:=Wo F20 T;have G21:aV l.prog w K mg base dF 2 f21 _ ["_law_pack_here","_law_things"] ug:=Hv F21 T (jh G14 (aaC X G a14) F14.kp b14);have G22:aV l.prog w K mg base dF 2 f22 _ ["self","house","run"] (kO C):=Ig F22 T TC (jh G1 (aaC X G a1) F1.kp b1);have G23:aV l.prog w K mg base dF 2 f23 _ ["self","house","run","name","reading"] (mD C):=Eu F23 T TC (jh G2 (aaC X G a2) F2.kp b2) (jh G1 (aaC X G a1) F1.kp b1);have G24:aV l.prog w K mg base dF 5 f24 _ ["self","houses"] (vU C):=WK F24 T TC (jh G8 (aaC X G a8) F8.kp b8);have G25:aV l.prog w K mg base dF 4 f25 _ ["self","house","run","name","reading"] (Ih C):=WM F25 T TC (jh (G11.mono (by decide)) (aaC X G a11) F11.kp b11) (G22.mono (by decide)) ⟨a22,i22,F22.kp⟩ b22 (G23.mono (by decide)) ⟨a23,i23,F23.kp⟩ b23;have G26:aV l.prog w K mg base dF 3 f26 _ ["self","sent","taken","least","most"] (pQ C):=Ik F26 T TC (jh G6 (aaC X G a6) F6.kp b6) (jh (G11.mono (by decide)) (aaC X G a11) F11.kp b11);have G27:aV l.prog w K mg base dF 3 f27 _ ["self"] (uy C):=Ij F27 TC (jh G10 (aaC X G a10) F10.kp b10);have G28:aV l.prog w K mg base dF 1 f28 _ ["self","name"] (CJ e2):=Tc F28 xc;have FT:aV l.prog w K mg base (Cz l.prog w) 2 f23 _ ["self","house","run","name","reading"] (oR C e9):=CG F23 T TC (jh G2 (aaC X G a2) F2.kp b2) (jh G1 (aaC X G a1) F1.kp b1) alF (aaC X G p9);have XQ:aV l.prog w K mg base (Cz l.prog w) 4 f25 _ ["self","house","run","name","reading"] (CK C e9):=Td F25 TC (G22.mono (by decide)) ⟨a22,i22,F22.kp⟩ b22 (FT.mono (by decide)) ⟨a23,i23,F23.kp⟩ b23;have XR:aV l.prog w K mg base (Cz l.prog w) 4 f25 _ ["self","house","run","name","reading"] (CN C e2):=Te F25 T TC (jh (G11.mono (by decide)) (aaC X G a11) F11.kp b11) (G22.mono (by decide)) ⟨a22,i22,F22.kp⟩ b22 (G23.mono (by decide)) ⟨a23,i23,F23.kp⟩ b23 (G28.mono (by decide)) b28 (Og v1a v1b v1c v1d v1e v1f v1g v1h v1i) i28 v2 (aaC X G p2);have Jk:aV l.prog w K mg base (Cz l.prog w) 3 f26 _ ["self","sent","taken","least","most"] (rF C e10):=Fp F26 T TC (jh G6 (aaC X G a6) F6.kp b6) (jh (G11.mono (by decide)) (aaC X G a11) F11.kp b11) afm (aaC X G p10);have G29:aV l.prog w K mg base dF 1 f29 _ ["_law_e"] (yC K c):=Xc F29 T M;have G30:aV l.prog w K mg base dF 4 f30 _ ["_law_keeper","_law_told"] (qd C):=Iz F30 T TC M (aaC X G pS) Jk ⟨a26,i26,F26.kp⟩ b26 (Jj x3 ae8 ae9) alG (jh (G29.mono (by decide)) (aaC X G a29) F29.kp b29);have G31:aV l.prog w K mg base dF 5 f31 _ ["_law_keeper","_law_told"] (yE C):=Nz F31 T TC M (aaC X G pS) XR ⟨a25,i25,F25.kp⟩ b25 (Jj x3 ak8 ak9) so2 v5 v4 (jh (G29.mono (by decide)) (aaC X G a29) F29.kp b29);have G32:aV l.prog w K mg base dF 5 f32 _ ["_law_keeper","_law_house_here"] (oU C):=CQ F32 T TC M (aaC X G pS) XQ ⟨a25,i25,F25.kp⟩ b25 (Jj x3 alr als) so9 (jh (G29.mono (by decide)) (aaC X G a29) F29.kp b29);have G33:aV l.prog w K mg base dF 1 f33 _ ["_law_one","_law_other"] CT:=Tn F33;have G34:aV l.prog w K mg base dF 1 f34 _ ["_law_rows"] uE:=IK F34 T;have G35:aV l.prog w K mg base dF 9 f35 _ ["_law_pack_here","_law_ledger_here"] uI:=Uc F35 T TC (jh (G20.mono (by decide)) (aaC X G a20) F20.kp b20) (jh (G21.mono (by decide)) (aaC X G a21) F21.kp b21) (jh (G14.mono (by decide)) (aaC X G a14) F14.kp b14) (jh (G19.mono (by decide)) (aaC X G a19) F19.kp b19) (jh (G33.mono (by decide)) (aaC X G a33) F33.kp b33) (jh (G34.mono (by decide)) (aaC X G a34) F34.kp b34) (jh (G30.mono (by decide)) (aaC X G a30) F30.kp b30) (jh (G31.mono (by decide)) (aaC X G a31) F31.kp b31) (jh (G32.mono (by decide)) (aaC X G a32) F32.kp b32) (G26.mono (by decide)) ⟨a26,i26,F26.kp⟩ b26 (G25.mono (by decide)) ⟨a25,i25,F25.kp⟩ b25 (G27.mono (by decide)) ⟨a27,i27,F27.kp⟩ b27 (G24.mono (by decide)) ⟨mk,a24,i24,kc⟩ b24;exact aa6 F36 T TC (jh G35 (aaC X G a35) F35.kp b35) (jh (G13.mono (by decide)) (aaC X G a13) F13.kp b13) (jh (G18.mono (by decide)) (aaC X G a18) F18.kp b18) (jh (G30.mono (by decide)) (aaC X G a30) F30.kp b30) (G26.mono (by decide)) ⟨a26,i26,F26.kp⟩ b26 (G24.mono (by decide)) ⟨mk,a24,i24,kc⟩ b24
theorem walk {l:anA} {q:abt} {loose:List Str} {XP:(Str->Option aat)->afp->Prop} {YP:acU->afp->Prop} {d:DefRec} {K:Params->aaf} (hn:l.most=some 63) (hdf:d.params.defaults=[])
   (hY:∀ (w:acU) (h:afp),YP w h->(K w.params).In h)
   (F:∀ (w:acU) (mg:Str->Option aat) (fa:aaH) (h:afp),(K w.params).In h->h.Ns mainGlobals mg->mg d.name=some (.ref fa) ->
     ∃ fd:abL,(∀ (s:aav) (u:aat),ao9 s fd ⟨[u],[]⟩ [("_law_script",u)])/\∀ base:afp,(K w.params).In base->base.Ns mainGlobals mg->aV l.prog w (K w.params) mg base dF 10 fa fd ["_law_script"] (KC (K w.params))) :
   PySem.W.WalkO q loose XP YP l.row.toRowW d [] (λf vs=>PySem.call f vs) :=
 Oh (n:=63) (k:=10) (x:="_law_script") (CX:=λ_=>dF) (sp:=λw=>KC (K w.params)) hn (by decide) hdf ⟨rfl,by decide,by decide⟩ hY F (λ_ _ a ns hl hb _ hS=>⟨a,ns,rfl,hS,hl,hb,λ_=>rfl⟩) λ_ _ _ _ _ z=>z
end Eb
namespace PySem.W.Fast
def tw6532018044379416767:=()
def tw10721139693512063002:=()
def tw17845699228321379348:=()
def tw5287810941497325917:=()
def tw11042260312883668198:=()
def tw5661760068644222655:=()
def tw11602082246378684114:=()
def tw17200971687306794309:=()
def tw6558235322942116464:=()
def tw4403707220738133279:=()
def tw6254341792236726891:=()
def tw2507874315961204423:=()
def tw2838703262056427889:=()
def tw10504980793310382906:=()
def tw527219470373710100:=()
def tw11912290417578942618:=()
def tw953096490939650754:=()
def tw3293493883895100900:=()
def tw14684596188137071350:=()
def tw18149005602624223843:=()
def tw18183020944484790510:=()
def tw6813387759329648786:=()
def tw647890894053535650:=()
def tw7495218943002790831:=()
def tw12667250380859580801:=()
def tw1800037925851042351:=()
def tw744010272750148600:=()
def tw14511253372272211579:=()
def tw7478802963825584683:=()
def tw11826695011787611703:=()
def tw11538024272788819126:=()
def tw16670820716038320168:=()
def tw1333919729604587510:=()
def tw2598768847332365562:=()
def tw2742241024078246127:=()
def tw3781867997208234469:=()
def tw5537305446459123831:=()
def tw8133796092434240564:=()
def tw5583632188086096659:=()
def tw16702362125020334034:=()
def tw643470226326949392:=()
def tw9497139291202126505:=()
def tw11733119136625437613:=()
def tw4249081267619691358:=()
def tw7606520935977688622:=()
def tw11001800930937366171:=()
def tw10892584998249365300:=()
def tw206748235663663850:=()
def tw12422389413300042826:=()
def tw15359054145443882720:=()
def tw11774537374052437418:=()
def tw11810647789234693840:=()
def tw2797005150920347339:=()
def tw12268151549828100573:=()
def tw14137783282165553433:=()
def tw17735773848602839448:=()
def tw13125561281611633497:=()
def tw8896833231962268151:=()
def tw5861950649804940704:=()
def tw15613412484789362904:=()
def tw10802930176644848633:=()
def tw2259410137069580167:=()
def tw15076436692716942998:=()
def tw5209703927909666978:=()
def tw7281048682128724666:=()
def tw17012228821360112559:=()
def tw11677206595763794093:=()
def tw9890538470345616495:=()
def tw11350832025499980968:=()
def tw11267618448644916532:=()
def tw7840742220572568855:=()
def tw15192864683208891899:=()
def tw5177243205825752286:=()
def tw15859347758877167133:=()
def tw353906479135495183:=()
def tw1002736412088299384:=()
def tw10597951267035541565:=()
def tw7966952364350128525:=()
def tw7313181725500737034:=()
def tw17719445832055876408:=()
def tw14179508504933013292:=()
def tw1176847761571816495:=()
def tw3716563319623322735:=()
def tw16803394150599740465:=()
def tw12629839600803481580:=()
def tw9573021044497920186:=()
def tw2058140155947970344:=()
def tw12445939638162508216:=()
def tw10173491941321271801:=()
def tw9177789297576142208:=()
def tw2295864441187130179:=()
def tw3684184213860145683:=()
def tw3466195268908009775:=()
def tw16082830523217735868:=()
def tw16578719081343549117:=()
def tw6524356531234399263:=()
def tw672780334601906232:=()
def tw9264801514434731203:=()
def tw17116981198613624599:=()
def tw17390638203859179492:=()
def tw16223566276376911707:=()
def tw14738738019288901670:=()
def tw16135977743626315843:=()
def tw5272144485658418450:=()
def tw13518644068693723787:=()
def tw17933162440683314318:=()
def tw9576004876296755017:=()
def tw18881527212913792:=()
def tw9382247206117031208:=()
def tw7270775279646809942:=()
def tw290808773789970019:=()
def tw2163939599055276484:=()
def tw2433981228507961864:=()
def tw5461521905037344889:=()
def tw9866008647213738204:=()
def tw10150421084451174511:=()
def tw12135835904993820411:=()
def tw15620189335801706154:=()
def tw10946522799036124768:=()
def tw17009217064300685013:=()
def tw2674917228656357539:=()
def tw15373740316733747393:=()
def tw4359736405131792207:=()
def tw17677398301488961824:=()
def tw12841504000895200562:=()
def tw12709534695244439792:=()
def tw4764536921042752201:=()
def tw8516908322881065034:=()
def tw17920387851313807251:=()
def tw4735044711271578249:=()
def tw6445666706010831439:=()
def tw10991259202835120579:=()
def tw13480238201713114314:=()
def tw9986793454404932834:=()
def tw13246788676287061159:=()
def tw5667242385507339849:=()
def tw16709986238011787275:=()
def tw10123608510013512843:=()
def tw15393902064959651306:=()
def tw9385257698412596419:=()
def tw2522294225905730929:=()
def tw11687930488020145661:=()
def tw13769468011383805598:=()
def tw9100857593524019000:=()
def tw5243043397208861210:=()
def tw492988950643215135:=()
def tw15564303214439956037:=()
def tw922402351450882932:=()
def tw3995903822951746076:=()
def tw15737620808758037566:=()
def tw8997106770146313308:=()
def tw4857534964252178783:=()
def tw3781534137137609261:=()
def tw11337689140168731292:=()
def tw18225297981092318986:=()
def tw8256277474781406143:=()
def tw11884390424292941772:=()
def tw11027742842012639176:=()
def tw12596130235562503835:=()
def tw1789409724200531802:=()
def tw14208382009472239561:=()
def tw1228870179469600871:=()
def tw8555232206699346494:=()
def tw1691271244512447184:=()
def tw18374877892803406722:=()
def tw15257060328637220538:=()
def tw7202204546341297126:=()
def tw3601644644446915345:=()
def tw3538441393343081177:=()
def tw16796726356654391223:=()
def tw7765885816550712839:=()
def tw12466522904914158350:=()
def tw8088173414576601359:=()
def tw15908398872528027886:=()
def tw9503009583893490471:=()
def tw13941360710747073181:=()
def tw357332654751360810:=()
def tw18140437258853191888:=()
def tw1386642510265031351:=()
def tw7509106277554863524:=()
def tw1527289362574472740:=()
def tw12274067474251615113:=()
def tw17212618309728200716:=()
def tw17281675026761630055:=()
def tw16833033437358022977:=()
def tw2175492940096880563:=()
def tw6021752471047067669:=()
def tw1291479360059164416:=()
def tw4813733963946731222:=()
def tw7477041078072694007:=()
def tw18287292802345279155:=()
def tw13505731738837395330:=()
def tw9479676224866363433:=()
def tw1457908337187201098:=()
def tw17772541984327487440:=()
def tw7201376730687228838:=()
def tw11975978927970351695:=()
def tw4469805004287895720:=()
def tw10979713213364159336:=()
def tw13957375179739129598:=()
def tw11417563763727401486:=()
def tw2410623576125598735:=()
def tw14198329014563787765:=()
def tw17803916519728109616:=()
def tw7791949398008611498:=()
def tw16165584801963932245:=()
def tw12421381818333620122:=()
def tw4586780726397138905:=()
def tw9780877863914408668:=()
def tw10258115138416628303:=()
def tw756898291995520304:=()
def tw13404160869187048225:=()
def tw8125476910824609398:=()
def tw8590934669660677325:=()
def tw15417467828244502350:=()
def tw4151572262013563975:=()
def tw2618433565165786239:=()
def tw5753588138266055902:=()
def tw10131908381747723313:=()
def tw14726896564835275124:=()
def tw987713763300339749:=()
def tw6705482611866051054:=()
def tw2568030193315164335:=()
def tw9552685879256111928:=()
def tw11904477441987258135:=()
def tw11188186362275648471:=()
def tw13023598814342177798:=()
def tw9860764163554228313:=()
def tw357462941400657322:=()
def tw4650101068016430674:=()
def tw7580598767627614022:=()
def tw10204515161391825457:=()
def tw13140027671932895866:=()
def tw8009664602041379460:=()
def tw12112221682689202969:=()
def tw7666285685027567860:=()
def tw7579165578000152772:=()
def tw8589515808316848223:=()
def tw13830882690668569548:=()
def tw11379227458059731880:=()
def tw590649370767029659:=()
def tw538631390286391331:=()
def tw14366739950579344622:=()
def tw1115217507736850333:=()
def tw9488539894798908791:=()
def tw798343137445077187:=()
def tw6576270007013642534:=()
def tw2512744233230626474:=()
def tw1063164354134576207:=()
def tw3024804769695741490:=()
def tw16917448559165365646:=()
def tw8829393855484333090:=()
def tw7753681448192125342:=()
def tw2482024716271215715:=()
def tw14175070014277050987:=()
def tw14655333597180691617:=()
def tw11859443294303510597:=()
def tw18372535753394872760:=()
def tw8718371330830551113:=()
end PySem.W.Fast
open PySem PySem.W PyProof.Rows
set_option maxRecDepth 100000 in
set_option maxHeartbeats 0 in
theorem PySem.Challenge.cw_skewbooks_k39_letters_refused_holds : PySem.Challenge.rw_skewbooks_k39_letters_refused.Holds := by
 w_on; o_law; k_head; (case hw=>w_witness2)
 k_fill
 refine Eb.walk (l:=PySem.Challenge.rw_skewbooks_k39_letters_refused) rfl rfl (λw h Y=>PySem.W.kIn_of Y) ?F
 case F =>
   intro w mg fa h KX G hmg;apply Eb.all_mk KX G hmg
   all_goals first | k_is | kit_is | k_exc | (apply L2.Zq <;> k_is) | (dsimp only; rfl) | rfl
