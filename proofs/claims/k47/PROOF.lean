import PyProof.Rows.All
import Wide.All
import OpenK.AllK
import Wide.FinOn
import Lean
import PyProof.EqAt
import PyProof.EqKinds
import PyProof.TupleCall
import PyProof.ZipIter
import PyProof.Draws
import PyProof.EnumMake
import PyProof.ExcStrCall
import PyProof.ExcStrAll.ValueError
import PyProof.TupleOfStr
import PyProof.DictIter
import PyProof.DictWalks
import PyProof.Rows.SetFrom
import PyProof.CollectWalk
import PyProof.Rows.SortShell
import PyProof.Rows.SortWalk
import PyProof.ListRange
import KE.KEqDict
import KE.KDictSum
import KE.KIntText
import PyProof.Rows.StrFirst
import PyProof.Rows.FStr
import PyProof.FString
import PyProof.PureStr
import PyProof.FactsAll.str_6
import PyProof.ToksMono
import PyProof.FitsReplace
import PySem.Challenge.RW_bracketrows_k47_asked_at_the_desk
set_option Elab.async false
set_option linter.all false
set_option maxRecDepth 100000
set_option compiler.extract_closed false
local macro_rules | `(def $i:declId $s:optDeclSig $v:declVal) => `(noncomputable def $i:declId $s:optDeclSig $v:declVal)
noncomputable section
set_option tactic.hygienic false
set_option genSizeOf false
set_option bootstrap.genMatcherCode false
local macro_rules | `(tactic| lia) => `(tactic| first|lia (splits:=9)|omega)
set_option hygiene false
local macro_rules|`(inductive $i:declId $b:bracketedBinder*:Type $c:ctor*)=>`(inductive $i:declId $b:bracketedBinder*(vs:List V)(H:Hp)(Q:VK)(E:XK):Prop $c:ctor*)
set_option hygiene true
def aB:=@if_neg
def aO:=@if_pos
def aX:=@decide_eq_false
def ba:=@decide_eq_true
def bq:=@decide_eq_true_eq
def bE:=@beq_iff_eq
def cx:=@congrArg
def cW:=@beq_eq_false_iff_ne
def fh:=@beq_self_eq_true
def fJ:=@if_true
def f5:=@if_false
def ge:=@decide_eq_decide
def ib:=@of_decide_eq_true
def iB:=@decide_eq_false_iff_not
def jy:=@bne_iff_ne
def j4:=@or_false
def nv{p:Prop}(h:p:=by decide):p:=h
def nB{p:Prop}(h:p:=by decide +kernel):p:=h
def nC{p:Prop}(h:p:=by simp):p:=h
def nE{p:Prop}(h:p:=by with_unfolding_all rfl):p:=h
def nF{p:Prop}(h:p:=by first|decide|decide +kernel):p:=h
def nA{p:Prop}(h:p:=by lia):p:=h
section
open Array renaming getElem?_eq_getElem->bh,getElem?_eq_some_iff->bH,getElem?_toList->cp,length_toList->cL,getElem?_eq_none->dB,toList_push->f3,toList->f',getD->jC,append_assoc->kq,size_push->lO
open Bool renaming false_ne_true->aq,and_eq_true->aQ,or_eq_true->bP,false_eq_true->dM,eq_iff_iff->d1,true_and->iJ,beq_eq_decide_eq->ju,not_true->ko,or_false->mn
open Classical renaming propDecidable->iI
open False renaming elim->bz
open ForInStep renaming yield->bw
open Int renaming mul_nonneg->be,mul_le_mul_of_nonneg_right->bF,le_trans->bM,mul_le_mul->cq,le_refl->cZ,toNat_natCast->d0,zero_mul->fD,pow_succ->fE,mul_assoc->fP,one_mul->fY,mul_le_mul_of_nonneg_left->gi,lt_irrefl->gA,fdiv_eq_ediv_of_nonneg->gR,mul_comm->gY,mul_left_comm->ir,natCast_add->jq,mul_zero->jr,toNat_of_nonneg->jV,add_mul->jW,neg_neg->lM,mul_one->lN,pow_nonneg->lR,add_zero->mG,pow_add->mX
open List renaming getD_eq_getElem?_getD->af,getElem?_eq_getElem->ai,getElem?_map->am,size_toArray->av,range->aw,length_map->ax,mem_cons_of_mem->ay,getElem?_eq_some_iff->az,mem_cons_self->aA,length_append->aG,mem_cons->aJ,length_cons->aM,mem_append_right->aP,replicate->aS,all_eq_true->aT,getElem?_range->aU,mem_singleton->aV,map_cons->aW,lookup_cons->aY,map_append->bv,mem_range->bG,getElem?_eq_none->bL,replicate_succ->bQ,mem_of_getElem?->bV,getElem?_set_ne->bW,range_succ->bZ,length_take->cc,mem_map->cg,take_add_one->cy,flatten_cons->cz,getElem?_append_right->cB,mem_iff_getElem->cC,mem_append_left->cD,append_nil->cG,find?_cons->cT,length_range->cY,getElem?_append_left->da,length_replicate->db,any_cons->dh,map_congr_left->dw,filterMap_cons->dy,take_of_length_le->dA,take_length->dD,not_mem_nil->dE,getElem_mem->dF,lookup->dN,mem_append->dW,forIn_cons->dX,eq_of_mem_replicate->dY,map_map->d4,take_zero->eF,getElem?_set_self->eG,append_assoc->e9,getElem_toArray->fb,getElem?_zip_eq_some->fe,drop_zero->ff,length->fq,map_nil->fC,nodup_cons->fL,mem_filterMap->fM,length_eq_zero_iff->fN,all_cons->fO,range_succ_eq_map->fR,ext_getElem?->fX,length_singleton->f9,eq_nil_of_length_eq_zero->gg,length_dropLast->gs,of_mem_zip->gK,length_nil->gM,flatMap_append->gN,length_eraseIdx_of_lt->gQ,take_succ->hH,drop_eq_getElem_cons->hJ,take_sublist->ip,getElem?_set->iq,getElem?_replicate->iH,length_drop->iQ,filter_cons->iR,pairwise_lt_range->iY,drop_of_length_le->iZ,take_append_drop->jg,mem_iff_getElem?->jh,mem_filter->ji,length_set->jj,head?_drop->jk,getElem?_toArray->jl,filterMap_append->jm,cons_lt_cons_iff->jo,head?->jA,replicate_succ'->jF,mem_of_mem_take->jG,mem_of_mem_tail->jH,forIn_nil->jM,map_eq_nil_iff->jR,flatten_append->jS,drop_succ_cons->jT,getElem?_take->ki,getElem?_drop->kj,find?_eq_none->kl,getElem_drop->kG,any_nil->kS,zipIdx_cons->lb,mem_flatMap->lc,getElem_map->lf,zipIdx_nil->lF,range'->lH,nil_append->lI,foldl_cons->lJ,tail_drop->lP,foldl->lZ,all_map->mE
open List.Pairwise renaming sublist->jp,nil->kH,map->kI,imp->kJ
open List.Perm renaming cons->lQ
open List.cons renaming injEq->lK,inj->mj
open List.range renaming loop->lG
open Nat renaming le_refl->ao,lt_of_lt_of_le->aI,ne_of_lt->aN,le_trans->bj,zero_le->bA,lt_irrefl->bU,lt_succ_self->bX,le_of_lt->b9,lt_succ_of_lt->ce,lt_of_le_of_lt->de,lt_trans->dL,sub_self->d3,ne_of_gt->eL,le_of_eq->fA,not_lt_zero->gH,min_eq_left->gI,le_succ->gJ,le_succ_of_le->io,succ_ne_self->iO,le_of_not_lt->iP,toDigits->jf,mod_lt->kF,sub_zero->kQ,lt_or_ge->kR,min_eq_right->k9,le_total->mD,log2_lt->mV
open Nat.succ renaming inj->mC
open Ne renaming symm->cI
open Option renaming map_eq_some_iff->dz,isSome_iff_exists->il,getD_none->iN,map_some->je,toList_some->kg,isSome_some->kh,isSome_map->kD,none->mU
open Option.some renaming inj->bi,injEq->e8
open Or renaming inr->kO,inl->kP
open Prod.mk renaming injEq->ke
open PyProof renaming noPylong_small->iX
open PyProof.Rows renaming callWith_type1->bY,callWith_builtin1->f8,IntsAre->hU,AllBare->hV,envOfC->ig,subscriptTail->iy,subscriptTail_builtinR->iV,isBoolOf->jx,joinParts_cons->jL,Subscript_->kB
open PySem renaming wpAny_bind->ac,wpAny_pure->ag,Value->ah,Shared->ak,wpAny->aH,starEach->aL,model->aR,wpAny_mono->aZ,mainGlobals->a',compareOp->bt,mem_of_lookup->bC,sysModules->bJ,Program->bK,sizeLine_eq->cj,wpAny_Call_Name_kw->ck,wpAny_loadPart'->cm,wpAny_truthy_bool->cr,foldedSetIterable->cu,codeAny_builtin->cE,wpAny_holding->cH,wpAny_newObj_type->cM,wpAny_callSpecial?_slot->cN,letOwnedTupleGo->cO,World->cX,wpAny_seqItems->c9,wpAny_call_entry->df,wpAny_standAt->dg,wpAny_setField->di,codeAny_mono->dj,call_meets->dq,wpAny_field->dr,codeAny->dt,wpAny_askSetting->dC,wpAny_setField_rec->dG,cellsFrom->dH,backTo->dI,binaryOp->dO,wpAny_setState_of->dP,wpAny_passesOwn->dQ,IsPair->dZ,rawInt->d2,attributeBase->d5,assignEach->d9,bootBuiltins->eJ,Around->eR,wpAny_rule->eS,wpAny_pyIter_list->eU,typeIs_str->eV,plainId_quiet->eY,behindInMarks->eZ,Builtin->fc,strIterType->fi,sliceBounds->fj,keywordEach->fk,wpAny_call->fu,pyNext->fv,wpAny_execs_nil->fH,wpAny_attempt->fI,wpAny_pyIter_enum->fU,holding->fV,NameKind->f6,standAt->gb,wpAny_updateSeq_pair->gj,codeAny_call_builtin->gq,Scope->gu,wpAny_setEntries_of->gB,swapsWith->gC,scanBound->gE,intKind->gG,wpAny_newFunctionEnv_cells->gP,tupleKind_room_in1->gU,assign->gV,SetTable->gW,firstArgMember->hB,wpAny_getItem_list_slice->hX,wpAny_comprehension_free->hZ,wpAny_assign_Name->h7,slot_list_getitem->ia,getMethod->ie,wpAny_onRaise->ix,slicePicked->iz,comprehension->iC,backToKw->iD,wpAny_isInstance->iM,wpAny_pyNext_range_end->iS,wpAny_pyNext_enum_endD->iT,wpAny_pyIter_rangeiter->iU,codeAny_compStart_list->iW,IsZip->i3,wpAny_updateSeq->i4,wpAny_isTrue_Compare1->i5,valueAt->i6,theTreesLotGoes->i7,pyIter->i8,pushCells_keeps->i9,exec_Assign_Name_used->i',codeAny_of_tree->ja,codeAny_call_function->jb,Draws->jt,sliceRange->jv,isInstance->jw,Operator->jz,FuncData->jB,wpAny_loadName_local->jD,cLine->jE,wpAny_loadPart->jJ,recursionLimit->jK,wpAny_loadName_cell->jN,subscripted->jO,setNext->jP,hashInt->jQ,IsRangeIter->jU,wpAny_pyIter_range->j0,tupleKind->j1,relayAll->j2,pickOrder->j3,isTrue->j5,evalPart_none->j6,compPost->j7,compEnvC->j8,Paired->kf,wpAny_storeSet_of->kr,wpAny_setEpoch_of->kt,pushGuards->ku,getItem->kx,fits_of_scanBound->ky,callerA->kz,PlainAttrs->kC,BindsTo->kK,codeAny_loop->kM,Within->kN,wpAny_pyIter_zip->kW,wpAny_getItem_of->kX,wpAny_execs_cons->kY,checkBuiltinCall->kZ,guardIds->lg,compTurn->lh,callWith->li,wpAny_specialOf->lm,wpAny_of_eq->ln,wpAny_noted->lr,wpAny_letGo->lu,slicePick->lv,seqItems?->lw,seqIndex_of->lz,pushCells->lA,noteFrame->lB,Keyword->lL,wpAny_Name->lT,typeIs_int->lU,setsByText->lV,builtinsNs->lW,newList->l8,limitOf->md,GenState->ml,updateSeq->mq,storeName->mu,inplaceOp->mx,drawOrder->my,atKey->mz,IsEnum->mF,DictEntry->mH,CmpOp->mI,spliced->mJ,setItem->mK,relabel->mL,field->mM,bindL->mO,bindC->mP,typeOf->m3,Result->m5,fresh->m6,again->m7,call->m9
open PySem.Around renaming under_plainId->ci,under->fG,deeper->iK,frames_deeper->jI
open PySem.Builtin.Int renaming intBits->jZ
open PySem.Builtin.List renaming listTooLong->fF,listExtendWith->gO,listSameRef->iw
open PySem.Builtin.Range renaming rangeSize->cA,small->c8,rangeFitsLong->eO
open PySem.Builtin.SmallTypes renaming nextOf->bR,ownedTupleIsFree->cK,ownedTupleHandOut->fg
open PySem.Builtin.Str renaming occurrences->bO,strKind->cJ,strSub->cU,strSliceIndices->eN,subAt->iu
open PySem.Calls renaming spliced_cons->fQ,callWith_builtin->fS,spliced_nil->fZ,evalArgs_plain->gt,Name_function_global->gS
open PySem.Code renaming isGuard->gZ,guards->jY,quiet_builtin->kn,isFrame->kU,frames->mZ
open PySem.Data renaming seq->lj,fields->mY
open PySem.Draws renaming strAscii->lS,list->l4,strWide->mm
open PySem.F renaming entry_str_split->cQ,slot_str_split->cV,args_str_split_3->fw,args_str_split_2->fx,slot_dict_getitem->hG,slot_dict_pop->jd
open PySem.Heap renaming get?_push_of_some->ae,get?_push_size->ap,lt_size->au,SameBut->bu,size_push->bB,get?_update_other->bD,get?_update_self->bN,ExtBut->jX,FlyingW->kT
open PySem.Heap.IsSliceOf renaming new->km
open PySem.Heap.SameBut renaming update->c7
open PySem.IsRange renaming new->mW
open PySem.MeetsSeq3 renaming plain_eq_loop->iA
open PySem.NameKind renaming cell->bb,free->cS
open PySem.Obj renaming data_mapFields->cR,isFreed_of_fields->dJ,mapSeq->fy,cls_mapFields->fW,mapFields->iG,putSet->kE
open PySem.Paired renaming length->iF,snoc->mT
open PySem.SeqAt renaming EqAt->lY
open PySem.SeqAt.EqAt renaming str_int->kc,int_str->kd
open PySem.SetTable renaming below->b8,grown->eh,insertAt->ik,orStandIn->kb,advance->k8,laid->mi
open PySem.SetTable.below renaming go->e6
open PySem.SetTable.probe renaming go->ij
open PySem.Shared renaming TypeIs->mh
open PySem.Str renaming empty->cF,ofString->f7,ofString->gX,join->m4
open PySem.StrLaws renaming occBody->cP,partsFrom->ii,found_one->iE
open PySem.Txt renaming splitMax->jc,partition->j9,split->mB
open PySem.Value renaming ref->aj,none->dc,type->dR,bool->dS,str->d8,int->fK,isInt_shape->kA,float->lD,isStrOf->me,builtin->mf,isInt->mR,bytes->mS
open PySem.W renaming drawn->lC
open PySem.W.WData renaming int->na
open PySem.W.WShape renaming has->m8
open PySem.Walks renaming list->lX,range->mQ
open PySem.pickOrder renaming go->kL
open Sum.inr renaming inj->lE
open True renaming intro->dU
open PySem PySem.Spec PyProof.Rows
variable{XP:(Str->Option ah)->Heap->Prop}{C S p:Addr}{A:eR}{es:Array (Int×ah)}{dd:D15}{env:Env}{e tg:Expr}{fd:jB}{base h':Heap}{lo:Int}{pins:List (Addr×Obj)}{L ps:List (List Int)}{bad ch:List Addr}{outer:List Env}{elts ifs:List Expr}{ms ns:List Int}{a b nm sel st:List Nat}{own:List Str}{us ys:List ah}{M:Model}{c ep i j n t':Nat}{ad:Nat->Addr}{f:Nat->Int}{o:Obj}{tpos:Pos}{P prog:bK}{K:W.Frag}{R:m5->ak->Prop}{scope:gu}{pl:Sem Bool}{t:gW}{qual x:Str}{kindOf:Str->Option f6}{mg:Str->Option ah}{α:Type}{E Q:ah->ak->Prop}{w:cX}
namespace L2
abbrev Key:=Sum Int Str
def Dr:Key->ah->Bool
 | .inl k,v=>mR k v
 | .inr x,v=>me x v
def Xu(w:cX):Key->Int
 | .inl k=>jQ k
 | .inr x=>hashStr w x
theorem Cb:∀ {k:Key} {v:ah},Dr k v=true->(∃i t,k=Sum.inl i/\v=fK i t)\/(∃x t,k=Sum.inr x/\v=d8 x t)
 | .inl i,v,h=>by
   obtain⟨t,e⟩:=kA (k:=i) (v:=v) h;exact .inl ⟨i,t,rfl,e⟩
 | .inr x,v,h=>by
   obtain⟨t,e⟩:=Value.isStrOf_shape (x:=x) (v:=v) h;exact .inr ⟨x,t,rfl,e⟩
theorem Q4(i:Int)(t:Tok):Dr (.inl i) (.int i t)=true:=by simp[Dr,mR]
theorem GU(x:Str)(t:Tok):Dr (.inr x) (.str x t)=true:=by simp[Dr,me]
theorem WE(a b:Int):decide ((Sum.inl a:Key)=Sum.inl b)=(a==b):=by
 by_cases e:a=b
 ·subst e;simp
 ·have h:¬ (Sum.inl a:Key)=Sum.inl b:=λq=>e (Sum.inl.inj q);rw[aX h];exact(cW.mpr e).symm
theorem WB(a b:Str):decide ((Sum.inr a:Key)=Sum.inr b)=decide (a=b):=by
 by_cases e:a=b
 ·subst e;simp
 ·have h:¬ (Sum.inr a:Key)=Sum.inr b:=λq=>e (lE q);rw[aX h,aX e]
theorem WD(a:Int)(b:Str):decide ((Sum.inl a:Key)=Sum.inr b)=false:=aX (λq=>nomatch q)
theorem WC(a:Str)(b:Int):decide ((Sum.inr a:Key)=Sum.inl b)=false:=aX (λq=>nomatch q)
def BI(prog:bK)(w:cX):PySem.KeyKind prog w Key where
 is:=Dr
 hash:=Xu w
 inj:=λv a b r q=>by
  rcases Cb r with⟨i,t,rfl,rfl⟩|⟨x,t,rfl,rfl⟩
  ·rcases Cb q with⟨j,u,rfl,e⟩|⟨y,u,rfl,e⟩
   ·injection e with d _;rw[d]
   ·exact nomatch e
  ·rcases Cb q with⟨j,u,rfl,e⟩|⟨y,u,rfl,e⟩
   ·exact nomatch e
   ·injection e with d _;rw[d]
 byValue:=λk v h=>by
  rcases Cb h with⟨i,t,rfl,rfl⟩|⟨x,t,rfl,rfl⟩<;>rfl
 pyHash:=λo h=>by
  rcases Cb o with⟨i,t,rfl,rfl⟩|⟨x,t,rfl,rfl⟩
  ·exact wpAny_pyHash_int h
  ·exact wpAny_pyHash_str h
 eqBool:=λz o h=>by
  rcases Cb z with⟨i,t,rfl,rfl⟩|⟨x,t,rfl,rfl⟩
  ·rcases Cb o with⟨j,u,rfl,rfl⟩|⟨y,u,rfl,rfl⟩
   ·rw[WE]at h;exact wpAny_eqBool_int h
   ·rw[WD]at h;exact kd i t y u _ _ _ _ h
  ·rcases Cb o with⟨j,u,rfl,rfl⟩|⟨y,u,rfl,rfl⟩
   ·rw[WC]at h;exact kc x t j u _ _ _ _ h
   ·rw[WB]at h;exact wpAny_eqBool_str h
 «strs»:=λk x t v h=>by
  rcases Cb h with⟨i,u,rfl,e⟩|⟨y,u,rfl,e⟩
  ·exact nomatch e
  ·injection e with d _
   subst d
   cases v<;>rfl
theorem PY(prog:bK)(w:cX)(i:Int)(t:Tok):(BI prog w).is (.inl i) (.int i t)=true:=Q4 i t
theorem PX(prog:bK)(w:cX)(x:Str)(t:Tok):(BI prog w).is (.inr x) (.str x t)=true:=GU x t
inductive V where
 |non|bl (b:Bool)|int (i:Int)|str (x:Str)|byt (b:Array UInt8)|flt (b:UInt64)|ref (a:Addr)|ty (n:String)
 deriving DecidableEq
def RelV:V->ah->Prop
 | .non,u=>u=dc
 | .bl b,u=>u=dS b
 | .int i,u=>∃t,u=fK i t
 | .str x,u=>∃t,u=d8 x t
 | .byt b,u=>∃t,u=mS b t
 | .flt b,u=>∃t,u=lD b t
 | .ref a,u=>u=aj a
 | .ty n,u=>u=dR n
abbrev Vals:List V->List ah->Prop:=kf RelV
theorem Vals.length{xs:List V}(r:Vals xs us):xs.length=us.length:=iF r
theorem Vals.get:∀ {a:List V} {us:List ah} {i:Nat} {x:V},Vals a us->a[i]? =some x->∃u,us[i]? =some u/\RelV x u
 |_,_,_,_, .nil,e=>by simp at e
 |_,_,0,_, .cons r _,e=>by simp at e;subst e;exact⟨_,rfl,r⟩
 |_,_,i+1,x, .cons _ t,e=>by
  obtain⟨u,b,d⟩:=Vals.get (i:=i) (x:=x) t (by simpa using e);exact⟨u,by simpa using b,d⟩
theorem Vals.set{x:V}{u:ah}(r:RelV x u):∀ {a:List V} {b:List ah} (i:Nat),Vals a b->Vals (a.set i x) (b.set i u)
 |_,_,_, .nil=> .nil
 |_,_,0, .cons _ t=> .cons r t
 |_,_,i+1, .cons q t=> .cons q (Vals.set r i t)
theorem Vals.append:∀ {a b:List V} {us ws:List ah},Vals a us->Vals b ws->Vals (a++b) (us++ws)
 |_,_,_,_, .nil,s=>s
 |_,_,_,_, .cons r t,s=> .cons r (Vals.append t s)
theorem Vals.take:∀ {a:List V} {b:List ah} (n:Nat),Vals a b->Vals (a.take n) (b.take n)
 |_,_,0,_=> .nil
 |_,_,_+1, .nil=> .nil
 |_,_,n+1, .cons r t=> .cons r (Vals.take n t)
theorem Vals.drop:∀ {a:List V} {b:List ah} (n:Nat),Vals a b->Vals (a.drop n) (b.drop n)
 |_,_,0,r=>r
 |_,_,_+1, .nil=> .nil
 |_,_,n+1, .cons _ t=>Vals.drop n t
def RelO:Option V->Option ah->Prop
 |some v,some u=>RelV v u
 |none,none=>True
 |_,_=>False
def KV{κ:Type}:List (κ×V)->List (κ×ah)->Prop:=kf fun(p:κ×V) (q:κ×ah)=>p.1=q.1/\RelV p.2 q.2
def kV:Key->V
 | .inl i=> .int i
 | .inr x=> .str x
inductive HO where
 |lst (xs:List V)
 |tup (xs:List V)
 |dK (kvs:List (Key×V))|dT (kvs:List (List Key×V))
 |set (S:Int->Bool) (n:Nat)
 |ins (C dx:Addr) (fs:List (Str×V))
 |own (x:Addr)
 |xd (fs:List (Str×V))
 |met (f x:Addr)
 |rng (lo hi:Int)
 |frz (o:Obj) (u:HO)
 |tbl (ps:Array ah)
 |ext (φ:Heap->Prop)
abbrev Hp:=Addr->Option HO
end L2
variable{H H' H1:Hp}{kvs:List (List Key×V)}{vs xs:List V}
namespace L2
variable{a b:Addr}{o:HO}
def upd(H:Hp)(a:Addr)(o:HO):Hp:=λb=>if b=a then some o else H b
theorem AF:upd H a o a=some o:=by unfold upd;rw[aO rfl]
theorem AI(h:b≠a):upd H a o b=H b:=by unfold upd;rw[aB h]
set_option tactic.hygienic true in
theorem S6{u:HO}:upd (upd H a o) a u=upd H a u:=by
 funext b;unfold upd;split<;>rfl
theorem IM{u:HO}(h:H a=some o)(h':H b=some u)(d:o≠u):a≠b:=by
 intro e;subst e;rw[h]at h';exact d (bi h')
theorem AS(h:H a=some o)(h':H b=none):a≠b:=by
 intro e;subst e;rw[h]at h';cases h'
section
variable(P:bK)(w:cX)
def ObjOk(H:Hp)(h:Heap)(a:Addr):HO->Prop
 | .lst e=>e.length<=sizeLine/\∃ (b:List ah) (n:Nat),Vals e b/\h.get? a=some {cls:= .type "list",data:= .seq b.toArray n}
 | .tup e=>e.length<=sizeLine/\∃b:List ah,Vals e b/\IsTup h a b.toArray
 | .dK d=>d.length<=sizeLine/\(a==bJ)=false/\∃vs,KV d vs/\h.DictOf (BI P w) a vs
 | .dT d=>d.length<=sizeLine/\(a==bJ)=false/\∃e:List (List Key×Addr×ah),
     kf (fun(p:List Key×V) (q:List Key×Addr×ah)=>p.1=q.1/\H q.2.1=some (.tup (p.1.map kV))/\RelV p.2 q.2.2) d e/\
     ∃o r B,h.get? a=some o/\o.ExactDict/\o.data= .dict r B/\r.toList=e.map (entryOfKey (j1 (BI P w)))/\(e.map (·.1)).Nodup
 | .set S n=>h.SetOf (gG P w) a S n
 | .ins C j fs=>H j=some (.own a)/\fs.length<=1000/\j≠a/\h.get? a=some (W.instObj C j)/\
     ∃i,h.Ns1 j i/\(∀f,RelO (fs.lookup f) (i f))/\kN i (fs.map (·.1))
 | .own _=>∃o,h.get? a=some o
 | .xd fs=>∃i,h.Ns1 a i/\∀f,RelO (fs.lookup f) (i f)
 | .rng lo hi=>∃t u v,h.get? a=some {cls:= .type "range",data:= .fields #[.int lo t, .int hi u, .int 1 v]}
 | .frz o u=>h.get? a=some o/\ObjOk H h a u
 | .tbl G=>h.get? a=some {cls:= .none,data:= .fields G}
 | .met f x=>h.get? a=some (W.methodObj (.ref f) (.ref x))
 | .ext φ=>φ h/\(∃o,h.get? a=some o)/\∀y z:Heap,φ y->(∀o,y.get? a=some o->z.get? a=some o)->φ z
structure HOk (H:Hp) (h:Heap):Prop where
 all:∀a o,H a=some o->ObjOk P w H h a o
 sm:∀o,H bJ=some o->∃ob u,o= .frz ob u
 bg:∃b o,1<b/\h.get? b=some o
instance (H:Hp) (h:Heap):CoeFun (HOk P w H h) λ_=>∀a o,H a=some o->ObjOk P w H h a o:=⟨HOk.all⟩
end
section
variable{h:Heap}
theorem ObjOk.lt(x:ObjOk P w H h a o):a<h.objs.size:=by
 cases o with
 |lst d=>obtain⟨_,_,_,_,e⟩:=x;exact au e
 |tup d=>obtain⟨_,_,_,p⟩:=x;exact p.lt
 |dK b=>obtain⟨_,_,_,_,o,_,_,e,_⟩:=x;exact au e
 |dT b=>obtain⟨_,_,_,_,o,_,_,e,_⟩:=x;exact au e
 |set S n=>obtain⟨o,_,_,_,e,_⟩:=x;exact au e
 |ins C i fs=>obtain⟨_,_,_,e,_⟩:=x;exact au e
 |own y=>obtain⟨_,e⟩:=x;exact au e
 |xd fs=>obtain⟨_,⟨_,_,_,e,_⟩,_⟩:=x;exact au e
 |rng lo hi=>obtain⟨_,_,_,e⟩:=x;exact au e
 |frz ob u=>obtain⟨e,_⟩:=x;exact au e
 |tbl j=>exact au (show h.get? a=some _ from x)
 |met f y=>exact au (show h.get? a=some _ from x)
 |ext φ=>obtain⟨_,⟨_,e⟩,_⟩:=x;exact au e
theorem Paired.mapP{β:Type}{F G:α->β->Prop}:∀ {d:List α} {l₂:List β},kf F d l₂->(∀a b,F a b->G a b)->kf G d l₂
 |_,_, .nil,_=> .nil
 |_,_, .cons r t,f=> .cons (f _ _ r) (Paired.mapP t f)
theorem ObjOk.stay(x:ObjOk P w H h a o)(k:∀b u,(b=a\/H b=some (.own a))->h.get? b=some u->h'.get? b=some u)
 (R:∀b,H b=some (.own a)->H' b=some (.own a)) (ht:∀b G,H b=some (.tup G)->H' b=some (.tup G)):ObjOk P w H' h' a o:=by
 induction o with
 |lst G=>obtain⟨z,B,n,r,e⟩:=x;exact⟨z,B,n,r,k _ _ (.inl rfl) e⟩
 |tup G=>obtain⟨z,B,r,ob,e,c⟩:=x;exact⟨z,B,r,ob,k _ _ (.inl rfl) e,c⟩
 |dK I=>obtain⟨z,y,vs,r,ob,i,j,e,c⟩:=x;exact⟨z,y,vs,r,ob,i,j,k _ _ (.inl rfl) e,c⟩
 |dT I=>
  obtain⟨z,y,G,r,ob,i,j,e,c⟩:=x;exact⟨z,y,G,Paired.mapP r λp q z=>⟨z.1,ht _ _ z.2.1,z.2.2⟩,ob,i,j,k _ _ (.inl rfl) e,c⟩
 |set S n=>obtain⟨ob,i,j,t,e,c⟩:=x;exact⟨ob,i,j,t,k _ _ (.inl rfl) e,c⟩
 |ins C X fs=>
  obtain⟨d,z,ne,e,J,⟨L,i,j,T,c⟩,r⟩:=x;exact⟨R _ d,z,ne,k _ _ (.inl rfl) e,J,⟨L,i,j,k _ _ (.inr d) T,c⟩,r⟩
 |own y=>obtain⟨ob,e⟩:=x;exact⟨ob,k _ _ (.inl rfl) e⟩
 |xd fs=>obtain⟨J,⟨L,i,j,e,c⟩,r⟩:=x;exact⟨J,⟨L,i,j,k _ _ (.inl rfl) e,c⟩,r⟩
 |rng lo hi=>obtain⟨t,u,v,e⟩:=x;exact⟨t,u,v,k _ _ (.inl rfl) e⟩
 |frz ob u U=>obtain⟨e,q⟩:=x;exact⟨k _ _ (.inl rfl) e,U q⟩
 |tbl M=>
  have e:h.get? a=some {cls:= .none,data:= .fields M}:=x;show h'.get? a=some {cls:= .none,data:= .fields M};exact k a _ (.inl rfl) e
 |met f y=>
  have e:h.get? a=some (W.methodObj (.ref f) (.ref y)):=x;show h'.get? a=some (W.methodObj (.ref f) (.ref y));exact k a _ (.inl rfl) e
 |ext φ=>obtain⟨p,⟨o,e⟩,Q⟩:=x;exact⟨Q _ _ p λo q=>k _ _ (.inl rfl) q,⟨o,k _ _ (.inl rfl) e⟩,Q⟩
theorem HOk.lt(x:HOk P w H h)(e:H a=some o):a<h.objs.size:=(x a o e).lt
theorem HOk.fresh(x:HOk P w H h)(e:h.objs.size<=a):H a=none:=by
 cases q:H a with
 |none=>rfl
 |some u=>exact absurd (aI (x.lt q) e) (bU _)
theorem HOk.kept(x:HOk P w H h)(k:∀b u,h.get? b=some u->h'.get? b=some u):HOk P w H h':=⟨λa o e=>
 (x a o e).stay (λb u _ q=>k b u q) (λ_ q=>q) λ_ _ q=>q,x.sm,let⟨b,o,l,e⟩:=x.bg;⟨b,o,l,k _ _ e⟩⟩
theorem HOk.laid(x:HOk P w H h)(k:∀b u,h.get? b=some u->h'.get? b=some u)(i:h.objs.size<=a)(new:ObjOk P w (upd H a o) h' a o):HOk P w (upd H a o) h':=by
 refine⟨λb u e=>?_,λu e=>?_,let⟨b,o,l,e⟩:=x.bg;⟨b,o,l,k _ _ e⟩⟩
 rotate_left
 ·by_cases d:bJ=a
  ·obtain⟨b,o,l,q⟩:=x.bg;exact absurd (dL l (show b<bJ from by rw[d];exact aI (au q) i)) (bU 1)
  ·rw[AI d]at e;exact x.sm u e
 have j:=x.fresh i
 by_cases d:b=a
 ·subst d;rw[AF]at e;cases e;exact new
 ·rw[AI d]at e;exact(x b u e).stay (λc v _ q=>k c v q) (λc q=>by rw[AI (AS q j)];exact q) λc r q=>by rw[AI (AS q j)];exact q
end
def Rd(H:Hp)(a:Addr)(u:HO):Prop:=H a=some u\/∃o,H a=some (.frz o u)
theorem Rd.ok{h:Heap}{u:HO}(r:Rd H a u)(x:HOk P w H h):ObjOk P w H h a u:=by
 rcases r with r|⟨o,r⟩
 ·exact x a u r
 ·obtain⟨_,q⟩:=x a _ r;exact q
def Mut:Option HO->Prop
 |some (.lst _)=>True
 |some (.dK _)=>True
 |some (.dT _)=>True
 |some (.set _ _)=>True
 |some (.ins _ _ _)=>True
 |some (.ext _)=>True
 |_=>False
section
variable{h:Heap}{x e:Addr}{o':HO}
theorem HOk.write(ok:HOk P w H h)(i:Mut (H x))(L:e=x\/H e=some (.own x))(k:∀b u,b≠e->h.get? b=some u->h'.get? b=some u)(B:∃u,h'.get? e=some u)
 (new:ObjOk P w (upd H x o') h' x o'):HOk P w (upd H x o') h':=by
 refine⟨λb u q=>?_,λu q=>?_,?_⟩
 rotate_left
 ·by_cases a:bJ=x
  ·exfalso;subst a
   cases z:H bJ with
   |none=>rw[z]at i;exact i
   |some o=>
    obtain⟨ob,v,rfl⟩:=ok.sm o z;rw[z]at i;exact i
  ·rw[AI a]at q;exact ok.sm u q
 ·obtain⟨b,o,l,z⟩:=ok.bg
  by_cases a:b=e
  ·obtain⟨v,J⟩:=B;exact⟨e,v,a▸l,J⟩
  ·exact⟨b,o,l,k b o a z⟩
 have j:∀c y,H c=some (.own y)->c≠x:=λc y r z=>by subst z;rw[r]at i;exact i
 have G:∀c I,H c=some (.tup I)->c≠x:=λc I r z=>by subst z;rw[r]at i;exact i
 by_cases a:b=x
 ·subst a;rw[AF]at q;cases q;exact new
 ·rw[AI a]at q
  by_cases d:b=e
  ·have M:H b=some (.own x):=by
    rcases L with z|z
    ·exact absurd (d.trans z) a
    ·rw[d];exact z
   rw[q]at M;cases M;obtain⟨v,J⟩:=B;exact⟨v,by rw[d];exact J⟩
  ·refine(ok b u q).stay (λc v hc r=>k c v ?_ r) (λc r=>by rw[AI (j c b r)];exact r) λc I r=>by rw[AI (G c I r)];exact r
   rcases hc with rfl|hc
   ·exact d
   ·rintro rfl;rcases L with z|z
    ·exact j c b hc z
    ·rw[hc]at z;cases z;exact a rfl
end
structure Un (fs ex:List Addr) (H H':Hp) (h h':Heap):Prop where
 keep:∀b o,h.get? b=some o->H b=none->b∉fs->b∉ex->h'.get? b=some o
 slot:∀b o,h.get? b=some o->H b=none->b∈fs->b∉ex->∃sl,h'.get? b=some {o with slots:=sl}
 free:∀b o,h.get? b=some o->H b=none->b∉ex->H' b=none
 there:∀b o,h.get? b=some o->b∉ex->∃o',h'.get? b=some o'
 tups:∀b xs,H b=some (.tup xs)->H' b=some (.tup xs)
 frzs:∀b o u,H b=some (.frz o u)->H' b=some (.frz o u)
 tbls:∀b ps,H b=some (.tbl ps)->∃more,H' b=some (.tbl (ps++more))
section
variable{fs fs' ex ex':List Addr}{H2:Hp}{h h1 h2:Heap}{x e:Addr}
theorem Un.any(u:Un fs ex H H1 h h1){ob:Obj}(q:h.get? b=some ob)(n:H b=none)(d:b∉ex):∃j,h1.get? b=some {ob with slots:=j}:=by
 by_cases i:b∈fs
 ·exact u.slot b ob q n i d
 ·exact⟨ob.slots,u.keep b ob q n i d⟩
theorem Un.kept(k:∀b u,h.get? b=some u->h'.get? b=some u):Un fs ex H H h h':=
 ⟨λb ob q _ _ _=>k b ob q,λb ob q _ _ _=>⟨ob.slots,k b ob q⟩,λ_ _ _ n _=>n,λb ob q _=>⟨ob,k b ob q⟩,λ_ _ q=>q,λ_ _ _ q=>q,λ_ d q=>⟨#[],by rw[q];simp⟩⟩
theorem Un.refl:Un fs ex H H h h:=Un.kept λ_ _ q=>q
theorem Un.laid(k:∀b u,h.get? b=some u->h'.get? b=some u)(i:h.objs.size<=a)(d:H a=none):Un fs ex H (upd H a o) h h' where
 keep:=λb u q _ _ _=>k b u q
 slot:=λb u q _ _ _=>⟨u.slots,k b u q⟩
 free:=λb u q n _=>by rw[AI (aN (aI (au q) i))];exact n
 there:=λb u q _=>⟨u,k b u q⟩
 tups:=λb j q=>by rw[AI (AS q d)];exact q
 frzs:=λb u j q=>by rw[AI (AS q d)];exact q
 tbls:=λb r q=>⟨#[],by rw[AI (AS q d),q];simp⟩
theorem Un.write(i:Mut (H x))(I:e=x\/H e=some (.own x))(k:∀b u,b≠e->h.get? b=some u->h'.get? b=some u)(j:∃u,h'.get? e=some u):Un fs ex H (upd H x o) h h':=by
 have B:∀b,H b=none->b≠x:=λb n z=>by subst z;rw[n]at i;exact i
 have G:∀b,H b=none->b≠e:=λb n z=>by
  subst z;rcases I with r|r
  ·exact B b n r
  ·rw[n]at r;cases r
 have y:∀b u,H b=some u->¬Mut (some u)->b≠x:=λb u q J z=>by subst z;rw[q]at i;exact J i
 refine⟨λb u q n _ _=>k b u (G b n) q,λb u q n _ _=>⟨u.slots,k b u (G b n) q⟩,λb u q n _=>by rw[AI (B b n)];exact n,λb u q _=>?_,
  λb L q=>by rw[AI (y b _ q λz=>z)];exact q,λb u L q=>by rw[AI (y b _ q λz=>z)];exact q,λb M q=>⟨#[],by rw[AI (y b _ q λz=>z),q];simp⟩⟩
 by_cases d:b=e
 ·subst d;exact j
 ·exact⟨u,k b u d q⟩
end
def trk(h:Heap)(H:Hp):List Addr:=(aw h.objs.size).filter λa=>(H a).isSome
def Cv(h:Heap)(H:Hp):Heap:=W.hideAll h (trk h H)
theorem RB(h:Heap)(H:Hp):(Cv h H).objs.size=h.objs.size:=W.hideAll_size _ _
theorem Sf{h:Heap}{o:Obj}(e:h.get? b=some o)(n:H b=none):(Cv h H).get? b=some o:=
 W.hideAll_get _ e λa=>by
  have q:(H b).isSome=true:=(ji.mp a).2;rw[n]at q;simp at q
theorem UO{h:Heap}{o:Obj}(e:(Cv h H).get? b=some o):h.get? b=some o/\H b=none:=by
 have a:h.get? b=some o:=W.of_hideAll (trk h H) e;refine⟨a,?_⟩
 cases q:H b with
 |none=>rfl
 |some x=>
  have d:b∈trk h H:=List.mem_filter.mpr ⟨bG.mpr (au a),by simp[q]⟩;have z:(Cv h H).get? b=none:=W.hideAll_none (trk h H) d;rw[z]at e;cases e
structure Mod (K:W.Frag) (mg:Str->Option ah) (base:Heap):Prop where
 kin:K.In base
 glob:base.Ns a' mg
 blt:∃mb,base.Ns lW mb/\∀x:Str,x≠"__name__"->mb x=eJ x
 nolimit:base.NoLimit
structure Cx where
 prog:bK
 w:cX
 K:W.Frag
 mg:Str->Option ah
 base:Heap
 A:eR
 N:List Str
 s₀:ak
 H₀:Hp
 env:Env
 outer:List Env
 stack:List Env
 ex:List Addr
 fn:Str->Bool
 calm:Bool
 pn:List (Addr×Obj)
 xe:ah->ak->Prop
end L2
variable{X:Cx}
namespace L2
variable{a:Addr}{g':Array ml}{d':Drawn}{o:HO}{pins':List (Addr×Obj)}{σ σ':List (Option V)}{Q:Unit->ak->Prop}
def frs(l:List Env):List Addr:=l.filterMap (·.frame)
abbrev Cx.fs(X:Cx):List Addr:=frs X.outer
def Vis(a:gu)(x:Str):Prop:=a.names.lookup x=some .local\/a.names.lookup x=some .cell\/a.names.lookup x=some .free
def Loc(a:gu)(x:Str):Prop:=a.names.lookup x=some .local\/a.names.lookup x=some .cell
def Look(env:Env)(h:Heap)(m:Str->Option ah)(x:Str)(u:ah):Prop:=
 (env.kindOf x=some .local/\m x=some u)\/((env.kindOf x=some .cell\/env.kindOf x=some .free)/\∃c,env.cells.lookup x=some c/\h.IsCell c (some u))
structure Cx.Ok (X:Cx):Prop where
 mod:Mod X.K X.mg X.base
 kind:X.env.scope.kind= .function
 glob:X.env.globals=a'
 blt:X.env.builtins=lW
 above:X.s₀.heap.objs.size<=X.env.locals
 inj:∀x y c,X.env.cells.lookup x=some c->X.env.cells.lookup y=some c->x=y
 has:∀x,(X.env.kindOf x=some .cell\/X.env.kindOf x=some .free)->∃c,X.env.cells.lookup x=some c
 cab:∀x c,X.fn x=true->X.env.cells.lookup x=some c->X.s₀.heap.objs.size<=c
 hd:X.calm=true->X.A.handled=none
 frames:X.A.frames=some X.stack
 stk:X.stack=X.outer\/(X.stack=X.env::X.outer/\X.env.frame=some X.env.locals)
 exf:∀b∈X.ex,b≠X.env.locals/\∀x c,X.env.cells.lookup x=some c->c≠b
 bs:∀b o,X.base.get? b=some o->X.s₀.heap.get? b=some o/\X.H₀ b=none
 bsz:X.base.objs.size<=X.s₀.heap.objs.size
 noex:∀b o,X.base.get? b=some o->b∉X.ex
 exfs:∀b∈X.ex,b∉X.fs
 funs:X.s₀.heap.FunFrames X.base X.outer
 frf:∀b∈X.fs,X.H₀ b=none
structure Inv (X:Cx) (pins:List (Addr×Obj)) (σ:List (Option V)) (H:Hp) (s:ak):Prop where
 ok:X.Ok
 os:s.os=X.s₀.os
 bare:hV s.gens
 base:Un X.fs X.ex X.H₀ H X.s₀.heap s.heap
 loc:∃m,s.heap.Ns X.env.locals m/\∀ (i:Nat) (x:Str) (v:V),X.N[i]? =some x->σ[i]? =some (some v)->Vis X.env.scope x->∃u,RelV v u/\Look X.env s.heap m x u
 cell:∀x c,X.env.cells.lookup x=some c->∃v,s.heap.IsCell c v
 free:H X.env.locals=none
 freeC:∀x c,X.env.cells.lookup x=some c->H c=none
 pin:∀p∈X.pn++pins,s.heap.get? p.1=some p.2/\H p.1=none/\p.1≠X.env.locals/\p.1∉X.fs/\∀v,p.2.data≠ .cell v
 hok:HOk X.prog X.w H s.heap
 len:σ.length=X.N.length
section
variable{s:ak}
theorem Cx.Ok.nofr(ok:X.Ok){b:Addr}{o:Obj}(e:X.base.get? b=some o):b∉X.fs:=λa=>by
 have:=(ok.funs.mem a).1;rw[e]at this;cases this
theorem Inv.bs(I:Inv X pins σ H s):∀b o,X.base.get? b=some o->s.heap.get? b=some o/\H b=none:=λb o e=>
 ⟨I.base.keep b o (I.ok.bs b o e).1 (I.ok.bs b o e).2 (I.ok.nofr e) (I.ok.noex b o e),I.base.free b o (I.ok.bs b o e).1 (I.ok.bs b o e).2 (I.ok.noex b o e)⟩
theorem Inv.bk(I:Inv X pins σ H s):∀b o,X.base.get? b=some o->s.heap.get? b=some o:=λb o e=>(I.bs b o e).1
theorem Inv.mod(I:Inv X pins σ H s):Mod X.K X.mg X.base:=I.ok.mod
theorem Inv.kIn(I:Inv X pins σ H s):X.K.In s.heap:=I.ok.mod.kin.keeps I.bk
theorem Inv.lt(I:Inv X pins σ H s):X.env.locals<s.1.1.size:=let⟨_,a,_⟩:=I.loc;a.lt
theorem Inv.sz(I:Inv X pins σ H s):X.s₀.heap.objs.size<=s.1.1.size:=bj I.ok.above (b9 I.lt)
theorem Inv.nofs(I:Inv X pins σ H s)(h:s.1.1.size<=a):a∉X.fs:=λb=>by
 obtain⟨_,o,d,_⟩:=I.ok.funs.mem b;exact absurd (aI (au d) (bj I.sz h)) (bU _)
theorem Inv.cne(I:Inv X pins σ H s):∀x c,X.env.cells.lookup x=some c->c≠X.env.locals:=λx c e z=>by
 obtain⟨v,o,d,hd⟩:=I.cell x c e;obtain⟨m,⟨i,j,q,a,b,_⟩,_⟩:=I.loc;rw[z,a]at d;cases d;rw[b]at hd;cases hd
theorem Inv.funs(I:Inv X pins σ H s):s.heap.FunFrames X.base X.outer:=by
 have all:∀ (l:List Env),(∀b∈frs l,b∈X.fs)->X.s₀.heap.FunFrames X.base l->s.heap.FunFrames X.base l:=by
  intro l
  induction l with
  |nil=>intro _ _;trivial
  |cons env r q=>
   intro j x;obtain⟨hk,⟨L,o,a,y,B,hd⟩,G⟩:=x;have d:L∈X.fs:=j L (by unfold frs;rw[dy,a];exact aA);obtain⟨J,e⟩:=I.base.slot L o B (I.ok.frf L d) d λz=>I.ok.exfs L z d;exact⟨hk,⟨L,_,a,y,e,hd⟩,q (λb i=>j b (by unfold frs;rw[dy,a];exact ay _ i)) G⟩
 exact all X.outer (λ_ i=>i) I.ok.funs
theorem Inv.stack(I:Inv X pins σ H s):s.heap.FunFrames X.base X.stack:=by
 rcases I.ok.stk with e|⟨e,a⟩
 ·rw[e];exact I.funs
 ·rw[e];obtain⟨m,b,_⟩:=I.loc;refine .cons (by rw[I.ok.kind];decide) a b ?_ I.funs;exact Heap.get?_none_of_le (bj I.ok.bsz I.ok.above)
theorem Inv.stkSub(I:Inv X pins σ H s):∀b∈frs X.stack,b∈X.env.locals::X.fs:=λb a=>by
 rcases I.ok.stk with e|⟨e,d⟩
 ·rw[e]at a;exact ay _ a
 ·rw[e]at a;unfold frs at a;rw[dy,d]at a;exact a
theorem Inv.stkFree(I:Inv X pins σ H s):∀b∈frs X.stack,H b=none:=λb hb=>by
 rcases aJ.mp (I.stkSub b hb)with e|hb
 ·rw[e];exact I.free
 ·obtain⟨_,o,a,_⟩:=I.ok.funs.mem hb;exact I.base.free b o a (I.ok.frf b hb) λz=>I.ok.exfs b z hb
theorem Inv.step(I:Inv X pins σ H s)
 (j:∀b∈ch,(b∈X.ex\/X.s₀.heap.objs.size<=b)/\b≠X.env.locals/\(∀x c,X.env.cells.lookup x=some c->c≠b)/\∀p∈X.pn++pins,p.1≠b)
 (keep:∀b o,b≠X.env.locals->b∉X.fs->b∉ch->s.heap.get? b=some o->H b=none->h'.get? b=some o)
 (slot:∀b o,b≠X.env.locals->b∈X.fs->b∉ch->s.heap.get? b=some o->H b=none->∃T,h'.get? b=some {o with slots:=T}) (free:∀b o,b∉ch->s.heap.get? b=some o->H b=none->H' b=none)
 (there:∀b o,b∉ch->s.heap.get? b=some o->∃P,h'.get? b=some P)
 (tups:∀b J,H b=some (.tup J)->H' b=some (.tup J)) (frzs:∀b o u,H b=some (.frz o u)->H' b=some (.frz o u)) (tbls:∀b S,H b=some (.tbl S)->∃more,H' b=some (.tbl (S++more)))
 (ns:∀m,s.heap.Ns X.env.locals m->h'.Ns X.env.locals m) (hok:HOk X.prog X.w H' h') (hg:hV g'):
 Inv X pins σ H' {s with heap:=h',gens:=g',drawn:=d',toks:=t'}:=by
 have Q:∀b o,X.s₀.heap.get? b=some o->b≠X.env.locals:=λb o e=>aN (aI (au e) I.ok.above);have B:∀b o,X.s₀.heap.get? b=some o->b∉X.ex->b∉ch:=λb o e a L=>by
  rcases(j b L).1 with z|z
  ·exact a z
  ·exact absurd (aI (au e) z) (bU _)
 have cellK:∀x c,X.env.cells.lookup x=some c->∀v,s.heap.IsCell c v->h'.IsCell c v:=λx c e v ⟨o,M,hd⟩=>by
  have y:c∉ch:=λz=>(j c z).2.2.1 x c e rfl
  by_cases Y:c∈X.fs
  ·obtain⟨T,q⟩:=slot c o (I.cne x c e) Y y M (I.freeC x c e);exact⟨_,q,hd⟩
  ·exact⟨o,keep c o (I.cne x c e) Y y M (I.freeC x c e),hd⟩
 refine⟨I.ok,I.os,hg,⟨λb o e n L a=>?_,λb o e n L a=>?_,λb o e n a=>?_,λb o e a=>?_,λb J e=>tups b J (I.base.tups b J e),λb o J e=>frzs b o J (I.base.frzs b o J e),λb S e=>?_⟩,?_,λx c e=>?_,?_,λx c e=>?_,λp Z=>?_,hok,I.len⟩
 ·exact keep b o (Q b o e) L (B b o e a) (I.base.keep b o e n L a) (I.base.free b o e n a)
 ·obtain⟨T,G⟩:=I.base.slot b o e n L a;obtain⟨U,R⟩:=slot b _ (Q b o e) L (B b o e a) G (I.base.free b o e n a);exact⟨U,R⟩
 ·obtain⟨P,G⟩:=I.base.there b o e a;exact free b P (B b o e a) G (I.base.free b o e n a)
 ·obtain⟨P,G⟩:=I.base.there b o e a;exact there b P (B b o e a) G
 ·obtain⟨m1,G⟩:=I.base.tbls b S e;obtain⟨m2,R⟩:=tbls b _ G;exact⟨m1++m2,by rw[R,kq]⟩
 ·obtain⟨m,hn,hl⟩:=I.loc;refine⟨m,ns m hn,λi x v G R e3=>?_⟩;obtain⟨u,r,l⟩:=hl i x v G R e3;refine⟨u,r,?_⟩;rcases l with l|⟨k,c,e,z⟩
  ·exact .inl l
  ·exact .inr ⟨k,c,e,cellK x c e _ z⟩
 ·obtain⟨v,z⟩:=I.cell x c e;exact⟨v,cellK x c e v z⟩
 ·obtain⟨m,⟨o,_,_,M,_⟩,_⟩:=I.loc;exact free _ o (λz=>(j _ z).2.1 rfl) M I.free
 ·obtain⟨v,o,M,hd⟩:=I.cell x c e;exact free c o (λz=>(j c z).2.2.1 x c e rfl) M (I.freeC x c e)
 ·obtain⟨e,n,ne,nf,d⟩:=I.pin p Z;have y:p.1∉ch:=λz=>(j p.1 z).2.2.2 p Z rfl;exact⟨keep p.1 p.2 ne nf y e n,free p.1 p.2 y e n,ne,nf,d⟩
theorem Inv.un(I:Inv X pins σ H s)(u:Un X.fs [] H H' s.heap h')(hok:HOk X.prog X.w H' h'):Inv X pins σ H' {s with heap:=h',toks:=t'}:=by
 obtain⟨m,⟨o,G,J,q,r⟩,_⟩:=id I.loc;obtain⟨L,x⟩:=u.any q I.free nC;exact I.step (g':=s.gens) (d':=s.drawn) (ch:=[]) (λ_ z=>nomatch z) (λb o _ d _ e n=>u.keep b o e n d nC) (λb o _ d _ e n=>u.slot b o e n d nC) (λb o _ e n=>u.free b o e n nC) (λb o _ e=>u.there b o e nC) u.tups u.frzs u.tbls (λM y=>by
  obtain⟨P,i,j,a,B⟩:=y;rw[q]at a;cases a;exact⟨_,i,j,x,B⟩) hok I.bare
theorem Inv.call(I:Inv X pins σ H s)(u:Un (frs X.stack) ch H H' s.heap h')(hok:HOk X.prog X.w H' h')(hg:hV g')
 (d:∀b∈ch,(b∈X.ex\/X.s₀.heap.objs.size<=b)/\b≠X.env.locals/\(∀x c,X.env.cells.lookup x=some c->c≠b)/\∀p∈X.pn++pins,p.1≠b):
 Inv X pins σ H' {s with heap:=h',gens:=g',drawn:=d',toks:=t'}:=by
 obtain⟨m,⟨o,M,P,B,r⟩,_⟩:=id I.loc;obtain⟨Q,j⟩:=u.any B I.free λz=>(d _ z).2.1 rfl;exact I.step (ch:=ch) d (λb o j G a e n=>u.keep b o e n (λz=>(aJ.mp (I.stkSub b z)).elim j G) a) (λb o _ _ a e n=>u.any e n a) (λb o a e n=>u.free b o e n a) (λb o a e=>u.there b o e a) u.tups u.frzs u.tbls (λR J=>by
  obtain⟨S,q,y,i,L⟩:=J;rw[B]at i;cases i;exact⟨_,q,y,j,L⟩) hok hg
theorem Inv.turned{it:Addr}(I:Inv X pins σ H s)(k:∀b o,b≠it->s.heap.get? b=some o->h'.get? b=some o)(y:H it=none)(i:it≠X.env.locals)
 (j:it∈X.ex\/X.s₀.heap.objs.size<=it) (B:∀x c,X.env.cells.lookup x=some c->c≠it) (G:∀p∈X.pn++pins,p.1≠it):Inv X pins σ H {s with heap:=h',toks:=t'}:=by
 have d:∀b u,H b=some u->b≠it:=λb u e z=>by rw[z,y]at e;cases e
 refine I.step (g':=s.gens) (d':=s.drawn) (ch:=[it]) (λb J=>?_) (λb o _ _ a e _=>k b o (λz=>a (by simp[z])) e) (λb o _ _ a e _=>⟨o.slots,k b o (λz=>a (by simp[z])) e⟩) (λ_ _ _ _ n=>n)
  (λb o a e=>⟨o,k b o (λz=>a (by simp[z])) e⟩) (λ_ _ e=>e) (λ_ _ _ e=>e) (λb R e=>⟨#[],by rw[e];simp⟩) (λm L=>?_) ⟨λb u e=>?_,I.hok.sm,let⟨o,_,_,e,_⟩:=I.ok.mod.glob;⟨a',o,by decide,k _ _ (λz=>by
    rcases j with q|q
    ·exact I.ok.noex _ _ e (z▸q)
    ·exact absurd (aI (au e) (bj I.ok.bsz q)) (by rw[z];exact bU _)) (I.bk _ _ e)⟩⟩ I.bare
 ·have e:b=it:=by simpa using J
  subst e;exact⟨j,i,B,G⟩
 ·obtain⟨o,M,P,Q,r⟩:=L;exact⟨o,M,P,k _ o (cI i) Q,r⟩
 ·refine(I.hok b u e).stay (λc v a q=>k c v ?_ q) (λ_ q=>q) λ_ _ q=>q;rcases a with z|z
  ·rw[z];exact d b u e
  ·exact d c _ z
theorem Inv.tok(I:Inv X pins σ H s)(t:Nat):Inv X pins σ H {s with toks:=t}:=I.un (h':=s.heap) (t':=t) Un.refl I.hok
theorem Inv.kept(I:Inv X pins σ H s)(k:∀b u,s.heap.get? b=some u->h'.get? b=some u):Inv X pins σ H {s with heap:=h',toks:=t'}:=I.un (Un.kept k) (I.hok.kept k)
theorem Inv.laid(I:Inv X pins σ H s)(k:∀b u,s.heap.get? b=some u->h'.get? b=some u)(d:s.1.1.size<=a)(new:ObjOk X.prog X.w (upd H a o) h' a o):
 Inv X pins σ (upd H a o) {s with heap:=h',toks:=t'}:=I.un (Un.laid k d (I.hok.fresh d)) (I.hok.laid k d new)
theorem Inv.write{x e:Addr}(I:Inv X pins σ H s)(d:Mut (H x))(i:e=x\/H e=some (.own x))(k:∀b u,b≠e->s.heap.get? b=some u->h'.get? b=some u)(a:∃u,h'.get? e=some u)
 (new:ObjOk X.prog X.w (upd H x o) h' x o):Inv X pins σ (upd H x o) {s with heap:=h',toks:=t'}:=I.un (Un.write d i k a) (I.hok.write d i k a new)
theorem Inv.weak(I:Inv X pins σ H s)(b:σ'.length=σ.length)(w:∀ (i:Nat) v,σ'[i]? =some (some v)->σ[i]? =some (some v)):Inv X pins σ' H s:=
 ⟨I.ok,I.os,I.bare,I.base,let⟨m,d,a⟩:=I.loc;⟨m,d,λi x v e j o=>a i x v e (w i v j) o⟩,I.cell,I.free,I.freeC,I.pin,I.hok,b.trans I.len⟩
theorem Inv.pins_of(I:Inv X pins σ H s)(h:∀p∈pins',s.heap.get? p.1=some p.2/\H p.1=none/\p.1≠X.env.locals/\p.1∉X.fs/\∀v,p.2.data≠ .cell v):Inv X pins' σ H s:=
 ⟨I.ok,I.os,I.bare,I.base,I.loc,I.cell,I.free,I.freeC,λp a=>(dW.mp a).elim (λz=>I.pin p (cD _ z)) (h p),I.hok,I.len⟩
theorem Gn{N:List Str}(d:N.Nodup)(a:N[i]? =some x)(b:N[j]? =some x):i=j:=by
 obtain⟨q,e⟩:=az.mp a;obtain⟨r,o⟩:=az.mp b;exact(List.getElem_inj d).mp (e.trans o.symm)
theorem GQ{v:V}{u:ah}(I:Inv X pins σ H s)(hN:X.N.Nodup)(hi:X.N[i]? =some x)(J:Loc X.env.scope x)(r:RelV v u)
 (h:∀s',Inv X pins (σ.set i (some v)) H s'->(∃a,bu a s.heap s'.heap/\(a=X.env.locals\/X.env.cells.lookup x=some a))->Q () s') (hf:X.fn x=true\/X.env.scope.names.lookup x=some .local:=by first|exact .inl rfl|exact .inr rfl|assumption):aH M A (mu X.env x u) Q E s:=by
 obtain⟨m,hn,hl⟩:=id I.loc;have Z:(X.env.scope.kind== .class||(X.env.scope.kind== .module&&X.env.locals !=X.env.globals))=false:=by rw[I.ok.kind];rfl
 have S:i<σ.length:=by rw[I.len];exact(az.mp hi).1
 have cne:=I.cne;have tracked:∀ {a:Addr} {h':Heap},(∃o,s.heap.get? a=some o/\H a=none)->bu a s.heap h'->(∃o',h'.get? a=some o')->HOk X.prog X.w H h':=fun{a h'} ha B hz=>by
  refine⟨λb ob e=>?_,I.hok.sm,?_⟩
  rotate_left
  ·obtain⟨b,o,l,e⟩:=I.hok.bg
   by_cases P:b=a
   ·obtain⟨v,hv⟩:=hz;exact⟨a,v,P▸l,hv⟩
   ·exact⟨b,o,l,(B.2 b P).trans e⟩
  obtain⟨_,_,L⟩:=ha;refine(I.hok b ob e).stay (λc w' hc q=>(B.2 c ?_).trans q) (λ_ q=>q) λ_ _ q=>q;rintro rfl;rcases hc with rfl|hc
  ·rw[L]at e;cases e
  ·rw[L]at hc;cases hc
 rcases J with hk|hk
 ·refine wpAny_storeName_local hk hn (λh' hn' B=>?_) Z;obtain⟨oL,_,_,hoL,_⟩:=id hn;refine h _ ⟨I.ok,I.os,I.bare,⟨λb o e n P J=>?_,λb o e n P J=>?_,I.base.free,λb o e J=>?_,I.base.tups,I.base.frzs,I.base.tbls⟩,⟨_,hn',λj y v' G R e3=>?_⟩,λy c e=>?_,I.free,I.freeC,λp hp=>?_,tracked ⟨oL,hoL,I.free⟩ B (let⟨o,_,_,e,_⟩:=hn';⟨o,e⟩),by simpa using I.len⟩ ⟨_,B, .inl rfl⟩
  ·exact(B.2 b (aN (aI (au e) I.ok.above))).trans (I.base.keep b o e n P J)
  ·obtain⟨sl,G⟩:=I.base.slot b o e n P J;exact⟨sl,(B.2 b (aN (aI (au e) I.ok.above))).trans G⟩
  ·obtain⟨o',G⟩:=I.base.there b o e J;exact⟨o',(B.2 b (aN (aI (au e) I.ok.above))).trans G⟩
  ·by_cases T:j=i
   ·subst T;rw[hi]at G;cases G;rw[eG S]at R
    cases R
    exact⟨u,r, .inl ⟨hk,by simp⟩⟩
   ·rw[bW (cI T)]at R;obtain⟨u',r',q⟩:=hl j y v' G R e3;refine⟨u',r',?_⟩;rcases q with⟨k,e⟩|⟨k,c,e,z⟩
    ·refine .inl ⟨k,?_⟩;have:y≠x:=λe=>T (Gn hN G (e▸hi));simp[this,e]
    ·exact .inr ⟨k,c,e,z.sameBut B (cne y c e)⟩
  ·obtain⟨w',z⟩:=I.cell y c e;exact⟨w',z.sameBut B (cne y c e)⟩
  ·obtain⟨e,n,ne,nf,d⟩:=I.pin p hp;exact⟨(B.2 p.1 ne).trans e,n,ne,nf,d⟩
 ·have U:X.fn x=true:=by
   rcases hf with z|z
   ·exact z
   ·rw[z]at hk;cases hk
  obtain⟨c,hc⟩:=I.ok.has x (.inl hk);obtain⟨w',z⟩:=I.cell x c hc;refine wpAny_storeName_cell I.ok.kind hk hc z (λh' Y B=>?_);obtain⟨oc,hoc,hocd⟩:=id z;refine h {s with heap:=h'} ⟨I.ok,I.os,I.bare,⟨λb o e n P J=>?_,λb o e n P J=>?_,I.base.free,λb o e J=>?_,I.base.tups,I.base.frzs,I.base.tbls⟩,⟨m,hn.sameBut B (cI (cne x c hc)),λj y v' G R e3=>?_⟩,λy c' e=>?_,I.free,I.freeC,λp hp=>?_,tracked ⟨oc,hoc,I.freeC x c hc⟩ B (let⟨o,e,_⟩:=Y;⟨o,e⟩),by simpa using I.len⟩ ⟨c,B, .inr hc⟩
  ·exact(B.2 b (aN (aI (au e) (I.ok.cab x c U hc)))).trans (I.base.keep b o e n P J)
  ·obtain⟨sl,G⟩:=I.base.slot b o e n P J;exact⟨sl,(B.2 b (aN (aI (au e) (I.ok.cab x c U hc)))).trans G⟩
  ·obtain⟨o',G⟩:=I.base.there b o e J;exact⟨o',(B.2 b (aN (aI (au e) (I.ok.cab x c U hc)))).trans G⟩
  ·by_cases T:j=i
   ·subst T;rw[hi]at G;cases G;rw[eG S]at R
    cases R
    exact⟨u,r, .inr ⟨.inl hk,c,hc,Y⟩⟩
   ·rw[bW (cI T)]at R;obtain⟨u',r',q⟩:=hl j y v' G R e3;refine⟨u',r',?_⟩;rcases q with q|⟨k,c',e,z'⟩
    ·exact .inl q
    ·refine .inr ⟨k,c',e,z'.sameBut B ?_⟩;rintro rfl;exact T (Gn hN G (I.ok.inj _ _ _ e hc▸hi))
  ·by_cases hcc:c'=c
   ·subst hcc;exact⟨_,Y⟩
   ·obtain⟨w2,z2⟩:=I.cell y c' e;exact⟨w2,z2.sameBut B hcc⟩
  ·obtain⟨e,n,ne,nf,d⟩:=I.pin p hp;refine⟨(B.2 p.1 ?_).trans e,n,ne,nf,d⟩;intro q;rw[q,hoc]at e;have q':oc=p.2:=bi e;exact d w' (by rw[<-q'];exact hocd)
theorem FE{v:V}{u:ah}(I:Inv X pins σ H s)(b:X.N.Nodup)(hi:X.N[i]? =some x)(d:Loc X.env.scope x)(r:RelV v u)
 (h:∀a,Inv X pins (σ.set i (some v)) H a->Q () a) (e:X.fn x=true\/X.env.scope.names.lookup x=some .local:=by first|exact .inl rfl|exact .inr rfl|assumption):aH M A (mu X.env x u) Q E s:=
 GQ I b hi d r (λa j _=>h a j) e
theorem Inv.call'{s':ak}(I:Inv X pins σ H s)(d:s'.os=s.os)(u:Un (frs X.stack) ch H H' s.heap s'.heap)(hok:HOk X.prog X.w H' s'.heap)(hg:hV s'.gens)
 (a:∀b∈ch,(b∈X.ex\/X.s₀.heap.objs.size<=b)/\b≠X.env.locals/\(∀x c,X.env.cells.lookup x=some c->c≠b)/\∀p∈X.pn++pins,p.1≠b):Inv X pins σ H' s':=by
 obtain⟨h',g',d',t',i⟩:=s';have e:i=s.os:=d;subst e;exact I.call (g':=g') (t':=t') (d':=d') u hok hg a
end
abbrev XK:=ah->Option Addr->Hp->Prop
abbrev zQ0:=List (Option V)
abbrev VK:=V->Hp->Prop
abbrev TE:=zQ0->Hp->VK->Prop
abbrev TT:=zQ0->Hp->(Bool->Hp->Prop)->Prop
abbrev TA:=zQ0->Hp->(List V->Hp->Prop)->Prop
structure Ends where
 nx:zQ0->Hp->Prop
 rt:VK
 bk:zQ0->Hp->Prop:=λ_ _=>False
 ct:zQ0->Hp->Prop:=λ_ _=>False
abbrev TS:=Ends->zQ0->Hp->Prop
end L2
variable{D:Ends}{ta te:TE}{tb:TS}{tt:TT}{r:V->List V->Hp->VK->Prop}
namespace L2
variable{c:Expr}{es rest:List Expr}{body st:List Stmt}{pos':Pos}{t:TE}{tc:TT}{x:V}{tget:V->V->Hp->VK->Prop}
def EP(X:Cx)(pins:List (Addr×Obj))(σ:zQ0)(Q:VK)(u:ah)(b:ak):Prop:=∃v a,Inv X pins σ a b/\RelV v u/\Q v a
def TP(X:Cx)(pins:List (Addr×Obj))(σ:zQ0)(Q:Bool->Hp->Prop)(b:Bool)(d:ak):Prop:=∃a,Inv X pins σ a d/\Q b a
def AP(X:Cx)(pins:List (Addr×Obj))(σ:zQ0)(Q:List V->Hp->Prop)(us:List ah)(b:ak):Prop:=∃vs a,Inv X pins σ a b/\Vals vs us/\Q vs a
def SP(X:Cx)(pins:List (Addr×Obj))(D:Ends)(f:Flow)(b:ak):Prop:=
 match f with
 | .next=>∃σ' a,Inv X pins σ' a b/\D.nx σ' a
 | .brk=>∃σ' a,Inv X pins σ' a b/\D.bk σ' a
 | .cont=>∃σ' a,Inv X pins σ' a b/\D.ct σ' a
 | .ret u=>∃v σ' a,Inv X pins σ' a b/\RelV v u/\D.rt v a
def PE(X:Cx)(e:Expr)(t:TE):Prop:=
 ∀ (pins:List (Addr×Obj)) (s:ak) (σ:zQ0) (H:Hp) (Q:VK),Inv X pins σ H s->t σ H Q->aH (aR X.prog X.w) X.A (eval e X.env) (EP X pins σ Q) X.xe s
def PT(X:Cx)(e:Expr)(t:TT):Prop:=
 ∀ (pins:List (Addr×Obj)) (s:ak) (σ:zQ0) (H:Hp) (Q:Bool->Hp->Prop),Inv X pins σ H s->t σ H Q->aH (aR X.prog X.w) X.A (j5 e X.env (eval e X.env)) (TP X pins σ Q) X.xe s
def PW(X:Cx)(e:Expr)(t:TT):Prop:=
 ∀ (whole:Sem ah) (pins:List (Addr×Obj)) (s:ak) (σ:zQ0) (H:Hp) (Q:Bool->Hp->Prop),Inv X pins σ H s->t σ H Q->aH (aR X.prog X.w) X.A (j5 e X.env whole) (TP X pins σ Q) X.xe s
theorem PW.pt{t:TT}(h:PW X e t):PT X e t:=h _
def PA(X:Cx)(a:List Expr)(t:TA):Prop:=
 ∀ (pos:Pos) (pins:List (Addr×Obj)) (s:ak) (σ:zQ0) (H:Hp) (Q:List V->Hp->Prop),Inv X pins σ H s->t σ H Q->aH (aR X.prog X.w) X.A (mJ (dI pos (aL a X.env))) (AP X pins σ Q) X.xe s
def PS(X:Cx)(st:Stmt)(t:TS):Prop:=
 ∀ (pins:List (Addr×Obj)) (s:ak) (σ:zQ0) (H:Hp) (D:Ends),Inv X pins σ H s->t D σ H->aH (aR X.prog X.w) X.A (exec st X.env) (SP X pins D) X.xe s
def PSs(X:Cx)(st:List Stmt)(t:TS):Prop:=
 ∀ (pins:List (Addr×Obj)) (s:ak) (σ:zQ0) (H:Hp) (D:Ends),Inv X pins σ H s->t D σ H->aH (aR X.prog X.w) X.A (execs st X.env) (SP X pins D) X.xe s
theorem thn{t:Sem α}{Q Q':α->ak->Prop}{s:ak}(h:aH M A t Q E s)(b:∀a s,Q a s->Q' a s):aH M A t Q' E s:=aZ h b λ_ _ x=>x
section
def Br(i:Nat):TE:=λσ H Q=>∃v,σ[i]? =some (some v)/\Q v H
def tC(v:V):TE:=λ_ H Q=>Q v H
theorem Mf{x:Str}{pos:Pos}(b:X.N[i]? =some x)(d:Vis X.env.scope x)(hd:(x==("__debug__":Str))=false:=by decide)(a:(x==("__classdict__":Str))=false:=by decide):PE X (.Name x pos) (Br i):=by
 intro pins s σ H Q I h;obtain⟨v,e,h⟩:=h;obtain⟨m,j,o⟩:=I.loc;obtain⟨u,r,l⟩:=o i x v b e d;have fin:EP X pins σ Q u s:=⟨v,H,I,r,h⟩;rcases l with⟨hk,hm⟩|⟨hk,c,hc,hcell⟩
 ·exact lT (jD I.ok.kind hk j hm fin) hd
 ·rcases hk with hk|hk
  ·exact lT (jN I.ok.kind hk hc hcell fin) hd
  ·exact lT (wpAny_loadName_free I.ok.kind hk hc hcell fin a) hd
theorem AC{i j pos}:PE X (.Constant (.int i) j pos) (tC (.int i)):=λ_ _ _ H _ I h=>wpAny_Constant_int ⟨.int i,H,I.tok _,⟨_,rfl⟩,h⟩
theorem B0{b j pos}:PE X (.Constant (.bool b) j pos) (tC (.bl b)):=λ_ _ _ H _ I h=>Constant_bool ⟨.bl b,H,I,rfl,h⟩
theorem Aq{j pos}:PE X (.Constant .none j pos) (tC .non):=λ_ _ _ H _ I h=>Constant_none ⟨.non,H,I,rfl,h⟩
theorem DA{x j pos}:PE X (.Constant (.str x) j pos) (tC (.str x)):=λ_ _ _ H _ I h=>Calls.Constant_str ⟨.str x,H,I.tok _,⟨_,rfl⟩,h⟩
def Gl(X:Cx)(x:Str):Prop:=X.env.kindOf x=some .globalImplicit
theorem C7{s:ak}{σ:zQ0}{x:Str}{u:ah}{pos:Pos}(I:Inv X pins σ H s)(hg:Gl X x)(a:X.mg x=some u)(h:Q u s)
 (hd:(x==("__debug__":Str))=false:=by decide):aH (aR X.prog X.w) X.A (eval (.Name x pos) X.env) Q E s:=
 gS I.ok.kind hg (Calls.loadGlobal_global (by rw[I.ok.glob];exact I.mod.glob.keeps I.bk) a h) hd
theorem CP{s:ak}{σ:zQ0}{x:Str}{u:ah}{pos:Pos}(I:Inv X pins σ H s)(hg:Gl X x)(a:X.mg x=none)(b:eJ x=some u)(h:Q u s)
 (d:x≠"__name__":=by decide) (hd:(x==("__debug__":Str))=false:=by decide):aH (aR X.prog X.w) X.A (eval (.Name x pos) X.env) Q E s:=by
 obtain⟨j,e,i⟩:=I.mod.blt;exact gS I.ok.kind hg (Calls.loadGlobal_builtin (by rw[I.ok.glob];exact I.mod.glob.keeps I.bk) a (by rw[I.ok.blt];exact e.keeps I.bk) ((i x d).trans b) h) hd
theorem UE{x:Str}{v:V}{u:ah}{pos:Pos}(hg:Gl X x)(a:X.mg x=some u)(r:RelV v u)(hd:(x==("__debug__":Str))=false:=by decide):PE X (.Name x pos) (tC v):=
 λ_ _ _ H _ I h=>C7 I hg a ⟨v,H,I,r,h⟩ hd
theorem UK{x:Str}{v:V}{u:ah}{pos:Pos}(hg:Gl X x)(a:X.mg x=none)(b:eJ x=some u)(r:RelV v u)(d:x≠"__name__":=by decide)(hd:(x==("__debug__":Str))=false:=by decide):PE X (.Name x pos) (tC v):=
 λ_ _ _ H _ I h=>CP I hg a b ⟨v,H,I,r,h⟩ d hd
variable{a b:Expr}{tb:TE}{pos:Pos}
def PC(X:Cx)(op:mI)(a b:Expr)(t:TE):Prop:=
 ∀ (pins:List (Addr×Obj)) (s:ak) (σ:zQ0) (H:Hp) (Q:VK),Inv X pins σ H s->t σ H Q->
   aH (aR X.prog X.w) X.A (eval a X.env) (λv d=>aH (aR X.prog X.w) X.A (eval b X.env) (λu e=>aH (aR X.prog X.w) X.A (bt op v u) (EP X pins σ Q) X.xe e) X.xe d) X.xe s
def tB(t:TE):TT:=λσ H Q=>t σ H λx d=>∃c,x= .bl c/\Q c d
theorem Mb{op:mI}(h:PC X op a b t)(e:eZ op b=false:=by first|exact nobehind _ nv nv|rfl):PT X (.Compare a [op] [b] pos) (tB t):=by
 intro pins s σ H Q I i;refine i5 (thn (h pins s σ H _ I i) λv B e=>thn e λu G j=>thn j λc J ⟨x,o,r,y,z⟩=>?_) e;obtain⟨d,rfl,q⟩:=z
 cases y
 exact cr ⟨o,r,q⟩
variable{tA tB':TT}
def Nn(t u:TT):TT:=λσ H Q=>t σ H λc d=>if c=true then u σ d Q else Q false d
def tOr(t u:TT):TT:=λσ H Q=>t σ H λc d=>if c=true then Q true d else u σ d Q
def Nh(t:TT):TT:=λσ H Q=>t σ H λc d=>Q (!c) d
theorem C0(d:PT X a tA):PW X (.BoolOp .And [a] pos) tA:=by
 intro i pins s σ H Q I h;refine isTrue_and (thn (d pins s σ H Q I h) λc j e=>?_)
 cases c with
 |true=>exact isTrue_and_nil e
 |false=>exact e
theorem Bc(d:PT X a tA):PW X (.BoolOp .Or [a] pos) tA:=by
 intro i pins s σ H Q I h;refine isTrue_or (thn (d pins s σ H Q I h) λc j e=>?_)
 cases c with
 |false=>exact isTrue_or_nil e
 |true=>exact e
theorem Cj(j:PT X a tA)(o:PW X (.BoolOp .And (b::rest) pos) tB'):PW X (.BoolOp .And (a::b::rest) pos) (Nn tA tB'):=by
 intro q pins s σ H Q I h;refine isTrue_and (thn (j pins s σ H _ I h) λc r ⟨d,e,i⟩=>?_)
 cases c with
 |true=>exact o q pins r σ d Q e i
 |false=>exact⟨d,e,i⟩
theorem BS(j:PT X a tA)(o:PW X (.BoolOp .Or (b::rest) pos) tB'):PW X (.BoolOp .Or (a::b::rest) pos) (tOr tA tB'):=by
 intro q pins s σ H Q I h;refine isTrue_or (thn (j pins s σ H _ I h) λc r x=>?_);obtain⟨d,e,i⟩:=x
 cases c with
 |true=>exact⟨d,e,i⟩
 |false=>exact o q pins r σ d Q e i
theorem BR(d:PT X a tA):PT X (.UnaryOp .Not a pos) (Nh tA):=by
 intro pins s σ H Q I h;exact isTrue_not (d pins s σ H (λc e=>Q (!c) e) I h)
def NB(ta tb:TE):TE:=λσ H Q=>ta σ H λx d=>∃c,x= .bl c/\if c=true then tb σ d Q else Q (.bl false) d
def Ng(ta tb:TE):TE:=λσ H Q=>ta σ H λx d=>∃c,x= .bl c/\if c=true then Q (.bl true) d else tb σ d Q
def M8(ta:TE):TE:=λσ H Q=>ta σ H λx d=>∃c,x= .bl c/\Q (.bl (!c)) d
theorem DO{op}(h:PE X a t):PE X (.BoolOp op [a] pos) t:=λpins s σ H Q I d=>BoolOp_one (h pins s σ H Q I d)
theorem EY(j:PE X a ta)(o:PE X (.BoolOp .And (b::rest) pos) tb):PE X (.BoolOp .And (a::b::rest) pos) (NB ta tb):=by
 intro pins s σ H Q I h;refine BoolOp_and (thn (j pins s σ H _ I h) λv q r=>?_);obtain⟨x,e,i,y,d⟩:=r;obtain⟨c,rfl,d⟩:=d
 cases y
 refine cr ?_
 cases c with
 |true=>exact o pins q σ e Q i d
 |false=>exact⟨.bl false,e,i,rfl,d⟩
theorem NN(j:PE X a ta)(o:PE X (.BoolOp .Or (b::rest) pos) tb):PE X (.BoolOp .Or (a::b::rest) pos) (Ng ta tb):=by
 intro pins s σ H Q I h;refine BoolOp_or (thn (j pins s σ H _ I h) λv q r=>?_);obtain⟨x,e,i,y,d⟩:=r;obtain⟨c,rfl,d⟩:=d
 cases y
 refine cr ?_
 cases c with
 |false=>exact o pins q σ e Q i d
 |true=>exact⟨.bl true,e,i,rfl,d⟩
theorem Mg(e:PE X a ta):PE X (.UnaryOp .Not a pos) (M8 ta):=by
 intro pins s σ H Q I h;refine UnaryOp_ (thn (e pins s σ H _ I h) λv r i=>?_);obtain⟨x,j,o,q,d⟩:=i;obtain⟨c,rfl,d⟩:=d
 cases q
 exact not_of (cr ⟨.bl (!c),j,o,rfl,d⟩)
def tIf(t:TT)(ta tb:TE):TE:=λσ H Q=>t σ H λc d=>if c=true then ta σ d Q else tb σ d Q
theorem BL(q:PT X c tA)(r:PE X a ta)(x:PE X b tb):PE X (.IfExp c a b pos) (tIf tA ta tb):=by
 intro pins s σ H Q I h;refine wpAny_IfExp (thn (q pins s σ H _ I h) λd e ⟨i,j,o⟩=>?_)
 cases d with
 |true=>exact r pins e σ i Q j o
 |false=>exact x pins e σ i Q j o
end
def SqL(K:W.Frag)(H:Hp)(a:Addr)(xs:List V):Prop:=
 Rd H a (.lst xs)\/
  ∃ (o:Obj) (b:Array ah) (n:Nat),K.lookup a=some o/\o.cls= .type "list"/\o.dict=none/\o.data= .seq b n/\b.size<=sizeLine/\Vals xs b.toList
def SqT(K:W.Frag)(H:Hp)(a:Addr)(xs:List V):Prop:=
 Rd H a (.tup xs)\/
  ∃ (o:Obj) (b:Array ah) (n:Nat),K.lookup a=some o/\o.cls= .type "tuple"/\o.data= .seq b n/\b.size<=sizeLine/\Vals xs b.toList
def F2:ah->Option V
 | .none=>some .non
 | .bool b=>some (.bl b)
 | .int i _=>some (.int i)
 | .str x _=>some (.str x)
 | .bytes b _=>some (.byt b)
 | .float b _=>some (.flt b)
 | .ref a=>some (.ref a)
 | .type n=>some (.ty n)
 |_=>none
theorem RelV.abs{u:ah}(r:RelV x u):F2 u=some x:=by
 cases x with
 |non=>cases r;rfl
 |bl _=>cases r;rfl
 |int _=>obtain⟨t,rfl⟩:=r;rfl
 |str _=>obtain⟨t,rfl⟩:=r;rfl
 |byt _=>obtain⟨t,rfl⟩:=r;rfl
 |flt _=>obtain⟨t,rfl⟩:=r;rfl
 |ref _=>cases r;rfl
 |ty _=>cases r;rfl
theorem RelV.inj{y:V}{u:ah}(r:RelV x u)(q:RelV y u):x=y:=bi (r.abs.symm.trans q.abs)
theorem Vals.inj:∀ {a b:List V} {us:List ah},Vals a us->Vals b us->a=b
 |_,_,_, .nil, .nil=>rfl
 |_,_,_, .cons r t, .cons d e=>by rw[r.inj d,Vals.inj t e]
section
variable{σ:zQ0}{s:ak}{a:Addr}{ys:List V}
theorem SqL.of(h:H a=some (.lst xs)):SqL K H a xs:= .inl (.inl h)
theorem SqT.of(h:H a=some (.tup xs)):SqT K H a xs:= .inl (.inl h)
theorem Inv.list(I:Inv X pins σ H s)(h:SqL X.K H a xs):∃b:List ah,Vals xs b/\PlainL s.heap a b.toArray/\xs.length<=sizeLine:=by
 rcases h with h|⟨o,b,n,hk,d,hd,i,j,r⟩
 ·obtain⟨z,b,n,r,e⟩:=h.ok I.hok;exact⟨b,r,⟨_,n,e,rfl,rfl,rfl⟩,z⟩
 ·refine⟨b.toList,r,⟨o,n,I.kIn a o hk,d,hd,by simpa using i⟩,?_⟩;have e:=r.length;simp only[cL]at e;lia
theorem Inv.tuple(I:Inv X pins σ H s)(h:SqT X.K H a xs):∃b:List ah,Vals xs b/\IsTup s.heap a b.toArray/\xs.length<=sizeLine:=by
 rcases h with h|⟨o,b,n,hk,d,i,j,r⟩
 ·obtain⟨z,b,r,p⟩:=h.ok I.hok;exact⟨b,r,p,z⟩
 ·refine⟨b.toList,r,⟨o,I.kIn a o hk,d,n,by simpa using i⟩,?_⟩;have e:=r.length;simp only[cL]at e;lia
theorem Inv.list_inj(I:Inv X pins σ H s)(h:SqL X.K H a xs)(h':SqL X.K H a ys):xs=ys:=by
 obtain⟨b,r,⟨o,n,e,_,_,d⟩,_⟩:=I.list h;obtain⟨its',q,⟨y,z,i,_,_,j⟩,_⟩:=I.list h';rw[e]at i;cases i;rw[d]at j;injection j with x _
 have:b=its':=by simpa using cx f' x
 subst this;exact r.inj q
theorem Inv.tuple_inj(I:Inv X pins σ H s)(h:SqT X.K H a xs)(h':SqT X.K H a ys):xs=ys:=by
 obtain⟨b,r,⟨o,e,_,n,d⟩,_⟩:=I.tuple h;obtain⟨its',q,⟨y,i,_,z,j⟩,_⟩:=I.tuple h';rw[e]at i;cases i;rw[d]at j;injection j with x _
 have:b=its':=by simpa using cx f' x
 subst this;exact r.inj q
end
abbrev Cx.wish(X:Cx)(E:ah->ak->Prop):Cx:={X with xe:=E}
abbrev Cx.nox(X:Cx):Cx:=X.wish λ_ _=>False
theorem Cx.Ok.wish(ok:X.Ok)(E:ah->ak->Prop):(X.wish E).Ok:=
 ⟨ok.mod,ok.kind,ok.glob,ok.blt,ok.above,ok.inj,ok.has,ok.cab,ok.hd,ok.frames,ok.stk,ok.exf,ok.bs,ok.bsz,ok.noex,ok.exfs,ok.funs,ok.frf⟩
theorem Cx.Ok.unwish(ok:(X.wish E).Ok):X.Ok:=
 ⟨ok.mod,ok.kind,ok.glob,ok.blt,ok.above,ok.inj,ok.has,ok.cab,ok.hd,ok.frames,ok.stk,ok.exf,ok.bs,ok.bsz,ok.noex,ok.exfs,ok.funs,ok.frf⟩
section
variable{σ:zQ0}{s:ak}
theorem Inv.wish(I:Inv X pins σ H s)(E:ah->ak->Prop):Inv (X.wish E) pins σ H s:=⟨I.ok.wish E,I.os,I.bare,I.base,I.loc,I.cell,I.free,I.freeC,I.pin,I.hok,I.len⟩
theorem Inv.unwish(I:Inv (X.wish E) pins σ H s):Inv X pins σ H s:=⟨I.ok.unwish,I.os,I.bare,I.base,I.loc,I.cell,I.free,I.freeC,I.pin,I.hok,I.len⟩
theorem SP.unwish{f:Flow}{s':ak}(h:SP (X.wish E) pins D f s'):SP X pins D f s':=by
 cases f with
 |next=>obtain⟨σ',a,I,q⟩:=h;exact⟨σ',a,I.unwish,q⟩
 |brk=>obtain⟨σ',a,I,q⟩:=h;exact⟨σ',a,I.unwish,q⟩
 |cont=>obtain⟨σ',a,I,q⟩:=h;exact⟨σ',a,I.unwish,q⟩
 |ret u=>obtain⟨v,σ',a,I,r,q⟩:=h;exact⟨v,σ',a,I.unwish,r,q⟩
theorem PSs.nox{t:TS}(h:PSs X.nox st t):PSs X st t:=λpins s σ H D I a=>
 aZ (h pins s σ H D (I.wish _) a) (λ_ _ q=>q.unwish) λ_ _ z=>bz z
end
section
variable{st:Stmt}{rest:List Stmt}{t u:TS}{pos:Pos}
def tNext:TS:=λD σ H=>D.nx σ H
def Fu(t u:TS):TS:=λD σ H=>t {D with nx:=u D} σ H
theorem AW:PSs X [] tNext:=λ_ _ σ H _ I h=>fH ⟨σ,H,I,h⟩
theorem AD(a:PS X st t)(b:PSs X rest u):PSs X (st::rest) (Fu t u):=by
 intro pins s σ H D I h;refine kY (thn (a pins s σ H {D with nx:=u D} I h) λf d q=>?_)
 cases f with
 |next=>
  obtain⟨σ',i,j,q⟩:=q;exact b pins d σ' i D j q
 |ret v=>exact q
 |brk=>exact q
 |cont=>exact q
theorem AE(a:PS X st t):PSs X [st] t:=by
 intro pins s σ H D I h;refine kY (thn (a pins s σ H D I h) λf b q=>?_)
 cases f with
 |next=>exact fH q
 |ret v=>exact q
 |brk=>exact q
 |cont=>exact q
def tCont:TS:=λD σ H=>D.ct σ H
theorem O8:PS X (.Continue pos) tCont:=λ_ _ σ H _ I h=>wpAny_Continue ⟨σ,H,I,h⟩
theorem Inv.quiet{σ:zQ0}{s:ak}(I:Inv X pins σ H s):interactive X.env=false:=by simp[interactive,I.ok.kind]
def M9(te:TE):TS:=λD σ H=>te σ H λ_ a=>D.nx σ a
theorem Ax(a:PE X e te)(b:gC e none pos.line X.env=pure false:=by rfl):PS X (.Expr e pos) (M9 te):=by
 intro pins s σ H D I h;exact wpAny_Expr_any (thn (a pins s σ H _ I h) λv o ⟨x,d,i,q,j⟩=>⟨σ,d,i,j⟩) I.quiet b
def IY(te:TE):TS:=λD σ H=>te σ H D.rt
theorem AK(a:PE X e te):PS X (.Return (some e) pos) (IY te):=by
 intro pins s σ H D I h;exact wpAny_Return_some (thn (a pins s σ H _ I h) λv o ⟨x,b,d,i,j⟩=>⟨x,σ,b,d,i,j⟩)
def Ds(c:TT)(t u:TS):TS:=λD σ H=>c σ H λb a=>if b=true then t D σ a else u D σ a
theorem AV{a b:List Stmt}(r:PT X c tc)(x:PSs X a t)(y:PSs X b u):PS X (.If c a b pos) (Ds tc t u):=by
 intro pins s σ H D I h;refine wpAny_If (thn (r pins s σ H _ I h) λd i z=>?_);obtain⟨j,o,q⟩:=z
 cases d with
 |true=>exact x pins i σ j D o q
 |false=>exact y pins i σ j D o q
end
abbrev TG:=V->zQ0->Hp->(zQ0->Hp->Prop)->Prop
abbrev TGs:=List V->zQ0->Hp->(zQ0->Hp->Prop)->Prop
def PG(X:Cx)(target:Expr)(t:TG):Prop:=
 ∀ (pins:List (Addr×Obj)) (s:ak) (σ:zQ0) (H:Hp) (v:V) (u:ah) (Q:zQ0->Hp->Prop),Inv X pins σ H s->RelV v u->t v σ H Q->
   aH (aR X.prog X.w) X.A (gV target X.env u) (λ_ b=>∃σ' a,Inv X pins σ' a b/\Q σ' a) X.xe s
def PGs(X:Cx)(ts:List Expr)(t:TGs):Prop:=
 ∀ (pins:List (Addr×Obj)) (s:ak) (σ:zQ0) (H:Hp) (vs:List V) (a:List ah) (Q:zQ0->Hp->Prop),Inv X pins σ H s->Vals vs a->t vs σ H Q->
   aH (aR X.prog X.w) X.A (assignInOrder ((d9 ts X.env).map (·.2)) a) (λ_ d=>∃σ' b,Inv X pins σ' b d/\Q σ' b) X.xe s
abbrev TSet:=V->V->V->Hp->(Hp->Prop)->Prop
def Io(X:Cx)(t:TSet):Prop:=
 ∀ (pins:List (Addr×Obj)) (s:ak) (σ:zQ0) (H:Hp) (o i v:V) (a b u:ah) (Q:Hp->Prop),Inv X pins σ H s->RelV o a->RelV i b->RelV v u->t o i v H Q->
   aH (aR X.prog X.w) X.A (mK a b u) (λ_ e=>∃d,Inv X pins σ d e/\Q d) X.xe s
abbrev TIp:=V->V->Hp->VK->Prop
def PIp(X:Cx)(op:jz)(t:TIp):Prop:=
 ∀ (pins:List (Addr×Obj)) (s:ak) (σ:zQ0) (H:Hp) (x y:V) (v u:ah) (Q:VK),Inv X pins σ H s->RelV x v->RelV y u->t x y H Q->
   aH (aR X.prog X.w) X.A (mx op v u) (EP X pins σ Q) X.xe s
section
variable{pos:Pos}
def BG(i:Nat):TG:=λv σ H Q=>Q (σ.set i (some v)) H
theorem Af{x:Str}(a:X.N.Nodup)(hi:X.N[i]? =some x)(b:Loc X.env.scope x)(d:X.fn x=true\/X.env.scope.names.lookup x=some .local:=by first|exact .inl rfl|exact .inr rfl|assumption):PG X (.Name x pos) (BG i):=by
 intro pins s σ H v u Q I r h;exact h7 (FE I a hi b r (λj e=>⟨_,H,e,h⟩) d)
def gNil:TGs:=λvs σ H Q=>vs=[]/\Q σ H
def Fp(t:TG)(u:TGs):TGs:=λvs σ H Q=>∃v r,vs=v::r/\t v σ H λσ' a=>u r σ' a Q
theorem Bm:PGs X [] gNil:=by
 intro pins s σ H vs a Q I r h;obtain⟨e,h⟩:=h;subst e
 cases r
 exact assignInOrder_nil ⟨σ,H,I,h⟩
theorem As{t:TG}{u:TGs}(a:PG X e t)(b:PGs X es u)
 (d:(d9 (e::es) X.env).map (·.2)=gV e X.env::(d9 es X.env).map (·.2):=by rfl):PGs X (e::es) (Fp t u):=by
 intro pins s σ H vs B Q I r h;obtain⟨v,G,i,h⟩:=h;subst i
 cases r with
 |cons r j=>
  rw[d];refine assignInOrder_cons (thn (a pins s σ H _ _ _ I r h) λ_ o q=>?_);obtain⟨σ1,x,y,z⟩:=q;exact b pins o σ1 x _ _ Q y j z
def Ey(K:W.Frag)(n:Nat)(t:TGs):TG:=λv σ H Q=>∃a b,v= .ref a/\SqT K H a b/\b.length=n/\t b σ H Q
theorem Vv{k:Nat}{t:TGs}(j:X.calm=true)(h:PGs X es t)
 (q:(d9 es X.env).length=n:=by rfl) (d:(d9 es X.env).findIdx? (·.1)=none:=by rfl):PG X (.Tuple es k pos) (Ey X.K n t):=by
 intro pins s σ H v u Q I r i;obtain⟨a,x,y,z,B,i⟩:=i;subst y
 cases r
 obtain⟨G,rv,ht,P⟩:=I.tuple z;refine assign_Tuple_tuple (I.ok.hd j) ht (by simp[q,<-B,rv.length]) d λJ L=>?_;have M:Inv X pins σ H {s with heap:=J}:=I.kept (t':=s.toks) λb o e=>L b o (aN (au e)) e;exact h pins _ σ H x _ Q M (by simpa using rv) i
def N4(a b:TE)(t:TSet):TG:=λv σ H Q=>a σ H λo d=>b σ d λi e=>t o i v e λj=>Q σ j
theorem CO{o i:Expr}{to ti:TE}{t:TSet}(e:PE X o to)(hi:PE X i ti)(j:Io X t)
 (q:∀v,gV (.Subscript o i pos) X.env v=(do
   let a<-fV [v] (eval o X.env)
   let b<-fV [v,a] (eval i X.env)
   gb pos
   fV [v,a,b] (mK a b v)
   release [v,a,b] []):=by intro _;rfl):PG X (.Subscript o i pos) (N4 to ti t):=by
 intro pins s σ H v u Q I r h;rw[q];refine ac (cH (thn (e pins s σ H _ I h) λa z d=>?_));obtain⟨x,B,G,J,L⟩:=d;refine ac (cH (thn (hi pins z σ B _ G L) λb M d=>?_));obtain⟨y,P,R,S,T⟩:=d;refine ac (dg (ac (cH (thn (j pins M σ P x y v a b u _ R J S r T) λ_ s3 d=>?_))));obtain⟨U,Y,Z⟩:=d;exact wpAny_release ⟨σ,U,Y,Z⟩
def Cr(a:TE)(g:TG):TS:=λD σ H=>a σ H λx b=>g x σ b D.nx
theorem Bo{g:TG}(a:PE X e te)(hg:PG X tg g)(b:swapsWithSole [tg] e pos.line X.env=pure false:=by rfl)(d:swappedStores [tg] e X.env=pure none:=by rfl)
 (i:(d9 [tg] X.env).map (·.2)=[gV tg X.env]:=by rfl):PS X (.Assign [tg] e pos) (Cr te g):=by
 intro pins s σ H D I h;refine wpAny_Assign_stores (thn (a pins s σ H _ I h) λv j ⟨x,o,r,y,z⟩=>?_) b d;rw[i];exact thn (hg pins j σ o x v _ r y z) λ_ B q=>q
theorem CM{x:Str}(a:X.N.Nodup)(hi:X.N[i]? =some x)(b:Loc X.env.scope x)(d:PE X e te)(j:gC e (some (.Name x pos')) pos.line X.env=pure false:=by rfl)(o:X.fn x=true\/X.env.scope.names.lookup x=some .local:=by first|exact .inl rfl|exact .inr rfl|assumption):
 PS X (.Assign [.Name x pos'] e pos) (Cr te (BG i)):=by
 intro pins s σ H D I h;refine wpAny_Assign_Name (thn (d pins s σ H _ I h) λv J ⟨y,q,r,z,B⟩=>?_) j;exact FE r a hi b z (λL G=>⟨_,q,G,B⟩) o
def Nl(i:Nat)(a:TE)(b:TIp):TS:=λD σ H=>∃x,σ[i]? =some (some x)/\a σ H λy d=>b x y d λz e=>D.nx (σ.set i (some z)) e
theorem EW{x:Str}{op:jz}{ti:TIp}(q:X.N.Nodup)(hi:X.N[i]? =some x)(d:Loc X.env.scope x)(B:PE X e te)(G:PIp X op ti)(J:X.fn x=true\/X.env.scope.names.lookup x=some .local:=by first|exact .inl rfl|exact .inr rfl|assumption):
 PS X (.AugAssign (.Name x pos') op e pos) (Nl i te ti):=by
 intro pins s σ H D I h;obtain⟨v,L,h⟩:=h;obtain⟨m,M,P⟩:=I.loc;have j:Vis X.env.scope x:=by rcases d with k|k;exact .inl k;exact .inr (.inl k)
 obtain⟨u,r,l⟩:=P i x v hi L j;refine wpAny_AugAssign_Name ?_;have go:aH (aR X.prog X.w) X.A (eval e X.env) (λw a=>aH (aR X.prog X.w) X.A (mx op u w) (λr b=>aH (aR X.prog X.w) X.A (mu X.env x r) (λ_=>SP X pins D .next) X.xe b) X.xe a) X.xe s:=by
  refine thn (B pins s σ H _ I h) λw Q o=>?_;obtain⟨y,R,S,T,U⟩:=o;refine thn (G pins Q σ R v y u w _ S r T U) λz s2 o=>?_;obtain⟨zv,Y,Z,r2,q2⟩:=o;exact FE Z q hi d r2 (λs3 I3=>⟨_,Y,I3,q2⟩) J
 rcases l with⟨hk,hm⟩|⟨hk,c,hc,hcell⟩
 ·exact jD I.ok.kind hk M hm go
 ·rcases hk with hk|hk
  ·exact jN I.ok.kind hk hc hcell go
  ·rcases d with k|k
   ·have:X.env.scope.names.lookup x=some .free:=hk;rw[k]at this;cases this
   ·have:X.env.scope.names.lookup x=some .free:=hk;rw[k]at this;cases this
def NA(e j q:TE)(a:V->V->Hp->VK->Prop)(d:TIp)(b:TSet):TS:=λD σ H=>e σ H λo r=>j σ r λi B=>a o i B λx G=>q σ G λy I=>d x y I λz J=>b o i z J λL=>D.nx σ L
def N6(X:Cx)(t:V->V->Hp->VK->Prop):Prop:=
 ∀ (pins:List (Addr×Obj)) (s:ak) (σ:zQ0) (H:Hp) (o i:V) (a b:ah) (Q:VK),Inv X pins σ H s->RelV o a->RelV i b->t o i H Q->
   aH (aR X.prog X.w) X.A (kx a b) (EP X pins σ Q) X.xe s
theorem EJ{o i:Expr}{to ti:TE}{tip:TIp}{tset:TSet}{op:jz}(y:PE X o to)(hi:PE X i ti)(hg:N6 X tget)(z:PE X e te)(B:PIp X op tip)(G:Io X tset)
 (J:∀a b new,augStore i a b new=(do fV [new,a,b] (mK a b new);release [new,a,b] [];pure .next):=by intros;rfl):PS X (.AugAssign (.Subscript o i tpos) op e pos) (NA to ti te tget tip tset):=by
 intro pins s σ H D I h;refine wpAny_AugAssign_SubscriptAny (thn (y pins s σ H _ I h) λa L ⟨j,M,P,q,Q⟩=>?_) J;refine thn (hi pins L σ M _ P Q) λb R d=>?_;obtain⟨r,S,T,x,U⟩:=d;refine thn (hg pins R σ S j r a b _ T q x U) λold Y d=>?_;obtain⟨Z,H3,I3,r3,q3⟩:=d;refine thn (z pins Y σ H3 _ I3 q3) λv s4 d=>?_;obtain⟨x4,H4,I4,r4,q4⟩:=d;refine thn (B pins s4 σ H4 Z x4 old v _ I4 r3 r4 q4) λnew s5 d=>?_;obtain⟨x5,H5,I5,r5,q5⟩:=d;exact thn (G pins s5 σ H5 j r x5 a b new _ I5 q x r5 q5) λ_ s6 ⟨H6,I6,q6⟩=>⟨σ,H6,I6,q6⟩
def ipI(f:Int->Int->Int):TIp:=λx y H Q=>∃i j,x= .int i/\y= .int j/\Q (.int (f i j)) H
theorem DC:PIp X .Add (ipI λi j=>i+j):=by
 intro pins s σ H x y v u Q I a b h;obtain⟨i,j,d,e,q⟩:=h;subst d;subst e;obtain⟨t,rfl⟩:=a;obtain⟨o,rfl⟩:=b;exact iadd_int ⟨.int _,H,I.tok _,⟨_,rfl⟩,q⟩
theorem WI:PIp X .Sub (ipI λi j=>i-j):=by
 intro pins s σ H x y v u Q I a b h;obtain⟨i,j,d,e,q⟩:=h;subst d;subst e;obtain⟨t,rfl⟩:=a;obtain⟨o,rfl⟩:=b;exact isub_int ⟨.int _,H,I.tok _,⟨_,rfl⟩,q⟩
def MP(c:TT)(tb:TS):TS:=λD σ H=>∃W:Nat->zQ0->Hp->Prop,(∃m,W m σ H)/\∀m σ H,W m σ H->
 c σ H λb a=>if b=true then∃N:zQ0->Hp->Prop,(∀σ' d,N σ' d->∃e,e<m/\W e σ' d)/\tb {D with nx:=N,ct:=N,bk:=D.nx} σ a else D.nx σ a
theorem Gj(x:PassesOwn (aR X.prog X.w) X.A X.env X.xe)(L:PT X c tc)(M:PSs X body tb):PS X (.While c body [] pos) (MP tc tb):=by
 intro pins s σ H D I h;obtain⟨W,⟨P,Q⟩,turn⟩:=h;refine wpAny_While (codeAny_whileLoop (λn R=>∃σ' y,Inv X pins σ' y R/\W n σ' y) ?_ P ⟨σ,H,I,Q⟩);rintro n S ⟨σ1,z,T,U⟩;refine dQ x (thn (L pins S σ1 z _ T (turn n σ1 z U)) λb Y Z=>?_);obtain⟨B,G,d⟩:=Z
 cases b with
 |true=>
  obtain⟨N,J,d⟩:=d;rw[aO rfl];refine dQ x (thn (M pins Y σ1 B _ G d) λf s3 e=>?_)
  cases f with
  |next=>
   obtain⟨σ3,a,i,j⟩:=e;obtain⟨o,q,r⟩:=J σ3 a j;exact⟨o,q,σ3,a,i,r⟩
  |cont=>
   obtain⟨σ3,a,i,j⟩:=e;obtain⟨o,q,r⟩:=J σ3 a j;exact⟨o,q,σ3,a,i,r⟩
  |brk=>exact e
  |ret v=>exact e
 |false=>
  rw[aB aq];exact fH ⟨σ1,B,G,d⟩
end
structure zQ1 where
 go:Nat->Hp->Prop
 yld:Nat->Hp->V->Hp->Prop
 stop:Nat->Hp->Prop
def BQ(X:Cx)(pins:List (Addr×Obj))(H:Hp)(b:Addr):Prop:=
 H b=none/\b≠X.env.locals/\b∉X.fs/\(b∈X.ex\/X.s₀.heap.objs.size<=b)/\(∀x c,X.env.cells.lookup x=some c->c≠b)/\∀p∈X.pn++pins,p.1≠b
theorem Inv.fpOk{σ:zQ0}{s:ak}{b:Addr}(I:Inv X pins σ H s)(a:s.1.1.size<=b)(d:H' b=none):BQ X pins H' b:=by
 refine⟨d,eL (aI I.lt a),I.nofs a, .inr (bj I.sz a),λx c e z=>?_,λp i z=>?_⟩
 ·obtain⟨v,q⟩:=I.cell x c e;exact absurd (aI q.lt (by rw[z];exact a)) (bU _)
 ·exact absurd (aI (au (I.pin p i).1) (by rw[z];exact a)) (bU _)
structure Turn (P:bK) (w:cX) (K:W.Frag) (tg:Expr) (J:zQ1) (fp:List Addr) (it:Addr) (tn:Nat->Heap->Prop):Prop where
 mem:it∈fp
 obj:∀i h,tn i h->∀b∈fp,∃o,h.get? b=some o/\∀v,o.data≠ .cell v
 keep:∀i h h',tn i h->(∀b∈fp,∀o,h.get? b=some o->h'.get? b=some o)->tn i h'
 item:∀ (X:Cx),X.prog=P->X.w=w->X.K=K->X.calm=true->∀ (i:Nat) (pins:List (Addr×Obj)) (s:ak) (σ:zQ0) (H:Hp) (E:ah->ak->Prop),Inv X pins σ H s->(∀b∈fp,BQ X pins H b)->tn i s.heap->J.go i H->
  aH (aR P w) X.A (fv (.ref it)) (λr s1=>∃u,r=some u/\
   aH (aR P w) X.A (cO tg (.ref it) u) (λ_ s2=>∃x H',Inv X pins σ H' s2/\RelV x u/\J.yld i H x H'/\tn (i+1) s2.heap/\∀b∈fp,H' b=none) E s1) E s
 done:∀ (X:Cx),X.prog=P->X.w=w->X.K=K->X.calm=true->∀ (i:Nat) (pins:List (Addr×Obj)) (s:ak) (σ:zQ0) (H:Hp) (E:ah->ak->Prop),Inv X pins σ H s->(∀b∈fp,BQ X pins H b)->tn i s.heap->J.stop i H->
  aH (aR P w) X.A (fv (.ref it)) (λr s1=>r=none/\Inv X pins σ H s1) E s
 self:∀ (A:eR) (i:Nat) (s:ak) (Q:ah->ak->Prop) (E:ah->ak->Prop),tn i s.heap->Q (.ref it) s->aH (aR P w) A (i8 (.ref it)) Q E s
abbrev TI:=zQ0->Hp->(zQ1->Hp->Prop)->Prop
end L2
variable{g:TG}
namespace L2
variable{dx:Addr}{p:Addr×Obj}{vs:Array ah}{b:Bool}{op':mI}{a:Expr}{g:Int->Int->Int}{C:Int->Int->Prop}{kw:List (Str×ah)}{es:List Expr}{body:List Stmt}{ns:List Str}{its:List ah}{o:Option ah}{mA:Str->Option ah}{x y:V}{r:V->Hp->VK->Prop}{R:V->V->Hp->Prop}{rd:V->V->Hp->VK->Prop}{f:ah->ah->Sem ah}{Q:ah×List ah->ak->Prop}
def PIE(X:Cx)(pins:List (Addr×Obj))(σ:zQ0)(tg:Expr)(R:zQ1->Hp->Prop)(a:ah)(e:ak):Prop:=
 ∃ (it:Addr) (fp:List Addr) (i:Nat->Heap->Prop) (J:zQ1) (d:Hp),a= .ref it/\Inv X pins σ d e/\Turn X.prog X.w X.K tg J fp it i/\i 0 e.heap/\(∀b∈fp,BQ X pins d b)/\R J d
def PI(X:Cx)(tg iter:Expr)(a:TI):Prop:=
 ∀ (pins:List (Addr×Obj)) (s:ak) (σ:zQ0) (H:Hp) (R:zQ1->Hp->Prop),Inv X pins σ H s->a σ H R->
   aH (aR X.prog X.w) X.A (eval iter X.env) (λv b=>aH (aR X.prog X.w) X.A (i8 v) (PIE X pins σ tg R) X.xe b) X.xe s
theorem Fo{s:ak}{it:Addr}{u:ah}{o:Obj}{n:String}{Q:Unit->ak->Prop}(b:s.heap.get? it=some o)(d:o.cls= .type n)(hd:o.data= .fields vs)
 (e:["enumerate","zip","dict_itemiterator","dict_reverseitemiterator","odict_iterator","itertools.zip_longest","itertools.pairwise"].contains n=false) (a:Q () s):aH M A (cO tg (.ref it) u) Q E s:=by
 unfold cO
 cases tg<;>first
  |exact ag a
  |(cases u<;>first
     |exact ag a
     |(refine ac (wpAny_load b ?_)
       rw[d,hd];show aH M A (if(["enumerate","zip","dict_itemiterator","dict_reverseitemiterator","odict_iterator","itertools.zip_longest","itertools.pairwise"].contains n&&vs[0]? ==some (d2 _))=true then _ else _) Q E s;rw[aB (by intro h;rw[e,Bool.false_and]at h;cases h)];exact ag a))
def Itl(K:W.Frag)(a:Addr):zQ1:=
 ⟨λi H=>∃b x,SqL K H a b/\b[i]? =some x,λi H x d=>d=H/\∀b,SqL K H a b->b[i]? =some x,λi H=>∃b,SqL K H a b/\b.length<=i⟩
def Itr(lo:Int)(n:Nat):zQ1:=⟨λi _=>i<n,λi H x a=>a=H/\x= .int (lo+i),λi _=>n<=i⟩
theorem QW(a it:Addr):Turn P w K tg (Itl K a) [it] it (λi h=>h.IsListIter it a i) where
 mem:=by simp
 obj:=λi h j b q=>by
  have e:b=it:=by simpa using q
  subst e;obtain⟨o,e,c,d⟩:=j;exact⟨o,e,λv z=>by rw[d]at z;cases z⟩
 keep:=λi h y j k=>j.at λo e=>k it nC o e
 item:=by
  intro X J L M hc i pins s σ H E I B j hg;subst J L M;obtain⟨xs,x,G,Q⟩:=hg;obtain⟨R,rv,p,hz⟩:=I.list G;obtain⟨u,hu,ru⟩:=rv.get Q;obtain⟨S,T,f2,U,Y,Z⟩:=B it nC;refine wpAny_pyNext_list_item j p.isList (x:=u) (by simpa using hu) λy r sb=>?_;have I1:Inv X pins σ H {s with heap:=y}:=I.turned (t':=s.toks) (λb o q e=>(sb.2 b q).trans e) S T U Y Z;obtain⟨o,e,c,d⟩:=id r;exact⟨u,rfl,Fo (s:={s with heap:=y}) e c d nv ⟨x,H,I1,ru,⟨rfl,λys hy=>by rw[I.list_inj hy G];exact Q⟩,r,λb q=>(B b q).1⟩⟩
 done:=by
  intro X J L M hc i pins s σ H E I B j hg;subst J L M;obtain⟨xs,G,Q⟩:=hg;obtain⟨R,rv,p,hz⟩:=I.list G;obtain⟨S,T,f2,U,Y,Z⟩:=B it nC;have hl:=rv.length;exact wpAny_pyNext_list_end (I.ok.hd hc) j p.isList (by simp;lia) λy eb=>⟨rfl,I.turned (t':=s.toks) (λb o q e=>eb b o q e) S T U Y Z⟩
 self:=λ_ _ _ _ _ j h=>wpAny_pyIter_listiter j h
theorem Pn(it:Addr)(lo:Int)(n:Nat):Turn P w K tg (Itr lo n) [it] it (λi h=>jU h it (lo+(i:Nat)*1) ((n:Int)-(i:Nat)) 1) where
 mem:=by simp
 obj:=λi h a b d=>by
  have e:b=it:=by simpa using d
  subst e;exact⟨_,a,λv z=>by
   have T:mY _=Data.cell v:=z
   cases T⟩
 keep:=λi h q a k=>k it nC _ a
 item:=by
  intro X x y B G i pins s σ H E I r a hg;subst x y B;obtain⟨J,L,U,M,Q,R⟩:=r it nC;have W:=mQ (prog:=X.prog) (w:=X.w) (I.ok.hd G) it lo 1 n;refine W.item i s _ _ hg a λv q S Y j Z=>?_;obtain⟨t,rfl⟩:=Y;have I1:Inv X pins σ H {s with heap:=q,toks:=S}:=I.turned (λb o d e=>Z b o (by simpa using d) e) J L M Q R;refine⟨_,rfl,Fo (s:={s with heap:=q,toks:=S}) (n:="range_iterator") j rfl rfl nv ⟨.int (lo+i),H,I1,⟨t,?_⟩,⟨rfl,rfl⟩,j,λb d=>(r b d).1⟩⟩;rw[lN]
 done:=by
  intro X x y B G i pins s σ H E I r a hg;subst x y B;obtain⟨J,L,U,M,Q,R⟩:=r it nC;exact iS (I.ok.hd G) a (by have:n<=i:=hg;lia) λq eb=>⟨rfl,I.turned (t':=s.toks) (λb o d e=>eb b o d e) J L M Q R⟩
 self:=λ_ _ _ _ _ a h=>iU a h
def IT(K:W.Frag)(d:TE):TI:=λσ H R=>d σ H λx b=>∃a,x= .ref a/\(∃e,SqL K b a e)/\R (Itl K a) b
theorem T7{l:Expr}{tl:TE}(j:PE X l tl):PI X tg l (IT X.K tl):=by
 intro pins s σ H R I h;refine thn (j pins s σ H _ I h) λv d r=>?_;obtain⟨x,y,i,z,B⟩:=r;obtain⟨a,e,⟨M,G⟩,q⟩:=B;subst e
 cases z
 obtain⟨J,rv,p,P⟩:=i.list G;refine eU p.isList ?_;refine⟨d.1.1.size,[d.1.1.size],_,_,y,rfl,i.kept (t':=d.toks) λb o e=>ae _ e,QW a _,⟨_,ap _ rfl,rfl,rfl⟩,λb L=>?_,q⟩;have e:b=d.1.1.size:=by simpa using L
 subst e;exact i.fpOk (ao _) (i.hok.fresh (ao _))
theorem R5{σ:zQ0}{s:ak}{R:zQ1->Hp->Prop}{hi:Int}{t u v:Tok}{tk:Nat}(I:Inv X pins σ H s)(d: -(2^62)<=lo)(i:lo<2^62)(j: -(2^62)<=hi)(r:hi<2^62)
 (q:R (Itr lo (hi-lo).toNat) H):aH (aR X.prog X.w) X.A (i8 (.ref s.1.1.size)) (PIE X pins σ tg R) E {s with heap:=s.heap.push {cls:= .type "range",data:= .fields #[.int lo t, .int hi u, .int 1 v]},toks:=tk}:=by
 refine j0 (mW ..) (small_one d i j r) ?_;have a:Inv X pins σ H {s with heap:=s.heap.push {cls:= .type "range",data:= .fields #[.int lo t, .int hi u, .int 1 v]},toks:=tk}:=I.kept λb o e=>ae _ e;refine⟨(s.heap.push {cls:= .type "range",data:= .fields #[.int lo t, .int hi u, .int 1 v]}).objs.size,[(s.heap.push {cls:= .type "range",data:= .fields #[.int lo t, .int hi u, .int 1 v]}).objs.size],_,_,H,rfl,
  a.kept (t':=tk) λb o e=>ae _ e,Pn _ lo (hi-lo).toNat,?_,λb x=>?_,q⟩
 ·have y:lo+((0:Nat):Int)*1=lo:=by simp
  have z:(((hi-lo).toNat:Nat):Int)-((0:Nat):Int)=cA lo hi 1:=by rw[rangeSize_one];split<;>lia
  show jU _ _ (lo+((0:Nat):Int)*1) ((((hi-lo).toNat:Nat):Int)-((0:Nat):Int)) 1;rw[y,z];exact ap _ rfl
 ·have e:b=(s.heap.push {cls:= .type "range",data:= .fields #[.int lo t, .int hi u, .int 1 v]}).objs.size:=by simpa using x
  subst e;exact a.fpOk (ao _) (a.hok.fresh (ao _))
def NS(a:TA):TI:=λσ H R=>a σ H λvs b=>∃j:Int,vs=[.int j]/\ -(2^62)<=j/\j<2^62/\R (Itr 0 j.toNat) b
theorem CA{ta:TA}{p pos:Pos}(hg:Gl X "range")(d:X.mg "range"=none)(i:PA X [a] ta)(o:aL [a] X.env=[(false,eval a X.env)]:=by rfl):PI X tg (.Call (.Name "range" p) [a] [] pos) (NS ta):=by
 intro pins s σ H R I h;refine Call_ (CP I hg d boot_range (bY (thn (i pos pins s σ H _ I h) λG J ⟨vs,L,x,y,b⟩=>?_) o rfl));obtain⟨j,e,b,z,q⟩:=b;subst e
 cases y with
 |cons r B=>
  cases B
  obtain⟨t,rfl⟩:=r;exact call_range_1 (R5 x nA nA b z (by simpa using q))
def Nj(d:TI)(g:TG)(tb:TS):TS:=λD σ H=>d σ H λJ e=>∃W:Nat->Nat->zQ0->Hp->Prop,(∃m,W 0 m σ e)/\∀i m σ H,W i m σ H->
 (J.stop i H/\D.nx σ H)\/(J.go i H/\∃N:zQ0->Hp->Prop,(∀σ' a,N σ' a->∃b,b<m/\W (i+1) b σ' a)/\∀x a,J.yld i H x a->g x σ a λσ2 j=>tb {D with nx:=N,ct:=N,bk:=D.nx} σ2 j)
def DN(fp:List Addr)(h:Heap):List (Addr×Obj):=fp.filterMap λb=>(h.get? b).map λo=>(b,o)
theorem Cy{fp:List Addr}{h:Heap}{b:Addr}{o:Obj}(a:b∈fp)(e:h.get? b=some o):(b,o)∈DN fp h:=fM.mpr ⟨b,a,by rw[e];rfl⟩
theorem Qt{fp:List Addr}{h:Heap}(a:p∈DN fp h):p.1∈fp/\h.get? p.1=some p.2:=by
 obtain⟨b,d,e⟩:=fM.mp a
 cases q:h.get? b with
 |none=>rw[q]at e;cases e
 |some o=>
  rw[q]at e;have i:(b,o)=p:=bi e;subst i;exact⟨d,q⟩
theorem Inv.pinned{σ:zQ0}{s:ak}{fp:List Addr}(I:Inv X pins σ H s)(j:∀b∈fp,BQ X pins H b)(q:∀b∈fp,∃o,s.heap.get? b=some o/\∀v,o.data≠ .cell v):Inv X (pins++DN fp s.heap) σ H s:=
 I.pins_of λp r=>(dW.mp r).elim (λz=>I.pin p (aP _ z)) λz=>by
  obtain⟨a,e⟩:=Qt z;obtain⟨x,y,B,_⟩:=j p.1 a;obtain⟨o,i,d⟩:=q p.1 a;rw[e]at i;cases i;exact⟨e,x,y,B,d⟩
theorem Inv.unpinned{pl:List (Addr×Obj)}{σ:zQ0}{s:ak}(I:Inv X (pins++pl) σ H s):Inv X pins σ H s:=I.pins_of λp a=>I.pin p (aP _ (cD _ a))
theorem A9{iter:Expr}{wi:TI}{g:TG}{pos:Pos}(G:PassesOwn (aR X.prog X.w) X.A X.env X.xe)(hc:X.calm=true)(hi:PI X tg iter wi)(hg:PG X tg g)(a:PSs X body tb)
 (hs:∀x,cu iter X.env x=pure x:=by intro _;rfl):PS X (.For tg iter body [] pos) (Nj wi g tb):=by
 intro pins s σ H D I h;refine wpAny_For (thn (hi pins s σ H _ I h) λv s1 h1=>thn h1 λitv s2 h2=>?_) hs;obtain⟨it,fp,tn,J,H2,e,I2,T,R,f2,W,⟨m0,w0⟩,turn⟩:=h2;subst e;have j:∀ {H':Hp},(∀b∈fp,H' b=none)->∀b∈fp,BQ X pins H' b:=λhn b a=>⟨hn b a,(f2 b a).2⟩;refine codeAny_forLoop_any (λn s'=>∃i σ' H',Inv X pins σ' H' s'/\tn i s'.heap/\(∀b∈fp,H' b=none)/\W i n σ' H') ?_ m0 ⟨0,σ,H2,I2,R,λb a=>(f2 b a).1,w0⟩;rintro n s3 ⟨i,σ3,Q,I3,L,M,w3⟩;rcases turn i n σ3 Q w3 with⟨stop,qn⟩|⟨go,N,hN,step⟩
 ·refine dQ G (thn (T.done X rfl rfl rfl hc i pins s3 σ3 Q X.xe I3 (j M) L stop) λr s4 z=>?_);obtain⟨S,I4⟩:=z;subst S;exact fH ⟨σ3,Q,I4,qn⟩
 ·refine dQ G (thn (T.item X rfl rfl rfl hc i pins s3 σ3 Q X.xe I3 (j M) L go) λr s4 z=>?_);obtain⟨u,S,h4⟩:=z;subst S;refine dQ G (thn h4 λ_ s5 z=>?_);obtain⟨x,H5,I5,r5,y5,B,U⟩:=z;have Y:=I5.pinned (j U) (T.obj _ _ B);refine dQ G (thn (hg _ s5 σ3 H5 x u _ Y r5 (step x H5 y5)) λ_ s6 z=>?_);obtain⟨σ6,H6,I6,q6⟩:=z;refine dQ G (thn (a _ s6 σ6 H6 _ I6 q6) λf Z q7=>?_);have m7:∀ {σ7:zQ0} {q:Hp},Inv X (pins++DN fp s5.heap) σ7 q Z->N σ7 q->∃m,m<n/\∃i σ' H',Inv X pins σ' H' Z/\tn i Z.heap/\(∀b∈fp,H' b=none)/\W i m σ' H':=fun{σ7 q} y P=>by
   obtain⟨m',hm,w7⟩:=hN σ7 q P;refine⟨m',hm,i+1,σ7,q,y.unpinned,T.keep _ _ _ B λb a o e=>(y.pin (b,o) (aP _ (aP _ (Cy a e)))).1,λb a=>?_,w7⟩;obtain⟨o,e,d⟩:=T.obj _ _ B b a;exact(y.pin (b,o) (aP _ (aP _ (Cy a e)))).2.1
  cases f with
  |next=>obtain⟨σ7,q,y,P⟩:=q7;exact m7 y P
  |cont=>obtain⟨σ7,q,y,P⟩:=q7;exact m7 y P
  |brk=>obtain⟨σ7,q,y,q7⟩:=q7;exact⟨σ7,q,y.unpinned,q7⟩
  |ret v=>obtain⟨x7,σ7,q,y,r7,q7⟩:=q7;exact⟨x7,σ7,q,y.unpinned,r7,q7⟩
theorem K4{a:Addr}{g:TG}{σ:zQ0}(Pv:Nat->zQ0->Hp->Prop)(h0:Pv 0 σ H)(r:∀i σ H,i<=xs.length->Pv i σ H->SqL K H a xs)
 (z:∀i x σ H,xs[i]? =some x->Pv i σ H->g x σ H λσ2 j=>tb {D with nx:=Pv (i+1),ct:=Pv (i+1),bk:=D.nx} σ2 j) (hd:∀σ H,Pv xs.length σ H->D.nx σ H):
 ∃W:Nat->Nat->zQ0->Hp->Prop,(∃m,W 0 m σ H)/\∀i m σ H,W i m σ H->
  ((Itl K a).stop i H/\D.nx σ H)\/((Itl K a).go i H/\∃N:zQ0->Hp->Prop,(∀σ' b,N σ' b->∃o,o<m/\W (i+1) o σ' b)/\∀x b,(Itl K a).yld i H x b->g x σ b λσ2 j=>tb {D with nx:=N,ct:=N,bk:=D.nx} σ2 j):=by
 refine⟨λi m σ H=>m=xs.length-i/\i<=xs.length/\Pv i σ H,⟨xs.length,by simp,bA _,h0⟩,?_⟩;rintro i m σ H ⟨rfl,hi,p⟩;have q:=r i σ H hi p
 by_cases d:i<xs.length
 ·refine .inr ⟨⟨xs,xs[i],q,by simp[d]⟩,Pv (i+1),λσ' b B=>⟨xs.length-(i+1),by lia,rfl,d,B⟩,λx b y=>?_⟩;obtain⟨e,y⟩:=y;subst e;exact z i x σ _ (y xs q) p
 ·have e:i=xs.length:=by lia
  subst e;exact .inl ⟨⟨xs,q,ao _⟩,hd σ H p⟩
theorem RF{g:TG}{σ:zQ0}(Pv:Nat->zQ0->Hp->Prop)(h0:Pv 0 σ H)
 (o:∀i σ H,i<n->Pv i σ H->g (.int (lo+i)) σ H λσ2 d=>tb {D with nx:=Pv (i+1),ct:=Pv (i+1),bk:=D.nx} σ2 d) (hd:∀σ H,Pv n σ H->D.nx σ H):
 ∃W:Nat->Nat->zQ0->Hp->Prop,(∃m,W 0 m σ H)/\∀i m σ H,W i m σ H->
  ((Itr lo n).stop i H/\D.nx σ H)\/((Itr lo n).go i H/\∃N:zQ0->Hp->Prop,(∀σ' a,N σ' a->∃j,j<m/\W (i+1) j σ' a)/\∀x a,(Itr lo n).yld i H x a->g x σ a λσ2 d=>tb {D with nx:=N,ct:=N,bk:=D.nx} σ2 d):=by
 refine⟨λi m σ H=>m=n-i/\i<=n/\Pv i σ H,⟨n,by simp,bA _,h0⟩,?_⟩;rintro i m σ H ⟨rfl,hi,p⟩
 by_cases b:i<n
 ·refine .inr ⟨b,Pv (i+1),λσ' a q=>⟨n-(i+1),by lia,rfl,b,q⟩,λx a y=>?_⟩;obtain⟨e,y⟩:=y;subst e y;exact o i σ _ b p
 ·have e:i=n:=by lia
  subst e;exact .inl ⟨ao _,hd σ H p⟩
abbrev R2:=V->V->Hp->VK->Prop
def OpR(X:Cx)(f:ah->ah->Sem ah)(r:R2):Prop:=
 ∀ (pins:List (Addr×Obj)) (s:ak) (σ:zQ0) (H:Hp) (x y:V) (v u:ah) (Q:VK),Inv X pins σ H s->RelV x v->RelV y u->r x y H Q->
   aH (aR X.prog X.w) X.A (f v u) (EP X pins σ Q) X.xe s
def UnR(X:Cx)(f:ah->Sem ah)(r:V->Hp->VK->Prop):Prop:=
 ∀ (pins:List (Addr×Obj)) (s:ak) (σ:zQ0) (H:Hp) (x:V) (v:ah) (Q:VK),Inv X pins σ H s->RelV x v->r x H Q->
   aH (aR X.prog X.w) X.A (f v) (EP X pins σ Q) X.xe s
def CallR(X:Cx)(f:ah)(r:List V->Hp->VK->Prop):Prop:=
 ∀ (pins:List (Addr×Obj)) (s:ak) (σ:zQ0) (H:Hp) (a:List V) (b:List ah) (Q:VK),Inv X pins σ H s->Vals a b->r a H Q->
   aH (aR X.prog X.w) X.A (call f b) (EP X pins σ Q) X.xe s
def Xz(X:Cx)(r:V->Hp->(Bool->Hp->Prop)->Prop):Prop:=
 ∀ (pins:List (Addr×Obj)) (s:ak) (σ:zQ0) (H:Hp) (x:V) (v:ah) (Q:Bool->Hp->Prop),Inv X pins σ H s->RelV x v->r x H Q->
   aH (aR X.prog X.w) X.A (truthy v) (TP X pins σ Q) X.xe s
def tOp(r:R2)(a tb:TE):TE:=λσ H Q=>a σ H λx b=>tb σ b λy d=>r x y d Q
def tUn(r:V->Hp->VK->Prop)(a:TE):TE:=λσ H Q=>a σ H λx b=>r x b Q
def rI(C:Int->Int->Prop)(g:Int->Int->V):R2:=λx y H Q=>∃i j,x= .int i/\y= .int j/\C i j/\Q (g i j) H
def rI0(g:Int->Int->V):R2:=λx y H Q=>∃i j,x= .int i/\y= .int j/\Q (g i j) H
def rU(g:Int->V):V->Hp->VK->Prop:=λx H Q=>∃i,x= .int i/\Q (g i) H
section
variable{b c:Expr}{tb tc:TE}{pos:Pos}
theorem Il(q:PE X a ta)(r:PE X b tb){s:ak}{σ:zQ0}(I:Inv X pins σ H s)
 (h:ta σ H λx o=>tb σ o λy d=>R x y d) {Q:ah->ak->Prop} {f:ah->ah->Sem ah}
 (z:∀v u j x y d,Inv X pins σ d j->RelV x v->RelV y u->R x y d->aH (aR X.prog X.w) X.A (f v u) Q X.xe j):
 aH (aR X.prog X.w) X.A (eval a X.env) (λv e=>aH (aR X.prog X.w) X.A (eval b X.env) (λu i=>aH (aR X.prog X.w) X.A (f v u) Q X.xe i) X.xe e) X.xe s:=by
 refine thn (q pins s σ H _ I h) λv B ⟨x,o,G,J,L⟩=>?_;refine thn (r pins B σ o _ G L) λu j ⟨y,d,M,P,S⟩=>?_;exact z v u j x y d M J P S
theorem AG{op:jz}{r:R2}(d:OpR X (dO op) r)(e:PE X a ta)(i:PE X b tb):PE X (.BinOp a op b pos) (tOp r ta tb):=by
 intro pins s σ H Q I h;exact wpAny_BinOp (Il e i I h λv u j x y o z B G q=>d pins j σ o x y v u Q z B G q)
theorem Bf{op:UnaryOp}(d:UnR X (unaryOp op) r)(e:PE X a ta):PE X (.UnaryOp op a pos) (tUn r ta):=by
 intro pins s σ H Q I h;exact UnaryOp_ (thn (e pins s σ H _ I h) λv i ⟨x,j,o,q,y⟩=>d pins i σ j x v Q o q y)
theorem opI
 (rule:∀ (i j:Int) (t u:Tok) (s:ak) (Q:ah->ak->Prop) (E:ah->ak->Prop),C i j->Q (.int (g i j) s.toks) {s with toks:=s.toks+1}->aH (aR X.prog X.w) X.A (f (.int i t) (.int j u)) Q E s):
 OpR X f (rI C λi j=> .int (g i j)):=by
 intro pins s σ H x y v u Q I d e h;obtain⟨i,j,rfl,rfl,o,q⟩:=h;obtain⟨t,rfl⟩:=d;obtain⟨r,rfl⟩:=e;exact rule i j t r s _ _ o ⟨.int (g i j),H,I.tok _,⟨_,rfl⟩,q⟩
theorem Nz
 (rule:∀ (i j:Int) (t u:Tok) (s:ak) (Q:ah->ak->Prop) (E:ah->ak->Prop),Q (.int (g i j) s.toks) {s with toks:=s.toks+1}->aH (aR X.prog X.w) X.A (f (.int i t) (.int j u)) Q E s):
 OpR X f (rI0 λi j=> .int (g i j)):=by
 intro pins s σ H x y v u Q I d e h;obtain⟨i,j,rfl,rfl,q⟩:=h;obtain⟨t,rfl⟩:=d;obtain⟨o,rfl⟩:=e;exact rule i j t o s _ _ ⟨.int (g i j),H,I.tok _,⟨_,rfl⟩,q⟩
theorem Fy{g:Int->Int->Bool}
 (rule:∀ (i j:Int) (t u:Tok) (s:ak) (Q:ah->ak->Prop) (E:ah->ak->Prop),Q (.bool (g i j)) s->aH (aR X.prog X.w) X.A (f (.int i t) (.int j u)) Q E s):
 OpR X f (rI0 λi j=> .bl (g i j)):=by
 intro pins s σ H x y v u Q I d e h;obtain⟨i,j,rfl,rfl,q⟩:=h;obtain⟨t,rfl⟩:=d;obtain⟨o,rfl⟩:=e;exact rule i j t o s _ _ ⟨.bl (g i j),H,I,rfl,q⟩
def X0(i j:Int):Prop:=0<j/\j<1073741824
def OC(i j:Int):Prop:=0<=j/\j<=1000000/\i.natAbs<2^64
def CMul(i j:Int):Prop:=(-(2^64)<i/\i<2^64)\/(-(2^64)<j/\j<2^64)
theorem CMul.ok{i j:Int}(h:CMul i j):IntMulOk i j:=by
 rcases h with⟨h1,h2⟩|⟨h1,h2⟩
 ·exact .of_left (intBits_le_64 h1 h2)
 ·exact .of_right (intBits_le_64 h1 h2)
theorem op_add:OpR X (dO .Add) (rI0 λi j=> .int (i+j)):=Nz λ_ _ _ _ _ _ _ q=>add_int q
theorem Ml:OpR X (dO .Sub) (rI0 λi j=> .int (i-j)):=Nz λ_ _ _ _ _ _ _ q=>sub_int q
theorem op_mul:OpR X (dO .Mult) (rI CMul λi j=> .int (i*j)):=opI λ_ _ _ _ _ _ _ d q=>mul_int q d.ok
theorem Lr:OpR X (dO .FloorDiv) (rI X0 λi j=> .int (i/j)):=opI λi j _ _ _ _ _ d q=>by
 have e:(0:Int)<j:=d.1;have o:j<1073741824:=d.2;exact floordiv_int nA (by rw[gR i nA];exact q) (.inl (iX nA))
theorem DQ:OpR X (dO .Mod) (rI (λ_ j=>0<j) λi j=> .int (i%j)):=opI λi j _ _ _ _ _ d q=>by
 have e:(0:Int)<j:=d;exact mod_int' nA (by rw[Int.fmod_eq_emod_of_nonneg i nA];exact q)
theorem Mm:OpR X (dO .Pow) (rI OC λi j=> .int (i^j.toNat)):=opI λ_ _ _ _ _ _ _ d q=>pow_int_small d.1 d.2.1 d.2.2 q
theorem unI{f:ah->Sem ah}{g:Int->Int}
 (rule:∀ (i:Int) (t:Tok) (s:ak) (Q:ah->ak->Prop) (E:ah->ak->Prop),Q (.int (g i) s.toks) {s with toks:=s.toks+1}->aH (aR X.prog X.w) X.A (f (.int i t)) Q E s):
 UnR X f (rU λi=> .int (g i)):=by
 intro pins s σ H x v Q I d h;obtain⟨i,rfl,q⟩:=h;obtain⟨t,rfl⟩:=d;exact rule i t s _ _ ⟨.int (g i),H,I.tok _,⟨_,rfl⟩,q⟩
theorem BZ:UnR X (unaryOp .USub) (rU λi=> .int (-i)):=unI λ_ _ _ _ _ q=>neg_int q
end
def Nq:V->V->Bool
 | .non, .non=>true| .non, .int _=>true| .int _, .non=>true| .non, .bl _=>true| .bl _, .non=>true| .non, .str _=>true| .str _, .non=>true
 | .int _, .int _=>true| .bl _, .bl _=>true| .str _, .str _=>true| .byt _, .byt _=>true
 | .int _, .str _=>true| .str _, .int _=>true| .bl _, .str _=>true| .str _, .bl _=>true
 |_,_=>false
def rEq:R2:=λx y H Q=>Nq x y=true/\Q (.bl (decide (x=y))) H
def rNe:R2:=λx y H Q=>Nq x y=true/\Q (.bl (!decide (x=y))) H
theorem FV{i j:Int}:decide (V.int i=V.int j)=(i==j):=by
 rw[d1];simp
theorem M2{i j:Bool}:decide (V.bl i=V.bl j)=(i==j):=by
 rw[d1];simp
theorem ME{i j:Str}:decide (V.str i=V.str j)=(i==j):=by
 rw[d1];simp
theorem MF{i j:Array UInt8}:decide (V.byt i=V.byt j)=(i.toList==j.toList):=by
 rw[d1]
 cases i
 cases j
 simp
section
variable{b c:Expr}{tb tc:TE}{pos:Pos}
theorem Ao{σ:zQ0}{s:ak}{Q:VK}{k k':Bool}(I:Inv X pins σ H s)(q:Q (.bl k) H)(e:k=k'):EP X pins σ Q (.bool k') s:=by
 subst e;exact⟨.bl k,H,I,rfl,q⟩
theorem op_eq:OpR X (bt .Eq) rEq:=by
 intro pins s σ H x y v u Q I r d h;obtain⟨o,q⟩:=h
 cases x with
 |non=>
  cases r
  cases y with
  |non=>cases d;exact PySem.EqNone.eq_none_none (Ao I q (by simp))
  |bl j=>cases d;exact PySem.EqNone.eq_none_bool (Ao I q (by simp))
  |int j=>obtain⟨e,rfl⟩:=d;exact PySem.EqNone.eq_none_int (Ao I q (by simp))
  |str j=>obtain⟨e,rfl⟩:=d;exact PySem.EqNone.eq_none_str (Ao I q (by simp))
  |_=>exact absurd (show false=true from o) aq
 |bl i=>
  cases r
  cases y with
  |non=>cases d;exact PySem.EqNone.eq_bool_none (Ao I q (by simp))
  |bl j=>cases d;exact eq_bool (Ao I q M2)
  |str j=>obtain⟨e,rfl⟩:=d;exact PySem.EqMixed.eq_bool_str (Ao I q (by simp))
  |_=>exact absurd (show false=true from o) aq
 |int i=>
  obtain⟨t,rfl⟩:=r
  cases y with
  |non=>cases d;exact PySem.EqNone.eq_int_none (Ao I q (by simp))
  |int j=>obtain⟨e,rfl⟩:=d;exact eq_int (Ao I q FV)
  |str j=>obtain⟨e,rfl⟩:=d;exact PySem.EqMixed.eq_int_str (Ao I q (by simp))
  |_=>exact absurd (show false=true from o) aq
 |str i=>
  obtain⟨t,rfl⟩:=r
  cases y with
  |non=>cases d;exact PySem.EqNone.eq_str_none (Ao I q (by simp))
  |bl j=>cases d;exact PySem.EqMixed.eq_str_bool (Ao I q (by simp))
  |int j=>obtain⟨e,rfl⟩:=d;exact PySem.EqMixed.eq_str_int (Ao I q (by simp))
  |str j=>obtain⟨e,rfl⟩:=d;exact eq_str (Ao I q ME)
  |_=>exact absurd (show false=true from o) aq
 |byt i=>
  obtain⟨t,rfl⟩:=r
  cases y with
  |byt j=>obtain⟨e,rfl⟩:=d;exact W.eq_bytes (Ao I q MF)
  |_=>exact absurd (show false=true from o) aq
 |_=>cases y<;>exact absurd (show false=true from o) aq
theorem op_ne:OpR X (bt .NotEq) rNe:=by
 intro pins s σ H x y v u Q I r d h;obtain⟨o,q⟩:=h
 cases x with
 |non=>
  cases r
  cases y with
  |non=>cases d;exact PySem.EqNone.ne_none_none (Ao I q (by simp))
  |bl j=>cases d;exact PySem.EqNone.ne_none_bool (Ao I q (by simp))
  |int j=>obtain⟨e,rfl⟩:=d;exact PySem.EqNone.ne_none_int (Ao I q (by simp))
  |str j=>obtain⟨e,rfl⟩:=d;exact PySem.EqNone.ne_none_str (Ao I q (by simp))
  |_=>exact absurd (show false=true from o) aq
 |bl i=>
  cases r
  cases y with
  |non=>cases d;exact PySem.EqNone.ne_bool_none (Ao I q (by simp))
  |bl j=>cases d;exact ne_bool (Ao I q (cx not M2))
  |str j=>obtain⟨e,rfl⟩:=d;exact PySem.EqMixed.ne_bool_str (Ao I q (by simp))
  |_=>exact absurd (show false=true from o) aq
 |int i=>
  obtain⟨t,rfl⟩:=r
  cases y with
  |non=>cases d;exact PySem.EqNone.ne_int_none (Ao I q (by simp))
  |int j=>obtain⟨e,rfl⟩:=d;exact ne_int (Ao I q (cx not FV))
  |str j=>obtain⟨e,rfl⟩:=d;exact PySem.EqMixed.ne_int_str (Ao I q (by simp))
  |_=>exact absurd (show false=true from o) aq
 |str i=>
  obtain⟨t,rfl⟩:=r
  cases y with
  |non=>cases d;exact PySem.EqNone.ne_str_none (Ao I q (by simp))
  |bl j=>cases d;exact PySem.EqMixed.ne_str_bool (Ao I q (by simp))
  |int j=>obtain⟨e,rfl⟩:=d;exact PySem.EqMixed.ne_str_int (Ao I q (by simp))
  |str j=>obtain⟨e,rfl⟩:=d;exact ne_str (Ao I q (cx not ME))
  |_=>exact absurd (show false=true from o) aq
 |byt i=>
  obtain⟨t,rfl⟩:=r
  cases y with
  |byt j=>obtain⟨e,rfl⟩:=d;exact W.ne_bytes (Ao I q (cx not MF))
  |_=>exact absurd (show false=true from o) aq
 |_=>cases y<;>exact absurd (show false=true from o) aq
theorem IL:OpR X (bt .Lt) (rI0 λi j=> .bl (decide (i<j))):=Fy λ_ _ _ _ _ _ _ q=>lt_int q
theorem CT:OpR X (bt .LtE) (rI0 λi j=> .bl (decide (i<=j))):=Fy λ_ _ _ _ _ _ _ q=>le_int q
theorem CF:OpR X (bt .Gt) (rI0 λi j=> .bl (decide (j<i))):=Fy λ_ _ _ _ _ _ _ q=>gt_int q
theorem NP:OpR X (bt .GtE) (rI0 λi j=> .bl (decide (j<=i))):=Fy λ_ _ _ _ _ _ _ q=>ge_int q
theorem Qp:OpR X (bt .In) (λx y H Q=>∃i j,x= .str i/\y= .str j/\Q (.bl (!(bO j i 0 j.length 1).isEmpty)) H):=by
 intro pins s σ H x y v u Q I d e h;obtain⟨i,j,rfl,rfl,q⟩:=h;obtain⟨t,rfl⟩:=d;obtain⟨o,rfl⟩:=e;exact in_str (Ao I q rfl)
theorem Ot:OpR X (bt .NotIn) (λx y H Q=>∃i j,x= .str i/\y= .str j/\Q (.bl (!(!(bO j i 0 j.length 1).isEmpty))) H):=by
 intro pins s σ H x y v u Q I d e h;obtain⟨i,j,rfl,rfl,q⟩:=h;obtain⟨t,rfl⟩:=d;obtain⟨o,rfl⟩:=e;exact notIn_str (Ao I q rfl)
theorem OpR.or{r r':R2}(h:OpR X f r)(h':OpR X f r'):OpR X f (λx y H Q=>r x y H Q\/r' x y H Q):=by
 intro pins s σ H x y v u Q I d e q;rcases q with q|q
 ·exact h pins s σ H x y v u Q I d e q
 ·exact h' pins s σ H x y v u Q I d e q
theorem Mo(b:Expr){op:mI}(h:op≠ .In:=by decide)(d:op≠ .NotIn:=by decide):eZ op b=false:=by
 have e:(op==CmpOp.In)=false:=by cases op<;>first|rfl|exact absurd rfl h
 have i:(op==CmpOp.NotIn)=false:=by cases op<;>first|rfl|exact absurd rfl d
 cases b<;>simp[eZ,e,i]
theorem UI{op:mI}{r:R2}(d:OpR X (bt op) r)(e:PE X a ta)(i:PE X b tb)(j:eZ op b=false):PE X (.Compare a [op] [b] pos) (tOp r ta tb):=by
 intro pins s σ H Q I h;exact wpAny_Compare1 (Il e i I h λv u o x y z B G J q=>d pins o σ z x y v u Q B G J q) j
def Dm(t:TE):TT:=λσ H Q=>t σ H λx d=>∃k,x= .bl k/\Q k d
theorem Tx{op:mI}{r:R2}(d:OpR X (bt op) r)(i:PE X a ta)(j:PE X b tb)(o:eZ op b=false):PT X (.Compare a [op] [b] pos) (Dm (tOp r ta tb)):=by
 intro pins s σ H Q I h;refine i5 (thn (i pins s σ H _ I h) λv q ⟨x,B,G,J,L⟩=>thn (j pins q σ B _ G L) λu M ⟨y,P,R,S,T⟩=>
  thn (d pins M σ P x y v u _ R J S T) λc s3 ⟨z,U,Y,Z,k,e,q3⟩=>?_) o
 subst e
 cases Z
 exact cr ⟨U,Y,q3⟩
def Hm(r e:R2)(ta tb tc:TE):TE:=λσ H Q=>ta σ H λx i=>tb σ i λy j=>r x y j λz d=>∃k,z= .bl k/\
 (if k=true then tc σ d λo q=>e y o q Q else Q (.bl false) d)
theorem SM{op:mI}{r r':R2}(G:OpR X (bt op) r)(i:OpR X (bt op') r')(J:PE X a ta)(L:PE X b tb)(M:PE X c tc)
 (P:lastMarks [op,op'] [b,c]=false:=by with_unfolding_all rfl):PE X (.Compare a [op,op'] [b,c] pos) (Hm r r' ta tb tc):=by
 intro pins s σ H Q I h;refine Compare_chain (thn (J pins s σ H _ I h) λv R ⟨x,S,T,U,Y⟩=>chain_link (thn (L pins R σ S _ T Y) λu Z ⟨y,H2,I2,j,q2⟩=>
  thn (G pins Z σ H2 x y v u _ I2 U j q2) λd s3 ⟨z,o,q,r3,k,e,B⟩=>?_)) P
 subst e
 cases r3
 refine cr ?_
 cases k with
 |false=>exact ite_ff ⟨.bl false,o,q,rfl,B⟩
 |true=>exact ite_tt (chain_last (thn (M pins s3 σ o _ q B) λw' s4 ⟨z',H4,I4,r4,q4⟩=>i pins s4 σ H4 y z' u w' Q I4 j r4 q4))
theorem FG{op:mI}{r r':R2}(G:OpR X (bt op) r)(i:OpR X (bt op') r')(J:PE X a ta)(L:PE X b tb)(M:PE X c tc)
 (P:lastMarks [op,op'] [b,c]=false:=by with_unfolding_all rfl):PT X (.Compare a [op,op'] [b,c] pos) (Dm (Hm r r' ta tb tc)):=by
 intro pins s σ H Q I h;refine isTrue_chain (thn (J pins s σ H _ I h) λv R ⟨x,S,T,U,Y⟩=>test_link (thn (L pins R σ S _ T Y) λu Z ⟨y,H2,I2,j,q2⟩=>
  thn (G pins Z σ H2 x y v u _ I2 U j q2) λd s3 ⟨z,o,q,r3,k,e,B⟩=>?_)) P
 subst e
 cases r3
 refine cr ?_
 cases k with
 |false=>
  obtain⟨k',e',q'⟩:=B
  cases e'
  exact ite_ff ⟨o,q,q'⟩
 |true=>
  refine ite_tt (test_last (thn (M pins s3 σ o _ q B) λw' s4 ⟨z',H4,I4,r4,q4⟩=>thn (i pins s4 σ H4 y z' u w' _ I4 j r4 q4) λd' s5 z_=>?_));obtain⟨z2,H5,I5,r5,k2,e2,q5⟩:=z_;subst e2
  cases r5
  exact cr ⟨H5,I5,q5⟩
def DY(K:W.Frag)(x:V)(H:Hp)(k:Bool):Prop:=
 match x with
 | .non=>k=false
 | .bl b=>k=b
 | .int i=>k=(i !=0)
 | .str y=>y.length<=sizeLine/\k=((y.length:Int) !=0)
 | .byt y=>y.size<=sizeLine/\k=((y.size:Int) !=0)
 | .ref p=>(∃d,SqL K H p d/\k= !d.isEmpty)\/(∃d,SqT K H p d/\k= !d.isEmpty)\/∃e,H p=some (.dK e)/\k= !e.isEmpty
 |_=>False
theorem QK{κ:Type}{kvs:List (κ×V)}{vs:List (κ×ah)}(r:KV kvs vs):(!vs.isEmpty)= !kvs.isEmpty:=by
 cases r<;>rfl
theorem Jg(r:Vals xs its):(!its.toArray.isEmpty)= !xs.isEmpty:=by
 cases r<;>simp
theorem DB:(sizeLine:Nat)<2^63:=by rw[cj];decide
theorem Ux:Xz X (λx H Q=>∃k,DY X.K x H k/\Q k H):=by
 intro pins s σ H x v Q I B h;obtain⟨k,e,q⟩:=h;have S:=DB;have T:sizeLine=16777216:=cj
 cases x with
 |non=>
  cases B
  have d:k=false:=e;subst d;exact truthy_none ⟨H,I,q⟩
 |bl b=>
  cases B
  have d:k=b:=e;subst d;exact cr ⟨H,I,q⟩
 |int i=>
  obtain⟨t,rfl⟩:=B;have d:k=(i !=0):=e;subst d;exact PySem.P.truthy_int ⟨H,I,q⟩
 |str y=>
  obtain⟨t,rfl⟩:=B;obtain⟨M,d⟩:y.length<=sizeLine/\k=((y.length:Int) !=0):=e;subst d;exact PySem.P.truthy_str nA ⟨H,I.tok _,q⟩
 |byt y=>
  obtain⟨t,rfl⟩:=B;obtain⟨M,d⟩:y.size<=sizeLine/\k=((y.size:Int) !=0):=e;subst d;exact W.truthy_bytes nA ⟨H,I.tok _,q⟩
 |ref p=>
  cases B
  have d:(∃z,SqL X.K H p z/\k= !z.isEmpty)\/(∃z,SqT X.K H p z/\k= !z.isEmpty)\/∃j,H p=some (.dK j)/\k= !j.isEmpty:=e;rcases d with⟨z,hx,d⟩|⟨z,hx,d⟩|⟨j,hx,d⟩
  ·subst d;obtain⟨G,r,J,L⟩:=I.list hx;have o:=r.length;exact wpAny_truthy_list J.isList (by simp only[av];lia) ⟨H,I.tok _,by rw[Jg r];exact q⟩
  ·subst d;obtain⟨G,r,J,L⟩:=I.tuple hx;have o:=r.length;exact truthy_tuple J (by simp only[av];lia) ⟨H,I.tok _,by rw[Jg r];exact q⟩
  ·subst d;obtain⟨L,R,vs,r,m⟩:j.length<=sizeLine/\(p==bJ)=false/\∃vs,KV j vs/\s.heap.DictOf (BI X.prog X.w) p vs:=I.hok p _ hx;have o:j.length=vs.length:=iF r;exact wpAny_truthy_dict R m nA ⟨H,I.tok _,by rw[QK r];exact q⟩
 |_=>exact(show False from e).elim
theorem R7(e:PE X a ta)(i:∀whole,j5 a X.env whole=(do let v<-whole;gb a.pos;fV [v] (truthy v))):
 PT X a (λσ H Q=>ta σ H λx d=>∃k,DY X.K x d k/\Q k d):=by
 intro pins s σ H Q I h;exact isTrue_plain (thn (e pins s σ H _ I h) λv j ⟨x,o,q,r,y⟩=>Ux pins j σ o x v Q q r y) (i _)
theorem P7:OpR X (dO .Add) (λx y H Q=>∃i j,x= .str i/\y= .str j/\i.length+j.length<=sizeLine/\Q (.str (i++j)) H):=by
 intro pins s σ H x y v u Q I d e h;obtain⟨i,j,rfl,rfl,o,q⟩:=h;obtain⟨t,rfl⟩:=d;obtain⟨r,rfl⟩:=e;exact add_str (λr z=>⟨.str (i++j),H,I.tok _,⟨_,rfl⟩,q⟩) o
theorem vals1(r:Vals [x] us):∃u,us=[u]/\RelV x u:=by
 cases r with
 |cons d e=>cases e;exact⟨_,rfl,d⟩
theorem vals2(r:Vals [x,y] us):∃u w',us=[u,w']/\RelV x u/\RelV y w':=by
 cases r with
 |cons d e=>
  cases e with
  |cons i j=>cases j;exact⟨_,_,rfl,d,i⟩
theorem RS(o:X.calm=true):CallR X (.builtin "max") (λe H Q=>∃i j,e=[.int i, .int j]/\Q (.int (if j>i then j else i)) H):=by
 intro pins s σ H e x Q I r h;obtain⟨i,j,rfl,q⟩:=h;obtain⟨u,y,rfl,⟨t,rfl⟩,⟨z,rfl⟩⟩:=vals2 r;refine max_two_ints (I.ok.hd o) λB G k=>⟨_,H,I.kept k,?_,q⟩
 by_cases d:j>i
 ·rw[aO d,aO d];exact⟨_,rfl⟩
 ·rw[aB d,aB d];exact⟨_,rfl⟩
theorem RR(o:X.calm=true):CallR X (.builtin "min") (λe H Q=>∃i j,e=[.int i, .int j]/\Q (.int (if j<i then j else i)) H):=by
 intro pins s σ H e x Q I r h;obtain⟨i,j,rfl,q⟩:=h;obtain⟨u,y,rfl,⟨t,rfl⟩,⟨z,rfl⟩⟩:=vals2 r;refine min_two_ints (I.ok.hd o) λB G k=>⟨_,H,I.kept k,?_,q⟩
 by_cases d:j<i
 ·rw[aO d,aO d];exact⟨_,rfl⟩
 ·rw[aB d,aB d];exact⟨_,rfl⟩
theorem RU:CallR X (.type "int") (λd H Q=>(∃i,d=[.int i]/\Q (.int i) H)\/∃k,d=[.bl k]/\Q (.int (if k then 1 else 0)) H):=by
 intro pins s σ H d j Q I r h;rcases h with⟨i,rfl,q⟩|⟨k,rfl,q⟩
 ·obtain⟨u,rfl,t,rfl⟩:=vals1 r;exact call_int_int ⟨.int i,H,I,⟨_,rfl⟩,q⟩
 ·obtain⟨u,rfl,e⟩:=vals1 r
  cases e
  exact call_int_bool ⟨.int (if k then 1 else 0),H,I.tok _,⟨_,rfl⟩,q⟩
end
structure ObjM (h:Heap) (x dx C:Addr) (mA:Str->Option ah):Prop where
 obj:h.get? x=some (W.instObj C dx)
 ns:h.Ns1 dx mA
 ne:dx≠x
set_option tactic.hygienic true in
theorem Q1{h:Heap}(n:h.Ns1 dx mA):∃d,h.get? dx=some d/\∀name,W.lookIn name d=some (mA name):=by
 obtain⟨o,i,G,j,hd,hk,_,r⟩:=n;refine⟨o,j,λname=>?_⟩;have e:=r name;unfold nsFind findBy at e;rw[<-Array.find?_toList]at e;unfold W.lookIn;rw[hd]
 dsimp only
 split
 ·rename_i y q
  rw[q]at e;exact cx some e
 ·rename_i q
  rw[q]at e;have a:i.toList.any (·.refKey)=false:=by
   rw[List.any_eq_false];intro y x;obtain⟨z,t,b⟩:=hk y (Array.mem_toList_iff.mp x);simp[DictEntry.refKey,b]
  have B:¬i.toList.any (·.refKey)=true:=by rw[a];exact aq
  rw[aB B];exact cx some e
theorem ObjM.look{h:Heap}{x C:Addr}(I:ObjM h x dx C mA):∃a,W.InstAt h x (W.instObj C dx) C (some a)/\∀name,W.lookIn name a=some (mA name):=
 let⟨a,b,d⟩:=Q1 I.ns
 ⟨a,⟨I.obj,rfl,rfl,b⟩,d⟩
section
variable{s:ak}{x C f:Addr}{name:Str}{v:ah}
theorem Ub{expr:Bool}{Q:ah->ak->Prop}(X:K.In s.heap)(I:ObjM s.heap x dx C mA)(hg:W.plainGet K C name=true)(b:W.hasDictIn K C=true)
 (d:W.findIn K (.ref C) name=some none) (e:mA name=some v) (a:W.handedIn v=true) (h:Q v {s with toks:=s.toks+1}):
 aH (aR prog w) A (getAttr (.ref x) name expr) Q E s:=by
 obtain⟨j,J,i⟩:=I.look;exact W.get_value X J (W.plainGet_of hg).1 (W.findObj_own b d rfl (by rw[i,e])) a h
theorem Sg(X:K.In s.heap)(I:ObjM s.heap x dx C mA)(hg:W.plainGet K C name=true)
 (a:W.findIn K (.ref C) name=some (some (.ref f))) (ht:W.isFn K (.ref f)=true) (b:mA name=none) (h:Q (.ref f,[.ref x]) s):
 aH (aR prog w) A (ie (.ref x) name pl) Q E s:=by
 obtain⟨d,J,e⟩:=I.look;exact W.method_fn X J (W.plainGet_of hg).1 (W.plainGet_of hg).2 a (bE.mp ht) (by show(W.lookIn name d).map (·.isSome)=some false;rw[e,b];rfl) h
theorem TF{Q:Unit->ak->Prop}(X:K.In s.heap)(I:ObjM s.heap x dx C mA)
 (B:W.findIn K (.ref C) "__setattr__"=some (some (.builtin "object.__setattr__"))) (G:W.plainOver K C=true) (ht:W.takerIn K C name=some none) (H:W.hasDictIn K C=true)
 (L:kN mA ns) (hsz:ns.length<=sizeLine)
 (h:∀i,ObjM i x dx C (λy=>if y=name then some v else mA y)->bu dx s.heap i->Q () {s with heap:=i,toks:=s.toks+2}):
 aH (aR prog w) A (setAttr (.ref x) name v) Q E s:=by
 obtain⟨T,J,U⟩:=I.look;refine W.set_plain X J B (W.osa_open (s:={s with toks:=s.toks+1}) (r:=none) X J G ht λb=>?_);obtain⟨Y,M,j⟩:=W.any_some H;have P:s.heap.get? x=some ⟨.ref C,some dx, .plain,#[]⟩:=I.obj;refine ac (ag (ac (ac (jJ P (ac (W.Looks.here (s:={s with toks:=s.toks+1}) (W.looks_clsIn X M) ?_))))));rw[j];refine ag (a:=some dx) (ac (ag (ac ?_)));refine wpAny_nsSet1 (s:={s with toks:=s.toks+1}) I.ns λi d e=>?_;obtain⟨Z,R,S,o,q,z⟩:=d.count (PySem.Within.cons name v L);refine ac (wpAny_lookBehind o (by rw[q];exact pastItsLine_dict (bj z (by rw[aM];lia))) ?_);exact ag (h _ ⟨(e.2 _ (cI I.ne)).trans I.obj,d,I.ne⟩ e)
theorem SW{R:m5->ak->Prop}{vs:List ah}(X:K.In s.heap)(a:W.makesIn K C=true)
 (hi:W.findIn K (.ref C) "__init__"=some (some (.ref f))) (b:W.typeIn K (.ref f)=some (.type "function"))
 (h:dt (aR prog w) (A.under (.builtin "type.__call__" ⟨.ref C::vs,kw⟩)) (.call (.ref f) ⟨.ref (s.1.1.size+1)::vs,kw⟩) (W.InitBack (s.1.1.size+1) R)
   {s with heap:=(s.heap.push W.emptyDict).push (W.instObj C s.1.1.size)}):
 dt (aR prog w) A (.call (.ref C) ⟨vs,kw⟩) R s:=by
 obtain⟨e,g,d,t,os⟩:=s;exact W.make_core (W.makes_of X a) (W.looks_findIn X hi) (λself=>W.bind_fn X self b) (.inl rfl) h
end
def Ar(f:Str)(v:V):List (Str×V)->List (Str×V)
 |[]=>[(f,v)]
 |(g,x)::r=>if g=f then(g,v)::r else(g,x)::Ar f v r
theorem JP(f g:Str)(v:V):∀fs:List (Str×V),(Ar f v fs).lookup g=if g=f then some v else fs.lookup g
 |[]=>by
  show dN g [(f,v)]=_
  by_cases h:g=f
  ·have a:(g==f)=true:=bE.mpr h;simp only[dN,a,aO h]
  ·have a:(g==f)=false:=cW.mpr h;simp only[dN,a,aB h]
 |(k,x)::r=>by
  have b:=JP f g v r;rw[show Ar f v ((k,x)::r)=(if k=f then(k,v)::r else(k,x)::Ar f v r)from rfl]
  by_cases hk:k=f
  ·rw[aO hk]
   by_cases h:g=k
   ·have a:(g==k)=true:=bE.mpr h;simp only[dN,a,aO (h.trans hk)]
   ·have a:(g==k)=false:=cW.mpr h;simp only[dN,a,aB (λe:g=f=>h (e.trans hk.symm))]
  ·rw[aB hk]
   by_cases h:g=k
   ·have a:(g==k)=true:=bE.mpr h;simp only[dN,a,aB (λe:g=f=>hk (h.symm.trans e))]
   ·have a:(g==k)=false:=cW.mpr h;simp only[dN,a];exact b
theorem GT(f:Str)(v:V):∀fs:List (Str×V),f∈(Ar f v fs).map (·.1)/\∀g,g∈fs.map (·.1)->g∈(Ar f v fs).map (·.1)
 |[]=>⟨by simp[Ar],λg h=>by simp at h⟩
 |(k,x)::r=>by
  obtain⟨a,b⟩:=GT f v r;rw[show Ar f v ((k,x)::r)=(if k=f then(k,v)::r else(k,x)::Ar f v r)from rfl]
  by_cases hk:k=f
  ·rw[aO hk];subst hk;exact⟨by simp,λg h=>by simpa using h⟩
  ·rw[aB hk];refine⟨?_,λg h=>?_⟩
   ·rw[aW];exact ay _ a
   ·rw[aW]at h⊢;rcases aJ.mp h with e|e
    ·exact List.mem_cons.mpr (.inl e)
    ·exact ay _ (b g e)
theorem JR(f:Str)(v:V):∀fs:List (Str×V),(Ar f v fs).length<=fs.length+1
 |[]=>by simp[Ar]
 |(k,x)::r=>by
  have a:=JR f v r;rw[show Ar f v ((k,x)::r)=(if k=f then(k,v)::r else(k,x)::Ar f v r)from rfl]
  by_cases hk:k=f
  ·rw[aO hk,aM,aM];lia
  ·rw[aB hk,aM,aM];lia
theorem RelO.some_of{v:V}(r:RelO (some v) o):∃u,o=some u/\RelV v u:=by
 cases o with
 |none=>exact(show False from r).elim
 |some u=>exact⟨u,rfl,r⟩
theorem RelO.none_of(r:RelO none o):o=none:=by
 cases o with
 |none=>rfl
 |some u=>exact(show False from r).elim
theorem RE{v:V}{u:ah}(r:RelV v u):W.handedIn u=true:=by
 cases v with
 |non=>cases(show u=dc from r);rfl
 |bl b=>cases(show u=dS b from r);rfl
 |int i=>obtain⟨t,e⟩:=(show∃t,u=fK i t from r);cases e;rfl
 |str x=>obtain⟨t,e⟩:=(show∃t,u=d8 x t from r);cases e;rfl
 |byt b=>obtain⟨t,e⟩:=(show∃t,u=mS b t from r);cases e;rfl
 |flt b=>obtain⟨t,e⟩:=(show∃t,u=lD b t from r);cases e;rfl
 |ref a=>cases(show u=aj a from r);rfl
 |ty n=>cases(show u=dR n from r);rfl
section
variable{h:Heap}{a C:Addr}{fs fs':List (Str×V)}
theorem FT(hok:HOk P w H h)(e:H a=some (.ins C dx fs)):∃b,ObjM h a dx C b/\(∀f,RelO (fs.lookup f) (b f))/\kN b (fs.map (·.1))/\fs.length<=1000/\H dx=some (.own a):=by
 obtain⟨d,z,ne,ob,b,n,r,q⟩:=(show ObjOk P w H h a (.ins C dx fs)from hok a _ e);exact⟨b,⟨ob,n,ne⟩,r,q,z,d⟩
end
structure Cls (K:W.Frag) (C:Addr):Prop where
 pg:W.plainGet K C cF=true
 hd:W.hasDictIn K C=true
 po:W.plainOver K C=true
 sa:W.findIn K (.ref C) "__setattr__"=some (some (.builtin "object.__setattr__"))
theorem Cls.get{C:Addr}(c:Cls K C)(f:Str):W.plainGet K C f=true:=c.pg
def NoAttr(K:W.Frag)(C:Addr)(f:Str):Prop:=W.findIn K (.ref C) f=some none
theorem NoAttr.taker{C:Addr}{f:Str}(n:NoAttr K C f):W.takerIn K C f=some none:=by
 unfold W.takerIn;rw[show W.findIn K (.ref C) f=some none from n]
 rfl
structure Meth (K:W.Frag) (C:Addr) (m:Str) (f:Addr):Prop where
 at_:W.findIn K (.ref C) m=some (some (.ref f))
 fn:W.isFn K (.ref f)=true
 kp:W.keepIn K (.ref f)=true
section
variable{σ:zQ0}{s:ak}{a C:Addr}{fs:List (Str×V)}{f:Str}{v:V}
theorem Jj{Q:ah->ak->Prop}(I:Inv X pins σ H s)(e:H a=some (.ins C dx fs))(c:Cls X.K C)(n:NoAttr X.K C f)(l:fs.lookup f=some v)
 (h:∀u d,Inv X pins σ H d->RelV v u->Q u d):aH (aR X.prog X.w) A (getAttr (.ref a) f b) Q E s:=by
 obtain⟨j,O,r,_,_,_⟩:=FT I.hok e;obtain⟨u,q,i⟩:=RelO.some_of (v:=v) (o:=j f) (by rw[<-l];exact r f);exact Ub I.kIn O (c.get f) c.hd n q (RE i) (h u _ (I.tok _) i)
theorem GG{m:Str}{g:Addr}(I:Inv X pins σ H s)(e:H a=some (.ins C dx fs))(c:Cls X.K C)(k:Meth X.K C m g)(l:fs.lookup m=none)
 (h:Q (.ref g,[.ref a]) s):aH (aR X.prog X.w) A (ie (.ref a) m pl) Q E s:=by
 obtain⟨b,O,r,_,_,_⟩:=FT I.hok e;have d:b m=none:=RelO.none_of (by rw[<-l];exact r m);exact Sg I.kIn O (c.get m) k.at_ k.fn d h
theorem Ja{u:ah}{Q:Unit->ak->Prop}(I:Inv X pins σ H s)(e:H a=some (.ins C dx fs))(c:Cls X.K C)(n:NoAttr X.K C f)(T:fs.length<1000)(J:RelV y u)
 (h:∀i,Inv X pins σ (upd H a (.ins C dx (Ar f y fs))) i->Q () i):aH (aR X.prog X.w) A (setAttr (.ref a) f u) Q E s:=by
 obtain⟨j,O,r,B,_,G⟩:=FT I.hok e;have L:(fs.map (·.1)).length<=sizeLine:=by rw[ax,cj];lia
 refine TF I.kIn O c.sa c.po n.taker c.hd B L λM d P=>h _ ?_;have hd:∃o,M.get? dx=some o:=let⟨o,_,_,R,_⟩:=d.ns;⟨o,R⟩;refine I.write (x:=a) (e:=dx) (by rw[e];exact dU) (.inr G) (λb q S z=>(P.2 b S).trans z) hd ?_;refine⟨by rw[AI O.ne];exact G,?_,O.ne,d.obj,_,d.ns,λg=>?_,λg hg=>?_⟩
 ·have:=JR f y fs;lia
 ·show RelO ((Ar f y fs).lookup g) (if g=f then some u else j g);rw[JP]
  by_cases q:g=f
  ·rw[aO q,aO q];exact J
  ·rw[aB q,aB q];exact r g
 ·by_cases q:g=f
  ·rw[q];exact(GT f y fs).1
  ·refine(GT f y fs).2 g (B g λz=>hg ?_);show(if g=f then some u else j g)=none;rw[aB q];exact z
theorem Inv.made(I:Inv X pins σ H s):Inv X pins σ (upd (upd H s.1.1.size (.own (s.1.1.size+1))) (s.1.1.size+1) (.ins C s.1.1.size []))
 {s with heap:=(s.heap.push W.emptyDict).push (W.instObj C s.1.1.size)}:=by
 have d:(s.heap.push W.emptyDict).get? s.1.1.size=some W.emptyDict:=ap s.heap rfl;have i:((s.heap.push W.emptyDict).push (W.instObj C s.1.1.size)).get? (s.1.1.size+1)=some (W.instObj C s.1.1.size):=by
  have:=ap (s.heap.push W.emptyDict) (o:=W.instObj C s.1.1.size) rfl;rwa[bB]at this
 have j:(s.heap.push W.emptyDict).Ns s.1.1.size (λ_=>none):=⟨W.emptyDict,#[],_,d,rfl,(λe r=>absurd r nC),λ_=>rfl⟩;have x:=I.laid (a:=s.1.1.size) (o:= .own (s.1.1.size+1)) (h':=s.heap.push W.emptyDict) (t':=s.toks) (λb u q=>ae _ q) (ao _) ⟨_,d⟩;refine x.laid (a:=s.1.1.size+1) (o:= .ins C s.1.1.size []) (t':=s.toks) (λb u q=>ae _ q) (fA (bB _ _)) ?_;have ne:s.1.1.size≠s.1.1.size+1:=aN (bX _);refine⟨by rw[AI ne,AF],bA _,ne,i,λ_=>none,(Heap.Ns1.of_empty j).at λo q=>ae _ q,λ_=>dU,λy z=>absurd rfl z⟩
theorem Us{pos:Pos}{Q:ah->ak->Prop}(d:d5 e f env (eval e env)=eval e env)
 (h:aH (aR prog w) A (eval e env) (λo b=>aH (aR prog w) A (getAttr o f true) Q E b) E s):aH (aR prog w) A (eval (.Attribute e f pos) env) Q E s:=
 Attribute_any_ h (by rw[arm_eval_Attribute,d])
end
def IZ(K:W.Frag)(d:TE)(f:Str):TE:=λσ H Q=>d σ H λx b=>∃a C e fs v,x= .ref a/\b a=some (.ins C e fs)/\Cls K C/\NoAttr K C f/\fs.lookup f=some v/\Q v b
def Ie(K:W.Frag)(e i:TE)(f:Str):TS:=λD σ H=>i σ H λy j=>e σ j λx b=>∃a C d fs,x= .ref a/\b a=some (.ins C d fs)/\Cls K C/\NoAttr K C f/\fs.length<1000/\
 D.nx σ (upd b a (.ins C d (Ar f y fs)))
def F3(X:Cx)(op:jz)(a:V->V->Hp->VK->Prop):Prop:=
 ∀ (pins:List (Addr×Obj)) (s:ak) (σ:zQ0) (H:Hp) (x y:V) (u v:ah) (Q:VK),Inv X pins σ H s->RelV x u->RelV y v->a x y H Q->aH (aR X.prog X.w) X.A (mx op u v) (EP X pins σ Q) X.xe s
def HM(K:W.Frag)(j o:TE)(q:V->V->Hp->VK->Prop)(f:Str):TS:=λD σ H=>j σ H λx e=>∃a C r fs v,x= .ref a/\e a=some (.ins C r fs)/\Cls K C/\NoAttr K C f/\fs.lookup f=some v/\
 o σ e λy B=>q v y B λz i=>∃d b,i a=some (.ins C d b)/\b.length<1000/\D.nx σ (upd i a (.ins C d (Ar f z b)))
section
variable{o value:Expr}{f:Str}{pos pos':Pos}{tv:TE}
theorem Vy(b:PE X e ta)(d:d5 e f X.env (eval e X.env)=eval e X.env):PE X (.Attribute e f pos) (IZ X.K ta f):=by
 intro pins s σ H Q I h;refine Us d (thn (b pins s σ H _ I h) λu J i=>?_);obtain⟨x,j,r,y,a,C,L,fs,v,ex,z,c,n,l,q⟩:=i;subst ex;obtain rfl:u=aj a:=y;exact Jj r z c n l λM P B G=>⟨v,j,B,G,q⟩
theorem Vo(b:PE X o ta)(d:PE X value tv)(i:gC value (some (.Attribute o f pos')) pos.line X.env=pure false):PS X (.Assign [.Attribute o f pos'] value pos) (Ie X.K ta tv f):=by
 intro pins s σ H D I h;refine plainObj_wpAny_Assign_Attribute (thn (d pins s σ H _ I h) λu j ⟨y,r,z,B,q⟩=>thn (b pins j σ r _ z q) λG R ⟨x,S,J,L,a,C,T,fs,ex,M,c,n,l,P⟩=>?_) i;subst ex;obtain rfl:G=aj a:=L;exact Ja J M c n l B λU Q=>⟨σ,_,Q,P⟩
theorem Qd{op:jz}(j:PE X o ta)(r:PE X value tv)(b:F3 X op rd):PS X (.AugAssign (.Attribute o f tpos) op value pos) (HM X.K ta tv rd f):=by
 intro pins s σ H D I h;refine wpAny_AugAssign_AttributeAny (thn (j pins s σ H _ I h) λB s1 d=>?_);obtain⟨x,G,J,L,a,C,dx,fs,v,ex,M,c,n,l,q⟩:=d;subst ex;obtain rfl:B=aj a:=L;refine Jj J M c n l λu P Q R=>thn (r pins P σ G _ Q q) λS T ⟨y,U,Y,Z,q3⟩=>thn (b pins T σ U v y u S _ Y R Z q3) λw4 s4 d=>?_;obtain⟨z,H3,I4,rz,dx',fs',i,l',q4⟩:=d;exact Ja I4 i c n l' rz λs5 I5=>⟨σ,_,I5,q4⟩
def rAdd:V->V->Hp->VK->Prop:=λx y H Q=>∃i j,x= .int i/\y= .int j/\Q (.int (i+j)) H
theorem WJ:F3 X .Add rAdd:=by
 rintro pins s σ H x y u v Q I b d ⟨i,j,rfl,rfl,q⟩;obtain⟨t,rfl⟩:=(show∃t,u=fK i t from b);obtain⟨a,rfl⟩:=(show∃a,v=fK j a from d);exact PyProof.Rows.iadd_int ⟨.int (i+j),H,I.tok _,⟨_,rfl⟩,q⟩
end
section
variable{σ:zQ0}{s:ak}{Q:ah->ak->Prop}{c:ah}
inductive TyOf (K:W.Frag) (H:Hp):V->ah->Prop where
 |non:TyOf K H .non (.type "NoneType")
 |bl (x:Bool):TyOf K H (.bl x) (.type "bool")
 |int (i:Int):TyOf K H (.int i) (.type "int")
 |str (x:Str):TyOf K H (.str x) (.type "str")
 |flt (x:UInt64):TyOf K H (.flt x) (.type "float")
 |lst {a:Addr} {xs:List V} (e:H a=some (.lst xs)):TyOf K H (.ref a) (.type "list")
 |frz {a:Addr} {o:Obj} {xs:List V} (e:H a=some (.frz o (.lst xs))):TyOf K H (.ref a) (.type "list")
 |tup {a:Addr} {xs:List V} (e:H a=some (.tup xs)):TyOf K H (.ref a) (.type "tuple")
 |dK {a:Addr} {kvs:List (Key×V)} (e:H a=some (.dK kvs)):TyOf K H (.ref a) (.type "dict")
 |dT {a:Addr} {kvs:List (List Key×V)} (e:H a=some (.dT kvs)):TyOf K H (.ref a) (.type "dict")
 |ins {a C dx:Addr} {fs:List (Str×V)} (e:H a=some (.ins C dx fs)) (cl:Cls K C) (ha:W.findIn K (.ref C) "__class__"=some (some (.builtin "object.__class__")))
   (hn:W.specialIn K (.builtin "object.__class__") "__get__"=some (some (.builtin "getset_descriptor.__get__"))) (htk:W.takesIn K (.builtin "object.__class__")=some true)
   (hm:W.mroIn K C (.type "object")=some true):TyOf K H (.ref a) (.ref C)
theorem Q5{u t:ah}(I:Inv X pins σ H s)(d:RelV x u)(ty:TyOf X.K H x t)(e:W.kitOne X.K t c=some b)(h:∀P,Q (.bool b) {s with toks:=P}):
 aH (aR X.prog X.w) A (call (.builtin "isinstance") [u,c]) Q E s:=by
 cases ty with
 |non=>cases(show u=dc from d);exact W.kia_one W.kitx_none I.kIn dU e (λz=>nomatch z) h
 |bl y=>cases(show u=dS y from d);exact W.kia_one W.kitx_bool I.kIn dU e (λz=>nomatch z) h
 |int i=>obtain⟨t,q⟩:=(show∃t,u=fK i t from d);cases q;exact W.kia_one W.kitx_int I.kIn dU e (λz=>nomatch z) h
 |str y=>obtain⟨t,q⟩:=(show∃t,u=d8 y t from d);cases q;exact W.kia_one W.kitx_str I.kIn dU e (λz=>nomatch z) h
 |flt y=>obtain⟨t,q⟩:=(show∃t,u=lD y t from d);cases q;exact W.kia_one W.kitx_float I.kIn dU e (λz=>nomatch z) h
 | @lst a G j=>
   cases(show u=aj a from d)
   obtain⟨_,_,n,_,r⟩:=(show ObjOk X.prog X.w H s.heap a (.lst G)from I.hok a _ j);exact W.kia_one W.kitx_list I.kIn ⟨_,r,rfl⟩ e (λz=>nomatch z) h
 | @frz a ob G j=>
   cases(show u=aj a from d)
   obtain⟨_,_,_,n,_,r⟩:=(show ObjOk X.prog X.w H s.heap a (.frz ob (.lst G))from I.hok a _ j);exact W.kia_one W.kitx_list I.kIn ⟨_,r,rfl⟩ e (λz=>nomatch z) h
 | @tup a G j=>
   cases(show u=aj a from d)
   obtain⟨_,_,_,p⟩:=(show ObjOk X.prog X.w H s.heap a (.tup G)from I.hok a _ j);obtain⟨o,r,L,_⟩:=p;exact W.kia_one W.kitx_tuple I.kIn ⟨o,r,L⟩ e (λz=>nomatch z) h
 | @dK a B j=>
   cases(show u=aj a from d)
   obtain⟨_,_,vs,_,p⟩:=(show ObjOk X.prog X.w H s.heap a (.dK B)from I.hok a _ j);obtain⟨o,R,S,r,L,_⟩:=p;exact W.kia_one W.kitx_dict I.kIn ⟨o,r,L.1⟩ e (λz=>nomatch z) h
 | @dT a B j=>
   cases(show u=aj a from d)
   obtain⟨_,_,G,_,o,R,S,r,L,_⟩:=(show ObjOk X.prog X.w H s.heap a (.dT B)from I.hok a _ j);exact W.kia_one W.kitx_dict I.kIn ⟨o,r,L.1⟩ e (λz=>nomatch z) h
 | @ins a C Z fs j cl T U M Y=>
   cases(show u=aj a from d)
   obtain⟨mA,O,_⟩:=FT I.hok j;obtain⟨od,J,_⟩:=O.look;exact W.kia_one (W.kitx_own (cl.get _) cl.hd T U M Y) I.kIn J e (λz=>nomatch z) h
end
structure Room (k:Nat) (A:eR):Prop where
 hd:A.handled=none
 dp:A.depth+3*k+5<jK
 un:A.units+16*k+200<jE
 gd:A.guards=some []
theorem Room.mono{k:Nat}(r:Room k A)(h:j<=k):Room j A:=⟨r.hd,by have:=r.dp;lia,by have:=r.un;lia,by first|exact r.gd|simpa[iK,fG,jY,gZ,lg,ku]using r.gd⟩
theorem Room.deeper{k:Nat}(r:Room (k+1) A)(env:Env):Room k (A.deeper env):=
 ⟨r.hd,by have:=r.dp;show A.depth+1+3*k+5<_;lia,by have:=r.un;show A.units+3+16*k+200<_;lia,by first|exact r.gd|simpa[iK,fG,jY,gZ,lg,ku]using r.gd⟩
theorem QJ{C:Addr}:(A.under (.builtin "type.__call__" ⟨.ref C::us,kw⟩)).depth=A.depth+1:=by
 first|rfl|simp[fG,Code.weight,Code.isCreation,gZ,Code.isCaller,mZ,kU,lg]
theorem QI{C:Addr}:(A.under (.builtin "type.__call__" ⟨.ref C::us,kw⟩)).units=A.units+1:=by
 first|rfl|simp[fG,Code.cUnits,mZ,kU]
theorem Room.make{k:Nat}(r:Room (k+1) A)(C:Addr)(us:List ah)(a:List (Str×ah)):Room k (A.under (.builtin "type.__call__" ⟨.ref C::us,a⟩)):=
 ⟨r.hd,by have:=r.dp;rw[QJ];lia,by have:=r.un;rw[QI];lia,by first|exact r.gd|simpa[iK,fG,jY,gZ,lg,ku]using r.gd⟩
theorem Room.depth{k:Nat}(r:Room k A):A.depth<jK:=by have:=r.dp;lia
theorem Room.units0{k:Nat}(r:Room k A):A.units<jE:=by have:=r.un;lia
def tNil:TA:=λ_ H Q=>Q [] H
def CD(a:TE)(b:TA):TA:=λσ H Q=>a σ H λx d=>b σ d λe i=>Q (x::e) i
section
variable{t:TA}{pos:Pos}
theorem AB:PA X [] tNil:=λ_ _ _ _ H Q I h=>fZ ⟨[],H,I, .nil,h⟩
theorem AA(a:PE X e te)(b:PA X es t)(d:aL (e::es) X.env=(false,eval e X.env)::aL es X.env:=by rfl):PA X (e::es) (CD te t):=by
 intro pos pins s σ H Q I h;rw[d];show aH _ _ (mJ ((false,eval e X.env)::dI pos (aL es X.env))) _ _ s;refine fQ (thn (a pins s σ H _ I h) λu i j=>?_);obtain⟨x,o,q,r,y⟩:=j;exact thn (b pos pins i σ o _ q y) λM P ⟨z,B,G,J,L⟩=>⟨x::z,B,G, .cons r J,L⟩
def Nb(t:TA):TE:=λσ H Q=>t σ H λa b=>a.length<=sizeLine/\∀p,b p=none->Q (.ref p) (upd b p (.tup a))
def Ni(t:TA):TE:=λσ H Q=>t σ H λa b=>a.length<=sizeLine/\∀p,b p=none->Q (.ref p) (upd b p (.lst a))
theorem BM{x1}(h:PA X es t):PE X (.Tuple es x1 pos) (Nb t):=by
 intro pins s σ H Q I j;refine wpAny_Tuple_spliced (thn (h pos pins s σ H _ I j) λo a ⟨x,d,i,r,z,q⟩=>⟨by rw[<-r.length];exact z,?_⟩);have y:d a.1.1.size=none:=i.hok.fresh (ao _);refine⟨.ref a.1.1.size,upd d a.1.1.size (.tup x),i.laid (t':=a.toks) (λb u e=>ae _ e) (ao _) ?_,rfl,q _ y⟩;exact⟨z,o,r,⟨_,ap _ rfl,rfl,_,rfl⟩⟩
theorem Aa(h:PA X es t):PE X (.List es pos) (Ni t):=by
 intro pins s σ H Q I j;refine wpAny_List_spliced (thn (h pos pins s σ H _ I j) λo a ⟨x,d,i,r,z,q⟩=>⟨by rw[<-r.length];exact z,?_⟩);have y:d a.1.1.size=none:=i.hok.fresh (ao _);refine⟨.ref a.1.1.size,upd d a.1.1.size (.lst x),i.laid (t':=a.toks) (λb u e=>ae _ e) (ao _) ?_,rfl,q _ y⟩;exact⟨z,o,0,r,ap _ rfl⟩
end
abbrev Sp:=List V->Hp->VK->XK->Prop
abbrev CXT:=List Env->Hp->ak->XK->ah->ak->Prop
end L2
variable{sp:Sp}
namespace L2
variable{f:Addr}{params:Arguments}{CX:CXT}{es:List Expr}{body:List Stmt}{ps:List Str}{r:List V->Hp->VK->Prop}{ds:List ah}{t:TA}{Q:VK}{E:XK}
structure Env0 (P:bK) (w:cX) (K:W.Frag) (mg:Str->Option ah) (base:Heap) (A:eR) (outer:List Env) (s:ak) (H:Hp):Prop where
 frames:A.frames=some outer
 mod:Mod K mg base
 bs:∀b o,base.get? b=some o->s.heap.get? b=some o/\H b=none
 bsz:base.objs.size<=s.1.1.size
 funs:s.heap.FunFrames base outer
 frf:∀b∈frs outer,H b=none
 hok:HOk P w H s.heap
 bare:hV s.gens
def CE(outer:List Env)(P:bK)(w:cX)(H:Hp)(s:ak)(Q:VK)(u:ah)(a:ak):Prop:=
 ∃v b,a.os=s.os/\hV a.gens/\Un (frs outer) [] H b s.heap a.heap/\HOk P w b a.heap/\RelV v u/\Q v b
def CR(CX:CXT)(outer:List Env)(P:bK)(w:cX)(H:Hp)(s:ak)(Q:VK)(E:XK)(r:m5)(a:ak):Prop:=
 match r with
 | .ok (.ret u)=>CE outer P w H s Q u a
 | .ok _=>False
 | .error e=>CX outer H s E e a
structure FnOk (P:bK) (w:cX) (K:W.Frag) (mg:Str->Option ah) (base:Heap) (CX:CXT) (k:Nat) (f:Addr) (fd:jB) (ps:List Str) (sp:Sp):Prop where
 len:∀vs H Q E,sp vs H Q E->vs.length=ps.length
 run:∀ (A:eR) (outer:List Env) (s:ak) (H:Hp) (args:Args) (us:List ah) (vs:List V) (Q:VK) (E:XK),Room k A->Env0 P w K mg base A outer s H->kK s fd args (ps.zip us)->Vals vs us->sp vs H Q E->
  dt (aR P w) A (.call (.ref f) args) (CR CX outer P w H s Q E) s
theorem FnOk.imp{k:Nat}{sp':Sp}(F:FnOk P w K mg base CX k f fd ps sp)
 (h:∀vs H Q E,sp' vs H Q E->sp vs H Q E):FnOk P w K mg base CX k f fd ps sp':=
 ⟨λvs H Q E q=>F.len vs H Q E (h _ _ _ _ q),λA outer s H args a vs Q E b d e i j=>F.run A outer s H args a vs Q E b d e i (h _ _ _ _ j)⟩
theorem Env0.make{s:ak}(e:Env0 P w K mg base A outer s H)(C:Addr)(us:List ah)(a:List (Str×ah)):
 Env0 P w K mg base (A.under (.builtin "type.__call__" ⟨.ref C::us,a⟩)) outer s H:=⟨by first|exact e.frames|(simpa[fG,Code.envs,kU,pushEnvs]using e.frames),e.mod,e.bs,e.bsz,e.funs,e.frf,e.hok,e.bare⟩
section
variable{σ:zQ0}{s s':ak}
theorem Inv.env0(I:Inv X pins σ H s):Env0 X.prog X.w X.K X.mg X.base X.A X.stack s H:=
 ⟨I.ok.frames,I.ok.mod,I.bs,bj I.ok.bsz I.sz,I.stack,I.stkFree,I.hok,I.bare⟩
theorem Inv.after{u:ah}(I:Inv X pins σ H s)(h:CE X.stack X.prog X.w H s Q u s'):EP X pins σ Q u s':=by
 obtain⟨v,e,os,bare,un,hok,r,q⟩:=h;obtain⟨i,g,d,t,a⟩:=s';obtain rfl:a=s.os:=os;exact⟨v,e,I.call (h':=i) (g':=g) (d':=d) (t':=t) (ch:=[]) un hok bare (λb z=>absurd z nC),r,q⟩
end
def Dn(sp:Sp)(a:List V)(E:XK)(t:TA):TE:=λσ H Q=>t σ H λvs b=>sp (vs++a) b Q E
def Ef(C:Addr)(m:Str)(sp:Sp)(b:List V)(E:XK)(e:TE)(t:TA):TE:=λσ H Q=>e σ H λx d=>∃a i fs,x= .ref a/\d a=some (.ins C i fs)/\fs.lookup m=none/\
 t σ d λvs j=>sp (x::(vs++b)) j Q E
def Eg(C:Addr)(sp:Sp)(b:List V)(E:XK)(t:TA):TE:=λσ H Q=>t σ H λvs d=>∀x a,d x=none->d a=none->a≠x->
 sp (.ref x::(vs++b)) (upd (upd d a (.own x)) x (.ins C a [])) (λv e=>v= .non/\Q (.ref x) e) E
def Binds(K:W.Frag)(fd:jB)(b:List Str)(d:List ah):Prop:=
 ∀ (s:ak) (a:List ah),K.In s.heap->(a++d).length=b.length->kK s fd ⟨a,[]⟩ (b.zip (a++d))
theorem Binds.all(h:∀a:List ah,a.length=ps.length->bindArgs fd ⟨a,[]⟩=pure (ps.zip a)):Binds K fd ps []:=λs a _ b=>by
 rw[cG]at b⊢;exact .of_eq (h a b)
def DD(CX:CXT)(X:Cx)(E:XK):Prop:=∀ (pins:List (Addr×Obj)) (σ:zQ0) (H:Hp) (s:ak) (e:ah) (a:ak),Inv X pins σ H s->CX X.stack H s E e a->X.xe e a
section
variable{k:Nat}{dvs:List V}{m:Str}{p pos apos:Pos}{o:Expr}
theorem Hr{σ:zQ0}{s:ak}(F:FnOk X.prog X.w X.K X.mg X.base CX k f fd ps sp)(d:Room k X.A)(i:Binds X.K fd ps ds)(hd:Vals dvs ds)(j:DD CX X E)
 (I:Inv X pins σ H s) (r:Vals vs us) (h:sp (vs++dvs) H Q E):aH (aR X.prog X.w) X.A (call (.ref f) us) (EP X pins σ Q) X.xe s:=by
 have b:Vals (vs++dvs) (us++ds):=r.append hd;have q:(us++ds).length=ps.length:=by rw[<-b.length];exact F.len _ _ _ _ h
 refine fu (dj (F.run X.A X.stack s H ⟨us,[]⟩ (us++ds) (vs++dvs) Q E d I.env0 (i s us I.kIn q) b h) λr y a=>?_)
 cases r with
 |error e=>exact j pins σ H s e y I a
 |ok fl=>
  cases fl with
  |ret u=>exact I.after a
  |next=>exact bz a
  |brk=>exact bz a
  |cont=>exact bz a
theorem UJ(F:FnOk X.prog X.w X.K X.mg X.base CX k f fd ps sp)(i:Room k X.A)(hg:Gl X x)(j:X.mg x=some (.ref f))(hk:W.keepIn X.K (.ref f)=true)(y:Binds X.K fd ps ds)(hd:Vals dvs ds)(z:DD CX X E)
 (B:PA X (e::es) t) (a:(x==("__debug__":Str))=false:=by decide) (G:aL (e::es) X.env=(false,eval e X.env)::aL es X.env:=by rfl) (b:(dI pos (aL es X.env)).any (·.1)=false:=by rfl):
 PE X (.Call (.Name x p) (e::es) [] pos) (Dn sp dvs E t):=by
 intro pins s σ H Q I h;refine ck (C7 I hg j ?_ a);refine W.callWith_K (h₀:=X.base) I.ok.mod.kin hk (thn (B pos pins s σ H _ I h) λJ L ⟨vs,M,d,r,q⟩=>⟨d.kIn,?_⟩) G b;exact Hr F i y hd z d r q
theorem UC(z:PE X o ta)(c:Cls X.K C)(i:Meth X.K C m f)(F:FnOk X.prog X.w X.K X.mg X.base CX k f fd ps sp)(B:Room k X.A)(G:Binds X.K fd ps ds)(hd:Vals dvs ds)(J:DD CX X E)(L:PA X (e::es) t)
 (b:aL (e::es) X.env=(false,eval e X.env)::aL es X.env:=by rfl) (d:(dI pos (aL es X.env)).any (·.1)=false:=by rfl)
 (ht:eval (.Call (.Attribute o m apos) (e::es) [] pos) X.env=(do
   let ov<-eval o X.env
   gb apos.atName
   let(f,first)<-fV [ov] (ie ov m pl)
   li pos f first (dI pos (aL (e::es) X.env)) (iD pos (fk [] X.env))):=by rfl):
 PE X (.Call (.Attribute o m apos) (e::es) [] pos) (Ef C m sp dvs E ta t):=by
 intro pins s σ H Q I h;refine W.methodCall_KW (pl:=pl) (thn (z pins s σ H _ I h) λu M ⟨x,P,j,R,a,U,fs,ex,S,l,q⟩=>?_) ht;subst ex;obtain rfl:u=aj a:=R;refine GG j S c i l ?_;refine W.callWith_K (first:=[.ref a]) (h₀:=X.base) I.ok.mod.kin i.kp (thn (L pos pins M σ P _ j q) λus Y ⟨vs,Z,y,r,T⟩=>⟨y.kIn,?_⟩) b d;exact Hr (us:= .ref a::us) (vs:= .ref a::vs) F B G hd J y (.cons rfl r) T
theorem SG(i:PE X o ta)(c:Cls X.K C)(d:Meth X.K C m f)(F:FnOk X.prog X.w X.K X.mg X.base CX k f fd ps sp)(j:Room k X.A)(r:Binds X.K fd ps ds)(hd:Vals dvs ds)(y:DD CX X E)
 (ht:eval (.Call (.Attribute o m apos) [] [] pos) X.env=(do
   let ov<-eval o X.env
   gb apos.atName
   let(f,first)<-fV [ov] (ie ov m pl)
   li pos f first (dI pos (aL [] X.env)) (iD pos (fk [] X.env))):=by rfl):
 PE X (.Call (.Attribute o m apos) [] [] pos) (Ef C m sp dvs E ta tNil):=by
 intro pins s σ H Q I h;refine W.methodCall_KW (pl:=pl) (thn (i pins s σ H _ I h) λu G ⟨x,J,b,z,a,L,fs,ex,B,l,q⟩=>?_) ht;subst ex;obtain rfl:u=aj a:=z;refine GG b B c d l ?_;exact W.callWith_K0 (first:=[.ref a]) b.kIn d.kp (Hr (us:=[.ref a]) (vs:=[.ref a]) F j r hd y b (.cons rfl .nil) q)
structure Mk (K:W.Frag) (C f:Addr):Prop where
 makes:W.makesIn K C=true
 init:W.findIn K (.ref C) "__init__"=some (some (.ref f))
 fn:W.isFn K (.ref f)=true
 kp:W.keepIn K (.ref C)=true
theorem Kp{σ:zQ0}{s:ak}(M:Mk X.K C f)(F:FnOk X.prog X.w X.K X.mg X.base CX k f fd ps sp)(q:Room (k+1) X.A)(y:Binds X.K fd ps ds)(hd:Vals dvs ds)
 (z:DD CX X E) (I:Inv X pins σ H s) (r:Vals vs us)
 (h:∀x b,H x=none->H b=none->b≠x->sp (.ref x::(vs++dvs)) (upd (upd H b (.own x)) x (.ins C b [])) (λv B=>v= .non/\Q (.ref x) B) E):
 aH (aR X.prog X.w) X.A (call (.ref C) us) (EP X pins σ Q) X.xe s:=by
 have i:=h (s.1.1.size+1) s.1.1.size (I.hok.fresh (gJ _)) (I.hok.fresh (ao _)) (aN (bX _));have d:=Inv.made (C:=C) I;have j:Vals (V.ref (s.1.1.size+1)::(vs++dvs)) (aj (s.1.1.size+1)::(us++ds)):= .cons rfl (r.append hd);have G:(aj (s.1.1.size+1)::us++ds).length=ps.length:=by
  have e:=j.length;rw[F.len _ _ _ _ i]at e;exact e.symm
 refine fu (SW (f:=f) I.kIn M.makes M.init (bE.mp M.fn) (dj (F.run _ X.stack _ _ ⟨aj (s.1.1.size+1)::us,[]⟩ (aj (s.1.1.size+1)::(us++ds)) _ _ E (q.make C us [])
  (d.env0.make C us []) (y _ (aj (s.1.1.size+1)::us) d.kIn G) j i) λr J a=>?_))
 cases r with
 |error e=>exact z pins σ _ _ e J d a
 |ok fl=>
  cases fl with
  |ret u=>
   obtain⟨v,L,P,rv,R,S⟩:=d.after a;subst R;exact⟨rv,⟨V.ref (s.1.1.size+1),L,P,rfl,S⟩⟩
  |next=>exact bz a
  |brk=>exact bz a
  |cont=>exact bz a
theorem UD(M:Mk X.K C f)(F:FnOk X.prog X.w X.K X.mg X.base CX k f fd ps sp)(i:Room (k+1) X.A)(hg:Gl X x)(j:X.mg x=some (.ref C))(y:Binds X.K fd ps ds)(hd:Vals dvs ds)(z:DD CX X E)
 (B:PA X (e::es) t) (a:(x==("__debug__":Str))=false:=by decide) (G:aL (e::es) X.env=(false,eval e X.env)::aL es X.env:=by rfl) (b:(dI pos (aL es X.env)).any (·.1)=false:=by rfl):
 PE X (.Call (.Name x p) (e::es) [] pos) (Eg C sp dvs E t):=by
 intro pins s σ H Q I h;refine ck (C7 I hg j ?_ a);refine W.callWith_K (h₀:=X.base) I.ok.mod.kin M.kp (thn (B pos pins s σ H _ I h) λJ L ⟨vs,P,d,r,q⟩=>⟨d.kIn,?_⟩) G b;exact Kp M F i y hd z d r q
theorem SH(M:Mk X.K C f)(F:FnOk X.prog X.w X.K X.mg X.base CX k f fd ps sp)(b:Room (k+1) X.A)(hg:Gl X x)(d:X.mg x=some (.ref C))(i:Binds X.K fd ps ds)(hd:Vals dvs ds)(j:DD CX X E)
 (a:(x==("__debug__":Str))=false:=by decide):PE X (.Call (.Name x p) [] [] pos) (Eg C sp dvs E tNil):=by
 intro pins s σ H Q I h;refine ck (C7 I hg d ?_ a);exact W.callWith_K0 I.kIn M.kp (Kp (us:=[]) M F b i hd j I .nil h)
end
structure FnScope (N P:List Str) (sc:gu):Prop where
 kind:sc.kind= .function
 co:sc.isCoroutine=false
 gen:sc.isGenerator=false
 nd:N.Nodup
 pre:N.take P.length=P
 par:∀x∈P,sc.names.lookup x=some .local\/sc.names.lookup x=some .cell
 nofree:∀y∈sc.names,y.2≠ .free
theorem KQ:∀ {binds:List (Str×ah)} {m:Str->Option ah},(∀v,(x,v)∉binds)->mO kindOf binds m x=m x
 |[],_,_=>rfl
 |(n,v)::r,m,h=>by
  unfold mO;rw[KQ λw a=>h w (ay _ a)]
  split
  ·have:x≠n:=by rintro rfl;exact h v aA
   simp[this]
  ·rfl
theorem KS:∀ {binds:List (Str×ah)} {m:Str->Option ah},(∀v,(x,v)∉binds)->mP kindOf binds m x=m x
 |[],_,_=>rfl
 |(n,v)::r,m,h=>by
  unfold mP;rw[KS λw a=>h w (ay _ a)]
  split
  ·rfl
  ·have:x≠n:=by rintro rfl;exact h v aA
   simp[this]
theorem KR{v:ah}:∀ {P:List Str} {vs:List ah} {i:Nat} {m:Str->Option ah},P.Nodup->P[i]? =some x->vs[i]? =some v->kindOf x=some .local->
 mO kindOf (P.zip vs) m x=some v
 |[],_,_,_,_,h,_,_=>by simp at h
 |_::_,[],_,_,_,_,h,_=>by simp at h
 |p::P,w::vs,0,m,nd,a,b,hk=>by
  simp at a b;subst a;subst b;show mO kindOf ((p,w)::P.zip vs) m p=_;unfold mO;rw[KQ λv d=>(fL.mp nd).1 (gK d).1,aO hk];simp
 |p::P,w::vs,i+1,m,nd,a,b,hk=>by
  show mO kindOf ((p,w)::P.zip vs) m x=_;unfold mO;exact KR (i:=i) (fL.mp nd).2 (by simpa using a) (by simpa using b) hk
theorem KU{v:ah}:∀ {P:List Str} {vs:List ah} {i:Nat} {m:Str->Option ah},P.Nodup->P[i]? =some x->vs[i]? =some v->kindOf x≠some .local->
 mP kindOf (P.zip vs) m x=some v
 |[],_,_,_,_,h,_,_=>by simp at h
 |_::_,[],_,_,_,_,h,_=>by simp at h
 |p::P,w::vs,0,m,nd,a,b,hk=>by
  simp at a b;subst a;subst b;show mP kindOf ((p,w)::P.zip vs) m p=_;unfold mP;rw[KS λv d=>(fL.mp nd).1 (gK d).1,aB hk];simp
 |p::P,w::vs,i+1,m,nd,a,b,hk=>by
  show mP kindOf ((p,w)::P.zip vs) m x=_;unfold mP;exact KU (i:=i) (fL.mp nd).2 (by simpa using a) (by simpa using b) hk
def start(N:List Str)(vs:List V):zQ0:=vs.map some++aS (N.length-vs.length) none
def CZ(CX:CXT)(P:bK)(w:cX)(K:W.Frag)(mg:Str->Option ah)(base:Heap)(N:List Str)(qual:Str)(scope:gu)(f:Addr)(b:ah)(A:eR)(outer:List Env)(s:ak)(H:Hp)(E:XK):Cx where
 prog:=P
 w:=w
 K:=K
 mg:=mg
 base:=base
 A:=A.deeper (ig qual scope s.1.1.size f b)
 N:=N
 s₀:=s
 H₀:=H
 env:=ig qual scope s.1.1.size f b
 outer:=outer
 stack:=ig qual scope s.1.1.size f b::outer
 ex:=[]
 calm:=true
 fn:=λ_=>true
 pn:=[]
 xe:=λe d=>aH (aR P w) (A.deeper (ig qual scope s.1.1.size f b)) (leaving (ig qual scope s.1.1.size f b) e) (λ_ a=>CX outer H s E e a) (λi a=>CX outer H s E i a) d
theorem LH{sc:gu}(h:sc.names.lookup x=some .cell):∃c,(dH n sc.names []).lookup x=some c:=by
 have q:=W.cellsFrom_some sc.names n [] (.inl h);exact il.mp q
theorem KB{N:List Str}{cd:ah}{s s1:ak}
 (S:FnScope N ps scope) (hd:A.handled=none) (j:Env0 P w K mg base A outer s H) (Q:vs.length=ps.length) (r:Vals vs us)
 (x:InCallC s s.1.1.size (mO (ig qual scope s.1.1.size f cd).kindOf (ps.zip us) λ_=>none) (dH (s.1.1.size+1) scope.names []) (mP (ig qual scope s.1.1.size f cd).kindOf (ps.zip us) λ_=>none) s1):
 Inv (CZ CX P w K mg base N qual scope f cd A outer s H E) [] (start N vs) H s1:=by
 have L:ps.length<=N.length:=by have:=cx fq S.pre;rw[cc]at this;lia
 obtain⟨I,R,rfl,hk⟩:=x.done;have o:∀b:Addr,b∉(CZ CX P w K mg base N qual scope f cd A outer s H E).ex:=λb z=>absurd (show b∈([]:List Addr)from z) nC;refine⟨⟨j.mod,S.kind,rfl,rfl,ao _,λy z c I d=>?_,λy hy=>?_,λy c _ h=>?_,λ_=>hd,jI j.frames, .inr ⟨rfl,rfl⟩,λb z=>absurd z (o b),j.bs,j.bsz,λb _ _=>o b,λb z=>absurd z (o b),j.funs,j.frf⟩,
  rfl,j.bare,Un.kept hk,⟨_,x.toInCall.ns,λi y v I d T=>?_⟩,λy c h=>⟨_,x.cell y c h⟩,j.hok.fresh (ao _),λy c h=>?_,λp B=>absurd (show p∈([]:List (Addr×Obj))from B) nC,j.hok.kept hk,?_⟩
 ·exact name_of_addr x.apart (bC I) (bC d)
 ·have hy:scope.names.lookup y=some .cell\/scope.names.lookup y=some .free:=hy;rcases hy with hy|hy
  ·exact LH hy
  ·exact absurd rfl (S.nofree _ (bC hy))
 ·exact b9 (x.above y c (bC h))
 ·have hi:i<vs.length:=by
   unfold start at d
   by_cases hi:i<vs.length
   ·exact hi
   ·rw[cB (by simpa using hi)]at d;rw[iH]at d
    split at d<;>cases d
  have M:vs[i]? =some v:=by
   unfold start at d;rw[da (by simpa using hi),am]at d
   cases e:vs[i]? with
   |none=>rw[e]at d;cases d
   |some a=>rw[e]at d;cases d;rfl
  obtain⟨u,J,rv⟩:=r.get M;have B:ps[i]? =some y:=by
   rw[<-S.pre,List.getElem?_take_of_lt nA];exact I
  have G:ps.Nodup:=by rw[<-S.pre];exact S.nd.sublist (ip _ _)
  refine⟨u,rv,?_⟩;rcases S.par y (bV B)with k|k
  ·exact .inl ⟨k,KR G B J k⟩
  ·obtain⟨c,e⟩:=LH (n:=s.1.1.size+1) k;refine .inr ⟨.inl k,c,e,?_⟩;have q:=x.cell y c e;rw[KU G B J (by show scope.names.lookup y≠_;rw[k];decide)]at q;exact q
 ·exact j.hok.fresh (b9 (x.above y c (bC h)))
 ·unfold start;show _=N.length;rw[aG,ax,db];lia
theorem NT{k:Nat}{name:Str}{dV kV doc pm cdv ct oc:ah}{an od:Option Addr}
 {osl:Array (Option ah)} {N ps:List Str} {sp:Sp} (R:K.lookup f=some ⟨oc,od, .func (W.fnOf name qual params body scope dV kV doc pm an cdv ct),osl⟩) (G:W.codeIn K cdv qual=true) (S:FnScope N ps scope)
 (len:∀vs H Q E,sp vs H Q E->vs.length=ps.length)
 (d:∀ (A:eR) (outer:List Env) (s:ak) (H:Hp) (vs:List V) (Q:VK) (E:XK),Room k (A.deeper (ig qual scope s.1.1.size f cdv))->sp vs H Q E->
   ∃t,PSs (CZ CX P w K mg base N qual scope f cdv A outer s H E) body t/\t {nx:=λ_ a=>Q .non a,rt:=Q} (start N vs) H):
 FnOk P w K mg base CX (k+1) f (W.fnOf name qual params body scope dV kV doc pm an cdv ct) ps sp:=by
 refine⟨len,λA outer s H args T vs Q E L z U r B=>?_⟩;have X:=len _ _ _ _ B;have KX:K.In s.heap:=z.mod.kin.keeps λb o e=>(z.bs b o e).1;have M:s.heap.NoLimit:=z.mod.nolimit.keeps λb o e=>(z.bs b o e).1;have i:∀y∈ps.zip T,scope.names.lookup y.1=some .local\/(scope.names.lookup y.1=some .cell/\((dH (s.1.1.size+1) scope.names []).lookup y.1).isSome=true):=λ⟨n,v⟩ Y=>by
  rcases S.par n (gK Y).1 with q|q
  ·exact .inl q
  ·exact .inr ⟨q,W.cellsFrom_some _ _ _ (.inl q)⟩
 refine jb L.depth (KX _ _ R) rfl S.co S.gen rfl (W.codeRec_of KX G) (U _ _ _ _ ?_);refine gP S.kind i λenv Z s1 x=>?_;subst Z;refine⟨M.keeps x.toInCall.keep,codeAny_func ?_⟩;obtain⟨t,ht,hq⟩:=d A outer s H vs Q E (L.deeper _) B;have I:Inv (CZ CX P w K mg base N qual scope f cdv A outer s H E) [] (start N vs) H s1:=KB S L.hd z X r x;refine aZ (ht [] s1 (start N vs) H _ I hq) (λfl s' j=>?_) λe s' j=>j;have fin:∀ {σ':zQ0} {a:Hp} {v:V} {u:ah},Inv (CZ CX P w K mg base N qual scope f cdv A outer s H E) [] σ' a s'->RelV v u->Q v a->CE outer P w H s Q u s':=
  fun{σ' a v u} J rv q=>⟨v,a,J.os,J.bare,J.base,J.hok,rv,q⟩
 cases fl with
 |ret u=>
  obtain⟨v,σ',a,J,rv,q⟩:=j;exact fin J rv q
 |next=>
  obtain⟨σ',a,J,q⟩:=j;exact fin (v:=V.non) (u:=dc) J rfl q
 |brk=>
  obtain⟨_,_,_,q⟩:=j;exact bz q
 |cont=>
  obtain⟨_,_,_,q⟩:=j;exact bz q
section
variable{p pos:Pos}{id T:String}
def tCB(r:List V->Hp->VK->Prop)(t:TA):TE:=λσ H Q=>t σ H λvs a=>r vs a Q
theorem Aj(d:CallR X (.builtin id) r)(hg:Gl X x)(i:X.mg x=none)(j:eJ x=some (.builtin id))(o:PA X (e::es) t)(q:x≠"__name__":=by decide)(a:(x==("__debug__":Str))=false:=by decide)
 (y:aL (e::es) X.env=(false,eval e X.env)::aL es X.env:=by rfl) (b:(dI pos (aL es X.env)).any (·.1)=false:=by rfl):PE X (.Call (.Name x p) (e::es) [] pos) (tCB r t):=by
 intro pins s σ H Q I h;refine ck (CP I hg i j ?_ q a);exact f8 (thn (o pos pins s σ H _ I h) λz B ⟨vs,G,J,L,M⟩=>d pins B σ G vs z Q J L M) y b
theorem A5(d:CallR X (.type T) r)(hg:Gl X x)(i:X.mg x=none)(j:eJ x=some (.type T))(o:PA X (e::es) t)(q:x≠"__name__":=by decide)(a:(x==("__debug__":Str))=false:=by decide)
 (y:aL (e::es) X.env=(false,eval e X.env)::aL es X.env:=by rfl) (b:(dI pos (aL es X.env)).any (·.1)=false:=by rfl):PE X (.Call (.Name x p) (e::es) [] pos) (tCB r t):=by
 intro pins s σ H Q I h;refine ck (CP I hg i j ?_ q a);exact bY (thn (o pos pins s σ H _ I h) λz B ⟨vs,G,J,L,M⟩=>d pins B σ G vs z Q J L M) y b
end
end L2
open L2
namespace HT
section
variable{s:ak}
def sIx(n d:Nat):Option Int->Nat
 |none=>d
 |some v=>if v<0 then(v+(n:Int)).toNat else min v.toNat n
theorem sIx_none(n d:Nat):sIx n d none=d:=rfl
theorem sIx_nat(n d k:Nat):sIx n d (some (k:Int))=min k n:=by
 show(if(k:Int)<0 then((k:Int)+(n:Int)).toNat else min (k:Int).toNat n)=min k n;rw[aB nA,d0]
theorem sIx_le(n d:Nat)(hd:d<=n)(o:Option Int):sIx n d o<=n:=by
 cases o with
 |none=>exact hd
 |some v=>
  show(if v<0 then(v+(n:Int)).toNat else min v.toNat n)<=n
  by_cases a:v<0
  ·rw[aO a];lia
  ·rw[aB a];exact Nat.min_le_right _ _
end
end HT
open HT
namespace L2
variable{f:Array ah->Array ah}{i:Int}{es:List Expr}{ys:List V}{its its':List ah}{x:V}{r:V->Option Int->Option Int->Hp->VK->Prop}
abbrev TO:=zQ0->Hp->(Option Int->Hp->Prop)->Prop
def PO(X:Cx)(e:Option Expr)(t:TO):Prop:=
 ∀ (pins:List (Addr×Obj)) (s:ak) (σ:zQ0) (H:Hp) (Q:Option Int->Hp->Prop),Inv X pins σ H s->t σ H Q->
   aH (aR X.prog X.w) X.A (evalPart e X.env) (λu b=>∃o a,Inv X pins σ a b/\IsPart u o/\Q o a) X.xe s
def tNoPart:TO:=λ_ H Q=>Q none H
def IE(t:TE):TO:=λσ H Q=>t σ H λx a=>∃i,x= .int i/\Q (some i) a
theorem Jh:∀ {a:List ah},Vals (ns.map V.int) a->hU a ns:=by
 induction ns with
 |nil=>intro a r;rw[fC]at r;cases r;exact .nil
 |cons n ns b=>
  intro a r;rw[aW]at r
  cases r with
  |cons d i=>
   obtain⟨t,e⟩:=d;subst e;exact .cons n t (b i)
section
variable{lo hi:Option Expr}{tl th:TO}{pos p2:Pos}
theorem Az:PO X none tNoPart:=by
 intro pins s σ H Q I h;rw[j6];exact ag ⟨none,H,I, .none,h⟩
theorem Ay(h:PE X e te):PO X (some e) (IE te):=by
 intro pins s σ H Q I a;rw[evalPart_some];refine thn (h pins s σ H _ I a) λu y b=>?_;obtain⟨x,d,j,o,r⟩:=b;obtain⟨i,rfl,q⟩:=r;obtain⟨t,rfl⟩:=o;exact⟨some i,d,j, .int i t,q⟩
def SlR(X:Cx)(r:V->Option Int->Option Int->Hp->VK->Prop):Prop:=
 ∀ (pins:List (Addr×Obj)) (s:ak) (σ:zQ0) (H:Hp) (x:V) (v a b:ah) (lo hi:Option Int) (d:Addr) (Q:VK),Inv X pins σ H s->RelV x v->s.heap.IsSliceOf d a b .none->IsPart a lo->IsPart b hi->r x lo hi H Q->
   ∃T id,typeLookup (.type T) "__getitem__"=pure (some (.builtin id))/\s.TypeIs v T/\aH (aR X.prog X.w) X.A (kx v (.ref d)) (EP X pins σ Q) X.xe s
theorem SlR.or{r':V->Option Int->Option Int->Hp->VK->Prop}(h:SlR X r)(h':SlR X r'):SlR X (λx lo hi H Q=>r x lo hi H Q\/r' x lo hi H Q):=by
 intro pins s σ H x v a b lo hi d Q I i j o y q;rcases q with q|q
 ·exact h pins s σ H x v a b lo hi d Q I i j o y q
 ·exact h' pins s σ H x v a b lo hi d Q I i j o y q
def tSl(r:V->Option Int->Option Int->Hp->VK->Prop)(te:TE)(tl th:TO):TE:=λσ H Q=>te σ H λx a=>tl σ a λl b=>th σ b λu d=>r x l u d Q
theorem Aw(y:SlR X r)(z:PE X e te)(B:PO X lo tl)(G:PO X hi th):PE X (.Subscript e (.Slice lo hi none p2) pos) (tSl r te tl th):=by
 intro pins s σ H Q I h;refine kB (thn (z pins s σ H _ I h) λv J j=>?_);obtain⟨x,L,M,P,R⟩:=j;refine wpAny_Slice (thn (B pins J σ L _ M R) λd S ⟨l,U,Y,Z,q2⟩=>thn (G pins S σ U _ Y q2) λi a j=>?_);obtain⟨u,o,I3,pu,q3⟩:=j;rw[j6];refine ag ?_;have I4:Inv X pins σ o {a with heap:=a.heap.push {cls:= .type "slice",data:= .fields #[d,i, .none]}}:=I3.kept (t':=a.toks) λb ob q=>ae _ q;obtain⟨T,id,hT,ht,hg⟩:=y pins {a with heap:=a.heap.push {cls:= .type "slice",data:= .fields #[d,i, .none]}} σ o x v d i l u a.1.1.size Q I4 P (km ..) Z pu q3;show aH (aR X.prog X.w) X.A (iy e (.Slice lo hi none p2) v (.ref a.1.1.size)) (EP X pins σ Q) X.xe {a with heap:=a.heap.push {cls:= .type "slice",data:= .fields #[d,i, .none]}};exact tail_any (ops:=[.ref a.1.1.size,v]) ht hT hg nE
def Cw(xs:List V)(lo hi:Option Int):List V:=(xs.drop (HT.sIx xs.length 0 lo)).take (HT.sIx xs.length xs.length hi-HT.sIx xs.length 0 lo)
theorem Pg(xs:List V)(lo hi:Option Int):(Cw xs lo hi).length<=xs.length:=by
 unfold Cw;rw[cc,iQ];lia
end
def ixN(n:Nat)(i:Int):Option Nat:=if 0<=i then(if i<n then some i.toNat else none)else if -(n:Int)<=i then some (i+n).toNat else none
def atI{α:Type}(xs:List α)(i:Int):Option α:=(ixN xs.length i).bind λj=>xs[j]?
theorem L5(h:ixN n i=some j):seqIndex? i n=some j/\j<n/\ -(n:Int)<=i/\i<n:=by
 unfold ixN at h
 by_cases h0:0<=i
 ·rw[aO h0]at h
  by_cases a:i<n
  ·rw[aO a]at h;have e:i.toNat=j:=bi h;exact⟨by rw[lz h0 a,e],by lia,by lia,a⟩
  ·rw[aB a]at h;cases h
 ·rw[aB h0]at h
  by_cases a: -(n:Int)<=i
  ·rw[aO a]at h;have e:(i+n).toNat=j:=bi h;exact⟨by rw[seqIndex_neg nA a,e],by lia,a,by lia⟩
  ·rw[aB a]at h;cases h
theorem Hg{xs:List α}{v:α}(h:atI xs i=some v):∃j,seqIndex? i xs.length=some j/\xs[j]? =some v/\j<xs.length/\ -(xs.length:Int)<=i/\i<xs.length:=by
 unfold atI at h
 cases e:ixN xs.length i with
 |none=>rw[e]at h;cases h
 |some j=>
  rw[e]at h;obtain⟨a,b,d,o⟩:=L5 e;exact⟨j,a,h,b,d,o⟩
theorem AT{xs:List α}{v:α}(h:xs[j]? =some v):atI xs (j:Int)=some v:=by
 have a:j<xs.length:=(az.mp h).1;have e:ixN xs.length (j:Int)=some j:=by
  unfold ixN;rw[aO nA,aO nA];simp
 unfold atI;rw[e];exact h
theorem LK(xs:List α)(v:α):atI (xs++[v]) (-1)=some v:=by
 have a:(xs++[v]).length=xs.length+1:=by simp
 have e:ixN (xs++[v]).length (-1)=some xs.length:=by
  unfold ixN;rw[a,aB nv,aO nA];congr 1;lia
 unfold atI;rw[e];show(xs++[v])[xs.length]? =some v;simp
def MN(b:Expr):Prop:=∀o i,jO b false o i=operate [o,i] (kx o i)
def IxR(X:Cx)(r:R2):Prop:=
 ∀ (value slice:Expr) (pins:List (Addr×Obj)) (s:ak) (σ:zQ0) (H:Hp) (x y:V) (v u:ah) (Q:VK),Inv X pins σ H s->RelV x v->RelV y u->r x y H Q->
   jO slice false v u=operate [v,u] (kx v u)->aH (aR X.prog X.w) X.A (iy value slice v u) (EP X pins σ Q) X.xe s
def MtR(X:Cx)(id:String)(r:V->List V->Hp->VK->Prop):Prop:=
 ∀ (pins:List (Addr×Obj)) (s:ak) (σ:zQ0) (H:Hp) (x:V) (a:List V) (v:ah) (b:List ah) (Q:VK),Inv X pins σ H s->RelV x v->Vals a b->r x a H Q->
   aH (aR X.prog X.w) X.A (call (.builtin id) (v::b)) (EP X pins σ Q) X.xe s
section
variable{a b:Expr}{tb:TE}{pos:Pos}
theorem IxR.or{r r':R2}(h:IxR X r)(h':IxR X r'):IxR X (λx y H Q=>r x y H Q\/r' x y H Q):=by
 intro value slice pins s σ H x y v u Q I d e q i;rcases q with q|q
 ·exact h value slice pins s σ H x y v u Q I d e q i
 ·exact h' value slice pins s σ H x y v u Q I d e q i
theorem XI{r:R2}(d:IxR X r)(e:PE X a ta)(i:PE X b tb)(j:MN b):PE X (.Subscript a b pos) (tOp r ta tb):=by
 intro pins s σ H Q I h;exact kB (Il e i I h λv u o x y z B G J q=>d a b pins o σ z x y v u Q B G J q (j _ _))
def Nv(K:W.Frag):R2:=λx y H Q=>∃p d i v,x= .ref p/\y= .int i/\SqL K H p d/\atI d i=some v/\Q v H
def Nu(K:W.Frag):R2:=λx y H Q=>∃p d i v,x= .ref p/\y= .int i/\SqT K H p d/\atI d i=some v/\Q v H
def rIxS:R2:=λx y H Q=>∃z i c,x= .str z/\y= .int i/\z.length<=sizeLine/\atI z.cps.toList i=some c/\Q (.str ⟨#[c]⟩) H
theorem ix_list:IxR X (Nv X.K):=by
 intro value slice pins s σ H x y v u Q I M P h J;obtain⟨p,xs,i,z,rfl,rfl,R,S,q⟩:=h
 cases M
 obtain⟨t,rfl⟩:=P;obtain⟨e,r,o,hz⟩:=I.list R;obtain⟨j,d,T,h3,U,Y⟩:=Hg S;obtain⟨w,L,B⟩:=r.get T;have Z:=r.length;have hn:=DB;have fin:EP X pins σ Q w s:=⟨z,H,I,B,q⟩
 by_cases h0:0<=i
 ·have G:i.toNat=j:=by
   rw[lz h0 Y]at d;exact bi d
  exact item_listR o.isList h0 nA (by rw[G];simpa using L) fin J
 ·have G:(i+(e.toArray.size:Int)).toNat=j:=by
   rw[seqIndex_neg nA U]at d;rw[av,<-Z];exact bi d
  exact iV (x:=w) o.isList.typeIs ia.lookup
   (wpAny_getItem_list_neg (Q:=λr s'=>r=w/\EP X pins σ Q r s') o.isList nA (by rw[av]<;>lia) nA (by rw[G];simpa using L) ⟨rfl,fin⟩) J
theorem WF:IxR X (Nu X.K):=by
 intro value slice pins s σ H x y v u Q I o B h G;obtain⟨p,Y,i,z,rfl,rfl,J,L,q⟩:=h
 cases o
 obtain⟨t,rfl⟩:=B;obtain⟨M,r,e,Z⟩:=I.tuple J;obtain⟨j,P,R,h3,h4,h5⟩:=Hg L;obtain⟨w,S,d⟩:=r.get R;have T:=r.length;have hn:=DB;have fin:EP X pins σ Q w s:=⟨z,H,I,d,q⟩;exact iV (x:=w) e.typeIs slot_tuple_getitem.lookup
  (getItem_tuple (j:=j) (Q:=λr U=>r=w/\EP X pins σ Q r U) e nA nA (by rw[av,<-T];exact P) (by simpa using S) ⟨rfl,fin⟩) G
theorem WG:IxR X rIxS:=by
 intro value slice pins s σ H x y v u Q I e o h r;obtain⟨z,i,c,rfl,rfl,S,B,q⟩:=h;obtain⟨t,rfl⟩:=e;obtain⟨T,rfl⟩:=o;obtain⟨j,d,G,U,J,L⟩:=Hg B;have M:z.cps.toList.length=z.length:=by simp[Str.length]
 rw[M]at d J L;have Y:=DB;exact tail_any (eV s z t) slot_str_getitem.lookup (getItem_str (c:=c) (by
  have P:decide (i< -(2^63:Int))=false:=aX nA;have R:decide (i>=2^63)=false:=aX nA;rw[P,R,mn]) (by rw[d];simpa using G) ⟨.str ⟨#[c]⟩,H,I.tok _,⟨_,rfl⟩,q⟩) r
theorem QH(its:List ah)(n j:Nat)(u:ah):fy (·.setIfInBounds j u) {cls:= .type "list",data:= .seq its.toArray n}={cls:= .type "list",data:= .seq (its.set j u).toArray n}:=by
 simp[fy]
theorem Inv.lst{σ:zQ0}{s:ak}(I:Inv X pins σ H s)(h:H p=some (.lst xs)):
 ∃ (d:List ah) (n:Nat),Vals xs d/\s.heap.get? p=some {cls:= .type "list",data:= .seq d.toArray n}/\xs.length<=sizeLine:=by
 obtain⟨z,d,n,r,e⟩:=I.hok p _ h;exact⟨d,n,r,e,z⟩
theorem Inv.lstUpd{σ:zQ0}{s:ak}{n':Nat}{f:Obj->Obj}(I:Inv X pins σ H s)(h:H p=some (.lst xs))
 (i:s.heap.get? p=some {cls:= .type "list",data:= .seq its.toArray n}) (d:f {cls:= .type "list",data:= .seq its.toArray n}={cls:= .type "list",data:= .seq its'.toArray n'}) (r:Vals ys its') (j:ys.length<=sizeLine) (t:Nat):
 Inv X pins σ (upd H p (.lst ys)) {s with heap:=s.heap.update p f,toks:=t}:=by
 have e:(s.heap.update p f).get? p=some {cls:= .type "list",data:= .seq its'.toArray n'}:=by
  rw[bN f i (by rw[d]<;>rfl),d]
 refine I.write (x:=p) (e:=p) (by rw[h];trivial) (.inl rfl) (λb u o q=>(bD _ _ (cI o)).trans q) ⟨_,e⟩ ?_;exact⟨j,its',n',r,e⟩
def rSetL:V->V->V->Hp->(Hp->Prop)->Prop:=λo i v H Q=>∃p d k j,o= .ref p/\i= .int k/\H p=some (.lst d)/\ixN d.length k=some j/\Q (upd H p (.lst (d.set j v)))
theorem BW:Io X rSetL:=by
 intro pins s σ H o i v T U u Q I L M rv h;obtain⟨p,P,k,j,rfl,rfl,z,R,q⟩:=h
 cases L
 obtain⟨t,rfl⟩:=M;obtain⟨d,n,r,x,S⟩:=I.lst z;obtain⟨e,Y,B,G⟩:=L5 R;have y:=r.length;have Z:=DB;have J:Inv X pins σ (upd H p (.lst (P.set j v))) {s with heap:=s.heap.update p (fy (·.setIfInBounds j u))}:=
  I.lstUpd z x (QH d n j u) (r.set rv j) (by rw[jj];exact S) s.toks
 by_cases h0:0<=k
 ·have hk:k.toNat=j:=by
   rw[lz h0 G]at e;exact bi e
  exact W.ki_setAt x h0 nA (by rw[av,<-y];exact G) (by rw[hk];exact⟨_,J,q⟩)
 ·have hk:(k+(d.toArray.size:Int)).toNat=j:=by
   rw[seqIndex_neg nA B]at e;rw[av,<-y];exact bi e
  exact W.ki_setBack x nA (by rw[av,<-y];exact B) nA (by rw[hk];exact⟨_,J,q⟩)
theorem Os(lo hi:Option Int)(n:Nat):(fj lo hi none n).1=((HT.sIx n 0 lo:Nat):Int)/\(fj lo hi none n).2.1=((HT.sIx n n hi:Nat):Int)/\(fj lo hi none n).2.2=1:=by
 refine⟨?_,?_,rfl⟩
 ·cases lo with
  |none=>simp[fj,HT.sIx]
  |some i=>
   simp only[fj,HT.sIx,iN,show(1:Int)>0 by decide,fJ]
   by_cases h:i<0
   ·simp only[h,fJ]<;>lia
   ·simp only[h,f5]<;>lia
 ·cases hi with
  |none=>simp[fj,HT.sIx]
  |some i=>
   simp only[fj,HT.sIx,iN,show(1:Int)>0 by decide,fJ]
   by_cases h:i<0
   ·simp only[h,fJ]<;>lia
   ·simp only[h,f5]<;>lia
theorem Oj(its:List ah)(lo hi:Option Int):lv its.toArray lo hi none=((its.drop (HT.sIx its.length 0 lo)).take (HT.sIx its.length its.length hi-HT.sIx its.length 0 lo)).toArray:=by
 obtain⟨d,e,i⟩:=Os lo hi its.toArray.size;unfold lv;rw[d,e,i];simp only[sliceRange_one,pick_run,av]<;>rfl
def Nt(K:W.Frag):V->Option Int->Option Int->Hp->VK->Prop:=λx lo hi H Q=>∃a d,x= .ref a/\SqL K H a d/\∀p,H p=none->Q (.ref p) (upd H p (.lst (Cw d lo hi)))
theorem TC:SlR X (Nt X.K):=by
 intro pins s σ H x v L M lo hi P Q I i j y z h;obtain⟨a,d,rfl,B,q⟩:=h
 cases i
 obtain⟨G,r,ht,J⟩:=I.list B;have e:=r.length;refine⟨"list",_,ia.lookup,ht.isList.typeIs,?_⟩;refine hX ht.isList j y z .none nC ?_ (by rw[av]<;>lia);rw[Oj,<-e];refine⟨.ref s.1.1.size,_,I.laid (t':=s.toks) (o:= .lst (Cw d lo hi)) (λb ob q=>ae _ q) (ao _) ?_,rfl,q _ (I.hok.fresh (ao _))⟩;exact⟨bj (Pg d lo hi) J,_,0,(r.drop (HT.sIx d.length 0 lo)).take (HT.sIx d.length d.length hi-HT.sIx d.length 0 lo),ap _ rfl⟩
def A4:V->Bool
 | .non=>true
 | .bl _=>true
 | .int _=>true
 | .str _=>true
 |_=>false
def eqV:V->V->Bool
 | .non, .non=>true
 | .bl a, .bl b=>a==b
 | .bl a, .int b=>(if a then 1 else 0)==b
 | .int a, .bl b=>a==(if b then 1 else 0)
 | .int a, .int b=>a==b
 | .str a, .str b=>a==b
 |_,_=>false
theorem Mx{s:ak}{y:V}{u v:ah}(i:RelV y u)(d:RelV x v)(o:A4 y=true)(j:A4 x=true):lY A s u v (eqV y x):=by
 cases y with
 |non=>
  cases i
  cases x with
  |non=>cases d;exact SeqAt.EqAt.same _
  |bl b=>cases d;exact SeqAt.EqAt.none_bool b
  |int b=>obtain⟨t,rfl⟩:=d;exact SeqAt.EqAt.none_int b t
  |str b=>obtain⟨t,rfl⟩:=d;exact SeqAt.EqAt.none_str b t
  |_=>exact absurd (show false=true from j) aq
 |bl a=>
  cases i
  cases x with
  |non=>cases d;exact SeqAt.EqAt.bool_none a
  |bl b=>cases d;exact SeqAt.EqAt.bool_bool a b
  |int b=>obtain⟨t,rfl⟩:=d;exact SeqAt.EqAt.bool_int a b t
  |str b=>obtain⟨t,rfl⟩:=d;exact SeqAt.EqAt.bool_str a b t
  |_=>exact absurd (show false=true from j) aq
 |int a=>
  obtain⟨e,rfl⟩:=i
  cases x with
  |non=>cases d;exact SeqAt.EqAt.int_none a e
  |bl b=>cases d;exact SeqAt.EqAt.int_bool a e b
  |int b=>obtain⟨t,rfl⟩:=d;exact SeqAt.EqAt.int_int a e b t
  |str b=>obtain⟨t,rfl⟩:=d;exact kd a e b t
  |_=>exact absurd (show false=true from j) aq
 |str a=>
  obtain⟨e,rfl⟩:=i
  cases x with
  |non=>cases d;exact SeqAt.EqAt.str_none a e
  |bl b=>cases d;exact SeqAt.EqAt.str_bool a e b
  |int b=>obtain⟨t,rfl⟩:=d;exact kc a e b t
  |str b=>obtain⟨t,rfl⟩:=d;exact SeqAt.EqAt.str_str a e b t
  |_=>exact absurd (show false=true from j) aq
 |_=>exact absurd (show false=true from o) aq
def eqU(x:V)(u:ah):Bool:=match u with
 | .none=>eqV .non x
 | .bool b=>eqV (.bl b) x
 | .int i _=>eqV (.int i) x
 | .str z _=>eqV (.str z) x
 |_=>false
theorem Mw{y:V}{u:ah}(r:RelV y u)(f:A4 y=true):eqU x u=eqV y x:=by
 cases y with
 |non=>cases r;rfl
 |bl b=>cases r;rfl
 |int i=>obtain⟨t,rfl⟩:=r;rfl
 |str z=>obtain⟨t,rfl⟩:=r;rfl
 |_=>exact absurd (show false=true from f) aq
theorem EQ:∀ {d:List V} {us:List ah},Vals d us->d.all A4=true->us.any (eqU x)=d.any λy=>eqV y x
 |_,_, .nil,_=>rfl
 |y::d,u::us, .cons r t,f=>by
  rw[fO,aQ]at f;rw[dh,dh,Mw r f.1,EQ t f.2]
theorem EC{s:ak}{v:ah}(i:RelV x v)(j:A4 x=true):∀ {d:List V} {e:List ah},Vals d e->d.all A4=true->∀u∈e,lY A s u v (eqU x u)
 |_,_, .nil,_=>λu hu=>by cases hu
 |y::d,u::e, .cons r t,f=>λo hu=>by
  rw[fO,aQ]at f;rcases aJ.mp hu with rfl|hu
  ·rw[Mw r f.1];exact Mx r i f.1 j
  ·exact EC i j t f.2 o hu
def inV(x:V)(xs:List V):Bool:=xs.any λy=>eqV y x
def rIn(K:W.Frag)(e:Bool):R2:=λx y H Q=>∃p d,y= .ref p/\(SqL K H p d\/SqT K H p d)/\A4 x=true/\d.all A4=true/\Q (.bl (if e then !inV x d else inV x d)) H
theorem Qq:OpR X (bt .In) (rIn X.K false):=by
 intro pins s σ H x y v u Q I j z h;obtain⟨p,G,rfl,hq,o,fs,q⟩:=h
 cases z
 rcases hq with hq|hq
 ·obtain⟨d,r,e,B⟩:=I.list hq;refine SeqAt.in_listAt (eqU x) e.isList (λw i=>EC j o r fs w (by simpa using i)) ⟨.bl _,H,I,rfl,?_⟩;rw[show d.toArray.any (eqU x)=d.any (eqU x) by simp,EQ r fs];exact q
 ·obtain⟨d,r,e,B⟩:=I.tuple hq;refine SeqAt.in_tupleAt (eqU x) e (λw i=>EC j o r fs w (by simpa using i)) ⟨.bl _,H,I,rfl,?_⟩;rw[show d.toArray.any (eqU x)=d.any (eqU x) by simp,EQ r fs];exact q
theorem Ou:OpR X (bt .NotIn) (rIn X.K true):=by
 intro pins s σ H x y v u Q I j z h;obtain⟨p,G,rfl,hq,o,fs,q⟩:=h
 cases z
 rcases hq with hq|hq
 ·obtain⟨d,r,e,B⟩:=I.list hq;refine SeqAt.notIn_listAt (eqU x) e.isList (λw i=>EC j o r fs w (by simpa using i)) ⟨.bl _,H,I,rfl,?_⟩;rw[show d.toArray.any (eqU x)=d.any (eqU x) by simp,EQ r fs];exact q
 ·obtain⟨d,r,e,B⟩:=I.tuple hq;refine SeqAt.notIn_tupleAt (eqU x) e (λw i=>EC j o r fs w (by simpa using i)) ⟨.bl _,H,I,rfl,?_⟩;rw[show d.toArray.any (eqU x)=d.any (eqU x) by simp,EQ r fs];exact q
theorem O2:CallR X (.builtin "len") (λx H Q=>∃p e,x=[.ref p]/\(SqL X.K H p e\/SqT X.K H p e)/\Q (.int e.length) H):=by
 intro pins s σ H x B Q I r h;obtain⟨p,e,rfl,hq,q⟩:=h;obtain⟨u,rfl,y⟩:=vals1 r
 cases y
 have G:=DB;rcases hq with hq|hq
 ·obtain⟨i,j,o,z⟩:=I.list hq;have d:=j.length;exact Calls.call_len_list o.isList (by simp only[av]<;>lia) ⟨.int e.length,H,I.tok _,⟨s.toks+1,by rw[av,d]⟩,q⟩
 ·obtain⟨i,j,o,z⟩:=I.tuple hq;have d:=j.length;exact len_tuple o (by simp only[av]<;>lia) ⟨.int e.length,H,I.tok _,⟨s.toks+1,by rw[av,d]⟩,q⟩
theorem O1:CallR X (.builtin "len") (λd H Q=>∃z,d=[.str z]/\z.length<=sizeLine/\Q (.int z.length) H):=by
 intro pins s σ H d e Q I r h;obtain⟨z,rfl,i,q⟩:=h;obtain⟨u,rfl,t,rfl⟩:=vals1 r;have j:=DB;exact len_str nA ⟨.int z.length,H,I.tok _,⟨_,rfl⟩,q⟩
theorem CallR.or{f:ah}{r r':List V->Hp->VK->Prop}(h:CallR X f r)(h':CallR X f r'):CallR X f (λd H Q=>r d H Q\/r' d H Q):=by
 intro pins s σ H d e Q I i q;rcases q with q|q
 ·exact h pins s σ H d e Q I i q
 ·exact h' pins s σ H d e Q I i q
theorem O0:CallR X (.type "list") (λM H Q=>∃p j,M=[.ref p]/\(SqL X.K H p j\/SqT X.K H p j)/\∀l,H l=none->Q (.ref l) (upd H l (.lst j))):=by
 intro pins s σ H M S Q I r h;obtain⟨p,j,rfl,hq,q⟩:=h;obtain⟨u,rfl,R⟩:=vals1 r
 cases R
 have fin:∀ (d:List ah),Vals j d->j.length<=sizeLine->∀ (i:Heap) (x:Nat),(∀b P,s.heap.get? b=some P->i.get? b=some P)->
  i.get? s.1.1.size=some {cls:= .type "list",dict:=none,data:= .seq d.toArray x,slots:= #[]}->EP X pins σ Q (.ref s.1.1.size) {s with heap:=i}:=λd y z i x kp e=>
  ⟨.ref s.1.1.size,_,I.laid (t':=s.toks) kp (ao _) (show ObjOk X.prog X.w _ i _ (.lst j)from⟨z,d,x,y,e⟩),rfl,q _ (I.hok.fresh (ao _))⟩
 rcases hq with hq|hq
 ·obtain⟨d,y,G,z⟩:=I.list hq;have B:=y.length;obtain⟨o,J,L,n,hd⟩:=G.isList;exact call_list_seq p (.inl rfl) J L hd (λi x kp e=>fin d y z i x kp e) (by simp only[av]<;>lia)
 ·obtain⟨d,y,G,z⟩:=I.tuple hq;have B:=y.length;obtain⟨o,J,L,n,hd⟩:=G;exact call_list_seq p (.inr rfl) J L hd (λi x kp e=>fin d y z i x kp e) (by simp only[av]<;>lia)
def tyV(K:W.Frag)(T:String)(x:V)(H:Hp):Prop:=match x with
 | .str _=>T="str"
 | .int _=>T="int"
 | .ref p=>(T="list"/\∃e,SqL K H p e)\/(T="tuple"/\∃o,K.lookup p=some o/\o.cls= .type "tuple"/\o.dict=none)\/
     (T="dict"/\((∃d,H p=some (.dK d))\/∃d,H p=some (.dT d)))\/(T="set"/\∃S n,H p=some (.set S n))
 |_=>False
theorem MO{σ:zQ0}{s:ak}{T:String}{v:ah}(I:Inv X pins σ H s)(r:RelV x v)(ty:tyV X.K T x H):
 s.TypeIs v T/\∀a,v= .ref a->∃ob,s.heap.get? a=some ob/\ob.dict=none:=by
 cases x with
 |str z=>
  obtain⟨t,rfl⟩:=r
  cases(show T="str" from ty)
  exact⟨eV s z t,λ_ e=>nomatch e⟩
 |int i=>
  obtain⟨t,rfl⟩:=r
  cases(show T="int" from ty)
  exact⟨lU s i t,λ_ e=>nomatch e⟩
 |ref p=>
  cases r
  rcases ty with⟨rfl,xs,hq⟩|⟨rfl,o,hk,hc,hd⟩|⟨rfl,hk⟩|⟨rfl,S,n,hk⟩
  ·obtain⟨q,_,j,_⟩:=I.list hq;refine⟨j.isList.typeIs,λa e=>?_⟩
   cases e
   obtain⟨o,n,e,c,hd,_⟩:=j;exact⟨o,e,hd⟩
  ·refine⟨⟨o,I.kIn p o hk,hc⟩,λa e=>?_⟩
   cases e
   exact⟨o,I.kIn _ o hk,hd⟩
  ·have z:∃o,s.heap.get? p=some o/\o.ExactDict:=by
    rcases hk with⟨kvs,hk⟩|⟨kvs,hk⟩
    ·obtain⟨_,_,_,_,o,_,_,e,ex,_⟩:=I.hok p _ hk;exact⟨o,e,ex⟩
    ·obtain⟨_,_,_,_,o,_,_,e,ex,_⟩:=I.hok p _ hk;exact⟨o,e,ex⟩
   obtain⟨o,e,ex⟩:=z;refine⟨⟨o,e,ex.1⟩,λa d=>?_⟩
   cases d
   exact⟨o,e,ex.2.1⟩
  ·obtain⟨o,_,_,_,e,ex,_⟩:=I.hok p _ hk;refine⟨⟨o,e,ex.1⟩,λa d=>?_⟩
   cases d
   exact⟨o,e,ex.2.1⟩
 |_=>exact bz ty
def Ia(K:W.Frag)(T:String)(r:V->List V->Hp->VK->Prop)(e:TE):TE:=λσ H Q=>e σ H λx d=>tyV K T x d/\r x [] d Q
def tBM(K:W.Frag)(T:String)(r:V->List V->Hp->VK->Prop)(e:TE)(t:TA):TE:=λσ H Q=>e σ H λx d=>tyV K T x d/\t σ d λi j=>r x i j Q
variable{o:Expr}{to:TE}{t:TA}{name:Str}{apos cpos:Pos}{T id:String}{r:V->List V->Hp->VK->Prop}
theorem Vz(z:kC T)(slot:Slot T name id)(j:m3 (.builtin id)=pure (.type "method_descriptor"))(B:MtR X id r)(G:PE X o to)
 (d:d5 o name X.env (eval o X.env)=eval o X.env:=by rfl) (i:(apos.endLine==cpos.line)=true:=by rfl):PE X (.Call (.Attribute o name apos) [] [] cpos) (Ia X.K T r to):=by
 intro pins s σ H Q I h;refine wpAny_Call_method0_late d i (thn (G pins s σ H _ I h) λv J L=>?_);obtain⟨x,M,q,y,ty,P⟩:=L;obtain⟨R,S⟩:=MO q y ty;exact⟨T,id,z,slot,j,R,S,fS rfl (PySem.evalArgs_none (B pins J σ M x [] v [] Q q y .nil P))⟩
theorem XJ(J:kC T)(slot:Slot T name id)(y:m3 (.builtin id)=pure (.type "method_descriptor"))(L:MtR X id r)(M:PE X o to)(P:PA X (e::es) t)
 (i:d5 o name X.env (eval o X.env)=eval o X.env:=by rfl)
 (q:((dI cpos (aL (e::es) X.env)).all (λx=> !x.1)&&(iD cpos (fk [] X.env)).all (λx=>x.1.isSome)
   &&decide ((e::es).length+([]:List lL).length+(if([]:List lL).isEmpty then 0 else 1)<30))=true:=by rfl)
 (j:(apos.endLine==cpos.line)=true:=by rfl) (R:aL (e::es) X.env=(false,eval e X.env)::aL es X.env:=by rfl) (d:(dI cpos (aL es X.env)).any (·.1)=false:=by rfl):
 PE X (.Call (.Attribute o name apos) (e::es) [] cpos) (tBM X.K T r to t):=by
 intro pins s σ H Q I h;refine wpAny_Call_method_late i q j rfl (thn (M pins s σ H _ I h) λv S U=>?_);obtain⟨x,Y,z,B,ty,Z⟩:=U;obtain⟨h1,h2⟩:=MO z B ty;refine⟨T,id,J,slot,y,h1,h2,?_⟩;have G:=P cpos pins S σ Y _ z Z;rw[R]at G⊢;refine fS (by show(false||(dI cpos (aL es X.env)).any (·.1))=false;rw[d]<;>rfl) (gt ?_);exact thn G λus s2 ⟨vs,H2,I2,r2,q2⟩=>L pins s2 σ H2 x vs v us Q I2 B r2 q2
end
def MtM(X:Cx)(id:String)(r:V->List V->Hp->VK->Prop):Prop:=
 ∀ (pins:List (Addr×Obj)) (s:ak) (σ:zQ0) (H:Hp) (x:V) (a:List V) (v:ah) (b:List ah) (Q:VK),Inv X pins σ H s->RelV x v->Vals a b->r x a H Q->
   aH (aR X.prog X.w) X.A (call (.builtin id) (v::b)) (EP X pins σ Q) X.xe s
theorem Vals.one:∀ {x:V} {us:List ah},Vals [x] us->∃u,us=[u]/\RelV x u
 |_,_, .cons r .nil=>⟨_,rfl,r⟩
theorem Vals.zero:∀ {a:List ah},Vals [] a->a=[]
 |_, .nil=>rfl
theorem Vals.dropLast(h:Vals xs us):Vals xs.dropLast us.dropLast:=by
 induction h with
 |nil=>exact .nil
 |cons r t a=>
  cases t with
  |nil=>exact .nil
  |cons q b=>exact .cons r a
theorem Vals.rep(h:Vals xs us):∀k:Nat,Vals (aS k xs).flatten (aS k us).flatten
 |0=> .nil
 |k+1=>by
  rw[bQ,bQ,cz,cz];exact Vals.append h (Vals.rep h k)
theorem QN(l:List α):l.eraseIdx (l.length-1)=l.dropLast:=by
 induction l with
 |nil=>rfl
 |cons a r d=>
  cases r with
  |nil=>rfl
  |cons b r=>
   have e:(a::b::r).length-1=((b::r).length-1)+1:=by
    have i:(a::b::r).length=r.length+2:=rfl;have j:(b::r).length=r.length+1:=rfl;lia
   rw[e,List.eraseIdx_cons_succ,d]
   all_goals rfl
theorem KG(its:List ah):∀ (k:Nat) (a:List ah),
 lZ (λb d=>b++d) a.toArray (aS k its.toArray)=(a++(aS k its).flatten).toArray
 |0,a=>by simp
 |k+1,a=>by
  have e:a.toArray++its.toArray=(a++its).toArray:=by simp
  have i:(a++its)++(aS k its).flatten=a++(aS (k+1) its).flatten:=by
   rw[bQ,cz,e9]
  rw[<-i,<-KG its k (a++its),<-e,bQ,lJ]
section
variable{σ:zQ0}{s:ak}{l b:Addr}{zs:List V}
theorem Inv.lset(I:Inv X pins σ H s)(a:H l=some (.lst xs))
 (e:s.heap.get? l=some {cls:= .type "list",data:= .seq its.toArray n}) (d:f its.toArray=its'.toArray) (i:Vals ys its') (j:ys.length<=sizeLine):
 Inv X pins σ (upd H l (.lst ys)) {s with heap:=s.heap.update l (fy f),toks:=t'}:=by
 have q:=PySem.IsL.update e f;rw[d]at q;refine I.write (x:=l) (e:=l) (by rw[a];exact trivial) (.inl rfl) (λy u o r=>(bD s.heap (fy f) (cI o)).trans r) ⟨_,q⟩ ?_;exact⟨j,its',_,i,q⟩
theorem Inv.lnew(I:Inv X pins σ H s)(a:Vals ys its)(d:ys.length<=sizeLine):
 Inv X pins σ (upd H s.1.1.size (.lst ys)) {s with heap:=s.heap.push {cls:= .type "list",data:= .seq its.toArray},toks:=t'}:=
 I.laid (λ_ _ q=>ae _ q) (ao _) ⟨d,its,0,a,ap _ rfl⟩
theorem Inv.fresh(I:Inv X pins σ H s):H s.1.1.size=none:=I.hok.fresh (ao _)
theorem Inv.lstM(I:Inv X pins σ H s)(d:H l=some (.lst xs)):xs.length<=sizeLine/\∃ (a:List ah) (n:Nat),Vals xs a/\xs.length=a.length/\s.heap.get? l=some {cls:= .type "list",data:= .seq a.toArray n}:=by
 obtain⟨z,a,n,r,e⟩:=I.hok l _ d;exact⟨z,a,n,r,r.length,e⟩
theorem SS(h:n<=sizeLine):fF n=false:=by
 unfold fF;exact aX nA
end
def rAppend:V->List V->Hp->VK->Prop:=λx vs H Q=>∃l a y,x= .ref l/\vs=[y]/\H l=some (.lst a)/\a.length<sizeLine/\Q .non (upd H l (.lst (a++[y])))
theorem B4:MtM X "list.append" rAppend:=by
 intro pins s σ H x vs v j Q I d rv h;obtain⟨l,o,y,rfl,rfl,b,B,q⟩:=h
 cases d
 obtain⟨u,rfl,i⟩:=rv.one;obtain⟨z,a,n,r,G,e⟩:=I.lstM b;refine dq F.slot_list_append ⟨_,e,rfl⟩ F.entry_list_append (F.args_list_append_2 _ _) (PySem.list_append l a.toArray n u (by rw[av];lia)) ⟨e,?_⟩;refine⟨.non,_,I.lset (its':=a++[u]) b e nC (r.append (.cons i .nil)) ?_,rfl,q⟩;rw[aG,f9];lia
def rPop:V->List V->Hp->VK->Prop:=λx vs H Q=>∃l a y,x= .ref l/\vs=[]/\H l=some (.lst a)/\a[a.length-1]? =some y/\Q y (upd H l (.lst a.dropLast))
theorem Hu:MtM X "list.pop" rPop:=by
 intro pins s σ H x vs v L Q I j rv h;obtain⟨l,M,y,rfl,rfl,i,o,q⟩:=h
 cases j
 have b:=rv.zero;subst b;obtain⟨z,a,n,r,B,e⟩:=I.lstM i;obtain⟨u,G,J⟩:=r.get o;have d:a.toArray[a.toArray.size-1]? =some u:=by
  show a.toArray[a.length-1]? =some u;rw[<-cp,<-B];exact G
 refine dq F.slot_list_pop ⟨_,e,rfl⟩ F.entry_list_pop (F.args_list_pop_1 _) (MeetsSeq.list_pop_last l a.toArray n u d (by rw[av];lia)) ⟨e,?_⟩;refine⟨y,_,I.lset (its':=a.dropLast) i e ?_ r.dropLast ?_,J,q⟩
 ·show a.toArray.eraseIdxIfInBounds (a.toArray.size-1)=a.dropLast.toArray;rw[av,List.eraseIdxIfInBounds_toArray,QN]
 ·rw[gs];lia
def rCat:R2:=λx y H Q=>∃l b a d,x= .ref l/\y= .ref b/\H l=some (.lst a)/\H b=some (.lst d)/\a.length+d.length<=sizeLine/\∀p,H p=none->Q (.ref p) (upd H p (.lst (a++d)))
theorem V4:OpR X (dO .Add) rCat:=by
 intro pins s σ H x y v u Q I i j h;obtain⟨l,b,R,S,rfl,rfl,o,B,T,q⟩:=h
 cases i
 cases j
 obtain⟨z,d,n,r,U,e⟩:=I.lstM o;obtain⟨z2,a,Y,G,J,L⟩:=I.lstM B;refine PySem.P.add_list e L ?_ (by rw[av,av];lia);have M:d.toArray++a.toArray=(d++a).toArray:=by simp
 rw[M];exact⟨.ref _,_,I.lnew (t':=s.toks) (r.append G) (by rw[aG];lia),rfl,q _ I.fresh⟩
def rRep:R2:=λx y H Q=>∃l k a,x= .ref l/\y= .int k/\H l=some (.lst a)/\ -(2^63)<=k/\k<2^63/\a.length*k.toNat<=sizeLine/\
 ∀p,H p=none->Q (.ref p) (upd H p (.lst (aS k.toNat a).flatten))
theorem UU(xs:List α)(k:Nat):(aS k xs).flatten.length=k*xs.length:=by
 induction k with
 |zero=>simp
 |succ k a=>rw[bQ,cz,aG,a,Nat.succ_mul,Nat.add_comm]
theorem op_rep:OpR X (dO .Mult) rRep:=by
 intro pins s σ H x y v u Q I M P h;obtain⟨l,k,xs,rfl,rfl,R,S,Y,L,q⟩:=h
 cases M
 obtain⟨t,rfl⟩:=P;obtain⟨z,b,n,r,Z,e⟩:=I.lstM R;have i:b.toArray.size*k.toNat<=sizeLine:=by rw[av,<-Z];exact L
 have j:¬b.toArray.size*k.toNat>(2^63-1)/8:=by
  have:(sizeLine:Nat)<=(2^63-1)/8:=by decide
  lia
 have o:¬ (!fc.List.listFitsIndex k)=true:=by
  rw[fitsIndex_both S Y];exact aq
 have d:¬fF (b.toArray.size*k.toNat)=true:=by
  rw[SS i];exact aq
 have B:lZ (λG J=>G++J) #[] (aS (if b.toArray.isEmpty=true then 0 else k.toNat) b.toArray)=(aS k.toNat b).flatten.toArray:=by
  have f0:∀m:Nat,lZ (λG J=>G++J) #[] (aS m b.toArray)=(aS m b).flatten.toArray:=λm=>by
   have:=KG b m [];rw[lI]at this;exact this
  rw[f0]
  cases b with
  |nil=>simp
  |cons a r'=>rw[aB (by simp)]
 refine wpAny_binaryOp_repeat_ref (T:="list") (U:="int") nv ⟨_,e,rfl⟩ (λs'=>lU s' k t) noFill_list_mul F.fills_int_mul F.slot_int_rmul repeat_list F.slot_int_index.lookup
  (dq F.slot_int_rmul (lU s k t) F.entry_int_rmul (F.args_int_rmul_2 _ _) (int___rmul___int_list k t l b.toArray n)
    ⟨e,rfl,⟨_,e,rfl⟩,dq F.slot_list_mul ⟨_,e,rfl⟩ F.entry_list_mul (F.args_list_mul_2 _ _) (AutoListH.list___mul___list_int_3 l b.toArray n k t o j d) ⟨e,?_⟩⟩)
 rw[B];exact⟨.ref _,_,I.lnew (t':=s.toks) (r.rep k.toNat) (by rw[UU,Nat.mul_comm];exact L),rfl,q _ I.fresh⟩
end L2
namespace Att
open PySem.W PySem.Calls
variable{loose:List Str}{vals:List ah}{args:List WData}{P:Params}{q:bK}{YP:cX->Heap->Prop}
theorem OX{h:Heap}:∀ (ns:List Int) (vs:List ah),WellAll P h vs (ns.map na)->hU vs ns:=by
 intro ns
 induction ns with
 |nil=>
  intro vs w;rw[fC]at w
  cases w
  exact .nil
 |cons n ns d=>
  intro vs w;rw[aW]at w
  cases w with
  |cons a b=>
   cases a
   exact .cons _ _ (d _ b)
theorem QZ{l:OpenLaw}(B:l.most=some n){h:Heap}
 (b:l.row.toRowW.claim.pre args=true) (x:WellAll P h vals args):
 ∃a vs ns,vals=[aj a]/\args=[WData.list (ns.map na)]/\h.get? a=some {cls:= .type "list",data:= .seq vs.toArray}/\hU vs ns/\ns.length<=n:=by
 have y:WShape.hasAll [] args [.list .int]=true:=(pre_splitW b).1;have z:l.pre.holds [] {args:=args}=true:=(pre_splitW b).2;obtain⟨d,r,rfl,G,H⟩:=hasAllW_cons y;obtain rfl:=hasAllW_nil H;obtain⟨R,rfl,I⟩:=hasW_list G;obtain⟨ns,rfl⟩:=items_int I;have e:ns.length<=n:=by
  unfold OpenLaw.pre at z;have j:(WTm.not (.lt (.lit (.int (n:Int))) (.len (.arg 0)))).holds [] {args:=[.list (ns.map .int)]}=true:=by
   have j:=(holds_andW z).1;rw[B]at j;exact j
  have o:=condW_of j (w_not (w_lt w_lit (w_len_list (w_arg rfl))));rw[ax]at o;refine iP λq=>?_;have J:(n:Int)<((ns.length:Nat):Int):=by lia
  first
   |(rw[ba J]at o;exact absurd o nv)
   |(simp at o;lia)
 cases x with
 |cons L M=>
  cases M
  cases L with
  |list Q i=>exact⟨_,_,ns,rfl,rfl,Q,OX ns _ i,e⟩
theorem Qe(l:OpenLaw)(args:List WData):l.row.toRowW.claim.post args (.bool true) args=true:=
 postW_of (r:=l.row.toRowW) (X:=(true==true))
  (show m8 [] (.bool true) .bool=true by first|rfl|decide|simp[m8,WShape.arms,WShape.armsAll])
  (show(WTm.eq .res (.lit (.bool true))).value [] {args:=args,res:=some (.bool true),after:=args}=some (.bool (true==true))from w_eq_bool (w_res rfl) w_lit) rfl
theorem attach_call{l:OpenLaw}{d:DefRec}
 (S:l.most=some n) (H:d.params.defaults=[])
 (call:∀ (w:cX) (s₀ b:ak) (mg I:Str->Option ah) (fa:Addr) (o:Obj) (J z e:ah) (a:Addr) (vs:List ah) (ns:List Int),
   Ground q loose [] XP w s₀ mg I b.heap->YP w b.heap->
   b.heap.get? fa=some o->o.data= .func (docDef d.name d.params d.body d.scope J z e)->b.heap.CodeRec z d.name->mg d.name=some (.ref fa)->
   b.heap.get? a=some {cls:= .type "list",data:= .seq vs.toArray}->hU vs ns->ns.length<=n->b.gens= #[]->
   dt (aR l.prog w) kz (.call (.ref fa) ⟨[.ref a],[]⟩) (λr B=>r= .ok (.ret (.bool true))/\OldK b.heap B.heap/\B.os=b.os/\hV B.gens) b):
 WalkO q loose XP YP l.row.toRowW d [] (λf vs=>m9 f vs):=by
 intro w s₀ b mg I G Y fa o J z e T kV U hd L Q M hg args vals as j R X P Z;obtain rfl:T= .none:=Dflts.none Q H;obtain rfl:kV= .none:=Dflts.noKw Q;obtain⟨a,vs,ns,rfl,rfl,x,i,y⟩:=QZ S j P;refine enter_call (dj (call w s₀ b mg I fa o J z e a vs ns G Y U (fd_plain hd) L M x i y hg) λr B hq=>?_);obtain⟨rfl,h2,h3,h4⟩:=hq;exact⟨.inl ⟨.bool true, .bool true,[],rfl,λ_=>rfl, .bool true,Qe l _,λ_=>⟨kH,λ_ hm=>(nomatch hm)⟩⟩,h2,h3,h4⟩
end Att
open Att
namespace L2
variable{a f:Addr}{osl:Array (Option ah)}{loose ps:List Str}{vs:List ah}{K:Params->W.Frag}{q:bK}{A B:Prop}{st:Stmt}{CX:cX->CXT}{YP:cX->Heap->Prop}{sp:cX->Sp}
theorem GJ:∀ {vs:List ah} {ns:List Int},hU vs ns->Vals (ns.map V.int) vs
 |_,_, .nil=> .nil
 |_,_, .cons n t h=> .cons ⟨t,rfl⟩ (GJ h)
def Ip(H:Hp):Prop:=∀b,H b=none\/∃o a,H b=some (.frz o (.lst a))
theorem SX{K:W.Frag}{mb:Str->Option ah}{CX:CXT}{k:Nat}{fa:Addr}{sp:Sp}{s₁:ak}
 (KX:K.In s₁.heap) (B:s₁.heap.Ns a' mg) (j:s₁.heap.Ns lW mb) (T:∀x:Str,x≠"__name__"->mb x=eJ x) (L:s₁.heap.NoLimit) (hg:s₁.gens= #[])
 (S:s₁.heap.get? a=some {cls:= .type "list",data:= .seq vs.toArray}) (hi:hU vs ns) (hl:ns.length<=sizeLine) (hr:Room k kz)
 (F:∀base:Heap,K.In base->base.Ns a' mg->FnOk P w K mg base CX k fa fd [x] sp) (J:∀ (s:ak) (u:ah),kK s fd ⟨[u],[]⟩ [(x,u)])
 (U:∀H:Hp,Ip H->SqL K H a (ns.map V.int)->sp [.ref a] H (λv _=>v= .bl true) λ_ _ _=>False)
 (X:∀H e y,CX [] H s₁ (λ_ _ _=>False) e y->False):
 dt (aR P w) kz (.call (.ref fa) ⟨[.ref a],[]⟩) (λr y=>r= .ok (.ret (.bool true))/\OldK s₁.heap y.heap/\y.os=s₁.os/\hV y.gens) s₁:=by
 have rv:=GJ hi;have M:=hi.length;have core:∀H:Hp,Ip H->SqL K H a (ns.map V.int)->HOk P w H s₁.heap->(∀b,H b≠none->b=a)->(H a≠none->K.lookup a=none)->
  dt (aR P w) kz (.call (.ref fa) ⟨[.ref a],[]⟩) (λr y=>r= .ok (.ret (.bool true))/\OldK s₁.heap y.heap/\y.os=s₁.os/\hV y.gens) s₁:=by
  intro H hO hS hok hA hK;have i:∀ {b:Addr} {o:Obj},s₁.heap.get? b=some o->H b=none->(Cv s₁.heap H).get? b=some o:=λe n=>Sf e n;have Y:∀ {b:Addr} {o:Obj} {es:Array mH} {ep:Nat},s₁.heap.get? b=some o->o.data= .dict es ep->H b=none:=fun{b o es ep} e d=>by
   cases q:H b with
   |none=>rfl
   |some u=>
    have Z:b=a:=hA b (by rw[q];simp);subst Z;rw[S]at e;cases e;have d':lj vs.toArray _=Data.dict es ep:=d
    cases d'
  have G:∀ {b:Addr} {m:Str->Option ah},s₁.heap.Ns b m->(Cv s₁.heap H).Ns b m:=fun{b m} ⟨o,es,ep,e,d,r⟩=>⟨o,es,ep,i e (Y e d),d,r⟩;have Q:K.In (Cv s₁.heap H):=λb o e=>i (KX b o e) (by
   cases q:H b with
   |none=>rfl
   |some u=>
    have Z:b=a:=hA b (by rw[q];simp);subst Z;rw[hK (by rw[q];simp)]at e;cases e)
  have hM:Mod K mg (Cv s₁.heap H):=⟨Q,G B,⟨mb,G j,T⟩,let⟨mc,h1,h2⟩:=L;⟨mc,G h1,h2⟩⟩;have e0:Env0 P w K mg (Cv s₁.heap H) kz [] s₁ H:=⟨rfl,hM,λb o e=>UO e,fA (RB _ _),trivial,λb j=>absurd (show b∈([]:List Addr)from j) nC,hok, .of_eq hg⟩;refine dj ((F _ Q (G B)).run kz [] s₁ H ⟨[.ref a],[]⟩ [.ref a] [.ref a] _ _ hr e0 (J s₁ (.ref a)) (.cons rfl .nil) (U H hO hS)) λr y h=>?_
  cases r with
  |error e=>exact(X H e y h).elim
  |ok fl=>
   cases fl with
   |next=>exact bz h
   |brk=>exact bz h
   |cont=>exact bz h
   |ret u=>
    obtain⟨v,H',os,bare,un,R,r',q⟩:=h;have q':v= .bl true:=q;subst q';obtain rfl:u=dS true:=r';refine⟨rfl,OldK.of_keep λb o e=>?_,os,bare⟩
    cases q:H b with
    |none=>exact un.keep b o e q (by intro z;exact absurd (show b∈([]:List Addr)from z) nC) nC
    |some u=>
     rcases hO b with z|⟨ob,xs,z⟩
     ·rw[q]at z;cases z
     ·have z2:=un.frzs b ob _ z;obtain⟨e1,_⟩:=hok b _ z;obtain⟨e2,_⟩:=R b _ z2;rw[e]at e1;cases e1;exact e2
 cases hk:K.lookup a with
 |some o=>
  have e:=KX a o hk;rw[S]at e
  cases e
  refine core (λ_=>none) (λ_=> .inl rfl) (.inr ⟨_,vs.toArray,_,hk,rfl,rfl,rfl,by rw[av,M];exact hl,by simpa using rv⟩) ⟨(λb u z=>by have I:(none:Option HO)=some u:=z;cases I),(λu z=>nomatch (show(none:Option HO)=some u from z)),let⟨o,_,_,e,_⟩:=B;⟨a',o,by decide,e⟩⟩ (λb z=>absurd rfl z) λz=>absurd rfl z
 |none=>
  refine core (λb=>if b=a then some (.frz {cls:= .type "list",data:= .seq vs.toArray} (.lst (ns.map V.int)))else none) (λb=>?_) (.inl (.inr ⟨{cls:= .type "list",data:= .seq vs.toArray},aO rfl⟩)) ⟨λb u z=>?_,(λu z=>by
   by_cases j:bJ=a
   ·have I:=(aO j).symm.trans z
    cases I;exact⟨_,_,rfl⟩
   ·have I:=(aB j).symm.trans z
    cases I),let⟨o,_,_,e,_⟩:=B;⟨a',o,by decide,e⟩⟩ (λb z=>?_) λ_=>hk
  ·by_cases j:b=a
   ·exact .inr ⟨_,_,aO j⟩
   ·exact .inl (aB j)
  ·by_cases j:b=a
   ·have I:=(aO j).symm.trans z
    cases I
    subst j;exact⟨S,by rw[ax];exact hl,vs,_,rv,S⟩
   ·have I:=(aB j).symm.trans z
    cases I
  ·by_cases j:b=a
   ·exact j
   ·exact absurd (aB j) z
theorem walk_of{l:W.OpenLaw}{k:Nat}{d:DefRec}
 (P:l.most=some n) (z:n<=sizeLine) (B:d.params.defaults=[]) (Q:Room k kz)
 (R:∀ (w:cX) (h:Heap),YP w h->(K w.params).In h)
 (F:∀ (w:cX) (mg:Str->Option ah) (fa:Addr) (h:Heap),(K w.params).In h->h.Ns a' mg->mg d.name=some (.ref fa)->
   ∃fd:jB,(∀ (s:ak) (u:ah),kK s fd ⟨[u],[]⟩ [(x,u)])/\
    ∀base:Heap,(K w.params).In base->base.Ns a' mg->FnOk l.prog w (K w.params) mg base (CX w) k fa fd [x] (sp w))
 (I:∀ (w:cX) (H:Hp) (a:Addr) (ns:List Int),ns.length<=n->Ip H->SqL (K w.params) H a (ns.map V.int)->sp w [.ref a] H (λv _=>v= .bl true) λ_ _ _=>False)
 (J:∀ (w:cX) (H:Hp) (s:ak) (e:ah) (L:ak),CX w [] H s (λ_ _ _=>False) e L->False):
 W.WalkO q loose XP YP l.row.toRowW d [] (λf vs=>m9 f vs):=by
 refine Att.attach_call P B λw s₀ r mg mb fa o pm cd S a vs ns G Y ho hd U M y j i hg=>?_;have KX:=R w _ Y;obtain⟨fd,X,Z⟩:=F w mg fa _ KX G.T.g M;exact SX KX G.T.g G.T.b G.T.builtins G.T.nolimit hg y j (bj i z) Q Z X (λH hO hS=>I w H a ns i hO hS) λH e L=>J w H r e L
def inClass(s:Stmt)(j:Nat):Stmt:=match s with
 | .ClassDef _ _ _ body _ _ _ _ _ _ _=>body.getD j (.Pass ⟨0,0,0,0⟩)
 |_=> .Pass ⟨0,0,0,0⟩
def C8(s:Stmt):Arguments:=match s with
 | .FunctionDef _ a _ _ _ _ _ _ _ _=>a
 |_=>{posonlyargs:=[],args:=[],vararg:=none,kwonlyargs:=[],kw_defaults:=[],kwarg:=none,defaults:=[]}
def Bn(s:Stmt):List Stmt:=match s with
 | .FunctionDef _ _ b _ _ _ _ _ _ _=>b
 |_=>[]
def AU(s:Stmt):gu:=match s with
 | .FunctionDef _ _ _ _ _ _ a _ _ _=>a
 |_=>{kind:= .function,names:=[],isGenerator:=false,isCoroutine:=false}
abbrev CX0:CXT:=λ_ _ _ _ _ _=>False
abbrev E0:XK:=λ_ _ _=>False
theorem El:DD CX0 X E0:=λ_ _ _ _ _ _ _ h=>h.elim
structure Fun (K:W.Frag) (x qual:Str) (st:Stmt) (f:Addr) (fd:jB):Prop where
 ex:∃ (oc:ah) (od:Option Addr) (kV doc pm:ah) (an:Option Addr) (cdv ct:ah) (osl:Array (Option ah)),
  fd=W.fnOf x qual (C8 st) (Bn st) (AU st) .none kV doc pm an cdv ct/\K.lookup f=some ⟨oc,od, .func fd,osl⟩/\W.codeIn K cdv qual=true
 kp:W.keepIn K (.ref f)=true
section
variable{K:W.Frag}
theorem Fun.ok{N:List Str}{k:Nat}{sp:Sp}(F:Fun K x qual st f fd)(S:FnScope N ps (AU st))(len:∀vs H Q E,sp vs H Q E->vs.length=ps.length)
 (b:∀ (a:ah) (A:eR) (outer:List Env) (s:ak) (H:Hp) (vs:List V) (Q:VK) (E:XK),Room k (A.deeper (ig qual (AU st) s.1.1.size f a))->sp vs H Q E->
   ∃t,PSs (CZ CX0 P w K mg base N qual (AU st) f a A outer s H E).nox (Bn st) t/\t {nx:=λ_ i=>Q .non i,rt:=Q} (start N vs) H):FnOk P w K mg base CX0 (k+1) f fd ps sp:=by
 obtain⟨z,B,kV,j,G,I,a,ct,o,rfl,r,d⟩:=F.ex;refine NT r d S len λA outer s H vs Q E y e=>?_;obtain⟨t,h,q⟩:=b a A outer s H vs Q E y e;exact⟨t,h.nox,q⟩
theorem Fun.binds(F:Fun K x qual st f fd)
 (h:∀ (kV a d:ah) (e:Option Addr) (b ct:ah) (i:List ah),i.length=ps.length->bindArgs (W.fnOf x qual (C8 st) (Bn st) (AU st) .none kV a d e b ct) ⟨i,[]⟩=pure (ps.zip i)):Binds K fd ps []:=by
 obtain⟨q,r,kV,a,d,e,b,ct,j,rfl,y,o⟩:=F.ex;exact .all (h kV a d e b ct)
theorem Mu{oc:ah}{od an:Option Addr}{kV doc pm cdv ct:ah}(l:K.lookup f=some ⟨oc,od, .func (W.fnOf x qual (C8 st) (Bn st) (AU st) .none kV doc pm an cdv ct),osl⟩)
 (c:W.codeIn K cdv qual=true) (k:W.keepIn K (.ref f)=true):Fun K x qual st f (W.fnOf x qual (C8 st) (Bn st) (AU st) .none kV doc pm an cdv ct):=⟨⟨oc,od,kV,doc,pm,an,cdv,ct,osl,rfl,l,c⟩,k⟩
end
theorem DG(h:n<=1000):n<sizeLine:=de h nv
theorem pv(i:Nat){pos:Pos}(b:X.N[i]? =some x:=by rfl)(d:Vis X.env.scope x:=by first|exact Or.inl rfl|exact Or.inr (Or.inl rfl)|exact Or.inr (Or.inr rfl))(hd:(x==("__debug__":Str))=false:=by decide)
 (a:(x==("__classdict__":Str))=false:=by decide):PE X (.Name x pos) (Br i):=Mf b d hd a
theorem Ew(h:B):if false=true then A else B:=by
 rw[aB aq];exact h
theorem Cu(h:A):if true=true then A else B:=by
 rw[aO rfl];exact h
theorem Ij{c:Prop}[Decidable c](a:c->A)(b:¬c->B):if c then A else B:=by
 by_cases h:c
 ·rw[aO h];exact a h
 ·rw[aB h];exact b h
def Same(H a:Hp):Prop:=∀b o,H b=some o->a b=some o
theorem Same.refl(H:Hp):Same H H:=λ_ _ h=>h
theorem Same.trans{H2:Hp}(a:Same H H1)(b:Same H1 H2):Same H H2:=λc o h=>b c o (a c o h)
theorem Same.free(e:Same H H'){l:Addr}(h:H' l=mU):H l=mU:=by
 cases q:H l with
 |none=>rfl
 |some o=>
  rw[e l o q]at h
  cases h
theorem Same.seq{K:W.Frag}(e:Same H H')(h:SqL K H a xs):SqL K H' a xs:=by
 rcases h with(h|⟨o,h⟩)|h
 ·exact .inl (.inl (e _ _ h))
 ·exact .inl (.inr ⟨o,e _ _ h⟩)
 ·exact .inr h
end L2
set_option maxHeartbeats 8000000
namespace L2
variable{D a b e:Addr}{its:Array ah}{c:Bool}{R:Bool->Hp->Prop}{Y:Cx}{o:Expr}{tn:Heap->Prop}{i j:Int}{f:Int->Int->Int}{C:Int->Int->Prop}{g:Int->Int->V}{es:List Expr}{ps:List Str}{ys:List V}{Pv:Nat->List V->Hp->Prop}{hi lo:Option Int}{apos cpos p:Pos}{A B:Prop}{name:Str}{t ta:TA}{tb tl to:TE}{wi:TI}{x:V}{r:V->Option Int->Option Int->Hp->VK->Prop}{Q:VK}{Qx:ah->Hp->V->Prop}
theorem Hd:∀ (ns:List (Str×f6)) (a:List (Str×Addr)),(∀y∈ns,y.2= .free->∃c,env.cells.lookup y.1=some c)->(∀x c,a.lookup x=some c->env.cells.lookup x=some c)->
 ∃cl,(forIn ns a fun(y:Str×f6) cs=>(if(y.2== .free)=true then(do let c<-cellOf env y.1;pure (bw ((y.1,c)::cs)))else pure (bw cs):Sem (ForInStep (List (Str×Addr)))))=pure cl/\
  (∀x c,cl.lookup x=some c->env.cells.lookup x=some c)/\(∀y∈ns,y.2= .free->∃c,cl.lookup y.1=some c)/\∀x c,a.lookup x=some c->∃c',cl.lookup x=some c'
 |[],a,_,o=>⟨a,rfl,o,(λ_ h=>nomatch h),λx c e=>⟨c,e⟩⟩
 |(n,k)::r,a,q,o=>by
  rw[dX]
  by_cases hk:k= .free
  ·subst hk;obtain⟨c,I⟩:=q (n, .free) aA rfl;have d:cellOf env n=pure c:=by unfold cellOf;rw[I]
   have z:∀x c',dN x ((n,c)::a)=some c'->env.cells.lookup x=some c':=λx c' e=>by
    rw[aY]at e
    cases i:x==n with
    |true=>rw[i]at e;simp at e;subst e;rw[eq_of_beq i];exact I
    |false=>rw[i]at e;exact o x c' e
   obtain⟨cl,B,G,H,j⟩:=Hd r ((n,c)::a) (λy hy=>q y (ay _ hy)) z;refine⟨cl,?_,G,λy hy b=>?_,λx c' e=>?_⟩
   ·simp only[fh,fJ,d,pure_bind];exact B
   ·rcases aJ.mp hy with rfl|hy
    ·exact j n c (by simp[aY])
    ·exact H y hy b
   ·cases i:x==n with
    |true=>rw[eq_of_beq i];exact j n c (by simp[aY])
    |false=>exact j x c' (by rw[aY,i];exact e)
  ·have J:(k==cS)=false:=by simpa using hk
   obtain⟨cl,B,G,H,j⟩:=Hd r a (λy hy=>q y (ay _ hy)) o;refine⟨cl,?_,G,λy hy b=>?_,j⟩
   ·simp only[J,dM,f5,pure_bind];exact B
   ·rcases aJ.mp hy with rfl|hy
    ·exact absurd b hk
    ·exact H y hy b
theorem MK(h:∀y∈scope.names,y.2= .free->∃c,env.cells.lookup y.1=some c):
 ∃cl,closureFor scope env=pure cl/\(∀x c,cl.lookup x=some c->env.cells.lookup x=some c)/\∀y∈scope.names,y.2= .free->∃c,cl.lookup y.1=some c:=by
 obtain⟨cl,a,b,d,_⟩:=Hd (env:=env) scope.names [] h (λx c e=>nomatch e);refine⟨cl,?_,b,d⟩;have e:closureFor scope env=(forIn scope.names ([]:List (Str×Addr)) fun(y:Str×f6) cs=>(if(y.2== .free)=true then(do let c<-cellOf env y.1;pure (bw ((y.1,c)::cs)))else pure (bw cs):Sem (ForInStep (List (Str×Addr)))))>>=pure:=by
  rfl
 rw[e,a,pure_bind]
def Bi(X:Cx)(own:List Str)(sel:List Nat)(scope:gu)(cl:List (Str×Addr))(C:Addr)(a:ak)(b:Hp)(fp:List Addr):Cx where
 prog:=X.prog
 w:=X.w
 K:=X.K
 mg:=X.mg
 base:=X.base
 A:=X.A
 N:=own++sel.map λj=>X.N.getD j cF
 s₀:=a
 H₀:=b
 env:=j8 scope cl C X.env
 outer:=X.stack
 stack:=X.stack
 ex:=fp
 fn:=λ_=>false
 calm:=X.calm
 pn:=[]
 xe:=λ_ _=>False
def AY(own:List Str)(sel:List Nat)(σ:zQ0):zQ0:=own.map (λ_=>none)++sel.map λj=>σ.getD j none
structure CompOk (osc:gu) (N:List Str) (own:List Str) (sel:List Nat) (scope:gu):Prop where
 kind:scope.kind= .function
 cell:∀y∈scope.names,y.2≠ .cell
 names:∀y∈scope.names,y.2= .local->scope.names.lookup y.1=some .local
 free:∀y∈scope.names,y.2= .free->osc.names.lookup y.1=some .cell\/osc.names.lookup y.1=some .free
 seln:∀j∈sel,j<N.length/\scope.names.lookup (N.getD j cF)=some .free/\(osc.names.lookup (N.getD j cF)=some .cell\/osc.names.lookup (N.getD j cF)=some .free)
def PIf(Y:Cx)(ifs:List Expr)(t:TT):Prop:=
 ∀ (pins:List (Addr×Obj)) (s:ak) (σ:zQ0) (H:Hp) (Q:Bool->Hp->Prop),Inv Y pins σ H s->t σ H Q->
   aH (aR Y.prog Y.w) Y.A (forIn ifs true λc r=>if r=true then do let ok<-j5 c Y.env (eval c Y.env);pure (bw ok)else pure (bw r)) (TP Y pins σ Q) Y.xe s
def tYes:TT:=λ_ H Q=>Q true H
theorem A2:PIf Y [] tYes:=λpins s σ H Q I h=>wpAny_tests_nil ⟨H,I,h⟩
theorem EK{c:Expr}{t:TT}(h:PT Y c t):PIf Y [c] t:=λpins s σ H Q I a=>wpAny_tests_one (h pins s σ H Q I a)
def GK(n:Nat)(g:TG):Prop:=∀v σ H Q,g v σ H Q->g v σ H λσ' a=>Q σ' a/\σ'.length=σ.length/\∀i,n<=i->σ'[i]? =σ[i]?
def GKs(n:Nat)(g:TGs):Prop:=∀vs σ H Q,g vs σ H Q->g vs σ H λσ' a=>Q σ' a/\σ'.length=σ.length/\∀i,n<=i->σ'[i]? =σ[i]?
theorem Ak{i:Nat}(h:i<n):GK n (BG i):=λv σ H Q q=>⟨q,by simp,λj a=>by rw[bW nA]⟩
theorem Eb:GKs n gNil:=λvs σ H Q q=>⟨q.1,q.2,rfl,λ_ _=>rfl⟩
def GM(g:TG):Prop:=∀v σ H Q a,(∀σ' b,Q σ' b->a σ' b)->g v σ H Q->g v σ H a
def GMs(g:TGs):Prop:=∀vs σ H Q a,(∀σ' b,Q σ' b->a σ' b)->g vs σ H Q->g vs σ H a
theorem BY{i:Nat}:GM (BG i):=λ_ _ _ _ _ h q=>h _ _ q
theorem CQ:GMs gNil:=λ_ _ _ _ _ h q=>⟨q.1,h _ _ q.2⟩
theorem EO{t:TG}{u:TGs}(a:GM t)(b:GMs u):GMs (Fp t u):=λvs σ H Q d h ⟨v,r,e,q⟩=>⟨v,r,e,a _ _ _ _ _ (λσ' i z=>b _ _ _ _ _ h z) q⟩
theorem CK{t:TG}{u:TGs}(m1:GM t)(m2:GMs u)(d:GK n t)(j:GKs n u):GKs n (Fp t u):=λvs σ H Q ⟨v,r,e,q⟩=>by
 refine⟨v,r,e,m1 _ _ _ _ _ (λσ' x z=>?_) (d _ _ _ _ q)⟩;obtain⟨o,l,k⟩:=z;exact m2 _ _ _ _ _ (λσ2 y ⟨a,b,c⟩=>⟨a,b.trans l,λi hi=>(c i hi).trans (k i hi)⟩) (j _ _ _ _ o)
theorem Ea{m:Nat}{t:TGs}(h:GKs n t):GK n (Ey K m t):=λv σ H Q ⟨a,b,d,e,i,q⟩=>⟨a,b,d,e,i,h _ _ _ _ q⟩
def Fj(own:List Str)(sel:List Nat)(y:TI)(g:TG)(z:TT)(B:TE):TE:=λσ H Q=>y σ H λJ j=>∀D,j D=none->
 ∃W:Nat->Nat->Hp->Prop,(∃m,W 0 m (upd j D (.lst [])))/\∀i m a,W i m a->
  (J.stop i a/\Q (.ref D) a)\/(J.go i a/\∀x o,J.yld i a x o->g x (AY own sel σ) o λσ4 G=>z σ4 G λb q=>
    if b=true then B σ4 q λv r=>∃e,r D=some (.lst e)/\e.length<sizeLine/\∃d,d<m/\W (i+1) d (upd r D (.lst (e++[v])))
    else∃d,d<m/\W (i+1) d q)
section
variable{A:eR}{R:m5->ak->Prop}{s:ak}
theorem QO{elt target iter:Expr}{pos:Pos}{it acc:ah}(I:Nat->ak->Prop)
 (turn:∀n s,I n s->aH (aR prog w) A (fv it) (λr a=>match r with
   |none=>R (.ok .next) a
   |some v=>aH (aR prog w) A (cO target it v) (λ_ d=>aH (aR prog w) A (gV target env v) (λ_ e=>
     aH (aR prog w) A (forIn ifs true λc r=>if r=true then do let ok<-j5 c env (eval c env);pure (bw ok)else pure (bw r)) (λok b=>
      if ok=true then aH (aR prog w) A (eval elt env) (λx i=>aH (aR prog w) A (call (.builtin "list.append") [acc,x]) (λ_ j=>∃m,m<n/\I m j) (λ_ _=>False) i) (λ_ _=>False) b
      else∃m,m<n/\I m b) (λ_ _=>False) e) (λ_ _=>False) d) (λ_ _=>False) a) (λ_ _=>False) s)
 (n:Nat) (h:I n s):
 dt (aR prog w) A (.compLoop (.ListComp elt [⟨target,iter,ifs,0⟩] scope pos) 0 it acc env) R s:=by
 refine kM rfl I (λn s y=>?_) n h;show aH _ A ((lh (.ListComp elt [⟨target,iter,ifs,0⟩] scope pos) 0 it acc env).onRaise (λx=>do lB x env;i7 x)) _ _ s;refine lr ?_;rw[compTurn_list];refine ac (dg (ac (aZ (turn n s y) (λr a o=>?_) λ_ _ z=>z.elim)))
 cases r with
 |none=>exact ag o
 |some v=>
  refine ac (aZ o (λ_ d h0=>ac (aZ h0 (λ_ e B=>ac (aZ B (λok b q=>?_) λ_ _ z=>z.elim)) λ_ _ z=>z.elim)) λ_ _ z=>z.elim)
  cases ok with
  |false=>exact ag ⟨rfl,q⟩
  |true=>
   exact ac (ac (aZ q (λx i G=>ac (aZ G (λ_ j H=>ag (ag ⟨rfl,H⟩)) λ_ _ z=>z.elim)) λ_ _ z=>z.elim))
end
theorem Dy{env:Env}:∀ {names:List (Str×f6)} {x:Str} {k:f6},
 (names.map fun(n,k)=>if(k==cS&&env.scope.kind== .function&&env.kindOf n==some .cell)then(n,bb)else(n,k)).lookup x=some k->
 names.lookup x=some k\/names.lookup x=some .free
 |[],_,_,h=>by simp at h
 |(n,d)::r,x,k,h=>by
  have i:= @Dy env r x k;have a:dN x ((if(d==cS&&env.scope.kind== .function&&env.kindOf n==some .cell)=true then(n,bb)else(n,d))::r.map fun(n,k)=>if(k==cS&&env.scope.kind== .function&&env.kindOf n==some .cell)then(n,bb)else(n,k))=some k:=h
  cases e:x==n with
  |true=>
   rw[aY,e]
   by_cases b:(d==cS&&env.scope.kind== .function&&env.kindOf n==some .cell)=true
   ·have:d= .free:=by simp only[aQ,bE]at b;exact b.1.1
    subst this;exact .inr rfl
   ·rw[aB b,aY,e]at a;exact .inl a
  |false=>
   rw[aY,e]
   by_cases b:(d==cS&&env.scope.kind== .function&&env.kindOf n==some .cell)=true
   ·rw[aO b,aY,e]at a;exact i a
   ·rw[aB b,aY,e]at a;exact i a
theorem F7{env:Env}(hk:env.scope.kind= .function):∀ {names:List (Str×f6)} {x:Str},names.lookup x=some .free->
 (names.map fun(n,k)=>if(k==cS&&env.scope.kind== .function&&env.kindOf n==some .cell)then(n,bb)else(n,k)).lookup x=some .cell\/
 (names.map fun(n,k)=>if(k==cS&&env.scope.kind== .function&&env.kindOf n==some .cell)then(n,bb)else(n,k)).lookup x=some .free
 |[],_,h=>by simp at h
 |(n,a)::r,x,h=>by
  have e:= @F7 env hk r x;show dN x ((if(a==cS&&env.scope.kind== .function&&env.kindOf n==some .cell)=true then(n,bb)else(n,a))::_)=_\/dN x ((if(a==cS&&env.scope.kind== .function&&env.kindOf n==some .cell)=true then(n,bb)else(n,a))::_)=_
  cases b:x==n with
  |true=>
   rw[aY,b]at h
   by_cases d:(a==cS&&env.scope.kind== .function&&env.kindOf n==some .cell)=true
   ·rw[aO d,aY,b];exact .inl rfl
   ·rw[aB d,aY,b];exact .inr h
  |false=>
   rw[aY,b]at h
   by_cases d:(a==cS&&env.scope.kind== .function&&env.kindOf n==some .cell)=true
   ·rw[aO d,aY,b];exact e h
   ·rw[aB d,aY,b];exact e h
theorem FM{σ:zQ0}{i:Nat}(h:i<own.length):(AY own sel σ)[i]? =some none:=by
 unfold AY;rw[da (by simpa using h),am,ai h]
 rfl
theorem K1{σ:zQ0}{i:Nat}{v:V}(h:(AY own sel σ)[i]? =some (some v)):∃k j,i=own.length+k/\sel[k]? =some j/\σ[j]? =some (some v):=by
 by_cases hi:i<own.length
 ·rw[FM hi]at h;cases h
 ·unfold AY at h;rw[cB (by simpa using hi),am]at h;rw[ax]at h
  cases e:sel[i-own.length]? with
  |none=>rw[e]at h;cases h
  |some j=>
   rw[e]at h;simp only[je,e8]at h;refine⟨i-own.length,j,by lia,e,?_⟩;rw[af]at h
   cases q:σ[j]? with
   |none=>rw[q]at h;cases h
   |some u=>rw[q]at h;simp at h;rw[h]
theorem K2{σ:zQ0}:(AY own sel σ).length=own.length+sel.length:=by
 unfold AY;simp
structure Far (X:Cx) (pins:List (Addr×Obj)) (H:Hp) (C:Addr):Prop where
 nt:H C=none
 nl:C≠X.env.locals
 up:X.s₀.heap.objs.size<=C
 nc:∀x c,X.env.cells.lookup x=some c->c≠C
 np:∀p∈X.pn++pins,p.1≠C
theorem Inv.far{σ:zQ0}{s:ak}{C:Addr}(I:Inv X pins σ H s)(f:Far X pins H C)(k:bu C s.heap h'):Inv X pins σ H {s with heap:=h'}:=
 I.turned (t':=s.toks) (λb o a e=>(k.2 b a).trans e) f.nt f.nl (.inr f.up) f.nc f.np
section
variable{σ:zQ0}{s:ak}
theorem Inv.bigAfter(I:Inv X pins σ H s)(a:∀b∈ch,BQ X pins H b)(k:∀b u,b∉ch->s.heap.get? b=some u->h'.get? b=some u):∃b o,1<b/\h'.get? b=some o:=by
 obtain⟨o,_,_,e,_⟩:=I.ok.mod.glob;refine⟨a',o,by decide,k _ _ (λz=>?_) (I.bk _ _ e)⟩;rcases(a _ z).2.2.2.1 with q|q
 ·exact I.ok.noex _ _ e q
 ·exact absurd (aI (au e) (bj I.ok.bsz q)) (bU _)
theorem Inv.turnedLaid{o:HO}(I:Inv X pins σ H s)(i:∀b∈ch,BQ X pins H b)(k:∀b u,b∉ch->s.heap.get? b=some u->h'.get? b=some u)(y:s.1.1.size<=a)
 (new:ObjOk X.prog X.w (upd H a o) h' a o):Inv X pins σ (upd H a o) {s with heap:=h',toks:=t'}:=by
 have x:H a=none:=I.hok.fresh y;have ne:∀b u,s.heap.get? b=some u->b≠a:=λb u e=>aN (aI (au e) y);have nt:∀b u,H b=some u->b∉ch:=λb u e z=>by rw[(i b z).1]at e;cases e
 refine I.step (g':=s.gens) (d':=s.drawn) (ch:=ch) (λb d=>⟨(i b d).2.2.2.1,(i b d).2.1,(i b d).2.2.2.2.1,(i b d).2.2.2.2.2⟩) (λb u _ _ j e _=>k b u j e) (λb u _ _ j e _=>⟨u.slots,k b u j e⟩)
  (λb u _ e n=>by rw[AI (ne b u e)];exact n) (λb u j e=>⟨u,k b u j e⟩) (λb B e=>by rw[AI (AS e x)];exact e) (λb u B e=>by rw[AI (AS e x)];exact e)
  (λb P e=>⟨#[],by rw[AI (AS e x),e];simp⟩) (λm G=>?_) ⟨λb u e=>?_,λu e=>I.hok.sm u (by
    by_cases d:bJ=a
    ·obtain⟨b,Q,l,q⟩:=I.hok.bg;exact absurd (dL l (show b<bJ from by rw[d];exact aI (au q) y)) (bU 1)
    ·rw[AI d]at e;exact e),I.bigAfter i k⟩ I.bare
 ·obtain⟨ob,J,L,M,r⟩:=G;exact⟨ob,J,L,k _ ob (λz=>(i _ z).2.1 rfl) M,r⟩
 ·by_cases d:b=a
  ·subst d;rw[AF]at e;cases e;exact new
  ·rw[AI d]at e;refine(I.hok b u e).stay (λc v j q=>k c v ?_ q) (λc q=>by rw[AI (AS q x)];exact q) λc B q=>by rw[AI (AS q x)];exact q
   rcases j with z|z
   ·rw[z];exact nt b u e
   ·exact nt c _ z
theorem Inv.turnedAll(I:Inv X pins σ H s)(a:∀b∈ch,BQ X pins H b)(k:∀b u,b∉ch->s.heap.get? b=some u->h'.get? b=some u):Inv X pins σ H {s with heap:=h',toks:=t'}:=by
 have nt:∀b u,H b=some u->b∉ch:=λb u e z=>by rw[(a b z).1]at e;cases e
 refine I.step (g':=s.gens) (d':=s.drawn) (ch:=ch) (λb i=>⟨(a b i).2.2.2.1,(a b i).2.1,(a b i).2.2.2.2.1,(a b i).2.2.2.2.2⟩) (λb u _ _ d e _=>k b u d e) (λb u _ _ d e _=>⟨u.slots,k b u d e⟩)
  (λb u _ e n=>n) (λb u d e=>⟨u,k b u d e⟩) (λb j e=>e) (λb u j e=>e) (λb G e=>⟨#[],by rw[e];simp⟩) (λm o=>?_) ⟨λb u e=>?_,I.hok.sm,I.bigAfter a k⟩ I.bare
 ·obtain⟨ob,x,y,B,r⟩:=o;exact⟨ob,x,y,k _ ob (λz=>(a _ z).2.1 rfl) B,r⟩
 ·refine(I.hok b u e).stay (λc v d q=>k c v ?_ q) (λc q=>q) λc j q=>q;rcases d with z|z
  ·rw[z];exact nt b u e
  ·exact nt c _ z
end
def Its(x:Str):zQ1:=⟨λi _=>i<x.cps.size,λi H v a=>a=H/\∃c,x.cps[i]? =some c/\v= .str ⟨#[c]⟩,λi _=>i=x.cps.size⟩
theorem Kb{x:Str}{t:Tok}{T:String}{it:Addr}(Y:T="str_ascii_iterator"\/T="str_iterator")
 (W:∀A:eR,A.handled=none->Walks P w A it [it] [it] x.cps.size (SignAt x) (λi h=>h.IsStrIter it T x t i))
 (Z:∀ (A:eR) (i:Nat) (s:ak) (Q:ah->ak->Prop) (E:ah->ak->Prop),s.heap.IsStrIter it T x t i->Q (.ref it) s->aH (aR P w) A (i8 (.ref it)) Q E s):
 Turn P w K tg (Its x) [it] it (λi h=>h.IsStrIter it T x t i) where
 mem:=by simp
 obj:=λi h a b B=>by
  obtain⟨o,d,_,hd⟩:=a;have e:b=it:=by simpa using B
  subst e;exact⟨o,d,λv z=>by rw[hd]at z;cases z⟩
 keep:=λi h q a k=>by
  obtain⟨o,d,r⟩:=a;exact⟨o,k it nC o d,r⟩
 item:=by
  intro X G J L M i pins s σ H E I y a hg;subst G J L;refine(W X.A (I.ok.hd M)).item i s _ _ hg a λv q R hv j S=>?_;obtain⟨c,u,hx,rfl⟩:=hv;obtain⟨o,d,U,hd⟩:=id j;have I1:Inv X pins σ H {s with heap:=q,toks:=R}:=I.turnedAll y S;refine⟨_,rfl,Fo (s:={s with heap:=q,toks:=R}) (n:=T) d U hd (by rcases Y with rfl|rfl<;>decide) ⟨.str ⟨#[c]⟩,H,I1,⟨u,rfl⟩,⟨rfl,c,hx,rfl⟩,j,λb B=>(y b B).1⟩⟩
 done:=by
  intro X G J L M i pins s σ H E I y a hg;subst G J L;have e:i=x.cps.size:=hg;subst e;exact(W X.A (I.ok.hd M)).done s _ _ a λq R S=>⟨rfl,I.turnedAll y S⟩
 self:=λA i s Q E a h=>Z A i s Q E a h
def N2(a:TE):TI:=λσ H R=>a σ H λx b=>∃z,x= .str z/\R (Its z) b
theorem CN{l:Expr}(J:PE X l tl):PI X tg l (N2 tl):=by
 intro pins s σ H R I h;refine thn (J pins s σ H _ I h) λv a L=>?_;obtain⟨x,r,j,M,P⟩:=L;obtain⟨z,rfl,q⟩:=P;obtain⟨t,rfl⟩:=M;have d:∀b∈[a.1.1.size],BQ X pins r b:=λb S=>by
  have e:b=a.1.1.size:=by simpa using S
  subst e;exact j.fpOk (ao _) (j.hok.fresh (ao _))
 cases G:z.cps.all (· <128)
 ·refine wpAny_pyIter_wide G ⟨a.1.1.size,[a.1.1.size],_,_,r,rfl,j.kept (t':=a.toks) λb o e=>ae _ e,Kb (t:=t) (T:="str_iterator") (.inr rfl) (λA y=>Walks.strWide y _ z t) (λA i s Q E B h=>wpAny_pyIter_striter_wide B h),⟨_,ap _ rfl,rfl,rfl⟩,d,q⟩
 ·refine wpAny_pyIter_ascii G ⟨a.1.1.size,[a.1.1.size],_,_,r,rfl,j.kept (t':=a.toks) λb o e=>ae _ e,Kb (t:=t) (T:="str_ascii_iterator") (.inl rfl) (λA y=>Walks.strAscii y _ z t) (λA i s Q E B h=>wpAny_pyIter_striter_ascii B h),⟨_,ap _ rfl,rfl,rfl⟩,d,q⟩
def Dx(x:Str):zQ1:=⟨λi _=>i<x.cps.size,λi H v a=>∃T c,H T=none/\x.cps[i]? =some c/\v= .ref T/\a=upd H T (.tup [.int i, .str ⟨#[c]⟩]),λi _=>i=x.cps.size⟩
def Iq(K:W.Frag)(a:Addr):zQ1:=⟨λi H=>∃b x,SqL K H a b/\b[i]? =some x,λi H v d=>∃T x,H T=none/\(∀b,SqL K H a b->b[i]? =some x)/\v= .ref T/\d=upd H T (.tup [.int i,x]),
 λi H=>∃b,SqL K H a b/\i=b.length⟩
section
variable{k:Nat}
theorem KM{σ:zQ0}{s:ak}{it:Addr}{fp:List Addr}{i:Nat}{Pr:Nat->ah->Prop}{zQ0:Nat->Heap->Prop}{old:ah}
 (D:jt X.prog X.w X.A.in1 it fp n Pr zQ0) (I:Inv X pins σ H s) (hf:∀b∈[e,it],BQ X pins H b) (he:mF s.heap e it i old) (d:zQ0 i s.heap) (L:i<n) (M:e≠it) (j:e∉fp)
 (Q:∀R o,mF R e it ((i:Int)+1) o->zQ0 (i+1) R->tn R) (y:∀v,Pr i v->∃z,RelV z v/\Qx v H z):
 aH (aR X.prog X.w) X.A (fv (.ref e)) (λr s1=>∃u,r=some u/\aH (aR X.prog X.w) X.A (cO (.Tuple elts k tpos) (.ref e) u) (λ_ s2=>∃x S,Inv X pins σ S s2/\RelV x u/\
  (∃T z v,H T=none/\Pr i v/\RelV z v/\Qx v H z/\x= .ref T/\S=upd H T (.tup [.int i,z]))/\tn s2.heap/\∀b∈[e,it],S b=none) E s1) E s:=by
 refine wpAny_pyNext_enum_itemD D he d L M j λv h1 G hP ho U hT hsz hk=>⟨_,rfl,wpAny_letOwnedTupleGo_enum ho λJ Y a=>?_⟩;obtain⟨z,rz,qz⟩:=y v hP;have B:e<s.1.1.size:=au he;have Z:it<s.1.1.size:=by obtain⟨_,q⟩:=D.live _ _ d;exact au q
 have hT2:J.get? s.1.1.size=some {cls:= .type "tuple",data:= .seq #[.int i G,v]}:=(a.2 _ (eL B)).trans hT;have ob:ObjOk X.prog X.w (upd H s.1.1.size (.tup [.int i,z])) J s.1.1.size (.tup [.int i,z]):=⟨(by show 2<=sizeLine;decide),[.int i G,v], .cons ⟨G,rfl⟩ (.cons rz .nil),⟨_,hT2,rfl,_,rfl⟩⟩;have I2:Inv X pins σ (upd H s.1.1.size (.tup [.int i,z])) {s with heap:=J,toks:=G+1}:=I.turnedLaid hf (λb u hb q=>(a.2 b (λz=>hb (by simp[z]))).trans (hk b u (λz=>hb (by simp[z])) (λz=>hb (by simp[z])) q)) (ao _) ob;refine⟨.ref s.1.1.size,_,I2,rfl,⟨s.1.1.size,z,v,I.hok.fresh (ao _),hP,rz,qz,rfl,rfl⟩,Q J _ Y (D.frame _ _ _ U λb hb o q=>(a.2 b λz=>j (z▸hb)).trans q),λb hb=>?_⟩;have hb':b≠s.1.1.size:=by
  rcases aJ.mp hb with z|hb
  ·rw[z];exact aN B
  ·rw[aV.mp hb];exact aN Z
 rw[AI hb'];exact(hf b hb).1
theorem JX{x:Str}{t:Tok}{T:String}{it:Addr}(y:e≠it)
 (W:∀A:eR,A.handled=none->jt P w A it [it] x.cps.size (λi v=>∃c u,x.cps[i]? =some c/\v= .str ⟨#[c]⟩ u) (λi h=>h.IsStrIter it T x t i)):
 Turn P w K (.Tuple elts k tpos) (Dx x) [e,it] e (λi h=>(∃old,mF h e it i old)/\h.IsStrIter it T x t i) where
 mem:=by simp
 obj:=λi h d b hb=>by
  obtain⟨⟨old,j⟩,o,G,_,hd⟩:=d;rcases aJ.mp hb with z|hb
  ·subst z;exact⟨_,j,λv z=>by cases z⟩
  ·rw[aV.mp hb];exact⟨o,G,λv z=>by rw[hd]at z;cases z⟩
 keep:=λi h Y d k=>by
  obtain⟨⟨old,j⟩,o,G,r⟩:=d;exact⟨⟨old,k e nC _ j⟩,o,k it nC o G,r⟩
 item:=by
  intro X J L M R i pins s σ H E I S d hg;subst J L M;obtain⟨⟨old,j⟩,d⟩:=d;refine thn (KM (elts:=elts) (k:=k) (tpos:=tpos) (Qx:=λv H z=>∃c,x.cps[i]? =some c/\z= .str ⟨#[c]⟩) (tn:=λh=>(∃old,mF h e it ((i+1:Nat):Int) old)/\h.IsStrIter it T x t (i+1)) (W X.A.in1 (I.ok.hd R)) I S j d hg y (λz=>y (aV.mp z)) (λY o a b=>⟨⟨o,by simpa using a⟩,b⟩) ?_) ?_
  ·rintro v ⟨c,u,B,rfl⟩;exact⟨.str ⟨#[c]⟩,⟨u,rfl⟩,c,B,rfl⟩
  ·rintro r s1 ⟨u,Z,h1⟩;refine⟨u,Z,thn h1 ?_⟩;rintro _ s2 ⟨xv,H',I2,rx,⟨Ta,z,v,hT,hv,rz,⟨c,B,rfl⟩,ex,eH⟩,U,fr⟩;exact⟨xv,H',I2,rx,⟨Ta,c,hT,B,ex,eH⟩,U,fr⟩
 done:=by
  intro X J L M R i pins s σ H E I S d hg;subst J L M;obtain⟨⟨old,j⟩,d⟩:=d;have ei:i=x.cps.size:=hg;subst ei;exact iT (W X.A.in1 (I.ok.hd R)) j d λY B=>⟨rfl,I.turnedAll (t':=s.toks) S λb o hb q=>B b o (λz=>hb (by simp[z])) q⟩
 self:=λA i s Q E d h=>by
  obtain⟨⟨old,j⟩,_⟩:=d;exact fU j h
theorem Pt{it:Addr}(B:e≠it)(G:a≠it)(R:a≠e):
 Turn P w K (.Tuple elts k tpos) (Iq K a) [e,it] e (λi h=>(∃old,mF h e it i old)/\h.IsListIter it a i) where
 mem:=by simp
 obj:=λi h j b hb=>by
  obtain⟨⟨old,y⟩,o,S,_,hd⟩:=j;rcases aJ.mp hb with z|hb
  ·subst z;exact⟨_,y,λv z=>by cases z⟩
  ·rw[aV.mp hb];exact⟨o,S,λv z=>by rw[hd]at z;cases z⟩
 keep:=λi h h' j k=>by
  obtain⟨⟨old,y⟩,o,S,r⟩:=j;exact⟨⟨old,k e nC _ y⟩,o,k it nC o S,r⟩
 item:=by
  intro X T U Y Z i pins s σ H E I hf j hg;subst T U Y;obtain⟨⟨old,y⟩,j⟩:=j;obtain⟨xs,x,M,J⟩:=hg;obtain⟨d,rv,pl,hz⟩:=I.list M;have hl:=rv.length;have hil:i<xs.length:=(az.mp J).1;have D:jt X.prog X.w X.A.in1 it [it,a] d.toArray.size (λi v=>d.toArray[i]? =some v) (λi h=>h.IsListIter it a i/\h.IsList a d.toArray):=l4 (A:=X.A.in1) (I.ok.hd Z) it a G d.toArray;refine thn (KM (elts:=elts) (k:=k) (tpos:=tpos) (Qx:=λv H z=>z=x) (tn:=λh=>(∃old,mF h e it ((i+1:Nat):Int) old)/\h.IsListIter it a (i+1)) D I hf y ⟨j,pl.isList⟩ (by rw[av,<-hl];exact hil) B (λz=>?_) (λh' o a b=>⟨⟨o,by simpa using a⟩,b.1⟩) ?_) ?_
  ·rcases aJ.mp z with z|z
   ·exact B z
   ·exact R (aV.mp z).symm
  ·intro v hv;obtain⟨u,eu,ru⟩:=rv.get J;have:v=u:=by
    have L:d[i]? =some v:=by simpa using hv
    rw[eu]at L;exact(bi L).symm
   subst this;exact⟨x,ru,rfl⟩
  ·rintro r s1 ⟨u,hr,h1⟩;refine⟨u,hr,thn h1 ?_⟩;rintro _ s2 ⟨xv,H',I2,rx,⟨Ta,z,v,hT,hv,rz,rfl,ex,eH⟩,tn2,fr⟩;refine⟨xv,H',I2,rx,⟨Ta,z,hT,λys hys=>?_,ex,eH⟩,tn2,fr⟩;rw[I.list_inj hys M];exact J
 done:=by
  intro X T U Y Z i pins s σ H E I hf j hg;subst T U Y;obtain⟨⟨old,y⟩,j⟩:=j;obtain⟨xs,M,ei⟩:=hg;obtain⟨d,rv,pl,hz⟩:=I.list M;have hl:=rv.length;have D:jt X.prog X.w X.A.in1 it [it,a] d.toArray.size (λi v=>d.toArray[i]? =some v) (λi h=>h.IsListIter it a i/\h.IsList a d.toArray):=l4 (A:=X.A.in1) (I.ok.hd Z) it a G d.toArray;have es:i=d.toArray.size:=by rw[av,<-hl];exact ei
  exact iT D y ⟨es▸j,pl.isList⟩ λh' J=>⟨rfl,I.turnedAll (t':=s.toks) hf λb o hb q=>J b o (λz=>hb (by simp[z])) q⟩
 self:=λA i s Q E j h=>by
  obtain⟨⟨old,y⟩,_⟩:=j;exact fU y h
end
def N3(a:TA):TI:=λσ H R=>a σ H λvs b=>∃z,vs=[.str z]/\R (Dx z) b
def Ik(K:W.Frag)(d:TA):TI:=λσ H R=>d σ H λvs b=>∃a,vs=[.ref a]/\(∃e,SqL K b a e)/\R (Iq K a) b
section
variable{a:Expr}{pos:Pos}{k:Nat}
theorem Hx{σ:zQ0}{s:ak}(I:Inv X pins σ H s):∀b∈[s.1.1.size+1,s.1.1.size],BQ X pins H b:=λb hb=>by
 rcases aJ.mp hb with z|hb
 ·subst z;exact I.fpOk (gJ _) (I.hok.fresh (gJ _))
 ·rw[aV.mp hb];exact I.fpOk (ao _) (I.hok.fresh (ao _))
theorem SD(hg:Gl X "enumerate")(J:X.mg "enumerate"=none)(L:PA X [a] ta)(M:aL [a] X.env=[(false,eval a X.env)]:=by rfl):PI X (.Tuple elts k tpos) (.Call (.Name "enumerate" p) [a] [] pos) (N3 ta):=by
 intro pins s σ H R I h;refine Call_ (CP I hg J boot_enumerate (bY (thn (L pos pins s σ H _ I h) λY d ⟨vs,B,o,P,Q⟩=>?_) M rfl));obtain⟨z,e,q⟩:=Q;subst e
 cases P with
 |cons r S=>
  cases S
  obtain⟨t,rfl⟩:=r;refine call_enumerate_str λG x j U hk=>fU x ?_
  cases i:z.cps.all (· <128)
  ·have b:G.IsStrIter d.1.1.size "str_iterator" z t 0:=by simpa[fi,i]using j
   exact⟨d.1.1.size+1,[d.1.1.size+1,d.1.1.size],_,_,B,rfl,o.kept (t':=d.toks) hk,JX (t:=t) (T:="str_iterator") (iO _) (λA y=>mm y _ z t),⟨⟨_,x⟩,b⟩,Hx o,q⟩
  ·have b:G.IsStrIter d.1.1.size "str_ascii_iterator" z t 0:=by simpa[fi,i]using j
   exact⟨d.1.1.size+1,[d.1.1.size+1,d.1.1.size],_,_,B,rfl,o.kept (t':=d.toks) hk,JX (t:=t) (T:="str_ascii_iterator") (iO _) (λA y=>lS y _ z t),⟨⟨_,x⟩,b⟩,Hx o,q⟩
theorem SE(hg:Gl X "enumerate")(z:X.mg "enumerate"=none)(B:PA X [a] ta)(G:aL [a] X.env=[(false,eval a X.env)]:=by rfl):PI X (.Tuple elts k tpos) (.Call (.Name "enumerate" p) [a] [] pos) (Ik X.K ta):=by
 intro pins s σ H R I h;refine Call_ (CP I hg z boot_enumerate (bY (thn (B pos pins s σ H _ I h) λU b ⟨vs,J,d,L,M⟩=>?_) G rfl));obtain⟨l,e,⟨Y,P⟩,q⟩:=M;subst e
 cases L with
 |cons r Q=>
  cases Q
  cases r
  obtain⟨S,rv,o,Z⟩:=d.list P;obtain⟨ol,i,_⟩:=id o.isList;have x:l<b.1.1.size:=au i;refine call_enumerate_list o.isList λh' y j T hk=>fU y ?_;exact⟨b.1.1.size+1,[b.1.1.size+1,b.1.1.size],_,_,J,rfl,d.kept (t':=b.toks) hk,Pt (iO _) (aN x) (aN (ce x)),⟨⟨_,y⟩,j⟩,Hx d,q⟩
end
def tx(l:List Nat):V:= .str ⟨l.toArray⟩
theorem tx_inj{a b:List Nat}:tx a=tx b↔a=b:=by
 unfold tx
 constructor
 ·intro h;injection h with h
  injection h with h
  simpa using cx f' h
 ·rintro rfl;rfl
theorem BF(a:List Nat):(⟨a.toArray⟩:Str).length=a.length:=by simp[Str.length]
theorem Fe(a b:List Nat):eqV (tx a) (tx b)=decide (a=b):=by
 have e:eqV (tx a) (tx b)=((⟨a.toArray⟩:Str)==⟨b.toArray⟩):=rfl;rw[e]
 by_cases h:a=b
 ·subst h;simp
 ·rw[aX h,beq_eq_false_iff_ne];intro q;exact h (tx_inj.mp (cx V.str q))
theorem Mz(a b:List Nat):decide (tx a=tx b)=decide (a=b):=by
 by_cases h:a=b
 ·subst h;simp
 ·rw[aX h,aX (λq=>h (tx_inj.mp q))]
theorem NM{x:Str}{l:List Nat}{j pos}(h:x=⟨l.toArray⟩):PE X (.Constant (.str x) j pos) (tC (tx l)):=by
 subst h;exact DA
theorem op_addT:OpR X (dO .Add) (λx y H Q=>∃a b,x=tx a/\y=tx b/\a.length+b.length<=sizeLine/\Q (tx (a++b)) H):=by
 intro pins s σ H x y v u Q I d i ⟨a,b,e1,e2,hz,q⟩;subst e1 e2;refine P7 pins s σ H _ _ v u Q I d i ⟨_,_,rfl,rfl,by rw[BF,BF];exact hz,?_⟩;have e:(V.str ((⟨a.toArray⟩:Str)++⟨b.toArray⟩))=tx (a++b):=by
  unfold tx;congr 1;show(⟨a.toArray++b.toArray⟩:Str)=_;simp
 rw[e];exact q
def rIxT':R2:=λx y H Q=>∃a i c,x=tx a/\y= .int i/\a.length<=sizeLine/\atI a i=some c/\Q (tx [c]) H
theorem ix_T:IxR X rIxT':=by
 intro value slice pins s σ H x y v u Q I b d ⟨a,i,c,e1,e2,hz,he,q⟩ hs;subst e1 e2;exact WG value slice pins s σ H _ _ v u Q I b d ⟨_,i,c,rfl,rfl,by rw[BF];exact hz,by simpa using he,q⟩ hs
theorem call_lenT:CallR X (.builtin "len") (λb H Q=>∃a,b=[tx a]/\a.length<=sizeLine/\Q (.int a.length) H):=by
 intro pins s σ H b d Q I r ⟨a,e,hz,q⟩;subst e;refine O1 pins s σ H _ d Q I r ⟨_,rfl,by rw[BF];exact hz,?_⟩;rw[BF];exact q
theorem op_inT:OpR X (bt .In) (λx y H Q=>∃c l,x=tx [c]/\y=tx l/\Q (.bl (decide (c∈l))) H):=by
 intro pins s σ H x y v u Q I a b ⟨c,l,e1,e2,q⟩;subst e1 e2;refine Qp pins s σ H _ _ v u Q I a b ⟨_,_,rfl,rfl,?_⟩;have e:=iE (⟨l.toArray⟩:Str) c;simp only at e;rw[show(⟨[c].toArray⟩:Str)=⟨#[c]⟩from rfl,e];exact q
theorem op_notinT:OpR X (bt .NotIn) (λx y H Q=>∃c l,x=tx [c]/\y=tx l/\Q (.bl (!decide (c∈l))) H):=by
 intro pins s σ H x y v u Q I a b ⟨c,l,e1,e2,q⟩;subst e1 e2;refine Ot pins s σ H _ _ v u Q I a b ⟨_,_,rfl,rfl,?_⟩;have e:=iE (⟨l.toArray⟩:Str) c;simp only at e;rw[show(⟨[c].toArray⟩:Str)=⟨#[c]⟩from rfl,e];exact q
theorem Kr(a:List Nat):∀ (n:Nat) (b:Array Nat),((aS n a.toArray).foldl (· ++ ·) b)=(b.toList++(aS n a).flatten).toArray
 |0,b=>by simp
 |n+1,b=>by
  rw[bQ,lJ,Kr a n,bQ,cz];simp
set_option tactic.hygienic true in
theorem Lq:OpR X (dO .Mult) (λx y H Q=>∃a k,x=tx a/\y= .int k/\0<=k/\k<=1000/\a.length<=1000/\Q (tx (aS k.toNat a).flatten) H):=by
 intro pins s σ H x y v u Q I b d ⟨a,k,e1,e2,h0,h1,hl,q⟩;subst e1 e2;obtain⟨t,rfl⟩:=b;obtain⟨r,rfl⟩:=d;have e:Txt.mul ⟨a.toArray⟩ k=⟨((aS k.toNat a).flatten).toArray⟩:=by
  unfold Txt.mul
  by_cases hk:k<1
  ·have:k=0:=by lia
   subst this
   rfl
  ·rw[aB hk]
   split
   ·rename_i hc
    rw[BF]at hc;simp only[bP,bE]at hc;rcases hc with hc|hc
    ·subst hc;simp
    ·have:a=[]:=fN.mp hc;subst this;simp
   ·simp only;rw[Kr];simp
 refine SB.mul ⟨by simp;lia,λi _=>?_,λi _=>?_⟩ λj o=>⟨tx (aS k.toNat a).flatten,H,I.tok o,⟨j,by rw[e]⟩,q⟩
 ·rw[BF];have:(1000:Int)<=(2^63-1)/k:=by
   refine Int.le_ediv_of_mul_le nA ?_;lia
  lia
 ·rw[BF];unfold Builtin.Str.tooLong;have z:sizeLine=16777216:=cj;have:a.length*k.toNat<=1000*1000:=Nat.mul_le_mul hl nA;simp;lia
def Ap{α:Type}(xs:List α)(lo hi:Option Int):List α:=(xs.drop (HT.sIx xs.length 0 lo)).take (HT.sIx xs.length xs.length hi-HT.sIx xs.length 0 lo)
theorem NW(v:Option Int)(n d:Nat)(hd:d<=n):(match v with|none=>(d:Int)|some i=>max 0 (min (if i<0 then i+(n:Int)else i) (n:Int)))=((HT.sIx n d v:Nat):Int):=by
 cases v with
 |none=>rfl
 |some i=>
  show max 0 (min (if i<0 then i+(n:Int)else i) (n:Int))=(((if i<0 then(i+(n:Int)).toNat else min i.toNat n):Nat):Int)
  by_cases a:i<0
  ·simp only[aO a];lia
  ·simp only[aB a];lia
theorem Ua(lo hi:Option Int)(n:Nat):eN lo hi 1 n=(aw (HT.sIx n n hi-HT.sIx n 0 lo)).map λk=>HT.sIx n 0 lo+k:=by
 have b:(1:Int)>0:=by lia
 have a:eN lo hi 1 n=jv ((HT.sIx n 0 lo:Nat):Int) ((HT.sIx n n hi:Nat):Int) 1:=by
  unfold eN;simp only[b,fJ];congr 1
  ·cases lo with
   |none=>rfl
   |some i=>exact NW (some i) n 0 (bA _)
  ·cases hi with
   |none=>rfl
   |some i=>exact NW (some i) n n (ao _)
 rw[a];unfold jv;simp only[b,fJ];have d:(if((HT.sIx n 0 lo:Nat):Int)<((HT.sIx n n hi:Nat):Int)then(((HT.sIx n n hi:Nat):Int)-((HT.sIx n 0 lo:Nat):Int)+1-1)/1 else 0).toNat=HT.sIx n n hi-HT.sIx n 0 lo:=by
  split<;>lia
 rw[d];refine dw λk _=>?_;lia
theorem SA(a:List Nat)(i k:Nat):((aw k).map λm=>i+m).filterMap (λj=>a.toArray[j]?)=(a.drop i).take k:=by
 rw[List.filterMap_map]
 induction k generalizing i with
 |zero=>simp
 |succ k b=>
  rw[bZ,jm,b i,cy];congr 1;simp only[dy,List.filterMap_nil,Function.comp];rw[kj];simp only[jl]
  cases a[i+k]? <;>rfl
theorem M3(a:List α)(lo hi:Option Int):(Ap a lo hi).length<=a.length:=by
 unfold Ap;rw[cc,iQ];lia
def rSlS:V->Option Int->Option Int->Hp->VK->Prop:=λx lo hi H Q=>∃a,x=tx a/\a.length<=sizeLine/\Q (tx (Ap a lo hi)) H
set_option tactic.hygienic true in
theorem sl_T:SlR X rSlS:=by
 intro pins s σ H x v o r lo hi U Q I y z B G ⟨a,e,hz,q⟩;subst e;obtain⟨t,rfl⟩:=y;refine⟨"str",_,F.slot_str_getitem.lookup,eV _ _ _,?_⟩;obtain⟨l,J,L⟩:∃l:Option (Int×Tok),o=partValue l/\l.map (·.1)=lo:=by
  cases B with
  |none=>exact⟨none,rfl,rfl⟩
  |int i t=>exact⟨some (i,t),rfl,rfl⟩
 obtain⟨u,M,P⟩:∃u:Option (Int×Tok),r=partValue u/\u.map (·.1)=hi:=by
  cases G with
  |none=>exact⟨none,rfl,rfl⟩
  |int i t=>exact⟨some (i,t),rfl,rfl⟩
 subst J M;refine wpAny_getItem_str_slice (l:=l) (u:=u) (st:=none) z rfl ?_;have R:=M3 a lo hi;have j:iz ⟨a.toArray⟩ l u none=(aw (HT.sIx a.length a.length hi-HT.sIx a.length 0 lo)).map λk=>HT.sIx a.length 0 lo+k:=by
  unfold iz;rw[L,P,BF];exact Ua lo hi a.length
 have S:((iz ⟨a.toArray⟩ l u none).filterMap (a.toArray[·]?))=Ap a lo hi:=by
  rw[j];exact SA a _ _
 unfold sliceMade;refine post_val_or_str ?_;have fin:(if((Option.map (λx=>x.1) (none:Option (Int×Tok))).getD 1==1&&(iz ⟨a.toArray⟩ l u none).length==(⟨a.toArray⟩:Str).length)=true then(⟨a.toArray⟩:Str)else⟨((iz ⟨a.toArray⟩ l u none).filterMap (a.toArray[·]?)).toArray⟩)=⟨(Ap a lo hi).toArray⟩:=by
  rw[S]
  split
  ·rename_i d
   rw[j,BF]at d;simp only[Option.map_none,iN,fh,iJ,ax,cY,bE]at d;have Y:HT.sIx a.length a.length hi<=a.length:=HT.sIx_le _ _ (ao _) _;have h0:HT.sIx a.length 0 lo=0\/a.length=0:=by lia
   unfold Ap;rw[d];rcases h0 with h0|h0
   ·rw[h0,ff,dD]
   ·have:a=[]:=fN.mp h0;subst this;simp
  ·rfl
 have b:=fin;simp only at b⊢;rw[b];refine⟨by rw[BF];lia,λT k=>⟨tx (Ap a lo hi),H,I.tok k,⟨T,rfl⟩,q⟩⟩
theorem Su:CallR X (.builtin "isinstance") (λd H Q=>∃x T t b,d=[x, .ty T]/\TyOf X.K H x t/\W.kitOne X.K t (.type T)=some b/\Q (.bl b) H):=by
 intro pins s σ H d o Q I r ⟨x,T,t,b,e,ty,hk,q⟩;subst e;obtain⟨u,y,rfl,i,a⟩:=vals2 r
 cases a
 exact Q5 I i ty hk λj=>⟨.bl b,H,I.tok j,rfl,q⟩
theorem RW:CallR X (.builtin "all") (λM H Q=>X.calm=true/\∃ (a:Addr) (bs:List Bool),M=[.ref a]/\SqL X.K H a (bs.map V.bl)/\Q (.bl (bs.all id)) H):=by
 intro pins s σ H M us Q I r ⟨hc,a,bs,e,hq,q⟩;subst e;obtain⟨u,rfl,R⟩:=vals1 r
 cases R
 obtain⟨j,rv,J,hz⟩:=I.list hq;obtain⟨ol,L,_⟩:=id J.isList;have S:a<s.1.1.size:=au L;have d:=rv.length;rw[ax]at d;refine call_all_walk (eU J.isList ⟨s.1.1.size,_,_,_,_,_,λi=>bs.getD i false,rfl,lX (A:=X.A.in1) (I.ok.hd hc) s.1.1.size a (aN S) j.toArray,⟨⟨_,ap _ rfl,rfl,rfl⟩,J.isList.at λo e=>ae _ e⟩,?_,λh' T U=>?_⟩)
 ·intro i v s' Q' E' Y B;have G:j[i]? =some v:=by simpa using Y
  have hi:i<bs.length:=by rw[d];exact(az.mp G).1
  obtain⟨w',P,Z⟩:=rv.get (i:=i) (x:=V.bl bs[i]) (by simp[hi]);rw[G]at P
  cases P
  cases Z
  have:bs.getD i false=bs[i]:=by simp[af,hi]
  simp only[this]at B;exact cr B
 ·have e:(aw j.toArray.size).all (λi=>bs.getD i false)=bs.all id:=by
   rw[av,<-d];rw[d1];simp only[aT,bG,id]
   constructor
   ·intro h b hb;obtain⟨i,hi,rfl⟩:=cC.mp hb;have:=h i hi;simpa[af,hi]using this
   ·intro h i hi;have:=h bs[i] (dF hi);simpa[af,hi]using this
  rw[e];have I1:Inv X pins σ H {s with heap:=s.heap.push {cls:= .type "list_iterator",data:= .fields #[.ref a, .int 0 0]}}:=I.kept (t':=s.toks) λb o z=>ae _ z;refine⟨.bl (bs.all id),H,I.kept (t':=T) λb o z=>U b o (λy=>?_) (ae _ z),rfl,q⟩;exact absurd (au z) (by rw[aV.mp y];exact bU _)
def eqVs:List V->List V->Bool
 |[],[]=>true
 |x::xs,y::ys=>eqV x y&&eqVs xs ys
 |_,_=>false
theorem Gv:∀ {a b:List V},a.length≠b.length->eqVs a b=false
 |[],[],h=>absurd rfl h
 |[],_::_,_=>rfl
 |_::_,[],_=>rfl
 |x::a,y::b,h=>by
  have:eqVs a b=false:=Gv (by simpa using h);show(eqV x y&&eqVs a b)=false;rw[this,Bool.and_false]
theorem GI:∀ (a b:List V),a.length=b.length->(aw a.length).all (λi=>eqV (a.getD i .non) (b.getD i .non))=eqVs a b
 |[],[],_=>rfl
 |x::a,y::b,h=>by
  have d:=GI a b (by simpa using h);rw[aM,fR,fO,mE];show(eqV x y&&_)=(eqV x y&&eqVs a b);rw[<-d]
  rfl
 |[],_::_,h=>by simp at h
 |_::_,[],h=>by simp at h
theorem HY{A:eR}{s:ak}{ws:List ah}(e:Vals xs us)(o:Vals ys ws)(q:xs.all A4=true)(r:ys.all A4=true):
 ∀j (a:j<us.toArray.size) (b:j<ws.toArray.size),lY A s us.toArray[j] ws.toArray[j] (eqV (xs.getD j .non) (ys.getD j .non)):=by
 intro j a b;have L:=e.length;have M:=o.length;rw[av]at a b;have k1:j<xs.length:=by lia
 have d:j<ys.length:=by lia
 obtain⟨u,y,z⟩:=e.get (i:=j) (x:=xs[j]) (by simp[k1]);obtain⟨w',B,G⟩:=o.get (i:=j) (x:=ys[j]) (by simp[d]);have H:us.toArray[j]=u:=by
  have:=ai (l:=us) (i:=j) a;rw[y]at this;simpa using(bi this).symm
 have I:ws.toArray[j]=w':=by
  have:=ai (l:=ws) (i:=j) b;rw[B]at this;simpa using(bi this).symm
 rw[H,I];have J:xs.getD j .non=xs[j]:=by simp[af,k1]
 have g2:ys.getD j .non=ys[j]:=by simp[af,d]
 rw[J,g2];exact Mx z G (aT.mp q _ (dF k1)) (aT.mp r _ (dF d))
def Fx(K:W.Frag)(i:Bool):R2:=λx y H Q=>∃a b d e,x= .ref a/\y= .ref b/\SqL K H a d/\SqL K H b e/\d.all A4=true/\e.all A4=true/\Q (.bl (if i then !eqVs d e else eqVs d e)) H
theorem V3(d:X.A.units<jE):OpR X (bt .Eq) (Fx X.K false):=by
 intro pins s σ H x y v u Q I z B ⟨a,b,xs,ys,e1,e2,q1,q2,f1,f2,q⟩;subst e1 e2
 cases z
 cases B
 obtain⟨J,e,i,z1⟩:=I.list q1;obtain⟨ws,j,o,z2⟩:=I.list q2;have G:=e.length;have L:=j.length
 by_cases r:xs.length=ys.length
 ·refine SeqAt.eq_listAt i.isList o.isList (by simp;lia) d (HY e j f1 f2) ⟨.bl _,H,I,rfl,?_⟩;rw[av,<-G,GI xs ys r];exact q
 ·refine SeqAt.eq_list_lengthsAt i.isList o.isList (by simp;lia) d ⟨.bl _,H,I,rfl,?_⟩;rw[<-Gv r];exact q
theorem V1(d:X.A.units<jE):OpR X (bt .NotEq) (Fx X.K true):=by
 intro pins s σ H x y v u Q I z B ⟨a,b,xs,ys,e1,e2,q1,q2,f1,f2,q⟩;subst e1 e2
 cases z
 cases B
 obtain⟨J,e,i,z1⟩:=I.list q1;obtain⟨ws,j,o,z2⟩:=I.list q2;have G:=e.length;have L:=j.length
 by_cases r:xs.length=ys.length
 ·refine SeqAt.RcNeAt.lists i.isList o.isList (by simp;lia) d (HY e j f1 f2) _ _ _ _ ⟨.bl _,H,I,rfl,?_⟩;rw[av,<-G,GI xs ys r];exact q
 ·refine SeqAt.RcNeAt.lists_lengths i.isList o.isList (by simp;lia) d _ _ _ _ ⟨.bl _,H,I,rfl,?_⟩;have:eqVs xs ys=false:=Gv r;rw[aO rfl,this]at q;exact q
def Dv:V->Bool
 | .non=>true
 | .bl _=>true
 |_=>false
set_option tactic.hygienic true in
theorem V2:OpR X (bt .Is) (λx y H Q=>Dv y=true/\Q (.bl (decide (x=y))) H):=by
 intro pins s σ H x y v u Q I a e ⟨hl,q⟩;refine wpAny_is_plain ?_ ⟨.bl _,H,I,?_,q⟩
 ·cases y<;>first
   |(exact absurd hl aq)
   |(cases e;cases x<;>first|(cases a;rfl)|(obtain⟨t,rfl⟩:=a;rfl))
 ·cases y<;>first
   |(exact absurd hl aq)
   |(cases e;cases x<;>first|(cases a;rfl)|(obtain⟨t,rfl⟩:=a;rfl)|(cases a;rename_i b _ d;cases b<;>cases d<;>rfl)|(cases a;rename_i b d;cases b<;>cases d<;>rfl)|(cases a;rename_i b _ d _;cases b<;>cases d<;>rfl))
set_option tactic.hygienic true in
theorem Qn:OpR X (bt .IsNot) (λx y H Q=>Dv y=true/\Q (.bl (!decide (x=y))) H):=by
 intro pins s σ H x y v u Q I a e ⟨hl,q⟩;refine wpAny_isNot_plain ?_ ⟨.bl _,H,I,?_,q⟩
 ·cases y<;>first
   |(exact absurd hl aq)
   |(cases e;cases x<;>first|(cases a;rfl)|(obtain⟨t,rfl⟩:=a;rfl))
 ·cases y<;>first
   |(exact absurd hl aq)
   |(cases e;cases x<;>first|(cases a;rfl)|(obtain⟨t,rfl⟩:=a;rfl)|(cases a;rename_i b _ d;cases b<;>cases d<;>rfl)|(cases a;rename_i b d;cases b<;>cases d<;>rfl)|(cases a;rename_i b _ d _;cases b<;>cases d<;>rfl))
def rPlus:R2:=λx y H Q=>(∃i j,x= .int i/\y= .int j/\Q (.int (i+j)) H)\/(∃a b,x=tx a/\y=tx b/\a.length+b.length<=sizeLine/\Q (tx (a++b)) H)\/rCat x y H Q
theorem AN:OpR X (dO .Add) rPlus:=op_add.or (op_addT.or V4)
def NJ:R2:=λx y H Q=>∃a k,x=tx a/\y= .int k/\0<=k/\k<=1000/\a.length<=1000/\Q (tx (aS k.toNat a).flatten) H
def rTimes:R2:=λx y H Q=>(∃i j,x= .int i/\y= .int j/\CMul i j/\Q (.int (i*j)) H)\/rRep x y H Q\/NJ x y H Q
theorem BX:OpR X (dO .Mult) rTimes:=op_mul.or (op_rep.or Lq)
def Eu(K:W.Frag):R2:=λx y H Q=>rEq x y H Q\/Fx K false x y H Q
theorem Ag(K:W.Frag)(a:X.A.units<jE)(b:X.K=K:=by rfl):OpR X (bt .Eq) (Eu K):=by subst b;exact op_eq.or (V3 a)
def Fw(K:W.Frag):R2:=λx y H Q=>rNe x y H Q\/Fx K true x y H Q
theorem BN(K:W.Frag)(a:X.A.units<jE)(b:X.K=K:=by rfl):OpR X (bt .NotEq) (Fw K):=by subst b;exact op_ne.or (V1 a)
def Ih(K:W.Frag):R2:=λx y H Q=>(∃c l,x=tx [c]/\y=tx l/\Q (.bl (decide (c∈l))) H)\/rIn K false x y H Q
theorem Ck(K:W.Frag)(a:X.K=K:=by rfl):OpR X (bt .In) (Ih K):=by subst a;exact op_inT.or Qq
def HP(K:W.Frag):R2:=λx y H Q=>(∃c l,x=tx [c]/\y=tx l/\Q (.bl (!decide (c∈l))) H)\/rIn K true x y H Q
theorem E8(K:W.Frag)(a:X.K=K:=by rfl):OpR X (bt .NotIn) (HP K):=by subst a;exact op_notinT.or Ou
def rIsA:R2:=λx y H Q=>Dv y=true/\Q (.bl (decide (x=y))) H
theorem Bd:OpR X (bt .Is) rIsA:=V2
def rIsNotA:R2:=λx y H Q=>Dv y=true/\Q (.bl (!decide (x=y))) H
theorem Qm:OpR X (bt .IsNot) rIsNotA:=Qn
def Et(K:W.Frag):R2:=λx y H Q=>rIxT' x y H Q\/Nv K x y H Q\/Nu K x y H Q
theorem Xv(K:W.Frag)(a:X.K=K:=by rfl):IxR X (Et K):=by subst a;exact ix_T.or (ix_list.or WF)
def Fv(K:W.Frag):V->Option Int->Option Int->Hp->VK->Prop:=λx lo hi H Q=>rSlS x lo hi H Q\/Nt K x lo hi H Q
theorem A0(K:W.Frag)(a:X.K=K:=by rfl):SlR X (Fv K):=by subst a;exact sl_T.or TC
def Es(K:W.Frag):List V->Hp->VK->Prop:=λd H Q=>(∃a,d=[tx a]/\a.length<=sizeLine/\Q (.int a.length) H)\/∃p b,d=[.ref p]/\(SqL K H p b\/SqT K H p b)/\Q (.int b.length) H
theorem RT(K:W.Frag)(a:X.K=K:=by rfl):CallR X (.builtin "len") (Es K):=by subst a;exact call_lenT.or O2
def Nw(K:W.Frag):List V->Hp->VK->Prop:=λb H Q=>∃ (a:Addr) (bs:List Bool),b=[.ref a]/\SqL K H a (bs.map V.bl)/\Q (.bl (bs.all id)) H
theorem D9(K:W.Frag)(a:X.calm=true)(b:X.K=K:=by rfl):CallR X (.builtin "all") (Nw K):=by subst b;exact λpins s σ H d e Q I r h=>RW pins s σ H d e Q I r ⟨a,h⟩
def Ig(K:W.Frag):List V->Hp->VK->Prop:=λa H Q=>∃x T t b,a=[x, .ty T]/\TyOf K H x t/\W.kitOne K t (.type T)=some b/\Q (.bl b) H
theorem Dc(K:W.Frag)(a:X.K=K:=by rfl):CallR X (.builtin "isinstance") (Ig K):=by subst a;exact Su
def rMax:List V->Hp->VK->Prop:=λa H Q=>∃i j,a=[.int i, .int j]/\Q (.int (if j>i then j else i)) H
def rMin:List V->Hp->VK->Prop:=λa H Q=>∃i j,a=[.int i, .int j]/\Q (.int (if j<i then j else i)) H
theorem KP(a:X.calm=true):CallR X (.builtin "max") rMax:=RS a
theorem GW(a:X.calm=true):CallR X (.builtin "min") rMin:=RR a
def rInt:List V->Hp->VK->Prop:=λa H Q=>(∃i,a=[.int i]/\Q (.int i) H)\/∃k,a=[.bl k]/\Q (.int (if k then 1 else 0)) H
theorem Cd:CallR X (.type "int") rInt:=RU
def Nd(K:W.Frag)(b:TE):TT:=λσ H Q=>b σ H λx a=>∃k,DY K x a k/\Q k a
theorem A6(K:W.Frag){a:Expr}{ta:TE}(b:PE X a ta)(d:∀whole,j5 a X.env whole=(do let v<-whole;gb a.pos;fV [v] (truthy v)):=by intro _;rfl)(e:X.K=K:=by rfl):PT X a (Nd K ta):=by subst e;exact R7 b d
theorem Bx(K:W.Frag){l:Expr}(a:PE X l tl)(b:X.K=K:=by rfl):PI X tg l (IT K tl):=by subst b;exact T7 a
theorem Qh(K:W.Frag){a:Expr}{pos:Pos}{k:Nat}(hg:Gl X "enumerate")(b:X.mg "enumerate"=none)(d:PA X [a] ta)(e:aL [a] X.env=[(false,eval a X.env)]:=by rfl)(i:X.K=K:=by rfl):PI X (.Tuple elts k tpos) (.Call (.Name "enumerate" p) [a] [] pos) (Ik K ta):=by subst i;exact SE hg b d e
theorem By(K:W.Frag){k:Nat}{t:TGs}{pos:Pos}(b:X.calm=true)(h:PGs X es t)
 (d:(d9 es X.env).length=n:=by rfl) (a:(d9 es X.env).findIdx? (·.1)=none:=by rfl) (e:X.K=K:=by rfl):PG X (.Tuple es k pos) (Ey K n t):=by subst e;exact Vv b h d a
theorem HR(K:W.Frag){T id:String}{r:V->List V->Hp->VK->Prop}(e:kC T)(slot:Slot T name id)(d:m3 (.builtin id)=pure (.type "method_descriptor"))(i:MtR X id r)(j:PE X o to)
 (a:d5 o name X.env (eval o X.env)=eval o X.env:=by rfl) (b:(apos.endLine==cpos.line)=true:=by rfl) (q:X.K=K:=by rfl):PE X (.Call (.Attribute o name apos) [] [] cpos) (Ia K T r to):=by subst q;exact Vz e slot d i j a b
theorem A7(K:W.Frag){e:Expr}{T id:String}{r:V->List V->Hp->VK->Prop}(q:kC T)(slot:Slot T name id)(j:m3 (.builtin id)=pure (.type "method_descriptor"))(y:MtR X id r)(z:PE X o to)(B:PA X (e::es) t)
 (b:d5 o name X.env (eval o X.env)=eval o X.env:=by rfl)
 (i:((dI cpos (aL (e::es) X.env)).all (λx=> !x.1)&&(iD cpos (fk [] X.env)).all (λx=>x.1.isSome)
   &&decide ((e::es).length+([]:List lL).length+(if([]:List lL).isEmpty then 0 else 1)<30))=true:=by rfl)
 (d:(apos.endLine==cpos.line)=true:=by rfl) (G:aL (e::es) X.env=(false,eval e X.env)::aL es X.env:=by rfl) (a:(dI cpos (aL es X.env)).any (·.1)=false:=by rfl) (H:X.K=K:=by rfl):
 PE X (.Call (.Attribute o name apos) (e::es) [] cpos) (tBM K T r to t):=by subst H;exact XJ q slot j y z B b i d G a
theorem Ai{x:Str}{v:V}{pos:Pos}(h:∃u,X.mg x=some u/\RelV v u)(hg:Gl X x:=by rfl)(hd:(x==("__debug__":Str))=false:=by decide):PE X (.Name x pos) (tC v):=by
 obtain⟨u,a,r⟩:=h;exact UE hg a r hd
theorem Dp{x:Str}{T:String}{pos:Pos}(a:X.mg x=none)(b:eJ x=some (.type T))(hg:Gl X x:=by rfl)(d:x≠"__name__":=by decide)(hd:(x==("__debug__":Str))=false:=by decide):PE X (.Name x pos) (tC (.ty T)):=
 UK hg a b rfl d hd
structure FnU (P:bK) (w:cX) (K:W.Frag) (mg:Str->Option ah) (base:Heap) (k:Nat) (x:Str) (ps:List Str) (sp:Sp):Prop where
 ex:∃f fd,FnOk P w K mg base CX0 k f fd ps sp/\mg x=some (.ref f)/\W.keepIn K (.ref f)=true/\Binds K fd ps []
theorem AM{k:Nat}{x:Str}{e:Expr}{pos:Pos}(U:FnU X.prog X.w X.K X.mg X.base k x ps sp)(d:Room k X.A)(i:PA X (e::es) t)(hg:Gl X x:=by rfl)
 (a:(x==("__debug__":Str))=false:=by decide) (j:aL (e::es) X.env=(false,eval e X.env)::aL es X.env:=by rfl) (b:(dI pos (aL es X.env)).any (·.1)=false:=by rfl):
 PE X (.Call (.Name x p) (e::es) [] pos) (Dn sp [] E0 t):=by
 obtain⟨f,fd,F,o,hk,q⟩:=U.ex;exact UJ F d hg o hk q .nil El i a j b
section
variable{σ:zQ0}{D:Ends}
theorem II{t u:TS}(h:t {D with nx:=u D} σ H):Fu t u D σ H:=h
theorem Xk{c:TT}{t u:TS}(h:c σ H λb a=>if b=true then t D σ a else u D σ a):Ds c t u D σ H:=h
theorem XD{g:TG}(h:te σ H λx a=>g x σ a D.nx):Cr te g D σ H:=h
theorem XC{i:Nat}{ti:TIp}(e:σ[i]? =some (some x))(h:te σ H λy a=>ti x y a λz b=>D.nx (σ.set i (some z)) b):Nl i te ti D σ H:=⟨x,e,h⟩
theorem Do(h:Q (.int (f i j)) H):ipI f (.int i) (.int j) H Q:=⟨i,j,rfl,rfl,h⟩
theorem Wm(h:te σ H D.rt):IY te D σ H:=h
theorem VY(h:te σ H λ_ a=>D.nx σ a):M9 te D σ H:=h
theorem VE(h:D.nx σ H):tNext D σ H:=h
theorem Vd(h:D.ct σ H):tCont D σ H:=h
theorem VF{i:Nat}{v:V}{R:zQ0->Hp->Prop}(h:R (σ.set i (some v)) H):BG i v σ H R:=h
theorem VU{R:zQ0->Hp->Prop}(h:R σ H):gNil [] σ H R:=⟨rfl,h⟩
theorem Te{t:TG}{u:TGs}{v:V}{r:List V}{R:zQ0->Hp->Prop}(h:t v σ H λσ' a=>u r σ' a R):Fp t u (v::r) σ H R:=⟨v,r,rfl,h⟩
theorem DL{t:TGs}{R:zQ0->Hp->Prop}(b:SqT K H a xs)(d:xs.length=n)(h:t xs σ H R):Ey K n t (.ref a) σ H R:=⟨a,xs,rfl,b,d,h⟩
theorem VT{ti:TE}{t:TSet}{v:V}{R:zQ0->Hp->Prop}(h:to σ H λo a=>ti σ a λi b=>t o i v b λd=>R σ d):N4 to ti t v σ H R:=h
theorem We{i:Nat}{v:V}(e:σ[i]? =some (some v))(q:Q v H):Br i σ H Q:=⟨v,e,q⟩
theorem s_c{v:V}(q:Q v H):tC v σ H Q:=q
theorem Xg{r:R2}{ta:TE}(h:ta σ H λx a=>tb σ a λy b=>r x y b Q):tOp r ta tb σ H Q:=h
theorem Xc{r:V->Hp->VK->Prop}{ta:TE}(h:ta σ H λx a=>r x a Q):tUn r ta σ H Q:=h
theorem Ws{g:Int->V}(h:Q (g i) H):rU g (.int i) H Q:=⟨i,rfl,h⟩
theorem Vg{dvs:List V}{E:XK}(h:t σ H λvs a=>sp (vs++dvs) a Q E):Dn sp dvs E t σ H Q:=h
theorem Ve{ta:TE}{tr:TA}{R:List V->Hp->Prop}(h:ta σ H λx a=>tr σ a λb d=>R (x::b) d):CD ta tr σ H R:=h
theorem Wr{R:List V->Hp->Prop}(h:R [] H):tNil σ H R:=h
theorem Xl{r:List V->Hp->VK->Prop}(h:t σ H λvs a=>r vs a Q):tCB r t σ H Q:=h
theorem Wx(h:t σ H λa b=>a.length<=sizeLine/\∀p,b p=none->Q (.ref p) (upd b p (.lst a))):Ni t σ H Q:=h
theorem Wh(h:t σ H λa b=>a.length<=sizeLine/\∀p,b p=none->Q (.ref p) (upd b p (.tup a))):Nb t σ H Q:=h
theorem W0{t:TT}{ta:TE}(h:t σ H λc a=>if c=true then ta σ a Q else tb σ a Q):tIf t ta tb σ H Q:=h
theorem XG{t u:TT}(h:t σ H λc a=>if c=true then u σ a R else R false a):Nn t u σ H R:=h
theorem Xf{t u:TT}(h:t σ H λc a=>if c=true then R true a else u σ a R):tOr t u σ H R:=h
theorem Wq{t:TT}(h:t σ H λc a=>R (!c) a):Nh t σ H R:=h
theorem Vi{ta:TE}(h:ta σ H λx a=>∃c,x= .bl c/\if c=true then tb σ a Q else Q (.bl false) a):NB ta tb σ H Q:=h
theorem Wn{ta:TE}(h:ta σ H λx a=>∃c,x= .bl c/\if c=true then Q (.bl true) a else tb σ a Q):Ng ta tb σ H Q:=h
theorem VD{ta:TE}(h:ta σ H λx a=>∃c,x= .bl c/\Q (.bl (!c)) a):M8 ta σ H Q:=h
theorem U7{t:TE}(h:t σ H λx a=>∃k,x= .bl k/\R k a):Dm t σ H R:=h
theorem Wj{ta:TE}(h:ta σ H λx a=>∃k,DY K x a k/\R k a):Nd K ta σ H R:=h
theorem Tg{r r':R2}{ta tc:TE}(h:ta σ H λx b=>tb σ b λy d=>r x y d λz a=>∃k,z= .bl k/\(if k=true then tc σ a λe i=>r' y e i Q else Q (.bl false) a)):Hm r r' ta tb tc σ H Q:=h
theorem CV{R:Bool->Prop}(h:R c):∃k,V.bl c=V.bl k/\R k:=⟨c,rfl,h⟩
theorem U6{R:Bool->Prop}(h:R c):∃k,DY K (.bl c) H k/\R k:=⟨c,rfl,h⟩
theorem U4{a:List Nat}{R:Bool->Prop}(b:a.length<=sizeLine)(h:R (!decide (a=[]))):∃k,DY K (tx a) H k/\R k:=by
 refine⟨!decide (a=[]),⟨by rw[BF];exact b,?_⟩,h⟩;rw[BF]
 cases a with
 |nil=>rfl
 |cons c r=>
  have:((c::r).length:Int)≠0:=by simp;lia
  rw[aX nC];exact(bne_iff_ne.mpr this).symm
theorem ET{R:Bool->Prop}(b:SqL K H a xs)(h:R (!xs.isEmpty)):∃k,DY K (.ref a) H k/\R k:=⟨_, .inl ⟨xs,b,rfl⟩,h⟩
theorem MZ(h:Q (.int (i+j)) H):rPlus (.int i) (.int j) H Q:= .inl ⟨i,j,rfl,rfl,h⟩
theorem BD{a b:List Nat}(d:a.length+b.length<=sizeLine)(h:Q (tx (a++b)) H):rPlus (tx a) (tx b) H Q:= .inr (.inl ⟨a,b,rfl,rfl,d,h⟩)
theorem DM(d:H a=some (.lst xs))(e:H b=some (.lst ys))(i:xs.length+ys.length<=sizeLine)(h:∀p,H p=none->Q (.ref p) (upd H p (.lst (xs++ys)))):rPlus (.ref a) (.ref b) H Q:= .inr (.inr ⟨a,b,xs,ys,rfl,rfl,d,e,i,h⟩)
theorem U8(h:Q (g i j) H):rI0 g (.int i) (.int j) H Q:=⟨i,j,rfl,rfl,h⟩
theorem Xe(a:C i j)(h:Q (g i j) H):rI C g (.int i) (.int j) H Q:=⟨i,j,rfl,rfl,a,h⟩
theorem VH(a:CMul i j)(h:Q (.int (i*j)) H):rTimes (.int i) (.int j) H Q:= .inl ⟨i,j,rfl,rfl,a,h⟩
theorem Ei{k:Int}(b:H a=some (.lst xs))(d: -(2^63)<=k)(e:k<2^63)(i:xs.length*k.toNat<=sizeLine)(h:∀p,H p=none->Q (.ref p) (upd H p (.lst (aS k.toNat xs).flatten))):rTimes (.ref a) (.int k) H Q:= .inr (.inl ⟨a,k,xs,rfl,rfl,b,d,e,i,h⟩)
theorem VG{a:List Nat}{k:Int}(h0:0<=k)(b:k<=1000)(d:a.length<=1000)(h:Q (tx (aS k.toNat a).flatten) H):rTimes (tx a) (.int k) H Q:= .inr (.inr ⟨a,k,rfl,rfl,h0,b,d,h⟩)
theorem W6(h:Q (.bl (decide (i=j))) H):Eu K (.int i) (.int j) H Q:= .inl ⟨rfl,by rw[show decide (V.int i=V.int j)=decide (i=j)from by rw[FV];exact(ju i j)];exact h⟩
theorem W4{a b:List Nat}(h:Q (.bl (decide (a=b))) H):Eu K (tx a) (tx b) H Q:= .inl ⟨rfl,by rw[Mz];exact h⟩
theorem W5(d:SqL K H a xs)(e:SqL K H b ys)(i:xs.all A4=true)(j:ys.all A4=true)(h:Q (.bl (eqVs xs ys)) H):Eu K (.ref a) (.ref b) H Q:= .inr ⟨a,b,xs,ys,rfl,rfl,d,e,i,j,h⟩
theorem Wu(h:Q (.bl (!decide (i=j))) H):Fw K (.int i) (.int j) H Q:= .inl ⟨rfl,by rw[show decide (V.int i=V.int j)=decide (i=j)from by rw[FV];exact(ju i j)];exact h⟩
theorem Wt{a b:List Nat}(h:Q (.bl (!decide (a=b))) H):Fw K (tx a) (tx b) H Q:= .inl ⟨rfl,by rw[Mz];exact h⟩
theorem IJ(d:SqL K H a xs)(e:SqL K H b ys)(i:xs.all A4=true)(j:ys.all A4=true)(h:Q (.bl (!eqVs xs ys)) H):Fw K (.ref a) (.ref b) H Q:= .inr ⟨a,b,xs,ys,rfl,rfl,d,e,i,j,h⟩
theorem Wy{c:Nat}{l:List Nat}(h:Q (.bl (decide (c∈l))) H):Ih K (tx [c]) (tx l) H Q:= .inl ⟨c,l,rfl,rfl,h⟩
theorem Rv{c:Nat}{l:List Nat}(h:Q (.bl (!decide (c∈l))) H):HP K (tx [c]) (tx l) H Q:= .inl ⟨c,l,rfl,rfl,h⟩
theorem Ej(b:SqL K H a xs\/SqT K H a xs)(d:A4 x=true)(e:xs.all A4=true)(h:Q (.bl (inV x xs)) H):Ih K x (.ref a) H Q:= .inr ⟨a,xs,rfl,b,d,e,h⟩
theorem Ko(b:SqL K H a xs\/SqT K H a xs)(d:A4 x=true)(e:xs.all A4=true)(h:Q (.bl (!inV x xs)) H):HP K x (.ref a) H Q:= .inr ⟨a,xs,rfl,b,d,e,h⟩
theorem Xj{y:V}(a:Dv y=true)(h:Q (.bl (decide (x=y))) H):rIsA x y H Q:=⟨a,h⟩
theorem BO{a:List Nat}{c:Nat}(b:a.length<=sizeLine)(d:atI a i=some c)(h:Q (tx [c]) H):Et K (tx a) (.int i) H Q:= .inl ⟨a,i,c,rfl,rfl,b,d,h⟩
theorem AL{p:Addr}{v:V}(a:SqL K H p xs)(b:atI xs i=some v)(h:Q v H):Et K (.ref p) (.int i) H Q:= .inr (.inl ⟨p,xs,i,v,rfl,rfl,a,b,h⟩)
theorem BB{p:Addr}{v:V}(a:SqT K H p xs)(b:atI xs i=some v)(h:Q v H):Et K (.ref p) (.int i) H Q:= .inr (.inr ⟨p,xs,i,v,rfl,rfl,a,b,h⟩)
theorem Xd{tl th:TO}(h:te σ H λx a=>tl σ a λl b=>th σ b λu d=>r x l u d Q):tSl r te tl th σ H Q:=h
theorem Rw{R:Option Int->Hp->Prop}(h:R none H):tNoPart σ H R:=h
theorem U9{t:TE}{R:Option Int->Hp->Prop}(h:t σ H λx a=>∃i,x= .int i/\R (some i) a):IE t σ H R:=h
theorem TQ{R:Int->Prop}(h:R i):∃j,V.int i=V.int j/\R j:=⟨i,rfl,h⟩
theorem IH{a:List Nat}(b:a.length<=sizeLine)(h:Q (tx (Ap a lo hi)) H):Fv K (tx a) lo hi H Q:= .inl ⟨a,rfl,b,h⟩
theorem Eh{p:Addr}(a:SqL K H p xs)(h:∀r,H r=none->Q (.ref r) (upd H r (.lst (Cw xs lo hi)))):Fv K (.ref p) lo hi H Q:= .inr ⟨p,xs,rfl,a,h⟩
theorem MY{a:List Nat}(b:a.length<=sizeLine)(h:Q (.int a.length) H):Es K [tx a] H Q:= .inl ⟨a,rfl,b,h⟩
theorem BJ{p:Addr}(a:SqL K H p ys\/SqT K H p ys)(h:Q (.int ys.length) H):Es K [.ref p] H Q:= .inr ⟨p,ys,rfl,a,h⟩
theorem Ek{bs:List Bool}(b:SqL K H a (bs.map V.bl))(h:Q (.bl (bs.all id)) H):Nw K [.ref a] H Q:=⟨a,bs,rfl,b,h⟩
theorem Bq{T:String}{t:ah}{b:Bool}(ty:TyOf K H x t)(e:W.kitOne K t (.type T)=some b)(h:Q (.bl b) H):Ig K [x, .ty T] H Q:=⟨x,T,t,b,rfl,ty,e,h⟩
theorem Ww(h:Q (.int (if j>i then j else i)) H):rMax [.int i, .int j] H Q:=⟨i,j,rfl,h⟩
theorem Wv(h:Q (.int (if j<i then j else i)) H):rMin [.int i, .int j] H Q:=⟨i,j,rfl,h⟩
theorem VQ{k:Bool}(h:Q (.int (if k then 1 else 0)) H):rInt [.bl k] H Q:= .inr ⟨k,rfl,h⟩
theorem Xo{T:String}{r:V->List V->Hp->VK->Prop}(h:to σ H λx a=>tyV K T x a/\t σ a λb d=>r x b d Q):tBM K T r to t σ H Q:=h
theorem XB{T:String}{r:V->List V->Hp->VK->Prop}(h:to σ H λx a=>tyV K T x a/\r x [] a Q):Ia K T r to σ H Q:=h
end
section
variable{g:TG}{tb:TS}{D:Ends}{σ:zQ0}
def B8(J:zQ1)(g:TG)(tb:TS)(D:Ends)(σ:zQ0)(H:Hp):Prop:=∃W:Nat->Nat->zQ0->Hp->Prop,(∃m,W 0 m σ H)/\∀i m σ H,W i m σ H->
 (J.stop i H/\D.nx σ H)\/(J.go i H/\∃N:zQ0->Hp->Prop,(∀σ' a,N σ' a->∃b,b<m/\W (i+1) b σ' a)/\∀x a,J.yld i H x a->g x σ a λσ2 d=>tb {D with nx:=N,ct:=N,bk:=D.nx} σ2 d)
theorem W2(h:wi σ H λJ a=>B8 J g tb D σ a):Nj wi g tb D σ H:=h
theorem TZ{R:zQ1->Hp->Prop}(h:ta σ H λvs a=>∃j:Int,vs=[.int j]/\ -(2^62)<=j/\j<2^62/\R (Itr 0 j.toNat) a):NS ta σ H R:=h
theorem Tc{R:zQ1->Hp->Prop}(h:tl σ H λx b=>∃a,x= .ref a/\(∃d,SqL K b a d)/\R (Itl K a) b):IT K tl σ H R:=h
theorem VN{R:zQ1->Hp->Prop}(h:tl σ H λx a=>∃z,x= .str z/\R (Its z) a):N2 tl σ H R:=h
theorem TV{a:List Nat}{R:Str->Prop}(h:R ⟨a.toArray⟩):∃z,tx a= .str z/\R z:=⟨_,rfl,h⟩
theorem VR{R:zQ1->Hp->Prop}(h:ta σ H λvs a=>∃z,vs=[.str z]/\R (Dx z) a):N3 ta σ H R:=h
theorem Td{a:List Nat}{R:Str->Prop}(h:R ⟨a.toArray⟩):∃z,[tx a]=[.str z]/\R z:=⟨_,rfl,h⟩
theorem VS{R:zQ1->Hp->Prop}(h:ta σ H λvs b=>∃a,vs=[.ref a]/\(∃d,SqL K b a d)/\R (Iq K a) b):Ik K ta σ H R:=h
theorem Ud{lo:Int}(Pv:Nat->zQ0->Hp->Prop)(h0:Pv 0 σ H)
 (a:∀i σ H,i<n->Pv i σ H->g (.int (lo+i)) σ H λσ2 b=>tb {D with nx:=Pv (i+1),ct:=Pv (i+1),bk:=D.nx} σ2 b) (hd:∀σ H,Pv n σ H->D.nx σ H):B8 (Itr lo n) g tb D σ H:=RF Pv h0 a hd
theorem Ue(Pv:Nat->zQ0->Hp->Prop)(h0:Pv 0 σ H)(b:∀i σ H,i<=xs.length->Pv i σ H->SqL K H a xs)
 (d:∀i x σ H,xs[i]? =some x->Pv i σ H->g x σ H λσ2 e=>tb {D with nx:=Pv (i+1),ct:=Pv (i+1),bk:=D.nx} σ2 e) (hd:∀σ H,Pv xs.length σ H->D.nx σ H):B8 (Itl K a) g tb D σ H:=K4 Pv h0 b d hd
theorem Fd{J:zQ1}(Pv:Nat->zQ0->Hp->Prop)(h0:Pv 0 σ H)(d:∀i σ H,i<n->Pv i σ H->J.go i H)(j:∀σ H,Pv n σ H->J.stop n H)
 (o:∀i x σ H b,i<n->Pv i σ H->J.yld i H x b->g x σ b λσ2 q=>tb {D with nx:=Pv (i+1),ct:=Pv (i+1),bk:=D.nx} σ2 q) (hd:∀σ H,Pv n σ H->D.nx σ H):B8 J g tb D σ H:=by
 refine⟨λi m σ H=>m=n-i/\i<=n/\Pv i σ H,⟨n,by simp,bA _,h0⟩,?_⟩;rintro i m σ H ⟨rfl,hi,p⟩
 by_cases a:i<n
 ·exact .inr ⟨d i σ H a p,Pv (i+1),λσ' b r=>⟨n-(i+1),by lia,rfl,a,r⟩,λx b y=>o i x σ H b a p y⟩
 ·have e:i=n:=by lia
  subst e;exact .inl ⟨j σ H p,hd σ H p⟩
theorem Uc{a:List Nat}(Pv:Nat->zQ0->Hp->Prop)(h0:Pv 0 σ H)
 (b:∀i c σ H,a[i]? =some c->Pv i σ H->g (tx [c]) σ H λσ2 d=>tb {D with nx:=Pv (i+1),ct:=Pv (i+1),bk:=D.nx} σ2 d) (hd:∀σ H,Pv a.length σ H->D.nx σ H):B8 (Its ⟨a.toArray⟩) g tb D σ H:=by
 refine Fd (n:=a.length) Pv h0 (λi σ H hi _=>by simpa[Its]using hi) (λσ H _=>by simp[Its]) (λi x σ H j hi p y=>?_) hd;obtain⟨rfl,c,e,rfl⟩:=y;exact b i c σ j (by simpa using e) p
theorem Ug{a:List Nat}(Pv:Nat->zQ0->Hp->Prop)(h0:Pv 0 σ H)
 (b:∀i c σ H T,a[i]? =some c->H T=none->Pv i σ H->g (.ref T) σ (upd H T (.tup [.int i,tx [c]])) λσ2 d=>tb {D with nx:=Pv (i+1),ct:=Pv (i+1),bk:=D.nx} σ2 d) (hd:∀σ H,Pv a.length σ H->D.nx σ H):B8 (Dx ⟨a.toArray⟩) g tb D σ H:=by
 refine Fd (n:=a.length) Pv h0 (λi σ H hi _=>by simpa[Dx]using hi) (λσ H _=>by simp[Dx]) (λi x σ H o hi p y=>?_) hd;obtain⟨T,c,j,e,rfl,rfl⟩:=y;exact b i c σ H T (by simpa using e) j p
def CW(D:Addr)(n:Nat)(Pv:Nat->List V->Hp->Prop)(i m:Nat)(H:Hp):Prop:=m=n-i/\i<=n/\∃a,H D=some (.lst a)/\a.length<=i/\Pv i a H
def BU(J:zQ1)(own:List Str)(sel:List Nat)(σ:zQ0)(g:TG)(y:TT)(z:TE)(Q:VK)(j:Hp):Prop:=∀D,j D=none->
 ∃W:Nat->Nat->Hp->Prop,(∃m,W 0 m (upd j D (.lst [])))/\∀i m a,W i m a->
  (J.stop i a/\Q (.ref D) a)\/(J.go i a/\∀x o,J.yld i a x o->g x (AY own sel σ) o λσ4 B=>y σ4 B λb q=>
    if b=true then z σ4 q λv r=>∃e,r D=some (.lst e)/\e.length<sizeLine/\∃d,d<m/\W (i+1) d (upd r D (.lst (e++[v])))
    else∃d,d<m/\W (i+1) d q)
theorem Vf(h:wi σ H λJ a=>BU J own sel σ g tt te Q a):Fj own sel wi g tt te σ H Q:=h
theorem B5{J:zQ1}(Pv:Addr->Nat->List V->Hp->Prop)(h0:∀D,H1 D=none->Pv D 0 [] (upd H1 D (.lst [])))
 (r:∀D i a H,H1 D=none->i<n->H D=some (.lst a)->Pv D i a H->J.go i H) (z:∀D a H,H1 D=none->H D=some (.lst a)->a.length<=n->Pv D n a H->J.stop n H/\Q (.ref D) H)
 (P:∀D i a H x o,H1 D=none->i<n->H D=some (.lst a)->a.length<=i->Pv D i a H->J.yld i H x o->g x (AY own sel σ) o λσ4 R=>tt σ4 R λb I=>
   if b=true then te σ4 I λv L=>∃a,L D=some (.lst a)/\a.length<sizeLine/\∃d,d<n-i/\CW D n (Pv D) (i+1) d (upd L D (.lst (a++[v])))
   else∃d,d<n-i/\CW D n (Pv D) (i+1) d I):BU J own sel σ g tt te Q H1:=by
 intro D q;refine⟨CW D n (Pv D),⟨n,by simp,bA _,[],AF,ao _,h0 D q⟩,?_⟩;rintro i m B ⟨rfl,hi,a,G,M,p⟩
 by_cases j:i<n
 ·exact .inr ⟨r D i a B q j G p,λx o y=>P D i a B x o q j G M p y⟩
 ·have e:i=n:=by lia
  subst e;exact .inl (z D a B q G M p)
theorem Bj{D:Addr}{i:Nat}{v:V}(hi:i<n)(d:n<=sizeLine)(b:H D=some (.lst ys))(e:ys.length<=i)(p:Pv (i+1) (ys++[v]) (upd H D (.lst (ys++[v])))):
 ∃ys,H D=some (.lst ys)/\ys.length<sizeLine/\∃a,a<n-i/\CW D n Pv (i+1) a (upd H D (.lst (ys++[v]))):=
 ⟨ys,b,by lia,n-(i+1),by lia,rfl,hi,ys++[v],AF,by simp;lia,p⟩
theorem FA{D:Addr}{i:Nat}(hi:i<n)(b:H D=some (.lst ys))(d:ys.length<=i)(p:Pv (i+1) ys H):
 ∃a,a<n-i/\CW D n Pv (i+1) a H:=⟨n-(i+1),by lia,rfl,hi,ys,b,by lia,p⟩
theorem NE(h:R true H):tYes σ H R:=h
end
theorem small(h:n<=1000):n<=sizeLine:=b9 (DG h)
theorem AJ{p:Addr}(h:H p=none)(o:HO):Same H (upd H p o):=λb u q=>by rw[AI (AS q h)];exact q
def SameBut1(p:Addr)(H a:Hp):Prop:=∀b o,H b=some o->b≠p->a b=some o
theorem SameBut1.refl(p:Addr)(H:Hp):SameBut1 p H H:=λ_ _ h _=>h
theorem SameBut1.trans{p:Addr}{H2:Hp}(a:SameBut1 p H H1)(b:SameBut1 p H1 H2):SameBut1 p H H2:=λc o h n=>b c o (a c o h n) n
theorem SameBut1.of{p:Addr}(a:Same H H'):SameBut1 p H H':=λc o h _=>a c o h
theorem SameBut1.upd{p:Addr}{o:HO}:SameBut1 p H (upd H p o):=λc u h n=>by rw[AI n];exact h
def MH(osc:gu)(N:List Str)(own:List Str)(sel:List Nat)(scope:gu):Bool:=
 (scope.kind== .function)&&scope.names.all (λy=>y.2 != .cell)&&scope.names.all (λy=>y.2 != .local||scope.names.lookup y.1==some .local)&&
 scope.names.all (λy=>y.2 != .free||osc.names.lookup y.1==some .cell||osc.names.lookup y.1==some .free)&&
 sel.all (λj=>decide (j<N.length)&&scope.names.lookup (N.getD j cF)==some .free&&(osc.names.lookup (N.getD j cF)==some .cell||osc.names.lookup (N.getD j cF)==some .free))
theorem RN{osc:gu}{N:List Str}(h:MH osc N own sel scope=true):CompOk osc N own sel scope:=by
 unfold MH at h;simp only[aQ,aT]at h;obtain⟨⟨⟨⟨b,d⟩,i⟩,o⟩,r⟩:=h;refine⟨by simpa using b,λy a=>by simpa using d y a,λy a e=>?_,λy a e=>?_,λj x=>?_⟩
 ·have:=i y a;simp only[bP,jy,bE]at this;rcases this with q|q
  ·exact absurd e q
  ·exact q
 ·have:=o y a;simp only[bP,jy,bE]at this;rcases this with(q|q)|q
  ·exact absurd e q
  ·exact .inl q
  ·exact .inr q
 ·have:=r j x;simp only[bP,bE,bq]at this;exact⟨this.1.1,this.1.2,this.2⟩
theorem Er(x:α)(r:List α):atI (x::r) 0=some x:=by simp[atI,ixN]
theorem Ba{p:Addr}{k:Int}{j:Nat}{v:V}{R:Hp->Prop}(h:H p=some (.lst xs))(e:ixN xs.length k=some j)(q:R (upd H p (.lst (xs.set j v)))):rSetL (.ref p) (.int k) v H R:=⟨p,xs,k,j,rfl,rfl,h,e,q⟩
def WN(Pv:zQ0->Hp->Prop)(μ:zQ0->Hp->Nat)(m:Nat):zQ0->Hp->Prop:=λσ' a=>Pv σ' a/\μ σ' a<m
theorem GZ{c:TT}{tb:TS}{D:Ends}{σ:zQ0}(Pv:zQ0->Hp->Prop)(μ:zQ0->Hp->Nat)(h0:Pv σ H)
 (j:∀σ H,Pv σ H->c σ H λb d=>if b=true then∃N:zQ0->Hp->Prop,(∀σ' a,N σ' a->∃i,i<μ σ H/\(i=μ σ' a/\Pv σ' a))/\tb {D with nx:=N,ct:=N,bk:=D.nx} σ d else D.nx σ d):MP c tb D σ H:=
 ⟨λm σ H=>m=μ σ H/\Pv σ H,⟨_,rfl,h0⟩,λm σ H ⟨e,p⟩=>by subst e;exact j σ H p⟩
theorem S3{tb:TS}{D:Ends}{σ:zQ0}{Pv:zQ0->Hp->Prop}{μ:zQ0->Hp->Nat}{m:Nat}(h:tb {D with nx:=WN Pv μ m,ct:=WN Pv μ m,bk:=D.nx} σ H1):
 ∃N:zQ0->Hp->Prop,(∀σ' a,N σ' a->∃b,b<m/\(b=μ σ' a/\Pv σ' a))/\tb {D with nx:=N,ct:=N,bk:=D.nx} σ H1:=
 ⟨WN Pv μ m,λσ' a ⟨p,l⟩=>⟨_,l,rfl,p⟩,h⟩
theorem SQ{t u:TT}{σ:zQ0}{d:Bool}(ht:∀R:Bool->Hp->Prop,R c H->t σ H R)(a:∀R:Bool->Hp->Prop,R d H->u σ H R)(h:R (c||d) H):tOr t u σ H R:=by
 refine ht _ ?_
 cases c with
 |true=>rw[aO rfl];exact h
 |false=>rw[aB aq];exact a _ h
theorem P3{u:ah}(h:F2 u=some x):RelV x u:=by
 cases u<;>first
  |(cases h;rfl)
  |(cases h;exact⟨_,rfl⟩)
  |(exact absurd h (by intro z;cases z))
def ID(its:Array ah)(xs:List V):Bool:=decide (its.toList.map F2=xs.map some)
theorem JI:∀ {a:List V} {us:List ah},us.map F2=a.map some->Vals a us
 |[],[],_=> .nil
 |x::a,u::us,h=>by
  rw[aW,aW]at h;injection h with b d
  exact .cons (P3 b) (JI d)
 |[],_::_,h=>by cases h
 |_::_,[],h=>by cases h
theorem JY(h:ID its xs=true):Vals xs its.toList:=JI (ib h)
theorem Pu(h:ID its xs=true)(a:xs.length<=1000):its.size<=sizeLine:=by
 have e:=(JY h).length;have b:its.toList.length=its.size:=by simp
 exact b9 (DG nA)
theorem TX{y:V}(a:Dv y=true)(h:Q (.bl (!decide (x=y))) H):rIsNotA x y H Q:=⟨a,h⟩
theorem ifd{c:Prop}[Decidable c](a:c->A)(b:¬c->B):if decide c=true then A else B:=by
 by_cases h:c
 ·rw[aO (ba h)];exact a h
 ·rw[aB (by rw[aX h];exact aq)];exact b h
theorem ifn{c:Prop}[Decidable c](a:¬c->A)(b:c->B):if(!decide c)=true then A else B:=by
 by_cases h:c
 ·rw[aB (by rw[ba h];exact aq)];exact b h
 ·rw[aO (by rw[aX h];rfl)];exact a h
theorem ifp(a:c=true)(h:A):if c=true then A else B:=by rw[aO a];exact h
theorem ifq(a:c=false)(h:B):if c=true then A else B:=by rw[aB (by rw[a];exact aq)];exact h
theorem Sw{k:Int}(h0:0<=k)(h:k<(ns.length:Int)):∃v:Int,atI (ns.map V.int) k=some (.int v):=by
 have hk:k.toNat<ns.length:=by lia
 have a:k=((k.toNat:Nat):Int):=by lia
 have q:atI (ns.map V.int) ((k.toNat:Nat):Int)=some (.int ns[k.toNat]):=AT (by rw[am,ai hk];rfl);rw[<-a]at q;exact⟨_,q⟩
end L2
namespace BrM
variable{i:Int}{d w:Nat}{Q:VK}{E:XK}
def opn:List Nat:=[40,91,123,60]
def cls:List Nat:=[41,93,125,62]
def clo(c:Nat):Nat:=if c=40 then 41 else if c=91 then 93 else if c=123 then 125 else 62
def stp(st:List Nat)(c:Nat):Option (List Nat):=
 if c∈opn then some (clo c::st)else match st with
  |d::r=>if c=d then some r else none
  |[]=>none
def run:List Nat->List Nat->Option (List Nat)
 |st,[]=>some st
 |st,c::r=>(stp st c).bind λs=>run s r
theorem Jb(st a b:List Nat):run st (a++b)=(run st a).bind λs=>run s b:=by
 induction a generalizing st with
 |nil=>rfl
 |cons c r d=>
  show(stp st c).bind _=((stp st c).bind _).bind _
  cases stp st c with
  |none=>rfl
  |some s=>exact d s
theorem Gg{s:List Nat}(h:run st a=some s)(c:Nat):run st (a++[c])=stp s c:=by
 rw[Jb,h];show(stp s c).bind (λs=>some s)=stp s c
 cases stp s c<;>rfl
theorem FD(h:c∈opn)(st:List Nat):stp st c=some (clo c::st):=by unfold stp;rw[aO h]
theorem GP(h:d∉opn)(r:List Nat):stp (d::r) d=some r:=by unfold stp;rw[aB h];simp
def Rt(row:List Nat):Prop:=run [] row=some []
def kin(k:Int)(c:Nat):Prop:=c∈opn.take k.toNat\/c∈cls.take k.toNat
theorem Mj{k:Int}(h0:0<=i)(b:i<k)(hk:k<=4):∃c,atI [40,91,123,60] i=some c/\c∈opn/\c∈opn.take k.toNat/\atI [41,93,125,62] i=some (clo c)/\clo c∈cls.take k.toNat/\clo c∉opn:=by
 have:i=0\/i=1\/i=2\/i=3:=by lia
 have a:k=1\/k=2\/k=3\/k=4:=by lia
 rcases a with rfl|rfl|rfl|rfl<;>rcases this with rfl|rfl|rfl|rfl<;>first
  |lia
  |exact⟨40,by decide⟩
  |exact⟨91,by decide⟩
  |exact⟨123,by decide⟩
  |exact⟨60,by decide⟩
theorem at3(x y z:α)(h0:0<=i)(a:i<3):∃v,atI [x,y,z] i=some v/\(v=x\/v=y\/v=z):=by
 have:i=0\/i=1\/i=2:=by lia
 rcases this with rfl|rfl|rfl
 ·exact⟨x,rfl, .inl rfl⟩
 ·exact⟨y,rfl, .inr (.inl rfl)⟩
 ·exact⟨z,rfl, .inr (.inr rfl)⟩
theorem LA(c:α)(r:List α):Ap (c::r) (some 1) none=r:=by
 unfold Ap;have a:HT.sIx (c::r).length 0 (some 1)=1:=by
  show HT.sIx (r.length+1) 0 (some ((1:Nat):Int))=1;rw[HT.sIx_nat];lia
 have b:HT.sIx (c::r).length (c::r).length none=r.length+1:=rfl;rw[a,b];simp
def sg(c:Nat):Int:=if c∈opn then 1 else -1
def hg:List Nat->Int
 |[]=>0
 |c::r=>sg c+hg r
theorem RC(a b:List Nat):hg (a++b)=hg a+hg b:=by
 induction a with
 |nil=>simp[hg]
 |cons c r d=>rw[List.cons_append,hg,hg,d];lia
def ht(a:List Nat)(i:Nat):Int:=hg (a.take i)
theorem MA{i:Nat}(h:a[i]? =some c):ht a (i+1)=ht a i+sg c:=by
 unfold ht;rw[cy,h,RC];show _=hg _+sg c;simp[hg]
theorem S9{s:List Nat}(h:stp st c=some s):(s.length:Int)=st.length+sg c:=by
 unfold stp at h;unfold sg
 by_cases a:c∈opn
 ·rw[aO a]at h⊢
  cases h
  simp
 ·rw[aB a]at h⊢
  cases st with
  |nil=>cases h
  |cons d r=>
   simp only at h
   split at h
   ·cases h;simp;lia
   ·cases h
theorem Tq{s:List Nat}(h:run st a=some s):(s.length:Int)=st.length+hg a:=by
 induction a generalizing st with
 |nil=>cases h;simp[hg]
 |cons c r d=>
  have b:(stp st c).bind (λs=>run s r)=some s:=h
  cases e:stp st c with
  |none=>rw[e]at b;cases b
  |some i=>
   rw[e]at b;have:=d b;have:=S9 e;rw[hg];lia
theorem Rz{s:List Nat}(h:run [] a=some s)(i:Nat):∃st,run [] (a.take i)=some st:=by
 have e:a=a.take i++a.drop i:=(jg i a).symm;rw[e,Jb]at h
 cases q:run [] (a.take i)with
 |none=>rw[q]at h;cases h
 |some st=>exact⟨st,rfl⟩
theorem IU{i:Nat}(h:run [] (a.take i)=some st):ht a i=st.length:=by
 have:=Tq h;unfold ht;simp at this;lia
def Pr(a:List Nat)(x y:Nat):Prop:=x<y/\y<a.length/\ht a (y+1)=ht a x/\∀m,x<m->m<=y->ht a x<ht a m
def IsPart(a:List Nat)(xs:List V):Prop:=xs.length=a.length/\∀k,k<a.length->∃p:Nat,xs[k]? =some (.int p)/\(Pr a k p\/Pr a p k)
inductive WS (a:List Nat) (i:Nat):List Nat->List Nat->Prop where
 |nil:WS a i [] []
 |cons {w c:Nat} {ws st:List Nat}:w<i->a[w]? =some c->c∈opn->ht a w=ws.length->(∀m,w<m->m<=i->ht a w<ht a m)->WS a i ws st->WS a i (w::ws) (clo c::st)
theorem WS.len{ws:List Nat}{i:Nat}(h:WS a i ws st):ws.length=st.length:=by
 induction h with
 |nil=>rfl
 |cons _ _ _ _ _ _ b=>simp[b]
theorem WS.ext{ws:List Nat}{i:Nat}(h:WS a i ws st)(d:(ws.length:Int)<=ht a (i+1)):WS a (i+1) ws st:=by
 induction h with
 |nil=>exact .nil
 |cons z j o q r _ x=>
  simp only[aM]at d;refine .cons nA j o q (λm b y=>?_) (x nA)
  by_cases e:m=i+1
  ·subst e;lia
  ·exact r m b nA
structure MI (a:List Nat) (i:Nat) (st ws:List Nat) (xs:List V):Prop where
 rn:run [] (a.take i)=some st
 wk:WS a i ws st
 len:xs.length=a.length
 don:∀k,k<i->k∈ws\/∃p:Nat,xs[k]? =some (.int p)/\(Pr a k p\/Pr a p k)
theorem MI.start(a:List Nat)(h:xs.length=a.length):MI a 0 [] [] xs:=⟨rfl, .nil,h,λk z=>by lia⟩
theorem Gh{i:Nat}(h:run [] (a.take i)=some st)(b:a[i]? =some c):run [] (a.take (i+1))=stp st c:=by
 rw[cy,b];exact Gg h c
theorem MI.opens{ws:List Nat}{i:Nat}(m:MI a i st ws xs)(b:a[i]? =some c)(d:c∈opn):MI a (i+1) (clo c::st) (i::ws) xs:=by
 have j:ht a (i+1)=ht a i+1:=by rw[MA b];unfold sg;rw[aO d]
 have o:=IU m.rn;have q:=m.wk.len;refine⟨by rw[Gh m.rn b,FD d], .cons nA b d nA (λk r x=>?_) (m.wk.ext nA),m.len,λk hk=>?_⟩
 ·have:k=i+1:=by lia
  subst this;lia
 ·by_cases e:k=i
  ·subst e;exact .inl aA
  ·rcases m.don k (by lia)with z|z
   ·exact .inl (ay _ z)
   ·exact .inr z
theorem MI.top{ws:List Nat}{i:Nat}(m:MI a i st (w::ws) xs):∃c r,a[w]? =some c/\c∈opn/\st=clo c::r/\w<i:=by
 have h:=m.wk
 cases h with
 |cons b d e j o q=>exact⟨_,_,d,e,rfl,b⟩
theorem MI.closes{r:List Nat}{ws:List Nat}{i:Nat}(m:MI a i (c::r) (w::ws) xs)(d:a[i]? =some c)(e:c∉opn):MI a (i+1) r ws ((xs.set w (.int i)).set i (.int w)):=by
 have L:ht a (i+1)=ht a i-1:=by rw[MA d];unfold sg;rw[aB e];lia
 have y:=IU m.rn;have B:=m.wk.len;have j:i<a.length:=(az.mp d).1;have h:=m.wk
 cases h with
 |cons G M P Q H I=>
  simp only[aM]at y B;have o:Pr a w i:=⟨G,j,by lia,H⟩;have b:=m.len;refine⟨?_,I.ext nA,by simp[m.len],λk hk=>?_⟩
  ·rw[Gh m.rn d];exact GP e r
  ·by_cases J:k=i
   ·subst J;exact .inr ⟨w,by simp[b,j], .inr o⟩
   ·by_cases x:k=w
    ·subst x;refine .inr ⟨i,?_, .inl o⟩;rw[bW nA,eG nA]
    ·rcases m.don k (by lia)with z|⟨p,z,q⟩
     ·rcases aJ.mp z with z|z
      ·exact absurd z x
      ·exact .inl z
     ·exact .inr ⟨p,by rw[bW nA,bW nA];exact z,q⟩
theorem MI.fin{ws:List Nat}(m:MI a a.length [] ws xs):IsPart a xs:=by
 have h:=m.wk
 cases h
 refine⟨m.len,λk hk=>?_⟩;rcases m.don k hk with z|z
 ·cases z
 ·exact z
theorem KL:∀ {a:List V},a.all A4=true->eqVs a a=true
 |[],_=>rfl
 |x::a,h=>by
  rw[fO,aQ]at h;show(eqV x x&&eqVs a a)=true;rw[KL h.2,Bool.and_true]
  cases x<;>first|rfl|(exact absurd h.1 aq)|exact fh _
def CB:List String:=["NoneType","bool","int","str","list","tuple","dict"]
inductive spWhole(K:W.Frag):Type
 |mk (x T:_) (_:vs=[x]) (_:TyOf K H x (.type T)) (_:T∈CB) (_:Q (.bl (decide (T="int"))) H)
theorem Jn(q:Q (.bl true) H):spWhole K ([.int i]++[]) H Q E:=⟨.int i,"int",rfl, .int i,by decide,q⟩
inductive spKinds:Type
 |mk (k:_) (_:vs=[.int k]) (_:1<=k) (_:k<=4) (_:Q .non H)
theorem J8{k:Int}(a:1<=k)(b:k<=4)(q:Q .non H):spKinds ([.int k]++[]) H Q E:=⟨k,rfl,a,b,q⟩
def sgn(k:Int):List Nat:=opn.take k.toNat++cls.take k.toNat++[63]
def AQ(k:Int)(a:List Nat):Bool:=decide (a.length<=40)&&a.all λc=>decide (c∈sgn k)
inductive spLine(K:W.Frag):Type
 |mk (k x:_) (_:vs=[.int k,x]) (_:1<=k) (_:k<=4) (_:((∃a,x=tx a/\a.length<=1000/\∀H',Same H H'->Q (.bl (AQ k a)) H')\/(∃T,TyOf K H x (.type T)/\T∈CB/\T≠"str"/\Q (.bl false) H)))
theorem Kz{k:Int}(d:1<=k)(e:k<=4)(i:a.length<=1000)(q:∀b,Same H b->Q (.bl (AQ k a)) b):spLine K ([.int k,tx a]++[]) H Q E:=⟨k,_,rfl,d,e, .inl ⟨a,rfl,i,q⟩⟩
inductive spCheckLine:Type
 |mk (k a:_) (_:vs=[.int k,tx a]) (_:1<=k) (_:k<=4) (_:AQ k a=true) (_:∀H',Same H H'->Q .non H')
theorem B2{k:Int}(d:1<=k)(e:k<=4)(i:AQ k a=true)(q:∀b,Same H b->Q .non b):spCheckLine ([.int k,tx a]++[]) H Q E:=⟨k,a,rfl,d,e,i,q⟩
instance (a:List Nat):Decidable (Rt a):=by unfold Rt;infer_instance
inductive spMatched:Type
 |mk (a:_) (_:vs=[tx a]) (_:a.length<=40) (_:(Rt a->∀r xs H',H r=none->Same H H'->H' r=some (.lst xs)->IsPart a xs->Q (.ref r) H')) (_:(¬Rt a->∀H',Same H H'->Q .non H'))
theorem Pa(e:a.length<=40)(q:Rt a->∀r d b,H r=none->Same H b->b r=some (.lst d)->IsPart a d->Q (.ref r) b)(i:¬Rt a->∀b,Same H b->Q .non b):spMatched ([tx a]++[]) H Q E:=⟨a,rfl,e,q,i⟩
inductive spRightP:Type
 |mk (k a:_) (_:vs=[.int k,tx a]) (_:1<=k) (_:k<=4) (_:AQ k a=true) (_:∀H',Same H H'->Q (.bl (decide (Rt a))) H')
theorem GF{k:Int}(d:1<=k)(e:k<=4)(i:AQ k a=true)(q:∀b,Same H b->Q (.bl (decide (Rt a))) b):spRightP ([.int k,tx a]++[]) H Q E:=⟨k,a,rfl,d,e,i,q⟩
inductive spLaw(K:W.Frag):Type
 |mk (a:Addr) (ns:List Int) (_:vs=[.ref a]) (_:SqL K H a (ns.map V.int)) (_:ns.length<=63) (_:∀H',Q (.bl true) H')
theorem An{k:Int}(h:AQ k a=true):a.length<=40:=by
 unfold AQ at h;simp only[aQ,bq]at h;exact h.1
theorem JE{l:List α}{i:Nat}(h:i<=j){x:α}(a:x∈l.take i):x∈l.take j:=by
 have e:l.take i=(l.take j).take i:=by rw[List.take_take,gI h]
 rw[e]at a;exact jG a
theorem Sd{k kk:Int}(hk:kk<=k)(d:a.length<=40)(h:∀c∈a,kin kk c):AQ k a=true:=by
 unfold AQ;rw[aQ];refine⟨ba d,?_⟩;rw[aT];intro c e;refine ba ?_;unfold sgn;have b:kk.toNat<=k.toNat:=by lia
 rcases h c e with z|z
 ·exact cD _ (cD _ (JE b z))
 ·exact cD _ (aP _ (JE b z))
theorem Be(xs:List α){k:Int}(h:0<=k):Ap xs none (some k)=xs.take k.toNat:=by
 unfold Ap;obtain⟨n,rfl⟩:∃n:Nat,k=n:=⟨k.toNat,by lia⟩;rw[HT.sIx_nat,HT.sIx_none,ff,kQ,d0];rcases mD n xs.length with z|z
 ·rw[gI z]
 ·rw[k9 z,dD,dA z]
theorem Sa(b:c∈opn):inV (tx [c,d]) [tx [40,41],tx [91,93],tx [123,125],tx [60,62]]=decide (d=clo c):=by
 have e:inV (tx [c,d]) [tx [40,41],tx [91,93],tx [123,125],tx [60,62]]=(decide ([40,41]=[c,d])||(decide ([91,93]=[c,d])||(decide ([123,125]=[c,d])||(decide ([60,62]=[c,d])||false)))):=by
  unfold inV;simp only[dh,kS,Fe]
 rw[e];have a:c=40\/c=91\/c=123\/c=60:=by simpa[opn]using b
 rcases a with rfl|rfl|rfl|rfl<;>simp[clo,eq_comm]
theorem XU(x:α)(n:Nat):(aS n [x]).flatten=aS n x:=by
 induction n with
 |zero=>rfl
 |succ n a=>rw[bQ,cz,a];rfl
end BrM
open BrM
namespace L2
variable{f x:Addr}{g:Array ml}{b:Bool}{pins':List (Addr×Obj)}{xss:List (List Nat)}{cs:List Addr}{es:List Expr}{ps:List Str}{Q:Option ah->ak->Prop}{os:OsState}{s':ak}{st:Stmt}{t:TA}{a0 cdv e:ah}{E' xe:ah->ak->Prop}{E:XK}
abbrev FZ:List Value:=[.type "ValueError", .type "Exception", .type "BaseException", .type "object"]
structure ECls (K:W.Frag) (C:Addr):Prop where
 ex:W.excIn K C FZ "ValueError.__new__"=true
 ty:W.typeIn K (.ref C)=some (.type "type")
 cs:∃cd,W.clsIn K C=some cd
 bs:W.mroIn K C (.type "BaseException")=some true
 ob:W.mroIn K C (.type "object")=some true
 ga:W.findIn K (.ref C) "__getattribute__"=some (some (.builtin "BaseException.__getattribute__"))
 gk:W.findIn K (.ref C) "__getattr__"=some none
 ca:W.findIn K (.ref C) "__class__"=some (some (.builtin "object.__class__"))
 cn:W.specialIn K (.builtin "object.__class__") "__get__"=some (some (.builtin "getset_descriptor.__get__"))
 ct:W.takesIn K (.builtin "object.__class__")=some true
def ExcAt(x C:Addr)(h:Heap):Prop:=∃o vs,h.get? x=some o/\o.cls= .ref C/\o.data= .fields vs
theorem ExcAt.type{h:Heap}(e:ExcAt x C h):W.Looks M h (m3 (.ref x)) (.ref C):=by
 obtain⟨o,vs,a,b,_⟩:=e;exact b▸(W.Looks.ld a).andThen .now
section
variable{E:ah->ak->Prop}{s:ak}
open Builtin Builtin.ObjectAttr Builtin.Getset_descriptor in
theorem WR{tp:ah}(Z:ECls K C)(X:K.In s.heap)(e:ExcAt x C s.heap)(h:R (.ok (.ret (.ref C))) s):
 dt (aR prog w) A (.call (.builtin "getset_descriptor.__get__") ⟨[.builtin "object.__class__", .ref x,tp],[]⟩) R s:=by
 obtain⟨a,gn,b,d,os⟩:=s;have La:=e.type (M:=aR prog w);have Lb:=W.looks_mroIn (M:=aR prog w) X Z.ob;refine gq W.KF.slot_gs.plain W.KF.entry_gs (W.KF.slot_gs.check _ _ _ _ _ _ _ _ W.KF.type_class (W.KF.args_gs _ _ _) ?_);unfold fc.«getset_descriptor.__get__» descrGet;rw[W.dga_obj];refine ac (ag ?_);unfold descrGetter descrCheckInstance descrNameAndClass jw;simp only[W.KF.owner_class];repeat lk
 refine⟨kn _ nB,cE W.KF.entry_class ?_⟩;unfold fc.«object.__class__» shownTypeOf;repeat lk
 exact h
open Builtin Builtin.ObjectAttr in
theorem Sk{h:Heap}(Z:ECls K C)(X:K.In h):W.Looks M h (find (.ref x) (.ref C) "__class__") (.bind (.builtin "getset_descriptor.__get__") (.builtin "object.__class__")):=by
 have a:=W.looks_findIn (M:=M) X Z.ca;have L2:W.Looks M h (getOf (some (.builtin "object.__class__"))) (some (.builtin "getset_descriptor.__get__")):=W.looks_specialIn X Z.cn;have b:=W.looks_takesIn (M:=M) X Z.ct;refine a.andThen (L2.andThen ?_);exact(show W.Looks M h (dataDescriptor? (some (.builtin "object.__class__")) (some (.builtin "getset_descriptor.__get__"))) (some (_,_))from b.andThen .now).andThen (W.Looks.tag .now)
theorem WT{h:Heap}{d:Drawn}{t:Nat}{tk:Tok}(Z:ECls K C)(X:K.In h)(e:ExcAt x C h)(j:R (.ok (.ret (.ref C))) ⟨h,g,d,t,os⟩):
 dt (aR prog w) A (.call (.builtin "BaseException.__getattribute__") ⟨[.ref x, .str "__class__" tk],[]⟩) R ⟨h,g,d,t,os⟩:=by
 have i:=e.type (M:=aR prog w);have o:=Sk (x:=x) (M:=aR prog w) Z X;have L2:=W.looks_mroIn (M:=aR prog w) X Z.bs;have hk:builtinKind "BaseException.__getattribute__"=some .slot:=by decide +kernel
 have a:splitId "BaseException.__getattribute__"=some ("BaseException","__getattribute__"):=by decide +kernel
 have q:=F.args_bexc_ga (.ref x) (.str "__class__" tk);refine gq F.attr_ValueError.ga.plain F.entry_bexc_ga ?_;simp only[kZ,hk,a];refine ac ?_;unfold jw;refine ac (i.at (L2.at ?_));simp only[ko,dM,f5];have body:aH (aR prog w) A.in1 (fc.«object.__getattribute__» ⟨[.ref x, .str "__class__" tk],[]⟩) (λfin b=>match fin with| .done f=>R (.ok f) b| .again c'=>c'.quiet=true/\dt (aR prog w) A c' R b)
  (λe b=>R (.error e) b) ⟨h,g,d,t,os⟩:=by
  refine ac (ag (ac (ag (ac (i.at (ac (o.at ?_)))))));show aH _ _ (fV [_] (call (.builtin "getset_descriptor.__get__") [.builtin "object.__class__", .ref x, .ref C])>>=ret) _ _ _;exact ac (cH (fu (WR (s:=⟨h,g,d,t,os⟩) Z X e (ag j))))
 repeat(any_goals(first|assumption|wp_step))
theorem RK(Z:ECls K C)(X:K.In s.heap)(e:ExcAt x C s.heap)(h:Q (some (.ref C)) {s with toks:=s.toks+1}):aH (aR prog w) A (getAttr? (.ref x) "__class__") Q E s:=by
 obtain⟨o,g,d,t,os⟩:=s;have b:=e.type (M:=aR prog w);have i:=W.looks_findIn (M:=aR prog w) X Z.ga;have L2:=W.looks_findIn (M:=aR prog w) X Z.gk;have j:=F.attr_ValueError.ga.bind (.ref x);have a:(mf "BaseException.__getattribute__"==mf "object.__getattribute__")=false:=by decide +kernel
 unfold getAttr? getAttrBy? getAttrBy;refine ac (wpAny_mkText (ac (fI (cH (ac (b.at (ac (i.at ?_))))))))
 dsimp only
 rw[aB (by rw[a];simp)];unfold getAttrByItsOwn hookBefore callGetattribute boundAndCalled;refine ac (L2.at (ac (fI (cH ?_))));rw[aB nC];rw[j];refine ac (ag (fu (WT Z X e ?_)));exact W.handed_on rfl (ag h)
set_option tactic.hygienic true in
theorem Gq(Z:ECls K C):W.KitX K (.ref x) (.ref C) (ExcAt x C) where
 ty:=λ_ _ _ e=>e.type
 it:=λ_ _ X _=>by
  obtain⟨i,a⟩:=Z.cs;unfold W.clsIn at a
  split at a
  ·rename_i b
   intro o r y z k q;unfold isType loadHead;exact ac (jJ (k _ _ (X _ _ b)) (ag q))
  ·cases a
 ne:=λh tp B j n G X d=>by
  obtain⟨i,a⟩:=Z.cs;refine Bool.eq_false_iff.mpr λq=>?_;have e:C=tp:=Value.ref.inj (bE.mp q);subst e;unfold W.clsIn at a
  split at a
  ·rename_i b
   exact nomatch (X _ _ b).symm.trans d
  ·cases a
 ca:=λX e k=>RK Z X e k
end
def BE(ob:Obj)(x C:Addr):HO:= .frz ob (.ext (ExcAt x C))
theorem ObjOk.here{h:Heap}{a:Addr}{o:HO}(x:ObjOk P w H h a o):∃ob,h.get? a=some ob:=by
 cases o with
 |lst d=>obtain⟨_,_,_,_,e⟩:=x;exact⟨_,e⟩
 |tup d=>obtain⟨_,_,_,_,e,_⟩:=x;exact⟨_,e⟩
 |dK b=>obtain⟨_,_,_,_,_,_,_,e,_⟩:=x;exact⟨_,e⟩
 |dT b=>obtain⟨_,_,_,_,_,_,_,e,_⟩:=x;exact⟨_,e⟩
 |set S n=>obtain⟨_,_,_,_,e,_⟩:=x;exact⟨_,e⟩
 |ins C i fs=>obtain⟨_,_,_,e,_⟩:=x;exact⟨_,e⟩
 |own y=>exact x
 |xd fs=>obtain⟨_,⟨_,_,_,e,_⟩,_⟩:=x;exact⟨_,e⟩
 |rng lo hi=>obtain⟨_,_,_,e⟩:=x;exact⟨_,e⟩
 |frz ob u=>obtain⟨e,_⟩:=x;exact⟨_,e⟩
 |tbl j=>exact⟨_,(show h.get? a=some _ from x)⟩
 |met f y=>exact⟨_,(show h.get? a=some _ from x)⟩
 |ext φ=>obtain⟨_,e,_⟩:=x;exact e
theorem WQ{h:Heap}{ob:Obj}(g:h.get? x=some ob)(e:ExcAt x C h):ObjOk P w H h x (BE ob x C):=by
 refine⟨g,e,?_,λd i p k=>?_⟩
 ·obtain⟨o,_,q,_⟩:=e;exact⟨o,q⟩
 ·obtain⟨o,vs,a,b⟩:=p;exact⟨o,vs,k _ a,b⟩
structure Aloft (P:bK) (w:cX) (l:List Env) (H:Hp) (h:Heap) (x C:Addr) (a0:ah) (H':Hp) (B h':Heap):Prop where
 un:Un (frs l) [] H H' h h'
 ok:HOk P w H' B
 stay:∀b o,h.get? b=some o->H b=none->b∉frs l->B.get? b=some o
 here:∀b o,h.get? b=some o->b∉frs l->∃o',B.get? b=some o'
 fl:kT B l x (.ref C) a0 h'
def CXE(P:bK)(w:cX):CXT:=λouter H s E e a=>∃ (x C:Addr) (d:ah) (b:Hp) (B:Heap),e= .ref x/\a.os=s.os/\hV a.gens/\Aloft P w outer H s.heap x C d b B a.heap/\E (.ref C) (some x) b
abbrev XR:=Addr->Addr->zQ0->Hp->Prop
def xk(R:XR)(σ:zQ0):XK:=λc a b=>∃C x,c= .ref C/\a=some x/\R C x σ b
def XF(X:Cx)(R:XR)(e:ah)(a:ak):Prop:=∃ (pins:List (Addr×Obj)) (σ:zQ0) (H:Hp) (s:ak),Inv X pins σ H s/\CXE X.prog X.w X.stack H s (xk R σ) e a
def XM(X:Cx)(R:XR)(e:ah)(a:ak):Prop:=∃ (pins:List (Addr×Obj)) (σ:zQ0) (H:Hp) (s:ak) (x C:Addr) (args:List ah),e= .ref x/\Inv X pins σ H s/\Heap.MadeExcOf s.heap a.heap x (.ref C) args/\
 a.os=s.os/\hV a.gens/\R C x σ H
section
variable{l:List Env}{h h2 B:Heap}
theorem Aloft.newx(q:Aloft P w l H h x C a0 H' B h'):h.get? x=none:=by
 cases e:h.get? x with
 |none=>rfl
 |some o=>
  by_cases b:x∈frs l
  ·obtain⟨_,i,a,h2⟩:=q.fl.2.2.1.mem b;obtain⟨r,vs,d,_,j,_⟩:=q.fl.first;rw[a]at d;cases d;exact absurd j (h2 vs)
  ·obtain⟨i,a⟩:=q.here x o e b;rw[q.fl.2.1]at a;cases a
theorem Aloft.nox(q:Aloft P w l H h x C a0 H' B h'):H' x=none:=by
 cases e:H' x with
 |none=>rfl
 |some o=>
  obtain⟨ob,a⟩:=(q.ok x o e).here;rw[q.fl.2.1]at a;cases a
theorem Aloft.on(q:Aloft P w l H h x C a0 H' B h')(up:h'.UpToSlots h2)(fl:kT B l x (.ref C) a0 h2)(fr:∀b∈frs l,H b=none):Aloft P w l H h x C a0 H' B h2 where
 ok:=q.ok
 stay:=q.stay
 here:=q.here
 fl:=fl
 un:={
  keep:=λb o e n a _=>fl.1 b o (q.stay b o e n a)
  slot:=λb o e n a r=>by
   obtain⟨I,d⟩:=q.un.slot b o e n a r;obtain⟨_,o1,i,y⟩:=q.fl.2.2.1.mem a;rw[d]at i;cases i;obtain⟨j,z⟩:=up b _ d y;exact⟨j,z⟩
  free:=q.un.free
  there:=λb o e r=>by
   by_cases a:b∈frs l
   ·obtain⟨I,d⟩:=q.un.slot b o e (fr b a) a r;obtain⟨_,o1,i,y⟩:=q.fl.2.2.1.mem a;rw[d]at i;cases i;obtain⟨j,z⟩:=up b _ d y;exact⟨_,z⟩
   ·obtain⟨G,d⟩:=q.here b o e a;exact⟨G,fl.1 b G d⟩
  tups:=q.un.tups
  frzs:=q.un.frzs
  tbls:=q.un.tbls}
theorem Aloft.caught(q:Aloft P w l H h x C a0 H' B h'):∃ob,Un (frs l) [] H (upd H' x (BE ob x C)) h h'/\HOk P w (upd H' x (BE ob x C)) h':=by
 have nx:=q.newx;have d:=q.nox;have j:∃b o,1<b/\h'.get? b=some o:=by
  obtain⟨b,o,l,e⟩:=q.ok.bg;exact⟨b,o,l,q.fl.1 _ _ e⟩
 obtain⟨y,vs,G,g2,J,_⟩:=q.fl.first;refine⟨y,⟨q.un.keep,q.un.slot,λb o e n L=>?_,q.un.there,λb I e=>?_,λb o u e=>?_,λb M e=>?_⟩,⟨λb u e=>?_,λu e=>?_,j⟩⟩
 ·rw[AI (λz=>by rw[z,nx]at e;cases e)];exact q.un.free b o e n L
 ·have a:=q.un.tups b I e;rw[AI (AS a d)];exact a
 ·have a:=q.un.frzs b o u e;rw[AI (AS a d)];exact a
 ·obtain⟨more,a⟩:=q.un.tbls b M e;exact⟨more,by rw[AI (AS a d)];exact a⟩
 ·by_cases i:b=x
  ·subst i;rw[AF]at e;cases e;exact WQ G ⟨y,vs,G,g2,J⟩
  ·rw[AI i]at e;exact(q.ok b u e).stay (λc v _ r=>q.fl.1 c v r) (λc r=>by rw[AI (AS r d)];exact r) λc I r=>by rw[AI (AS r d)];exact r
 ·by_cases i:bJ=x
  ·rw[i,AF]at e;cases e;exact⟨_,_,rfl⟩
  ·rw[AI i]at e;exact q.ok.sm u e
end
section
variable{R:XR}
structure Cx.Top (X:Cx):Prop where
 stk:X.stack=X.env::X.outer
 fr:X.env.frame=some X.env.locals
 ex:X.ex=[]
theorem Inv.old{σ:zQ0}{s:ak}(I:Inv X pins σ H s){b:Addr}(e:X.s₀.heap.get? b=some o)(a:b∉X.fs):b∉frs X.stack:=λz=>by
 rcases aJ.mp (I.stkSub b z)with q|q
 ·exact absurd (au e) (by rw[q];exact Nat.not_lt.mpr I.ok.above)
 ·exact a q
theorem Inv.oldfs{pins:List (Addr×Obj)}{σ:zQ0}{H:Hp}{s:ak}(T:X.Top){b:Addr}(a:b∈X.fs):b∈frs X.stack:=by
 rw[T.stk];unfold frs;rw[dy,T.fr];exact ay _ a
theorem Aloft.leave{σ:zQ0}{s:ak}{B h1:Heap}(T:X.Top)(I:Inv X pins σ H s)(q:Aloft X.prog X.w X.stack H s.heap x C a0 H' B h1)
 (up:h1.UpToSlots h') (fl:kT B X.outer x (.ref C) a0 h'):Aloft X.prog X.w X.outer X.H₀ X.s₀.heap x C a0 H' B h':=by
 have a:∀b:Addr,b∉X.ex:=λb=>by rw[T.ex];simp
 have stay:∀b o,X.s₀.heap.get? b=some o->X.H₀ b=none->b∉X.fs->B.get? b=some o:=λb o e n d=>q.stay b o (I.base.keep b o e n d (a b)) (I.base.free b o e n (a b)) (I.old e d);have here:∀b o,X.s₀.heap.get? b=some o->b∉X.fs->∃o',B.get? b=some o':=λb o e d=>by
  obtain⟨o1,i⟩:=I.base.there b o e (a b);exact q.here b o1 i (I.old e d)
 have slot:∀b o,X.s₀.heap.get? b=some o->X.H₀ b=none->b∈X.fs->∃r,h'.get? b=some {o with slots:=r}:=λb o e n d=>by
  obtain⟨r,i⟩:=I.base.slot b o e n d (a b);obtain⟨J,j⟩:=q.un.any i (I.base.free b o e n (a b)) nC;obtain⟨_,S,z,L⟩:=q.fl.2.2.1.mem (Inv.oldfs (pins:=pins) (σ:=σ) (H:=H) (s:=s) T d);rw[j]at z;cases z;obtain⟨y,M⟩:=up b _ j L;exact⟨y,M⟩
 refine⟨⟨λb o e n d _=>fl.1 b o (stay b o e n d),λb o e n d _=>slot b o e n d,λb o e n _=>?_,λb o e _=>?_,λb G e=>q.un.tups b G (I.base.tups b G e),λb o u e=>q.un.frzs b o u (I.base.frzs b o u e),λb P e=>?_⟩,q.ok,stay,here,fl⟩
 ·have Q:=I.base.free b o e n (a b);obtain⟨o1,i⟩:=I.base.there b o e (a b);exact q.un.free b o1 i Q nC
 ·by_cases d:b∈X.fs
  ·obtain⟨r,i⟩:=slot b o e (I.ok.frf b d) d;exact⟨_,i⟩
  ·obtain⟨o1,i⟩:=here b o e d;exact⟨o1,fl.1 b o1 i⟩
 ·obtain⟨m1,i⟩:=I.base.tbls b P e;obtain⟨m2,j⟩:=q.un.tbls b _ i;exact⟨m1++m2,by rw[j,kq]⟩
theorem Inv.aloft{σ:zQ0}{s:ak}(I:Inv X pins σ H s):HOk X.prog X.w H (W.hideAll s.heap (frs X.stack)):=by
 refine⟨?_,I.hok.sm,?_⟩
 rotate_left
 ·obtain⟨o,_,_,e,_⟩:=I.ok.mod.glob;refine⟨a',o,by decide,W.hideAll_get _ (I.bk _ _ e) λz=>?_⟩;rw[(I.stack.mem z).1]at e;cases e
 exact λa o q=>(I.hok a o q).stay (λb u hb e=>W.hideAll_get _ e λz=>by
  have n:=I.stkFree b z;rcases hb with rfl|hb
  ·rw[q]at n;cases n
  ·rw[hb]at n;cases n) (λ_ z=>z) λ_ _ z=>z
theorem QU(T:X.Top)(h:XF X R e s'):
 aH (aR X.prog X.w) X.A (leaving X.env e) (λ_ b=>CXE X.prog X.w X.outer X.H₀ X.s₀ (λc d a=>∃C x σ,c= .ref C/\d=some x/\R C x σ a) e b) E' s':=by
 obtain⟨pins,σ,H,s,I,x,C,i,a,B,rfl,os,bare,q,j,o,y,z,r⟩:=h;refine wpAny_leaves_onW (by rw[I.ok.frames,T.stk]) T.fr (by rw[<-T.stk];exact q.fl) λG fl up=>?_;exact⟨x,_,i,a,B,rfl,os.trans I.os,bare,q.leave T I up fl,j,o,σ,y,z,r⟩
theorem QT(T:X.Top)(h:XM X R e s'):
 aH (aR X.prog X.w) X.A (leaving X.env e) (λ_ G=>CXE X.prog X.w X.outer X.H₀ X.s₀ (λc J L=>∃C x σ,c= .ref C/\J=some x/\R C x σ L) e G) E' s':=by
 obtain⟨pins,σ,H,s,x,C,args,rfl,I,mk,os,bare,r⟩:=h;have d:∀b:Addr,b∉X.ex:=λb=>by rw[T.ex];simp
 have j:∀env∈(X.env::X.outer),∀b,env.frame=some b->b∈frs X.stack:=λenv M b a=>by rw[T.stk];exact fM.mpr ⟨env,M,a⟩
 refine wpAny_leaves_madeW (base:=W.hideAll s.heap (frs X.stack)) (h:=s.heap) (by rw[I.ok.frames,T.stk]) T.fr (λb o q=>W.of_hideAll _ q) (W.funFrames_hide (by rw[<-T.stk];exact I.stack) j) mk λP t fl _ _ up=>?_;have stay:∀b o,X.s₀.heap.get? b=some o->X.H₀ b=none->b∉X.fs->(W.hideAll s.heap (frs X.stack)).get? b=some o:=λb o e n a=>W.hideAll_get _ (I.base.keep b o e n a (d b)) (I.old e a);have here:∀b o,X.s₀.heap.get? b=some o->b∉X.fs->∃o',(W.hideAll s.heap (frs X.stack)).get? b=some o':=λb o e a=>by
  obtain⟨o1,i⟩:=I.base.there b o e (d b);exact⟨o1,W.hideAll_get _ i (I.old e a)⟩
 have slot:∀b o,X.s₀.heap.get? b=some o->X.H₀ b=none->b∈X.fs->∃y,P.get? b=some {o with slots:=y}:=λb o e n a=>by
  obtain⟨y,i⟩:=I.base.slot b o e n a (d b);obtain⟨_,U,B,Q⟩:=I.stack.mem (Inv.oldfs (pins:=pins) (σ:=σ) (H:=H) (s:=s) T a);rw[i]at B;cases B;obtain⟨z,S⟩:=up b _ (mk.keeps _ _ i) Q;exact⟨z,S⟩
 refine⟨x,C,_,H,_,rfl,os.trans I.os,bare,⟨⟨λb o e n a _=>fl.1 b o (stay b o e n a),λb o e n a _=>slot b o e n a,λb o e n _=>I.base.free b o e n (d b),λb o e _=>?_,I.base.tups,I.base.frzs,I.base.tbls⟩,I.aloft,stay,here,fl⟩,C,x,σ,rfl,rfl,r⟩
 by_cases a:b∈X.fs
 ·obtain⟨y,i⟩:=slot b o e (I.ok.frf b a) a;exact⟨_,i⟩
 ·obtain⟨o1,i⟩:=here b o e a;exact⟨o1,fl.1 b o1 i⟩
end
set_option tactic.hygienic true in
theorem Uh{h:Heap}(X:K.In h)(q:W.excIn K C FZ "ValueError.__new__"=true):
 ∃bm N z B bs i G b H d I o k1 r x y L,h.get? C=some (excClassObj z B C N bs bm i G b H d I o k1 r x y "ValueError.__new__")/\h.Ns N L/\L "__init__"=none/\OwnTail h FZ bm:=by
 unfold W.excIn at q
 split at q
 ·rename_i I P J Q
  split at q
  ·rename_i U bm o k1 r x n y M R
   simp only[aQ,bE,Bool.not_eq_true']at q;obtain⟨⟨⟨⟨⟨rfl,rfl⟩,a⟩,ht⟩,hok⟩,j⟩:=q;obtain⟨z,bs,S,ns,B,hd,G,b,H,d,T⟩:=P
   dsimp only at M a hok j;subst M a
   obtain⟨J⟩:=J;have e:J=[o,k1,r,x,some (.builtin "ValueError.__new__"),y]:=R;subst e;exact⟨bm,ns,z,B,bs,hd,G,b,H,d,I,o,k1,r,x,y,_,X _ _ Q, .of_isNs (W.isNs_of_in X hok),W.nsMap_none_of_in X hok j,W.tail_of_in X ht⟩
  ·cases q
 ·cases q
section
variable{R:XR}{x:Str}{e:Expr}{np cpos pos p:Pos}
def MQ(C:Addr)(R:XR)(t:TA):TS:=λ_ σ H=>t σ H λvs a=>vs.length<=sizeLine/\∀y,a y=none->R C y σ a
theorem DI(Z:ECls X.K C)(G:X.mg x=some (.ref C))(J:X.A.handled=none)(L:∀e i,XM X R e i->X.xe e i)(M:PA X (e::es) t)(hg:Gl X x:=by rfl)(hd:(x==("__debug__":Str))=false:=by decide)
 (j:aL (e::es) X.env=(false,eval e X.env)::aL es X.env:=by rfl) (b:(dI cpos (aL es X.env)).any (·.1)=false:=by rfl):
 PS X (.Raise (some (.Call (.Name x np) (e::es) [] cpos)) none pos) (MQ C R t):=by
 intro pins s σ H D I h;obtain⟨bm,N,nm,P,bs,hdct,sn,sub,ab,col,dd,k0,k1,k2,k3,k5,mN,Q,S,d,TL⟩:=Uh I.ok.mod.kin Z.ex;refine wpAny_Raise_call_subU (C:=C) (nm:=nm) (q:=P) (N:=N) (bs:=bs) (bm:=bm) (hdct:=hdct) (sn:=sn) (sub:=sub) (ab:=ab) (col:=col) (dd:=dd) (k0:=k0) (k1:=k1) (k2:=k2) (k3:=k3) (k5:=k5)
  F.excBase_ValueError rfl F.excBase_ValueError (mN:=mN) (TL.hasType F.excBase_ValueError.hasBase) J ?_ d (C7 I hg G ⟨rfl,?_⟩ hd)
 ·rw[j];show(false||(dI cpos (aL es X.env)).any (·.1))=false;rw[b];rfl
 ·have w:=M cpos pins s σ H _ I h;rw[j]at w⊢;refine gt (thn w λT U ⟨vs,z,a,rv,Y,r⟩=>⟨rfl,by show T.length<=_;rw[<-rv.length];exact Y,a.bk _ _ Q,S.keeps a.bk,TL.keeps a.bk,λh' y mk=>L _ _ ?_⟩);refine⟨pins,σ,z,U,y,C,_,rfl,a,mk,rfl,a.bare,r y ?_⟩
  cases q:z y with
  |none=>rfl
  |some o=>
   obtain⟨ob,B⟩:=(a.hok y o q).here;rw[mk.new]at B;cases B
structure FnUE (P:bK) (w:cX) (K:W.Frag) (mg:Str->Option ah) (base:Heap) (k:Nat) (x:Str) (ps:List Str) (sp:Sp):Prop where
 ex:∃f fd,FnOk P w K mg base (CXE P w) k f fd ps sp/\mg x=some (.ref f)/\W.keepIn K (.ref f)=true/\Binds K fd ps []
def MU(sp:Sp)(R:XR)(t:TA):TE:=λσ H Q=>t σ H λvs a=>sp vs a Q (xk R σ)
theorem Ac{k:Nat}(U:FnUE X.prog X.w X.K X.mg X.base k x ps sp)(G:Room k X.A)(J:∀e i,XF X R e i->X.xe e i)(L:PA X (e::es) t)(hg:Gl X x:=by rfl)
 (j:(x==("__debug__":Str))=false:=by decide) (M:aL (e::es) X.env=(false,eval e X.env)::aL es X.env:=by rfl) (o:(dI pos (aL es X.env)).any (·.1)=false:=by rfl):
 PE X (.Call (.Name x p) (e::es) [] pos) (MU sp R t):=by
 obtain⟨f,fd,F,P,hk,S⟩:=U.ex;intro pins s σ H Q I h;refine ck (C7 I hg P ?_ j);refine W.callWith_K (h₀:=X.base) I.ok.mod.kin hk (thn (L pos pins s σ H _ I h) λd y ⟨vs,B,a,r,q⟩=>⟨a.kIn,?_⟩) M o;have T:d.length=ps.length:=by rw[<-r.length];exact F.len _ _ _ _ q
 refine fu (dj (F.run X.A X.stack y B ⟨d,[]⟩ d vs Q (xk R σ) G a.env0 ?_ r q) λres i b=>?_)
 ·have z:=S y d a.kIn (by rw[cG];exact T);rw[cG]at z;exact z
 ·cases res with
  |error Y=>exact J _ _ ⟨pins,σ,B,y,a,b⟩
  |ok fl=>
   cases fl with
   |ret u=>exact a.after b
   |next=>exact bz b
   |brk=>exact bz b
   |cont=>exact bz b
end
def rOf(E:XK):XR:=λC x _ a=>E (.ref C) (some x) a
abbrev cxE(P:bK)(w:cX)(K:W.Frag)(mg:Str->Option ah)(base:Heap)(N:List Str)(qual:Str)(st:Stmt)(f:Addr)(cdv:ah)(A:eR)(outer:List Env)(s:ak)(H:Hp)(E:XK):Cx:=
 CZ (CXE P w) P w K mg base N qual (AU st) f cdv A outer s H E
theorem MG{N:List Str}{s:ak}:(cxE P w K mg base N qual st f cdv A outer s H E).Top:=⟨rfl,rfl,rfl⟩
theorem K8{l:List Env}{s:ak}{E':XK}(h:CXE P w l H s E e s')(k:∀c x a,E c x a->E' c x a):CXE P w l H s E' e s':=by
 obtain⟨x,C,b,a,B,d,i,j,q,r⟩:=h;exact⟨x,C,b,a,B,d,i,j,q,k _ _ _ r⟩
theorem A3{N:List Str}{s:ak}(e:ah)(s':ak)
 (h:XF (cxE P w K mg base N qual st f cdv A outer s H E) (rOf E) e s'):(cxE P w K mg base N qual st f cdv A outer s H E).xe e s':=
 aZ (QU (E':=λ_ _=>False) MG h) (λ_ _ q=>K8 q λc x d ⟨C,y,σ,a,b,r⟩=>by subst a;subst b;exact r) λ_ _ z=>z.elim
theorem DR{N:List Str}{s:ak}(e:ah)(s':ak)
 (h:XM (cxE P w K mg base N qual st f cdv A outer s H E) (rOf E) e s'):(cxE P w K mg base N qual st f cdv A outer s H E).xe e s':=
 aZ (QT (E':=λ_ _=>False) MG h) (λ_ _ q=>K8 q λc x d ⟨C,y,σ,a,b,r⟩=>by subst a;subst b;exact r) λ_ _ z=>z.elim
theorem Fun.okE{x:Str}{N:List Str}{k:Nat}(F:Fun K x qual st f fd)(S:FnScope N ps (AU st))(len:∀vs H Q E,sp vs H Q E->vs.length=ps.length)
 (b:∀ (a:ah) (A:eR) (outer:List Env) (s:ak) (H:Hp) (vs:List V) (Q:VK) (E:XK),Room k (A.deeper (ig qual (AU st) s.1.1.size f a))->sp vs H Q E->
   ∃t,PSs (cxE P w K mg base N qual st f a A outer s H E) (Bn st) t/\t {nx:=λ_ i=>Q .non i,rt:=Q} (start N vs) H):FnOk P w K mg base (CXE P w) (k+1) f fd ps sp:=by
 obtain⟨y,z,kV,j,B,G,a,ct,o,rfl,q,d⟩:=F.ex;exact NT q d S len λA outer s H vs Q E r e=>b a A outer s H vs Q E r e
section
variable{E:ah->ak->Prop}{CR:Addr}
set_option tactic.hygienic true in
theorem Sj{h:Heap}(Z:ECls K C)(X:K.In h):W.Looks M h (isType (.ref C)) true:=by
 obtain⟨d,a⟩:=Z.cs;unfold W.clsIn at a
 split at a
 ·rename_i b
  intro e i j o k q;unfold isType loadHead;exact ac (jJ (k _ _ (X _ _ b)) (ag q))
 ·cases a
theorem Pe{s:ak}{Q:Bool->ak->Prop}(ZR:ECls K CR)(X:K.In s.heap)(a:W.mroIn K C (.ref CR)=some b)(e:ExcAt x C s.heap)(h:Q b s):aH M A (excMatches (.ref x) (.ref CR)) Q E s:=by
 obtain⟨r,g,d,y,os⟩:=s;have i:=e.type (M:=M);have j:=W.looks_typeIn (M:=M) X ZR.ty;have L2:=Sj (M:=M) ZR X;have o:=W.looks_mroIn (M:=M) X ZR.bs;have q:=W.looks_mroIn (M:=M) X a;have f:=tc_notTuple;unfold excMatches jw;refine ac (ac (j.at ?_));rw[f];refine ag ?_;simp only[dM,f5];refine ac (ag ?_);rw[dX];unfold isExcClass;refine ac (ac (ac (ac (L2.at ?_))));simp only[fJ];refine o.at ?_;simp only[ko,dM,f5];refine ag ?_;refine ag (ac (i.at ?_));rw[dX];refine ac (ac (ac (q.at ?_)))
 cases b with
 |true=>
  simp only[fJ];exact ag (ag (ag h))
 |false=>
  simp only[dM,f5];exact ag (ag (ag h))
end
abbrev Cx.held(X:Cx)(e:ah):Cx:={X with A:=X.A.mark (some e),calm:=false,xe:=λ_ _=>False}
abbrev Cx.tried(X:Cx)(pn:List (Addr×Obj))(xe:ah->ak->Prop):Cx:={X with pn:=pn,xe:=xe}
section
variable{σ:zQ0}{s:ak}
theorem Cx.Ok.held(ok:X.Ok)(e:ah):(X.held e).Ok:=
 ⟨ok.mod,ok.kind,ok.glob,ok.blt,ok.above,ok.inj,ok.has,ok.cab,λz=>(nomatch z),ok.frames,ok.stk,ok.exf,ok.bs,ok.bsz,ok.noex,ok.exfs,ok.funs,ok.frf⟩
theorem Inv.held(I:Inv X pins σ H s)(e:ah):Inv (X.held e) pins σ H s:=⟨I.ok.held e,I.os,I.bare,I.base,I.loc,I.cell,I.free,I.freeC,I.pin,I.hok,I.len⟩
theorem Inv.unheld(ok:X.Ok)(I:Inv (X.held e) pins σ H s):Inv X pins σ H s:=⟨ok,I.os,I.bare,I.base,I.loc,I.cell,I.free,I.freeC,I.pin,I.hok,I.len⟩
theorem Cx.Ok.tried(ok:X.Ok)(pn:List (Addr×Obj))(xe:ah->ak->Prop):(X.tried pn xe).Ok:=
 ⟨ok.mod,ok.kind,ok.glob,ok.blt,ok.above,ok.inj,ok.has,ok.cab,ok.hd,ok.frames,ok.stk,ok.exf,ok.bs,ok.bsz,ok.noex,ok.exfs,ok.funs,ok.frf⟩
theorem Inv.tried(I:Inv X pins σ H s)(xe:ah->ak->Prop):Inv (X.tried (X.pn++pins) xe) [] σ H s:=
 ⟨I.ok.tried _ _,I.os,I.bare,I.base,I.loc,I.cell,I.free,I.freeC,λp a=>I.pin p (by simpa using a),I.hok,I.len⟩
theorem Inv.untried(ok:X.Ok)(I:Inv (X.tried (X.pn++pins) xe) pins' σ H s):Inv X pins σ H s:=
 ⟨ok,I.os,I.bare,I.base,I.loc,I.cell,I.free,I.freeC,λp a=>I.pin p (cD _ a),I.hok,I.len⟩
theorem SP.untried{f:Flow}(ok:X.Ok)(h:SP (X.tried (X.pn++pins) xe) [] D f s):SP X pins D f s:=by
 cases f with
 |next=>obtain⟨σ',a,I,q⟩:=h;exact⟨σ',a,I.untried ok,q⟩
 |brk=>obtain⟨σ',a,I,q⟩:=h;exact⟨σ',a,I.untried ok,q⟩
 |cont=>obtain⟨σ',a,I,q⟩:=h;exact⟨σ',a,I.untried ok,q⟩
 |ret u=>obtain⟨v,σ',a,I,r,q⟩:=h;exact⟨v,σ',a,I.untried ok,r,q⟩
theorem Inv.gone{n:Str}{v:Option ah}{m:Str->Option ah}{tk:Nat}(I:Inv X pins σ H s)(T:X.N.Nodup)(hi:X.N[i]? =some n)
 (U:∀ (i:Nat) (x:Str) (v:V),X.N[i]? =some x->σ[i]? =some (some v)->Vis X.env.scope x->∃u,RelV v u/\Look X.env s.heap m x u)
 (Y:h'.Ns X.env.locals (λx=>if x=n then v else m x)) (B:bu X.env.locals s.heap h'):Inv X pins (σ.set i none) H {s with heap:=h',toks:=tk}:=by
 have a:∀b o,X.s₀.heap.get? b=some o->b≠X.env.locals:=λb o e=>aN (aI (au e) I.ok.above);have Q:∀b u,H b=some u->b≠X.env.locals:=λb u e z=>by rw[z,I.free]at e;cases e
 refine⟨I.ok,I.os,I.bare,⟨λb o e q M L=>?_,λb o e q M L=>?_,I.base.free,λb o e L=>?_,I.base.tups,I.base.frzs,I.base.tbls⟩,⟨_,Y,λj y w G J Z=>?_⟩,λy c e=>?_,I.free,I.freeC,λp hp=>?_,⟨λb u e=>?_,I.hok.sm,let⟨o,_,_,e,_⟩:=I.ok.mod.glob;⟨a',o,by decide,(B.2 _ (a _ o (I.ok.bs _ _ e).1)).trans (I.bk _ _ e)⟩⟩,by simpa using I.len⟩
 ·exact(B.2 b (a b o e)).trans (I.base.keep b o e q M L)
 ·obtain⟨sl,G⟩:=I.base.slot b o e q M L;exact⟨sl,(B.2 b (a b o e)).trans G⟩
 ·obtain⟨o',G⟩:=I.base.there b o e L;exact⟨o',(B.2 b (a b o e)).trans G⟩
 ·have R:j≠i:=λz=>by
   subst z
   by_cases P:j<σ.length
   ·rw[eG P]at J;cases J
   ·rw[bL (by rw[jj];lia)]at J;cases J
  rw[bW (cI R)]at J;obtain⟨u,r,q⟩:=U j y w G J Z;refine⟨u,r,?_⟩;have ny:y≠n:=λz=>R (Gn T G (z▸hi));rcases q with⟨k,e⟩|⟨k,c,e,z⟩
  ·exact .inl ⟨k,by show(if y=n then v else m y)=some u;rw[aB ny];exact e⟩
  ·exact .inr ⟨k,c,e,z.sameBut B (I.cne y c e)⟩
 ·obtain⟨S,z⟩:=I.cell y c e;exact⟨S,z.sameBut B (I.cne y c e)⟩
 ·obtain⟨e,q,ne,nf,d⟩:=I.pin p hp;exact⟨(B.2 p.1 ne).trans e,q,ne,nf,d⟩
 ·refine(I.hok b u e).stay (λc S hc r=>(B.2 c ?_).trans r) (λ_ z=>z) λ_ _ z=>z;rcases hc with rfl|hc
  ·exact Q _ _ e
  ·exact Q _ _ hc
end
section
variable{cn en:Str}{CR:Addr}{body suite:List Stmt}{b₀:Stmt}{np hpos pos:Pos}{tb:XR->TS}{ts:TS}
def FU(i:Nat)(D:Ends):Ends:={nx:=λσ H=>D.nx (σ.set i none) H,rt:=D.rt,bk:=λσ H=>D.bk (σ.set i none) H,ct:=λσ H=>D.ct (σ.set i none) H}
def Nc(K:W.Frag)(i:Nat)(CR:Addr)(tb:XR->TS)(ts:TS):TS:=λD σ H=>
 tb (λC x σ' a=>W.mroIn K C (.ref CR)=some true/\∀ob,ts (FU i D) (σ'.set i (some (.ref x))) (upd a x (BE ob x C))) D σ H
theorem Md(ZR:ECls X.K CR)(hm:X.mg cn=some (.ref CR))(T:X.Top)(hN:X.N.Nodup)(hi:X.N[i]? =some en)(S:X.env.scope.names.lookup en=some .local)
 (hb:∀ (pn:List (Addr×Obj)) (xe:ah->ak->Prop) (R:XR),(∀e s',XF (X.tried pn xe) R e s'->xe e s')->PSs (X.tried pn xe) body (tb R))
 (hs:∀e:ah,PSs (X.held e) (b₀::suite) ts) (hg:Gl X cn:=by rfl) (hd:(cn==("__debug__":Str))=false:=by decide):
 PS X (.Try body [.ExceptHandler (some (.Name cn np)) (some en) (b₀::suite) hpos] [] [] pos) (Nc X.K i CR tb ts):=by
 intro pins s σ H D I h;refine wpAny_Try_except ?_;refine aZ (hb (X.pn++pins) _ _ (λe P z=>?_) [] s σ H D (I.tried _) h) (λf P q=>?_) λe P z=>z
 ·obtain⟨U,σ1,H1,s1',J,x,C,a0,H',B,rfl,os,bare,q,C',x',e1,e2,M,r⟩:=z
  cases e1;cases e2
  have J:=J.untried I.ok;refine wpAny_looks_onW (by rw[I.ok.frames,T.stk]) T.fr (by rw[<-T.stk];exact q.fl) λh4 j Y=>?_;refine wpAny_landsW j λh5 Z up5=>?_;have L:=q.on (Y.trans up5) (by rw[T.stk];exact Z) J.stkFree;have I5:Inv X pins σ1 H' {P with heap:=h5}:=J.call' (ch:=[]) os L.un (L.ok.kept L.fl.1) bare (λb z=>absurd z nC);have X5:ExcAt x C h5:=by
   obtain⟨oe,vs,g1,g2,g3,_⟩:=L.fl.first;exact⟨oe,vs,g1,g2,g3⟩
  refine wpAny_handleBy_cons (codeAny_handlers_test (C7 (X:=X.held (.ref x)) (I5.held _) hg hm ?_ hd)) (by intro z;cases z);refine Pe ZR I5.kIn M X5 ?_;refine codeAny_handlers_suite_as ?_;refine lands_againW (base:=B) (l:=X.env::X.outer) (by rw[<-T.stk];exact L.fl) λh6 fl6 up6=>?_;have q6:=L.on up6 (by rw[T.stk];exact fl6) J.stkFree;obtain⟨ob,c6⟩:=q6.caught;have I6:Inv X pins σ1 (upd H' x (BE ob x C)) {P with heap:=h6}:=J.call' (ch:=[]) os c6.1 c6.2 bare (λb z=>absurd z nC);refine FE (X:=X.held (.ref x)) (I6.held _) hN hi (.inl S) (v:= .ref x) rfl (λs7 I7=>?_) (.inr S);refine aZ (hs (.ref x) pins s7 _ _ (FU i D) I7 (r ob)) (λf s8 Q=>?_) λ_ _ z=>z.elim;have go:∀ {σ8:zQ0} {o:Hp},Inv (X.held (.ref x)) pins σ8 o s8->(∀d,Inv X pins (σ8.set i none) o d->SP X pins D f d)->aH (aR X.prog X.w) X.A (do bindName X.env en .none;unbindBehindTheSuite X.env en hpos) (λ_ d=>SP X pins D f d) X.xe s8:=fun{σ8 o} a k=>by
   have a:=a.unheld I.ok;obtain⟨m,hn,hlk⟩:=id a.loc;refine wpAny_nameGoes_keeps S hn ?_ λh9 v hn9 hs9=>k _ (a.gone hN hi hlk hn9 hs9);rw[I.ok.kind];rfl
  cases f with
  |next=>obtain⟨σ8,o,a,y⟩:=Q;exact go a λd G=>⟨_,_,G,y⟩
  |brk=>obtain⟨σ8,o,a,y⟩:=Q;exact go a λd G=>⟨_,_,G,y⟩
  |cont=>obtain⟨σ8,o,a,y⟩:=Q;exact go a λd G=>⟨_,_,G,y⟩
  |ret u=>obtain⟨v,σ8,o,a,rv,y⟩:=Q;exact go a λd G=>⟨_,_,_,G,rv,y⟩
 ·have q:=q.untried I.ok
  cases f with
  |next=>exact fH q
  |brk=>exact q
  |cont=>exact q
  |ret u=>exact q
end
open PySem.SeqAt
theorem Hy{σ:zQ0}{s:ak}{ob:Obj}(I:Inv X pins σ H s)(h:H x=some (BE ob x C)):ExcAt x C s.heap:=by
 obtain⟨_,p,_⟩:=(show ObjOk X.prog X.w H s.heap x (.frz ob (.ext (ExcAt x C)))from I.hok x _ h);exact p
def Fm(K:W.Frag):List V->Hp->VK->Prop:=λa H Q=>Ig K a H Q\/
 (∃x ob C T b,a=[.ref x, .ty T]/\H x=some (BE ob x C)/\ECls K C/\W.kitOne K (.ref C) (.type T)=some b/\Q (.bl b) H)\/
 (∃x ob C D b,a=[.ref x, .ref D]/\H x=some (BE ob x C)/\ECls K C/\W.kitOne K (.ref C) (.ref D)=some b/\Q (.bl b) H)\/
 ∃x ob C d,∃cs:List Addr,∃b,a=[.ref x, .ref d]/\H x=some (BE ob x C)/\ECls K C/\H d=some (.tup (cs.map V.ref))/\W.kitAny K (.ref C) (cs.map aj)=some b/\Q (.bl b) H
theorem Jp:∀ {cs:List Addr} {us:List ah},Vals (cs.map V.ref) us->us=cs.map aj
 |[],_, .nil=>rfl
 |_::_,_, .cons r t=>by rw[show _=aj _ from r,Jp t];rfl
theorem Gb:∀ {bs:List Bool} {us:List ah},Vals (bs.map V.bl) us->us=bs.map dS
 |[],_, .nil=>rfl
 |_::_,_, .cons r t=>by rw[show _=dS _ from r,Gb t];rfl
theorem Bw(K:W.Frag)(i:X.K=K:=by rfl):CallR X (.builtin "isinstance") (Fm K):=by
 intro pins s σ H G J Q I r h;rcases h with h|⟨x,ob,C,T,b,rfl,a,Z,e,q⟩|⟨x,ob,C,D,b,rfl,a,Z,e,q⟩|⟨x,ob,C,j,cs,b,rfl,a,Z,ht,e,q⟩
 ·exact Dc K i pins s σ H G J Q I r h
 ·subst i;obtain⟨u,v,rfl,d,rv⟩:=vals2 r
  cases(show u=aj x from d);cases(show v=dR T from rv)
  exact W.kia_one (Gq Z) I.kIn (Hy I a) e (λz=>nomatch z) λo=>⟨.bl b,H,I.tok _,rfl,q⟩
 ·subst i;obtain⟨u,v,rfl,d,rv⟩:=vals2 r
  cases(show u=aj x from d);cases(show v=aj D from rv)
  exact W.kia_one (Gq Z) I.kIn (Hy I a) e (λz=>nomatch z) λo=>⟨.bl b,H,I.tok _,rfl,q⟩
 ·subst i;obtain⟨u,v,rfl,d,rv⟩:=vals2 r
  cases(show u=aj x from d);cases(show v=aj j from rv)
  obtain⟨_,L,rv,⟨S,U,M,P⟩,R,y,n,B⟩:=(show ObjOk X.prog X.w H s.heap j (.tup (cs.map V.ref))from I.hok j _ ht)
  dsimp only at y B;subst y;subst B
  exact W.kia_tup (Gq Z) I.kIn (Hy I a) R (by rw[Jp rv];exact e) (λz=>nomatch z) λo=>⟨.bl b,H,I.tok _,rfl,q⟩
theorem VP{Q:VK}{ob:Obj}{T:String}(a:H x=some (BE ob x C))(Z:ECls K C)(e:W.kitOne K (.ref C) (.type T)=some b)(h:Q (.bl b) H):Fm K [.ref x, .ty T] H Q:=
 .inr (.inl ⟨x,ob,C,T,b,rfl,a,Z,e,h⟩)
theorem CC{Q:VK}{D:Addr}{ob:Obj}(a:H x=some (BE ob x C))(Z:ECls K C)(e:W.kitOne K (.ref C) (.ref D)=some b)(h:Q (.bl b) H):Fm K [.ref x, .ref D] H Q:=
 .inr (.inr (.inl ⟨x,ob,C,D,b,rfl,a,Z,e,h⟩))
theorem VO{Q:VK}{tp:Addr}{ob:Obj}(a:H x=some (BE ob x C))(Z:ECls K C)(ht:H tp=some (.tup (cs.map V.ref)))(e:W.kitAny K (.ref C) (cs.map aj)=some b)(h:Q (.bl b) H):
 Fm K [.ref x, .ref tp] H Q:= .inr (.inr (.inr ⟨x,ob,C,tp,cs,b,rfl,a,Z,ht,e,h⟩))
def rCountB:V->List V->Hp->VK->Prop:=λx vs H Q=>∃l,∃bs:List Bool,∃k,x= .ref l/\vs=[.bl k]/\H l=some (.lst (bs.map V.bl))/\Q (.int (bs.count k:Nat)) H
theorem NU(k:Bool){bs:List Bool}{s:ak}:∀y∈bs.map dS,EqAt A s y (.bool k) (jx k y):=λy a=>by
 obtain⟨b,_,rfl⟩:=cg.mp a;exact EqAt.bool_bool b k
theorem Q0:MtM X "list.count" rCountB:=by
 intro pins s σ H x vs v G Q I a rv h;obtain⟨l,bs,k,rfl,rfl,b,q⟩:=h
 cases a
 obtain⟨u,rfl,d⟩:=rv.one
 cases(show u=dS k from d)
 obtain⟨z,i,n,r,J,e⟩:=I.lstM b;have j:=Gb r;subst j;refine dq F.slot_list_count ⟨_,e,rfl⟩ F.entry_list_count (F.args_list_count_2 _ _) (list_countAt l _ n none #[] (.bool k) (jx k)) ⟨e,λy o=>NU k y (by simpa using o),?_⟩;have B:(bs.map dS).toArray.toList.countP (jx k)=bs.count k:=by
  show(bs.map dS).countP (jx k)=bs.count k;rw[List.countP_map,List.count]
  rfl
 rw[B];exact⟨.int (bs.count k:Nat),H,I.tok _,⟨_,rfl⟩,q⟩
def rIndexB:V->List V->Hp->VK->Prop:=λx vs H Q=>∃l,∃bs:List Bool,∃k,∃j:Nat,x= .ref l/\vs=[.bl k]/\H l=some (.lst (bs.map V.bl))/\bs[j]? =some k/\(∀m,m<j->bs[m]? ≠some k)/\bs.length<=1000/\Q (.int j) H
theorem J7:MtM X "list.index" rIndexB:=by
 intro pins s σ H x vs v T Q I o rv h;obtain⟨l,bs,k,j,rfl,rfl,B,G,a,U,q⟩:=h
 cases o
 obtain⟨u,rfl,J⟩:=rv.one
 cases(show u=dS k from J)
 obtain⟨z,L,n,r,Y,e⟩:=I.lstM B;have M:=Gb r;subst M;obtain⟨b,P⟩:=az.mp G;refine dq F.slot_list_index ⟨_,e,rfl⟩ F.entry_list_index (F.args_list_index_2 _ _) (list_indexAt l _ n none #[] (.bool k) (jx k) j (by simpa using b) nA ?_ ?_) ⟨e,λy R=>NU k y (by simpa using R),?_⟩
 ·simp only[fb,lf,jx,P,fh]
 ·intro m S d;have i:m<bs.length:=by simpa using S
  have:=a m d;rw[ai i]at this;simp only[fb,lf,jx];exact cW.mpr λz=>this (by rw[z])
 ·exact⟨.int j,H,I.tok _,⟨_,rfl⟩,q⟩
structure RoomH (k:Nat) (A:eR):Prop where
 dp:A.depth+3*k+5<jK
 un:A.units+16*k+200<jE
 gd:A.guards=some []
theorem Room.h{k:Nat}(r:Room k A)(e:ah):RoomH k (A.mark (some e)):=⟨r.dp,r.un,r.gd⟩
theorem RoomH.deeper{k:Nat}(r:RoomH (k+1) A)(env:Env):RoomH k (A.deeper env):=
 ⟨by have:=r.dp;show A.depth+1+3*k+5<_;lia,by have:=r.un;show A.units+3+16*k+200<_;lia,by first|exact r.gd|simpa[iK,fG,jY,gZ,lg,ku]using r.gd⟩
structure FnH (P:bK) (w:cX) (K:W.Frag) (mg:Str->Option ah) (base:Heap) (k:Nat) (f:Addr) (fd:jB) (ps:List Str) (sp:Sp):Prop where
 len:∀vs H Q E,sp vs H Q E->vs.length=ps.length
 run:∀ (A:eR) (outer:List Env) (s:ak) (H:Hp) (args:Args) (us:List ah) (vs:List V) (Q:VK) (E:XK),RoomH k A->Env0 P w K mg base A outer s H->kK s fd args (ps.zip us)->Vals vs us->sp vs H Q E->
  dt (aR P w) A (.call (.ref f) args) (CR CX0 outer P w H s Q E) s
abbrev cxH(P:bK)(w:cX)(K:W.Frag)(mg:Str->Option ah)(base:Heap)(N:List Str)(qual:Str)(st:Stmt)(f:Addr)(cdv:ah)(A:eR)(outer:List Env)(s:ak)(H:Hp)(E:XK):Cx:=
 {(CZ CX0 P w K mg base N qual (AU st) f cdv A outer s H E).nox with calm:=false}
theorem Fun.okH{x:Str}{N:List Str}{k:Nat}(F:Fun K x qual st f fd)(S:FnScope N ps (AU st))(len:∀vs H Q E,sp vs H Q E->vs.length=ps.length)
 (B:∀ (a:ah) (A:eR) (outer:List Env) (s:ak) (H:Hp) (vs:List V) (Q:VK) (E:XK),RoomH k (A.deeper (ig qual (AU st) s.1.1.size f a))->sp vs H Q E->
   ∃t,PSs (cxH P w K mg base N qual st f a A outer s H E) (Bn st) t/\t {nx:=λ_ j=>Q .non j,rt:=Q} (start N vs) H):FnH P w K mg base (k+1) f fd ps sp:=by
 obtain⟨oc,od,kV,X,pm,an,a,ct,Y,rfl,Z,R⟩:=F.ex;refine⟨len,λA outer s H args us vs Q E U d hb r M=>?_⟩;have hl:=len _ _ _ _ M;have KX:K.In s.heap:=d.mod.kin.keeps λb o e=>(d.bs b o e).1;have T:s.heap.NoLimit:=d.mod.nolimit.keeps λb o e=>(d.bs b o e).1;have G:∀y∈ps.zip us,(AU st).names.lookup y.1=some .local\/((AU st).names.lookup y.1=some .cell/\((dH (s.1.1.size+1) (AU st).names []).lookup y.1).isSome=true):=λ⟨n,v⟩ hy=>by
  rcases S.par n (gK hy).1 with q|q
  ·exact .inl q
  ·exact .inr ⟨q,W.cellsFrom_some _ _ _ (.inl q)⟩
 refine jb (by have:=U.dp;lia) (KX _ _ Z) rfl S.co S.gen rfl (W.codeRec_of KX R) (hb _ _ _ _ ?_);refine gP S.kind G λenv he s1 x=>?_;subst he;refine⟨T.keeps x.toInCall.keep,codeAny_func ?_⟩;obtain⟨t,ht,hq⟩:=B a A outer s H vs Q E (U.deeper _) M;have i:Inv (CZ CX0 P w K mg base N qual (AU st) f a {A with handled:=none} outer s H E) [] (start N vs) H s1:=KB S rfl ⟨d.frames,d.mod,d.bs,d.bsz,d.funs,d.frf,d.hok,d.bare⟩ hl r x;have ok:=i.ok;have I:Inv (cxH P w K mg base N qual st f a A outer s H E) [] (start N vs) H s1:=
  ⟨⟨ok.mod,ok.kind,ok.glob,ok.blt,ok.above,ok.inj,ok.has,ok.cab,λz=>(nomatch z),jI d.frames,ok.stk,ok.exf,ok.bs,ok.bsz,ok.noex,ok.exfs,ok.funs,ok.frf⟩,i.os,i.bare,i.base,i.loc,i.cell,i.free,i.freeC,i.pin,i.hok,i.len⟩
 refine aZ (ht [] s1 (start N vs) H _ I hq) (λfl s' L=>?_) λe s' L=>L.elim;have fin:∀ {σ':zQ0} {j:Hp} {v:V} {u:ah},Inv (cxH P w K mg base N qual st f a A outer s H E) [] σ' j s'->RelV v u->Q v j->CE outer P w H s Q u s':=
  fun{σ' j v u} J rv q=>⟨v,j,J.os,J.bare,J.base,J.hok,rv,q⟩
 cases fl with
 |ret u=>
  obtain⟨v,σ',j,J,rv,q⟩:=L;exact fin J rv q
 |next=>
  obtain⟨σ',j,J,q⟩:=L;exact fin (v:=V.non) (u:=dc) J rfl q
 |brk=>
  obtain⟨_,_,_,q⟩:=L;exact bz q
 |cont=>
  obtain⟨_,_,_,q⟩:=L;exact bz q
structure FnUH (P:bK) (w:cX) (K:W.Frag) (mg:Str->Option ah) (base:Heap) (k:Nat) (x:Str) (ps:List Str) (sp:Sp):Prop where
 ex:∃f fd,FnH P w K mg base k f fd ps sp/\mg x=some (.ref f)/\W.keepIn K (.ref f)=true/\Binds K fd ps []
theorem Vx{k:Nat}{x:Str}{e:Expr}{p pos:Pos}(U:FnUH X.prog X.w X.K X.mg X.base k x ps sp)(B:RoomH k X.A)(G:PA X (e::es) t)(hg:Gl X x:=by rfl)
 (i:(x==("__debug__":Str))=false:=by decide) (J:aL (e::es) X.env=(false,eval e X.env)::aL es X.env:=by rfl) (j:(dI pos (aL es X.env)).any (·.1)=false:=by rfl):
 PE X (.Call (.Name x p) (e::es) [] pos) (Dn sp [] E0 t):=by
 obtain⟨f,fd,F,L,hk,M⟩:=U.ex;intro pins s σ H Q I h;refine ck (C7 I hg L ?_ i);refine W.callWith_K (h₀:=X.base) I.ok.mod.kin hk (thn (G pos pins s σ H _ I h) λb o ⟨vs,y,d,r,q⟩=>⟨d.kIn,?_⟩) J j;have q:sp (vs++[]) y Q E0:=q;rw[cG]at q;have P:b.length=ps.length:=by rw[<-r.length];exact F.len _ _ _ _ q
 refine fu (dj (F.run X.A X.stack o y ⟨b,[]⟩ b vs Q E0 B d.env0 ?_ r q) λres R a=>?_)
 ·have z:=M o b d.kIn (by rw[cG];exact P);rw[cG]at z;exact z
 ·cases res with
  |error S=>exact bz a
  |ok fl=>
   cases fl with
   |ret u=>exact d.after a
   |next=>exact bz a
   |brk=>exact bz a
   |cont=>exact bz a
theorem S8:∀ {b:List ah},Vals (xss.map tx) b->StrsAre b (xss.map λa=>⟨a.toArray⟩):=by
 induction xss with
 |nil=>intro b r;cases r;exact .nil
 |cons a r d=>
  intro b h
  cases h with
  |cons e i=>
   obtain⟨t,rfl⟩:=e;exact .cons _ t (d i)
theorem J9:∀ (d:List (List Nat)),m4 ⟨([]:List Nat).toArray⟩ (d.map λa=>⟨a.toArray⟩)=⟨d.flatten.toArray⟩
 |[]=>rfl
 |[a]=>by simp[m4]
 |a::b::r=>by
  have e:=J9 (b::r);rw[aW,aW]at*
  show(⟨a.toArray⟩:Str)++⟨([]:List Nat).toArray⟩++m4 ⟨([]:List Nat).toArray⟩ (⟨b.toArray⟩::r.map λa=>⟨a.toArray⟩)=_;rw[e];show(⟨a.toArray++([]:List Nat).toArray++(b::r).flatten.toArray⟩:Str)=_;simp
def rJoin(K:W.Frag):V->List V->Hp->VK->Prop:=λx vs H Q=>∃ (p:Addr) (a:List (List Nat)),x=tx []/\vs=[.ref p]/\SqL K H p (a.map tx)/\a.flatten.length+a.length<=1000000/\Q (tx a.flatten) H
theorem EM(K:W.Frag)(d:X.K=K:=by rfl):MtR X "str.join" (rJoin K):=by
 subst d;intro pins s σ H x vs v G Q I i rv h;obtain⟨p,b,rfl,rfl,j,J,q⟩:=h;obtain⟨t,rfl⟩:=i;obtain⟨u,rfl,o⟩:=rv.one
 cases o
 obtain⟨y,r,ht,L⟩:=I.list j;have z:((b.map λa=>(⟨a.toArray⟩:Str)).map (·.length)).sum=b.flatten.length:=by
  rw[d4,List.length_flatten];congr 1
 refine join_listW ht.isList (S8 r) (by rw[BF];decide) (by rw[z,ax];lia) λB k=>?_;have e:Txt.join ⟨([]:List Nat).toArray⟩ (b.map λa=>⟨a.toArray⟩)=⟨b.flatten.toArray⟩:=by
  show Builtin.Str.glued _ _=_;rw[StrLaws.glued_eq_join,J9]
 rw[e];exact⟨tx b.flatten,H,I.tok k,⟨B,rfl⟩,q⟩
def Fz(l:List Nat)(c:Nat):Option Nat:=(bO ⟨l.toArray⟩ ⟨#[c]⟩ 0 (⟨l.toArray⟩:Str).length 1).head?
def rIdx:V->List V->Hp->VK->Prop:=λx vs H Q=>∃l c i,x=tx l/\vs=[tx [c]]/\Fz l c=some i/\Q (.int (i:Nat)) H
theorem SU:MtR X "str.index" rIdx:=by
 intro pins s σ H x vs v d Q I b rv h;obtain⟨l,c,i,rfl,rfl,a,q⟩:=h;obtain⟨t,rfl⟩:=b;obtain⟨u,rfl,o,rfl⟩:=rv.one;unfold Fz at a
 cases e:bO ⟨l.toArray⟩ ⟨#[c]⟩ 0 (⟨l.toArray⟩:Str).length 1 with
 |nil=>rw[e]at a;cases a
 |cons j rest=>
  rw[e]at a
  cases a
  exact SC.index e ⟨.int (i:Nat),H,I.tok _,⟨_,rfl⟩,q⟩
section
variable{σ:zQ0}{Q:VK}
theorem Wf{P:Prop}(h:P):tyV K "str" (tx a) H/\P:=⟨rfl,h⟩
theorem EU(a:SqL K H p (xss.map tx))(b:xss.flatten.length+xss.length<=1000000)(h:Q (tx xss.flatten) H):rJoin K (tx []) [.ref p] H Q:=⟨p,xss,rfl,rfl,a,b,h⟩
theorem W1{l:List Nat}(a:Fz l c=some i)(h:Q (.int (i:Nat)) H):rIdx (tx l) [tx [c]] H Q:=⟨l,c,i,rfl,rfl,a,h⟩
theorem Gw{g:TG}(P:a.length<=sizeLine)(Pv:Addr->Nat->List V->Hp->Prop)(h0:∀D,H D=none->Pv D 0 [] (upd H D (.lst [])))
 (r:∀D d j,H D=none->j D=some (.lst d)->Pv D a.length d j->Q (.ref D) j)
 (J:∀D i c d j,H D=none->a[i]? =some c->i<a.length->j D=some (.lst d)->d.length<=i->Pv D i d j->g (tx [c]) (AY own sel σ) j λσ4 L=>tt σ4 L λb B=>
   if b=true then te σ4 B λv G=>∃d,G D=some (.lst d)/\d.length<sizeLine/\∃o,o<a.length-i/\CW D a.length (Pv D) (i+1) o (upd G D (.lst (d++[v])))
   else∃o,o<a.length-i/\CW D a.length (Pv D) (i+1) o B):BU (Its ⟨a.toArray⟩) own sel σ g tt te Q H:=by
 refine B5 (n:=a.length) Pv h0 (λD i d j q hi _ p=>by simpa[Its]using hi) (λD d j q z I p=>⟨by simp[Its],r D d j q z p⟩) (λD i d j x M q hi z I p y=>?_);obtain⟨rfl,c,e,rfl⟩:=y;exact J D i c d M q (by simpa using e) hi z I p
theorem LE{g:TG}(J:n<=sizeLine)(Pv:Addr->Nat->List V->Hp->Prop)(h0:∀D,H D=none->Pv D 0 [] (upd H D (.lst [])))
 (o:∀D a d,H D=none->d D=some (.lst a)->Pv D n a d->Q (.ref D) d)
 (G:∀D i a d,H D=none->i<n->d D=some (.lst a)->a.length<=i->Pv D i a d->g (.int (lo+i)) (AY own sel σ) d λσ4 I=>tt σ4 I λb r=>
   if b=true then te σ4 r λv z=>∃a,z D=some (.lst a)/\a.length<sizeLine/\∃e,e<n-i/\CW D n (Pv D) (i+1) e (upd z D (.lst (a++[v])))
   else∃e,e<n-i/\CW D n (Pv D) (i+1) e r):BU (Itr lo n) own sel σ g tt te Q H:=by
 refine B5 (n:=n) Pv h0 (λD i a d j hi _ p=>hi) (λD a d j q B p=>⟨ao _,o D a d j q p⟩) (λD i a d x L j hi q B p y=>?_);obtain⟨rfl,rfl⟩:=y;exact G D i a _ j hi q B p
end
end L2
namespace BrTx
variable{p:List Nat}
def BP(c:Nat):List Nat->Nat->List Nat
 |[],_=>[]
 |x::r,i=>if x=c then i::BP c r (i+1)else BP c r (i+1)
theorem LT(l:List Nat)(c i:Nat):iu ⟨l.toArray⟩ ⟨#[c]⟩ i=decide (l[i]? =some c):=by
 unfold iu;have e:(⟨l.toArray⟩:Str).cps.extract i (i+(⟨#[c]⟩:Str).length)=((l.drop i).take 1).toArray:=by
  show l.toArray.extract i (i+1)=_;simp
 rw[e];show(((l.drop i).take 1).toArray== #[c])=_;rw[d1,bE,bq];rw[List.take_one,jk]
 cases l[i]? with
 |none=>simp
 |some x=>simp
theorem Ht(l:List Nat)(c k:Nat):∀ (r:List Nat) (i:Nat) (a:Array Nat) (free:Nat),l.drop i=r->free<=i->i<=l.length->
 (forIn (lH i (l.length+1-i)) (a,free) (cP ⟨l.toArray⟩ ⟨#[c]⟩ l.length k)).run.fst.toList=a.toList++(BP c r i).take (k-a.size)
 |[],i,a,free,d,B,hi=>by
  have q:i=l.length:=by
   have:=cx fq d;simp at this;lia
  subst q;rw[show l.length+1-l.length=1 by lia];have e:cP ⟨l.toArray⟩ ⟨#[c]⟩ l.length k l.length (a,free)=pure (bw (a,free)):=by
   unfold cP;rw[aB];rintro⟨⟨_,h⟩,_⟩;have:(⟨#[c]⟩:Str).length=1:=rfl;lia
  simp[lH,e,BP]
 |x::r,i,a,free,d,B,hi=>by
  have j:i<l.length:=by
   have:=cx fq d;simp at this;lia
  have G:l[i]? =some x:=by
   have:=cx jA d;rw[jk]at this;exact this
  have o:l.drop (i+1)=r:=by
   have:=cx List.tail d;rw[lP]at this;exact this
  rw[show l.length+1-i=(l.length+1-(i+1))+1 by lia,List.range'_succ];have H:(⟨#[c]⟩:Str).length=1:=rfl
  by_cases h:(a.size<k)/\x=c
  ·have e:cP ⟨l.toArray⟩ ⟨#[c]⟩ l.length k i (a,free)=pure (bw (a.push i,i+1)):=by
    unfold cP;rw[aO ⟨⟨⟨h.1,B⟩,by rw[H];lia⟩,by rw[LT,G,h.2];simp⟩]
    rfl
   have y:=Ht l c k r (i+1) (a.push i) (i+1) o (ao _) j;simp only[dX,e,pure_bind];rw[y,BP,aO h.2,f3,lO,e9];congr 1;rw[show k-a.size=(k-(a.size+1))+1 by lia]
   rfl
  ·have e:cP ⟨l.toArray⟩ ⟨#[c]⟩ l.length k i (a,free)=pure (bw (a,free)):=by
    unfold cP;rw[aB];rintro⟨⟨⟨I,_⟩,_⟩,b⟩;rw[LT,G]at b;exact h ⟨I,by simpa using b⟩
   have y:=Ht l c k r (i+1) a free o nA j;simp only[dX,e,pure_bind];rw[y,BP]
   by_cases b:x=c
   ·rw[aO b];have:k-a.size=0:=by
     have:¬a.size<k:=λz=>h ⟨z,b⟩;lia
    rw[this,eF,eF]
   ·rw[aB b]
set_option tactic.hygienic true in
theorem Lv(l:List Nat)(c k:Nat):bO ⟨l.toArray⟩ ⟨#[c]⟩ 0 (⟨l.toArray⟩:Str).length k=(BP c l 0).take k:=by
 have h:=Ht l c k l 0 #[] 0 rfl (ao _) (bA _);have e:(⟨l.toArray⟩:Str).length=l.length:=by show l.toArray.size=_;simp
 rw[e];unfold bO;have a:(fun(i:Nat) (st:Array Nat×Nat)=>if(decide (st.fst.size<k)&&decide (st.snd<=i)&&decide (i+(⟨#[c]⟩:Str).length<=l.length)&&iu ⟨l.toArray⟩ ⟨#[c]⟩ i)=true then(pure (bw (st.fst.push i,i+(⟨#[c]⟩:Str).length)):Id _)else pure (bw (st.fst,st.snd)))=cP ⟨l.toArray⟩ ⟨#[c]⟩ l.length k:=by
  funext i st
  unfold cP;simp only[aQ,bq]
 simp only[Std.Legacy.Range.forIn_eq_forIn_range',Std.Legacy.Range.size];have b:(forIn (lH 0 (l.length+1)) (#[],0) (cP ⟨l.toArray⟩ ⟨#[c]⟩ l.length k)).run.fst.toList=(BP c l 0).take k:=by simpa using h
 rw[<-b,<-a];simp
def DT(x:Nat):List (List Nat)->List (List Nat)
 |w::ws=>(x::w)::ws
 |[]=>[[x]]
def spN(c:Nat):Nat->List Nat->List (List Nat)
 |_,[]=>[[]]
 |0,x::r=>[x::r]
 |n+1,x::r=>if x=c then []::spN c n r else DT x (spN c (n+1) r)
theorem C9(c:Nat):∀ (n:Nat) (l:List Nat),spN c n l≠[]
 |0,[]=>by simp[spN]
 |n+1,[]=>by simp[spN]
 |0,x::r=>by simp[spN]
 |n+1,x::r=>by
  rw[spN]
  split
  ·simp
  ·cases e:spN c (n+1) r with
   |nil=>simp[DT]
   |cons w ws=>simp[DT]
def hdP(p:List Nat):List (List Nat)->List (List Nat)
 |w::ws=>(p++w)::ws
 |[]=>[p]
theorem HW:∀ {ws:List (List Nat)},ws≠[]->hdP [] ws=ws
 |[],h=>(h rfl).elim
 |w::ws,_=>rfl
theorem RD{x:Nat}{ws:List (List Nat)}(h:ws≠[]):hdP p (DT x ws)=hdP (p++[x]) ws:=by
 cases ws with
 |nil=>exact(h rfl).elim
 |cons w ws=>simp[hdP,DT]
def stS(w:List Nat):Str:=⟨w.toArray⟩
theorem Hn(l:List Nat)(a b:Nat):cU ⟨l.toArray⟩ a b=stS ((l.drop a).take (b-a)):=by
 unfold cU stS;simp[List.extract_eq_take_drop]
theorem Dh(l:List Nat):(⟨l.toArray⟩:Str).length=l.length:=by show l.toArray.size=_;simp
theorem FH(l:List Nat)(c:Nat):∀ (r:List Nat) (b a n:Nat),l.drop b=r->a<=b->b<=l.length->ii ⟨l.toArray⟩ 1 a ((BP c r b).take n)=(hdP ((l.drop a).take (b-a)) (spN c n r)).map stS
 |[],b,a,n,d,i,y=>by
  have q:b=l.length:=by
   have:=cx fq d;simp at this;lia
  have z:spN c n []=[[]]:=by cases n<;>rfl
  rw[BP,List.take_nil,z];show [cU ⟨l.toArray⟩ a (⟨l.toArray⟩:Str).length]=[stS (_++[])];rw[Hn,Dh,cG,q]
 |x::r,b,a,0,d,i,y=>by
  rw[eF];show [cU ⟨l.toArray⟩ a (⟨l.toArray⟩:Str).length]=[stS (_++(x::r))];rw[Hn,Dh,<-d];congr 2;have e:l.drop b=(l.drop a).drop (b-a):=by rw[List.drop_drop];congr 1;lia
  rw[e,jg,dA nC]
 |x::r,b,a,n+1,d,i,y=>by
  have j:b<l.length:=by
   have:=cx fq d;simp at this;lia
  have B:(l.drop a)[b-a]? =some x:=by
   have:=cx jA d;rw[jk]at this;rw[kj,show a+(b-a)=b by lia];exact this
  have o:l.drop (b+1)=r:=by
   have:=cx List.tail d;rw[lP]at this;exact this
  by_cases h:x=c
  ·rw[BP,aO h,spN,aO h,List.take_succ_cons];show cU ⟨l.toArray⟩ a b::ii ⟨l.toArray⟩ 1 (b+1) _=_;rw[FH l c r (b+1) (b+1) n o (ao _) j,Hn,d3,eF,HW (C9 c n r)];simp[hdP]
  ·rw[BP,aB h,spN,aB h,FH l c r (b+1) a (n+1) o nA j,RD (C9 c (n+1) r)];congr 2;rw[show b+1-a=(b-a)+1 by lia,cy,B]
   rfl
theorem EA(c:Nat):∀ (n:Nat) (l:List Nat),c∉l->spN c n l=[l]
 |0,[],_=>rfl
 |n+1,[],_=>rfl
 |0,x::r,_=>rfl
 |n+1,x::r,h=>by
  rw[spN,aB (λz=>h (by rw[z];exact aA)),EA c (n+1) r (λz=>h (ay _ z))]
  rfl
set_option tactic.hygienic true in
theorem HQ:∀ {l:List Nat} {i:Nat},BP c l i=[]->c∉l
 |[],_,_=>by simp
 |x::r,i,h=>by
  rw[BP]at h
  split at h
  ·cases h
  ·rename_i a
   have:=HQ h;simp[this,cI a]
set_option tactic.hygienic true in
theorem Jr(l:List Nat)(c:Nat)(k:Int)(hk:0<=k):jc ⟨l.toArray⟩ ⟨#[c]⟩ k=(spN c k.toNat l).map stS:=by
 have a:md ⟨l.toArray⟩ k=k.toNat:=by unfold md;rw[aB nA]
 unfold jc;rw[a,Lv]
 split
 ·rename_i h
  have d:c∉l:=by
   rw[bP,bq,bq]at h;rcases h with h|h
   ·rw[Dh]at h;have:l=[]:=fN.mp (by have:(⟨#[c]⟩:Str).length=1:=rfl;lia);simp[this]
   ·simpa using StrLaws.kind_free _ _ h
  rw[EA c _ l d];rfl
 ·split
  ·rename_i h
   rw[List.isEmpty_iff]at h
   by_cases b:k.toNat=0
   ·rw[b]
    cases l with
    |nil=>rfl
    |cons x r=>rfl
   ·have:BP c l 0=[]:=by
     cases e:BP c l 0 with
     |nil=>rfl
     |cons i t=>
      rw[e,show k.toNat=(k.toNat-1)+1 by lia]at h
      cases h
    rw[EA c _ l (HQ this)];rfl
  ·rw[StrLaws.partsBetween_eq];have:=FH l c l 0 0 k.toNat rfl (ao _) (bA _);rw[show(⟨#[c]⟩:Str).length=1 from rfl,this,d3,eF,HW (C9 c _ l)]
theorem Rk(l:List Nat)(c:Nat):mB ⟨l.toArray⟩ ⟨#[c]⟩=(spN c (l.length+1) l).map stS:=by
 have h:=Jr l c ((l.length+1:Nat):Int) nA;rw[d0]at h;rw[<-h];unfold mB jc;have a:md ⟨l.toArray⟩ ((l.length+1:Nat):Int)=(⟨l.toArray⟩:Str).length+1:=by unfold md;rw[aB nA,Dh];lia
 rw[a]
theorem UL(l:List Nat)(c:Nat):∃w v u,j9 ⟨l.toArray⟩ ⟨#[c]⟩=(stS w,v,u)/\(spN c 1 l).head?=some w:=by
 unfold j9;rw[Lv];have:=FH l c l 0 0 1 rfl (ao _) (bA _);rw[d3,eF,HW (C9 c _ l)]at this
 cases e:BP c l 0 with
 |nil=>
  rw[EA c _ l (HQ e)];exact⟨l,_,_,rfl,rfl⟩
 |cons i t=>
  rw[e]at this
  cases a:spN c 1 l with
  |nil=>exact(C9 c 1 l a).elim
  |cons w ws=>
   rw[a]at this;have b:cU ⟨l.toArray⟩ 0 i=stS w:=by
    have:=cx jA this;simpa[ii]using this
   refine⟨w,⟨#[c]⟩,cU ⟨l.toArray⟩ (i+(⟨#[c]⟩:Str).length) (⟨l.toArray⟩:Str).length,?_,rfl⟩;show(cU ⟨l.toArray⟩ 0 i,_,_)=_;rw[b]
end BrTx
open BrTx
namespace L2
variable{a:Addr}{G:Addr->Prop}{spOf:Addr->Sp}{elt i value:Expr}{kvs:List (Key×V)}{vs:List (Key×ah)}{xs:List (List Key×Addr×ah)}{es:List Expr}{ks:List Key}{ps:List Str}{its:List ah}{o:Option V}{pos':Pos}{td:TE}{wi:TI}{y:V}{Q:VK}{Qo:ah->ak->Prop}
theorem GL:∀ (ws:List (List Nat)) (a:Nat),Vals (ws.map tx) (strsFrom a (ws.map stS))
 |[],_=> .nil
 |w::ws,a=> .cons ⟨a,rfl⟩ (GL ws (a+1))
theorem EH(c:Nat):∀ (n:Nat) (l:List Nat),(spN c n l).length<=l.length+1
 |0,[]=>by simp[spN]
 |n+1,[]=>by simp[spN]
 |0,x::r=>by simp[spN]
 |n+1,x::r=>by
  rw[spN]
  split
  ·have:=EH c n r;simp;lia
  ·have a:=EH c (n+1) r;have:(DT x (spN c (n+1) r)).length=(spN c (n+1) r).length:=by
    cases e:spN c (n+1) r with
    |nil=>exact(C9 c (n+1) r e).elim
    |cons w ws=>rfl
   rw[this,aM];lia
def rSplit:V->List V->Hp->VK->Prop:=λx vs H Q=>∃l c,x=tx l/\l.length<=2000/\((vs=[tx [c]]/\∀p,H p=none->Q (.ref p) (upd H p (.lst ((spN c (l.length+1) l).map tx))))\/
 ∃k:Int,vs=[tx [c], .int k]/\0<=k/\k<=1000/\∀p,H p=none->Q (.ref p) (upd H p (.lst ((spN c k.toNat l).map tx))))
theorem FL{σ:zQ0}{s:ak}{ws:List (List Nat)}{k:Nat}(I:Inv X pins σ H s)(d:ws.length<=2001)(a:Vals (ws.map tx) its)(q:∀p,H p=none->Q (.ref p) (upd H p (.lst (ws.map tx)))):
 EP X pins σ Q (aj s.1.1.size) {heap:=s.heap.push {cls:=dR "list",data:=lj its.toArray},gens:=s.gens,drawn:=s.drawn,toks:=k,os:=s.os}:=by
 refine⟨.ref _,_,I.laid (o:= .lst (ws.map tx)) (λb ob q=>ae _ q) (ao _) ?_,rfl,q _ (I.hok.fresh (ao _))⟩;exact⟨by rw[ax,cj];lia,_,0,a,ap _ rfl⟩
theorem Kx:MtR X "str.split" rSplit:=by
 intro pins s σ H x vs v S Q I T rv h;obtain⟨l,c,rfl,hl,h⟩:=h;obtain⟨t,rfl⟩:=T;have L:((⟨#[c]⟩:Str).length==0)=false:=rfl;have r:(⟨l.toArray⟩:Str).length<=sizeLine:=by rw[Dh,cj];lia
 rcases h with⟨rfl,q⟩|⟨k,rfl,k0,k1,q⟩
 ·obtain⟨u,rfl,y,rfl⟩:=rv.one;have d:=Rk l c;have U:=EH c (l.length+1) l;unfold mB at d;have one:[(⟨l.toArray⟩:Str)]=(spN c (l.length+1) l).map stS->EP X pins σ Q (aj s.1.1.size) {heap:=s.heap.push {cls:=dR "list",data:=lj #[d8 ⟨l.toArray⟩ t]},gens:=s.gens,drawn:=s.drawn,toks:=s.toks,os:=s.os}:=λe=>by
   have M:spN c (l.length+1) l=[l]:=by
    cases z:spN c (l.length+1) l with
    |nil=>rw[z]at e;cases e
    |cons w ws=>
     rw[z]at e;have B:=cx fq e;have G:=cx jA e;simp at B G;have P:l.toArray=w.toArray:=by
      have:(⟨l.toArray⟩:Str)=⟨w.toArray⟩:=G;injection this
     have J:=cx f' P;simp at J;rw[B,J]
   exact FL (ws:=[l]) (its:=[d8 ⟨l.toArray⟩ t]) I nC (.cons ⟨t,rfl⟩ .nil) (by rw[M]at q;exact q)
  by_cases o:(decide ((⟨l.toArray⟩:Str).length<(⟨#[c]⟩:Str).length)||decide (cJ ⟨l.toArray⟩<cJ ⟨#[c]⟩))=true
  ·rw[aO o]at d;exact dq cV (eV s _ t) cQ (fx _ _) (meets_str_split_cannot_occur _ _ t y o) (one d)
  ·rw[aB o]at d;have i:(decide ((⟨l.toArray⟩:Str).length<(⟨#[c]⟩:Str).length)||decide (cJ ⟨l.toArray⟩<cJ ⟨#[c]⟩))=false:=by simpa using o
   by_cases j:(bO ⟨l.toArray⟩ ⟨#[c]⟩ 0 (⟨l.toArray⟩:Str).length ((⟨l.toArray⟩:Str).length+1)).isEmpty=true
   ·rw[aO j]at d;exact dq cV (eV s _ t) cQ (fx _ _) (meets_str_split_not_found _ _ t y i L j) (one d)
   ·rw[aB j]at d;have Y:=by simpa using j
    refine dq cV (eV s _ t) cQ (fx _ _) (meets_str_split_sep _ _ t y i L (by simpa using j) r (by rw[d,ax,cj];lia)) ?_;rw[d];exact FL I nA (GL _ _) q
 ·obtain⟨u,us',rfl,⟨y,rfl⟩,Z⟩:∃u us',S=u::us'/\RelV (tx [c]) u/\Vals [.int k] us':=by
   cases rv with
   |cons a b=>exact⟨_,_,rfl,a,b⟩
  obtain⟨u2,rfl,R,rfl⟩:=Z.one;have hk:(decide (k< -2^63)||decide (k>=2^63))=false:=by
   rw[Bool.or_eq_false_iff,iB,iB];lia
  have d:=Jr l c k k0;have U:=EH c k.toNat l;unfold jc at d;have one:[(⟨l.toArray⟩:Str)]=(spN c k.toNat l).map stS->EP X pins σ Q (aj s.1.1.size) {heap:=s.heap.push {cls:=dR "list",data:=lj #[d8 ⟨l.toArray⟩ t]},gens:=s.gens,drawn:=s.drawn,toks:=s.toks,os:=s.os}:=λe=>by
   have M:spN c k.toNat l=[l]:=by
    cases z:spN c k.toNat l with
    |nil=>rw[z]at e;cases e
    |cons w ws=>
     rw[z]at e;have B:=cx fq e;have G:=cx jA e;simp at B G;have P:l.toArray=w.toArray:=by
      have:(⟨l.toArray⟩:Str)=⟨w.toArray⟩:=G;injection this
     have J:=cx f' P;simp at J;rw[B,J]
   exact FL (ws:=[l]) (its:=[d8 ⟨l.toArray⟩ t]) I nC (.cons ⟨t,rfl⟩ .nil) (by rw[M]at q;exact q)
  by_cases o:(decide ((⟨l.toArray⟩:Str).length<(⟨#[c]⟩:Str).length)||decide (cJ ⟨l.toArray⟩<cJ ⟨#[c]⟩))=true
  ·rw[aO o]at d;exact dq cV (eV s _ t) cQ (fw _ _ _) (meets_str_split_max_cannot_occur _ _ k t y R hk o) (one d)
  ·rw[aB o]at d;have i:(decide ((⟨l.toArray⟩:Str).length<(⟨#[c]⟩:Str).length)||decide (cJ ⟨l.toArray⟩<cJ ⟨#[c]⟩))=false:=by simpa using o
   by_cases j:(bO ⟨l.toArray⟩ ⟨#[c]⟩ 0 (⟨l.toArray⟩:Str).length (md ⟨l.toArray⟩ k)).isEmpty=true
   ·rw[aO j]at d;exact dq cV (eV s _ t) cQ (fw _ _ _) (meets_str_split_max_not_found _ _ k t y R hk i L j) (one d)
   ·rw[aB j]at d;refine dq cV (eV s _ t) cQ (fw _ _ _) (meets_str_split_sep_max _ _ k t y R hk i L (by simpa using j) r (by rw[d,ax,cj];lia)) ?_;rw[d];exact FL I nA (GL _ _) q
def rPart:V->List V->Hp->VK->Prop:=λx vs H Q=>∃l c w,x=tx l/\vs=[tx [c]]/\l.length<=2000/\(spN c 1 l).head?=some w/\∀p v u,H p=none->Q (.ref p) (upd H p (.tup [tx w,v,u]))
theorem UR:MtR X "str.partition" rPart:=by
 intro pins s σ H x vs v T Q I M rv h;obtain⟨l,c,w,rfl,rfl,U,P,q⟩:=h;obtain⟨t,rfl⟩:=M;obtain⟨u,rfl,R,rfl⟩:=rv.one;have S:((⟨#[c]⟩:Str).length==0)=false:=rfl;have e:(⟨l.toArray⟩:Str).length<=sizeLine:=by rw[Dh,cj];lia
 obtain⟨Y,a,b,d,j⟩:=UL l c;rw[P]at j
 cases j
 have fin:∀ {y tb z:Tok} {k:Nat},EP X pins σ Q (aj s.1.1.size) {heap:=s.heap.push {cls:=dR "tuple",data:=lj #[d8 (stS w) y,d8 a tb,d8 b z]},gens:=s.gens,drawn:=s.drawn,toks:=k,os:=s.os}:=fun{y tb z k}=>by
  refine⟨.ref _,_,I.laid (o:= .tup [tx w, .str a, .str b]) (λb ob q=>ae _ q) (ao _) ?_,rfl,q _ _ _ (I.hok.fresh (ao _))⟩;exact⟨by rw[cj];simp,[_,_,_], .cons ⟨y,rfl⟩ (.cons ⟨tb,rfl⟩ (.cons ⟨z,rfl⟩ .nil)),⟨_,ap _ rfl,rfl,0,rfl⟩⟩
 refine dq PySem.F.slot_str_partition (eV s _ t) PySem.F.entry_str_partition (PySem.F.args_str_partition_2 _ _) (meets_str_partition _ _ t R S e) ?_;unfold j9 at d
 cases L:bO ⟨l.toArray⟩ ⟨#[c]⟩ 0 (⟨l.toArray⟩:Str).length 1 with
 |nil=>
  rw[L]at d;simp only[ke]at d;obtain⟨B,G,J⟩:=d;subst G J;rw[<-B]at fin;exact fin
 |cons i r=>
  rw[L]at d;simp only[ke]at d;obtain⟨B,G,J⟩:=d;subst G J;rw[<-B]at fin;exact fin
theorem TJ{l:List Nat}(a:l.length<=2000)(q:∀p,H p=none->Q (.ref p) (upd H p (.lst ((spN c (l.length+1) l).map tx)))):rSplit (tx l) [tx [c]] H Q:=⟨l,c,rfl,a, .inl ⟨rfl,q⟩⟩
theorem Ru{l:List Nat}{k:Int}(a:l.length<=2000)(k0:0<=k)(k1:k<=1000)(q:∀p,H p=none->Q (.ref p) (upd H p (.lst ((spN c k.toNat l).map tx)))):rSplit (tx l) [tx [c], .int k] H Q:=⟨l,c,rfl,a, .inr ⟨k,rfl,k0,k1,q⟩⟩
theorem TN{l w:List Nat}(a:l.length<=2000)(b:(spN c 1 l).head?=some w)(q:∀p v u,H p=none->Q (.ref p) (upd H p (.tup [tx w,v,u]))):rPart (tx l) [tx [c]] H Q:=⟨l,c,w,rfl,rfl,a,b,q⟩
section
variable{κ:Type}[DecidableEq κ]
def AZ(a:List (κ×V))(k:κ):Option V:=(a.find? λb=>decide (b.1=k)).map (·.2)
def putK(a:List (κ×V))(k:κ)(v:V):List (κ×V):=
 if(a.any λb=>decide (b.1=k))=true then a.map (λb=>if b.1=k then(b.1,v)else b)else a++[(k,v)]
def CU(a:List (κ×V))(k:κ):List (κ×V):=a.filter λb=>decide (b.1≠k)
theorem Gc{p:κ×V}{r:List (κ×V)}{k:κ}(e:p.1=k):AZ (p::r) k=some p.2:=by simp[AZ,cT,e]
theorem Gd{p:κ×V}{r:List (κ×V)}{k:κ}(e:¬p.1=k):AZ (p::r) k=AZ r k:=by simp[AZ,cT,e]
theorem Ge(k:κ):∀a:List (κ×V),(a.any λb=>decide (b.1=k))=(AZ a k).isSome
 |[]=>rfl
 |p::r=>by
  rw[dh]
  by_cases e:p.1=k
  ·simp only[Gc e,ba e,Bool.true_or,kh]
  ·rw[Gd e,aX e,Bool.false_or];exact Ge k r
theorem JQ(a:List (κ×V))(k:κ)(v:V):(putK a k v).length<=a.length+1:=by
 unfold putK
 split
 ·rw[ax];lia
 ·rw[aG,aM,gM];lia
theorem R6{kvs:List (κ×V)}{k:κ}(v:V)(h:AZ kvs k=none):putK kvs k v=kvs++[(k,v)]:=by
 unfold putK;rw[Ge,h];exact aB nv
theorem RelO.isSome_eq{u:Option ah}(r:RelO o u):o.isSome=u.isSome:=by
 cases o with
 |none=>cases u with
  |none=>rfl
  |some _=>exact(show False from r).elim
 |some _=>cases u with
  |none=>exact(show False from r).elim
  |some _=>rfl
theorem KV.val{kvs:List (κ×V)}{vs:List (κ×ah)}(r:KV kvs vs)(k:κ):RelO (AZ kvs k) (i6 vs k):=by
 unfold KV at r
 induction r with
 |nil=>exact dU
 | @cons p q x a h t j=>
   obtain⟨i,o⟩:=h
   by_cases e:p.1=k
   ·have d:q.1=k:=i.symm.trans e;have b:i6 (q::a) k=some q.2:=by simp[i6,cT,d]
    rw[Gc e,b];exact o
   ·have d:¬q.1=k:=λz=>e (i.trans z);have b:i6 (q::a) k=i6 a k:=by simp[i6,cT,d]
    rw[Gd e,b];exact j
theorem KV.any{kvs:List (κ×V)}{vs:List (κ×ah)}(r:KV kvs vs)(k:κ):(kvs.any λa=>decide (a.1=k))=vs.any λa=>decide (a.1=k):=by
 unfold KV at r
 induction r with
 |nil=>rfl
 |cons h t b=>rw[dh,dh,b,h.1]
theorem KV.repl{kvs:List (κ×V)}{vs:List (κ×ah)}(r:KV kvs vs)(k:κ){u:ah}(d:RelV y u):
 KV (kvs.map λa=>if a.1=k then(a.1,y)else a) (vs.map λa=>if a.1=k then(a.1,u)else a):=by
 unfold KV at r⊢
 induction r with
 |nil=>exact .nil
 | @cons p q o x h t i=>
   rw[aW,aW];refine .cons ?_ i;obtain⟨b,j⟩:=h
   by_cases e:p.1=k
   ·rw[aO e,aO (b.symm.trans e)];exact⟨b,d⟩
   ·rw[aB e,aB (λz=>e (b.trans z))];exact⟨b,j⟩
theorem KV.put{kvs:List (κ×V)}{vs:List (κ×ah)}(r:KV kvs vs)(k:κ){u:ah}(a:RelV y u):KV (putK kvs k y) (stored vs k u):=by
 unfold putK stored;rw[r.any k]
 by_cases e:(vs.any λb=>decide (b.1=k))=true
 ·rw[aO e,aO e];exact r.repl k a
 ·rw[aB e,aB e];exact mT r ⟨rfl,a⟩
theorem KV.drop{kvs:List (κ×V)}{vs:List (κ×ah)}(r:KV kvs vs)(k:κ):KV (CU kvs k) (without vs k):=by
 unfold KV at r⊢;unfold CU without
 induction r with
 |nil=>exact .nil
 | @cons p q x y h t i=>
   obtain⟨d,j⟩:=h;rw[iR,iR]
   by_cases e:p.1=k
   ·have a:¬decide (p.1≠k)=true:=by simp[e]
    have b:¬decide (q.1≠k)=true:=by simp[d.symm.trans e]
    rw[aB a,aB b];exact i
   ·have o:¬q.1=k:=λz=>e (d.trans z);have a:decide (p.1≠k)=true:=by simp[e]
    have b:decide (q.1≠k)=true:=by simp[o]
    rw[aO a,aO b];exact .cons ⟨d,j⟩ i
theorem KV.length{kvs:List (κ×V)}{vs:List (κ×ah)}(r:KV kvs vs):kvs.length=vs.length:=iF r
theorem Sn(a:List (κ×V))(k:κ):(CU a k).length<=a.length:=List.length_filter_le _ _
end
theorem DS{k:Key}{u:ah}(r:RelV (kV k) u):(BI P w).is k u=true:=by
 cases k with
 |inl i=>obtain⟨t,e⟩:=(show∃t,u=fK i t from r);subst e;exact PY P w i t
 |inr x=>obtain⟨t,e⟩:=(show∃t,u=d8 x t from r);subst e;exact PX P w x t
theorem KA:∀ {a:List Key} {us:List ah},Vals (a.map kV) us->ItemsAre (BI P w) a us
 |[],_,r=>by rw[fC]at r;cases r;exact .nil
 |k::a,_,r=>by
  rw[aW]at r
  cases r with
  |cons h t=>exact .cons (DS h) (KA t)
abbrev KT(H:Hp):List (List Key×V)->List (List Key×Addr×ah)->Prop:=kf λp q=>p.1=q.1/\H q.2.1=some (.tup (p.1.map kV))/\RelV p.2 q.2.2
theorem KT.val{kvs:List (List Key×V)}(r:KT H kvs xs)(k:List Key):RelO (AZ kvs k) ((mz xs k).map (·.2)):=by
 induction r with
 |nil=>exact dU
 | @cons p q x a h t j=>
   obtain⟨i,_,o⟩:=h
   by_cases e:p.1=k
   ·have d:q.1=k:=i.symm.trans e;have b:mz (q::a) k=some q.2:=by simp[mz,cT,d]
    rw[Gc e,b];exact o
   ·have d:¬q.1=k:=λz=>e (i.trans z);have b:mz (q::a) k=mz a k:=by simp[mz,cT,d]
    rw[Gd e,b];exact j
theorem KT.repl{kvs:List (List Key×V)}(r:KT H kvs xs)(k:List Key){u:ah}(i:RelV y u):
 KT H (kvs.map λb=>if b.1=k then(b.1,y)else b) (xs.map (putAt k u)):=by
 induction r with
 |nil=>exact .nil
 | @cons p q x B h t j=>
   rw[aW,aW];refine .cons ?_ j;obtain⟨a,d,o⟩:=h;unfold putAt
   by_cases e:p.1=k
   ·rw[aO e,aO (a.symm.trans e)];exact⟨a,d,i⟩
   ·rw[aB e,aB (λz=>e (a.trans z))];exact⟨a,d,o⟩
theorem KT.put{kvs:List (List Key×V)}(r:KT H kvs xs)(k:List Key){b:Addr}{u:ah}(d:H b=some (.tup (k.map kV)))(a:RelV y u):
 KT H (putK kvs k y) (storedH xs k b u):=by
 have e:(kvs.any λi=>decide (i.1=k))=(mz xs k).isSome:=by
  rw[Ge,(r.val k).isSome_eq,kD]
 unfold putK storedH;rw[e]
 by_cases q:(mz xs k).isSome=true
 ·rw[aO q,aO q];exact r.repl k a
 ·rw[aB q,aB q];exact mT r ⟨rfl,d,a⟩
theorem KT.keeps{kvs:List (List Key×V)}(r:KT H kvs xs)(ht:∀b a,H b=some (.tup a)->H' b=some (.tup a)):KT H' kvs xs:=
 Paired.mapP r λ_ _ z=>⟨z.1,ht _ _ z.2.1,z.2.2⟩
section
variable{h:Heap}
theorem NI{u:HO}(ok:HOk P w H h)(e:Rd H a u):ObjOk P w H h a u:=e.ok ok
theorem Ep(ok:HOk P w H h)(e:Rd H a (.dK kvs)):kvs.length<=sizeLine/\(a==bJ)=false/\∃vs,KV kvs vs/\h.DictOf (BI P w) a vs:=
 show ObjOk P w H h a (.dK kvs)from NI ok e
theorem NV(ok:HOk P w H h)(e:H a=some (.dK kvs)):kvs.length<=sizeLine/\(a==bJ)=false/\∃vs,KV kvs vs/\h.DictOf (BI P w) a vs:=Ep ok (.inl e)
theorem key_of(ok:HOk P w H h)(e:H a=some (.tup (ks.map kV))):(j1 (BI P w)).is h ks a:=by
 obtain⟨_,b,r,o,d,i,n,j⟩:=(show ObjOk P w H h a (.tup (ks.map kV))from ok a _ e);exact⟨o,b.toArray,n,d,i,j,by simpa using KA r⟩
theorem Eo{kvs:List (List Key×V)}(ok:HOk P w H h)(e:Rd H a (.dT kvs)):kvs.length<=sizeLine/\(a==bJ)=false/\
 ∃xs,KT H kvs xs/\h.DictOfH (j1 (BI P w)) a xs:=by
 obtain⟨z,y,xs,r,o,d,i,j,B,G,I,J⟩:=(show ObjOk P w H h a (.dT kvs)from NI ok e);refine⟨z,y,xs,r,o,d,i,j,B,G,I,λx hx=>?_,J⟩;have all:∀ {l:List (List Key×V)} {m:List (List Key×Addr×ah)},KT H l m->∀x∈m,(j1 (BI P w)).is h x.1 x.2.1:=by
  intro l m q
  induction q with
  |nil=>intro x hx;exact nomatch hx
  | @cons p q M Q b t L=>
    intro x hx;rcases aJ.mp hx with e|hx
    ·subst e;exact key_of ok (by rw[<-b.1];exact b.2.1)
    ·exact L x hx
 exact all r x hx
theorem XW{kvs:List (List Key×V)}(ok:HOk P w H h)(e:H a=some (.dT kvs)):kvs.length<=sizeLine/\(a==bJ)=false/\
 ∃xs,KT H kvs xs/\h.DictOfH (j1 (BI P w)) a xs:=Eo ok (.inl e)
end
def DGet(H:Hp)(a:Addr)(y:V)(r:Option V):Prop:=
 (∃d k,Rd H a (.dK d)/\y=kV k/\r=AZ d k)\/∃d k b,Rd H a (.dT d)/\y= .ref b/\H b=some (.tup (k.map kV))/\r=AZ d k
def DPut(H:Hp)(a:Addr)(y v:V)(e:Hp):Prop:=
 (∃d k,H a=some (.dK d)/\y=kV k/\d.length<sizeLine/\e=upd H a (.dK (putK d k v)))\/
 ∃d k b,H a=some (.dT d)/\y= .ref b/\H b=some (.tup (k.map kV))/\d.length<sizeLine/\e=upd H a (.dT (putK d k v))
theorem DGet.k{k:Key}(e:H a=some (.dK kvs)):DGet H a (kV k) (AZ kvs k):= .inl ⟨kvs,k, .inl e,rfl,rfl⟩
theorem DPut.k{k:Key}{v:V}(e:H a=some (.dK kvs))(b:kvs.length<sizeLine):DPut H a (kV k) v (upd H a (.dK (putK kvs k v))):= .inl ⟨kvs,k,e,rfl,b,rfl⟩
section
variable{σ:zQ0}{s:ak}{v:V}{u r:ah}
theorem Inv.big(I:Inv X pins σ H s):bJ<s.1.1.size:=by
 have h:a'<s.1.1.size:=(I.mod.glob.keeps I.bk).lt;exact dL nv h
theorem RM{Q:ah->ak->Prop}(J:A.units+1<jE)(I:Inv X pins σ H s)(g:DGet H a y (some v))(B:RelV y u)(h:∀i G,Inv X pins σ H G->RelV v i->Q i G):
 aH (aR X.prog X.w) A (kx (.ref a) u) Q E s:=by
 rcases g with⟨kvs,k,e,ey,l⟩|⟨kvs,k,b,e,ey,eb,l⟩
 ·subst ey;obtain⟨z,hd,vs,rel,j⟩:=Ep I.hok e;obtain⟨i,q,d⟩:=RelO.some_of (v:=v) (o:=i6 vs k) (by rw[l];exact rel.val k);exact kX (DS B) j.mapOf q (h i _ (I.tok _) d)
 ·subst ey
  cases(show u=aj b from B)
  obtain⟨z,hd,L,rel,j⟩:=Eo I.hok e;obtain⟨i,q,d⟩:=RelO.some_of (v:=v) (o:=(mz L k).map (·.2)) (by rw[l];exact rel.val k);obtain⟨p,M,x⟩:=dz.mp q;refine wpAny_getItem_heap (gU J) (key_of I.hok eb) j M ?_;rw[x];exact h i _ (I.tok _) d
theorem Uj{Q:ah->ak->Prop}(x:A.units+1<jE)(I:Inv X pins σ H s)(g:DGet H a y o)(i:RelV y u)(h:∀j,Inv X pins σ H j->Q (.bool (!o.isSome)) j):
 aH (aR X.prog X.w) A (bt .NotIn u (.ref a)) Q E s:=by
 rcases g with⟨kvs,k,e,ey,l⟩|⟨kvs,k,b,e,ey,eb,l⟩
 ·subst ey;obtain⟨z,hd,vs,rel,d⟩:=Ep I.hok e;refine wpAny_notIn_of (DS i) hd d.mapOf ?_;rw[<-(rel.val k).isSome_eq,<-l];exact h _ (I.tok _)
 ·subst ey
  cases(show u=aj b from i)
  obtain⟨z,hd,B,rel,d⟩:=Eo I.hok e;refine wpAny_notIn_heap (gU x) (key_of I.hok eb) hd d ?_;have q:=(rel.val k).isSome_eq;rw[kD]at q;rw[<-q,<-l];exact h _ (I.tok _)
theorem HZ{ob:HO}(I:Inv X pins σ H s)(d:Mut (H a))(i:bu a s.heap h')(j:∃q,h'.get? a=some q)(new:ObjOk X.prog X.w (upd H a ob) h' a ob):
 Inv X pins σ (upd H a ob) {s with heap:=h',toks:=t'}:=
 I.write (x:=a) (e:=a) d (.inl rfl) (λb q B z=>(i.2 b B).trans z) j new
theorem My(z:kvs.length<=sizeLine)(hd:(a==bJ)=false)(rel:KV kvs vs)(dd:h'.DictOf (BI P w) a vs):
 ObjOk P w H' h' a (.dK kvs):=⟨z,hd,vs,rel,dd⟩
theorem RL{Q:Unit->ak->Prop}(R:A.units+1<jE)(I:Inv X pins σ H s)(g:DPut H a y v H')(J:RelV y u)(rv:RelV v r)(h:∀L,Inv X pins σ H' L->Q () L):
 aH (aR X.prog X.w) A (mK (.ref a) u r) Q E s:=by
 rcases g with⟨kvs,k,e,ey,l,eH⟩|⟨kvs,k,b,e,ey,eb,l,eH⟩
 ·subst ey eH;obtain⟨z,hd,vs,rel,j⟩:=NV I.hok e;have x:vs.length<=sizeLine:=by rw[<-rel.length];exact z
  have B:(putK kvs k v).length<=sizeLine:=by have:=JQ kvs k v;lia
  refine wpAny_setItem_pairs (hsz:=x) (DS J) j λM d G=>h _ ?_;have S:∃q,M.get? a=some q:=let⟨q,_,_,i,_⟩:=d;⟨q,i⟩;exact HZ I (by rw[e];exact dU) G S (My B hd (rel.put k rv) d)
 ·subst ey eH
  cases(show u=aj b from J)
  obtain⟨z,hd,T,rel,j⟩:=XW I.hok e;have x:T.length<=sizeLine:=by rw[<-iF rel];exact z
  have B:(putK kvs k v).length<=sizeLine:=by have:=JQ kvs k v;lia
  refine wpAny_setItem_heap (hsz:=x) (gU R) (key_of I.hok eb) j λM d G=>h _ ?_;obtain⟨q,U,Y,i,Z,h3,h4,_,h5⟩:=d;refine HZ I (by rw[e];exact dU) G ⟨q,i⟩ ⟨B,hd,_,(rel.put k eb rv).keeps λc ys P=>?_,q,U,Y,i,Z,h3,h4,h5⟩;rw[AI (IM P e (λz=>nomatch z))];exact P
end
section
variable{σ:zQ0}{s:ak}{k:Key}{u:ah}
theorem XY{v:V}{more:List ah}{Q:ah->ak->Prop}(I:Inv X pins σ H s)(e:H a=some (.dK kvs))(j:RelV (kV k) u)(l:AZ kvs k=some v)(y:more=[]\/∃x,more=[x])
 (h:∀b B,Inv X pins σ (upd H a (.dK (CU kvs k))) B->RelV v b->Q b B):aH (aR X.prog X.w) A (call (.builtin "dict.pop") (.ref a::u::more)) Q E s:=by
 obtain⟨z,hd,vs,rel,G⟩:=NV I.hok e;obtain⟨b,J,r⟩:=RelO.some_of (v:=v) (o:=i6 vs k) (by rw[<-l];exact rel.val k);have L:(keyPart u).isSome=true:=by
  cases k with
  |inl i=>obtain⟨t,q⟩:=(show∃t,u=fK i t from j);subst q;rfl
  |inr x=>obtain⟨t,q⟩:=(show∃t,u=d8 x t from j);subst q;rfl
 have M:argsOk "dict.pop" ⟨.ref a::u::more,[]⟩:=by
  rcases y with q|⟨x,q⟩
  ·subst q;exact PySem.F.args_dict_pop_2 _ _
  ·subst q;exact PySem.F.args_dict_pop_3 _ _ _
 refine call_meetsIn jd G.typeIs PySem.F.entry_dict_pop M (meets_dict_pop_there (BI X.prog X.w) a (DS j) more y L)
  ⟨vs,b,G,by rw[<-rel.length];exact z,J,λP d R=>h b _ ?_ r⟩
 have S:∃q,P.get? a=some q:=let⟨q,_,_,T,_⟩:=d;⟨q,T⟩;exact HZ I (by rw[e];exact dU) R S (My (bj (Sn kvs k) z) hd (rel.drop k) d)
end
def Ez(i:Expr):Prop:=∀a b,jO i false a b=operate [a,b] (kx a b)
theorem LU{s:ak}{slice:Expr}{pos:Pos}{T id:String}{Q:ah->ak->Prop}
 (y:typeLookup (.type T) "__getitem__"=pure (some (.builtin id))) (z:Ez slice)
 (h:aH (aR prog w) A (eval value env) (λo b=>aH (aR prog w) A (eval slice env) (λi s₂=>s₂.TypeIs o T/\aH (aR prog w) A (kx o i) Q E s₂) E b) E s):
 aH (aR prog w) A (eval (.Subscript value slice pos) env) Q E s:=by
 refine kB (aZ h (λo b e=>aZ e (λi s₂ a=>?_) λ_ _ x=>x) λ_ _ x=>x);obtain⟨q,a⟩:=a;unfold iy;refine ac ?_;rw[getitemInPython_of_ne q.not_modules];refine ac (lm q y ?_);have fin:aH (aR prog w) A (jO slice false o i) (λr d=>aH (aR prog w) A (letTemporaryGo value o r>>=λ_=>pure r) Q E d) E s₂:=by
  rw[z o i];exact wpAny_operating (aZ a (λr d j=>ac (wpAny_letTemporaryGo (ag j))) λ_ _ x=>x)
 first
  |exact ag (ac fin)
  |exact ac (ag (ac fin))
  |exact ac fin
theorem Pf{σ:zQ0}{s:ak}(I:Inv X pins σ H s)(g:DGet H a y o):s.TypeIs (.ref a) "dict":=by
 rcases g with⟨kvs,k,e,_,_⟩|⟨kvs,k,b,e,_,_,_⟩
 ·obtain⟨_,_,vs,_,d⟩:=Ep I.hok e;exact d.typeIs
 ·obtain⟨_,_,i,_,d⟩:=Eo I.hok e;exact d.typeIs
def IF(d ty:TE):TE:=λσ H Q=>d σ H λx e=>ty σ e λy b=>∃a v,x= .ref a/\DGet b a y (some v)/\Q v b
def LQ(ty d:TE):TE:=λσ H Q=>ty σ H λy e=>d σ e λx b=>∃a o,x= .ref a/\DGet b a y o/\Q (.bl (!o.isSome)) b
def NH(d ty e:TE):TS:=λD σ H=>e σ H λv i=>d σ i λx j=>ty σ j λy o=>∃a b,x= .ref a/\DPut o a y v b/\D.nx σ b
section
variable{o:Expr}{pos:Pos}{ty tv:TE}
theorem UH(j:X.A.units+1<jE)(q:PE X o td)(hi:PE X i ty)(r:Ez i):PE X (.Subscript o i pos) (IF td ty):=by
 intro pins s σ H Q I h;refine LU hG.lookup r (thn (q pins s σ H _ I h) λu z ⟨x,B,G,J,L⟩=>thn (hi pins z σ B _ G L) λU Y M=>?_);obtain⟨y,P,d,R,a,v,ex,g,S⟩:=M;subst ex;obtain rfl:u=aj a:=J;exact⟨Pf d g,RM j d g R λZ s3 T b=>⟨v,P,T,b,S⟩⟩
theorem Qi(b:X.A.units+1<jE)(hi:PE X i ty)(d:PE X o td):PC X .NotIn i o (LQ ty td):=by
 intro pins s σ H Q I h;refine thn (hi pins s σ H _ I h) λT j ⟨y,q,r,z,B⟩=>thn (d pins j σ q _ r B) λu U G=>?_;obtain⟨x,J,L,M,a,P,ex,g,R⟩:=G;subst ex;obtain rfl:u=aj a:=M;exact Uj b L g z λY S=>⟨.bl (!P.isSome),J,S,rfl,R⟩
theorem Tz(b:X.A.units+1<jE)(d:PE X o td)(hi:PE X i ty)(j:PE X value tv)(q:gC value (some (.Subscript o i pos')) pos.line X.env=pure false):
 PS X (.Assign [.Subscript o i pos'] value pos) (NH td ty tv):=by
 intro pins s σ H D I h;refine wpAny_Assign_Subscript (thn (j pins s σ H _ I h) λr z ⟨v,B,G,rv,J⟩=>thn (d pins z σ B _ G J) λu L ⟨x,M,P,Q,R⟩=>thn (hi pins L σ M _ P R) λiv s3 ⟨y,H3,S,T,a,U,ex,g,Y⟩=>?_) q;subst ex;obtain rfl:u=aj a:=Q;exact RL b S g T rv λs4 Z=>⟨σ,U,Z,Y⟩
end
theorem Sq(h:Heap)(a:bJ<h.objs.size):ObjOk P w H (h.push {cls:= .type "dict",data:= .dict #[]}) h.objs.size (.dK []):=
 ⟨bA _,cW.mpr (cI (aN a)),[], .nil,Heap.DictOf.new h⟩
def tDNewK:TE:=λ_ H Q=>∀p,H p=none->Q (.ref p) (upd H p (.dK []))
section
variable{pos:Pos}
theorem Ks:PE X (.Dict [] [] pos) tDNewK:=λpins s σ H Q I h=>
 wpAny_Dict_empty ⟨.ref s.1.1.size,_,I.laid (a:=s.1.1.size) (o:= .dK []) (t':=s.toks) (λ_ _ q=>ae _ q) (ao _) (Sq s.heap I.big),rfl,h _ (I.hok.fresh (ao _))⟩
end
structure M1 (X:Cx) (o:Expr) (m:Str) (apos:Pos) (e:Expr) (cpos:Pos):Prop where
 base:d5 o m X.env (eval o X.env)=eval o X.env
 few:((dI cpos (aL [e] X.env)).all (λx=> !x.1)&&(iD cpos (fk [] X.env)).all (λx=>x.1.isSome)
  &&decide (([e]:List Expr).length+([]:List lL).length+(if([]:List lL).isEmpty then 0 else 1)<30))=true
 line:(apos.endLine==cpos.line)=true
 trees:dI cpos (aL [e] X.env)=[(false,eval e X.env)]
def IsD(H:Hp)(a:Addr):Prop:=(∃b,Rd H a (.dK b))\/∃b,Rd H a (.dT b)
theorem WH{σ:zQ0}{s:ak}(I:Inv X pins σ H s)(d:IsD H a):
 s.TypeIs (.ref a) "dict"/\(∀b,aj a= .ref b->∃ob,s.heap.get? b=some ob/\ob.dict=none)/\(a==bJ)=false:=by
 rcases d with⟨kvs,e⟩|⟨kvs,e⟩
 ·obtain⟨_,hd,vs,_,i⟩:=Ep I.hok e;refine⟨i.typeIs,λb q=>?_,hd⟩
  cases q
  obtain⟨ob,_,_,j,o,_⟩:=i;exact⟨ob,j,o.2.1⟩
 ·obtain⟨_,hd,r,_,i⟩:=Eo I.hok e;refine⟨i.typeIs,λb q=>?_,hd⟩
  cases q
  obtain⟨ob,_,_,j,o,_⟩:=i;exact⟨ob,j,o.2.1⟩
def MS(i ty:TE):TE:=λσ H Q=>i σ H λx d=>∃a,x= .ref a/\IsD d a/\ty σ d λy e=>∃b k v,e a=some (.dK b)/\y=kV k/\AZ b k=some v/\Q v (upd e a (.dK (CU b k)))
section
variable{o f:Expr}{apos cpos:Pos}{ty tx:TE}
theorem SK(j:PE X o td)(q:PE X e ty)(m:M1 X o "pop" apos e cpos):PE X (.Call (.Attribute o "pop" apos) [e] [] cpos) (MS td ty):=by
 intro pins s σ H Q I h;refine wpAny_Call_method m.base m.few m.line PySem.F.plainAttrs_dict jd PySem.F.type_dict_pop (thn (j pins s σ H _ I h) λu r z=>?_);obtain⟨x,B,i,G,a,ex,d,J⟩:=z;subst ex;obtain rfl:u=aj a:=G;obtain⟨L,M,_⟩:=WH i d;refine⟨L,M,?_⟩;rw[m.trees];refine fS rfl (gt (fQ (thn (q pins r σ B _ i J) λiv s2 ⟨y,H2,P,R,S,k,v,T,U,l,Y⟩=>fZ ?_)));subst U;exact XY P T R l (.inl rfl) λw' s3 Z b=>⟨v,_,Z,b,Y⟩
end
def U0(i:Nat)(G:Addr->Prop)(spOf:Addr->Sp)(R:XR)(t:TA):TE:=λσ H Q=>∃f,σ[i]? =some (some (.ref f))/\G f/\t σ H λvs a=>spOf f vs a Q (xk R σ)
theorem UG(i:Nat){k:Nat}{R:XR}{t:TA}{p pos:Pos}
 (U:∀f,G f->∃fd,FnOk X.prog X.w X.K X.mg X.base (CXE X.prog X.w) k f fd ps (spOf f)/\W.keepIn X.K (.ref f)=true/\Binds X.K fd ps []) (P:Room k X.A) (S:∀e j,XF X R e j->X.xe e j) (T:PA X (e::es) t)
 (Y:X.N[i]? =some x:=by rfl) (Z:Vis X.env.scope x:=by first|exact Or.inl rfl|exact Or.inr (Or.inl rfl)|exact Or.inr (Or.inr rfl)) (hd:(x==("__debug__":Str))=false:=by decide) (o:(x==("__classdict__":Str))=false:=by decide)
 (he:aL (e::es) X.env=(false,eval e X.env)::aL es X.env:=by rfl) (y:(dI pos (aL es X.env)).any (·.1)=false:=by rfl):
 PE X (.Call (.Name x p) (e::es) [] pos) (U0 i G spOf R t):=by
 intro pins s σ H Q I h;obtain⟨f,ef,hf,h⟩:=h;obtain⟨fd,F,hk,hb⟩:=U f hf;refine ck (thn (Mf Y Z hd o pins s σ H (λv H'=>v= .ref f/\H'=H) I ⟨.ref f,ef,rfl,rfl⟩) λu s0 z_=>?_);obtain⟨v,H0,J,r0,L,eH⟩:=z_;subst L eH;obtain rfl:u=aj f:=r0;refine W.callWith_K (h₀:=X.base) J.ok.mod.kin hk (thn (T pos pins s0 σ _ _ J h) λd B ⟨vs,M,a,r,q⟩=>⟨a.kIn,?_⟩) he y;have hl:d.length=ps.length:=by rw[<-r.length];exact F.len _ _ _ _ q
 refine fu (dj (F.run X.A X.stack B M ⟨d,[]⟩ d vs Q (xk R σ) P a.env0 ?_ r q) λres j b=>?_)
 ·have z:=hb B d a.kIn (by rw[cG];exact hl);rw[cG]at z;exact z
 ·cases res with
  |error L=>exact S _ _ ⟨pins,σ,M,B,a,b⟩
  |ok fl=>
   cases fl with
   |ret u=>exact a.after b
   |next=>exact bz b
   |brk=>exact bz b
   |cont=>exact bz b
def FDc(P:bK)(w:cX)(K:W.Frag)(a:Addr)(b:List (Key×V)):Prop:=∃ (o:Obj) (d:Array mH) (e:Nat) (vs:List (Key×ah)),KV b vs/\K.lookup a=some o/\o.ExactDict/\o.data=Data.dict d e/\KeysOf (BI P w) d/\Pairs (BI P w) d.toList vs/\(vs.map λx=>x.1).Nodup/\(a==bJ)=false
theorem FDc.of{σ:zQ0}{s:ak}(h:FDc X.prog X.w X.K a kvs)(I:Inv X pins σ H s):(a==bJ)=false/\∃vs,KV kvs vs/\s.heap.DictOf (BI X.prog X.w) a vs:=by
 obtain⟨o,b,d,vs,r,e,ex,hd,hk,i,nd,ns⟩:=h;exact⟨ns,vs,r,o,b,d,I.kIn _ _ e,ex,hd,hk,i,nd⟩
def Hk(P:bK)(w:cX)(K:W.Frag)(d ty:TE):TE:=λσ H Q=>d σ H λx e=>ty σ e λy i=>∃a b k v,x= .ref a/\FDc P w K a b/\y=kV k/\AZ b k=some v/\Q v i
theorem SL{o:Expr}{ty:TE}{pos:Pos}(P:bK)(w:cX)(K:W.Frag)(q:PE X o td)(hi:PE X i ty)(r:Ez i)(z:X.prog=P:=by rfl)(b:X.w=w:=by rfl)(B:X.K=K:=by rfl):PE X (.Subscript o i pos) (Hk P w K td ty):=by
 subst z b B;intro pins s σ H Q I h;refine LU hG.lookup r (thn (q pins s σ H _ I h) λu G ⟨x,J,L,M,R⟩=>thn (hi pins G σ J _ L R) λiv s2 S=>?_);obtain⟨y,T,e,U,a,Y,k,v,ex,f,Z,l,q2⟩:=S;subst ex Z;obtain rfl:u=aj a:=M;obtain⟨_,vs,rel,j⟩:=f.of e;obtain⟨w',b,d⟩:=RelO.some_of (v:=v) (o:=i6 vs k) (by rw[<-l];exact rel.val k);exact⟨j.typeIs,kX (DS U) j.mapOf b ⟨v,T,e.tok _,d,q2⟩⟩
def Kc(P:bK)(w:cX)(K:W.Frag)(ty d:TE):TE:=λσ H Q=>ty σ H λy e=>d σ e λx i=>∃a b k,x= .ref a/\FDc P w K a b/\y=kV k/\Q (.bl (!(AZ b k).isSome)) i
theorem P5{o:Expr}{ty:TE}(P:bK)(w:cX)(K:W.Frag)(hi:PE X i ty)(d:PE X o td)(e:X.prog=P:=by rfl)(j:X.w=w:=by rfl)(q:X.K=K:=by rfl):PC X .NotIn i o (Kc P w K ty td):=by
 subst e j q;intro pins s σ H Q I h;refine thn (hi pins s σ H _ I h) λZ r ⟨y,z,B,G,J⟩=>thn (d pins r σ z _ B J) λu s2 L=>?_;obtain⟨x,M,b,R,a,S,k,ex,f,T,U⟩:=L;subst ex T;obtain rfl:u=aj a:=R;obtain⟨ns,vs,rel,Y⟩:=f.of b;refine wpAny_notIn_of (DS G) ns Y.mapOf ?_;rw[<-(rel.val k).isSome_eq];exact⟨.bl _,M,b.tok _,rfl,U⟩
def Dt(w:cX)(x:Str×Tok×ah):mH:=⟨PyData.keyHash w.params x.1, .str x.1 x.2.1,x.2.2⟩
theorem KH:∀l:List (Str×Tok×ah),Pairs (BI P w) (l.map (Dt w)) (l.map λx=>((.inr x.1:Key),x.2.2))
 |[]=> .nil
 |x::l=> .cons (GU x.1 x.2.1) rfl (KH l)
theorem Mv:∀ {l:List (Str×Tok×ah)} {vs:List V},kf RelV vs (l.map λx=>x.2.2)->KV ((l.map λx=>(.inr x.1:Key)).zip vs) (l.map λx=>((.inr x.1:Key),x.2.2))
 |[],[],_=> .nil
 |[],_::_,h=>by cases h
 |x::l,[],h=>by cases h
 |x::l,v::vs,h=>by
  cases h with
  |cons a b=>exact .cons ⟨rfl,a⟩ (Mv b)
theorem WP{o:Obj}(l:List (Str×Tok×ah)){vs:List V}(i:K.lookup a=some o)(ex:o.ExactDict)(j:o.data= .dict (l.map (Dt w)).toArray ep)(q:kf RelV vs (l.map λx=>x.2.2))(nd:(l.map λx=>x.1).Nodup)(ns:(a==bJ)=false):
 FDc P w K a ((l.map λx=>(.inr x.1:Key)).zip vs):=by
 refine⟨o,_,ep,_,Mv q,i,ex,j,λe r=>?_,by simpa using KH l,?_,ns⟩
 ·have d:e∈l.map (Dt w):=by simpa using r
  obtain⟨x,y,rfl⟩:=cg.mp d;exact⟨.inr x.1,GU x.1 x.2.1,rfl⟩
 ·rw[d4];have:(l.map ((λx=>x.1)∘λx:Str×Tok×ah=>((.inr x.1:Key),x.2.2)))=(l.map λx=>x.1).map Sum.inr:=by rw[d4];rfl
  rw[this];exact kI _ (λa b h z=>h (lE z)) nd
theorem Gy:∀ (names:List (Str×f6)) (h:Heap) (i:List (Str×Addr)) (x:Str) (c:Addr),(dH h.objs.size names i).lookup x=some c->
 ((x,bb)∈names/\h.objs.size<=c/\(lA h names).IsCell c none)\/i.lookup x=some c
 |[],_,_,_,_,e=> .inr e
 |(o,k)::r,h,i,x,c,e=>by
  unfold dH at e;unfold lA
  by_cases hk:(k==bb)=true
  ·rw[aO hk]at e⊢;rw[<-bB h {cls:= .type "cell",data:= .cell none}]at e;rcases Gy r _ _ x c e with⟨a,b,d⟩|q
   ·refine .inl ⟨ay _ a,?_,d⟩;rw[bB]at b;lia
   ·rw[aY]at q
    cases j:x==o with
    |true=>
     rw[j]at q
     cases q
     have y:=eq_of_beq j;have z:k= .cell:=by simpa using hk
     subst y;subst z;exact .inl ⟨aA,ao _,⟨_,i9 _ _ _ _ (ap _ rfl),rfl⟩⟩
    |false=>rw[j]at q;exact .inr q
  ·rw[aB hk]at e⊢;rcases Gy r h i x c e with⟨a,b,d⟩|q
   ·exact .inl ⟨ay _ a,b,d⟩
   ·exact .inr q
theorem Ed:∀ (names:List (Str×f6)) (n:Nat) (a:List (Str×Addr)) (x:Str),(x,bb)∉names->(dH n names a).lookup x=a.lookup x
 |[],_,_,_,_=>rfl
 |(b,k)::r,n,a,x,d=>by
  unfold dH;have e:(x,bb)∉r:=λz=>d (ay _ z)
  by_cases hk:(k==bb)=true
  ·rw[aO hk,Ed r _ _ x e,aY];have:(x==b)=false:=by
    cases q:x==b with
    |false=>rfl
    |true=>
     have i:=eq_of_beq q;have j:k= .cell:=by simpa using hk
     subst i;subst j;exact absurd aA d
   rw[this]
  ·rw[aB hk];exact Ed r n a x e
theorem IA:∀ (names:List (Str×f6)) (n:Nat) (a:List (Str×Addr)) (x:Str),((x,bb)∈names\/∃c,a.lookup x=some c/\n<=c)->∃c,(dH n names a).lookup x=some c/\n<=c
 |[],n,a,x,h=>by
  rcases h with z|z
  ·cases z
  ·exact z
 |(d,k)::r,n,a,x,h=>by
  unfold dH
  by_cases hk:(k==bb)=true
  ·rw[aO hk]
   by_cases b:(x,bb)∈r
   ·obtain⟨c,e,l⟩:=IA r (n+1) ((d,n)::a) x (.inl b);exact⟨c,e,by lia⟩
   ·rw[Ed r _ _ x b,aY]
    cases i:x==d with
    |true=>exact⟨n,rfl,ao _⟩
    |false=>
     rcases h with z|z
     ·rcases aJ.mp z with q|q
      ·cases q;simp at i
      ·exact absurd q b
     ·exact z
  ·rw[aB hk];refine IA r n a x ?_;rcases h with z|z
   ·rcases aJ.mp z with q|q
    ·cases q;exact absurd rfl hk
    ·exact .inl q
   ·exact .inr z
theorem IB:∀ (names:List (Str×f6)) (n:Nat) (d:List (Str×Addr)),(∀x y c,d.lookup x=some c->d.lookup y=some c->x=y)->(∀x c,d.lookup x=some c->c<n)->
 ∀x y c,(dH n names d).lookup x=some c->(dH n names d).lookup y=some c->x=y
 |[],_,_,h,_=>h
 |(e,k)::r,n,d,h,i=>by
  unfold dH
  by_cases hk:(k==bb)=true
  ·rw[aO hk];refine IB r (n+1) ((e,n)::d) (λx y c a b=>?_) λx c a=>?_
   ·rw[aY]at a b
    cases j:x==e<;>cases o:y==e<;>rw[j]at a<;>rw[o]at b
    ·exact h x y c a b
    ·cases b;exact absurd (i x _ a) (bU _)
    ·cases a;exact absurd (i y _ b) (bU _)
    ·rw[eq_of_beq j,eq_of_beq o]
   ·rw[aY]at a
    cases j:x==e<;>rw[j]at a
    ·exact ce (i x c a)
    ·cases a;exact bX _
  ·rw[aB hk];exact IB r n d h i
theorem S0{s:ak}{cl:List (Str×Addr)}{Q:Env->ak->Prop}
 (h:Q {scope:=scope,locals:=s.1.1.size,globals:=env.globals,cells:=dH (s.1.1.size+1) scope.names cl,qual:=env.qual,func:=none,code:=env.code,frame:=env.frame,builtins:=env.builtins}
   {s with heap:=lA (s.heap.push {cls:= .type "dict",data:= .dict #[]}) scope.names}):
 aH M A (newFunctionEnv scope env.globals cl [] env.qual none .none (some env)) Q E s:=by
 simp only[newFunctionEnv,kh,fJ];refine ac (wpAny_alloc ?_);refine ac (wpAny_layCells _ (λname kind cells=>by cases a:kind==bb<;>simp[a]) _ _ _ _ ?_);rw[show({s with heap:=s.heap.push {cls:= .type "dict",data:= .dict #[]}}:ak).heap.objs.size=s.1.1.size+1 from bB ..];rw[jM];exact ac (ag (ag h))
def B1(X:Cx)(own:List Str)(sel:List Nat)(scope:gu)(cl:List (Str×Addr))(C:Addr)(a:ak)(b:Hp)(fp:List Addr):Cx where
 prog:=X.prog
 w:=X.w
 K:=X.K
 mg:=X.mg
 base:=X.base
 A:=X.A
 N:=own++sel.map λj=>X.N.getD j cF
 s₀:=a
 H₀:=b
 env:=j8 scope cl C X.env
 outer:=X.stack
 stack:=X.stack
 ex:=fp
 fn:=λx=>scope.names.lookup x==some .cell
 calm:=X.calm
 pn:=[]
 xe:=λ_ _=>False
structure CompOkC (osc:gu) (N:List Str) (own:List Str) (sel:List Nat) (scope:gu):Prop where
 kind:scope.kind= .function
 cell:∀y∈scope.names,y.2= .cell->scope.names.lookup y.1=some .cell
 names:∀y∈scope.names,y.2= .local->scope.names.lookup y.1=some .local
 free:∀y∈scope.names,y.2= .free->osc.names.lookup y.1=some .cell\/osc.names.lookup y.1=some .free
 seln:∀j∈sel,j<N.length/\scope.names.lookup (N.getD j cF)=some .free/\(osc.names.lookup (N.getD j cF)=some .cell\/osc.names.lookup (N.getD j cF)=some .free)
theorem Jl{iter:Expr}{pos:Pos}{use:Option (ah->Sem Unit)}
 (S:CompOkC X.env.scope X.N own sel scope) (hc:X.calm=true) (hi:PI X tg iter wi)
 (hg:∀cl C M P fp,PG (B1 X own sel scope cl C M P fp) tg g) (hk:GK own.length g)
 (ht:∀cl C M P fp,PIf (B1 X own sel scope cl C M P fp) ifs tt) (he:∀cl C M P fp,PE (B1 X own sel scope cl C M P fp) elt te)
 (hs:∀x,cu iter X.env x=pure x) {pins:List (Addr×Obj)} {s:ak} {σ:zQ0} {H:Hp} {Q:VK} {ps:Pos} (I0:Inv X pins σ H s) (h:Fj own sel wi g tt te σ H Q)
 (fin:∀ (D C:Addr) (H':Hp) (s':ak) (m:Str->Option ah),Inv X pins σ H' s'->s'.heap.Ns C m->Far X pins H' C->Q (.ref D) H'->j7 (aR X.prog X.w) X.A X.xe use Qo (.ref D) C (.ok .next) s'):
 aH (aR X.prog X.w) X.A (iC (.ListComp elt [⟨tg,iter,ifs,0⟩] scope pos) scope X.env ps (l8 []) false (eval iter X.env) use) Qo X.xe s:=by
 obtain⟨cl0,hclos,R,hfree0⟩:=MK (scope:=scope) (env:=X.env) λy hy e=>I0.ok.has y.1 (S.free y hy e);refine hZ (use:=use) rfl hs hclos S.kind S.names (thn (hi pins s σ H _ I0 h) λv s1 h1=>thn h1 λitv M h2=>?_);obtain⟨it,fp,tn,J,P,e,I,T,st2,f2,h3⟩:=h2;subst e;clear h h1 I0;refine cM (S0 ?_)
 dsimp only
 generalize hP:M.heap.push {cls:= .type "list",dict:=none,data:= .seq ([]:List ah).toArray}=P1;generalize hD:M.1.1.size=D;generalize hC:P1.objs.size=C;have hCD:C=D+1:=by rw[<-hC,<-hP,bB,hD]
 have U:D<C:=by rw[hCD];exact bX D
 have hDC:D≠C:=aN U;have neC:∀b:Addr,b<D->b≠C:=λb B=>aN (dL B U);have neD:∀b:Addr,b<D->b≠D:=λb B=>aN B;have hsD:M.1.1.size<=D:=fA hD;have hsC:M.1.1.size<=C:=bj hsD (b9 U);have m6:∀a,D<=a->P a=none:=λa ha=>I.hok.fresh (by rw[hD];exact ha);have hnD:P D=none:=m6 D (ao _);have hnC:P C=none:=m6 C (b9 U);have below:∀b o,M.heap.get? b=some o->b<D:=λb o e=>by rw[<-hD];exact au e
 generalize hh1:lA (P1.push {cls:= .type "dict",data:= .dict #[]}) scope.names=h1;have keepP:∀b o,P1.get? b=some o->h1.get? b=some o:=λb o e=>by rw[<-hh1];exact i9 _ _ b o (ae _ e)
 have G:∀b o,M.heap.get? b=some o->h1.get? b=some o:=λb o e=>keepP b o (hP▸ae _ e);have hns1:h1.Ns C (λ_=>none):=by rw[<-hh1,<-hC];exact(Heap.Ns.new P1 (.type "dict")).keeps (i9 _ _)
 have gD:h1.get? D=some {cls:= .type "list",dict:=none,data:= .seq ([]:List ah).toArray}:=by
  refine keepP _ _ ?_;rw[<-hP,<-hD];exact ap _ rfl
 have szP:(P1.push {cls:= .type "dict",data:= .dict #[]}).objs.size=C+1:=by rw[bB,hC]
 have hcb:∀x c,cl0.lookup x=some c->c<D:=λx c e=>by
  obtain⟨u,o,z,_⟩:=I.cell x c (R _ _ e);exact below c o z
 generalize hcs:dH (C+1) scope.names cl0=cl;have L:∀x c,cl.lookup x=some c->((x,bb)∈scope.names/\C+1<=c/\h1.IsCell c none)\/X.env.cells.lookup x=some c:=λx c e=>by
  rw[<-hcs,<-szP]at e;rcases Gy _ _ _ x c e with⟨a,b,d⟩|q
  ·rw[szP]at b;rw[hh1]at d;exact .inl ⟨a,b,d⟩
  ·exact .inr (R _ _ q)
 have hinj:∀x y c,cl.lookup x=some c->cl.lookup y=some c->x=y:=by
  rw[<-hcs];exact IB _ _ _ (λx y c a b=>I.ok.inj x y c (R _ _ a) (R _ _ b)) λx c e=>ce (dL (hcb x c e) U)
 have Z:∀x,(x,bb)∈scope.names->∃c,cl.lookup x=some c/\C+1<=c:=λx hx=>by rw[<-hcs];exact IA _ _ _ x (.inl hx)
 have hfree:∀y∈scope.names,y.2= .free->∃c,cl.lookup y.1=some c:=λy hy e=>by
  by_cases hm:(y.1,bb)∈scope.names
  ·obtain⟨c,q,_⟩:=Z _ hm;exact⟨c,q⟩
  ·rw[<-hcs,Ed _ _ _ _ hm];exact hfree0 y hy e
 have hold:∀x,scope.names.lookup x=some .free->∃c,cl.lookup x=some c/\X.env.cells.lookup x=some c:=λx hx=>by
  have hm:(x,bb)∉scope.names:=λz=>by have:=S.cell _ z rfl;rw[hx]at this;cases this
  obtain⟨c,q⟩:=hfree0 _ (bC hx) rfl;exact⟨c,by rw[<-hcs,Ed _ _ _ _ hm];exact q,R _ _ q⟩
 obtain⟨W,⟨m0,w0⟩,turn⟩:=h3 D hnD;have fpb:∀b∈fp,b<D:=λb B=>by obtain⟨o,e,_⟩:=T.obj _ _ st2 b B;exact below b o e
 generalize hY:B1 X own sel scope cl C M P fp=Y;have hg:=hg cl C M P fp;have ht:=ht cl C M P fp;have he:=he cl C M P fp;rw[hY]at hg ht he;have okY:Y.Ok:=by
  subst hY;refine⟨I.ok.mod,S.kind,I.ok.glob,I.ok.blt,?_,hinj,λx hx=>?_,λx c hf e=>?_,λz=>I.ok.hd z,I.ok.frames, .inl rfl,λb B=>⟨?_,λx c e=>?_⟩,I.bs,
   bj I.ok.bsz I.sz,λb o e B=>?_,λb B z=>?_,I.stack,I.stkFree⟩
  ·exact hsC
  ·have hx':(mL scope X.env).names.lookup x=some .cell\/(mL scope X.env).names.lookup x=some .free:=hx;have hf:scope.names.lookup x=some .cell\/scope.names.lookup x=some .free:=by
    rcases hx' with z|z
    ·rcases Dy z with q|q
     ·exact .inl q
     ·exact .inr q
    ·rcases Dy z with q|q<;>exact .inr q
   rcases hf with hf|hf
   ·obtain⟨c,q,_⟩:=Z _ (bC hf);exact⟨c,q⟩
   ·exact hfree _ (bC hf) rfl
  ·have hf':scope.names.lookup x=some .cell:=by
    have:(scope.names.lookup x==some bb)=true:=hf;exact eq_of_beq this
   obtain⟨c',q,l⟩:=Z x (bC hf');have e':cl.lookup x=some c:=e;rw[q]at e'
   cases e'
   exact bj hsC nA
  ·exact neC b (fpb b B)
  ·rcases L x c e with⟨_,l,_⟩|q
   ·have:=fpb b B;intro z;subst z;exact absurd (aI this (b9 U)) nA
   ·exact(f2 b B).2.2.2.2.1 x c q
  ·rcases(f2 b B).2.2.2.1 with z|z
   ·exact I.ok.noex b o e z
   ·exact absurd (aI (au e) (bj I.ok.bsz z)) (bU _)
  ·rcases aJ.mp (I.stkSub b z)with q|q
   ·exact(f2 b B).2.1 q
   ·exact(f2 b B).2.2.1 q
 have eo:ObjOk X.prog X.w (upd P D (.lst [])) h1 D (.lst []):=⟨by decide,[],_, .nil,gD⟩;have I1:Inv Y [] (AY own sel σ) (upd P D (.lst [])) {M with heap:=h1}:=by
  subst hY;refine⟨okY,rfl,I.bare,Un.laid G hsD hnD,⟨_,hns1,λi x v e1 e2 e3=>?_⟩,λx c e=>?_,?_,λx c e=>?_,λp hp=>absurd (show p∈([]:List (Addr×Obj))from hp) nC,I.hok.laid G hsD eo,?_⟩
  ·obtain⟨k,j,ei,ej,es⟩:=K1 e2;subst ei;have e1':(own++sel.map λj=>X.N.getD j cF)[own.length+k]? =some x:=e1;rw[cB nA,am,show own.length+k-own.length=k by lia,ej]at e1';simp only[je,e8]at e1';obtain⟨hj,hfx,hkd⟩:=S.seln j (bV ej);have hN:X.N[j]? =some x:=by rw[<-e1',af,ai hj];rfl
   rw[e1']at hkd hfx;obtain⟨m,_,hl⟩:=I.loc;obtain⟨u,r,lk⟩:=hl j x v hN es (.inr hkd);refine⟨u,r, .inr ⟨F7 I.ok.kind hfx,?_⟩⟩;rcases lk with⟨z1,_⟩|⟨_,c,hc1,hc2⟩
   ·have z1':X.env.scope.names.lookup x=some .local:=z1;rcases hkd with q|q<;>(rw[z1']at q;cases q)
   ·obtain⟨c',q,q2⟩:=hold _ hfx;rw[hc1]at q2
    cases q2
    exact⟨c,q,hc2.keeps G⟩
  ·rcases L x c e with⟨_,_,z⟩|q
   ·exact⟨_,z⟩
   ·obtain⟨u,z⟩:=I.cell x c q;exact⟨u,z.keeps G⟩
  ·show upd P D (.lst []) C=none;rw[AI (cI hDC)];exact hnC
  ·show upd P D (.lst []) c=none;rcases L x c e with⟨_,l,_⟩|q
   ·have hcD:D<c:=aI U nA;rw[AI (cI (aN hcD))];exact m6 c (b9 hcD)
   ·obtain⟨u,o,z,_⟩:=I.cell x c q;rw[AI (neD c (below c o z))];exact I.freeC x c q
  ·show(AY own sel σ).length=(own++sel.map λj=>X.N.getD j cF).length;rw[K2];simp
 have fin:∀ (σ':zQ0) (H':Hp) (s':ak),Inv Y [] σ' H' s'->Q (.ref D) H'->j7 (aR X.prog X.w) X.A X.xe use Qo (.ref D) C (.ok .next) s':=by
  intro σ' H' s' I' q;subst hY;obtain⟨m,hn,_⟩:=I'.loc;have J':Inv X pins σ H' s':=I.call' I'.os I'.base I'.hok I'.bare λb B=>⟨(f2 b B).2.2.2.1,(f2 b B).2.1,(f2 b B).2.2.2.2.1,(f2 b B).2.2.2.2.2⟩;refine fin D C H' s' m J' hn ⟨I'.free,cI (neC _ (by rw[<-hD];exact I.lt)),bj I.sz hsC,λx c e=>?_,λp hp=>?_⟩ q
  ·obtain⟨u,o,z,_⟩:=I.cell x c e;exact neC c (below c o z)
  ·exact neC p.1 (below p.1 p.2 (I.pin p hp).1)
 have stat:∀ {H':Hp},(∀b∈fp,H' b=none)->∀b∈fp,BQ Y [] H' b:=fun{H'} hn b B=>by
  subst hY;refine⟨hn b B,neC b (fpb b B),λz=>?_, .inl B,λx c e=>?_,λp hp=>absurd (show p∈([]:List (Addr×Obj))from hp) nC⟩
  ·rcases aJ.mp (I.stkSub b z)with q|q
   ·exact(f2 b B).2.1 q
   ·exact(f2 b B).2.2.1 q
  ·rcases L x c e with⟨_,l,_⟩|q
   ·have:=fpb b B;intro z;subst z;exact absurd (aI this (b9 U)) nA
   ·exact(f2 b B).2.2.2.2.1 x c q
 have loop:∀s3:ak,s3={M with heap:=h1}->
  dt (aR X.prog X.w) X.A (.compLoop (.ListComp elt [⟨tg,iter,ifs,0⟩] scope pos) 0 (.ref it) (.ref D) (j8 scope cl C X.env)) (j7 (aR X.prog X.w) X.A X.xe use Qo (.ref D) C) s3:=by
  rintro s3 rfl;have eP:Y.prog=X.prog:=by subst hY;rfl
  have eW:Y.w=X.w:=by subst hY;rfl
  have eA:Y.A=X.A:=by subst hY;rfl
  have eK:Y.K=X.K:=by subst hY;rfl
  have eE:Y.env=j8 scope cl C X.env:=by subst hY;rfl
  have eX:Y.xe=λ_ _=>False:=by subst hY;rfl
  have eC:Y.calm=true:=by subst hY;exact hc
  refine QO (λn s'=>∃i H',Inv Y [] (AY own sel σ) H' s'/\tn i s'.heap/\(∀b∈fp,H' b=none)/\W i n H') ?_ m0
   ⟨0,_,I1,T.keep _ _ _ st2 λb _ o e=>G b o e,λb B=>by rw[AI (neD b (fpb b B))];exact(f2 b B).1,w0⟩
  rintro n s4 ⟨i,H4,I4,st4,fr4,w4⟩;rcases turn i n H4 w4 with⟨stop,q⟩|⟨go,step⟩
  ·have dn:=T.done Y eP eW eK eC i [] s4 _ H4 (λ_ _=>False) I4 (stat fr4) st4 stop;rw[eA]at dn;refine thn dn λr s5 z_=>?_;obtain⟨hr,I5⟩:=z_;subst hr;exact fin _ _ _ I5 q
  ·have im:=T.item Y eP eW eK eC i [] s4 _ H4 (λ_ _=>False) I4 (stat fr4) st4 go;rw[eA]at im;refine thn im λr s5 z_=>?_;obtain⟨u,hr,h5⟩:=z_;subst hr;refine thn h5 λ_ s6 z_=>?_;obtain⟨x,H6,I6,r6,y6,st6,fr6⟩:=z_;have I6':=I6.pinned (stat fr6) (T.obj _ _ st6);have back:∀ {σ7:zQ0} {H7:Hp} {s7:ak} {k:Nat},Inv Y ([]++DN fp s6.heap) σ7 H7 s7->σ7.length=(AY own sel σ).length->(∀j,own.length<=j->σ7[j]? =(AY own sel σ)[j]?)->(∃m',m'<n/\W (i+1) m' H7)->
    ∃m',m'<n/\∃i H',Inv Y [] (AY own sel σ) H' s7/\tn i s7.heap/\(∀b∈fp,H' b=none)/\W i m' H':=fun{σ7 H7 s7 k} I7 l7 k7 w7=>by
    obtain⟨m',hm,w7⟩:=w7;refine⟨m',hm,i+1,H7,I7.unpinned.weak l7.symm λj v e=>?_,T.keep _ _ _ st6 λb B o e=>(I7.pin (b,o) (aP _ (aP _ (Cy B e)))).1,λb B=>?_,w7⟩
    ·by_cases hj:j<own.length
     ·rw[FM hj]at e;cases e
     ·rw[k7 j (iP hj)];exact e
    ·obtain⟨o,e,d⟩:=T.obj _ _ st6 b B;exact(I7.pin (b,o) (aP _ (aP _ (Cy B e)))).2.1
   have ga:=hg _ s6 _ H6 x u _ I6' r6 (hk _ _ _ _ (step x H6 y6));rw[eP,eW,eA,eE,eX]at ga;refine thn ga λ_ s7 z_=>?_;obtain⟨σ7,H7,I7,q7,l7,k7⟩:=z_;have ta:=ht _ s7 σ7 H7 _ I7 q7;rw[eP,eW,eA,eE,eX]at ta;refine thn ta λb s8 z_=>?_;obtain⟨H8,I8,q8⟩:=z_
   cases b with
   |false=>
    rw[aB aq]at q8⊢;exact back (k:=0) I8 l7 k7 q8
   |true=>
    rw[aO rfl]at q8⊢;have ea:=he _ s8 σ7 H8 _ I8 q8;rw[eP,eW,eA,eE,eX]at ea;refine thn ea λv s9 z_=>?_;obtain⟨x9,H9,I9,r9,ys,hD9,hz9,q9⟩:=z_;have aa:=B4 (X:=Y) _ s9 σ7 H9 (.ref D) [x9] (.ref D) [v] (λ_ H'=>∃m',m'<n/\W (i+1) m' H') I9 rfl (.cons r9 .nil) ⟨D,ys,x9,rfl,rfl,hD9,hz9,q9⟩;rw[eP,eW,eA,eX]at aa;exact thn aa λ_ s10 ⟨_,H10,I10,_,q10⟩=>back (k:=0) I10 l7 k7 q10
 exact iW (loop _ rfl) (T.self X.A 0 _ _ _ (T.keep _ _ _ st2 λb _ o e=>G b o e) (loop _ rfl))
theorem A1{iter:Expr}{pos:Pos}
 (S:CompOkC X.env.scope X.N own sel scope) (d:X.calm=true) (hi:PI X tg iter wi)
 (hg:∀cl C a b fp,PG (B1 X own sel scope cl C a b fp) tg g) (hk:GK own.length g)
 (ht:∀cl C a b fp,PIf (B1 X own sel scope cl C a b fp) ifs tt) (e:∀cl C a b fp,PE (B1 X own sel scope cl C a b fp) elt te)
 (i:∀x,cu iter X.env x=pure x:=by intro _;rfl):
 PE X (.ListComp elt [⟨tg,iter,ifs,0⟩] scope pos) (Fj own sel wi g tt te):=by
 intro pins s σ H Q I h;rw[eval_ListComp];refine Jl (use:=none) S d hi hg hk ht e i I h λD C j y m o r f q=>?_;exact⟨m,r,λz k=>⟨.ref D,j,o.far f k,rfl,q⟩⟩
set_option tactic.hygienic true in
theorem F9{i:Nat}{spos:Pos}{iter:Expr}{pos:Pos}
 (z:X.N.Nodup) (j:X.N[i]? =some x) (B:Loc X.env.scope x)
 (S:CompOkC X.env.scope X.N own sel scope) (G:X.calm=true) (hi:PI X tg iter wi)
 (hg:∀cl C b d fp,PG (B1 X own sel scope cl C b d fp) tg g) (hk:GK own.length g)
 (ht:∀cl C b d fp,PIf (B1 X own sel scope cl C b d fp) ifs tt) (J:∀cl C b d fp,PE (B1 X own sel scope cl C b d fp) elt te)
 (L:∀x,cu iter X.env x=pure x:=by intro _;rfl)
 (o:gC (.ListComp elt [⟨tg,iter,ifs,0⟩] scope pos) (some (.Name x pos')) spos.line X.env=pure true:=by rfl)
 (M:X.fn x=true\/X.env.scope.names.lookup x=some .local:=by first|exact .inl rfl|exact .inr rfl|assumption):
 PS X (.Assign [.Name x pos'] (.ListComp elt [⟨tg,iter,ifs,0⟩] scope pos) spos) (Cr (Fj own sel wi g tt te) (BG i)):=by
 intro pins s σ H P I h;rw[i' _ _ _ _ o];refine ac (dg (ac ?_));show aH _ X.A (do let _<-iC (.ListComp elt [⟨tg,iter,ifs,0⟩] scope pos) scope X.env _ (l8 []) false (eval iter X.env) (some (gV (.Name x pos') X.env))) _ _ s;refine ac (aZ (Jl (use:=some (gV (.Name x pos') X.env)) (Qo:=λ_ r=>SP X pins P .next r) S G hi hg hk ht J L I h λD C Q r m R T f q=>?_) (λ_ r U=>ag (ag U)) λ_ _ e=>e);show aH _ X.A (gV (.Name x pos') X.env (.ref D)) _ _ _;refine h7 (GQ (v:=V.ref D) R z j B rfl (λb Y ⟨a,k,ha⟩=>?_) M);have y:C≠a:=by
  rcases ha with rfl|ha
  ·exact f.nl
  ·exact cI (f.nc x a ha)
 exact⟨m,T.sameBut k y,λh' Z=>⟨_,Q,Y.far f Z,q⟩⟩
end L2
namespace BrM
theorem Um(a:List α)(lo hi:Option Int):(Ap a lo hi).length<=a.length:=M3 a lo hi
theorem GV{k:Int}(h:AQ k a=true):∀c∈a,c∈sgn k:=by
 unfold AQ at h;simp only[aQ,aT,bq]at h;exact h.2
theorem Gr{k:Int}(b:a.length<=40)(h:∀c∈a,c∈sgn k):AQ k a=true:=by
 unfold AQ;simp only[aQ,aT,bq];exact⟨b,h⟩
theorem EE(xs:List α)(i:Nat):Ap xs (some (i:Int)) none=xs.drop i:=by
 unfold Ap;rw[HT.sIx_nat,HT.sIx_none];rcases mD i xs.length with h|h
 ·rw[gI h,dA (by rw[iQ];lia)]
 ·rw[k9 h,iZ (ao _),iZ h];simp
theorem Ee{l:List Nat}{i:Int}(h0:0<=i)(b:i<(l.length:Int)):∃c,atI l i=some c/\c∈l:=by
 have hk:i.toNat<l.length:=by lia
 have a:i=((i.toNat:Nat):Int):=by lia
 have q:atI l ((i.toNat:Nat):Int)=some l[i.toNat]:=AT (ai hk);rw[<-a]at q;exact⟨_,q,dF hk⟩
theorem Ul{a:List α}{lo hi:Option Int}{c:α}(h:c∈Ap a lo hi):c∈a:=by
 unfold Ap at h;exact List.mem_of_mem_drop (jG h)
theorem E9(l:List Nat):(l.map λc=>[c]).flatten=l:=by
 induction l with
 |nil=>rfl
 |cons c r a=>rw[aW,cz,a];rfl
end BrM
namespace L2
variable{c i:Int}{ta:TA}{tget:V->V->Hp->VK->Prop}{Q:VK}
section
variable{σ:zQ0}
theorem Sr{a:Addr}(f:V->V)(U:xs.length<=sizeLine)(L:H a=some (.lst xs))
 (M:∀D d,H D=none->Same H d->d D=some (.lst (xs.map f))->Q (.ref D) d)
 (X:∀ (D:Addr) (i:Nat) (x:V) (d:Hp) (R:V->Hp->Prop),H D=none->xs[i]? =some x->Same H d->(∀q,Same d q->R (f x) q)->g x (AY own sel σ) d λσ4 G=>te σ4 G R):BU (Itl K a) own sel σ g tYes te Q H:=by
 refine B5 (n:=xs.length) (λD i j d=>j=(xs.take i).map f/\Same H d) (λD B=>⟨rfl,AJ B _⟩) (λD i j d B hi J ⟨_,r⟩=>⟨xs,xs[i],SqL.of (r _ _ L),ai hi⟩) (λD j d B J P ⟨e,r⟩=>⟨⟨_,SqL.of (r _ _ L),ao _⟩,M D d B r (by rw[J,e,dD])⟩) ?_;rintro D i j d x Y B hi J P ⟨e,r⟩ ⟨rfl,Z⟩;have I:=Z _ (SqL.of (r _ _ L));have ef:(fun(σ4:zQ0) (G:Hp)=>tYes σ4 G λb S=>if b=true then te σ4 S λv q=>∃j,q D=some (.lst j)/\j.length<sizeLine/\∃y,y<xs.length-i/\CW D xs.length (λi j d=>j=(xs.take i).map f/\Same H d) (i+1) y (upd q D (.lst (j++[v])))else∃y,y<xs.length-i/\CW D xs.length (λi j d=>j=(xs.take i).map f/\Same H d) (i+1) y S)
  =λσ4 G=>te σ4 G λv q=>∃j,q D=some (.lst j)/\j.length<sizeLine/\∃y,y<xs.length-i/\CW D xs.length (λi j d=>j=(xs.take i).map f/\Same H d) (i+1) y (upd q D (.lst (j++[v]))):=by
  funext σ4 G
  simp only[tYes,fJ]
 rw[ef];refine X D i x Y _ B I r λq T=>?_;refine Bj hi U (T _ _ J) P ⟨?_,λb o z=>?_⟩
 ·rw[e,cy,I,bv];rfl
 ·rw[AI (AS z B)];exact T _ _ (r _ _ z)
end
def DF(lo c:Int)(n:Nat):zQ1:=⟨λi _=>i<n,λi H x a=>a=H/\x= .int (lo+i*c),λi _=>n<=i⟩
theorem O4(it:Addr)(lo c:Int)(n:Nat):Turn P w K tg (DF lo c n) [it] it (λi h=>jU h it (lo+(i:Nat)*c) ((n:Int)-(i:Nat)) c) where
 mem:=by simp
 obj:=λi h a b d=>by
  obtain rfl:b=it:=by simpa using d
  exact⟨_,a,λv z=>by
   have T:mY _=Data.cell v:=z
   cases T⟩
 keep:=λi h q a k=>k it nC _ a
 item:=by
  intro X x y B G i pins s σ H E I r a hg;subst x y B;obtain⟨J,L,U,M,Q,R⟩:=r it nC;have W:=mQ (prog:=X.prog) (w:=X.w) (I.ok.hd G) it lo c n;refine W.item i s _ _ hg a λv q S Y j Z=>?_;obtain⟨t,rfl⟩:=Y;have I1:Inv X pins σ H {s with heap:=q,toks:=S}:=I.turned (λb o d e=>Z b o (by simpa using d) e) J L M Q R;exact⟨_,rfl,Fo (s:={s with heap:=q,toks:=S}) (n:="range_iterator") j rfl rfl nv ⟨.int (lo+i*c),H,I1,⟨t,rfl⟩,⟨rfl,rfl⟩,j,λb d=>(r b d).1⟩⟩
 done:=by
  intro X x y B G i pins s σ H E I r a hg;subst x y B;obtain⟨J,L,U,M,Q,R⟩:=r it nC;exact iS (I.ok.hd G) a (by have:n<=i:=hg;lia) λq eb=>⟨rfl,I.turned (t':=s.toks) (λb o d e=>eb b o d e) J L M Q R⟩
 self:=λ_ _ _ _ _ a h=>iU a h
def rN(a b c:Int):Nat:=(cA a b c).toNat
theorem Qc{σ:zQ0}{s:ak}{R:zQ1->Hp->Prop}{hi:Int}{t u v:Tok}{tk:Nat}(I:Inv X pins σ H s)(d:c8 lo hi c=true)
 (q:R (DF lo c (rN lo hi c)) H):aH (aR X.prog X.w) X.A (i8 (.ref s.1.1.size)) (PIE X pins σ tg R) E {s with heap:=s.heap.push {cls:= .type "range",data:= .fields #[.int lo t, .int hi u, .int c v]},toks:=tk}:=by
 refine j0 (mW ..) d ?_;have a:Inv X pins σ H {s with heap:=s.heap.push {cls:= .type "range",data:= .fields #[.int lo t, .int hi u, .int c v]},toks:=tk}:=I.kept λb o e=>ae _ e;refine⟨(s.heap.push {cls:= .type "range",data:= .fields #[.int lo t, .int hi u, .int c v]}).objs.size,[(s.heap.push {cls:= .type "range",data:= .fields #[.int lo t, .int hi u, .int c v]}).objs.size],_,_,H,rfl,
  a.kept (t':=tk) λb o e=>ae _ e,O4 _ lo c (rN lo hi c),?_,λb i=>?_,q⟩
 ·have j:lo+((0:Nat):Int)*c=lo:=by simp
  have r:((rN lo hi c:Nat):Int)-((0:Nat):Int)=cA lo hi c:=by unfold rN;rw[<-rangeSize_toNat];simp
  show jU _ _ (lo+((0:Nat):Int)*c) (((rN lo hi c:Nat):Int)-((0:Nat):Int)) c;rw[j,r];exact ap _ rfl
 ·obtain rfl:b=(s.heap.push {cls:= .type "range",data:= .fields #[.int lo t, .int hi u, .int c v]}).objs.size:=by simpa using i
  exact a.fpOk (ao _) (a.hok.fresh (ao _))
def NR(a:TA):TI:=λσ H R=>a σ H λvs b=>∃i j c:Int,vs=[.int i, .int j, .int c]/\(c≠0/\c.natAbs<1000/\c8 i j c=true)/\R (DF i c (rN i j c)) b
theorem B3{a b c:Expr}{p pos:Pos}(hg:Gl X "range")(z:X.mg "range"=none)(B:PA X [a,b,c] ta)(G:aL [a,b,c] X.env=[(false,eval a X.env),(false,eval b X.env),(false,eval c X.env)]:=by rfl)(d:aL [b,c] X.env=[(false,eval b X.env),(false,eval c X.env)]:=by rfl):
 PI X tg (.Call (.Name "range" p) [a,b,c] [] pos) (NR ta):=by
 intro pins s σ H R I h;refine Call_ (CP I hg z boot_range (bY (thn (B pos pins s σ H _ I h) λS T ⟨vs,U,J,L,x⟩=>?_) (by rw[G,d]) (by rw[d];rfl)));obtain⟨i,j,c,e,⟨x,Y,M⟩,q⟩:=x;subst e
 cases L with
 |cons r o=>
  cases o with
  |cons P o=>
   cases o with
   |cons y o=>
    cases o
    obtain⟨t,rfl⟩:=r;obtain⟨Z,rfl⟩:=P;obtain⟨Q,rfl⟩:=y;exact call_range_3 x (Qc J M q) (kP (iX nA))
theorem CH{a b:Int}(i:0<=a)(d:a<=1000)(j: -1000<=b)(e:b<=1000):c8 a b 2=true:=by
 unfold c8 cA;simp only[eO,aQ,bP,bq,bE,show(2:Int)>0 by decide,fJ]
 split<;>lia
theorem JZ{a b:Int}(d:c= -1\/c= -2)(j: -1000<=a)(e:a<=1000)(o: -1000<=b)(i:b<=1000):c8 a b c=true:=by
 unfold c8 cA;rcases d with rfl|rfl
 ·simp only[eO,aQ,bP,bq,bE,show¬ ((-1:Int)>0) by decide,f5,lM]
  split<;>lia
 ·simp only[eO,aQ,bP,bq,bE,show¬ ((-2:Int)>0) by decide,f5,lM]
  split<;>lia
theorem CL(a b:Int):rN a b 2=((b-a+1)/2).toNat:=by
 unfold rN cA;simp only[show(2:Int)>0 by decide,fJ]
 split<;>lia
theorem Lk(a b:Int):rN a b (-1)=(a-b).toNat:=by
 unfold rN cA;simp only[show¬ ((-1:Int)>0) by decide,f5,lM]
 split<;>lia
def Nr(K:W.Frag):List V->Hp->VK->Prop:=λa H Q=>∃ (p:Addr) (ns:List Int),a=[.ref p]/\SqL K H p (ns.map V.int)/\Q (.int ns.sum) H
theorem FC(K:W.Frag)(j:X.calm=true)(x:X.K=K:=by rfl):CallR X (.builtin "sum") (Nr K):=by
 subst x;intro pins s σ H a P Q I r h;obtain⟨p,ns,rfl,y,q⟩:=h;obtain⟨u,rfl,B⟩:=vals1 r
 cases B
 obtain⟨G,J,ht,R⟩:=I.list y;have hi:=Jh J;obtain⟨a,e⟩:=hi.allInts.items;have d:ns=a.toList.map (·.1):=by rw[<-hi.numsOf,<-nums_intItems,<-e]
 have i:=ht.isList;rw[e]at i;refine sum_intListG (I.ok.hd j) i λS T L hk=>?_;have M:preSum (numAt a) a.size=ns.sum:=by
  rw[preSum_eq,dA nC,d]
 rw[M];exact⟨.int ns.sum,H,I.kept λb o z=>hk b o z,⟨L,rfl⟩,q⟩
def NK(K:W.Frag):List V->Hp->VK->Prop:=λb H Q=>∃p a,b=[.ref p]/\(SqL K H p a\/SqT K H p a)/\∀l,H l=none->Q (.ref l) (upd H l (.lst a))
theorem QQ(K:W.Frag)(a:X.K=K:=by rfl):CallR X (.type "list") (NK K):=by subst a;exact O0
def NL(K:W.Frag):V->V->Hp->VK->Prop:=λx y H Q=>∃p a,∃ (j:Nat),∃v,x= .ref p/\y= .int j/\SqL K H p a/\a[j]? =some v/\Q v H
theorem D7(K:W.Frag)(d:X.K=K:=by rfl):N6 X (NL K):=by
 subst d;intro pins s σ H o i L M Q I e x h;obtain⟨p,P,j,z,rfl,rfl,y,b,q⟩:=h
 cases e
 obtain⟨t,rfl⟩:=x;obtain⟨B,r,G,R⟩:=I.list y;obtain⟨w,J,a⟩:=r.get b;have S:=r.length;have T:=DB;have U:=(az.mp b).1;exact wpAny_getItem_list G.isList nA nA (by simpa using J) ⟨z,H,I,a,q⟩
section
variable{σ:zQ0}
theorem TY{R:zQ1->Hp->Prop}(h:ta σ H λvs a=>∃i j c:Int,vs=[.int i, .int j, .int c]/\(c≠0/\c.natAbs<1000/\c8 i j c=true)/\R (DF i c (rN i j c)) a):NR ta σ H R:=h
theorem Fl(a:SqL K H p (ns.map V.int))(h:Q (.int ns.sum) H):Nr K [.ref p] H Q:=⟨p,ns,rfl,a,h⟩
theorem TU{ys:List V}(a:SqL K H p ys)(h:∀l,H l=none->Q (.ref l) (upd H l (.lst ys))):NK K [.ref p] H Q:=⟨p,ys,rfl, .inl a,h⟩
theorem Vh{to ti:TE}{tip:TIp}{tset:TSet}(h:to σ H λo a=>ti σ a λi b=>tget o i b λx d=>te σ d λy e=>tip x y e λz j=>tset o i z j λq=>D.nx σ q):NA to ti te tget tip tset D σ H:=h
theorem EV{v:V}(a:SqL K H p xs)(b:xs[j]? =some v)(h:Q v H):NL K (.ref p) (.int j) H Q:=⟨p,xs,j,v,rfl,rfl,a,b,h⟩
theorem Si(Pv:Nat->zQ0->Hp->Prop)(h0:Pv 0 σ H)
 (a:∀i σ H,i<n->Pv i σ H->g (.int (lo+i*c)) σ H λσ2 b=>tb {D with nx:=Pv (i+1),ct:=Pv (i+1),bk:=D.nx} σ2 b) (hd:∀σ H,Pv n σ H->D.nx σ H):B8 (DF lo c n) g tb D σ H:=
 Fd (n:=n) Pv h0 (λi σ H hi _=>hi) (λσ H _=>ao _) (λi x σ H d hi p y=>by obtain⟨rfl,rfl⟩:=y;exact a i σ _ hi p) hd
end
def R4(scope osc:gu):gu:={scope with names:=scope.names.map fun(n,k)=>if(k== .free&&osc.kind== .function&&osc.names.lookup n==some .cell)then(n, .cell)else(n,k)}
def Gx(osc:gu)(N:List Str)(own:List Str)(sel:List Nat)(scope:gu):Bool:=
 (scope.kind== .function)&&scope.names.all (λy=>y.2 != .cell||scope.names.lookup y.1==some .cell)&&scope.names.all (λy=>y.2 != .local||scope.names.lookup y.1==some .local)&&
 scope.names.all (λy=>y.2 != .free||osc.names.lookup y.1==some .cell||osc.names.lookup y.1==some .free)&&
 sel.all (λj=>decide (j<N.length)&&scope.names.lookup (N.getD j cF)==some .free&&(osc.names.lookup (N.getD j cF)==some .cell||osc.names.lookup (N.getD j cF)==some .free))
theorem Au{osc:gu}{N:List Str}(h:Gx osc N own sel scope=true):CompOkC osc N own sel scope:=by
 unfold Gx at h;simp only[aQ,aT]at h;obtain⟨⟨⟨⟨b,d⟩,i⟩,o⟩,r⟩:=h;refine⟨by simpa using b,λy a e=>?_,λy a e=>?_,λy a e=>?_,λj x=>?_⟩
 ·have:=d y a;simp only[bP,jy,bE]at this;rcases this with q|q
  ·exact absurd e q
  ·exact q
 ·have:=i y a;simp only[bP,jy,bE]at this;rcases this with q|q
  ·exact absurd e q
  ·exact q
 ·have:=o y a;simp only[bP,jy,bE]at this;rcases this with(q|q)|q
  ·exact absurd e q
  ·exact .inl q
  ·exact .inr q
 ·have:=r j x;simp only[bP,bE,bq]at this;exact⟨this.1.1,this.1.2,this.2⟩
def big:Nat:=2^10000
theorem LI(h:i.natAbs<big):jZ i<=2^20:=by
 refine bj (?_ :jZ i<=10000) nv;exact PySem.intBits_le_iff.mpr h
def rTimesW:R2:=λx y H Q=>(∃i j,x= .int i/\y= .int j/\(i.natAbs<big/\j.natAbs<big)/\Q (.int (i*j)) H)\/rRep x y H Q\/NJ x y H Q
theorem op_mulW:OpR X (dO .Mult) (rI (λi j=>i.natAbs<big/\j.natAbs<big) λi j=> .int (i*j)):=opI λ_ _ _ _ _ _ _ a q=>mul_int q (PySem.IntMulOk.of_bits (LI a.1) (LI a.2))
theorem BV:OpR X (dO .Mult) rTimesW:=op_mulW.or (op_rep.or Lq)
section
variable{σ:zQ0}
theorem Bb{j:Int}(a:i.natAbs<big)(b:j.natAbs<big)(h:Q (.int (i*j)) H):rTimesW (.int i) (.int j) H Q:= .inl ⟨i,j,rfl,rfl,⟨a,b⟩,h⟩
theorem EF{J:zQ1}(f:Nat->V)(hn:n<=sizeLine)(Iv:Addr->Nat->List V->Hp->Prop)
 (L:∀i d,i<n->Same H d->J.go i d) (M:∀d,Same H d->J.stop n d) (hy:∀i y x d,i<n->Same H y->J.yld i y x d->d=y/\x=f i)
 (h0:∀D,H D=none->Iv D 0 [] (upd H D (.lst []))) (mono:∀D i a y Y,H D=none->Iv D i a y->SameBut1 D y Y->Iv D i a Y)
 (P:∀D a d,H D=none->d D=some (.lst a)->a.length=n->Same H d->Iv D n a d->Q (.ref D) d)
 (hs:∀ (D:Addr) (i:Nat) (a:List V) (d:Hp) (R:V->Hp->Prop),H D=none->i<n->d D=some (.lst a)->a.length=i->Same H d->Iv D i a d->(∀v j,Same d j->Iv D (i+1) (a++[v]) j->R v j)->
   g (f i) (AY own sel σ) d λσ4 G=>te σ4 G R):BU J own sel σ g tYes te Q H:=by
 refine B5 (n:=n) (λD i a d=>a.length=i/\Same H d/\Iv D i a d) (λD r=>⟨rfl,AJ r _,h0 D r⟩) (λD i a d r hi _ ⟨_,B,_⟩=>L i d hi B)
  (λD a d r S Z ⟨e,B,T⟩=>⟨M d B,P D a d r S e B T⟩) ?_
 rintro D i a y x H3 r hi I Z ⟨el,B,T⟩ yl;obtain⟨rfl,rfl⟩:=hy i y x H3 hi B yl;have U:=hs D i a H3 (λv j=>∃a,j D=some (.lst a)/\a.length<sizeLine/\∃q,q<n-i/\CW D n (λi a d=>a.length=i/\Same H d/\Iv D i a d) (i+1) q (upd j D (.lst (a++[v])))) r hi I el B T (λv j s6 X=>?_)
 ·have ef:(fun(σ4:zQ0) (G:Hp)=>tYes σ4 G λb H5=>if b=true then te σ4 H5 λv j=>∃a,j D=some (.lst a)/\a.length<sizeLine/\∃q,q<n-i/\CW D n (λi a d=>a.length=i/\Same H d/\Iv D i a d) (i+1) q (upd j D (.lst (a++[v])))
   else∃q,q<n-i/\CW D n (λi a d=>a.length=i/\Same H d/\Iv D i a d) (i+1) q H5)=λσ4 G=>te σ4 G λv j=>∃a,j D=some (.lst a)/\a.length<sizeLine/\∃q,q<n-i/\CW D n (λi a d=>a.length=i/\Same H d/\Iv D i a d) (i+1) q (upd j D (.lst (a++[v]))):=by
   funext σ4 G
   exact propext ⟨λz=>by have z':=z;simp only[tYes]at z';simpa using z',λz=>by show tYes _ _ _;simp only[tYes];simpa using z⟩
  rw[ef];exact U
 ·refine Bj hi hn (s6 _ _ I) Z ⟨by simp[el],λb o z=>?_,mono D _ _ _ _ r X SameBut1.upd⟩;rw[AI (AS z r)];exact s6 b o (B b o z)
theorem HA(q:n<=sizeLine)(Iv:Addr->Nat->List V->Hp->Prop)
 (h0:∀D,H D=none->Iv D 0 [] (upd H D (.lst []))) (mono:∀D i b d o,H D=none->Iv D i b d->SameBut1 D d o->Iv D i b o)
 (e:∀D b a,H D=none->a D=some (.lst b)->b.length=n->Same H a->Iv D n b a->Q (.ref D) a)
 (r:∀ (D:Addr) (i:Nat) (b:List V) (a:Hp) (R:V->Hp->Prop),H D=none->i<n->a D=some (.lst b)->b.length=i->Same H a->Iv D i b a->(∀v j,Same a j->Iv D (i+1) (b++[v]) j->R v j)->
   g (.int (lo+i)) (AY own sel σ) a λσ4 z=>te σ4 z R):BU (Itr lo n) own sel σ g tYes te Q H:=
 EF (λi=> .int (lo+i)) q Iv (λi a hi _=>hi) (λa _=>ao _) (λi d x a _ _ y=>y) h0 mono e r
theorem Ra(q:n<=sizeLine)(Iv:Addr->Nat->List V->Hp->Prop)
 (h0:∀D,H D=none->Iv D 0 [] (upd H D (.lst []))) (mono:∀D i b d o,H D=none->Iv D i b d->SameBut1 D d o->Iv D i b o)
 (e:∀D b a,H D=none->a D=some (.lst b)->b.length=n->Same H a->Iv D n b a->Q (.ref D) a)
 (r:∀ (D:Addr) (i:Nat) (b:List V) (a:Hp) (R:V->Hp->Prop),H D=none->i<n->a D=some (.lst b)->b.length=i->Same H a->Iv D i b a->(∀v j,Same a j->Iv D (i+1) (b++[v]) j->R v j)->
   g (.int (lo+i*c)) (AY own sel σ) a λσ4 z=>te σ4 z R):BU (DF lo c n) own sel σ g tYes te Q H:=
 EF (λi=> .int (lo+i*c)) q Iv (λi a hi _=>hi) (λa _=>ao _) (λi d x a _ _ y=>y) h0 mono e r
theorem G0(z:a.length<=sizeLine)(Iv:Addr->Nat->List V->Hp->Prop)
 (h0:∀D,H D=none->Iv D 0 [] (upd H D (.lst []))) (mono:∀D i d j r,H D=none->Iv D i d j->SameBut1 D j r->Iv D i d r)
 (o:∀D d b,H D=none->b D=some (.lst d)->d.length=a.length->Same H b->Iv D a.length d b->Q (.ref D) b)
 (B:∀ (D:Addr) (i:Nat) (d:List V) (b:Hp) (R:V->Hp->Prop),H D=none->i<a.length->b D=some (.lst d)->d.length=i->Same H b->Iv D i d b->(∀v q,Same b q->Iv D (i+1) (d++[v]) q->R v q)->
   g (tx [a.getD i 0]) (AY own sel σ) b λσ4 G=>te σ4 G R):BU (Its ⟨a.toArray⟩) own sel σ g tYes te Q H:=
 EF (λi=>tx [a.getD i 0]) z Iv (λi b hi _=>by simpa[Its]using hi) (λb _=>by simp[Its]) (λi j x b hi _ y=>by
  obtain⟨rfl,c,e,rfl⟩:=y;have I:a[i]? =some c:=by simpa using e
  exact⟨rfl,by rw[af,I];rfl⟩) h0 mono o B
theorem Ka(v:Nat->V)(y:n<=sizeLine)(d:∀D a,H D=none->Same H a->a D=some (.lst ((aw n).map v))->Q (.ref D) a)
 (z:∀ (i:Nat) (a:Hp) (R:V->Hp->Prop),i<n->Same H a->(∀b,Same a b->R (v i) b)->g (.int (lo+i)) (AY own sel σ) a λσ4 B=>te σ4 B R):BU (Itr lo n) own sel σ g tYes te Q H:=
 HA y (λD i j _=>j=(aw i).map v) (λ_ _=>rfl) (λ_ _ _ _ _ _ e _=>e) (λD j a q x _ o e=>d D a q o (by rw[x,e]))
  (λD i j a R q hi x _ o e r=>z i a R hi o λb G=>r _ b G (by rw[e,bZ,bv];rfl))
theorem Jo(v:Nat->V)(y:n<=sizeLine)(d:∀D a,H D=none->Same H a->a D=some (.lst ((aw n).map v))->Q (.ref D) a)
 (z:∀ (i:Nat) (a:Hp) (R:V->Hp->Prop),i<n->Same H a->(∀b,Same a b->R (v i) b)->g (.int (lo+i*c)) (AY own sel σ) a λσ4 B=>te σ4 B R):BU (DF lo c n) own sel σ g tYes te Q H:=
 Ra y (λD i j _=>j=(aw i).map v) (λ_ _=>rfl) (λ_ _ _ _ _ _ e _=>e) (λD j a q x _ o e=>d D a q o (by rw[x,e]))
  (λD i j a R q hi x _ o e r=>z i a R hi o λb G=>r _ b G (by rw[e,bZ,bv];rfl))
theorem KZ(v:Nat->V)(B:a.length<=sizeLine)(j:∀D b,H D=none->Same H b->b D=some (.lst (a.map v))->Q (.ref D) b)
 (G:∀ (i c:Nat) (b:Hp) (R:V->Hp->Prop),a[i]? =some c->Same H b->(∀d,Same b d->R (v c) d)->g (tx [c]) (AY own sel σ) b λσ4 I=>te σ4 I R):BU (Its ⟨a.toArray⟩) own sel σ g tYes te Q H:=
 G0 B (λD i o _=>o=(a.take i).map v) (λ_ _=>rfl) (λ_ _ _ _ _ _ e _=>e) (λD o b y z _ q e=>j D b y q (by rw[z,e,dD]))
  (λD i o b R y hi z _ q e r=>by
    have x:a[i]? =some a[i]:=ai hi;have J:a.getD i 0=a[i]:=by rw[af,x];rfl
    rw[J];exact G i a[i] b R x q λd L=>r _ d L (by rw[e,cy,x,bv];rfl))
end
end L2
namespace BrC
variable{g:Nat->Int}
def sm:Nat->(Nat->Int)->Int
 |0,_=>0
 |n+1,f=>sm n f+f n
theorem BK:∀n,(∀i,i<n->f i=g i)->sm n f=sm n g
 |0,_=>rfl
 |n+1,h=>by unfold sm;rw[BK n λi hi=>h i (ce hi),h n (bX n)]
theorem Fb(f g:Nat->Int):∀n,sm n (λi=>f i+g i)=sm n f+sm n g
 |0=>rfl
 |n+1=>by unfold sm;rw[Fb f g n];show sm n f+sm n g+(f n+g n)=_;lia
theorem ES(c:Int)(f:Nat->Int):∀n,sm n (λi=>c*f i)=c*sm n f
 |0=>by simp[sm]
 |n+1=>by unfold sm;rw[ES c f n,Int.mul_add]
theorem HH(c:Int)(f:Nat->Int)(n:Nat):sm n (λi=>f i*c)=sm n f*c:=by
 rw[gY,<-ES];exact BK n λi _=>gY _ _
theorem sm_zero:∀n,(∀i,i<n->f i=0)->sm n f=0
 |0,_=>rfl
 |n+1,h=>by unfold sm;rw[sm_zero n λi hi=>h i (ce hi),h n (bX n)];rfl
theorem Kj(f:Nat->Int):∀n,sm (n+1) f=f 0+sm n (λi=>f (i+1))
 |0=>by simp[sm]
 |n+1=>by rw[sm,Kj f n,sm];lia
theorem HJ(f:Nat->Nat->Int)(m:Nat):∀n,sm n (λi=>sm m λj=>f i j)=sm m (λj=>sm n λi=>f i j)
 |0=>by rw[sm];exact(sm_zero m λ_ _=>rfl).symm
 |n+1=>by rw[sm,HJ f m n,<-Fb];rfl
theorem MX(f:Nat->Nat->Int):∀L,sm L (λa=>sm (L-a-1) λb=>f a (a+1+b))=sm L (λe=>sm e λa=>f a e)
 |0=>rfl
 |L+1=>by
  rw[sm,sm];have e:sm L (λa=>sm (L+1-a-1) λb=>f a (a+1+b))=sm L (λa=>(sm (L-a-1) λb=>f a (a+1+b))+f a L):=by
   refine BK L λa d=>?_;have:L+1-a-1=(L-a-1)+1:=by lia
   rw[this,sm];congr 2;lia
  rw[e,Fb,MX f L,show L+1-L-1=0 by lia,sm];lia
theorem D6:∀n,(∀i,i<n->0<=f i)->0<=sm n f
 |0,_=>cZ _
 |n+1,h=>by unfold sm;have:=D6 n λi hi=>h i (ce hi);have:=h n (bX n);lia
theorem FQ:∀n,(∀i,i<n->f i<=g i)->sm n f<=sm n g
 |0,_=>cZ _
 |n+1,h=>by unfold sm;have:=FQ n λi hi=>h i (ce hi);have:=h n (bX n);lia
theorem FF(c:Int):∀n,sm n (λ_=>c)=n*c
 |0=>by simp[sm]
 |n+1=>by rw[sm,FF c n];rw[jq,jW];simp
theorem U2(hi:i<n)(h:∀j,j<n->j≠i->f j=0):sm n f=f i:=by
 induction n with
 |zero=>lia
 |succ n a=>
  unfold sm
  by_cases e:i=n
  ·subst e;rw[sm_zero i λj b=>h j nA nA];lia
  ·rw[a nA λj b=>h j nA,h n nA nA];lia
theorem HI(f:Nat->Int):∀n,(∀i,i<n->i%2=1->f i=0)->sm n f=sm ((n+1)/2) λq=>f (2*q)
 |0,_=>rfl
 |n+1,h=>by
  rw[sm,HI f n λi hi=>h i (ce hi)]
  by_cases e:n%2=1
  ·rw[h n (bX n) e,show(n+1+1)/2=(n+1)/2 by lia];lia
  ·rw[show(n+1+1)/2=(n+1)/2+1 by lia,sm,show 2*((n+1)/2)=n by lia]
theorem E7(f:Nat->Int):∀n,((aw n).map f).sum=sm n f
 |0=>rfl
 |n+1=>by rw[bZ,bv,List.sum_append,E7 f n];simp[sm]
def cv(P:Nat->Nat->Int)(k:Nat):Nat->Nat->List Nat->Int
 |0,_,[]=>1
 |0,_,_::_=>0
 |n+1,i,st=>sm k (λp=>P i (2*p)*cv P k n (i+1) (p::st))+(match st with|[]=>0|o::r=>P i (2*o+1)*cv P k n (i+1) r)
variable{P:Nat->Nat->Int}{k:Nat}
theorem Ec(n i:Nat):cv P k (n+1) i []=sm k (λp=>P i (2*p)*cv P k n (i+1) [p]):=by
 rw[cv];simp
theorem FW(n i o:Nat)(st:List Nat):cv P k (n+1) i (o::st)=sm k (λp=>P i (2*p)*cv P k n (i+1) (p::o::st))+P i (2*o+1)*cv P k n (i+1) st:=by
 rw[cv]
theorem K9:∀ (N n i o:Nat) (st:List Nat),n<=N->cv P k n i (o::st)=sm n (λe=>cv P k e i []*P (i+e) (2*o+1)*cv P k (n-e-1) (i+e+1) st):=by
 intro N
 induction N with
 |zero=>intro n i o st h;obtain rfl:n=0:=by lia
        rfl
 |succ N d=>
  intro n i o st h
  cases n with
  |zero=>rfl
  |succ n=>
   rw[FW,Kj,show cv P k 0 i []=1 from rfl];have j:(1:Int)*P (i+0) (2*o+1)*cv P k (n+1-0-1) (i+0+1) st=P i (2*o+1)*cv P k n (i+1) st:=by rw[fY];rfl
   rw[j,Int.add_comm];congr 1;have L:∀p,cv P k n (i+1) (p::o::st)=sm n (λe=>sm e λa=>(cv P k a (i+1) []*P (i+1+a) (2*p+1))*(cv P k (e-a-1) (i+a+2) []*P (i+e+1) (2*o+1)*cv P k (n-e-1) (i+e+2) st)):=by
    intro p;rw[d n (i+1) p (o::st) nA,<-MX];refine BK n λa q=>?_;rw[d (n-a-1) (i+1+a+1) o st nA,<-ES];refine BK _ λb x=>?_;rw[show a+1+b-a-1=b by lia,show i+1+a+1=i+a+2 by lia,show i+a+2+b=i+(a+1+b)+1 by lia,show n-a-1-b-1=n-(a+1+b)-1 by lia,show i+(a+1+b)+1+1=i+(a+1+b)+2 by lia]
   have r:sm k (λp=>P i (2*p)*cv P k n (i+1) (p::o::st))=sm k (λp=>sm n λe=>P i (2*p)*sm e λa=>(cv P k a (i+1) []*P (i+1+a) (2*p+1))*(cv P k (e-a-1) (i+a+2) []*P (i+e+1) (2*o+1)*cv P k (n-e-1) (i+e+2) st)):=by
    refine BK k λp _=>?_;rw[L p,<-ES]
   rw[r,HJ];refine BK n λe y=>?_;rw[Ec,show i+(e+1)=i+e+1 by lia,show n+1-(e+1)-1=n-e-1 by lia,show i+e+1+1=i+e+2 by lia,fP,<-HH];refine BK k λp _=>?_;rw[d e (i+1) p [] nA,fP];congr 1;rw[<-HH];refine BK e λa q=>?_;rw[show i+1+a+1=i+a+2 by lia];simp only[fP,gY,ir]
theorem Dl:∀ (n i:Nat) (a:List Nat),(n+a.length)%2=1->cv P k n i a=0
 |0,_,[],h=>by simp at h
 |0,_,_::_,_=>rfl
 |n+1,i,[],h=>by
  rw[Ec];refine sm_zero k λp _=>?_;rw[Dl n (i+1) [p] (by simp at h⊢;lia),jr]
 |n+1,i,o::a,h=>by
  rw[FW,sm_zero k λp _=>by rw[Dl n (i+1) (p::o::a) (by simp at h⊢;lia),jr],Dl n (i+1) a (by simp at h⊢;lia),jr]
  rfl
def pr(P:Nat->Nat->Int)(k i j:Nat):Int:=sm k λp=>P i (2*p)*P j (2*p+1)
theorem WX(m i:Nat):cv P k (m+1) i []=sm m (λe=>pr P k i (i+1+e)*cv P k e (i+1) []*cv P k (m-e-1) (i+e+2) []):=by
 rw[Ec];have a:sm k (λp=>P i (2*p)*cv P k m (i+1) [p])=sm k (λp=>sm m λe=>P i (2*p)*P (i+1+e) (2*p+1)*(cv P k e (i+1) []*cv P k (m-e-1) (i+e+2) [])):=by
  refine BK k λp _=>?_;rw[K9 m m (i+1) p [] (ao _),<-ES];refine BK m λe _=>?_;rw[show i+1+e+1=i+e+2 by lia];simp only[fP,gY,ir]
 rw[a,HJ];refine BK m λe _=>?_;rw[HH,fP]
 rfl
theorem Uk(m i:Nat):cv P k (m+1) i []=sm ((m+1)/2) (λq=>pr P k i (i+1+2*q)*cv P k (2*q) (i+1) []*cv P k (m-2*q-1) (i+2*q+2) []):=by
 rw[WX,HI];intro e _ h;rw[Dl e (i+1) [] (by simpa using h),jr,fD]
theorem FO{c:Int}(q:0<=c)(h0:∀i b,0<=P i b)(y:∀i b,P i b<=c):∀ (n i:Nat) (a:List Nat),0<=cv P k n i a/\cv P k n i a<=(((k:Int)+1)*c)^n
 |0,i,[]=>⟨by simp[cv],by simp[cv]⟩
 |0,i,_::_=>⟨by simp[cv],by simp[cv]⟩
 |n+1,i,a=>by
  have j:=FO q h0 y n (i+1);have z:0<=(((k:Int)+1)*c)^n:=bM (j []).1 (j []).2;have x:∀b d,0<=P i b*cv P k n (i+1) d/\P i b*cv P k n (i+1) d<=c*(((k:Int)+1)*c)^n:=λb d=>
   ⟨be (h0 i b) (j d).1,cq (y i b) (j d).2 (j d).1 q⟩
  have B:0<=sm k (λp=>P i (2*p)*cv P k n (i+1) (p::a)):=D6 k λp _=>(x _ _).1;have G:sm k (λp=>P i (2*p)*cv P k n (i+1) (p::a))<=k*(c*(((k:Int)+1)*c)^n):=by
   rw[<-FF];exact FQ k λp _=>(x _ _).2
  have e:(((k:Int)+1)*c)^(n+1)=k*(c*(((k:Int)+1)*c)^n)+c*(((k:Int)+1)*c)^n:=by
   rw[fE,gY,fP,jW,fY]
  have H:0<=c*(((k:Int)+1)*c)^n:=be q z
  cases a with
  |nil=>rw[Ec,e];exact⟨B,by lia⟩
  |cons o r=>
   have:=x (2*o+1) r;rw[FW,e];constructor<;>lia
theorem Ld(n:Nat):∀d,(∀e,n<=e->f e=0)->sm (n+d) f=sm n f
 |0,_=>rfl
 |d+1,h=>by rw[show n+(d+1)=(n+d)+1 by lia,sm,Ld n d h,h (n+d) nA];lia
end BrC
open BrC
namespace BrS
variable{x:Int}{w:List Int}{P:Nat->Nat->Int}{Q:VK}{E:XK}
abbrev iL(l:List Int):HO:= .lst (l.map V.int)
def Pls(H:Hp)(r:Addr)(a:List (List Int)):Prop:=∃b:Nat->Addr,H r=some (.lst ((aw a.length).map λi=>V.ref (b i)))/\∀i,i<a.length->H (b i)=some (iL (a.getD i []))
theorem Pls.same{r:Addr}(h:Pls H r ps)(s:Same H H'):Pls H' r ps:=by
 obtain⟨a,b,d⟩:=h;exact⟨a,s _ _ b,λi hi=>s _ _ (d i hi)⟩
def rwl(n:Nat)(f:Nat->Int):List V:=(aw (n+1)).map λj=>V.int (f j)
theorem Ce(n:Nat)(f:Nat->Int):(rwl n f).length=n+1:=by simp[rwl]
theorem Bl(h:j<=n):(rwl n f)[j]? =some (.int (f j)):=by
 unfold rwl;rw[am,aU nA];rfl
theorem To{v:Int}:(rwl n f).set j (.int v)=rwl n (λx=>if x=j then v else f x):=by
 apply fX;intro i;unfold rwl;rw[iq,am,am]
 by_cases e:j=i
 ·subst e
  by_cases a:j<n+1
  ·rw[aU a];simp[a]
  ·rw[aO rfl,aB (by simpa using a)];rw[bL (by simpa using a)];rfl
 ·rw[aB e]
  by_cases hi:i<n+1
  ·rw[aU hi];simp[cI e]
  ·rw[bL (by simpa using hi)];rfl
theorem GR{g:Nat->Int}(h:∀j,j<=n->f j=g j):rwl n f=rwl n g:=by
 unfold rwl;refine dw λj a=>?_;rw[h j (by have:=bG.mp a;lia)]
structure Tb (H0 H:Hp) (s:Addr) (ad:Nat->Addr) (n:Nat) (T:Nat->Nat->Int):Prop where
 fs:H0 s=none
 fa:∀i,i<=n->H0 (ad i)=none
 ns:∀i,i<=n->ad i≠s
 inj:∀i j,i<=n->j<=n->ad i=ad j->i=j
 top:H s=some (.lst ((aw (n+1)).map λi=>V.ref (ad i)))
 row:∀i,i<=n->H (ad i)=some (.lst (rwl n (T i)))
 sm:Same H0 H
section
variable{H0:Hp}{s:Addr}{T T':Nat->Nat->Int}
theorem Tb.same(t:Tb H0 H s ad n T)(h:Same H H'):Tb H0 H' s ad n T:=⟨t.fs,t.fa,t.ns,t.inj,h _ _ t.top,λi hi=>h _ _ (t.row i hi),t.sm.trans h⟩
theorem Tb.congr(t:Tb H0 H s ad n T)(h:∀i j,i<=n->j<=n->T i j=T' i j):Tb H0 H s ad n T':=⟨t.fs,t.fa,t.ns,t.inj,t.top,λi hi=>by rw[t.row i hi,GR λj a=>h i j hi a],t.sm⟩
theorem Tb.at(t:Tb H0 H s ad n T)(hi:i<=n):((aw (n+1)).map λi=>V.ref (ad i))[i]? =some (.ref (ad i)):=by
 rw[am,aU nA];rfl
theorem Tb.set(t:Tb H0 H s ad n T){v:Int}(hi:i<=n):Tb H0 (upd H (ad i) (.lst ((rwl n (T i)).set j (.int v)))) s ad n (λa b=>if a=i/\b=j then v else T a b):=by
 refine⟨t.fs,t.fa,t.ns,t.inj,by rw[AI (cI (t.ns i hi))];exact t.top,λa d=>?_,λb o z=>?_⟩
 ·by_cases e:a=i
  ·subst e;rw[AF,To];congr 2;refine GR λx _=>?_
   by_cases q:x=j<;>simp[q]
  ·rw[AI (λz=>e (t.inj a i d hi z)),t.row a d];congr 2;refine GR λx _=>?_;simp[e]
 ·rw[AI (AS z (t.fa i hi))];exact t.sm b o z
end
def brs:List Nat:=[40,41,91,93,123,125,60,62]
def plw(w:List Int)(c:Nat):List Int:=if c=63 then w else(brs.take w.length).map λb=>if c=b then 1 else 0
theorem T4(h:w.length<=8):(plw w c).length=w.length:=by
 unfold plw
 split
 ·rfl
 ·rw[ax,cc];exact gI h
abbrev PP(ps:List (List Int)):Nat->Nat->Int:=λi b=>(ps.getD i []).getD b 0
abbrev ones(k:Nat):List Int:=aS (2*k) 1
def zQ2(k:Nat)(a:List Nat):Int:=cv (PP (a.map (plw (ones k)))) k a.length 0 []
inductive spWeighed(K:W.Frag):Type
 |mk (a:List Nat) (p:Addr) (w:List Int) (_:vs=[tx a, .ref p]) (_:a.length<=40) (_:SqL K H p (w.map V.int)) (_:w.length<=8) (_:∀r H',H r=none->Same H H'->Pls H' r (a.map (plw w))->Q (.ref r) H')
theorem O3(d:a.length<=40)(e:SqL K H p (w.map V.int))(i:w.length<=8)(q:∀r b,H r=none->Same H b->Pls b r (a.map (plw w))->Q (.ref r) b):spWeighed K ([tx a, .ref p]++[]) H Q E:=⟨a,p,w,rfl,d,e,i,q⟩
inductive spCounted:Type
 |mk (k:Int) (a:List Nat) (_:vs=[.int k,tx a]) (_:1<=k) (_:k<=4) (_:a.length<=40) (_:∀r H',H r=none->Same H H'->Pls H' r (a.map (plw (ones k.toNat)))->Q (.ref r) H')
theorem D4{k:Int}(d:1<=k)(e:k<=4)(i:a.length<=40)(q:∀r b,H r=none->Same H b->Pls b r (a.map (plw (ones k.toNat)))->Q (.ref r) b):spCounted ([.int k,tx a]++[]) H Q E:=⟨k,a,rfl,d,e,i,q⟩
def top30:Int:=10^31
def Sm(l:List Int):Prop:=∀v∈l,0<=v/\v<=top30
theorem Sm.at{l:List Int}(h:Sm l)(b:Nat):0<=l.getD b 0/\l.getD b 0<=top30:=by
 rw[af]
 cases e:l[b]? with
 |none=>exact⟨by simp,by simp[top30]⟩
 |some v=>exact h v (bV e)
inductive spPair:Type
 |mk (p q:Addr) (x y:List Int) (k:Nat) (_:vs=[.ref p, .ref q]) (_:H p=some (iL x)) (_:H q=some (iL y)) (_:x.length=2*k) (_:y.length=2*k) (_:k<=4) (_:Sm x) (_:Sm y) (_:∀H',Same H H'->Q (.int (sm k λo=>x.getD (2*o) 0*y.getD (2*o+1) 0)) H')
theorem Ku{q:Addr}{x y:List Int}{k:Nat}(b:H p=some (iL x))(d:H q=some (iL y))(e:x.length=2*k)(i:y.length=2*k)(hk:k<=4)(j:Sm x)(z:Sm y)(r:∀a,Same H a->Q (.int (sm k λo=>x.getD (2*o) 0*y.getD (2*o+1) 0)) a):spPair ([.ref p, .ref q]++[]) H Q E:=⟨p,q,x,y,k,rfl,b,d,e,i,hk,j,z,r⟩
inductive spNoSums:Type
 |mk (n:Nat) (_:vs=[.int n]) (_:n<=40) (_:∀s ad H',Tb H H' s ad n (λ_ _=>0)->Q (.ref s) H')
theorem Jf(b:n<=40)(r:∀s d a,Tb H a s d n (λ_ _=>0)->Q (.ref s) a):spNoSums ([.int n]++[]) H Q E:=⟨n,rfl,b,r⟩
def tbl(P:Nat->Nat->Int)(k:Nat)(i j:Nat):Int:=if i<=j then cv P k (j-i) i []else 0
def LV:Sp:=λvs H Q _=>∃ (p:Addr) (a:List (List Int)) (k:Nat),vs=[.ref p]/\Pls H p a/\a.length<=40/\k<=4/\(∀l∈a,l.length=2*k/\Sm l)/\∀s d b,Tb H b s d a.length (tbl (PP a) k)->Q (.ref s) b
theorem D5{k:Nat}(b:Pls H p ps)(d:ps.length<=40)(e:k<=4)(i:∀l∈ps,l.length=2*k/\Sm l)(r:∀s j a,Tb H a s j ps.length (tbl (PP ps) k)->Q (.ref s) a):LV ([.ref p]++[]) H Q E:=⟨p,ps,k,rfl,b,d,e,i,r⟩
inductive spWholeSum:Type
 |mk (H0 s ad n T:_) (_:vs=[.ref s]) (_:Tb H0 H s ad n T) (_:Q (.int (T 0 n)) H)
theorem Dz{H0:Hp}{s:Addr}{T:Nat->Nat->Int}(h:Tb H0 H s ad n T)(q:Q (.int (T 0 n)) H):spWholeSum ([.ref s]++[]) H Q E:=⟨H0,s,ad,n,T,rfl,h,q⟩
def MW:Sp:=λvs H Q _=>∃ (k:Int) (a:List Nat),vs=[.int k,tx a]/\1<=k/\k<=4/\AQ k a=true/\∀b,Same H b->Q (.int (zQ2 k.toNat a)) b
theorem Gp{k:Int}(d:1<=k)(e:k<=4)(i:AQ k a=true)(q:∀b,Same H b->Q (.int (zQ2 k.toNat a)) b):MW ([.int k,tx a]++[]) H Q E:=⟨k,a,rfl,d,e,i,q⟩
theorem UM(k:Nat):Sm (ones k):=λv a=>by
 obtain rfl:=dY a;exact⟨by decide,by decide⟩
theorem Vt(h:Sm w)(c:Nat):Sm (plw w c):=by
 unfold plw
 split
 ·exact h
 ·intro v a;obtain⟨b,_,rfl⟩:=cg.mp a
  split<;>exact⟨by decide,by decide⟩
theorem CJ(h:∀l∈ps,Sm l)(i b:Nat):0<=PP ps i b/\PP ps i b<=top30:=by
 show 0<=(ps.getD i []).getD b 0/\(ps.getD i []).getD b 0<=top30
 cases e:ps[i]? with
 |none=>
  have q:ps.getD i []=[]:=by rw[af,e];rfl
  rw[q];exact⟨by simp,by simp[top30]⟩
 |some l=>
  have q:ps.getD i []=l:=by rw[af,e];rfl
  rw[q];exact(h l (bV e)).at b
theorem EB{y:Int}(h0:0<=x)(h:x<=y):∀n:Nat,0<=x^n/\x^n<=y^n
 |0=>by simp
 |n+1=>by
  obtain⟨a,b⟩:=EB h0 h n;rw[fE,fE];exact⟨be a h0,cq b h h0 (bM a b)⟩
theorem EX(a:1<=x){m:Nat}(h:m<=n):x^m<=x^n:=by
 induction n with
 |zero=>obtain rfl:m=0:=by lia
        exact cZ _
 |succ n b=>
  by_cases e:m=n+1
  ·subst e;exact cZ _
  ·have i:=b nA;have d:=(EB (x:=x) (y:=x) nA (cZ _) n).1;rw[fE];have:=cq (cZ (x^n)) a nv d;lia
def cap:Int:=(5*top30)^40
theorem Ff{k:Nat}(hk:k<=4)(h:∀l∈ps,Sm l)(d:n<=40)(i:Nat)(st:List Nat):0<=cv (PP ps) k n i st/\cv (PP ps) k n i st<=cap:=by
 obtain⟨a,b⟩:=FO (P:=PP ps) (k:=k) (c:=top30) nv (λi b=>(CJ h i b).1) (λi b=>(CJ h i b).2) n i st;refine⟨a,bM b ?_⟩;have e:(0:Int)<=((k:Int)+1)*top30:=be nA nv;have j:((k:Int)+1)*top30<=5*top30:=bF nA nv;refine bM (EB e j n).2 (EX nv d)
theorem Vs{k:Nat}(hk:k<=4)(h:∀l∈ps,Sm l)(i j:Nat):0<=pr (PP ps) k i j/\pr (PP ps) k i j<=4*(top30*top30):=by
 unfold pr;have a:∀p,0<=PP ps i (2*p)*PP ps j (2*p+1)/\PP ps i (2*p)*PP ps j (2*p+1)<=top30*top30:=λp=>
  ⟨be (CJ h _ _).1 (CJ h _ _).1,cq (CJ h _ _).2 (CJ h _ _).2 (CJ h _ _).1 nv⟩
 refine⟨D6 k λp _=>(a p).1,bM (FQ (g:=λ_=>top30*top30) k λp _=>(a p).2) ?_⟩;rw[FF];exact bF nA nv
theorem BA{i c:Int}(h0:0<=i)(h:i<=c)(a:c.natAbs<big):i.natAbs<big:=by
 refine de ?_ a;lia
theorem FX:cap.natAbs<big:=by unfold cap big top30;decide +kernel
theorem Ss:(4*(top30*top30)*cap).natAbs<big:=by unfold cap big top30;decide +kernel
theorem DJ:top30.natAbs<big:=by unfold big top30;decide +kernel
theorem Mc:(4*(top30*top30)).natAbs<big:=by unfold big top30;decide +kernel
theorem R1(n:Nat):(aS (n+1) [V.int 0]).flatten=rwl n λ_=>0:=by
 unfold rwl;have:∀m,(aS m [V.int 0]).flatten=(aw m).map λ_=>V.int 0:=by
  intro m
  induction m with
  |zero=>rfl
  |succ m a=>rw[jF,jS,a,bZ,bv];rfl
 exact this (n+1)
theorem Dg{xs:List α}{v:α}(h:0<xs.length)(e:xs[xs.length-1]? =some v):atI xs (-1)=some v:=by
 unfold atI ixN;rw[aB nA,aO nA];have:((-1:Int)+xs.length).toNat=xs.length-1:=by lia
 simp only[this,Option.bind];exact e
theorem R3(m:Nat):(aS (2*m) [V.int 1]).flatten=(ones m).map V.int:=by
 unfold ones;generalize 2*m=j
 induction j with
 |zero=>rfl
 |succ j a=>rw[bQ,cz,a,bQ];rfl
theorem int_at{l:List Int}(h:j<l.length):(l.map V.int)[j]? =some (.int (l.getD j 0)):=by
 rw[am,af,ai h];rfl
def part(P:Nat->Nat->Int)(k i q j:Nat):Int:=
 if j<=i then(if j=i then 1 else 0)else if(j-i)%2=1 then 0 else
  sm q λe=>if i+2+2*e<=j then pr P k i (i+1+2*e)*cv P k (2*e) (i+1) []*cv P k (j-(i+2+2*e)) (i+2+2*e) []else 0
section
variable{k q:Nat}
theorem Qj:part P k i 0 j=if j=i then 1 else 0:=by
 unfold part
 by_cases h:j<=i
 ·rw[aO h]
 ·rw[aB h,aB (show¬ (j=i) by lia)]
  split<;>rfl
theorem Kt(h:i<j/\(j-i)%2=1):part P k i q j=0:=by
 unfold part;rw[aB nA,aO h.2]
theorem Qk(h:j<i+2+2*q):part P k i (q+1) j=part P k i q j:=by
 unfold part
 by_cases a:j<=i
 ·rw[aO a,aO a]
 ·rw[aB a,aB a,sm,aB (show¬ (i+2+2*q<=j) by lia),mG]
theorem Ql{en:Nat}(a:en=i+1+2*q)(h:en+1<=j)(b:(j-i)%2=0):part P k i q j+pr P k i en*cv P k (2*q) (i+1) []*cv P k (j-(en+1)) (en+1) []=part P k i (q+1) j:=by
 subst a;unfold part;rw[aB nA,aB nA,aB nA,aB nA,sm,aO (show i+2+2*q<=j by lia),show i+1+2*q+1=i+2+2*q by lia]
theorem SN(x:j<=n):part P k i ((n-i)/2) j=tbl P k i j:=by
 unfold part tbl
 by_cases b:j<=i
 ·rw[aO b]
  by_cases a:j=i
  ·subst a;rw[aO rfl,aO (ao _),d3];rfl
  ·rw[aB a,aB nA]
 ·rw[aB b,aO (show i<=j by lia)]
  by_cases a:(j-i)%2=1
  ·rw[aO a,Dl _ _ _ (by simpa using a)]
  ·rw[aB a];obtain⟨m,o⟩:∃m,j-i=m+1:=⟨j-i-1,by lia⟩;rw[o,Uk];obtain⟨d,hd⟩:∃d,(n-i)/2=(m+1)/2+d:=⟨(n-i)/2-(m+1)/2,by lia⟩;rw[hd,Ld _ d λe r=>by rw[aB nA]];refine BK _ λe r=>?_;rw[aO nA,show j-(i+2+2*e)=m-2*e-1 by lia,show i+2+2*e=i+2*e+2 by lia]
end
theorem B9{k:Nat}(hk:k<=4):∀l∈a.map (plw (ones k)),l.length=2*k/\Sm l:=λl b=>by
 obtain⟨c,_,rfl⟩:=cg.mp b;exact⟨by rw[T4 (by rw[db];lia),db],Vt (UM k) c⟩
theorem Vj(n c:Nat):(aS n [c]).flatten=aS n c:=by
 induction n with
 |zero=>rfl
 |succ n a=>rw[bQ,cz,a];rfl
theorem Q6{k:Int}(h:n<=40):AQ k (aS n 63)=true:=by
 unfold AQ;rw[aQ];refine⟨ba (by rw[db];exact h),List.all_eq_true.mpr λc a=>?_⟩;rw[dY a];refine ba ?_;unfold sgn;exact aP _ (aV.mpr rfl)
theorem RG(a:List Int):(a.map V.int).all A4=true:=by
 rw[aT];intro v b;obtain⟨d,_,rfl⟩:=cg.mp b
 rfl
theorem T3(w:List Int):plw w 63=w:=by unfold plw;rw[aO rfl]
theorem Jx{w:List Nat}(h:w≠[]):∃i d,w=i++[d]:=⟨w.dropLast,w.getLast h,(List.dropLast_concat_getLast h).symm⟩
theorem LJ(i:List Nat)(d:Nat):atI (i++[d]) (-1)=some d:=Dg nC nC
theorem LB(i:List Nat)(d:Nat):Ap (i++[d]) none (some (-1))=i:=by
 unfold Ap;have a:HT.sIx (i++[d]).length (i++[d]).length (some (-1))=i.length:=by
  unfold HT.sIx;simp;lia
 rw[HT.sIx_none,a];simp
end BrS
open BrS
namespace L2
def Low(a:List Nat):Prop:=∀c∈a,c<16^8
theorem J0{β:Type}{F:α->β->Prop}:∀ {l:List α} {m:List β},l.length=m.length->(∀ (i:Nat) x u,l[i]? =some x->m[i]? =some u->F x u)->kf F l m
 |[],[],_,_=> .nil
 |[],_::_,h,_=>by simp at h
 |_::_,[],h,_=>by simp at h
 |a::l,b::m,h,d=> .cons (d 0 a b rfl rfl) (J0 (by simpa using h) λi x u e j=>d (i+1) x u (by simpa using e) (by simpa using j))
def rListS:List V->Hp->VK->Prop:=λb H Q=>∃a,b=[tx a]/\a.length<=1000/\∀l,H l=none->Q (.ref l) (upd H l (.lst ((a.map λc=>[c]).map tx)))
theorem Jm(K:W.Frag)(G:X.calm=true):CallR X (.type "list") rListS:=by
 intro pins s σ H U Y Q I r h;obtain⟨a,rfl,Z,q⟩:=h;obtain⟨u,rfl,J⟩:=vals1 r;obtain⟨t,rfl⟩:=J;refine PySem.call_list_str (I.ok.hd G) _ t (λh' L b M hk e it=>?_) (by rw[cj];show a.toArray.size<=_;rw[av];lia);obtain⟨j,y⟩:=it;have d:b.size=a.length:=by rw[j];simp
 have P:Vals ((a.map λc=>[c]).map tx) b.toList:=by
  refine J0 ?_ λi x u B R=>?_
  ·simp[d]
  ·have z:b[i]? =some u:=by simpa using R
   obtain⟨c,t',S,rfl⟩:=y i u z;have T:a[i]? =some c:=by simpa using S
   rw[d4,am,T]at B
   cases B
   exact⟨t',rfl⟩
 refine⟨.ref s.1.1.size,_,I.laid (t':=L) (o:= .lst ((a.map λc=>[c]).map tx)) hk (ao _) ⟨?_,b.toList,M,P,by simpa using e⟩,rfl,q _ (I.hok.fresh (ao _))⟩;rw[ax,ax,cj];lia
def Np:List TE->TA
 |[]=>tNil
 |t::ts=>CD t (Np ts)
end L2
namespace BrM
theorem Lf{Q:VK}(b:a.length<=1000)(q:∀l,H l=none->Q (.ref l) (upd H l (.lst ((a.map λc=>[c]).map tx)))):rListS [tx a] H Q:=⟨a,rfl,b,q⟩
def F4(a:List Nat):Prop:=Low a/\a.length<=1000
inductive Th (p:Addr) (H:Hp):V->Prop
 |txt (a:List Nat) (h:F4 a):Th p H (tx a)
 |non:Th p H .non
 |int (i:Int) (h:i=0\/i=7):Th p H (.int i)
 |bl (b:Bool):Th p H (.bl b)
 |lst {q:Addr} {l:List (List Nat)} (h:H q=some (.lst (l.map tx))) (n:q≠p) (f:∀a∈l,F4 a) (z:l.length<=1100):Th p H (.ref q)
 |tup {q:Addr} {l:List (List Nat)} (h:H q=some (.tup (l.map tx))) (n:q≠p) (f:∀a∈l,F4 a) (z:l.length<=1):Th p H (.ref q)
 |dc0 {q:Addr} (h:H q=some (.dK [])) (n:q≠p):Th p H (.ref q)
 |dc1 {q:Addr} {a:List Nat} (h:H q=some (.dK [(.inr ⟨a.toArray⟩, .int 1)])) (n:q≠p) (f:F4 a):Th p H (.ref q)
theorem all_cons{x:V}{l:List V}(a:Th p H x)(b:∀v∈l,Th p H v):∀v∈x::l,Th p H v:=λv d=>(aJ.mp d).elim (λe=>e▸a) (b v)
end BrM
namespace L2
variable{es:List Expr}{b:List Stmt}{ps:List Str}{apos:Pos}{f:Str}{t:TA}{tv:TE}{rd:V->V->Hp->VK->Prop}{Q:VK}{E:XK}{R:XR}
structure MeU (P:bK) (w:cX) (K:W.Frag) (mg:Str->Option ah) (base:Heap) (k:Nat) (C:Addr) (m:Str) (ps:List Str) (sp:Sp):Prop where
 ex:∃f fd,FnOk P w K mg base CX0 k f fd ps sp/\Meth K C m f/\Binds K fd ps []
structure MkU (P:bK) (w:cX) (K:W.Frag) (mg:Str->Option ah) (base:Heap) (k:Nat) (C:Addr) (ps:List Str) (sp:Sp):Prop where
 ex:∃j f fd,j+1<=k/\FnOk P w K mg base CX0 j f fd ps sp/\Mk K C f/\Binds K fd ps []
section
variable{k:Nat}{m:Str}{o value:Expr}{p pos pos':Pos}
theorem DP(c:Cls X.K C)(U:MeU X.prog X.w X.K X.mg X.base k C m ps sp)(d:Room k X.A)(i:PE X o ta)(j:PA X (e::es) t)
 (a:aL (e::es) X.env=(false,eval e X.env)::aL es X.env:=by rfl) (b:(dI pos (aL es X.env)).any (·.1)=false:=by rfl)
 (ht:eval (.Call (.Attribute o m apos) (e::es) [] pos) X.env=(do
   let ov<-eval o X.env
   gb apos.atName
   let(f,first)<-fV [ov] (ie ov m pl)
   li pos f first (dI pos (aL (e::es) X.env)) (iD pos (fk [] X.env))):=by rfl):
 PE X (.Call (.Attribute o m apos) (e::es) [] pos) (Ef C m sp [] E0 ta t):=
 let⟨_,_,F,q,r⟩:=U.ex;UC i c q F d r .nil El j a b ht
theorem UA(c:Cls X.K C)(U:MeU X.prog X.w X.K X.mg X.base k C m ps sp)(a:Room k X.A)(b:PE X o ta)
 (ht:eval (.Call (.Attribute o m apos) [] [] pos) X.env=(do
   let ov<-eval o X.env
   gb apos.atName
   let(f,first)<-fV [ov] (ie ov m pl)
   li pos f first (dI pos (aL [] X.env)) (iD pos (fk [] X.env))):=by rfl):
 PE X (.Call (.Attribute o m apos) [] [] pos) (Ef C m sp [] E0 ta tNil):=
 let⟨_,_,F,d,i⟩:=U.ex;SG b c d F a i .nil El ht
theorem Mh(U:MkU X.prog X.w X.K X.mg X.base k C ps sp)(d:Room k X.A)(i:X.mg x=some (.ref C))(j:PA X (e::es) t)(hg:Gl X x:=by rfl)(a:(x==("__debug__":Str))=false:=by decide)
 (q:aL (e::es) X.env=(false,eval e X.env)::aL es X.env:=by rfl) (b:(dI pos (aL es X.env)).any (·.1)=false:=by rfl):PE X (.Call (.Name x p) (e::es) [] pos) (Eg C sp [] E0 t):=
 let⟨_,_,_,hi,F,M,r⟩:=U.ex;UD M F (d.mono hi) hg i r .nil El j a q b
theorem Ab(K:W.Frag)(a:PE X e ta)(b:X.K=K:=by rfl)(d:d5 e f X.env (eval e X.env)=eval e X.env:=by rfl):PE X (.Attribute e f pos) (IZ K ta f):=by subst b;exact Vy a d
theorem Cf(K:W.Frag)(a:PE X o ta)(b:PE X value tv)(d:X.K=K:=by rfl)(i:gC value (some (.Attribute o f pos')) pos.line X.env=pure false:=by rfl):PS X (.Assign [.Attribute o f pos'] value pos) (Ie K ta tv f):=by subst d;exact Vo a b i
theorem P4(K:W.Frag){op:jz}(a:F3 X op rd)(b:PE X o ta)(d:PE X value tv)(i:X.K=K:=by rfl):PS X (.AugAssign (.Attribute o f tpos) op value pos) (HM K ta tv rd f):=by subst i;exact Qd b d a
def rAddA:V->V->Hp->VK->Prop:=λx y H Q=>rAdd x y H Q\/∃a b,x=tx a/\y=tx b/\a.length+b.length<=sizeLine/\Q (tx (a++b)) H
theorem L9:F3 X .Add rAddA:=by
 rintro pins s σ H x y u v Q I d i (h|⟨a,b,rfl,rfl,j,q⟩)
 ·exact WJ pins s σ H x y u v Q I d i h
 ·obtain⟨t,rfl⟩:=d;obtain⟨z,rfl⟩:=i;refine PyProof.Rows.iadd_str (λr B=>⟨tx (a++b),H,I.tok _,⟨r,?_⟩,q⟩) (by rw[BF,BF];exact j);congr 1;show(⟨a.toArray++b.toArray⟩:Str)=_;simp
end
section
variable{σ:zQ0}{m:Str}
theorem VI(h:ta σ H λx b=>∃a d fs,x= .ref a/\b a=some (.ins C d fs)/\fs.lookup m=none/\t σ b λvs e=>sp (x::(vs++[])) e Q E):Ef C m sp [] E ta t σ H Q:=h
theorem VJ(h:t σ H λvs b=>∀x a,b x=none->b a=none->a≠x->sp (.ref x::(vs++[])) (upd (upd b a (.own x)) x (.ins C a [])) (λv d=>v= .non/\Q (.ref x) d) E):Eg C sp [] E t σ H Q:=h
theorem VV(h:ta σ H λx b=>∃a C d fs v,x= .ref a/\b a=some (.ins C d fs)/\Cls K C/\NoAttr K C f/\fs.lookup f=some v/\Q v b):IZ K ta f σ H Q:=h
theorem VW(h:tv σ H λy e=>ta σ e λx b=>∃a C d fs,x= .ref a/\b a=some (.ins C d fs)/\Cls K C/\NoAttr K C f/\fs.length<1000/\D.nx σ (upd b a (.ins C d (Ar f y fs)))):Ie K ta tv f D σ H:=h
theorem VX(h:ta σ H λx e=>∃a C j fs v,x= .ref a/\e a=some (.ins C j fs)/\Cls K C/\NoAttr K C f/\fs.lookup f=some v/\tv σ e λy o=>rd v y o λz i=>∃d b,i a=some (.ins C d b)/\b.length<1000/\D.nx σ (upd i a (.ins C d (Ar f z b)))):HM K ta tv rd f D σ H:=h
end
structure Cs where
 RowError:Addr
 NoKinds:Addr
 NoLine:Addr
 NotRight:Addr
 NoTree:Addr
 NoNumber:Addr
 NoWeights:Addr
 NoPlace:Addr
 NoFilling:Addr
 TooMany:Addr
 NoName:Addr
 NoRow:Addr
def Fq(K:W.Frag)(C:Addr):Bool:=W.excIn K C FZ "ValueError.__new__"&&(W.typeIn K (.ref C)==some (.type "type"))&&(W.clsIn K C).isSome&&(W.mroIn K C (.type "BaseException")==some true)&&
 (W.mroIn K C (.type "object")==some true)&&(W.findIn K (.ref C) "__getattribute__"==some (some (.builtin "BaseException.__getattribute__")))&&(W.findIn K (.ref C) "__getattr__"==some none)&&
 (W.findIn K (.ref C) "__class__"==some (some (.builtin "object.__class__")))&&(W.specialIn K (.builtin "object.__class__") "__get__"==some (some (.builtin "getset_descriptor.__get__")))&&(W.takesIn K (.builtin "object.__class__")==some true)
theorem Ui(h:Fq K C=true):ECls K C:=by
 unfold Fq at h;simp only[aQ,bE]at h;obtain⟨⟨⟨⟨⟨⟨⟨⟨⟨b,d⟩,e⟩,i⟩,j⟩,o⟩,q⟩,r⟩,x⟩,a⟩:=h;exact⟨b,d,il.mp e,i,j,o,q,r,x,a⟩
theorem Bg{pos:Pos}(h:X.mg x=some (.ref C))(hg:Gl X x:=by rfl)(hd:(x==("__debug__":Str))=false:=by decide):PE X (.Name x pos) (tC (.ref C)):=Ai (v:= .ref C) ⟨_,h,rfl⟩ hg hd
theorem OY:eJ "ValueError"=some (.type "ValueError"):=by decide +kernel
def rNo:XR:=λ_ _ _ _=>False
theorem Bp(e:ah)(s':ak)(h:XF X rNo e s'):X.xe e s':=by
 obtain⟨_,_,_,_,_,_,_,_,_,_,_,_,_,_,_,_,_,_,r⟩:=h;exact r.elim
theorem B6{R:TS->Prop}(h:∃t,PSs X.nox b t/\R t):∃t,PSs X b t/\R t:=let⟨t,p,r⟩:=h;⟨t,p.nox,r⟩
theorem PS.nox{st:Stmt}{t:TS}(h:PS X.nox st t):PS X st t:=λpins s σ H D I a=>
 aZ (h pins s σ H D (I.wish _) a) (λ_ _ q=>q.unwish) λ_ _ z=>bz z
section
variable{σ:zQ0}
theorem Tj(h:t σ H λvs a=>sp vs a Q (xk R σ)):MU sp R t σ H Q:=h
theorem TK(h:t σ H λvs a=>vs.length<=sizeLine/\∀y,a y=none->R C y σ a):MQ C R t D σ H:=h
theorem Wi{CR:Addr}{tb:XR->TS}{ts:TS}
 (h:tb (λC x σ' a=>W.mroIn K C (.ref CR)=some true/\∀ob,ts (FU i D) (σ'.set i (some (.ref x))) (upd a x (BE ob x C))) D σ H):Nc K i CR tb ts D σ H:=h
end
def Ref(E:XK)(C:Addr)(H:Hp):Prop:=∀y a,Same H a->H y=none->E (.ref C) (some y) a
theorem Ref.pass{σ:zQ0}(r:Ref E C H)(s:Same H H1):Ref (xk (rOf E) σ) C H1:=λy a b h=>⟨C,y,rfl,rfl,r y a (s.trans b) (s.free h)⟩
theorem Kn{y:Addr}{o:HO}(s:Same H H')(n:H y=none):Same H (upd H' y o):=λb u z=>by rw[AI (AS z n)];exact s b u z
theorem Ma{σ:zQ0}(h:∀y a,Same H a->H y=none->R C y σ a):Ref (xk R σ) C H:=λy a s n=>⟨C,y,rfl,rfl,h y a s n⟩
def NoN(K:W.Frag)(lo hi:Int)(H:Hp)(v:V):Prop:=∃ty,TyOf K H v (.type ty)/\ty∈CB/\∀i,v= .int i->i<lo\/hi<i
abbrev NoK(K:W.Frag):Hp->V->Prop:=NoN K 1 4
def NoL(K:W.Frag)(k:Int)(H:Hp)(v:V):Prop:=(∃a,v=tx a/\a.length<=1000/\AQ k a=false)\/∃ty,TyOf K H v (.type ty)/\ty∈CB/\ty≠"str"
theorem TyOf.same{v:V}{t:ah}(h:TyOf K H v t)(s:Same H H'):TyOf K H' v t:=by
 cases h with
 |non=>exact .non
 |bl x=>exact .bl x
 |int i=>exact .int i
 |str x=>exact .str x
 |flt x=>exact .flt x
 |lst e=>exact .lst (s _ _ e)
 |frz e=>exact .frz (s _ _ e)
 |tup e=>exact .tup (s _ _ e)
 |dK e=>exact .dK (s _ _ e)
 |dT e=>exact .dT (s _ _ e)
 |ins e cl b d a j=>exact .ins (s _ _ e) cl b d a j
theorem TyOf.int_of{v:V}{t:ah}(h:TyOf K H v t)(e:t= .type "int"):∃i,v= .int i:=by
 cases h<;>first|exact⟨_,rfl⟩|(injection e with e;exact absurd e nv)|cases e
theorem NoN.same{hi:Int}{v:V}(h:NoN K lo hi H v)(s:Same H H'):NoN K lo hi H' v:=let⟨ty,a,b⟩:=h;⟨ty,a.same s,b⟩
theorem NoL.same{k:Int}{v:V}(h:NoL K k H v)(s:Same H H'):NoL K k H' v:=h.elim .inl λ⟨ty,a,b⟩=> .inr ⟨ty,a.same s,b⟩
def Gate(K:W.Frag)(cs:Cs)(H:Hp)(E:XK)(a v:V):Prop:=(NoK K H a/\Ref E cs.NoKinds H)\/∃k:Int,a= .int k/\1<=k/\k<=4/\NoL K k H v/\Ref E cs.NoLine H
theorem Gate.pass{cs:Cs}{kv v:V}{σ:zQ0}(g:Gate K cs H E kv v)(s:Same H H1):Gate K cs H1 (xk (rOf E) σ) kv v:=
 g.elim (λ⟨a,r⟩=> .inl ⟨a.same s,r.pass s⟩) λ⟨k,e,b,d,a,r⟩=> .inr ⟨k,e,b,d,a.same s,r.pass s⟩
def Rq(K:W.Frag)(cs:Cs):Sp:=λvs H Q E=>spKinds vs H Q E\/∃v,vs=[v]/\NoK K H v/\Ref E cs.NoKinds H
def LY(K:W.Frag)(cs:Cs):Sp:=λvs H Q E=>spLine K vs H Q E\/∃a v,vs=[a,v]/\NoK K H a/\Ref E cs.NoKinds H
def HG(K:W.Frag)(cs:Cs)(sp:Sp):Sp:=λvs H Q E=>sp vs H Q E\/∃a v,vs=[a,v]/\Gate K cs H E a v
theorem QG{cs:Cs}{k:Int}{v:V}(e:1<=k)(i:k<=4)(n:NoL K k H v)(q:∀d,Same H d->Q (.bl false) d):LY K cs [.int k,v] H Q E:=by
 refine .inl ⟨k,v,rfl,e,i,?_⟩;rcases n with⟨a,rfl,ha,hr⟩|⟨ty,a,b,c⟩
 ·exact .inl ⟨a,rfl,ha,λd s=>by rw[hr];exact q d s⟩
 ·exact .inr ⟨ty,a,b,c,q H (Same.refl H)⟩
structure MeUE (P:bK) (w:cX) (K:W.Frag) (mg:Str->Option ah) (base:Heap) (k:Nat) (C:Addr) (m:Str) (ps:List Str) (sp:Sp):Prop where
 ex:∃f fd,FnOk P w K mg base (CXE P w) k f fd ps sp/\Meth K C m f/\Binds K fd ps []
def MR(C:Addr)(m:Str)(sp:Sp)(R:XR)(d:TE)(t:TA):TE:=λσ H Q=>d σ H λx b=>∃a e fs,x= .ref a/\b a=some (.ins C e fs)/\fs.lookup m=none/\t σ b λvs i=>sp (x::vs) i Q (xk R σ)
section
variable{k:Nat}{f:Addr}{m:Str}{p pos:Pos}{o:Expr}
theorem Tr{σ:zQ0}{s:ak}(F:FnOk X.prog X.w X.K X.mg X.base (CXE X.prog X.w) k f fd ps sp)(d:Room k X.A)(i:Binds X.K fd ps [])(j:∀e b,XF X R e b->X.xe e b)
 (I:Inv X pins σ H s) (r:Vals vs us) (h:sp vs H Q (xk R σ)):aH (aR X.prog X.w) X.A (call (.ref f) us) (EP X pins σ Q) X.xe s:=by
 have q:us.length=ps.length:=by rw[<-r.length];exact F.len _ _ _ _ h
 refine fu (dj (F.run X.A X.stack s H ⟨us,[]⟩ us vs Q (xk R σ) d I.env0 ?_ r h) λres b a=>?_)
 ·have z:=i s us I.kIn (by rw[cG];exact q);rw[cG]at z;exact z
 ·cases res with
  |error y=>exact j _ _ ⟨pins,σ,H,s,I,a⟩
  |ok fl=>
   cases fl with
   |ret u=>exact I.after a
   |next=>exact bz a
   |brk=>exact bz a
   |cont=>exact bz a
theorem T9(c:Cls X.K C)(U:MeUE X.prog X.w X.K X.mg X.base k C m ps sp)(B:Room k X.A)(G:∀e i,XF X R e i->X.xe e i)(J:PE X o ta)(L:PA X (e::es) t)
 (b:aL (e::es) X.env=(false,eval e X.env)::aL es X.env:=by rfl) (d:(dI pos (aL es X.env)).any (·.1)=false:=by rfl)
 (ht:eval (.Call (.Attribute o m apos) (e::es) [] pos) X.env=(do
   let ov<-eval o X.env
   gb apos.atName
   let(f,first)<-fV [ov] (ie ov m pl)
   li pos f first (dI pos (aL (e::es) X.env)) (iD pos (fk [] X.env))):=by rfl):
 PE X (.Call (.Attribute o m apos) (e::es) [] pos) (MR C m sp R ta t):=by
 obtain⟨f,fd,F,j,M⟩:=U.ex;intro pins s σ H Q I h;refine W.methodCall_KW (pl:=pl) (thn (J pins s σ H _ I h) λu P ⟨x,S,y,T,a,dx,fs,ex,Y,l,q⟩=>?_) ht;subst ex;obtain rfl:u=aj a:=T;refine GG y Y c j l ?_;refine W.callWith_K (first:=[.ref a]) (h₀:=X.base) I.ok.mod.kin j.kp (thn (L pos pins P σ S _ y q) λus s2 ⟨vs,H2,z,r,Z⟩=>⟨z.kIn,?_⟩) b d;exact Tr (us:= .ref a::us) (vs:= .ref a::vs) F B M G z (.cons rfl r) Z
end
section
variable{σ:zQ0}{m:Str}
theorem TR(h:ta σ H λx b=>∃a d fs,x= .ref a/\b a=some (.ins C d fs)/\fs.lookup m=none/\t σ b λvs e=>sp (x::vs) e Q (xk R σ)):MR C m sp R ta t σ H Q:=h
end
end L2
namespace PySem
open PySem.Sem (wp)
variable{S:Nat->Heap->Prop}{P:Nat->ah->Prop}{Q:Option ah->ak->Prop}
structure ZAp (z TI TO i1 i2:Addr) (fp1 fp2:List Addr):Prop where
 TIz:TI≠z
 TOz:TO≠z
 TITO:TI≠TO
 TIi1:TI≠i1
 TIi2:TI≠i2
 z1:z∉fp1
 z2:z∉fp2
 o1:TO∉fp1
 o2:TO∉fp2
 a12:i1∉fp2
 a21:i2∉fp1
 m1:i1∈fp1
 m2:i2∈fp2
section
variable{s:ak}
variable{z TI TO i1 i2:Addr}{fp1 fp2:List Addr}{n1 n2:Nat}{P1 P2:Nat->ah->Prop}{S1 S2:Nat->Heap->Prop}{a b:ah}
theorem ZAp.i1z(D:ZAp z TI TO i1 i2 fp1 fp2):i1≠z:=λe=>D.z1 (e▸D.m1)
theorem ZAp.i2z(D:ZAp z TI TO i1 i2 fp1 fp2):i2≠z:=λe=>D.z2 (e▸D.m2)
theorem ZAp.i1o(D:ZAp z TI TO i1 i2 fp1 fp2):i1≠TO:=λe=>D.o1 (e▸D.m1)
theorem ZAp.i2o(D:ZAp z TI TO i1 i2 fp1 fp2):i2≠TO:=λe=>D.o2 (e▸D.m2)
theorem Draws.but{it c:Addr}{fp:List Addr}{h:Heap}(D:jt prog w A it fp n P S)(st:S i h)(k:jX c h h')(d:c∉fp):S i h':=D.frame _ _ _ st λx j o e=>k x o (λq=>d (q▸j)) e
theorem OZ{Q:ah->ak->Prop}(D:ZAp z TI TO i1 i2 fp1 fp2)(D1:jt prog w A i1 fp1 n1 P1 S1)(D2:jt prog w A i2 fp2 n2 P2 S2)
 (hz:i3 s.heap z TI TO .none) (hTI:dZ s.heap TI (.ref i1) (.ref i2)) (hTO:dZ s.heap TO a b) (h1:S1 i s.heap) (h2:S2 i s.heap) (l1:i<n1) (l2:i<n2)
 (hQ:∀x y Z tk,P1 i x->P2 i y->i3 Z z TI TO (d2 s.1.1.size)->dZ Z TO x y->S1 (i+1) Z->S2 (i+1) Z->dZ Z s.1.1.size x y->Z.objs.size=s.1.1.size+1->
   (∀c o,c≠z->c≠TO->c≠i1->c≠i2->s.heap.get? c=some o->Z.get? c=some o)->Q (.ref s.1.1.size) {s with heap:=Z,toks:=tk}):
 aH (aR prog w) A (fc.«zip.__next__» ⟨[.ref z],[]⟩) (λfin s'=>∃v,fin= .done (.ret v)/\Q v s') E s:=by
 obtain⟨hp,g,d,tk₀,os⟩:=s;show aH _ _ (mM (.ref z) 2>>=_) _ _ _;refine ac (dr hz rfl (x:= .bool false) rfl ?_);show aH _ _ (mM (.ref z) 3>>=_) _ _ _;refine ac (dr hz rfl (x:= .ref TI) rfl ?_);refine ac (c9 hTI rfl ?_);show aH _ _ (cK (.ref z)>>=_) _ _ _;refine ac ?_;unfold cK;refine ac (dr hz rfl (x:= .none) rfl (ag ?_));simp only[fJ];refine ac (eS ?_);refine ac (dr hz rfl (x:= .ref TO) rfl ?_);refine ac (dG hz nC λh₁ R j=>?_)
 replace R:i3 h₁ z TI TO .ellipsis:=R
 replace j:bu z hp h₁:=j
 refine ac ?_;simp only[lb,lF,dX,jM];refine ac (ac (ix ?_));show aH _ _ (bR (.ref i1)>>=_) _ _ _;refine ac (D1.item i _ _ _ l1 (D1.but h1 j.extBut D.z1) λx h₂ tk₂ hx h1₂ r=>ag ?_)
 replace r:bu i1 h₁ h₂:=r
 have T:dZ h₂ TO a b:=r.extBut _ _ D.i1o.symm (j.extBut _ _ D.TOz hTO);refine ac (c9 T rfl ?_);refine ac (gj T λh₃ M B=>?_)
 replace M:dZ h₃ TO x b:=M
 replace B:bu TO h₂ h₃:=B
 refine ac (lu (ag ?_));refine ac (ac (ix ?_));show aH _ _ (bR (.ref i2)>>=_) _ _ _;refine ac (D2.item i _ _ _ l2 (D2.but (D2.but (D2.but h2 j.extBut D.z2) r.extBut D.a12) B.extBut D.o2) λy h₄ tk₄ hy h2₄ G=>ag ?_)
 replace G:bu i2 h₃ h₄:=G
 have U:dZ h₄ TO x b:=G.extBut _ _ D.i2o.symm M;refine ac (c9 U rfl ?_);refine ac (gj U λh₅ I H=>?_)
 replace I:dZ h₅ TO x y:=I
 replace H:bu TO h₄ h₅:=H
 refine ac (lu (ag (ag ?_)));refine ac (c9 I rfl ?_);refine ac (wpAny_newTuple ?_);have hsz:h₅.objs.size=hp.objs.size:=by rw[H.1,G.1,B.1,r.1,j.1]
 have X:i3 h₅ z TI TO .ellipsis:=H.extBut _ _ D.TOz.symm (G.extBut _ _ D.i2z.symm (B.extBut _ _ D.TOz.symm (r.extBut _ _ D.i1z.symm R)));have hk₅:∀c o,c≠z->c≠TO->c≠i1->c≠i2->hp.get? c=some o->h₅.get? c=some o:=λc o c1 c2 c3 c4 e=>
  H.extBut _ _ c2 (G.extBut _ _ c4 (B.extBut _ _ c2 (r.extBut _ _ c3 (j.extBut _ _ c1 e))))
 have h1₅:S1 (i+1) h₅:=D1.but (D1.but (D1.but h1₂ B.extBut D.o1) G.extBut D.a21) H.extBut D.o1;have h2₅:S2 (i+1) h₅:=D2.but h2₄ H.extBut D.o2;have hzlt:z<h₅.objs.size:=au X;show aH _ _ (fg (.ref z) (.ref h₅.objs.size)>>=_) _ _ _;refine ac ?_;unfold fg;have hz₆:i3 (h₅.push {cls:= .type "tuple",data:= .seq #[x,y]}) z TI TO .ellipsis:=ae _ X;refine ac (dG hz₆ nC λh₇ S J=>?_)
 replace S:i3 h₇ z TI TO (d2 h₅.objs.size):=S
 replace J:bu z (h₅.push {cls:= .type "tuple",data:= .seq #[x,y]}) h₇:=J
 refine dG S nC λh₈ P L=>?_
 replace P:i3 h₈ z TI TO (d2 h₅.objs.size):=P
 replace L:bu z h₇ h₈:=L
 have up:∀c o,c≠z->h₅.get? c=some o->h₈.get? c=some o:=λc o c1 e=>L.extBut _ _ c1 (J.extBut _ _ c1 (ae _ e));have Y:dZ h₈ h₅.objs.size x y:=L.extBut _ _ (eL hzlt) (J.extBut _ _ (eL hzlt) (ap _ rfl));have hz8:h₈.objs.size=h₅.objs.size+1:=by rw[L.1,J.1,bB]
 rw[hsz]at P Y hz8;refine ag ⟨_,rfl,?_⟩;show Q (.ref h₅.objs.size) _;rw[hsz];exact hQ x y h₈ _ hx hy P (up _ _ D.TOz I) (D1.frame _ _ _ h1₅ λc hc o e=>up c o (λq=>D.z1 (q▸hc)) e) (D2.frame _ _ _ h2₅ λc hc o e=>up c o (λq=>D.z2 (q▸hc)) e) Y hz8 λc o c1 c2 c3 c4 e=>up c o c1 (hk₅ c o c1 c2 c3 c4 e)
theorem Oi{Q:Fin->ak->Prop}(D:ZAp z TI TO i1 i2 fp1 fp2)(U:jt prog w A i1 fp1 n1 P1 S1)(X:jt prog w A i2 fp2 n2 P2 S2)
 (R:i3 s.heap z TI TO .none) (Z:dZ s.heap TI (.ref i1) (.ref i2)) (hTO:dZ s.heap TO a b) (h1:S1 i s.heap) (h2:S2 i s.heap) (S:i=n1\/(i<n1/\i=n2))
 (hE:∀h' tk e,(∀c o,c≠z->c≠TO->c≠i1->c≠i2->s.heap.get? c=some o->h'.get? c=some o)->(∃o,h'.get? e=some o/\o.cls= .type "StopIteration")->E (.ref e) {s with heap:=h',toks:=tk}):
 aH (aR prog w) A (fc.«zip.__next__» ⟨[.ref z],[]⟩) Q E s:=by
 obtain⟨hp,g,d,tk₀,os⟩:=s;show aH _ _ (mM (.ref z) 2>>=_) _ _ _;refine ac (dr R rfl (x:= .bool false) rfl ?_);show aH _ _ (mM (.ref z) 3>>=_) _ _ _;refine ac (dr R rfl (x:= .ref TI) rfl ?_);refine ac (c9 Z rfl ?_);show aH _ _ (cK (.ref z)>>=_) _ _ _;refine ac ?_;unfold cK;refine ac (dr R rfl (x:= .none) rfl (ag ?_));simp only[fJ];refine ac (eS ?_);refine ac (dr R rfl (x:= .ref TO) rfl ?_);refine ac (dG R nC λh₁ y r=>?_)
 replace y:i3 h₁ z TI TO .ellipsis:=y
 replace r:bu z hp h₁:=r
 refine ac ?_;simp only[lb,lF,dX,jM];refine ac (ac (ix ?_));show aH _ _ (bR (.ref i1)>>=_) _ _ _;rcases S with rfl|⟨l1,rfl⟩
 ·refine ac (U.done _ _ _ (U.but h1 r.extBut D.z1) λh₂ e j he=>?_)
  replace j:jX i1 h₁ h₂:=j
  obtain⟨oe,H,J⟩:=he;have L:i3 h₂ z TI TO .ellipsis:=j _ _ D.i1z.symm y;have P:e≠z:=λx=>by subst x;rw[L]at H;cases H;simp at J
  refine dG L nC λh₃ _ q=>?_
  replace q:bu z h₂ h₃:=q
  exact hE h₃ _ e (λc o T _ c3 _ x=>q.extBut _ _ T (j _ _ c3 (r.extBut _ _ T x))) ⟨oe,q.extBut _ _ P H,J⟩
 ·refine ac (U.item i _ _ _ l1 (U.but h1 r.extBut D.z1) λx h₂ tk₂ hx h1₂ j=>ag ?_)
  replace j:bu i1 h₁ h₂:=j
  have I:dZ h₂ TO a b:=j.extBut _ _ D.i1o.symm (r.extBut _ _ D.TOz hTO);refine ac (c9 I rfl ?_);refine ac (gj I λh₃ Y q=>?_)
  replace q:bu TO h₂ h₃:=q
  refine ac (lu (ag ?_));refine ac (ac (ix ?_));show aH _ _ (bR (.ref i2)>>=_) _ _ _;refine ac (X.done _ _ _ (X.but (X.but (X.but h2 r.extBut D.z2) j.extBut D.a12) q.extBut D.o2) λh₄ e B he=>?_)
  replace B:jX i2 h₃ h₄:=B
  obtain⟨oe,H,J⟩:=he;have M:i3 h₄ z TI TO .ellipsis:=B _ _ D.i2z.symm (q.extBut _ _ D.TOz.symm (j.extBut _ _ D.i1z.symm y));have P:e≠z:=λx=>by subst x;rw[M]at H;cases H;simp at J
  refine dG M nC λh₅ _ G=>?_
  replace G:bu z h₄ h₅:=G
  exact hE h₅ _ e (λc o T c2 c3 c4 x=>G.extBut _ _ T (B _ _ c4 (q.extBut _ _ c2 (j.extBut _ _ c3 (r.extBut _ _ T x))))) ⟨oe,G.extBut _ _ P H,J⟩
set_option tactic.hygienic true in
theorem O6(D:ZAp z TI TO i1 i2 fp1 fp2)(G:jt prog w A.in1 i1 fp1 n1 P1 S1)(H:jt prog w A.in1 i2 fp2 n2 P2 S2)
 (r:i3 s.heap z TI TO .none) (e:dZ s.heap TI (.ref i1) (.ref i2)) (j:dZ s.heap TO a b) (I:S1 i s.heap) (J:S2 i s.heap) (L:i<n1) (M:i<n2)
 (P:∀x y d q,P1 i x->P2 i y->i3 d z TI TO (d2 s.1.1.size)->dZ d TO x y->S1 (i+1) d->S2 (i+1) d->dZ d s.1.1.size x y->d.objs.size=s.1.1.size+1->
   (∀c o,c≠z->c≠TO->c≠i1->c≠i2->s.heap.get? c=some o->d.get? c=some o)->Q (some (.ref s.1.1.size)) {s with heap:=d,toks:=q}):
 aH (aR prog w) A (fv (.ref z)) Q E s:=by
 have B:s.TypeIs (.ref z) "zip":=⟨_,r,rfl⟩;unfold fv;exact ac (fI (cN (name:=f7 "__next__") B F.slot_zip_next
  (df F.slot_zip_next B F.entry_zip_next
    (OZ D G H r e j I J L M λx y d q R S T U X Y Z a6 a7=>ag (P x y d q R S T U X Y Z a6 a7)) (F.args_zip_next_1 _))))
set_option tactic.hygienic true in
theorem OU(D:ZAp z TI TO i1 i2 fp1 fp2)(G:jt prog w A.in1 i1 fp1 n1 P1 S1)(H:jt prog w A.in1 i2 fp2 n2 P2 S2)
 (x:i3 s.heap z TI TO .none) (j:dZ s.heap TI (.ref i1) (.ref i2)) (q:dZ s.heap TO a b) (I:S1 i s.heap) (J:S2 i s.heap) (d:i=n1\/(i<n1/\i=n2))
 (L:∀r y,(∀c o,c≠z->c≠TO->c≠i1->c≠i2->s.heap.get? c=some o->r.get? c=some o)->Q none {s with heap:=r,toks:=y}):aH (aR prog w) A (fv (.ref z)) Q E s:=by
 have B:s.TypeIs (.ref z) "zip":=⟨_,x,rfl⟩;unfold fv;refine ac (fI (cN (name:=f7 "__next__") B F.slot_zip_next
  (df F.slot_zip_next B F.entry_zip_next (Oi D G H x j q I J d λr y e hk M=>?_) (F.args_zip_next_1 _))))
 obtain⟨o,P,R⟩:=M;refine ac (iM (T:="StopIteration") (b:=true) ⟨o,P,R⟩ isSubtype_stop ?_);exact ag (L _ _ hk)
end
abbrev sit(x:Str)(t:Tok):Obj:={cls:= .type (fi x),data:= .fields #[.str x t, .int 0 0]}
end PySem
namespace L2
variable{tn:Heap->Prop}
section
variable{k:Nat}
theorem RY{σ:zQ0}{s:ak}{z TI TO i1 i2:Addr}{fp1 fp2:List Addr}{n1 n2:Nat}{P1 P2:Nat->ah->Prop}{S1 S2:Nat->Heap->Prop}{a b:ah}{Qx Qy:ah->V->Prop}
 (D:ZAp z TI TO i1 i2 fp1 fp2) (U:jt X.prog X.w X.A.in1 i1 fp1 n1 P1 S1) (Y:jt X.prog X.w X.A.in1 i2 fp2 n2 P2 S2) (I:Inv X pins σ H s) (hf:∀b∈[z,TI,TO,i1,i2],BQ X pins H b)
 (hz:i3 s.heap z TI TO .none) (B:dZ s.heap TI (.ref i1) (.ref i2)) (M:dZ s.heap TO a b) (h1:S1 i s.heap) (h2:S2 i s.heap) (l1:i<n1) (l2:i<n2)
 (Z:∀L x y,i3 L z TI TO .none->dZ L TI (.ref i1) (.ref i2)->dZ L TO x y->S1 (i+1) L->S2 (i+1) L->tn L) (y1:∀v,P1 i v->∃q,RelV q v/\Qx v q) (y2:∀v,P2 i v->∃q,RelV q v/\Qy v q):
 aH (aR X.prog X.w) X.A (fv (.ref z)) (λr s1=>∃u,r=some u/\aH (aR X.prog X.w) X.A (cO (.Tuple elts k tpos) (.ref z) u) (λ_ s2=>∃x H',Inv X pins σ H' s2/\RelV x u/\
  (∃T G J v1 v2,H T=none/\Qx v1 G/\Qy v2 J/\x= .ref T/\H'=upd H T (.tup [G,J]))/\tn s2.heap/\∀b∈[z,TI,TO,i1,i2],H' b=none) E s1) E s:=by
 refine O6 D U Y hz B M h1 h2 l1 l2 λx y Q tk p1 p2 a1 a2 a3 a4 a5 a6 a7=>⟨_,rfl,wpAny_letOwnedTupleGo_zip a1 λh2' hz2 d=>?_⟩
 replace d:bu z Q h2':=d
 obtain⟨G,r1,e1⟩:=y1 x p1;obtain⟨J,r2,e2⟩:=y2 y p2;have R:z<s.1.1.size:=au hz;have hT2:h2'.get? s.1.1.size=some {cls:= .type "tuple",data:= .seq #[x,y]}:=(d.2 _ (eL R)).trans a5;have ob:ObjOk X.prog X.w (upd H s.1.1.size (.tup [G,J])) h2' s.1.1.size (.tup [G,J]):=⟨(by show 2<=sizeLine;decide),[x,y], .cons r1 (.cons r2 .nil),⟨_,hT2,rfl,_,rfl⟩⟩;have I2:Inv X pins σ (upd H s.1.1.size (.tup [G,J])) {s with heap:=h2',toks:=tk}:=I.turnedLaid hf (λb u j q=>(d.2 b (λz=>j (by simp[z]))).trans (a7 b u (λz=>j (by simp[z])) (λz=>j (by simp[z])) (λz=>j (by simp[z])) (λz=>j (by simp[z])) q)) (ao _) ob;have up:∀c o,c≠z->Q.get? c=some o->h2'.get? c=some o:=λc o S e=>(d.2 c S).trans e;refine⟨.ref s.1.1.size,_,I2,rfl,⟨s.1.1.size,G,J,x,y,I.hok.fresh (ao _),e1,e2,rfl,rfl⟩,Z h2' x y hz2 (up _ _ D.TIz (a7 _ _ D.TIz D.TITO D.TIi1 D.TIi2 B)) (up _ _ D.TOz a2) (U.frame _ _ _ a3 λc S o e=>up c o (λq=>D.z1 (q▸S)) e) (Y.frame _ _ _ a4 λc S o e=>up c o (λq=>D.z2 (q▸S)) e),λb j=>?_⟩;have hlt:b<s.1.1.size:=by
  simp only[aJ,dE,j4]at j;rcases j with e|e|e|e|e
  ·rw[e];exact R
  ·rw[e];exact au B
  ·rw[e];exact au M
  ·rw[e];obtain⟨_,q⟩:=U.live _ _ h1;exact au q
  ·rw[e];obtain⟨_,q⟩:=Y.live _ _ h2;exact au q
 rw[AI (aN hlt)];exact(hf b j).1
end
theorem WU(it:Addr)(x:Str)(t:Tok):∀A:eR,A.handled=none->jt P w A it [it] x.cps.size (λi v=>∃c u,x.cps[i]? =some c/\v= .str ⟨#[c]⟩ u) (λi h=>h.IsStrIter it (fi x) x t i):=λA a=>by
 cases b:x.cps.all (· <128)
 ·have e:fi x="str_iterator":=by simp[fi,b]
  rw[e];exact mm a _ x t
 ·have e:fi x="str_ascii_iterator":=by simp[fi,b]
  rw[e];exact lS a _ x t
section
variable{a b:Expr}{ta:TA}{p pos:Pos}{k:Nat}
theorem WL{σ:zQ0}{s:ak}(I:Inv X pins σ H s):∀b∈[s.1.1.size+4,s.1.1.size+2,s.1.1.size+3,s.1.1.size,s.1.1.size+1],BQ X pins H b:=λb d=>by
 have:s.1.1.size<=b:=by
  simp only[aJ,dE,j4]at d;rcases d with e|e|e|e|e<;>lia
 exact I.fpOk this (I.hok.fresh this)
theorem Xb(n:Nat):ZAp (n+4) (n+2) (n+3) n (n+1) [n] [n+1]:=by
 constructor<;>simp<;>lia
end
end L2
namespace PySem
open PySem.Sem (wp)
variable{j:Addr}
abbrev lit(l:Addr):Obj:={cls:= .type "list_iterator",data:= .fields #[.ref l, .int 0 0]}
open PySem.Sem (wp)
section
variable{s:ak}
set_option tactic.hygienic true in
theorem V6{u:Addr}{zs}{y:ah}(b:s.heap.IsTupleIter j u n)(e:s.heap.IsTuple u zs)(i:zs[n]? =some y)
 (r:∀d,d.IsTupleIter j u (n+1)->bu j s.heap d->Q y {s with heap:=d}):aH (aR prog w) A (bR (.ref j)) Q E s:=by
 obtain⟨o,a,z,hd⟩:=id b;obtain⟨q,B,_,m,G⟩:=e;unfold bR;refine ac (cN (name:=f7 "__next__") b.typeIs F.slot_tuple_iterator_next (df F.slot_tuple_iterator_next b.typeIs F.entry_tuple_iterator_next ?_ (F.args_tuple_iterator_next_1 _)));show aH _ _ (mM (.ref j) 0>>=_) _ _ s;refine ac (dr a hd (x:= .ref u) rfl ?_);show aH _ _ (if(aj u==dc)=true then _ else _) _ _ s;rw[aB (show¬ ((aj u==dc)=true)from aq)];show aH _ _ (mM (.ref j) 1>>=_) _ _ s;refine ac (dr a hd (x:= .int n 0) rfl ?_);show aH _ _ (lw (.ref u)>>=_) _ _ s;refine ac (c9 B G ?_);simp only[d0,i];refine ac (di a hd nC (ag ⟨y,rfl,ag (r _ ⟨_,bN _ a (dJ (cR hd _)),(fW ..).trans z,?_⟩ (c7 ..))⟩));rw[cR hd];simp[d2]
set_option tactic.hygienic true in
theorem QE{u:Addr}{zs}(r:A.handled=none)(b:s.heap.IsTupleIter j u n)(y:s.heap.IsTuple u zs)(z:zs[n]? =none)
 (B:∀d e,jX j s.heap d->(∃o,d.get? e=some o/\o.cls= .type "StopIteration")->E (.ref e) {s with heap:=d}):aH (aR prog w) A (bR (.ref j)) Q E s:=by
 obtain⟨o,i,I,hd⟩:=id b;obtain⟨q,G,_,m,H⟩:=y;unfold bR;refine ac (cN (name:=f7 "__next__") b.typeIs F.slot_tuple_iterator_next (df F.slot_tuple_iterator_next b.typeIs F.entry_tuple_iterator_next ?_ (F.args_tuple_iterator_next_1 _)));show aH _ _ (mM (.ref j) 0>>=_) _ _ s;refine ac (dr i hd (x:= .ref u) rfl ?_);show aH _ _ (if(aj u==dc)=true then _ else _) _ _ s;rw[aB (show¬ ((aj u==dc)=true)from aq)];show aH _ _ (mM (.ref j) 1>>=_) _ _ s;refine ac (dr i hd (x:= .int n 0) rfl ?_);show aH _ _ (lw (.ref u)>>=_) _ _ s;refine ac (c9 G H ?_);simp only[d0,z];refine ac (eS (ac (di i hd nC ?_)));show aH _ _ (newExc (.type "StopIteration") []>>=_) _ _ _;refine ac ?_;simp only[newExc,newTuple];refine ac (cM ?_ (by size_fits));refine ac (m:=hB _ _) (ln (a:=dc) (by first|rfl|(simp only[hB];rfl)) ?_);refine cM ?_ (by size_fits);simp only[raiseNew];refine ac (wpAny_handled ?_)
 first|rw[show A.in1.handled=none from r]|rw[r]
 refine ac (ag (wpAny_throw ?_));exact B _ _ (((c7 ..).extBut.push _).push _) ⟨_,ap _ rfl,rfl⟩
end
theorem So(B:A.handled=none)(j u:Addr)(x:u≠j)(q:Array ah):jt prog w A j [j,u] q.size (λi v=>q[i]? =some v) (λi h=>h.IsTupleIter j u i/\h.IsTuple u q) where
 live:=λ_ _ d=>let⟨o,z,_⟩:=d.1;⟨o,z⟩
 frame:=λ_ _ _ d hk=>⟨d.1.at λo e=>hk j nC o e,let⟨o,z,r⟩:=d.2;⟨o,hk u nC o z,r⟩⟩
 item:=λi s Q E hi d G=>V6 d.1 d.2 (y:=q[i]) (by simp[hi]) λH a b=>G _ H s.toks (by simp[hi]) ⟨a,d.2.extBut b.extBut x⟩ b
 done:=λs Q E d I=>QE B d.1 d.2 nC I
abbrev uit(l:Addr):Obj:={cls:= .type "tuple_iterator",data:= .fields #[.ref l, .int 0 0]}
end PySem
namespace L2
def FTu(K:W.Frag)(a:Addr)(xs:List V):Prop:=∃ (o:Obj) (b:Array ah) (n:Nat),K.lookup a=some o/\o.cls= .type "tuple"/\o.data= .seq b n/\b.size<=sizeLine/\Vals xs b.toList
theorem FTu.sq{a:Addr}(h:FTu K a xs):SqT K H a xs:= .inr h
end L2
namespace BrS
variable{b:Nat}
def pw(k c b:Nat):Int:=(plw (ones k) c).getD b 0
def ws(k:Nat):List Nat->List Nat->Int
 |[],[]=>1
 |[],_::_=>0
 |c::r,st=>sm k (λp=>pw k c (2*p)*ws k r (p::st))+(match st with|[]=>0|o::s'=>pw k c (2*o+1)*ws k r s')
variable{k:Nat}
theorem Vl(h:b<2*k):pw k 63 b=1:=by
 unfold pw;rw[T3];unfold ones;rw[af,iH,aO h];rfl
theorem Wa(h:brs[b]? =some c):b<8:=by
 have:=(az.mp h).1;exact this
theorem XH{d:Nat}(i:b<2*k)(j:b<8)(hd:brs[d]? =some c):pw k c b=if b=d then 1 else 0:=by
 have o:=Wa hd;have q:c≠63:=by
  rintro rfl
  revert hd
  have:d=0\/d=1\/d=2\/d=3\/d=4\/d=5\/d=6\/d=7:=by lia
  rcases this with rfl|rfl|rfl|rfl|rfl|rfl|rfl|rfl<;>decide
 unfold pw plw;rw[aB q,af,am,ki];rw[aO (show b<(ones k).length by unfold ones;rw[db];exact i)];have a:b=0\/b=1\/b=2\/b=3\/b=4\/b=5\/b=6\/b=7:=by lia
 have e:d=0\/d=1\/d=2\/d=3\/d=4\/d=5\/d=6\/d=7:=by lia
 rcases e with rfl|rfl|rfl|rfl|rfl|rfl|rfl|rfl<;>(cases hd;rcases a with rfl|rfl|rfl|rfl|rfl|rfl|rfl|rfl<;>decide)
theorem Kk(f:Nat->Int):∀k,sm (2*k) f=sm k λp=>f (2*p)+f (2*p+1)
 |0=>rfl
 |k+1=>by rw[show 2*(k+1)=2*k+1+1 by lia,sm,sm,Kk f k,sm];lia
abbrev En:=List Nat×List Nat
def exB(n a c:Nat)(e:En)(b:Nat):List En:=
 if c=63\/c=brs.getD b 0 then
  (if b%2=0 then(if e.2.length+a+1<n then [(e.1++[brs.getD b 0],b/2::e.2)]else [])
   else match e.2 with
    |[]=>[]
    |p::r=>if p=b/2 then [(e.1++[brs.getD b 0],r)]else [])
 else []
def exs(k n a c:Nat)(e:En):List En:=(aw (2*k)).flatMap (exB n a c e)
def fls(k:Nat)(a:List Nat):Nat->List En
 |0=>[([],[])]
 |i+1=>(fls k a i).flatMap (exs k a.length i (a.getD i 0))
def res(k:Nat)(a:List Nat):List (List Nat):=((fls k a a.length).filter λe=>decide (e.2=[])).map (·.1)
def wt(k:Nat)(r:List Nat)(L:List En):Int:=(L.map λe=>ws k r e.2).sum
end BrS
namespace L2
def Xa(i j:Int):Prop:=0<j/\j<2^200
theorem SR:OpR X (dO .FloorDiv) (rI Xa λi j=> .int (i/j)):=opI λi j _ _ _ _ _ a q=>by
 have e:(0:Int)<j:=a.1;have o:j<2^200:=a.2;refine floordiv_int nA (by rw[gR i nA];exact q) (.inl (PyProof.noPylong_of_log2 ?_));have b:j.natAbs≠0:=by lia
 have d:j.natAbs<2^200:=by lia
 exact dL ((mV b).mpr d) nv
theorem SqL.ty(h:SqL K H p xs):tyV K "list" (.ref p) H:= .inl ⟨rfl,_,h⟩
end L2
namespace BrS
variable{a:Addr}{row:List Nat}{Q:VK}{E:XK}
def Po(H:Hp)(p:Addr):Prop:=∃a b c:Int,H p=some (.lst [.int a, .int b, .int c])
theorem Po.same(h:Po H p)(s:Same H H'):Po H' p:=let⟨a,b,c,e⟩:=h;⟨a,b,c,s _ _ e⟩
theorem Po.ne{q:Addr}(h:Po H p)(a:H q=none):q≠p:=let⟨_,_,_,e⟩:=h;(AS e a).symm
theorem Po.new{a b c:Int}:Po (upd H p (.lst [.int a, .int b, .int c])) p:=⟨a,b,c,AF⟩
inductive spPoolD(K:W.Frag):Type
 |mk (a:Addr) (ns:List Int) (k:Int) (_:vs=[.ref a, .int k]) (_:SqL K H a (ns.map V.int)) (_:0<=k) (_:k<=63) (_:∀p H',H p=none->Same H H'->Po H' p->Q (.ref p) H')
theorem Qf{k:Int}(d:SqL K H a (ns.map V.int))(h0:0<=k)(e:k<=63)(q:∀p b,H p=none->Same H b->Po b p->Q (.ref p) b):spPoolD K ([.ref a, .int k]++[]) H Q E:=
 ⟨a,ns,k,rfl,d,h0,e,q⟩
inductive spDraw:Type
 |mk (p m:_) (_:vs=[.ref p, .int m]) (_:Po H p) (_:0<m) (_:m<2^200) (_:∀r H',0<=r->r<m->Po H' p->SameBut1 p H H'->Q (.int r) H')
theorem Ad{m:Int}(b:Po H p)(h0:0<m)(d:m<2^200)(q:∀r a,0<=r->r<m->Po a p->SameBut1 p H a->Q (.int r) a):spDraw ([.ref p, .int m]++[]) H Q E:=⟨p,m,rfl,b,h0,d,q⟩
theorem Xs{o:HO}(s:SameBut1 p H H')(h:H a=none):SameBut1 p H (upd H' a o):=λb u z n=>by rw[AI (AS z h)];exact s b u z n
theorem ED(a:List Nat):(a.map λc=>[c]).flatten=a:=by
 induction a with
 |nil=>rfl
 |cons c r b=>rw[aW,cz,b];rfl
theorem Gu(l:List (List Nat)):(l.map tx).all A4=true:=by
 induction l with
 |nil=>rfl
 |cons a r b=>rw[aW,fO,b];rfl
theorem L6(h:j<n):ixN n (j:Int)=some j:=by
 unfold ixN;simp[h]
def Kf:Sp:=λvs H Q _=>∃ (p:Addr) (k h:Int),vs=[.ref p, .int k, .int h]/\Po H p/\1<=k/\k<=4/\0<=h/\h<=20/\
 ∀row a,Rt row->(row.length:Int)=2*h->(∀c∈row,kin k c)->Po a p->SameBut1 p H a->Q (tx row) a
theorem P0{k h:Int}(hd:Po H p)(b:1<=k)(d:k<=4)(e:0<=h)(i:h<=20)
 (q:∀row a,Rt row->(row.length:Int)=2*h->(∀c∈row,kin k c)->Po a p->SameBut1 p H a->Q (tx row) a):Kf ([.ref p, .int k, .int h]++[]) H Q E:=⟨p,k,h,rfl,hd,b,d,e,i,q⟩
inductive spCheckFillE(cs:Cs):Type
 |mk (H0 s ad n T:_) (_:vs=[.ref s]) (_:Tb H0 H s ad n T) (_:((T 0 n≠0/\Q .non H)\/(T 0 n=0/\Ref E cs.NoFilling H)))
def Du:Sp:=λ_ _ _ _=>False
def sgb(k:Int):List Nat:=opn.take k.toNat++cls.take k.toNat
theorem HK{k:Int}(h:c∈sgb k):c∈sgn k:=cD _ h
theorem HL{k:Int}(a:1<=k)(b:k<=4):(sgb k).length=(2*k).toNat:=by
 unfold sgb;rw[aG,cc,cc];simp[opn,cls];lia
def Ke:Sp:=λvs H Q _=>∃k,vs=[.int k]/\1<=k/\k<=4/\Q (tx (sgb k)) H
theorem GE{k:Int}(a:1<=k)(b:k<=4)(q:Q (tx (sgb k)) H):Ke ([.int k]++[]) H Q E:=⟨k,rfl,a,b,q⟩
def Lc:Sp:=λvs H Q _=>∃ (p:Addr) (k:Int) (row:List Nat) (o:Int),vs=[.ref p, .int k,tx row, .int o]/\Po H p/\1<=k/\k<=4/\AQ k row=true/\0<=o/\o<=1000/\
 ∀a b,a.length<=row.length->AQ k a=true->Po b p->SameBut1 p H b->Q (tx a) b
theorem RX{k o:Int}(d:Po H p)(e:1<=k)(i:k<=4)(j:AQ k row=true)(r:0<=o)(x:o<=1000)
 (q:∀a b,a.length<=row.length->AQ k a=true->Po b p->SameBut1 p H b->Q (tx a) b):Lc ([.ref p, .int k,tx row, .int o]++[]) H Q E:=⟨p,k,row,o,rfl,d,e,i,j,r,x,q⟩
def LX:Sp:=λvs H Q _=>∃ (p:Addr) (k m:Int),vs=[.ref p, .int k, .int m]/\Po H p/\1<=k/\k<=4/\1<=m/\m<=40/\
 ∀row a,(row.length:Int)<=m->AQ k row=true->Po a p->SameBut1 p H a->Q (tx row) a
theorem GS{k m:Int}(b:Po H p)(d:1<=k)(e:k<=4)(i:1<=m)(j:m<=40)
 (q:∀row a,(row.length:Int)<=m->AQ k row=true->Po a p->SameBut1 p H a->Q (tx row) a):LX ([.ref p, .int k, .int m]++[]) H Q E:=⟨p,k,m,rfl,b,d,e,i,j,q⟩
end BrS
namespace L2
section
variable{σ:zQ0}{Q:VK}
theorem Vc{td ty:TE}(h:td σ H λx d=>ty σ d λy b=>∃a v,x= .ref a/\DGet b a y (some v)/\Q v b):IF td ty σ H Q:=h
theorem VZ{td ty tv:TE}(h:tv σ H λv d=>td σ d λx e=>ty σ e λy i=>∃a b,x= .ref a/\DPut i a y v b/\D.nx σ b):NH td ty tv D σ H:=h
end
end L2
namespace BrS
theorem BC{k:Nat}(r:Room k A):A.units+1<jE:=by have:=r.un;lia
end BrS
namespace BrT
variable{I a:Addr}{es':Array (Int×ah)}{G:Array ml->Array ml->Prop}{hs:Array Int}{o xs:Array Nat}{items:Array ah}{gw:Bool->Sem Unit}{e:Int×ah}{es:List (Int×ah)}{d:Nat}{f:Nat->ah}{P:Nat->ah->Prop}{Q:Option ah->ak->Prop}{t':gW}
def Rise(a:Array Nat):Prop:=a.toList.Pairwise (· < ·)
theorem Rise.lt{a:Array Nat}(r:Rise a){x y:Nat}(b:i<j)(o:a[i]? =some x)(q:a[j]? =some y):x<y:=by
 have d:a.toList[i]? =some x:=by simpa using o
 have e:a.toList[j]? =some y:=by simpa using q
 obtain⟨hi,rfl⟩:=az.mp d;obtain⟨z,rfl⟩:=az.mp e;exact(List.pairwise_iff_getElem.mp r) i j hi z b
theorem Gz(xs:Array Nat)(r:Rise xs)(j:Nat):∀ (f lo hi:Nat),hi-lo<=f->lo<=hi->hi<=xs.size->(∀i x,i<lo->xs[i]? =some x->x<j)->(∀i x,hi<=i->xs[i]? =some x->j<=x)->
 e6 xs j f lo hi<=xs.size/\(∀i x,i<e6 xs j f lo hi->xs[i]? =some x->x<j)/\(∀i x,e6 xs j f lo hi<=i->xs[i]? =some x->j<=x)
 |0,lo,hi,H,I,e,o,q=>by
  have:lo=hi:=by lia
  subst this;unfold e6;exact⟨e,o,q⟩
 |f+1,lo,hi,H,I,e,o,q=>by
  unfold e6
  by_cases d:lo<hi
  ·rw[aO d]
   dsimp only
   have J:(lo+hi)/2<hi:=by lia
   have L:lo<=(lo+hi)/2:=by lia
   have G:(lo+hi)/2<xs.size:=by lia
   have a:xs[(lo+hi)/2]? =some xs[(lo+hi)/2]:=bh G;have M:xs.getD ((lo+hi)/2) j=xs[(lo+hi)/2]:=by simp[jC,G]
   rw[M]
   by_cases y:xs[(lo+hi)/2]<j
   ·rw[aO y];refine Gz xs r j f _ _ nA nA e (λi x z b=>?_) q
    by_cases B:i=(lo+hi)/2
    ·subst B;rw[a]at b;cases b;exact y
    ·exact dL (r.lt nA b a) y
   ·rw[aB y];refine Gz xs r j f _ _ nA nA nA o (λi x z b=>?_)
    by_cases B:i=(lo+hi)/2
    ·subst B;rw[a]at b;cases b;lia
    ·have:=r.lt (show(lo+hi)/2<i by lia) a b;lia
  ·rw[aB d];have:lo=hi:=by lia
   subst this;exact⟨e,o,q⟩
theorem FP(r:Rise xs)(j:Nat):b8 xs j<=xs.size/\(∀i x,i<b8 xs j->xs[i]? =some x->x<j)/\(∀i x,b8 xs j<=i->xs[i]? =some x->j<=x):=
 Gz xs r j xs.size 0 xs.size nA (bA _) (ao _) (λi x h=>absurd h (gH _)) λi x h a=>by
  have:=dB (xs:=xs) h;rw[this]at a;cases a
theorem QS(r:Rise xs){x:Nat}(d:xs[i]? =some x):b8 xs (x+1)=i+1:=by
 obtain⟨q,j,o⟩:=FP r (x+1);have hi:i<xs.size:=(bH.mp d).1;rcases Nat.lt_trichotomy (b8 xs (x+1)) (i+1)with h|h|h
 ·have:=o i x nA d;lia
 ·exact h
 ·have e:i+1<xs.size:=by lia
  have hg:xs[i+1]? =some xs[i+1]:=bh e;have a:=j (i+1) _ h hg;have b:=r.lt (bX i) d hg;lia
theorem QR(r:Rise xs):b8 xs 0=0:=by
 obtain⟨b,a,d⟩:=FP r 0;rcases Nat.eq_zero_or_pos (b8 xs 0)with h|h
 ·exact h
 ·have hg:xs[0]? =some (xs[0]'(by lia)):=bh _;have:=a 0 _ h hg;lia
theorem Oq(xs:Array α)(p:Nat)(x:α):(ik xs p x).toList=xs.toList.take p++x::xs.toList.drop p:=by
 unfold ik;simp;rw[dA nC]
theorem Rise.insert(r:Rise xs)(H:∀i:Nat,xs[i]? ≠some j):Rise (ik xs (b8 xs j) j):=by
 obtain⟨J,I,G⟩:=FP r j;generalize b8 xs j=p at*
 unfold Rise;rw[Oq];refine List.pairwise_append.mpr ⟨jp (ip _ _) r,List.pairwise_cons.mpr ⟨λy o=>?_,jp (List.drop_sublist _ _) r⟩,λy o z hz=>?_⟩
 ·obtain⟨i,hi,e⟩:=cC.mp o;rw[kG]at e;have hg:xs[p+i]? =some y:=by rw[<-cp,<-e];exact ai _
  have a:=G (p+i) y nA hg;have b:=H (p+i);have c:y≠j:=λd=>b (d▸hg);lia
 ·obtain⟨i,hi,e⟩:=cC.mp o;have q:i<p:=by have:=hi;rw[cc]at this;lia
  rw[List.getElem_take]at e;have hg:xs[i]? =some y:=by rw[<-cp,<-e];exact ai _
  have x:=I i y q hg;rcases aJ.mp hz with rfl|hz
  ·exact x
  ·obtain⟨k,hk,d⟩:=cC.mp hz;rw[kG]at d;have B:xs[p+k]? =some z:=by rw[<-cp,<-d];exact ai _
   have:=G (p+k) z nA B;lia
theorem J4(r:Rise t.place)(h:t.place[b8 t.place d]? ≠some d):∀i:Nat,t.place[i]? ≠some d:=by
 obtain⟨q,j,o⟩:=FP r d;intro i hi;rcases kR i (b8 t.place d)with hl|hl
 ·have:=j i d hl hi;lia
 ·have b:b8 t.place d<t.place.size:=de hl (bH.mp hi).1;have hg:t.place[b8 t.place d]? =some _:=bh b;have a:=o _ _ (ao _) hg;rcases Nat.eq_or_lt_of_le hl with e|e
  ·rw[<-e]at hi;exact h hi
  ·have:=r.lt e hg hi;lia
theorem Kl(h:t.slot d= .empty\/t.slot d= .dummy):t.place[b8 t.place d]? ≠some d:=by
 intro e;unfold SetTable.slot at h;simp[e]at h
theorem Gk(t:gW)(f:Nat->Int)(h:Int):∀ (n:Nat) (p:SetTable.Probe) (j:Nat) (d:Option Nat),(∀x,p.dummy=some x->t.slot x= .dummy)->ij t f h n p=some (.empty j d)->(t.slot j= .empty)/\∀x,d=some x->t.slot x= .dummy
 |0,p,j,d,o,e=>by unfold ij at e;cases e
 |n+1,p,j,d,o,e=>by
  unfold ij at e
  cases a:t.slot p.j with
  |empty=>rw[a]at e;simp at e;obtain⟨rfl,rfl⟩:=e;exact⟨a,o⟩
  |dummy=>
   rw[a]at e;refine Gk t f h n _ j d (λx b=>?_) e;have:(t.advance {p with dummy:=some p.j}).dummy=some p.j:=by unfold k8;dsimp only;split<;>rfl
   rw[this]at b;cases b;exact a
  |live i=>
   rw[a]at e
   dsimp only at e
   split at e
   ·cases e
   ·refine Gk t f h n _ j d (λx b=>?_) e;have:(t.advance p).dummy=p.dummy:=by unfold k8;dsimp only;split<;>rfl
    rw[this]at b;exact o x b
set_option tactic.hygienic true in
theorem Sh(r:Rise t.place){h:Int}{b:Bool}(e:t.freeSlot h=some (j,b)):∀i:Nat,t.place[i]? ≠some j:=by
 unfold SetTable.freeSlot at e
 split at e
 ·rename_i q d y
  obtain⟨z,B⟩:=Gk t _ _ _ _ q d (λx o=>by unfold SetTable.probeStart at o;cases o) y;simp at e;obtain⟨a,G⟩:=e
  cases d with
  |none=>simp at a;subst a;exact J4 r (Kl (.inl z))
  |some x=>simp at a;subst a;exact J4 r (Kl (.inr (B x rfl)))
 ·cases e
theorem Pz(n:Nat):Rise (Array.range n):=by
 unfold Rise;rw[Array.toList_range];exact iY
def Tb(l:Bool)(t:gW):Prop:=Rise t.place/\t.led=l
theorem Tb.standIn{l:Bool}(h:Tb l t)(n:Nat):Tb l (t.standIn n):=⟨Pz n,h.2⟩
theorem Q2{l:Bool}(h:Tb l t)(j:Array (Int×ah))(a:Int)(x:ah):Tb l (layNew t j a x).2.1:=by
 unfold layNew
 cases e:t.freeSlot a with
 |none=>exact h.standIn _
 |some o=>
  obtain⟨d,b⟩:=o;have r:=h.1.insert (Sh h.1 e);have i:Tb l (t.put d).1:=⟨r,h.2⟩;show Tb l (kb (t.put d).1 _);unfold kb
  split
  ·exact i
  ·exact i.standIn _
theorem UV{m f mv:Nat}{l p:Bool}(e:mi m f mv l p hs=some (t,o)):Tb l t:=by
 unfold mi at e
 cases j:SetTable.layClean m hs with
 |none=>rw[j]at e;cases e
 |some x=>
  rw[j]at e;simp at e;obtain⟨r,y⟩:=e;subst r;refine⟨?_,rfl⟩;unfold Rise;simp only[];refine kI _ (λa b h=>h) (R:=fun(a b:Nat×Nat)=>a.1<b.1) ?_;refine List.Pairwise.filterMap _ (R:=fun(a b:Nat)=>a<b) (λa b i c q d hd=>?_) iY;simp at q hd;obtain⟨_,_,rfl⟩:=q;obtain⟨_,_,rfl⟩:=hd;exact i
theorem O5{l:Bool}(h:Tb l t)(a:Array (Int×ah))(b:Nat):Tb l (j2 t a b).2.1:=by
 unfold j2
 cases e:t.relaid (a.map (·.1)) b with
 |none=>exact h.standIn _
 |some p=>
  obtain⟨d,o⟩:=p
  dsimp only
  unfold SetTable.relaid at e;have:=UV e
  split
  ·exact⟨this.1,this.2.trans h.2⟩
  ·exact h.standIn _
def keyOf(e:Int×ah):Int:=match e.2 with| .int k _=>k|_=>0
section
variable{s:ak}
theorem int_of{k:Int}{v:ah}(h:(gG prog w).is k v=true):∃t,v= .int k t:=kA h
theorem key_of{k:Int}(h:(gG prog w).is k e.2=true):keyOf e=k:=by
 obtain⟨t,ht⟩:=int_of h;unfold keyOf;rw[ht]
theorem K7(h:ElemsOf (gG prog w) es)(a:e∈es):(gG prog w).is (keyOf e) e.2=true:=by
 obtain⟨⟨k,hk,_⟩,_⟩:=h e a;rw[key_of hk];exact hk
theorem L7:∀ {a:List (Int×ah)},ElemsOf (gG prog w) a->hU (a.map (·.2)) (a.map keyOf)
 |[],_=> .nil
 |e::r,h=>by
  obtain⟨t,ht⟩:=int_of (K7 h (.head _));rw[aW,aW,ht];exact .cons _ _ (L7 h.tail)
def SO(prog:bK)(w:cX)(l:Bool)(a:Array (Int×ah))(t:gW)(b:List Int):Prop:=
 ElemsOf (gG prog w) a.toList/\(a.toList.map keyOf).Nodup/\(∀k,k∈a.toList.map keyOf↔k∈b)/\a.size<=b.length/\t.fits a.size=true/\Tb l t
def SI(prog:bK)(w:cX)(l:Bool)(h:Heap)(a:Addr)(d:List Int):Prop:=
 ∃o b e t,h.get? a=some o/\o.ExactSet/\o.data= .set b e t/\SO prog w l b t d
theorem SI.at{l:Bool}{h:Heap}(i:SI prog w l h a ms)(k:∀o,h.get? a=some o->h'.get? a=some o):SI prog w l h' a ms:=
 let⟨o,b,d,t,e,r⟩:=i;⟨o,b,d,t,k o e,r⟩
theorem SO.perm{l:Bool}{es:Array (Int×ah)}(i:SO prog w l es t ms)(p:List.Perm es'.toList es.toList)(f:t'.fits es'.size=true)(b:Tb l t'):SO prog w l es' t' ms:=by
 obtain⟨a,d,e,j,o,q⟩:=i;have r:es'.size=es.size:=by rw[<-cL,p.length_eq,cL]
 exact⟨a.perm p,(p.map keyOf).nodup_iff.mpr d,λk=>((p.map keyOf).mem_iff).trans (e k),by lia,f,b⟩
theorem stored{l:Bool}{h:Heap}{o:Obj}{es:Array (Int×ah)}(d:h.get? a=some o)(b:o.ExactSet)(hd:o.data= .set es ep t)(i:SO prog w l es' t' ms):
 (h.update a (kE es' t')).get? a=some {o with data:= .set es' (ep+1) t'}/\SI prog w l (h.update a (kE es' t')) a ms:=by
 have g:=bN (kE es' t') d (by rw[putSet_of es' t' hd];rfl);rw[putSet_of es' t' hd]at g;exact⟨g,_,es',ep+1,t',g,b,rfl,i⟩
theorem LL(hg:∀ (b:Bool) (d:ak) (x:Unit->ak->Prop),x () d->aH (aR prog w) A (gw b) x E d){l:Bool}{o:Obj}{es es1:Array (Int×ah)}{t2:gW}(y:s.heap.get? a=some o)(e:o.ExactSet)(hd:o.data= .set es ep t)
 (i:SO prog w l es1 t2 ms) (z:ms.length<gE) {dm:Bool} {R:Option Bool->ak->Prop} (q:∀j,bu a s.heap j->SI prog w l j a ms->R (some true) {s with heap:=j}):
 aH (aR prog w) A (do
  storeSet a es1 t2
  if(!dm&&t2.tooFull)=true then do
   gw (j2 t2 es1 (eh es1.size)).2.2
   storeSet a (j2 t2 es1 (eh es1.size)).1 (j2 t2 es1 (eh es1.size)).2.1
   pure (some true)
  else pure (some true)) R E s:=by
 have r:es1.size<=sizeLine:=ky (de i.2.2.2.1 z);refine ac (kr y hd ?_ r);obtain⟨B,I⟩:=stored y e hd i;have G:=c7 s.heap a (kE es1 t2)
 split
 ·have p:=relayAll_perm t2 es1 (eh es1.size);have f:=relayAll_fits t2 es1 (eh es1.size);have b:=O5 i.2.2.2.2.2 es1 (eh es1.size);generalize j2 t2 es1 (eh es1.size)=Rl at p f b⊢;obtain⟨J,L,M⟩:=Rl
  dsimp only at p f b⊢
  have H:=i.perm p f b;refine ac (hg _ _ _ (ac (kr B rfl ?_ (ky (de H.2.2.2.1 z)))));exact ag (q _ (G.trans (c7 _ a _)) (stored B e rfl H).2)
 ·exact ag (q _ G I)
theorem Py{l:Bool}{k:Int}{tk:Tok}{Q:Bool->ak->Prop}(i:SI prog w l s.heap a ms)(hb:ms.length+1<gE)
 (q:∀b I,bu a s.heap I->SI prog w l I a (ms++[k])->Q b {s with heap:=I}):aH (aR prog w) A (setAddHashed a (.int k tk) (jQ k)) Q E s:=by
 obtain⟨o,d,ep,t,M,J,hd,r,P,B,hsz,U,R⟩:=i;have G:(gG prog w).is k (.int k tk)=true:=intKind_is _ _ _ _;have X:d.size<gE:=by lia
 unfold setAddHashed setAddHashedIn;refine cH (ac (dP M hd U ?_))
 dsimp only
 rw[byScan_of (knd:=gG prog w) rfl X r];simp only[↓reduceIte];unfold setAddByScan;refine ac (ac (eS (ac (wpAny_setScan_of (knd:=gG prog w) G M hd U r ?_))))
 cases hr:List.findIdx? (λe=>(gG prog w).is k e.2) d.toList with
 |some j=>
  dsimp only
  obtain⟨hj,Y,_⟩:=List.findIdx?_eq_some_iff_getElem.mp hr;have hk:k∈ms:=(B k).mp (by rw[<-key_of Y];exact List.mem_map_of_mem (dF hj));refine ag (ag ?_);have Z:s={s with heap:=s.heap}:=by cases s;rfl
  rw[Z];refine q _ s.heap (Heap.SameBut.refl a s.heap) ⟨o,d,ep,t,M,J,hd,r,P,λk'=>(B k').trans ⟨λz=>cD _ z,λz=>?_⟩,by rw[aG];lia,U,R⟩;rcases dW.mp z with z|z
  ·exact z
  ·rw[aV.mp z];exact hk
 |none=>
  dsimp only
  have hk:k∉d.toList.map keyOf:=λz=>by
   obtain⟨e,he,hek⟩:=cg.mp z;have z1:=List.findIdx?_eq_none_iff.mp hr e he;rw[<-hek,K7 r he]at z1
   cases z1
  have p:=layNew_perm t d (jQ k) (.int k tk);have f:=layNew_fits t d (jQ k) (.int k tk);have b:=Q2 R d (jQ k) (.int k tk);show aH _ _ (match layNew t d (jQ k) (.int k tk)with|(d,t,wasDummy,gave)=>_) _ _ _;generalize layNew t d (jQ k) (.int k tk)=Ln at p f b⊢;obtain⟨L,t1,dm,gv⟩:=Ln
  dsimp only at p f b⊢
  rw[f3]at p;have hz:L.size=d.size+1:=by rw[<-cL,p.length_eq,aG,cL];rfl
  have kk:keyOf (jQ k, .int k tk)=k:=rfl;have i1:SO prog w l L t1 (ms++[k]):=by
   refine⟨(r.push G rfl).perm p,(p.map keyOf).nodup_iff.mpr ?_,λk'=>((p.map keyOf).mem_iff).trans ?_,by rw[hz,aG];simp;lia,f,b⟩
   ·rw[bv,aW,fC,kk];exact List.nodup_append.mpr ⟨P,by simp,λx hx y hy=>by rw[aV.mp hy];exact λe=>hk (e▸hx)⟩
   ·rw[bv,aW,fC,kk,dW,dW,B k']
  have gwh:∀ (b:Bool) {s₁:ak} {S:Unit->ak->Prop},S () s₁->aH (aR prog w) A (match b with|true=>rule "set.scan.the-table-gave-way"|false=>pure ()) S E s₁:=
   λb s₁ S H=>by cases b<;>first|exact ag H|exact eS H
  refine ac (gwh _ ?_);have T:(ms++[k]).length<gE:=by rw[aG];simpa using hb
  split
  ·refine ac ?_;rw[hashByValue_scannable 8 (x:= .int k tk) rfl];refine ag ?_;refine LL ?_ M J hd (t2:=if plainKind (.int k tk)=true then t1 else{t1 with plain:=false}) (show SO prog w l L _ (ms++[k])from i1) T ?_
   ·intro b s₁ S H;cases b<;>first|exact ag H|exact eS H
   ·intro I sb z;dsimp only;exact ag (q _ I sb z)
  ·refine ac (ag ?_);simp only[↓reduceIte];refine LL ?_ M J hd i1 T ?_
   ·intro b s₁ S H;cases b<;>first|exact ag H|exact eS H
   ·intro I sb z;dsimp only;exact ag (q _ I sb z)
theorem Tu{fp wr:List Addr}{zQ0:Nat->ak->Prop}{l:Bool}(ns:List Int)(W:WalksS prog w A.in1 I fp wr G ns.length P zQ0)(S:Addr)(U:S∉fp)
 (Y:∀i v,i<ns.length->P i v->∃t,v= .int (ns.getD i 0) t) (hb:ns.length+1<gE):∀ (k i:Nat) (s:ak),ns.length-i=k->i<=ns.length->zQ0 i s->SI prog w l s.heap S (ns.take i)->
   (∀a,Moved (S::wr) G s a->SI prog w l a.heap S ns->R (.ok (.ret .none)) a)->dt (aR prog w) A (.builtin "set.update.loop" ⟨[.ref S, .ref I],[]⟩) R s:=by
 have d:S∉wr:=λz=>U (W.sub _ z);have up:∀b∈wr,b∈S::wr:=λb z=> .tail _ z;intro k
 induction k with
 |zero=>
  intro i s hk hi y x q;have e:i=ns.length:=by lia
  subst e;refine cE F.entry_set_update_loop ?_;rw[ci F.plain_set_update_loop _];show aH _ A.in1 (fv (.ref I)>>=_) _ _ s;refine ac (W.done s _ _ y λa j=>?_);show aH _ A.in1 (ret dc) _ _ a;refine ag (q a (j.mono up) ?_);rw[dD]at x;exact x.at λo B=>j.heap S o d B
 |succ k Z=>
  intro i s hk hi y x q;have lt:i<ns.length:=by lia
  refine cE F.entry_set_update_loop ?_;rw[ci F.plain_set_update_loop _];show aH _ A.in1 (fv (.ref I)>>=_) _ _ s;refine ac (W.item i s _ _ lt y λv a hP H j=>?_);obtain⟨t,rfl⟩:=Y i v lt hP;have J:=x.at (h':=a.heap) λo B=>j.heap S o d B;have L:(ns.take i).length+1<gE:=by rw[cc];lia
  have en:ns.take i++[ns.getD i 0]=ns.take (i+1):=by
   rw[cy,ai lt,af,ai lt];rfl
  show aH _ A.in1 (fV [fK (ns.getD i 0) t] (setAdd S (.int (ns.getD i 0) t))>>=_) _ _ a;refine ac (cH ?_);unfold setAdd;refine cH (ac ((gG prog w).pyHash (k:=ns.getD i 0) (intKind_is _ _ _ _) ?_));refine Py (s:={a with toks:=a.toks+1}) J L λb h' X r=>?_;rw[en]at r;refine ag ⟨eY F.plain_set_update_loop _,Z (i+1) _ nA lt (W.frame _ a _ _ H (gJ _) λc M o e=>?_) r λs2 Q T=>?_⟩
  ·rw[X.2 c (λz:c=S=>U (z▸M))];exact e
  ·refine q s2 (Moved.trans W.gtrans ((j.mono up).then_heap (gJ _) λc o M e=>?_) Q) T;rw[X.2 c (λz:c=S=>M (z▸aA))];exact e
def byT(w:cX):Bool:=w.params.followText "set-order"
theorem UQ(a:ah){Q:ah->ak->Prop}(q:Q (.ref s.1.1.size) {s with heap:=s.heap.push {cls:= .type "set",dict:=none,data:= .set #[] 0 (.fresh 0 0 (!byT w))}}):
 dt (aR prog w) A (.call (.builtin "set.__new__") ⟨[.type "set",a],[]⟩) (wants Q E) s:=by
 refine ja ?_;show aH _ A.in1 (do kZ "set.__new__" ⟨[.type "set",a],[]⟩;m7 (.builtin "set.__new__" ⟨[.type "set",a],[]⟩)) _ _ s;refine ac (ln (F.newCall_set_1 a) (ag ⟨eY F.plain_set_new _,cE F.entry_set_new ?_⟩));rw[ci F.plain_set_new _];unfold fc.«set.__new__» Builtin.Frozenset.newClass;have b:=sub_set_self;obtain⟨e,g,d,i,os⟩:=s
 dsimp only
 wp_walk
 refine dC (ag ?_)
 dsimp only
 simp only[newObj];refine ac (wpAny_alloc (ag ?_));exact ag q
theorem Wb{h:Heap}{l:Bool}{o:Obj}(e:h.get? a=some o)(b:o={cls:= .type "set",dict:=none,data:= .set #[] 0 (.fresh 0 0 l)}):SI prog w l h a []:=by
 subst b;exact⟨_,#[],0, .fresh 0 0 l,e,⟨rfl,rfl,rfl⟩,rfl,λe d=>by simp at d,by simp,by simp,ao _,rfl,kH,rfl⟩
theorem call_set{l:Addr}{Q:ah->ak->Prop}(hh:A.handled=none)(hl:s.heap.IsList l items)(hi:hU items.toList ns)(hb:ns.length+1<gE)
 (q:∀ (d:Heap) (tk:Nat),SI prog w (!byT w) d s.1.1.size ns->(∀b o,b<s.1.1.size->s.heap.get? b=some o->d.get? b=some o)->s.1.1.size<d.objs.size->Q (.ref s.1.1.size) {s with heap:=d,toks:=tk}):
 aH (aR prog w) A (call (.type "set") [.ref l]) Q E s:=by
 obtain⟨c,tl,hmro⟩:=F.called_set.mro;have hmade:=F.called_set.made;have hsub:=F.called_set.sub;have J:items.size=ns.length:=by rw[<-cL,IntsAre.length hi]
 refine fu (ja ?_);show aH _ _ (callAny (.type "set") _) _ _ _;refine ag ⟨kn _ nB,cE F.entry_type_call ?_⟩;rw[Around.under_plain (weight_type_call_type "set" [.ref l] []) rfl];have h1:=F.called_set.notType;have h2:=F.called_set.canCreate;have hct:=F.typeCall_set_1 (.ref l)
 repeat(any_goals(first|assumption|wp_step))
 refine dj (UQ (.ref l) (E:=E) (Q:=λobj y=>obj= .ref s.1.1.size/\y={s with heap:=s.heap.push {cls:= .type "set",dict:=none,data:= .set #[] 0 (.fresh 0 0 (!byT w))}}) ⟨rfl,rfl⟩) λr y hr=>?_
 cases r with
 |error e=>exact hr
 |ok fl=>
  cases fl with
  |ret obj=>
   obtain⟨rfl,rfl⟩:=hr;have hS:(s.heap.push ({cls:= .type "set",dict:=none,data:= .set #[] 0 (.fresh 0 0 (!byT w))}:Obj)).get? s.1.1.size=some ({cls:= .type "set",dict:=none,data:= .set #[] 0 (.fresh 0 0 (!byT w))}:Obj):=ap _ rfl;have hT:mh {s with heap:=s.heap.push ({cls:= .type "set",dict:=none,data:= .set #[] 0 (.fresh 0 0 (!byT w))}:Obj)} (.ref s.1.1.size) "set":=⟨_,hS,rfl⟩;have hli:=F.called_set.init.lookup;have hbi:=F.called_set.init.bind (.ref s.1.1.size)
   repeat(any_goals(first|assumption|wp_step))
   refine dj (gq (R:=wants (λr B=>r= .none/\∃d tk,B={s with heap:=d,toks:=tk}/\SI prog w (!byT w) d s.1.1.size ns/\(∀b o,b<s.1.1.size->s.heap.get? b=some o->d.get? b=some o)) E) F.called_set.init.plain F.entry_set_init (check_set_init_1 hT ?_)) λL B a=>?_
   ·obtain⟨ol,M,P,nl,S⟩:=hl;obtain⟨ocls,G,odata,j⟩:=ol;simp only at P S;subst P;subst S;have T:(s.heap.push ({cls:= .type "set",dict:=none,data:= .set #[] 0 (.fresh 0 0 (!byT w))}:Obj)).get? l=some {cls:= .type "list",dict:=G,data:= .seq items nl,slots:=j}:=ae _ M;have hsls:=F.sub_list_set;have hslf:=F.sub_list_frozenset;have hne:(dR "list"==dR "dict")=false:=by decide
    have U:(s.heap.push ({cls:= .type "set",dict:=none,data:= .set #[] 0 (.fresh 0 0 (!byT w))}:Obj)).IsList l items:=⟨_,T,rfl,nl,rfl⟩;unfold fc.«set.__init__» noKeywords Builtin.Frozenset.updateFrom;generalize hPI:i8=PI
    wp_walk
    subst hPI;refine eU U ?_;refine ac (wpAny_runValue ?_);have X:l<s.1.1.size:=au M;have H:(s.heap.push ({cls:= .type "set",dict:=none,data:= .set #[] 0 (.fresh 0 0 (!byT w))}:Obj)).objs.size=s.1.1.size+1:=bB ..;have hh3:A.in1.in1.in1.handled=none:=by simp[hh]
    have Y:l≠(s.heap.push ({cls:= .type "set",dict:=none,data:= .set #[] 0 (.fresh 0 0 (!byT w))}:Obj)).objs.size:=by rw[H];exact aN (ce X)
    have hSf:s.1.1.size∉[(s.heap.push ({cls:= .type "set",dict:=none,data:= .set #[] 0 (.fresh 0 0 (!byT w))}:Obj)).objs.size,l]:=by
     rw[H];simp only[aJ,dE,j4,not_or];exact⟨aN (bX _),eL X⟩
    have W:=(lX (prog:=prog) (w:=w) hh3 _ l Y items).toS;rw[J]at W;refine Tu (l:= !byT w) ns W s.1.1.size hSf (λi v _ z=>IntsAre.int_at hi i v (by rw[cp];exact z)) hb (ns.length-0) 0 _ rfl (bA _) ⟨⟨_,ap _ rfl,rfl,rfl⟩,(U.push _)⟩ (Wb (o:=({cls:= .type "set",dict:=none,data:= .set #[] 0 (.fresh 0 0 (!byT w))}:Obj)) (ae _ hS) rfl) ?_;intro s' mv x;obtain⟨d,g',d',tk',os'⟩:=s';have eg:g'=s.gens:=mv.gens;have ed:d'=s.drawn:=mv.drawn;have eo:os'=s.os:=mv.os;subst eg;subst ed;subst eo;show aH _ _ _ _ _ _;refine ag ?_;show aH _ _ (ret dc) _ _ _;refine ag ⟨rfl,d,tk',rfl,x,λb o Z e=>?_⟩;refine mv.heap b o ?_ (ae _ (ae _ e));rw[H];simp only[aJ,dE,j4,not_or];exact⟨aN Z,aN (ce Z)⟩
   ·cases L with
    |error e=>exact a
    |ok I=>
     cases I with
     |ret r=>
      obtain⟨rfl,d,tk,rfl,x,hk'⟩:=a
      repeat(any_goals(first|assumption|wp_step))
      refine q _ _ x hk' ?_;obtain⟨o,es,ep,t,ho,_⟩:=x;exact au ho
     |_=>exact a.elim
  |_=>exact hr.elim
end
theorem V0:Manifest.owners.lookup (String.ofList ['r','o','t','a','r','e','t','i','_','t','e','s'].reverse)=some Manifest.sig_set_iterator:=by kernel_rfl
theorem si_next:Slot "set_iterator" "__next__" "set_iterator.__next__":= .of (owner:="set_iterator") (n:="__next__") (by rw[typeLookup_type,builtinLookup_eq_fast];kernel_rfl) nB nB nB (by first|exact .inl nB|exact .inr nB) (by rw[isSubtype_type];kernel_rfl)
theorem Km:entryFor table "set_iterator.__next__"=some fc.«set_iterator.__next__»:=entryFor_of_tree (by kernel_rfl)
theorem Le(a:ah):argsOk "set_iterator.__next__" ⟨[a],[]⟩:=by unfold argsOk;rw[signature?_of (id:="set_iterator.__next__") (n:=['_','_','t','x','e','n','_','_']) (o:=['r','o','t','a','r','e','t','i','_','t','e','s']) (by kernel_rfl) V0];kernel_rfl
theorem Oa:entryFor table "set.__iter__"=some fc.«frozenset.__iter__»:=entryFor_alias (id':="frozenset.__iter__") (by kernel_rfl) rfl nB (by kernel_rfl)
section
variable{s:ak}
structure zQ1 (h:Heap) (I:Addr) (f:ah) (i:Nat) (S:Addr) (n ep:Nat):Prop where
 at_:∃o,h.get? I=some o/\o.cls= .type "set_iterator"/\o.data= .fields #[f, .int i 0, .ref S, .int n 0, .int ep 0]
theorem zQ1.ty{f:ah}(x:zQ1 s.heap I f i S n ep):s.TypeIs (.ref I) "set_iterator":=let⟨o,a,b,_⟩:=x.at_;⟨o,a,b⟩
theorem zQ1.keep{h:Heap}{f:ah}(x:zQ1 h I f i S n ep)(k:∀o,h.get? I=some o->h'.get? I=some o):zQ1 h' I f i S n ep:=let⟨o,a,r⟩:=x.at_;⟨o,k o a,r⟩
def Seto(h:Heap)(S:Addr)(a:Array (Int×ah))(b:Nat)(t:gW):Prop:=∃o,h.get? S=some o/\o.ExactSet/\o.data= .set a b t/\t.fits a.size=true
theorem Seto.keep{h:Heap}{es:Array (Int×ah)}(x:Seto h S es ep t)(k:∀o,h.get? S=some o->h'.get? S=some o):Seto h' S es ep t:=let⟨o,a,r⟩:=x;⟨o,k o a,r⟩
theorem WY{src:Source}{Q:Nat->ak->Prop}(a:n≠0)(q:∀i d,i<n->Q i {s with drawn:=d}):aH M A (choose src n) Q E s:=λΓ p b=>by
 show Sem.wp M Γ (.choose src n .pure) _ _ p s;rw[Sem.wp_choose];exact⟨a,q _ _ (kF _ (Nat.pos_of_ne_zero a))⟩
theorem GH:∀ (l:List α) (i:Nat) (hi:i<l.length),(l[i]::l.eraseIdx i).Perm l
 |x::l,0,_=> .refl _
 |x::l,i+1,hi=>by
  have a:i<l.length:=by simpa using hi
  have b:=GH l i a;show List.Perm (l[i]::x::l.eraseIdx i) (x::l);exact(List.Perm.swap _ _ _).trans (lQ x b)
theorem JT:∀ (n:Nat) (a:List α) (s:ak) (Q:List α->ak->Prop),a.length=n->(∀j d,j.Perm a->Q j {s with drawn:=d})->aH M A (my n a) Q E s
 |0,a,s,Q,b,q=>by
  have e:a=[]:=gg b;subst e;unfold my;exact ag (q [] s.drawn .nil)
 |n+1,[],s,Q,b,q=>by cases b
 |n+1,x::a,s,Q,b,q=>by
  unfold my;refine ac (WY nC λi d hi=>?_);rw[ai hi]
  dsimp only
  refine ac (JT n _ _ _ (by rw[gQ hi];simp only[aM]at b⊢;lia) λj o r=>ag (q _ o ?_));exact(lQ _ r).trans (GH _ _ hi)
set_option tactic.hygienic true in
theorem Lp(next:Nat->Nat):∀ (n k:Nat) (l:List α) (out:Array α),l.length=n->(kL next n k l out).toList.Perm (out.toList++l)
 |0,k,l,out,a=>by
  have e:l=[]:=gg a;subst e;unfold kL;simp
 |n+1,k,l,out,a=>by
  unfold kL;have hi:next k%l.length<l.length:=kF _ nA;rw[ai hi]
  dsimp only
  refine(Lp next n (k+1) _ _ (by rw[gQ hi];lia)).trans ?_;rw[f3,e9];exact List.Perm.append_left _ (GH _ _ hi)
set_option tactic.hygienic true in
theorem Qg(next:Nat->Nat)(xs:Array α):(j3 next xs).toList.Perm xs.toList:=by
 have:=Lp next xs.size 0 xs.toList #[] nC;simpa[j3]using this
def Cm(t:gW)(i:Nat):Nat:=if i=0 then 0 else t.place.getD (i-1) 0+1
theorem Pj(r:Rise t.place)(hi:i<=t.place.size):b8 t.place (Cm t i)=i:=by
 unfold Cm
 cases i with
 |zero=>exact QR r
 |succ j=>
  rw[aB nA];have e:t.place[j]? =some (t.place.getD j 0):=by simp[jC,show j<t.place.size by lia]
  exact QS r e
theorem RH(a:t.fits n=true):t.place.size=n:=by
 simp only[SetTable.fits,aQ,bE]at a;exact a.1
set_option tactic.hygienic true in
theorem JO{es:Array (Int×ah)}{Q:Option (ah×Nat)->ak->Prop}(o:byT w=false)(x:t.plain=true\/es.size<=1)(y:t.led=true)(r:Rise t.place)(B:Seto s.heap S es ep t)(hi:i<=es.size)
 (q:Q ((es[i]?).map λe=>(e.2,Cm t (i+1))) s):aH (aR prog w) A (jP S (Cm t i) i ep) Q E s:=by
 obtain⟨os,b,G,d,a⟩:=B;have H:=RH a;unfold jP;refine ac (dP b d a ?_)
 dsimp only
 unfold lV;refine ac (ac (dC (ag ?_)));rw[aB (by show¬ (byT w=true);rw[o];decide)]
 split
 ·rename_i z
  have j:(!t.plain&&decide (es.size>1))=true:=z;rcases x with h|h
  ·rw[h]at j;cases j
  ·simp at j;lia
 ·refine ac ?_;show aH _ _ (if(!t.led&& !es.isEmpty)=true then _ else pure ()) _ _ _;rw[aB (by rw[y];simp)];refine ag ?_;rw[Pj r nA]
  by_cases h:i<es.size
  ·rw[bh h,bh (show i<t.place.size by lia)]at*
   refine ag ?_;have e:Cm t (i+1)=t.place[i]'(by lia)+1:=by unfold Cm;simp[jC,show i<t.place.size by lia]
   rw[e]at q;exact q
  ·rw[dB nA]at*
   exact ag q
theorem J5{es:Array (Int×ah)}{k:Nat}{Q:Option (ah×Nat)->ak->Prop}(j:byT w=true)(o:Seto s.heap S es ep t)
 (q:Q (((j3 (w.params.setOrder S ep) es)[i]?).map λe=>(e.2,k)) s):aH (aR prog w) A (jP S k i ep) Q E s:=by
 obtain⟨os,a,r,b,d⟩:=o;unfold jP setWalk;refine ac (dP a b d ?_)
 dsimp only
 unfold lV;refine ac (ac (dC (ag ?_)));rw[aO (by show byT w=true;exact j),aB nC];refine ac (ac (dP a b d ?_))
 dsimp only
 refine ac (ac (dC (ag ?_)));rw[aO (by show byT w=true;exact j)];exact ac (dC (ag (ag q)))
inductive Way (w:cX) (S:Addr) (h:Heap) (es:Array (Int×ah)) (ep:Nat) (t:gW):(Nat->ah)->List ah->Prop
 |places (hb:byT w=false) (hp:t.plain=true\/es.size<=1) (hl:t.led=true) (r:Rise t.place):Way w S h es ep t (λi=>d2 (Cm t i:Nat)) (es.toList.map (·.2))
 |text (hb:byT w=true):Way w S h es ep t (λ_=>d2 (0:Nat)) ((j3 (w.params.setOrder S ep) es).toList.map (·.2))
 |draws (T:Addr) (ps:List Nat) (o:Obj) (hT:h.get? T=some o) (hd:∃n,o.data= .seq (ps.map fun(i:Nat)=>d2 i).toArray n) (hp:ps.Perm (aw es.size)):Way w S h es ep t (λ_=> .ref T) (ps.map λi=>(es.getD i (0, .none)).2)
theorem Way.perm{h:Heap}{es:Array (Int×ah)}(x:Way w S h es ep t f ys):ys.Perm (es.toList.map (·.2)):=by
 cases x with
 |places=>exact .refl _
 |text=>exact(Qg _ _).map _
 |draws T d o e hd a=>
  refine(a.map _).trans (List.Perm.of_eq ?_);refine fX λi=>?_;have b:es.toList[i]? =es[i]? :=by simp
  rw[am,am,b]
  by_cases hi:i<es.size
  ·rw[aU hi,bh hi];simp[jC,hi]
  ·rw[dB nA,bL (by simp;lia)];rfl
set_option tactic.hygienic true in
theorem Qv{es:Array (Int×ah)}{y:ah}(x:Way w S s.heap es ep t f ys)(so:Seto s.heap S es ep t)(it:zQ1 s.heap I (f i) i S es.size ep)(a:ys[i]? =some y)(hf:t.fits es.size=true)
 (q:∀P,zQ1 P I (f (i+1)) (i+1) S es.size ep->bu I s.heap P->Q (some y) {s with heap:=P}):aH (aR prog w) A (fv (.ref I)) Q E s:=by
 obtain⟨o,J,Y,hd⟩:=id it.at_;obtain⟨os,b,L,d,z⟩:=so;unfold fv;refine ac (fI (cN (name:=f7 "__next__") it.ty si_next (df si_next it.ty Km ?_ (Le _))));unfold fc.«set_iterator.__next__»;refine ac (ag ?_);refine ac (wpAny_fieldsOf J hd ?_)
 dsimp only
 refine ac (gB b d z ?_);rw[aB nC];have two:∀ (k:Nat),f (i+1)=d2 k->aH (aR prog w) A.in1 (do setField (aj I) 0 (d2 k);setField (aj I) 1 (d2 (i+1));ret y)
  (λfin R=>∃v,fin=Fin.done (Flow.ret v)/\aH (aR prog w) A (pure (some v)) Q E R) (λe R=>aH (aR prog w) A (do let c<-jw e (dR "StopIteration");if c=true then pure none else throw e) Q E R) s:=by
  intro k hk;refine ac (di J hd nC ?_);have B:(iG (·.setIfInBounds 0 (d2 k)) o).data= .fields #[d2 k, .int i 0, .ref S, .int es.size 0, .int ep 0]:=by rw[cR hd];simp
  have M:=bN (iG (·.setIfInBounds 0 (d2 k))) J (dJ B);refine ac (di M B nC (ag ⟨y,rfl,ag (q _ ⟨_,bN _ M (dJ (cR B _)),?_,?_⟩ ((c7 ..).trans (c7 ..)))⟩))
  ·rw[fW,fW];exact Y
  ·rw[cR B,hk];simp[d2]
 cases x with
 |places U X hl r=>
  have hi:i<es.size:=by
   rcases kR i es.size with h|h
   ·exact h
   ·rw[bL (by simpa using h)]at a;cases a
  show aH _ _ (jP S (Cm t i:Int).toNat (i:Int).toNat (ep:Int).toNat>>=_) _ _ _;refine ac (JO U X hl r ⟨os,b,L,d,z⟩ (b9 hi) ?_);rw[am,cp,bh hi]at a;rw[bh hi];injection a with a
  subst a;exact two _ rfl
 |text U=>
  show aH _ _ (jP S 0 i ep>>=_) _ _ _;refine ac (J5 U ⟨os,b,L,d,z⟩ ?_);rw[am,cp]at a
  cases G:(j3 (w.params.setOrder S ep) es)[i]? with
  |none=>rw[G]at a;cases a
  |some e=>
   rw[G]at a;injection a with a
   subst a;exact two _ rfl
 |draws T Z oT hT H X=>
  obtain⟨nT,H⟩:=H;show aH _ _ (lw (.ref T)>>=_) _ _ _;refine ac (c9 hT H ?_);rw[am]at a
  cases G:Z[i]? with
  |none=>rw[G]at a;cases a
  |some j=>
   rw[G]at a;injection a with a
   have hj:j<es.size:=by
    have:j∈aw es.size:=X.mem_iff.mp (bV G);simpa using this
   have e1:((Z.map fun(i:Nat)=>d2 i).toArray)[(i:Int).toNat]? =some (.int (j:Int) 0):=by
    simp[G,d2]
   dsimp only
   rw[e1]
   dsimp only
   refine ac ?_;unfold setNextDrawn;refine ac (dP b d z ?_)
   dsimp only
   rw[aB nC];have e2:es[(j:Int).toNat]? =some es[j]:=by rw[d0];exact bh hj
   rw[e2];refine ag (ac (di J hd nC (ag ⟨_,rfl,ag ?_⟩)));have e3:es[j].2=y:=by rw[<-a];simp[jC,hj]
   rw[<-e3]at q;exact q _ ⟨_,bN _ J (dJ (cR hd _)),(fW ..).trans Y,by rw[cR hd];simp[d2]⟩ (c7 ..)
theorem IG{P:α->ak->Prop}(i:A.handled=none){h0:Heap}(k0:∀b o,b≠I->h0.get? b=some o->s.heap.get? b=some o)(q:∀d,(∀b o,b≠I->h0.get? b=some o->d.get? b=some o)->Q none {s with heap:=d}):
 aH (aR prog w) A.in1 (do let x<-newExc (dR "StopIteration") [];raiseNew x:Sem α) P (λe j=>aH (aR prog w) A (do let c<-jw e (dR "StopIteration");if c=true then pure none else throw e) Q E j) s:=by
 refine ac ?_;simp only[newExc,newTuple];refine ac (cM ?_ (show(0:Nat)<=sizeLine from bA _));refine ac (m:=hB _ _) (ln (a:=dc) (by simp only[hB];rfl) (cM ?_ (by size_fits)));refine wpAny_raiseNew_none (show A.in1.handled=none from i) ?_;refine ac (iM (b:=true) (T:="StopIteration") ⟨_,ap _ rfl,rfl⟩ isSubtype_stop ?_);exact ag (q _ λb o r e=>ae _ (ae _ (k0 b o r e)))
set_option tactic.hygienic true in
theorem Qw{es:Array (Int×ah)}(L:A.handled=none)(x:Way w S s.heap es ep t f ys)(U:Seto s.heap S es ep t)(it:zQ1 s.heap I (f es.size) es.size S es.size ep)
 (q:∀R,(∀b o,b≠I->s.heap.get? b=some o->R.get? b=some o)->Q none {s with heap:=R}):aH (aR prog w) A (fv (.ref I)) Q E s:=by
 obtain⟨o,B,hc,hd⟩:=id it.at_;obtain⟨os,d,G,j,y⟩:=U;have H:=x.perm.length_eq;unfold fv;refine ac (fI (cN (name:=f7 "__next__") it.ty si_next (df si_next it.ty Km ?_ (Le _))));unfold fc.«set_iterator.__next__»;refine ac (ag ?_);refine ac (wpAny_fieldsOf B hd ?_)
 dsimp only
 refine ac (gB d j y ?_);rw[aB nC];have up:∀ (g:Obj->Obj) (b:Addr) (o:Obj),b≠I->s.heap.get? b=some o->(s.heap.update I g).get? b=some o:=λg b o a e=>(bD _ _ (cI a)).trans e
 cases x with
 |places a M X r=>
  show aH _ _ (jP S (Cm t es.size) es.size ep>>=_) _ _ _;refine ac (JO a M X r ⟨os,d,G,j,y⟩ (ao _) ?_);rw[dB (ao _)];refine ac (di B hd nC ?_);exact IG L (up _) q
 |text a=>
  show aH _ _ (jP S 0 es.size ep>>=_) _ _ _;refine ac (J5 a ⟨os,d,G,j,y⟩ ?_);rw[dB (by simp at H;lia)];refine ac (di B hd nC ?_);exact IG L (up _) q
 |draws T Y oT Z z M=>
  obtain⟨nT,z⟩:=z;show aH _ _ (lw (.ref T)>>=_) _ _ _;refine ac (c9 Z z ?_);have e1:((Y.map fun(i:Nat)=>d2 i).toArray)[(es.size:Int).toNat]? =none:=by
   have:=M.length_eq;simp at this;simp;lia
  dsimp only
  rw[e1]
  dsimp only
  refine ac (di B hd nC ?_);have J:(iG (·.setIfInBounds 0 (d2 0)) o).data= .fields #[d2 0, .int es.size 0, .ref S, .int es.size 0, .int ep 0]:=by rw[cR hd];simp
  have P:=bN (iG (·.setIfInBounds 0 (d2 0))) B (dJ J);refine ac (di P J nC ?_);exact IG L (λb o a e=>(bD _ _ (cI a)).trans (up _ b o a e)) q
theorem Way.at{h:Heap}{es:Array (Int×ah)}(x:Way w S h es ep t f ys)(k:∀T,f 0= .ref T->∀o,h.get? T=some o->h'.get? T=some o):Way w S h' es ep t f ys:=by
 cases x with
 |places a b d r=>exact .places a b d r
 |text a=>exact .text a
 |draws T e o i hd b=>exact .draws T e o (k T rfl o i) hd b
set_option tactic.hygienic true in
theorem Sb{es:Array (Int×ah)}{Q:ah->ak->Prop}(R:Seto s.heap S es ep t)(tb:Tb (!byT w) t)(U:es.size<=sizeLine)
 (q:∀ (I:Addr) (z:Heap) d f X,Way w S z es ep t f X->zQ1 z I (f 0) 0 S es.size ep->s.1.1.size<=I->(∀T,f 0= .ref T->T≠I/\s.1.1.size<=T)->(∀b o,s.heap.get? b=some o->z.get? b=some o)->Q (.ref I) {s with heap:=z,drawn:=d}):
 aH (aR prog w) A (i8 (.ref S)) Q E s:=by
 obtain⟨os,a,G,j,r⟩:=id R;have M:s.TypeIs (.ref S) "set":=⟨os,a,G.1⟩;refine wpAny_pyIter_slot M F.slot_set_iter (df F.slot_set_iter M Oa ?_ (F.args_set_iter_1 _));unfold fc.«frozenset.__iter__» Builtin.Frozenset.slot0 slotArgs;simp only[List.isEmpty_nil,ko,dM,↓reduceIte,bind_assoc,gM,bne_self_eq_false];unfold Builtin.Frozenset.addrOf Builtin.Frozenset.sizeOf setDrawn lV;refine ac (ag ?_)
 try dsimp only
 refine ac (ag ?_);refine ac (ac (gB a j r (ag ?_)));refine ac (ac (dP a j r ?_))
 dsimp only
 refine ac (ac (dC (ag (ag ?_))))
 split
 ·refine ac (JT es.size (aw es.size) s _ nC λH d B=>?_);have J:H.length=es.size:=by rw[B.length_eq];simp
  refine ac (wpAny_newTuple ?_ (by rw[ax,J];exact U));have x:=ae ({cls:= .type "tuple",data:= .seq (H.map fun(i:Nat)=>d2 i).toArray}:Obj) a;refine ac (kt x j r ?_);refine ac (cM (ag ⟨_,rfl,"set_iterator",_,⟨_,ap _ rfl,rfl⟩,si_next.lookup,?_⟩));refine q _ _ d (λ_=> .ref s.1.1.size) _ (.draws s.1.1.size H _ (ae _ (ap _ rfl)) ⟨_,rfl⟩ B) ⟨_,ap _ rfl,rfl,rfl⟩ ?_ ?_ λb o e=>ae _ (ae _ e)
  ·show s.1.1.size<=(s.heap.push _).objs.size;rw[bB];exact gJ _
  ·intro T e;injection e with e
   subst e;refine⟨?_,ao _⟩;show s.1.1.size≠(s.heap.push _).objs.size;rw[bB];exact aN (bX _)
 ·rename_i nd
  refine ac (ag ?_);refine ac (kt a j r ?_);refine ac (cM (ag ⟨_,rfl,"set_iterator",_,⟨_,ap _ rfl,rfl⟩,si_next.lookup,?_⟩));have P:∀ (k:Nat) T,d2 (k:Int)=aj T->T≠s.1.1.size/\s.1.1.size<=T:=λk T e=>by cases e
  cases L:byT w with
  |true=>exact q _ _ s.drawn _ _ (.text L) ⟨_,ap _ rfl,rfl,rfl⟩ (ao _) (P 0) λb o e=>ae _ e
  |false=>
   have y:¬ ((!byT w&&(!t.plain&&decide (es.size>1)))=true):=nd;rw[L]at y tb;exact q _ _ s.drawn _ _ (.places L (by cases B:t.plain<;>simp[B]at y⊢;lia) tb.2 tb.1) ⟨_,ap _ rfl,rfl,rfl⟩ (ao _) (P 0) λb o e=>ae _ e
theorem QM{L:Addr}{es:Array (Int×ah)}(hh:A.handled=none)(r:L≠I)(P:L≠S)(Q:S≠I)(hT:∀T,f 0= .ref T->T≠I/\T≠L)(hz:es.size<=sizeLine)(res:ah):
 ∀ (k i:Nat) (s:ak) (a:Array ah) (c:Nat),es.size-i=k->i<=es.size->Way w S s.heap es ep t f ys->Seto s.heap S es ep t->zQ1 s.heap I (f i) i S es.size ep->s.heap.get? L=some {cls:= .type "list",dict:=none,data:= .seq a c,slots:= #[]}->a.toList=ys.take i->
 (∀y d U,(∀b o,b≠I->b≠L->s.heap.get? b=some o->y.get? b=some o)->y.get? L=some {cls:= .type "list",dict:=none,data:= .seq d U,slots:= #[]}->d.toList=ys->R (.ok (.ret res)) {s with heap:=y})->
 dt (aR prog w) A (.builtin "list.extend.loop" ⟨[.ref L, .ref I,res],[]⟩) R s:=by
 intro k
 induction k with
 |zero=>
  intro i s a c hk hi x B it X J q;have e:i=es.size:=by lia
  subst e;have j:ys.length=es.size:=by rw[x.perm.length_eq];simp
  refine cE F.entry_extend_loop ?_;rw[ci F.plain_extend_loop _];show aH _ A.in1 (fv (.ref I)>>=_) _ _ s;refine ac (Qw (show A.in1.handled=none from hh) x B it λy kp=>ag (q y a c (λb o M _ e=>kp b o M e) (kp L _ r X) ?_));rw[J,<-j,dD]
 |succ k ih=>
  intro i s a c hk hi x B it X J q;have lt:i<es.size:=by lia
  have j:ys.length=es.size:=by rw[x.perm.length_eq];simp
  have hy:ys[i]? =some (ys[i]'(by lia)):=ai _;refine cE F.entry_extend_loop ?_;rw[ci F.plain_extend_loop _];show aH _ A.in1 (fv (.ref I)>>=_) _ _ s;refine ac (Qv x B it hy (let⟨_,_,_,_,z⟩:=B;z) λh1 Y sb=>?_);have kp:∀b o,b≠I->s.heap.get? b=some o->h1.get? b=some o:=λb o hb e=>by rw[sb.2 b hb];exact e
  have G:=kp L _ r X;have H:a.size=i:=by rw[<-cL,J,cc];lia
  show aH _ A.in1 (mq L (·.push (ys[i]'(by lia)))>>=_) _ _ _;refine ac (i4 G rfl (ag ⟨eY F.plain_extend_loop _,ih (i+1) _ (a.push (ys[i]'(by lia))) _ nA lt (x.at λT e o eo=>?_) (B.keep λo e=>?_) (Y.keep λo e=>?_) (bN _ G rfl) ?_ λh2 d U Z hL2 ha2=>?_⟩) (by rw[H];lia) (by show(a.push _).size<=sizeLine+1;rw[lO,H];lia))
  ·exact(bD _ _ (cI (hT T e).2)).trans (kp T o (hT T e).1 eo)
  ·exact(bD _ _ P).trans (kp S o Q e)
  ·exact(bD _ _ r).trans e
  ·rw[f3,J,cy,hy];rfl
  ·exact q h2 d U (λb o M b2 e=>Z b o M b2 ((bD _ _ (cI b2)).trans (kp b o M e))) hL2 ha2
end
section
variable{s:ak}
open Builtin.List in
theorem Se{Q:Bool->ak->Prop}(d:s.TypeIs (.ref S) "set")(q:Q false s):aH (aR prog w) A (listLengthHint (.ref S)) Q E s:=by
 unfold listLengthHint;refine ac (lm d F.slot_set_len.lookup ?_);generalize a:("set.__len__":String)=e
 wp_delta
 rw[show splitId e=some ("set","__len__")from by subst a;decide +kernel];subst a;refine ac (iM (b:=true) d sub_set_self ?_);rw[aB nv];show aH _ _ (if _=true then _ else _) _ _ _;rw[aO nB];refine ac (wpAny_typeOf d ?_);exact ag q
theorem Ph{es:Array (Int×ah)}{Q:List ah->ak->Prop}(hh:A.handled=none)(so:Seto s.heap S es ep t)(tb:Tb (!byT w) t)(hz:es.size<sizeLine)
 (q:∀U d M,M.Perm (es.toList.map (·.2))->(∀b o,s.heap.get? b=some o->U.get? b=some o)->s.1.1.size<=U.objs.size->Q M {s with heap:=U,drawn:=d}):aH (aR prog w) A (collect (.ref S)) Q E s:=by
 have X:S<s.1.1.size:=let⟨o,ho,_⟩:=so;au ho;unfold collect;refine ac (wpAny_runValue (cE F.entry_proto_collect ?_));rw[ci F.plain_proto_collect _];show aH _ A.in1 (l8 []>>=λl=>m7 (.builtin "list.__iadd__" ⟨[l, .ref S],[]⟩)) _ _ s;refine ac (cM (ag ⟨eY F.plain_list_iadd _,cE F.entry_list_iadd ?_⟩));rw[ci F.plain_list_iadd _];generalize y:({cls:= .type "list",data:= .seq ([]:List ah).toArray}:Obj)=lo;have gL:(s.heap.push lo).get? s.1.1.size=some lo:=ap _ (by subst y;rfl);have i:Seto (s.heap.push lo) S es ep t:=so.keep λo e=>ae _ e;obtain⟨os,z,B,hds,hfs⟩:=id i;have hT:mh {s with heap:=s.heap.push lo} (.ref S) "set":=⟨os,z,B.1⟩;show aH _ A.in1 (gO (.ref s.1.1.size) (.ref S) (.ref s.1.1.size)) _ _ _;unfold gO;refine ac (wpAny_typeOf hT ?_);have P:iw (.ref s.1.1.size) (.ref S)=false:=by
  have:¬s.1.1.size=S:=eL X;simp[iw,this]
 rw[aB (by rw[P];decide)];refine ac (Sb i tb (b9 hz) λI P d f M x it R j kp=>?_);have G:=kp _ _ gL;refine ac (cH (Se ⟨os,kp _ _ z,B.1⟩ ?_));rw[aO nB];refine ac (eS ?_);refine ac ?_;show aH _ A.in1 (mq s.1.1.size (·.push .none)>>=λ_=>mq s.1.1.size (·.pop)) _ _ _;subst y;refine ac (i4 G rfl ?_);have H:=bN (fy (·.push dc)) G rfl;refine i4 H rfl ?_;have Y:=bN (fy (·.pop)) H rfl;have Z:(s.heap.push ({cls:= .type "list",data:= .seq ([]:List ah).toArray}:Obj)).objs.size=s.1.1.size+1:=bB ..;rw[Z]at R j;have a:∀b o,b≠s.1.1.size->P.get? b=some o->((P.update s.1.1.size (fy (·.push dc))).update s.1.1.size (fy (·.pop))).get? b=some o:=
  λb o r e=>(bD _ _ (cI r)).trans ((bD _ _ (cI r)).trans e)
 have J:s.1.1.size≠I:=aN R;have nS:S≠s.1.1.size:=aN X;have nSI:S≠I:=aN (dL X R);have nT:∀T,f 0= .ref T->T≠I/\T≠s.1.1.size:=λT e=>⟨(j T e).1,eL (j T e).2⟩;refine ag ⟨eY F.plain_extend_loop _,QM (show A.handled=none from hh) J (cI nS) nSI nT (b9 hz) _ es.size 0 _ _ _ rfl (bA _) (x.at λT e o eo=>a T o (nT T e).2 eo) ((i.keep λo e=>kp S o e).keep λo e=>a S o nS e) (it.keep λo e=>a I o (cI J) e) Y rfl λh2 acc' c' kp2 L ha=>?_⟩;show aH _ A (load s.1.1.size>>=_) _ _ _;refine ac (wpAny_load L ?_);refine ag ?_;rw[ha];refine q h2 d M x.perm (λb o e=>?_) (b9 (au L));have r:b<s.1.1.size:=au e;exact kp2 b o (aN (dL r R)) (aN r) (a b o (aN r) (kp b o (ae _ e)))
theorem IntsAre.of_perm{vs:List ah}(p:vs.Perm us):∀ {ns:List Int},hU us ns->∃a,hU vs a/\a.Perm ns:=by
 induction p with
 |nil=>intro ns h;exact⟨ns,h, .refl _⟩
 |cons x _ j=>intro ns h;cases h with|cons n t h=>obtain⟨a,b,d⟩:=j h;exact⟨n::a, .cons n t b,d.cons n⟩
 |swap x y l=>intro ns h;cases h with|cons n t h=>cases h with|cons m u h=>exact⟨m::n::_, .cons m u (.cons n t h), .swap _ _ _⟩
 |trans _ _ e i=>intro ns h;obtain⟨a,b,d⟩:=i h;obtain⟨o,q,r⟩:=e b;exact⟨o,q,r.trans d⟩
end
end BrT
open BrT
namespace L2
section
variable{np cpos sp pos:Pos}
theorem Inv.drawn{σ:zQ0}{s:ak}(I:Inv X pins σ H s)(d:Drawn):Inv X pins σ H {s with drawn:=d}:=⟨I.ok,I.os,I.bare,I.base,I.loc,I.cell,I.free,I.freeC,I.pin,I.hok,I.len⟩
end
end L2
namespace BrT
section
variable{s:ak}
theorem sorted_setB(hh:A.handled=none)(i:SI prog w (!byT w) s.heap S ms)(z:∀x∈ms,(0:Int)<=x/\x<63)
 (q:∀ (L:Addr) (B:Heap) d (vs:List ah) (ns:List Int) (e:Nat),s.1.1.size<=L->B.get? L=some (seqObj "list" vs.toArray e)->(∀b o,s.heap.get? b=some o->B.get? b=some o)->hU vs ns->ns.Pairwise (· < ·)->(∀k,k∈ns↔k∈ms)->ns.length<=63->Q (.ref L) {s with heap:=B,drawn:=d}):
 aH (aR prog w) A (call (.builtin "sorted") [.ref S]) Q E s:=by
 obtain⟨o,X,ep,t,ho,G,hd,H,y,j,hsz,hf,I⟩:=i;have J:X.size<=63:=by
  have r:=List.Nodup.length_le_of_subset y (l₂:=(aw 63).map λn:Nat=>(n:Int)) λx hx=>by
   obtain⟨r,h2⟩:=z x ((j x).mp hx);exact cg.mpr ⟨x.toNat,by simp;lia,by lia⟩
  simpa using r
 refine Calls.call_function_entry kind_sorted plain_sorted entry_sorted (args_sorted1 _) ?_;unfold fc.«sorted»;refine ac (m:=checkCount "sorted" 1 1 _) (ag ?_);refine ac (Ph (show A.in1.handled=none from hh) ⟨o,ho,G,hd,hf⟩ I (by rw[cj];lia) λr d M Y kp P=>?_);obtain⟨ks,hI,R⟩:=IntsAre.of_perm Y (L7 H);have T:M.length<64:=by rw[Y.length_eq];simp;lia
 refine ac (wpAny_newList ?_ (by rw[cj];lia));have U:(r.push (seqObj "list" M.toArray 0)).get? r.objs.size=some (seqObj "list" M.toArray 0):=ap _ rfl;refine ac (cH (df slot_list_sort ⟨_,U,rfl⟩ entry_list_sort (list_sort_tree U hI T λout ns a1 a2 a3=>⟨_,rfl,?_⟩) (args_list_sort _)));refine ag ⟨_,rfl,?_⟩;obtain⟨e,he⟩:=sortedHeap_at (out:=out) U;have a:ns.Perm (X.toList.map keyOf):=a2.trans R;refine q r.objs.size _ d out.toList ns e P (by rw[Array.toArray_toList];exact he) (λb o Z=>?_) a1 ?_ (λk=>(a.mem_iff).trans (j k)) (by rw[a.length_eq];simp;exact J)
 ·have hb:=au (kp b o Z);rw[sortedHeap_old (aN hb) (by rw[size_push'];exact ce hb)];exact ae _ (kp b o Z)
 ·have hn:ns.Nodup:=a.nodup_iff.mpr y;exact kJ (λh=>by lia) (List.Pairwise.and a3 hn)
end
end BrT
namespace L2
variable{D:Addr}{elt iter1 target tg1:Expr}{ifs1:List Expr}{i0 i1:Nat}{wi wi1:TI}{tt1:TT}{Q:VK}{acc:ah}{Qo:ah->ak->Prop}
section
variable{np cpos sp pos:Pos}
def Nf(K:W.Frag)(te:TE):TE:=λσ H Q=>te σ H λv b=>∃ (l:Addr) (a:List Int),v= .ref l/\SqL K b l (a.map V.int)/\a.length<=4000/\(∀x∈a,(0:Int)<=x/\x<63)/\
 ∀ (p:Addr) (ns:List Int),b p=none->ns.Pairwise (· < ·)->(∀k:Int,k∈ns↔k∈a)->ns.length<=63->Q (.ref p) (upd b p (.lst (ns.map V.int)))
theorem SF(K:W.Frag)(j:X.mg "set"=none)(r:X.mg "sorted"=none){k:Nat}(hr:Room k X.A)(P:X.calm=true)(Z:PE X e te)(hK:X.K=K:=by rfl)(x:Gl X "set":=by rfl)(y:Gl X "sorted":=by rfl)
 (R:aL [e] X.env=[(false,eval e X.env)]:=by rfl) (B:aL [.Call (.Name "set" np) [e] [] cpos] X.env=[(false,eval (.Call (.Name "set" np) [e] [] cpos) X.env)]:=by rfl):
 PE X (.Call (.Name "sorted" sp) [.Call (.Name "set" np) [e] [] cpos] [] pos) (Nf K te):=by
 subst hK;intro pins s σ H Q I h;refine ck (CP I y r PyProof.Rows.boot_sorted ?_);refine f8 ?_ B rfl;rw[B];show aH _ _ (mJ [(false,eval (.Call (.Name "set" np) [e] [] cpos) X.env)]) _ _ _;refine fQ ?_;refine ck (CP I x j PyProof.Rows.boot_set ?_);refine bY ?_ R rfl;rw[R];show aH _ _ (mJ [(false,eval e X.env)]) _ _ _;refine fQ (thn (Z pins s σ H _ I h) λu S ⟨v,H1,i,r1,q1⟩=>fZ ?_);obtain⟨l,ms,rfl,hq,hz,a,q⟩:=q1
 cases r1
 obtain⟨its,rr,ht,_⟩:=i.list hq;have hi:=Jh rr;refine BrT.call_set (i.ok.hd P) ht.isList hi (by unfold gE;lia) λT G hS kp hlt=>fZ ?_;have U:Inv X pins σ H1 {S with heap:=T,toks:=G}:=i.kept λb o z=>kp b o (au z) z;refine BrT.sorted_setB (s:={S with heap:=T,toks:=G}) (i.ok.hd P) hS a λL B d vs ns ep Y gL J hI hp hm M=>?_;refine⟨.ref L,_,(U.laid (t':=G) (o:= .lst (ns.map V.int)) J Y ⟨?_,vs,ep,GJ hI,gL⟩).drawn d,rfl,q L ns (U.hok.fresh Y) hp hm M⟩;rw[ax,cj];lia
theorem TH{σ:zQ0}(h:te σ H λv b=>∃ (l:Addr) (a:List Int),v= .ref l/\SqL K b l (a.map V.int)/\a.length<=4000/\(∀x∈a,(0:Int)<=x/\x<63)/\∀ (p:Addr) (ns:List Int),b p=none->ns.Pairwise (· < ·)->(∀k:Int,k∈ns↔k∈a)->ns.length<=63->Q (.ref p) (upd b p (.lst (ns.map V.int)))):Nf K te σ H Q:=h
end
section
variable{s:ak}
theorem Pp(e target iter b a:Expr)(ifs d:List Expr)(scope:gu)(pos:Pos)(it i:ah)(env:Env):
 lh (.ListComp e [⟨target,iter,ifs,0⟩,⟨b,a,d,0⟩] scope pos) 0 it i env=(do
  gb iter.pos
  match<-fv it with
  |none=>pure (.done .next)
  |some v=>
   cO target it v
   gV target env v
   let mut ok:=true
   for c in ifs do
    if ok then ok<-j5 c env (eval c env)
   if ok then
    let x<-eval a env
    gb a.pos
    let x<-cu a env x
    let _<-runOwn (.compStart (.ListComp e [⟨target,iter,ifs,0⟩,⟨b,a,d,0⟩] scope pos) 1 (<-fV [x] (i8 x)) i env) env
   m7 (.compLoop (.ListComp e [⟨target,iter,ifs,0⟩,⟨b,a,d,0⟩] scope pos) 0 it i env)):=by rfl
theorem Pq(e target iter a b:Expr)(ifs d:List Expr)(scope:gu)(pos:Pos)(it i:ah)(env:Env):
 lh (.ListComp e [⟨target,iter,ifs,0⟩,⟨a,b,d,0⟩] scope pos) 1 it i env=(do
  gb b.pos
  match<-fv it with
  |none=>pure (.done .next)
  |some v=>
   cO a it v
   gV a env v
   let mut ok:=true
   for c in d do
    if ok then ok<-j5 c env (eval c env)
   if ok then
    (do let _<-call (.builtin "list.append") [i,<-eval e env])
   m7 (.compLoop (.ListComp e [⟨target,iter,ifs,0⟩,⟨a,b,d,0⟩] scope pos) 1 it i env)):=by rfl
theorem O9{iter target1:Expr}{pos:Pos}{it:ah}(H:∀x,cu iter1 env x=pure x)(I:Nat->ak->Prop)
 (turn:∀n s,I n s->aH (aR prog w) A (fv it) (λr b=>match r with
   |none=>R (.ok .next) b
   |some v=>aH (aR prog w) A (cO target it v) (λ_ e=>aH (aR prog w) A (gV target env v) (λ_ i=>
     aH (aR prog w) A (forIn ifs true λc r=>if r=true then do let ok<-j5 c env (eval c env);pure (bw ok)else pure (bw r)) (λok d=>
      if ok=true then aH (aR prog w) A (eval iter1 env) (λx j=>aH (aR prog w) A (i8 x) (λa o=>
       dt (aR prog w) A (.compStart (.ListComp elt [⟨target,iter,ifs,0⟩,⟨target1,iter1,ifs1,0⟩] scope pos) 1 a acc env) (λr y=>r= .ok .next/\∃m,m<n/\I m y) o) (λ_ _=>False) j) (λ_ _=>False) d
      else∃m,m<n/\I m d) (λ_ _=>False) i) (λ_ _=>False) e) (λ_ _=>False) b) (λ_ _=>False) s)
 (n:Nat) (h:I n s):
 dt (aR prog w) A (.compLoop (.ListComp elt [⟨target,iter,ifs,0⟩,⟨target1,iter1,ifs1,0⟩] scope pos) 0 it acc env) R s:=by
 refine kM rfl I (λn s J=>?_) n h;show aH _ A ((lh (.ListComp elt [⟨target,iter,ifs,0⟩,⟨target1,iter1,ifs1,0⟩] scope pos) 0 it acc env).onRaise (λx=>do lB x env;i7 x)) _ _ s;refine lr ?_;rw[Pp];refine ac (dg (ac (aZ (turn n s J) (λr b B=>?_) λ_ _ z=>z.elim)))
 cases r with
 |none=>exact ag B
 |some v=>
  refine ac (aZ B (λ_ e h0=>ac (aZ h0 (λ_ i L=>ac (aZ L (λok d G=>?_) λ_ _ z=>z.elim)) λ_ _ z=>z.elim)) λ_ _ z=>z.elim)
  cases ok with
  |false=>exact ag ⟨rfl,G⟩
  |true=>
   refine ac (aZ G (λx j M=>ac (dg ?_)) λ_ _ z=>z.elim);rw[H x];refine ac (ag (ac (cH (aZ M (λa o P=>ac (wpAny_runOwn (dj P λr y ⟨Q,q⟩=>?_))) λ_ _ z=>z.elim))));subst Q;exact ag ⟨rfl,q⟩
theorem Pb{iter target1:Expr}{pos:Pos}{it:ah}(I:Nat->ak->Prop)
 (turn:∀n s,I n s->aH (aR prog w) A (fv it) (λr a=>match r with
   |none=>R (.ok .next) a
   |some v=>aH (aR prog w) A (cO target1 it v) (λ_ d=>aH (aR prog w) A (gV target1 env v) (λ_ e=>
     aH (aR prog w) A (forIn ifs1 true λc r=>if r=true then do let ok<-j5 c env (eval c env);pure (bw ok)else pure (bw r)) (λok b=>
      if ok=true then aH (aR prog w) A (eval elt env) (λx i=>aH (aR prog w) A (call (.builtin "list.append") [acc,x]) (λ_ j=>∃m,m<n/\I m j) (λ_ _=>False) i) (λ_ _=>False) b
      else∃m,m<n/\I m b) (λ_ _=>False) e) (λ_ _=>False) d) (λ_ _=>False) a) (λ_ _=>False) s)
 (n:Nat) (h:I n s):
 dt (aR prog w) A (.compLoop (.ListComp elt [⟨target,iter,ifs,0⟩,⟨target1,iter1,ifs1,0⟩] scope pos) 1 it acc env) R s:=by
 refine kM rfl I (λn s y=>?_) n h;show aH _ A ((lh (.ListComp elt [⟨target,iter,ifs,0⟩,⟨target1,iter1,ifs1,0⟩] scope pos) 1 it acc env).onRaise (λx=>do lB x env;i7 x)) _ _ s;refine lr ?_;rw[Pq];refine ac (dg (ac (aZ (turn n s y) (λr a o=>?_) λ_ _ z=>z.elim)))
 cases r with
 |none=>exact ag o
 |some v=>
  refine ac (aZ o (λ_ d h0=>ac (aZ h0 (λ_ e B=>ac (aZ B (λok b q=>?_) λ_ _ z=>z.elim)) λ_ _ z=>z.elim)) λ_ _ z=>z.elim)
  cases ok with
  |false=>exact ag ⟨rfl,q⟩
  |true=>
   exact ac (ac (aZ q (λx i G=>ac (aZ G (λ_ j H=>ag (ag ⟨rfl,H⟩)) λ_ _ z=>z.elim)) λ_ _ z=>z.elim))
theorem Pd{iter target1:Expr}{pos:Pos}{it:ah}
 (h0:dt (aR prog w) A (.compLoop (.ListComp elt [⟨target,iter,ifs,0⟩,⟨target1,iter1,ifs1,0⟩] scope pos) 1 it acc env) R s)
 (h:aH (aR prog w) A (i8 it) (λa b=>dt (aR prog w) A (.compLoop (.ListComp elt [⟨target,iter,ifs,0⟩,⟨target1,iter1,ifs1,0⟩] scope pos) 1 a acc env) R b) (notedBy (aR prog w) A env λx b=>R (.error x) b) s):
 dt (aR prog w) A (.compStart (.ListComp elt [⟨target,iter,ifs,0⟩,⟨target1,iter1,ifs1,0⟩] scope pos) 1 it acc env) R s:=by
 refine ja ?_;show aH _ _ ((compStart (.ListComp elt [⟨target,iter,ifs,0⟩,⟨target1,iter1,ifs1,0⟩] scope pos) 1 it acc env).onRaise (λx=>do lB x env;gb theWindowsPlace)) _ _ s;refine wpAny_notedAt ?_;unfold compStart;show aH _ _ (ask>>=_) _ _ s;refine ac (dC (wpAny_ite ?_))
 split
 ·first
   |exact ac (ag (ag ⟨rfl,h0⟩))
   |exact ag ⟨rfl,h0⟩
 ·first
   |exact ac (eS (ac (dg (ac (aZ h (λa b d=>ag ⟨rfl,d⟩) λ_ _ x=>x)))))
   |(refine ac (eS ?_);show aH _ _ (gb iter1.pos>>=_) _ _ s;exact ac (dg (ac (aZ h (λa b d=>ag ⟨rfl,d⟩) λ_ _ x=>x))))
end
def ER(D:Addr)(e:TI)(q:Nat)(j:TT)(B:TE)(σ:zQ0)(H:Hp)(N:Hp->Prop):Prop:=e σ H λJ G=>∃W:Nat->Nat->Hp->Prop,(∃m,W 0 m G)/\∀i m a,W i m a->
 (J.stop i a/\N a)\/(J.go i a/\∀x r,J.yld i a x r->j (σ.set q (some x)) r λb y=>
   if b=true then B (σ.set q (some x)) y λv z=>∃o,z D=some (.lst o)/\o.length<sizeLine/\∃d,d<m/\W (i+1) d (upd z D (.lst (o++[v])))
   else∃d,d<m/\W (i+1) d y)
def Hl(own:List Str)(sel:List Nat)(z:TI)(o:Nat)(B:TT)(e:TI)(G:Nat)(j:TT)(I:TE):TE:=λσ H Q=>z σ H λJ q=>∀D,q D=none->
 ∃W:Nat->Nat->Hp->Prop,(∃m,W 0 m (upd q D (.lst [])))/\∀i m a,W i m a->
  (J.stop i a/\Q (.ref D) a)\/(J.go i a/\∀x r,J.yld i a x r->B ((AY own sel σ).set o (some x)) r λb y=>
    if b=true then ER D e G j I ((AY own sel σ).set o (some x)) y λL=>∃d,d<m/\W (i+1) d L
    else∃d,d<m/\W (i+1) d y)
section
variable{Y:Cx}
theorem QL{iter:Expr}{pos:Pos}(M:Y.xe=λ_ _=>False)(hc:Y.calm=true)(hi1:PI Y tg1 iter1 wi1)(hg1:PG Y tg1 (BG i1))(ht1:PIf Y ifs1 tt1)(he:PE Y elt te)
 {pins:List (Addr×Obj)} {s:ak} {σ:zQ0} {H:Hp} {N:Hp->Prop} (I0:Inv Y pins σ H s) (hσ:σ[i1]? =some none) (h:ER D wi1 i1 tt1 te σ H N) {R:m5->ak->Prop} (fin:∀H' P,Inv Y pins σ H' P->N H'->R (.ok .next) P):
 aH (aR Y.prog Y.w) Y.A (eval iter1 Y.env) (λx s4=>aH (aR Y.prog Y.w) Y.A (i8 x) (λit1 s5=>dt (aR Y.prog Y.w) Y.A (.compStart (.ListComp elt [⟨tg,iter,ifs,0⟩,⟨tg1,iter1,ifs1,0⟩] scope pos) 1 it1 (.ref D) Y.env) R s5) (λ_ _=>False) s4) (λ_ _=>False) s:=by
 have hi:=hi1 pins s σ H _ I0 h;rw[M]at hi;refine thn hi λv s1 h1=>thn h1 λitv s2 h2=>?_;obtain⟨it,fp,tn,J,H2,e,I2,T,Q,f2,W,⟨m0,w0⟩,turn⟩:=h2;subst e;have a:∀ {H':Hp},(∀b∈fp,H' b=none)->∀b∈fp,BQ Y pins H' b:=λhn b B=>⟨hn b B,(f2 b B).2⟩;have loop:dt (aR Y.prog Y.w) Y.A (.compLoop (.ListComp elt [⟨tg,iter,ifs,0⟩,⟨tg1,iter1,ifs1,0⟩] scope pos) 1 (.ref it) (.ref D) Y.env) R s2:=by
  refine Pb (λn P=>∃i H',Inv Y pins σ H' P/\tn i P.heap/\(∀b∈fp,H' b=none)/\W i n H') ?_ m0 ⟨0,H2,I2,Q,λb B=>(f2 b B).1,w0⟩;rintro n s4 ⟨i,H4,I4,S,U,w4⟩;rcases turn i n H4 w4 with⟨stop,q⟩|⟨go,step⟩
  ·refine thn (T.done Y rfl rfl rfl hc i pins s4 σ H4 (λ_ _=>False) I4 (a U) S stop) λr s5 y=>?_;obtain⟨hr,I5⟩:=y;subst hr;exact fin _ _ I5 q
  ·refine thn (T.item Y rfl rfl rfl hc i pins s4 σ H4 (λ_ _=>False) I4 (a U) S go) λr s5 y=>?_;obtain⟨u,hr,h5⟩:=y;subst hr;refine thn h5 λ_ s6 y=>?_;obtain⟨x,H6,I6,r6,y6,G,fr6⟩:=y;have I6':=I6.pinned (a fr6) (T.obj _ _ G);have back:∀ {I:Hp} {L:ak},Inv Y (pins++DN fp s6.heap) (σ.set i1 (some x)) I L->(∃z,z<n/\W (i+1) z I)->∃z,z<n/\∃i H',Inv Y pins σ H' L/\tn i L.heap/\(∀b∈fp,H' b=none)/\W i z H':=fun{I L} Z w7=>by
    obtain⟨z,hm,w7⟩:=w7;refine⟨z,hm,i+1,I,Z.unpinned.weak nC λj v e=>?_,T.keep _ _ _ G λb B o e=>(Z.pin (b,o) (aP _ (aP _ (Cy B e)))).1,λb B=>?_,w7⟩
    ·by_cases hj:i1=j
     ·subst hj;rw[hσ]at e;cases e
     ·rw[bW hj];exact e
    ·obtain⟨o,e,d⟩:=T.obj _ _ G b B;exact(Z.pin (b,o) (aP _ (aP _ (Cy B e)))).2.1
   have ga:=hg1 _ s6 _ H6 x u _ I6' r6 (show BG i1 x σ H6 (λσ' H'=>σ'=σ.set i1 (some x)/\H'=H6)from⟨rfl,rfl⟩);rw[M]at ga;refine thn ga λ_ L y=>?_;obtain⟨σ7,I,Z,e7,e7'⟩:=y;subst e7;subst e7';have ta:=ht1 _ L _ _ _ Z (step x I y6);rw[M]at ta;refine thn ta λb s8 y=>?_;obtain⟨H8,I8,q8⟩:=y
   cases b with
   |false=>
    rw[aB aq]at q8⊢;exact back I8 q8
   |true=>
    rw[aO rfl]at q8⊢;have ea:=he _ s8 _ H8 _ I8 q8;rw[M]at ea;refine thn ea λv s9 y=>?_;obtain⟨x9,H9,I9,r9,ys,hD9,hz9,q9⟩:=y;have aa:=B4 (X:=Y) _ s9 _ H9 (.ref D) [x9] (.ref D) [v] (λ_ H'=>∃z,z<n/\W (i+1) z H') I9 rfl (.cons r9 .nil) ⟨D,ys,x9,rfl,rfl,hD9,hz9,q9⟩;rw[M]at aa;exact thn aa λ_ s10 ⟨_,H10,I10,_,q10⟩=>back I10 q10
 exact Pd loop (T.self Y.A 0 _ _ _ Q loop)
end
theorem QP{iter:Expr}{pos:Pos}{use:Option (ah->Sem Unit)}
 (S:CompOk X.env.scope X.N own sel scope) (hc:X.calm=true) (hi:PI X tg iter wi)
 (h01:i0≠i1/\i0<own.length/\i1<own.length) (hg:∀cl C G L fp,PG (Bi X own sel scope cl C G L fp) tg (BG i0))
 (ht:∀cl C G L fp,PIf (Bi X own sel scope cl C G L fp) ifs tt) (hi1:∀cl C G L fp,PI (Bi X own sel scope cl C G L fp) tg1 iter1 wi1) (hg1:∀cl C G L fp,PG (Bi X own sel scope cl C G L fp) tg1 (BG i1)) (ht1:∀cl C G L fp,PIf (Bi X own sel scope cl C G L fp) ifs1 tt1) (he:∀cl C G L fp,PE (Bi X own sel scope cl C G L fp) elt te)
 (hs:∀x,cu iter X.env x=pure x) (hs1:∀cl C G L fp x,cu iter1 (Bi X own sel scope cl C G L fp).env x=pure x) {pins:List (Addr×Obj)} {s:ak} {σ:zQ0} {H:Hp} {Q:VK} {ps:Pos} (I0:Inv X pins σ H s) (h:Hl own sel wi i0 tt wi1 i1 tt1 te σ H Q)
 (fin:∀ (D C:Addr) (H':Hp) (s':ak) (m:Str->Option ah),Inv X pins σ H' s'->s'.heap.Ns C m->Far X pins H' C->Q (.ref D) H'->j7 (aR X.prog X.w) X.A X.xe use Qo (.ref D) C (.ok .next) s'):
 aH (aR X.prog X.w) X.A (iC (.ListComp elt [⟨tg,iter,ifs,0⟩,⟨tg1,iter1,ifs1,0⟩] scope pos) scope X.env ps (l8 []) false (eval iter X.env) use) Qo X.xe s:=by
 obtain⟨cl,hclos,U,hfree⟩:=MK (scope:=scope) (env:=X.env) λy hy e=>I0.ok.has y.1 (S.free y hy e);refine hZ (use:=use) rfl hs hclos S.kind S.names (thn (hi pins s σ H _ I0 h) λv s1 h1=>thn h1 λitv G h2=>?_);obtain⟨it,fp,tn,J,L,e,I,T,st2,f2,h3⟩:=h2;subst e;clear h h1 I0;refine cM (wpAny_newFunctionEnv S.cell (by intro y hy;simp at hy) (λh1 Z P=>?_) S.kind)
 dsimp only at Z P⊢
 generalize hP:G.heap.push {cls:= .type "list",dict:=none,data:= .seq ([]:List ah).toArray}=P1 at Z P⊢;generalize hD:G.1.1.size=D at Z P⊢;generalize hC:P1.objs.size=C at Z P⊢;have hCD:C=D+1:=by rw[<-hC,<-hP,bB,hD]
 have hlt:D<C:=by rw[hCD];exact bX D
 have hDC:D≠C:=aN hlt;have neC:∀b:Addr,b<D->b≠C:=λb B=>aN (dL B hlt);have neD:∀b:Addr,b<D->b≠D:=λb B=>aN B;have hsD:G.1.1.size<=D:=fA hD;have hsC:G.1.1.size<=C:=bj hsD (b9 hlt);have m6:∀a,D<=a->L a=none:=λa ha=>I.hok.fresh (by rw[hD];exact ha);have hnD:L D=none:=m6 D (ao _);have hnC:L C=none:=m6 C (b9 hlt);have below:∀b o,G.heap.get? b=some o->b<D:=λb o e=>by rw[<-hD];exact au e
 have M:∀b o,G.heap.get? b=some o->h1.get? b=some o:=λb o e=>
  P.extBut b o (neC b (below b o e)) (ae _ (hP▸ae _ e))
 have gD:h1.get? D=some {cls:= .type "list",dict:=none,data:= .seq ([]:List ah).toArray}:=by
  refine P.extBut _ _ hDC (ae _ ?_);rw[<-hP,<-hD];exact ap _ rfl
 obtain⟨W,⟨m0,w0⟩,turn⟩:=h3 D hnD;have fpb:∀b∈fp,b<D:=λb B=>by obtain⟨o,e,_⟩:=T.obj _ _ st2 b B;exact below b o e
 generalize hY:Bi X own sel scope cl C G L fp=Y;have hg:=hg cl C G L fp;have ht:=ht cl C G L fp;have he:=he cl C G L fp;have hi1:=hi1 cl C G L fp;have hg1:=hg1 cl C G L fp;have ht1:=ht1 cl C G L fp;have hs1:=hs1 cl C G L fp;rw[hY]at hg ht he hi1 hg1 ht1 hs1;have okY:Y.Ok:=by
  subst hY;refine⟨I.ok.mod,S.kind,I.ok.glob,I.ok.blt,?_,λx y c a b=>I.ok.inj x y c (U _ _ a) (U _ _ b),λx hx=>?_,(λ_ _ z=>nomatch z),λz=>I.ok.hd z,I.ok.frames, .inl rfl,λb B=>⟨?_,λx c e=>(f2 b B).2.2.2.2.1 x c (U _ _ e)⟩,I.bs,
   bj I.ok.bsz I.sz,λb o e B=>?_,λb B z=>?_,I.stack,I.stkFree⟩
  ·exact hsC
  ·have hx':(mL scope X.env).names.lookup x=some .cell\/(mL scope X.env).names.lookup x=some .free:=hx;have hf:scope.names.lookup x=some .free:=by
    rcases hx' with z|z
    ·rcases Dy z with q|q
     ·exact absurd rfl (S.cell _ (bC q))
     ·exact q
    ·rcases Dy z with q|q<;>exact q
   exact hfree _ (bC hf) rfl
  ·exact neC b (fpb b B)
  ·rcases(f2 b B).2.2.2.1 with z|z
   ·exact I.ok.noex b o e z
   ·exact absurd (aI (au e) (bj I.ok.bsz z)) (bU _)
  ·rcases aJ.mp (I.stkSub b z)with q|q
   ·exact(f2 b B).2.1 q
   ·exact(f2 b B).2.2.1 q
 have eo:ObjOk X.prog X.w (upd L D (.lst [])) h1 D (.lst []):=⟨by decide,[],_, .nil,gD⟩;have I1:Inv Y [] (AY own sel σ) (upd L D (.lst [])) {G with heap:=h1,toks:=G.toks+([]:List (Str×ah)).length}:=by
  subst hY;refine⟨okY,rfl,I.bare,Un.laid M hsD hnD,⟨_,Z,λi x v e1 e2 e3=>?_⟩,λx c e=>?_,?_,λx c e=>?_,λp hp=>absurd (show p∈([]:List (Addr×Obj))from hp) nC,I.hok.laid M hsD eo,?_⟩
  ·obtain⟨k,j,ei,ej,es⟩:=K1 e2;subst ei;have e1':(own++sel.map λj=>X.N.getD j cF)[own.length+k]? =some x:=e1;rw[cB nA,am,show own.length+k-own.length=k by lia,ej]at e1';simp only[je,e8]at e1';obtain⟨hj,hfx,hkd⟩:=S.seln j (bV ej);have hN:X.N[j]? =some x:=by rw[<-e1',af,ai hj];rfl
   rw[e1']at hkd hfx;obtain⟨m,_,hl⟩:=I.loc;obtain⟨u,r,lk⟩:=hl j x v hN es (.inr hkd);refine⟨u,r, .inr ⟨F7 I.ok.kind hfx,?_⟩⟩;rcases lk with⟨z1,_⟩|⟨_,c,hc1,hc2⟩
   ·have z1':X.env.scope.names.lookup x=some .local:=z1;rcases hkd with q|q<;>(rw[z1']at q;cases q)
   ·obtain⟨c',q⟩:=hfree _ (bC hfx) rfl;have q2:=U _ _ q;rw[hc1]at q2
    cases q2
    exact⟨c,q,hc2.keeps M⟩
  ·obtain⟨u,z⟩:=I.cell x c (U _ _ e);exact⟨u,z.keeps M⟩
  ·show upd L D (.lst []) C=none;rw[AI (cI hDC)];exact hnC
  ·have q:=I.freeC x c (U _ _ e);obtain⟨u,o,z,_⟩:=I.cell x c (U _ _ e);rw[AI (neD c (below c o z))];exact q
  ·show(AY own sel σ).length=(own++sel.map λj=>X.N.getD j cF).length;rw[K2];simp
 have fin:∀ (σ':zQ0) (H':Hp) (s':ak),Inv Y [] σ' H' s'->Q (.ref D) H'->j7 (aR X.prog X.w) X.A X.xe use Qo (.ref D) C (.ok .next) s':=by
  intro σ' H' s' I' q;subst hY;obtain⟨m,hn,_⟩:=I'.loc;have J':Inv X pins σ H' s':=I.call' I'.os I'.base I'.hok I'.bare λb B=>⟨(f2 b B).2.2.2.1,(f2 b B).2.1,(f2 b B).2.2.2.2.1,(f2 b B).2.2.2.2.2⟩;refine fin D C H' s' m J' hn ⟨I'.free,cI (neC _ (by rw[<-hD];exact I.lt)),bj I.sz hsC,λx c e=>?_,λp hp=>?_⟩ q
  ·obtain⟨u,o,z,_⟩:=I.cell x c e;exact neC c (below c o z)
  ·exact neC p.1 (below p.1 p.2 (I.pin p hp).1)
 have stat:∀ {H':Hp},(∀b∈fp,H' b=none)->∀b∈fp,BQ Y [] H' b:=fun{H'} hn b B=>by
  subst hY;refine⟨hn b B,neC b (fpb b B),λz=>?_, .inl B,λx c e=>(f2 b B).2.2.2.2.1 x c (U _ _ e),λp hp=>absurd (show p∈([]:List (Addr×Obj))from hp) nC⟩;rcases aJ.mp (I.stkSub b z)with q|q
  ·exact(f2 b B).2.1 q
  ·exact(f2 b B).2.2.1 q
 have loop:∀s3:ak,s3={G with heap:=h1,toks:=G.toks+([]:List (Str×ah)).length}->
  dt (aR X.prog X.w) X.A (.compLoop (.ListComp elt [⟨tg,iter,ifs,0⟩,⟨tg1,iter1,ifs1,0⟩] scope pos) 0 (.ref it) (.ref D) (j8 scope cl C X.env)) (j7 (aR X.prog X.w) X.A X.xe use Qo (.ref D) C) s3:=by
  rintro s3 rfl;have eP:Y.prog=X.prog:=by subst hY;rfl
  have eW:Y.w=X.w:=by subst hY;rfl
  have eA:Y.A=X.A:=by subst hY;rfl
  have eK:Y.K=X.K:=by subst hY;rfl
  have eE:Y.env=j8 scope cl C X.env:=by subst hY;rfl
  have eX:Y.xe=λ_ _=>False:=by subst hY;rfl
  have eC:Y.calm=true:=by subst hY;exact hc
  refine O9 (by rw[<-eE];exact hs1) (λn s'=>∃i H',Inv Y [] (AY own sel σ) H' s'/\tn i s'.heap/\(∀b∈fp,H' b=none)/\W i n H') ?_ m0
   ⟨0,_,I1,T.keep _ _ _ st2 λb _ o e=>M b o e,λb B=>by rw[AI (neD b (fpb b B))];exact(f2 b B).1,w0⟩
  rintro n s4 ⟨i,H4,I4,st4,fr4,w4⟩;rcases turn i n H4 w4 with⟨stop,q⟩|⟨go,step⟩
  ·have dn:=T.done Y eP eW eK eC i [] s4 _ H4 (λ_ _=>False) I4 (stat fr4) st4 stop;rw[eA]at dn;refine thn dn λr s5 z_=>?_;obtain⟨hr,I5⟩:=z_;subst hr;exact fin _ _ _ I5 q
  ·have im:=T.item Y eP eW eK eC i [] s4 _ H4 (λ_ _=>False) I4 (stat fr4) st4 go;rw[eA]at im;refine thn im λr s5 z_=>?_;obtain⟨u,hr,h5⟩:=z_;subst hr;refine thn h5 λ_ s6 z_=>?_;obtain⟨x,H6,I6,r6,y6,st6,fr6⟩:=z_;have I6':=I6.pinned (stat fr6) (T.obj _ _ st6);have back:∀ {σ7:zQ0} {H7:Hp} {s7:ak} {k:Nat},Inv Y ([]++DN fp s6.heap) σ7 H7 s7->σ7.length=(AY own sel σ).length->(∀j,own.length<=j->σ7[j]? =(AY own sel σ)[j]?)->(∃m',m'<n/\W (i+1) m' H7)->
    ∃m',m'<n/\∃i H',Inv Y [] (AY own sel σ) H' s7/\tn i s7.heap/\(∀b∈fp,H' b=none)/\W i m' H':=fun{σ7 H7 s7 k} I7 l7 k7 w7=>by
    obtain⟨m',hm,w7⟩:=w7;refine⟨m',hm,i+1,H7,I7.unpinned.weak l7.symm λj v e=>?_,T.keep _ _ _ st6 λb B o e=>(I7.pin (b,o) (aP _ (aP _ (Cy B e)))).1,λb B=>?_,w7⟩
    ·by_cases hj:j<own.length
     ·rw[FM hj]at e;cases e
     ·rw[k7 j (iP hj)];exact e
    ·obtain⟨o,e,d⟩:=T.obj _ _ st6 b B;exact(I7.pin (b,o) (aP _ (aP _ (Cy B e)))).2.1
   have ga:=hg _ s6 _ H6 x u _ I6' r6 (show BG i0 x (AY own sel σ) H6 (λσ' H'=>σ'=(AY own sel σ).set i0 (some x)/\H'=H6)from⟨rfl,rfl⟩);rw[eP,eW,eA,eE,eX]at ga;refine thn ga λ_ s7 z_=>?_;obtain⟨σ7,H7,I7,e7,e7'⟩:=z_;subst e7;subst e7';have l7:((AY own sel σ).set i0 (some x)).length=(AY own sel σ).length:=by simp
   have k7:∀j,own.length<=j->((AY own sel σ).set i0 (some x))[j]? =(AY own sel σ)[j]? :=λj hj=>bW nA;have ta:=ht _ s7 _ _ _ I7 (step x H7 y6);rw[eP,eW,eA,eE,eX]at ta;refine thn ta λb s8 z_=>?_;obtain⟨H8,I8,q8⟩:=z_
   cases b with
   |false=>
    rw[aB aq]at q8⊢;exact back (k:=0) I8 l7 k7 q8
   |true=>
    rw[aO rfl]at q8⊢;have hn1:((AY own sel σ).set i0 (some x))[i1]? =some none:=by
     rw[bW h01.1];exact FM h01.2.2
    have ic:=QL (Y:=Y) (tg:=tg) (iter:=iter) (ifs:=ifs) (scope:=scope) (pos:=pos) eX eC hi1 hg1 ht1 he I8 hn1 q8 (R:=λr s6=>r= .ok .next/\∃m',m'<n/\∃i H',Inv Y [] (AY own sel σ) H' s6/\tn i s6.heap/\(∀b∈fp,H' b=none)/\W i m' H') λH9 s9 I9 q9=>⟨rfl,back (k:=0) I9 l7 k7 q9⟩;rw[eP,eW,eA,eE]at ic;exact ic
 exact iW (loop _ rfl) (T.self X.A 0 _ _ _ (T.keep _ _ _ st2 λb _ o e=>M b o e) (loop _ rfl))
set_option tactic.hygienic true in
theorem O7{pos' spos:Pos}{iter:Expr}{pos:Pos}
 (M:X.N.Nodup) (j:X.N[i]? =some x) (P:Loc X.env.scope x)
 (S:CompOk X.env.scope X.N own sel scope) (Q:X.calm=true) (hi:PI X tg iter wi) (o:i0≠i1/\i0<own.length/\i1<own.length) (hg:∀cl C b d fp,PG (Bi X own sel scope cl C b d fp) tg (BG i0))
 (ht:∀cl C b d fp,PIf (Bi X own sel scope cl C b d fp) ifs tt) (r:∀cl C b d fp,PI (Bi X own sel scope cl C b d fp) tg1 iter1 wi1) (y:∀cl C b d fp,PG (Bi X own sel scope cl C b d fp) tg1 (BG i1)) (z:∀cl C b d fp,PIf (Bi X own sel scope cl C b d fp) ifs1 tt1) (R:∀cl C b d fp,PE (Bi X own sel scope cl C b d fp) elt te)
 (T:∀x,cu iter X.env x=pure x:=by intro _;rfl) (B:∀cl C b d fp x,cu iter1 (Bi X own sel scope cl C b d fp).env x=pure x:=by intro _ _ _ _ _ _;rfl)
 (G:gC (.ListComp elt [⟨tg,iter,ifs,0⟩,⟨tg1,iter1,ifs1,0⟩] scope pos) (some (.Name x pos')) spos.line X.env=pure true:=by rfl)
 (U:X.fn x=true\/X.env.scope.names.lookup x=some .local:=by first|exact .inl rfl|exact .inr rfl|assumption):
 PS X (.Assign [.Name x pos'] (.ListComp elt [⟨tg,iter,ifs,0⟩,⟨tg1,iter1,ifs1,0⟩] scope pos) spos) (Cr (Hl own sel wi i0 tt wi1 i1 tt1 te) (BG i)):=by
 intro pins s σ H Y I h;rw[i' _ _ _ _ G];refine ac (dg (ac ?_));show aH _ X.A (do let _<-iC (.ListComp elt [⟨tg,iter,ifs,0⟩,⟨tg1,iter1,ifs1,0⟩] scope pos) scope X.env _ (l8 []) false (eval iter X.env) (some (gV (.Name x pos') X.env))) _ _ s;refine ac (aZ (QP (use:=some (gV (.Name x pos') X.env)) (Qo:=λ_ J=>SP X pins Y .next J) S Q hi o hg ht r y z R T B I h λD C Z J m I' hn f q=>?_) (λ_ J hq=>ag (ag hq)) λ_ _ e=>e);show aH _ X.A (gV (.Name x pos') X.env (.ref D)) _ _ _;refine h7 (GQ (v:=V.ref D) I' M j P rfl (λb I2 ⟨a,k,ha⟩=>?_) U);have L:C≠a:=by
  rcases ha with rfl|ha
  ·exact f.nl
  ·exact cI (f.nc x a ha)
 exact⟨m,hn.sameBut k L,λh' k'=>⟨_,Z,I2.far f k',q⟩⟩
def Xr(K:W.Frag):List V->Hp->VK->Prop:=λb H Q=>∃ (a:Addr) (ns:List Int),b=[.ref a]/\SqL K H a (ns.map V.int)/\Q (.bl (ns.any λn=>n !=0)) H
theorem RV(K:W.Frag)(M:X.calm=true)(P:X.K=K:=by rfl):CallR X (.builtin "any") (Xr K):=by
 subst P;intro pins s σ H xs us Q I r ⟨a,ns,e,hq,q⟩;subst e;obtain⟨u,rfl,R⟩:=vals1 r
 cases R
 obtain⟨j,rv,G,hz⟩:=I.list hq;obtain⟨ol,J,_⟩:=id G.isList;have S:a<s.1.1.size:=au J;have d:=rv.length;rw[ax]at d;refine call_any_walk (eU G.isList ⟨s.1.1.size,_,_,_,_,_,λi=>ns.getD i 0 !=0,rfl,lX (A:=X.A.in1) (I.ok.hd M) s.1.1.size a (aN S) j.toArray,⟨⟨_,ap _ rfl,rfl,rfl⟩,G.isList.at λo e=>ae _ e⟩,?_,λh' tk T=>?_⟩)
 ·intro i v s' Q' E' U y;have B:j[i]? =some v:=by simpa using U
  have hi:i<ns.length:=by rw[d];exact(az.mp B).1
  obtain⟨w',L,Y⟩:=rv.get (i:=i) (x:=V.int ns[i]) (by simp[hi]);rw[B]at L
  cases L
  obtain⟨t,rfl⟩:=Y;have Z:ns.getD i 0=ns[i]:=by simp[af,hi]
  simp only[Z]at y;exact truthy_int y
 ·have e:(aw j.toArray.size).any (λi=>ns.getD i 0 !=0)=ns.any λn=>n !=0:=by
   rw[av,<-d,d1];simp only[List.any_eq_true,bG]
   constructor
   ·rintro⟨i,hi,h⟩;exact⟨ns[i],dF hi,by simpa[af,hi]using h⟩
   ·rintro⟨n,hn,h⟩;obtain⟨i,hi,rfl⟩:=cC.mp hn;exact⟨i,hi,by simpa[af,hi]using h⟩
  rw[e];refine⟨.bl _,H,I.kept λb o z=>T b o ?_ (ae _ z),rfl,q⟩;have:=au z;intro zz;have hb:b=s.1.1.size:=by simpa using zz
  rw[hb]at this;exact absurd this (bU _)
def A8{α:Type}:List α->List α
 |[]=>[]
 |[x]=>[x]
 |x::_::r=>x::A8 r
set_option tactic.hygienic true in
theorem Jk:∀ (n:Nat) (a pre:List α),a.length<=n->((aw ((a.length+1)/2)).map λk=>pre.length+2*k).filterMap (λj=>(pre++a)[j]?)=A8 a
 |_,[],pre,_=>by simp[A8]
 |_,[x],pre,_=>by simp[A8]
 |0,x::y::r,pre,h=>by simp at h
 |n+1,x::y::r,pre,h=>by
  have b:=Jk n r (pre++[x,y]) (by simp at h;lia);have e:((x::y::r).length+1)/2=(r.length+1)/2+1:=by simp;lia
  rw[e,fR,aW,dy];have d:(pre++x::y::r)[pre.length+2*0]? =some x:=by simp
  rw[d];simp only[d4,A8];congr 1;rw[<-b];have i:((λk=>pre.length+2*k)∘Nat.succ)=λk=>(pre++[x,y]).length+2*k:=by
   funext k;simp;lia
  rw[i,e9]
  rfl
theorem S7(n:Nat):jv 0 (n:Int) 2=(aw ((n+1)/2)).map λk=>0+2*k:=by
 unfold jv;have e:(if(2:Int)>0 then(if(0:Int)<(n:Int)then((n:Int)-0+2-1)/2 else 0)else(if(0:Int)>(n:Int)then(0-(n:Int)-2-1)/(-2)else 0)).toNat=(n+1)/2:=by
  rw[aO nv]
  split<;>lia
 simp only[e];refine dw λk hk=>?_;lia
theorem JV:∀ (n:Nat) {a:List V} {b:List ah},a.length<=n->Vals a b->Vals (A8 a) (A8 b)
 |_,_,_,_, .nil=> .nil
 |_,_,_,_, .cons r .nil=> .cons r .nil
 |0,_,_,h, .cons r (.cons e d)=>by simp at h
 |n+1,_,_,h, .cons r (.cons e d)=> .cons r (JV n (by simp at h;lia) d)
def Na(K:W.Frag)(d ts:TE):TE:=λσ H Q=>d σ H λx e=>ts σ e λy a=>y= .int 2/\∃p b,x= .ref p/\SqL K a p b/\∀r,a r=none->Q (.ref r) (upd a r (.lst (A8 b)))
theorem KJ:∀ (n:Nat) (a:List α),a.length<=n->(A8 a).length<=a.length
 |_,[],_=>ao _
 |_,[x],_=>ao _
 |0,x::y::r,h=>by simp at h
 |n+1,x::y::r,h=>by have:=KJ n r (by simp at h;lia);simp[A8];lia
theorem Vw(K:W.Frag){st:Expr}{ts:TE}{p2 pos:Pos}(J:PE X e te)(L:PE X st ts)(M:X.K=K:=by rfl):PE X (.Subscript e (.Slice none none (some st) p2) pos) (Na K te ts):=by
 subst M;intro pins s σ H Q I h;refine kB (thn (J pins s σ H _ I h) λv P j=>?_);obtain⟨x,R,S,T,U⟩:=j;refine wpAny_Slice ?_;rw[j6];refine ag (ag ?_);rw[evalPart_some];refine thn (L pins P σ R _ S U) λu d j=>?_;obtain⟨y,Y,Z,r2,q2⟩:=j;obtain⟨rfl,q⟩:=q2;obtain⟨z,rfl⟩:=r2;have B:Inv X pins σ Y {d with heap:=d.heap.push {cls:= .type "slice",data:= .fields #[.none, .none, .int 2 z]}}:=Z.kept (t':=d.toks) λb ob q=>ae _ q;show aH (aR X.prog X.w) X.A (iy e (.Slice none none (some st) p2) v (.ref d.1.1.size)) (EP X pins σ Q) X.xe {d with heap:=d.heap.push {cls:= .type "slice",data:= .fields #[.none, .none, .int 2 z]}};obtain⟨p,i,rfl,hx,q⟩:=q
 cases T
 obtain⟨a,r,ht,hz⟩:=B.list hx;have G:=r.length;refine tail_any (ops:=[.ref p, .ref d.1.1.size]) ht.isList.typeIs ia.lookup ?_ nE;refine hX ht.isList (km ..) .none .none (.int 2 z) nC ?_ (by rw[av]<;>lia);have ep:lv a.toArray none none (some 2)=(A8 a).toArray:=by
  unfold lv;have e:fj none none (some 2) a.toArray.size=(0,(a.length:Int),2):=by rw[av];rfl
  rw[e];show((jv 0 (a.length:Int) 2).filterMap _).toArray=_;rw[S7];simp only[jl];congr 1;exact Jk a.length a [] (ao _)
 rw[ep];refine⟨.ref _,_,B.laid (o:= .lst (A8 i)) (λb ob q=>ae _ q) (ao _) ?_,rfl,q _ (B.hok.fresh (ao _))⟩;exact⟨bj (KJ i.length i (ao _)) hz,_,0,JV i.length (ao _) r,ap _ rfl⟩
section
variable{σ:zQ0}
theorem Wg{ts:TE}(h:te σ H λx d=>ts σ d λy a=>y= .int 2/\∃p b,x= .ref p/\SqL K a p b/\∀r,a r=none->Q (.ref r) (upd a r (.lst (A8 b)))):Na K te ts σ H Q:=h
def M7(J:zQ1)(own:List Str)(sel:List Nat)(σ:zQ0)(o:Nat)(z:TT)(e:TI)(B:Nat)(j:TT)(G:TE)(Q:VK)(q:Hp):Prop:=∀D,q D=none->
 ∃W:Nat->Nat->Hp->Prop,(∃m,W 0 m (upd q D (.lst [])))/\∀i m a,W i m a->
  (J.stop i a/\Q (.ref D) a)\/(J.go i a/\∀x r,J.yld i a x r->z ((AY own sel σ).set o (some x)) r λb y=>
    if b=true then ER D e B j G ((AY own sel σ).set o (some x)) y λI=>∃d,d<m/\W (i+1) d I
    else∃d,d<m/\W (i+1) d y)
theorem Tf(h:wi σ H λJ a=>M7 J own sel σ i0 tt wi1 i1 tt1 te Q a):Hl own sel wi i0 tt wi1 i1 tt1 te σ H Q:=h
theorem RO(f:Nat->List V)
 (o:∀D a,H D=none->Same H a->a D=some (.lst ((aw n).flatMap f))->Q (.ref D) a)
 (G:∀ (D:Addr) (i:Nat) (a:Hp) (N:Hp->Prop),H D=none->i<n->Same H a->a D=some (.lst ((aw i).flatMap f))->(∀j,Same H j->j D=some (.lst ((aw i).flatMap f++f i))->N j)->
   tt ((AY own sel σ).set i0 (some (.int (lo+i)))) a λb r=>if b=true then ER D wi1 i1 tt1 te ((AY own sel σ).set i0 (some (.int (lo+i)))) r N else N r):M7 (Itr lo n) own sel σ i0 tt wi1 i1 tt1 te Q H:=by
 intro D q;refine⟨λi m a=>m=n-i/\i<=n/\a D=some (.lst ((aw i).flatMap f))/\Same H a,⟨_,rfl,bA _,by rw[AF];rfl,AJ q _⟩,?_⟩;rintro i m I ⟨rfl,hi,z,B⟩
 by_cases d:i<n
 ·refine .inr ⟨d,λx J y=>?_⟩;obtain⟨rfl,rfl⟩:=y;refine G D i J _ q d B z λj L M=>⟨n-(i+1),by lia,rfl,d,?_,L⟩;rw[M,bZ,gN];simp
 ·have e:i=n:=by lia
  subst e;exact .inl ⟨ao _,o D I q B z⟩
theorem RA{a:Addr}{ys:List V}{N:Hp->Prop}(f:V->V)(P:H a=some (.lst xs))(J:a≠D)(S:H D=some (.lst ys))(X:ys.length+xs.length<=sizeLine)
 (T:∀ (i:Nat) (x:V) (j:Hp) (R:V->Hp->Prop),xs[i]? =some x->SameBut1 D H j->R (f x) j->te (σ.set i1 (some x)) j R)
 (fin:∀o,SameBut1 D H o->o D=some (.lst (ys++xs.map f))->N o):
 ∃W:Nat->Nat->Hp->Prop,(∃m,W 0 m H)/\∀i m d,W i m d->
  ((Itl K a).stop i d/\N d)\/((Itl K a).go i d/\∀x G,(Itl K a).yld i d x G->tYes (σ.set i1 (some x)) G λb M=>
    if b=true then te (σ.set i1 (some x)) M λv o=>∃ys,o D=some (.lst ys)/\ys.length<sizeLine/\∃r,r<m/\W (i+1) r (upd o D (.lst (ys++[v])))
    else∃r,r<m/\W (i+1) r M):=by
 refine⟨λi m j=>m=xs.length-i/\i<=xs.length/\j D=some (.lst (ys++(xs.take i).map f))/\SameBut1 D H j,⟨_,rfl,bA _,by rw[S];simp,SameBut1.refl _ _⟩,?_⟩;rintro i m d ⟨rfl,hi,L,I⟩;have q:SqL K d a xs:=SqL.of (I _ _ P J)
 by_cases z:i<xs.length
 ·refine .inr ⟨⟨xs,xs[i],q,ai z⟩,λx G y=>?_⟩;obtain⟨rfl,U⟩:=y;have B:=U _ q;refine NE ?_;rw[aO rfl];refine T i x G _ B I ⟨_,L,by simp;lia,xs.length-(i+1),by lia,rfl,z,?_,I.trans SameBut1.upd⟩;rw[AF,cy,B];simp
 ·have e:i=xs.length:=by lia
  subst e;rw[dD]at L;exact .inl ⟨⟨_,q,ao _⟩,fin d I L⟩
end
end L2
namespace BrS
variable{r:Addr}
inductive spMayOpen(K:W.Frag):Type
 |mk (p:Addr) (l:List Int) (_:vs=[.ref p]) (_:H p=some (iL l)) (_:∀H',Same H H'->Q (.bl ((A8 l).any λn=>n !=0)) H')
theorem PZ{l:List Int}{Q:VK}{E:XK}(h:H p=some (iL l))(q:∀a,Same H a->Q (.bl ((A8 l).any λn=>n !=0)) a):spMayOpen K ([.ref p]++[]) H Q E:=⟨p,l,rfl,h,q⟩
theorem KI{β:Type}(f:α->β):∀ (n:Nat) (l:List α),l.length<=n->A8 (l.map f)=(A8 l).map f
 |_,[],_=>rfl
 |_,[x],_=>rfl
 |0,x::y::r,h=>by simp at h
 |n+1,x::y::r,h=>by simp only[aW,A8];rw[KI f n r (by simp at h;lia)]
def fB(k:Nat)(a:List Nat)(j:Nat)(L:List (List Int))(i:Nat):List Int:=if((A8 (plw (ones k) (a.getD i 0))).any λn=>n !=0)=true/\0<tbl (PP (a.map (plw (ones k)))) k (i+1) j then(L.getD i []).map (· +1)else []
theorem K6(f:Nat->List Int)(n:Nat):(aw n).flatMap (λi=>(f i).map V.int)=((aw n).flatMap f).map V.int:=by rw[List.map_flatMap]
structure PlA (H H':Hp) (r:Addr) (ad:Nat->Addr) (L:List (List Int)):Prop where
 fr:H r=none
 fa:∀i,i<L.length->H (ad i)=none
 top:H' r=some (.lst ((aw L.length).map λi=>V.ref (ad i)))
 row:∀i,i<L.length->H' (ad i)=some (iL (L.getD i []))
 sm:Same H H'
theorem PlA.pls(h:PlA H H' r ad L):Pls H' r L:=⟨ad,h.top,h.row⟩
theorem PlA.push{H2:Hp}(h:PlA H H' r ad L)(s:Same H' H2)(d:H' p=none)(gp:H2 p=some (iL ns)):
 PlA H (upd H2 r (.lst (((aw L.length).map λi=>V.ref (ad i))++[V.ref p]))) r (λi=>if i<L.length then ad i else p) (L++[ns]):=by
 have q:p≠r:=λz=>by rw[z,h.top]at d;cases d
 have x:∀i,i<L.length->ad i≠r:=λi hi z=>by
  have a:=h.row i hi;rw[z,h.top]at a;injection a with a
  injection a with a
  have y:=cx fq a;simp only[ax,cY]at y;have j:((aw L.length).map λi=>V.ref (ad i))[0]? =((L.getD i []).map V.int)[0]? :=by rw[a]
  rw[am,am,aU nA,ai nA]at j;simp at j
 refine⟨h.fr,λi hi=>?_,?_,λi hi=>?_,λb o z=>?_⟩
 ·by_cases c:i<L.length
  ·rw[aO c];exact h.fa i c
  ·rw[aB c];exact h.sm.free d
 ·rw[AF,aG,f9,bZ,bv];have B:((aw L.length).map λi=>V.ref (if i<L.length then ad i else p))=(aw L.length).map λi=>V.ref (ad i):=dw λi hi=>by rw[aO (bG.mp hi)]
  rw[B];simp
 ·by_cases c:i<L.length
  ·simp only[aO c];rw[AI (x i c),s _ _ (h.row i c),af,af,da c]
  ·have e:i=L.length:=by simp at hi;lia
   subst e;simp only[bU,f5];rw[AI q,gp,af,cB (ao _)];simp
 ·rw[AI (AS z h.fr)];exact s _ _ (h.sm b o z)
def hdv:List Int->V
 |[]=> .non
 |x::_=> .int x
end BrS
namespace L2
variable{ps:List Str}{Q:VK}
def AX(n:Nat):List Nat:=(jf 10 n).map Char.toNat
theorem HS(m:Nat):gX (toString ((m:Nat):Int))=⟨(AX m).toArray⟩:=by
 have h:=W.KIN.signs_num m
 cases e:gX (toString ((m:Nat):Int))with
 |mk a=>
  rw[e]at h;congr 1;apply Array.toList_inj.mp;rw[h];rfl
def rIntT:List V->Hp->VK->Prop:=λa H Q=>∃n:Nat,a=[tx (AX n)]/\n<10^10/\Q (.int (n:Nat)) H
theorem GX:CallR X (.type "int") rIntT:=by
 intro pins s σ H a b Q I rv ⟨n,e,hn,q⟩;subst e;obtain⟨u,rfl,t,rfl⟩:=rv.one;have e:(⟨(AX n).toArray⟩:Str)=gX (toString ((n:Nat):Int)):=(HS n).symm;show aH _ _ (call (.type "int") [.str ⟨(AX n).toArray⟩ t]) _ _ _;rw[e];exact W.KIN.call_num nA nA ⟨.int (n:Nat),H,I.tok _,⟨_,rfl⟩,q⟩
theorem Fc(a:n<10^10)(q:Q (.int (n:Nat)) H):rIntT [tx (AX n)] H Q:=⟨n,rfl,a,q⟩
theorem UB{k:Nat}{p pos:Pos}(U:MkU X.prog X.w X.K X.mg X.base k C ps sp)(b:Room k X.A)(d:X.mg x=some (.ref C))(hg:Gl X x:=by rfl)(a:(x==("__debug__":Str))=false:=by decide):PE X (.Call (.Name x p) [] [] pos) (Eg C sp [] E0 tNil):=
 let⟨_,_,_,hi,F,M,e⟩:=U.ex;SH M F (b.mono hi) hg d e .nil El a
section
variable{σ:zQ0}{td ty:TE}
theorem Va(h:td σ H λx d=>∃a,x= .ref a/\IsD d a/\ty σ d λy e=>∃b k v,e a=some (.dK b)/\y=kV k/\AZ b k=some v/\Q v (upd e a (.dK (CU b k)))):MS td ty σ H Q:=h
end
theorem FJ(n:Nat):∀c∈AX n,48<=c/\c<=57:=by
 intro c b;obtain⟨d,a,e⟩:=cg.mp b;have r:=digit_range (Nat.isDigit_of_mem_toDigits nv nv a);rw[<-e];exact r
theorem HU(n:Nat):AX n≠[]:=by
 intro e;have h:=toDigits_len_ge 10 n;rw[jR.mp e]at h;exact absurd h nv
theorem Da(h:n<10):AX n=[48+n]:=by
 unfold AX;rw[Nat.toDigits_of_lt_base h];have:∀d:Nat,d<10->(Nat.digitChar d).toNat=48+d:=by decide
 simp[this n h]
theorem J3(h:10<=n):AX n=AX (n/10)++AX (n%10):=by
 have a:n%10<10:=kF n nv;have t:jf 10 (n/10)++jf 10 (n%10)=jf 10 (10*(n/10)+n%10):=Nat.toDigits_append_toDigits nv nA a;rw[Nat.div_add_mod]at t;unfold AX;rw[<-t,bv]
theorem Cz:∀ (m n:Nat),n<10^(m+1)->(AX n).length<=m+1:=by
 intro m
 induction m with
 |zero=>intro n h;rw[Da nA];simp
 |succ m a=>
  intro n h
  by_cases b:n<10
  ·rw[Da b];simp
  ·rw[J3 nA,aG,Da (kF n nv)];have:=a (n/10) (by rw[Nat.pow_succ]at h;lia);simp only[aM,gM];lia
theorem Qu(h:1<=n):(AX n)[0]? ≠some 48:=by
 induction n using Nat.strongRecOn with
 |_ n d=>
  by_cases i:n<10
  ·rw[Da i];simp;lia
  ·rw[J3 nA,da (by have:=HU (n/10);cases e:AX (n/10)with|nil=>exact absurd e this|cons a b=>simp)];exact d (n/10) nA nA
end L2
namespace BrB
def cl:List Nat->Nat->Option (List Nat)
 |[],_=>none
 |p::s,q=>if p=q then some s else none
def nx(k:Nat)(st:List Nat)(b:Nat):Option (List Nat):=if b<2*k then(if b%2=0 then some (b/2::st)else cl st (b/2))else none
def go(k:Nat):List Nat->List Nat->Option (List Nat)
 |st,[]=>some st
 |st,b::r=>(nx k st b).bind λs=>go k s r
abbrev O:=Option (Int×List Nat)
def lik:O->O->O
 |none,b=>b
 |some a,none=>some a
 |some (x,l),some (y,m)=>if x=y then(if l<m then some (x,l)else some (y,m))else if x>y then some (x,l)else some (y,m)
def beh:O->O->O
 |some (x,l),some (y,m)=>some (x*y,l++m)
 |_,_=>none
def rnd:O->O->O
 |some (x,l),some (y,m)=>some (x*y,[l.getD 0 0]++m++[l.getD 1 0])
 |_,_=>none
end BrB
open BrB
namespace L2
variable{es:List Expr}
abbrev nL(bs:List Nat):List V:=bs.map λb:Nat=>V.int (b:Int)
def XT(K:W.Frag)(n:Nat)(t:TGs):TG:=λv σ H Q=>∃a b,v= .ref a/\SqL K H a b/\b.length=n/\t b σ H Q
theorem T8(K:W.Frag){k:Nat}{t:TGs}{pos:Pos}(q:X.calm=true)(h:PGs X es t)
 (x:(d9 es X.env).length=n:=by rfl) (d:(d9 es X.env).findIdx? (·.1)=none:=by rfl) (y:X.K=K:=by rfl):PG X (.Tuple es k pos) (XT K n t):=by
 subst y;intro pins s σ H v u Q I r i;obtain⟨a,z,B,G,R,i⟩:=i;subst B
 cases r
 obtain⟨j,rv,ht,S⟩:=I.list G;have J:=rv.length;rw[assign_Tuple];refine ac (dg ?_);unfold unpack;rw[show(d9 es X.env).length=j.toArray.size by rw[x,av];lia,d];refine ac (cH (W.kun_itemsOf (I.ok.hd q) ht.isList λL M=>?_));have P:Inv X pins σ H {s with heap:=L}:=I.kept (t':=s.toks) λb o e=>M b o (aN (au e)) e;exact h pins _ σ H z _ Q P (by simpa using rv) i
end L2
namespace BrS
variable{f:Nat->V}{o:O}
def Bt(F:Addr->Prop)(H:Hp)(v:V):O->Prop
 |none=>v= .non
 |some (w,l)=>∃T a,v= .ref T/\F T/\F a/\H T=some (.tup [.int w, .ref a])/\H a=some (.lst (nL l))
theorem Bt.keep{F:Addr->Prop}{v:V}(h:Bt F H v o)(k:∀b x,F b->H b=some x->H' b=some x):Bt F H' v o:=by
 match o,h with
 |none,h=>exact h
 |some (w,l),⟨T,a,e,d,i,j,g2⟩=>exact⟨T,a,e,d,i,k _ _ d j,k _ _ i g2⟩
theorem Bt.same{F:Addr->Prop}{v:V}(h:Bt F H v o)(s:Same H H'):Bt F H' v o:=h.keep λb x _ z=>s b x z
theorem Bt.imp{F G:Addr->Prop}{v:V}(h:Bt F H v o)(k:∀b x,F b->H b=some x->G b):Bt G H v o:=by
 match o,h with
 |none,h=>exact h
 |some (w,l),⟨T,a,e,i,j,d,g2⟩=>exact⟨T,a,e,k _ _ i d,k _ _ j g2,d,g2⟩
abbrev Any:Addr->Prop:=λ_=>True
def Sz(o:O):Prop:=∀w l,o=some (w,l)->w.natAbs<big/\l.length<=40
inductive spRound:Type
 |mk (v1 v2:V) (o1 o2:O) (_:vs=[v1,v2]) (_:Bt Any H v1 o1) (_:Bt Any H v2 o2) (_:(∀w l,o1=some (w,l)->l.length=2)) (_:Sz o1) (_:Sz o2) (_:∀v H',Same H H'->Bt (λb=>H b=none) H' v (rnd o1 o2)->Q v H')
inductive spBehindO:Type
 |mk (v1 v2:V) (o1 o2:O) (_:vs=[v1,v2]) (_:Bt Any H v1 o1) (_:Bt Any H v2 o2) (_:Sz o1) (_:Sz o2) (_:∀v H',Same H H'->Bt (λb=>H b=none) H' v (beh o1 o2)->Q v H')
def rwv(n:Nat)(f:Nat->V):List V:=(aw (n+1)).map f
theorem Lg(n:Nat)(f:Nat->V):(rwv n f).length=n+1:=by simp[rwv]
theorem HN(h:j<=n):(rwv n f)[j]? =some (f j):=by
 unfold rwv;rw[am,aU nA];rfl
theorem Tn{v:V}:(rwv n f).set j v=rwv n (λx=>if x=j then v else f x):=by
 apply fX;intro i;unfold rwv;rw[iq,am,am]
 by_cases e:j=i
 ·subst e
  by_cases a:j<n+1
  ·rw[aU a];simp[a]
  ·rw[aO rfl,aB (by simpa using a)];rw[bL (by simpa using a)];rfl
 ·rw[aB e]
  by_cases hi:i<n+1
  ·rw[aU hi];simp[cI e]
  ·rw[bL (by simpa using hi)];rfl
structure Tv (H0 H1 H:Hp) (s:Addr) (ad:Nat->Addr) (n:Nat) (T:Nat->Nat->V):Prop where
 fs:H0 s=none
 fa:∀i,i<=n->H0 (ad i)=none
 ns:∀i,i<=n->ad i≠s
 inj:∀i j,i<=n->j<=n->ad i=ad j->i=j
 old:∀i,i<=n->H1 (ad i)≠none
 top:H s=some (.lst ((aw (n+1)).map λi=>V.ref (ad i)))
 row:∀i,i<=n->H (ad i)=some (.lst (rwv n (T i)))
 sm:Same H0 H
 gr:∀b,H b=none->H1 b=none
section
variable{H0:Hp}{s:Addr}{T T':Nat->Nat->V}
theorem Tv.same(t:Tv H0 H1 H s ad n T)(h:Same H H'):Tv H0 H1 H' s ad n T:=⟨t.fs,t.fa,t.ns,t.inj,t.old,h _ _ t.top,λi hi=>h _ _ (t.row i hi),t.sm.trans h,λb z=>t.gr b (h.free z)⟩
theorem Tv.at(t:Tv H0 H1 H s ad n T)(hi:i<=n):((aw (n+1)).map λi=>V.ref (ad i))[i]? =some (.ref (ad i)):=by
 rw[am,aU nA];rfl
theorem Tv.set(t:Tv H0 H1 H s ad n T){v:V}(hi:i<=n):Tv H0 H1 (upd H (ad i) (.lst ((rwv n (T i)).set j v))) s ad n (λa b=>if a=i then(if b=j then v else T a b)else T a b):=by
 refine⟨t.fs,t.fa,t.ns,t.inj,t.old,by rw[AI (cI (t.ns i hi))];exact t.top,λa d=>?_,λb o z=>?_,λb z=>?_⟩
 ·by_cases e:a=i
  ·subst e;rw[AF,Tn];simp
  ·rw[AI (λz=>e (t.inj a i d hi z)),t.row a d];simp[e]
 ·rw[AI (AS z (t.fa i hi))];exact t.sm b o z
 ·by_cases e:b=ad i
  ·subst e;rw[AF]at z;cases z
  ·rw[AI e]at z;exact t.gr b z
theorem Tv.keep(t:Tv H0 H1 H s ad n T)(hi:i<=n){o:HO}(b:Addr)(x:HO)(f:H1 b=none)(z:H b=some x):(upd H (ad i) o) b=some x:=by
 have ne:b≠ad i:=λe=>t.old i hi (by rw[<-e];exact f);rw[AI ne];exact z
end
def brx(l:List Nat):List Nat:=l.map λb=>brs.getD b 0
def Ft(H:Hp)(v:V):O->Prop
 |none=>v= .non
 |some (w,l)=>∃T,v= .ref T/\H T=some (.tup [.int w,tx (brx l)])
theorem Ri:(top30^40).natAbs<big:=by unfold big top30;decide +kernel
end BrS
namespace BrB
def okc(c b:Nat):Bool:=decide (c=63\/c=brs.getD b 0)
end BrB
namespace BrS
variable{co pl:Addr}{ra:List Addr}{at':Nat}
abbrev pa_(k:Nat)(a:List Nat):Nat->Nat->Int:=PP (a.map (plw (ones k)))
def W(k:Nat)(a:List Nat)(i:Nat)(st:List Nat):Int:=cv (pa_ k a) k (a.length-i) i st
def CY(k:Nat)(a:List Nat)(st:List Nat):List Int:=(aw (a.length+1)).map λi=>W k a i st
theorem Lj{k:Nat}(h:i<=a.length):((CY k a st).map V.int)[i]? =some (.int (W k a i st)):=by
 unfold CY;rw[d4,am,aU nA]
 rfl
theorem Fs{k:Nat}(hk:k<=4)(d:a.length<=40)(i:Nat)(st:List Nat):0<=W k a i st/\W k a i st<=cap:=Ff hk (λl b=>(B9 hk l b).2) nA i st
theorem Uv(k:Nat)(a:List Nat)(i o:Nat)(st:List Nat)(hi:i<=a.length):W k a i (o::st)=sm ((a.length-i+1)/2) λq=>tbl (pa_ k a) k i (i+2*q)*pa_ k a (i+2*q) (2*o+1)*W k a (i+2*q+1) st:=by
 unfold W;rw[K9 _ _ _ _ _ (ao _),HI]
 ·refine BK _ λq d=>?_;unfold tbl;rw[aO nA,show i+2*q-i=2*q by lia,show a.length-i-2*q-1=a.length-(i+2*q+1) by lia]
 ·intro e j b;rw[Dl e i [] (by simpa using b),fD,fD]
def Bv(st:List Nat):List V:=st.reverse.map λp:Nat=>V.int (2*(p:Int)+1)
def cf(pl sm cl rs:Addr)(a:Int):List (Str×V):=[("places", .ref pl),("sums", .ref sm),("at", .int a),("closings", .ref cl),("rests", .ref rs)]
structure CoS (C:Addr) (H0 H:Hp) (co:Addr) (k:Nat) (a:List Nat) (at':Nat) (st:List Nat) (dx pl sm cl rs:Addr) (Hz Hb:Hp) (ad:Nat->Addr) (ra:List Addr):Prop where
 ob:H co=some (.ins C dx (cf pl sm cl rs at'))
 pls:Pls Hb pl (a.map (plw (ones k)))
 tb:Tb Hz Hb sm ad a.length (tbl (pa_ k a) k)
 keep:SameBut1 co Hb H
 nco:∀xs,Hb co≠some (.lst xs)
 ncl:Hb cl=none
 nrs:Hb rs=none
 ne:cl≠rs
 clo:H cl=some (.lst (Bv st))
 res:H rs=some (.lst (ra.map V.ref))
 ral:ra.length=st.length+1
 rows:∀ (j:Nat) x,ra[j]? =some x->H x=some (iL (CY k a (st.drop (st.length-j))))/\x≠cl/\x≠rs
 h0:Same H0 H
 h0co:H0 co=none
 h0cl:H0 cl=none
 h0rs:H0 rs=none
 len:a.length<=40
 hk:k<=4
inductive Co (C:Addr) (H0 H:Hp) (co:Addr) (k:Nat) (a:List Nat) (at':Nat) (st:List Nat):Prop
 |mk (dx pl sm cl rs:Addr) (Hz Hb:Hp) (ad:Nat->Addr) (ra:List Addr) (_:CoS C H0 H co k a at' st dx pl sm cl rs Hz Hb ad ra)
theorem Co.same{H0:Hp}{k:Nat}(h:Co C H0 H co k a at' st)(s:Same H H'):Co C H0 H' co k a at' st:=by
 obtain⟨e,i,sm,cl,q,Hz,Hb,r,y,c⟩:=h;exact⟨e,i,sm,cl,q,Hz,Hb,r,y,⟨s _ _ c.ob,c.pls,c.tb,λb o z n=>s _ _ (c.keep b o z n),c.nco,c.ncl,c.nrs,c.ne,s _ _ c.clo,s _ _ c.res,c.ral,λj x d=>⟨s _ _ (c.rows j x d).1,(c.rows j x d).2⟩,c.h0.trans s,c.h0co,c.h0cl,c.h0rs,c.len,c.hk⟩⟩
section
variable{H0:Hp}{k:Nat}{dx sm cl rs:Addr}{Hz Hb:Hp}
theorem CoS.lst(c:CoS C H0 H co k a at' st dx pl sm cl rs Hz Hb ad ra){b:Addr}(h:Hb b=some (.lst xs)):H b=some (.lst xs):=c.keep _ _ h λz=>c.nco xs (by rw[<-z];exact h)
theorem CoS.tbH(c:CoS C H0 H co k a at' st dx pl sm cl rs Hz Hb ad ra):Tb (λ_=>none) H sm ad a.length (tbl (pa_ k a) k):=⟨rfl,λ_ _=>rfl,c.tb.ns,c.tb.inj,c.lst c.tb.top,λi hi=>c.lst (c.tb.row i hi),λ_ _ z=>nomatch z⟩
theorem CoS.plH(c:CoS C H0 H co k a at' st dx pl sm cl rs Hz Hb ad ra):Pls H pl (a.map (plw (ones k))):=by
 obtain⟨b,d,e⟩:=c.pls;exact⟨b,c.lst d,λi hi=>c.lst (e i hi)⟩
theorem CoS.top(c:CoS C H0 H co k a at' st dx pl sm cl rs Hz Hb ad ra):∃x,atI (ra.map V.ref) (-1)=some (.ref x)/\H x=some (iL (CY k a st)):=by
 obtain⟨x,b⟩:∃x,ra[st.length]? =some x:=⟨_,ai (by rw[c.ral];lia)⟩;refine⟨x,Dg (by rw[ax,c.ral];lia) (by rw[ax,c.ral,am,Nat.add_sub_cancel,b];rfl),?_⟩;have:=(c.rows _ x b).1;rwa[d3,ff]at this
end
theorem Me(h:Pls H pl ps)(hi:i<ps.length):∃a x,H pl=some (.lst a)/\a[i]? =some (.ref x)/\a.length=ps.length/\H x=some (iL (ps.getD i [])):=by
 obtain⟨b,d,e⟩:=h;exact⟨_,b i,d,by rw[am,aU hi];rfl,by rw[ax,cY],e i hi⟩
theorem Lm(h:Pls H pl ps):∃a,H pl=some (.lst a)/\a.length=ps.length:=by
 obtain⟨d,b,e⟩:=h;exact⟨_,b,by rw[ax,cY]⟩
inductive spOpens:Type
 |mk (b:Nat) (_:vs=[.int (b:Int)]) (_:Q (.bl (decide (b%2=0))) H)
theorem J1{b:Nat}{Q:VK}{E:XK}(q:Q (.bl (decide (b%2=0))) H):spOpens ([.int (b:Int)]++[]) H Q E:=⟨b,rfl,q⟩
def TB(C:Addr):Sp:=λvs H Q _=>∃ (co e:Addr) (k:Int) (a:List Nat) (b:Hp),vs=[.ref co, .int k,tx a]/\1<=k/\k<=4/\AQ k a=true/\H co=some (.ins C e [])/\b co=none/\Same b H/\∀d,Co C b d co k.toNat a 0 []->Q .non d
inductive spCAll(C:Addr):Type
 |mk (co:Addr) (k:Nat) (a:List Nat) (i:Nat) (st:List Nat) (H0:Hp) (_:vs=[.ref co]) (_:Co C H0 H co k a i st) (_:Q (.int (W k a 0 [])) H)
inductive spCClosing(C:Addr):Type
 |mk (co:Addr) (k:Nat) (a:List Nat) (i:Nat) (st:List Nat) (H0:Hp) (s p:Nat) (_:vs=[.ref co, .int (s:Int), .int (2*(p:Int)+1)]) (_:Co C H0 H co k a i st) (_:s<=a.length) (_:p<k) (_:∀H',Same H H'->Q (.int (W k a s (p::st))) H')
def mw(k:Nat)(a:List Nat)(i:Nat)(st:List Nat)(b:Nat):Int:=if b%2=0 then pa_ k a i b*W k a (i+1) (b/2::st)else match st with|[]=>0|o::s'=>if 2*o+1=b then pa_ k a i b*W k a (i+1) s' else 0
inductive spCWith(C:Addr):Type
 |mk (co:Addr) (k:Nat) (a:List Nat) (i:Nat) (st:List Nat) (H0:Hp) (b:Nat) (_:vs=[.ref co, .int (b:Int)]) (_:Co C H0 H co k a i st) (_:i<a.length) (_:b<2*k) (_:∀H',Same H H'->Q (.int (mw k a i st b)) H')
def stb(st:List Nat)(b:Nat):List Nat:=if b%2=0 then b/2::st else st.tail
inductive spCTake(C:Addr):Type
 |mk (co:Addr) (k:Nat) (a:List Nat) (i:Nat) (st:List Nat) (H0:Hp) (b:Nat) (_:vs=[.ref co, .int (b:Int)]) (_:Co C H0 H co k a i st) (_:i<a.length) (_:b<2*k) (_:st.length<=i) (_:(b%2=1->st≠[])) (_:∀H',Co C H0 H' co k a (i+1) (stb st b)->Q .non H')
end BrS
namespace L2
theorem Rh{σ:zQ0}{Q:VK}{a:Addr}(f v:Nat->V)(I:n<=sizeLine)(o:H a=some (.lst ((aw n).map f)))
 (q:∀D b,H D=none->Same H b->b D=some (.lst ((aw n).map v))->Q (.ref D) b)
 (J:∀ (i:Nat) (b:Hp) (R:V->Hp->Prop),i<n->Same H b->(∀j,Same b j->R (v i) j)->g (f i) (AY own sel σ) b λσ4 L=>te σ4 L R):BU (Itl K a) own sel σ g tYes te Q H:=by
 have M:((aw n).map f).length=n:=by rw[ax,cY]
 refine EF f I (λD i z _=>z=(aw i).map v) (λi b hi d=>⟨_,f i,SqL.of (d _ _ o),by rw[am,aU hi];rfl⟩) (λb d=>⟨_,SqL.of (d _ _ o),by rw[M];exact ao _⟩) (λi T x b hi d y=>?_)
  (λ_ _=>rfl) (λ_ _ _ _ _ _ e _=>e) (λD z b B G _ d e=>q D b B d (by rw[G,e]))
  (λD i z b R B hi G _ d e r=>J i b R hi d λj P=>r _ j P (by rw[e,bZ,bv];rfl))
 obtain⟨rfl,S⟩:=y;have:=S _ (SqL.of (d _ _ o));rw[am,aU hi]at this;exact⟨rfl,(bi this).symm⟩
end L2
namespace BrS
variable{ra:List Addr}{s':List Nat}{b:Nat}{Q:VK}{E:XK}
theorem nab{x c:Int}(h0:0<=x)(h:x<=c)(a:c.natAbs<big):x.natAbs<big:=by
 have:x.natAbs<=c.natAbs:=by lia
 lia
theorem HC{k:Nat}(hk:k<=4)(d:j<=40):0<=tbl (pa_ k a) k i j/\tbl (pa_ k a) k i j<=cap:=by
 unfold tbl
 split
 ·exact Ff hk (λl b=>(B9 hk l b).2) nA i []
 ·exact⟨cZ _,by unfold cap top30;decide +kernel⟩
theorem EZ{k:Nat}(hk:k<=4)(i b:Nat):0<=pa_ k a i b/\pa_ k a i b<=top30:=CJ (λl d=>(B9 hk l d).2) i b
theorem Uy{k:Nat}(hk:k<=4)(q:j<=40):(tbl (pa_ k a) k i j*pa_ k a j b).natAbs<big:=by
 obtain⟨d,e⟩:=HC (a:=a) hk (i:=i) q;obtain⟨o,r⟩:=EZ (a:=a) hk j b;refine nab (c:=cap*top30) (be d o) (bM (bF e o) (gi r (bM d e))) ?_;unfold cap big top30;decide +kernel
theorem IK{k:Nat}(hk:k<=4)(hi:i<a.length):pa_ k a i b=0\/pa_ k a i b=1:=by
 show((a.map (plw (ones k))).getD i []).getD b 0=0\/((a.map (plw (ones k))).getD i []).getD b 0=1;rw[af (l:=a.map (plw (ones k))),am,ai hi];show(plw (ones k) a[i]).getD b 0=0\/(plw (ones k) a[i]).getD b 0=1;unfold plw;rw[af]
 split
 ·cases e:(ones k)[b]? with
  |none=>exact .inl rfl
  |some v=>
   have:=bV e;rw[dY this];exact .inr rfl
 ·rw[am]
  cases e:(brs.take (ones k).length)[b]? with
  |none=>exact .inl rfl
  |some v=>
   show(if a[i]=v then(1:Int)else 0)=0\/(if a[i]=v then(1:Int)else 0)=1
   split
   ·exact .inr rfl
   ·exact .inl rfl
theorem D8(o:Nat)(s:List Nat):Bv (o::s)=Bv s++[.int (2*(o:Int)+1)]:=by unfold Bv;rw[List.reverse_cons,bv];rfl
theorem RP(o:Nat)(s:List Nat):atI (Bv (o::s)) (-1)=some (.int (2*(o:Int)+1)):=by rw[D8];exact LK _ _
theorem Sy{xs:List α}{v:α}(h:1<xs.length)(e:xs[xs.length-2]? =some v):atI xs (-2)=some v:=by
 unfold atI ixN;rw[aB nv,aO nA];show xs[((-2:Int)+xs.length).toNat]? =some v;rw[show((-2:Int)+(xs.length:Int)).toNat=xs.length-2 by lia];exact e
section
variable{H0:Hp}{co:Addr}{k:Nat}{dx pl sm cl rs:Addr}{Hz Hb:Hp}
theorem CoS.nl(c:CoS C H0 H co k a i st dx pl sm cl rs Hz Hb ad ra){b:Addr}(h:H b=some (.lst xs)):b≠co:=λz=>by rw[z,c.ob]at h;cases h
theorem CoS.at(c:CoS C H0 H co k a i st dx pl sm cl rs Hz Hb ad ra)(j:Nat):CoS C H0 (upd H co (.ins C dx (cf pl sm cl rs j))) co k a j st dx pl sm cl rs Hz Hb ad ra:=
 {ob:=AF,pls:=c.pls,tb:=c.tb,keep:=c.keep.trans SameBut1.upd,nco:=c.nco,ncl:=c.ncl,nrs:=c.nrs,ne:=c.ne
  clo:=by rw[AI (c.nl c.clo)];exact c.clo
  res:=by rw[AI (c.nl c.res)];exact c.res
  ral:=c.ral
  rows:=λn x d=>⟨by rw[AI (c.nl (c.rows n x d).1)];exact(c.rows n x d).1,(c.rows n x d).2⟩
  h0:=λb o z=>by rw[AI (AS z c.h0co)];exact c.h0 _ _ z
  h0co:=c.h0co,h0cl:=c.h0cl,h0rs:=c.h0rs,len:=c.len,hk:=c.hk}
theorem CoS.two(c:CoS C H0 H co k a i st dx pl sm cl rs Hz Hb ad ra)(d:List Nat)(ra':List Addr)(r:ra'.length=d.length+1)
 (y:∀ (j:Nat) x,ra'[j]? =some x->H x=some (iL (CY k a (d.drop (d.length-j))))/\x≠cl/\x≠rs):
 CoS C H0 (upd (upd H rs (.lst (ra'.map V.ref))) cl (.lst (Bv d))) co k a i d dx pl sm cl rs Hz Hb ad ra':=
 {ob:=by rw[AI (c.nl c.clo).symm,AI (c.nl c.res).symm];exact c.ob
  pls:=c.pls,tb:=c.tb
  keep:=λb o z B=>by rw[AI (AS z c.ncl),AI (AS z c.nrs)];exact c.keep _ _ z B
  nco:=c.nco,ncl:=c.ncl,nrs:=c.nrs,ne:=c.ne
  clo:=AF
  res:=by rw[AI c.ne.symm,AF]
  ral:=r
  rows:=λj x G=>by
   obtain⟨I,e,q⟩:=y j x G;exact⟨by rw[AI e,AI q];exact I,e,q⟩
  h0:=λb o z=>by rw[AI (AS z c.h0cl),AI (AS z c.h0rs)];exact c.h0 _ _ z
  h0co:=c.h0co,h0cl:=c.h0cl,h0rs:=c.h0rs,len:=c.len,hk:=c.hk}
theorem CoS.push(c:CoS C H0 H co k a i st dx pl sm cl rs Hz Hb ad ra){D:Addr}{p:Nat}(d:H D=some (iL (CY k a (p::st))))(e:D≠cl)(o:D≠rs):
 CoS C H0 (upd (upd H rs (.lst ((ra++[D]).map V.ref))) cl (.lst (Bv (p::st)))) co k a i (p::st) dx pl sm cl rs Hz Hb ad (ra++[D]):=by
 refine c.two (p::st) (ra++[D]) (by rw[aG,c.ral];rfl) λj x b=>?_
 by_cases h:j<ra.length
 ·rw[da h]at b;obtain⟨q,r⟩:=c.rows j x b;refine⟨?_,r⟩;have z:=c.ral;rw[q,aM,show st.length+1-j=(st.length-j)+1 by lia,jT]
 ·rw[cB nA]at b;have y:j=ra.length:=by
   have:=(az.mp b).1;simp at this;lia
  subst y;rw[d3]at b;have b:D=x:=bi b;subst b;rw[c.ral,aM,d3,ff];exact⟨d,e,o⟩
theorem CoS.pop{o:Nat}(c:CoS C H0 H co k a i (o::s') dx pl sm cl rs Hz Hb ad ra):
 CoS C H0 (upd (upd H rs (.lst (ra.dropLast.map V.ref))) cl (.lst (Bv s'))) co k a i s' dx pl sm cl rs Hz Hb ad ra.dropLast:=by
 have b:=c.ral;rw[aM]at b;refine c.two s' ra.dropLast (by rw[gs,b];lia) λj x d=>?_;have e:j<ra.dropLast.length:=(az.mp d).1;rw[gs,b]at e;rw[List.getElem?_dropLast,aO nA]at d;obtain⟨q,r⟩:=c.rows j x d;refine⟨?_,r⟩;rw[q,aM,show s'.length+1-j=(s'.length-j)+1 by lia,jT]
end
theorem J6{k:Nat}(hk:k<=4)(d:a.length<=40)(i:Nat)(st:List Nat)(b:Nat):0<=mw k a i st b:=by
 unfold mw
 split
 ·exact be (EZ hk _ _).1 (Fs hk d _ _).1
 ·cases st with
  |nil=>exact cZ _
  |cons o e=>
   show 0<=(if 2*o+1=b then pa_ k a i b*W k a (i+1) e else 0)
   split
   ·exact be (EZ hk _ _).1 (Fs hk d _ _).1
   ·exact cZ _
def cwq(k:Nat)(a:List Nat)(i:Nat):List Nat->Nat->Int
 |[],_=>0
 |o::s',p=>if o=p then pa_ k a i (2*p+1)*W k a (i+1) s' else 0
theorem Mq{k:Nat}(hi:i<a.length)(e:∀o∈st,o<k):sm (2*k) (mw k a i st)=W k a i st:=by
 rw[Kk];have x:∀p,mw k a i st (2*p)=pa_ k a i (2*p)*W k a (i+1) (p::st):=λp=>by
  unfold mw;rw[aO nA,show 2*p/2=p by lia]
 have y:∀p,mw k a i st (2*p+1)=cwq k a i st p:=λp=>by
  unfold mw;rw[aB nA]
  cases st with
  |nil=>rfl
  |cons o q=>
   show(if 2*o+1=2*p+1 then _ else _)=(if o=p then _ else _)
   by_cases h:o=p
   ·rw[aO h,aO nA]
   ·rw[aB h,aB nA]
 obtain⟨m,B⟩:∃m,a.length-i=m+1:=⟨a.length-i-1,by lia⟩;have d:a.length-(i+1)=m:=by lia
 rw[BK k λp _=>by rw[x,y],Fb];unfold W;rw[B,d]
 cases st with
 |nil=>rw[Ec,BrC.sm_zero (f:=λb=>cwq k a i [] b) k (λ_ _=>rfl),mG]
 |cons o q=>
  rw[FW];congr 1;have G:=e o aA;rw[U2 (f:=λb=>cwq k a i (o::q) b) G]
  ·show(if o=o then pa_ k a i (2*o+1)*W k a (i+1) q else 0)=_;rw[aO rfl];unfold W;rw[d]
  ·intro j H r;show(if o=j then _ else _)=(0:Int);rw[aB (λz=>r z.symm)]
def NF(k:Nat)(a:List Nat):Nat->List Nat->Int->List Nat->Prop
 |i,_,l,[]=>i=a.length/\l=0
 |i,st,l,b::bs=>b<2*k/\sm b (mw k a i st)<=l/\l<sm (b+1) (mw k a i st)/\NF k a (i+1) (stb st b) (l-sm b (mw k a i st)) bs
def brt(bs:List Nat):List Nat:=bs.map λb=>brs.getD b 0
def NC:Sp:=λvs H Q _=>∃ (k:Int) (a:List Nat) (n:Int),vs=[.int k,tx a, .int n]/\1<=k/\k<=4/\AQ k a=true/\0<=n/\n<zQ2 k.toNat a/\∀bs b,Same H b->NF k.toNat a 0 [] n bs->bs.length=a.length->Q (tx (brt bs)) b
theorem LD{k:Nat}(hk:k<=4)(d:a.length<=40)(i:Nat)(st:List Nat)(h:b<=c):sm b (mw k a i st)<=sm c (mw k a i st):=by
 induction c with
 |zero=>rw[show b=0 by lia];exact cZ _
 |succ c j=>
  by_cases e:b=c+1
  ·rw[e];exact cZ _
  ·have o:=j nA;have q:=J6 hk d i st c;show _<=sm c (mw k a i st)+mw k a i st c;lia
theorem Mp{k:Nat}(hk:k<=4)(I:a.length<=40)(hi:i<a.length)(j:∀o∈st,o<k)(J:b<2*k)(h:0<mw k a i st b):mw k a i st b=W k a (i+1) (stb st b)/\(b%2=1->st≠[])/\(∀o∈stb st b,o<k)/\(stb st b).length<=st.length+1:=by
 have q:pa_ k a i b≠0->pa_ k a i b=1:=λz=>(IK hk hi).resolve_left z
 by_cases d:b%2=0
 ·have e:mw k a i st b=pa_ k a i b*W k a (i+1) (b/2::st):=by unfold mw;rw[aO d]
  have y:stb st b=b/2::st:=by unfold stb;rw[aO d]
  rw[e]at h⊢;have B:=q λz=>by rw[z,fD]at h;exact absurd h (gA _)
  rw[y,B,fY];refine⟨rfl,by lia,λo r=>?_,by simp⟩;rcases aJ.mp r with z|z
  ·lia
  ·exact j o z
 ·have y:stb st b=st.tail:=by unfold stb;rw[aB d]
  rw[y]
  cases st with
  |nil=>
   unfold mw at h;rw[aB d]at h;exact absurd h (gA _)
  |cons o G=>
   have e:mw k a i (o::G) b=if 2*o+1=b then pa_ k a i b*W k a (i+1) G else 0:=by unfold mw;rw[aB d]
   rw[e]at h⊢
   by_cases r:2*o+1=b
   ·rw[aO r]at h⊢;have B:=q λz=>by rw[z,fD]at h;exact absurd h (gA _)
    rw[B,fY];exact⟨rfl,λ_=>by simp,λx H=>j x (ay _ H),by simp;lia⟩
   ·rw[aB r]at h;exact absurd h (gA _)
theorem IV(k:Nat)(a:List Nat)(st:List Nat):W k a a.length st=if st=[]then 1 else 0:=by
 unfold W;rw[d3]
 cases st<;>rfl
def num(k:Nat)(a:List Nat):Nat->List Nat->List Nat->Int
 |_,_,[]=>0
 |i,st,b::bs=>sm b (mw k a i st)+num k a (i+1) (stb st b) bs
theorem NF.first{k:Nat}(hk:k<=4)(d:a.length<=40){l m:Int}(e:l<=m)(j:sm b (mw k a i st)<=l)(o:m<sm (c+1) (mw k a i st)):b<=c:=by
 rcases kR c b with z|z
 ·have:=LD hk d i st (show c+1<=b from z);lia
 ·exact z
theorem NF.uniq{k:Nat}(hk:k<=4)(d:a.length<=40):∀ {bs cs:List Nat} {i:Nat} {j:List Nat} {l:Int},bs.length=cs.length->NF k a i j l bs->NF k a i j l cs->bs=cs
 |[],[],_,_,_,_,_,_=>rfl
 |[],_::_,_,_,_,h,_,_=>by cases h
 |_::_,[],_,_,_,h,_,_=>by cases h
 |b::bs,c::cs,i,j,l,h,o,g2=>by
  have q:=NF.first hk d (cZ l) o.2.1 g2.2.2.1;have r:=NF.first hk d (cZ l) g2.2.1 o.2.2.1;have e:b=c:=by lia
  subst e;rw[NF.uniq hk d (by simpa using h) o.2.2.2 g2.2.2.2]
def Fi(k:Nat)(a:List Nat):Nat->List Nat->List Nat->Prop
 |i,st,[]=>i=a.length/\st=[]
 |i,st,b::bs=>b<2*k/\pa_ k a i b=1/\(b%2=1->∃s',st=b/2::s')/\Fi k a (i+1) (stb st b) bs
theorem Fi.len{k:Nat}:∀ {bs:List Nat} {i:Nat} {d:List Nat},Fi k a i d bs->i+bs.length=a.length
 |[],_,_,h=>h.1
 |b::bs,i,d,h=>by
  have:=Fi.len h.2.2.2;rw[aM];lia
theorem Fi.pos{k:Nat}(hk:k<=4)(y:a.length<=40):∀ {bs:List Nat} {i:Nat} {d:List Nat},(∀o∈d,o<k)->Fi k a i d bs->NF k a i d (BrS.num k a i d bs) bs/\0<=BrS.num k a i d bs/\BrS.num k a i d bs<W k a i d
 |[],i,d,e,h=>by
  obtain⟨B,x⟩:=h;subst B x;refine⟨⟨rfl,rfl⟩,cZ _,?_⟩;rw[IV,aO rfl];exact Int.zero_lt_one
 |b::bs,i,d,e,h=>by
  obtain⟨B,x,I,H⟩:=h;have hi:i<a.length:=by have:=Fi.len H;lia
  have r:∀o∈stb d b,o<k:=by
   unfold stb
   split
   ·intro o G;rcases aJ.mp G with z|z
    ·lia
    ·exact e o z
   ·intro o G;exact e o (jH G)
  obtain⟨J,g2,Q⟩:=Fi.pos hk y r H;have R:mw k a i d b=W k a (i+1) (stb d b):=by
   unfold mw stb
   by_cases q:b%2=0
   ·rw[aO q,aO q,x,fY]
   ·obtain⟨L,rfl⟩:=I nA;rw[aB q,aB q];show(if 2*(b/2)+1=b then pa_ k a i b*W k a (i+1) L else 0)=_;rw[aO nA,x,fY]
    rfl
  have S:sm (b+1) (mw k a i d)=sm b (mw k a i d)+mw k a i d b:=rfl;have h0:0<=sm b (mw k a i d):=D6 b λj _=>J6 hk y i d j;have M:BrS.num k a i d (b::bs)=sm b (mw k a i d)+BrS.num k a (i+1) (stb d b) bs:=rfl;have P:=LD hk y i d (show b+1<=2*k by lia);rw[Mq hi e]at P;rw[M];refine⟨⟨B,by lia,by lia,?_⟩,by lia,by lia⟩;rw[show sm b (mw k a i d)+BrS.num k a (i+1) (stb d b) bs-sm b (mw k a i d)=BrS.num k a (i+1) (stb d b) bs by lia];exact J
set_option tactic.hygienic true in
theorem NF.fl{k:Nat}(hk:k<=4)(G:a.length<=40):∀ {bs:List Nat} {i:Nat} {j:List Nat} {l:Int},i+bs.length=a.length->(∀o∈j,o<k)->0<=l->l<W k a i j->NF k a i j l bs->Fi k a i j bs
 |[],i,j,l,H,q,J,B,h=>by
  have e:i=a.length:=h.1;subst e;rw[IV]at B;refine⟨rfl,?_⟩
  by_cases z:j=[]
  ·exact z
  ·rw[aB z]at B;lia
 |b::bs,i,j,l,H,q,J,B,h=>by
  obtain⟨I,P,Q,L⟩:=h;rw[aM]at H;have hi:i<a.length:=by lia
  have R:sm (b+1) (mw k a i j)=sm b (mw k a i j)+mw k a i j b:=rfl;obtain⟨S,r,x,_⟩:=Mp hk G hi q I nA;have d:0<mw k a i j b:=by lia
  refine⟨I,(IK hk hi).resolve_left λz=>?_,λM=>?_,NF.fl hk G nA x nA nA L⟩
  ·unfold mw at d;rw[z]at d
   split at d
   ·rw[fD]at d;lia
   ·cases j with
    |nil=>exact absurd d (gA _)
    |cons o y=>
     have d:0<(if 2*o+1=b then 0*W k a (i+1) y else 0):=d
     split at d
     ·rw[fD]at d;lia
     ·lia
  ·cases j with
   |nil=>exact absurd rfl (r M)
   |cons o y=>
    unfold mw at d;rw[aB nA]at d;have d:0<(if 2*o+1=b then pa_ k a i b*W k a (i+1) y else 0):=d
    split at d
    ·rename_i e
     exact⟨y,by rw[show b/2=o by lia]⟩
    ·lia
def Kh:Sp:=λvs H Q _=>∃ (k:Int) (a bs:List Nat),vs=[.int k,tx a,tx (brt bs)]/\1<=k/\k<=4/\AQ k a=true/\Fi k.toNat a 0 [] bs/\∀b,Same H b->Q (.int (num k.toNat a 0 [] bs)) b
theorem QF{k:Int}{bs:List Nat}(d:1<=k)(e:k<=4)(i:AQ k a=true)(j:Fi k.toNat a 0 [] bs)(q:∀b,Same H b->Q (.int (num k.toNat a 0 [] bs)) b):Kh ([.int k,tx a,tx (brt bs)]++[]) H Q E:=⟨k,a,bs,rfl,d,e,i,j,q⟩
theorem UP{k:Int}{n:Int}(d:1<=k)(e:k<=4)(i:AQ k a=true)(j:0<=n)(o:n<zQ2 k.toNat a)(q:∀bs b,Same H b->NF k.toNat a 0 [] n bs->bs.length=a.length->Q (tx (brt bs)) b):NC ([.int k,tx a, .int n]++[]) H Q E:=⟨k,a,n,rfl,d,e,i,j,o,q⟩
end BrS
namespace L2
variable{S:Hp->Prop}{R:V->Hp->Prop}
section
variable{σ:zQ0}{Q:VK}
theorem RZ:(fun(σ4:zQ0) (a:Hp)=>tYes σ4 a λb d=>if b=true then te σ4 d R else S d)=λσ4 a=>te σ4 a R:=by
 funext σ4 a
 exact propext ⟨λz=>by have e:=z;simp only[tYes]at e;simpa using e,λz=>by show tYes _ _ _;simp only[tYes];simpa using z⟩
end
end L2
namespace BrS
variable{b:Nat}
theorem FY(h:b<8):brs[b]? =some (brs.getD b 0):=by
 match b,h with
 |0,_=>rfl
 |1,_=>rfl
 |2,_=>rfl
 |3,_=>rfl
 |4,_=>rfl
 |5,_=>rfl
 |6,_=>rfl
 |7,_=>rfl
theorem He:∀o,o<4->brs.getD (2*o) 0∈opn/\clo (brs.getD (2*o) 0)=brs.getD (2*o+1) 0/\brs.getD (2*o+1) 0∉opn:=by decide
theorem WZ:∀b,b<8->brs.getD b 0≠63:=by decide
theorem Uq:∀b,b<8->∀c,c<8->brs.getD b 0=brs.getD c 0->b=c:=by decide
theorem Up:∀k:Nat,k<=4->∀b,b<2*k->brs.getD b 0∈sgn (k:Int):=by decide +kernel
theorem U3:∀k:Nat,k<=4->∀c∈sgn (k:Int),c=63\/∃b,b<2*k/\c=brs.getD b 0:=by decide +kernel
def cl_(st:List Nat):List Nat:=st.map λo=>brs.getD (2*o+1) 0
theorem Fi.run{k:Nat}(hk:k<=4):∀ {bs:List Nat} {i:Nat} {st:List Nat},(∀o∈st,o<k)->Fi k a i st bs->run (cl_ st) (brt bs)=some []
 |[],i,st,d,h=>by
  obtain⟨_,rfl⟩:=h
  rfl
 |b::bs,i,st,d,h=>by
  obtain⟨L,M,J,q⟩:=h;have e:brt (b::bs)=brs.getD b 0::brt bs:=rfl;rw[e];show(BrM.stp (cl_ st) (brs.getD b 0)).bind _=_
  by_cases j:b%2=0
  ·obtain⟨x,y,r⟩:=He (b/2) nA;rw[show 2*(b/2)=b by lia]at x y r;rw[FD x,y];have B:stb st b=b/2::st:=by unfold stb;rw[aO j]
   rw[B]at q;have:=Fi.run hk (st:=b/2::st) (λo G=>by
    rcases aJ.mp G with z|z
    ·lia
    ·exact d o z) q
   have H:cl_ (b/2::st)=brs.getD (b+1) 0::cl_ st:=by
    show brs.getD (2*(b/2)+1) 0::cl_ st=_;rw[show 2*(b/2)=b by lia]
   rw[H]at this;exact this
  ·obtain⟨s',rfl⟩:=J nA;obtain⟨x,y,r⟩:=He (b/2) nA;have I:2*(b/2)+1=b:=by lia
   rw[I]at r;have H:cl_ (b/2::s')=brs.getD b 0::cl_ s':=by
    show brs.getD (2*(b/2)+1) 0::cl_ s'=_;rw[I]
   rw[H,GP r];have B:stb (b/2::s') b=s':=by unfold stb;rw[aB j];rfl
   rw[B]at q;exact Fi.run hk (λo G=>d o (ay _ G)) q
theorem Vn{k:Nat}(hk:k<=4)(d:b<2*k)(h:pw k c b=1):c=63\/c=brs.getD b 0:=by
 by_cases a:c=63
 ·exact .inl a
 ·refine .inr ?_;unfold pw plw at h;rw[aB a,af,am,ki,aO (show b<(ones k).length by unfold ones;rw[db];exact d),FY nA]at h;have h:(if c=brs.getD b 0 then(1:Int)else 0)=1:=h
  split at h
  ·assumption
  ·cases h
theorem NO{k:Nat}(h:a[i]? =some c)(b:Nat):pa_ k a i b=pw k c b:=by
 show((a.map (plw (ones k))).getD i []).getD b 0=_;have e:(a.map (plw (ones k))).getD i []=plw (ones k) c:=by rw[af,am,h];rfl
 rw[e];rfl
def Fll(k:Nat):List Nat->List Nat->List Nat->Prop
 |[],st,[]=>st=[]
 |c::r,st,b::bs=>b<2*k/\pw k c b=1/\(b%2=1->∃s',st=b/2::s')/\Fll k r (stb st b) bs
 |_,_,_=>False
theorem Fi.l{k:Nat}:∀ {bs:List Nat} {i:Nat} {d:List Nat},Fi k a i d bs->Fll k (a.drop i) d bs
 |[],i,d,h=>by
  obtain⟨rfl,rfl⟩:=h;rw[List.drop_length]
  rfl
 |b::bs,i,d,h=>by
  have hi:i<a.length:=by have:=h.len;rw[aM]at this;lia
  obtain⟨j,e,o,q⟩:=h;rw[hJ hi];rw[NO (ai hi)]at e;exact⟨j,e,o,Fi.l q⟩
theorem Fll.fl{k:Nat}:∀ {bs:List Nat} {i:Nat} {j:List Nat},i<=a.length->Fll k (a.drop i) j bs->Fi k a i j bs
 |[],i,j,hi,h=>by
  cases e:a.drop i with
  |nil=>
   rw[e]at h;have:=List.drop_eq_nil_iff.mp e;exact⟨by lia,h⟩
  |cons c r=>rw[e]at h;exact h.elim
 |b::bs,i,j,hi,h=>by
  by_cases d:i<a.length
  ·rw[hJ d]at h;obtain⟨o,q,x,y⟩:=h;exact⟨o,by rw[NO (ai d)];exact q,x,Fll.fl d y⟩
  ·rw[List.drop_eq_nil_iff.mpr nA]at h;exact h.elim
theorem Fll.at{k:Nat}:∀ {a j bs:List Nat},Fll k a j bs->∀ {i c b:Nat},a[i]? =some c->bs[i]? =some b->b<2*k/\pw k c b=1
 |c::r,j,b::bs,h,0,c',b',d,e=>by
  obtain rfl:c=c':=bi d;obtain rfl:b=b':=bi e;exact⟨h.1,h.2.1⟩
 |c::r,j,b::bs,h,i+1,c',b',d,e=>Fll.at h.2.2.2 (i:=i) d e
 |[],_,_,_,i,_,_,d,_=>by simp at d
 |_::_,_,[],_,i,_,_,_,e=>by simp at e
theorem Fll.lt{k:Nat}:∀ {a d bs:List Nat},Fll k a d bs->∀b∈bs,b<2*k
 |[],_,[],_,_,e=>nomatch e
 |c::r,d,b::bs,h,x,i=>by
  rcases aJ.mp i with z|z
  ·rw[z];exact h.1
  ·exact Fll.lt h.2.2.2 x z
 |[],_,_::_,h,_,_=>h.elim
 |_::_,_,[],h,_,_=>h.elim
theorem Q8{k:Nat}{bs:List Nat}(hk:k<=4)(a:bs.length<=40)(h:∀b∈bs,b<2*k):AQ (k:Int) (brt bs)=true:=by
 unfold AQ brt;rw[aQ,ax];refine⟨ba a,?_⟩;rw[aT];intro c d;obtain⟨b,e,rfl⟩:=cg.mp d;exact ba (Up k hk b (h b e))
theorem Xw(c d:Nat):inV (tx [c]) [tx [63],tx [d]]=(decide (c=63)||decide (c=d)):=by
 unfold inV;simp only[dh,kS,Fe,mn];have e:∀x:Nat,decide ([x]=[c])=decide (c=x):=λx=>by
  by_cases z:c=x
  ·subst z;rw[ba rfl,ba rfl]
  ·rw[aX z,aX (by simpa using λy=>z y.symm)]
 rw[e,e]
theorem Q7{k:Int}(h:AQ k a=true):∀c∈a,c∈sgn k:=λc b=>by
 unfold AQ at h;rw[aQ,aT]at h;exact ib (h.2 c b)
inductive spNeeds:Type
 |mk (c b:Nat) (_:vs=[tx [c],tx [b]]) (_:∀H',Same H H'->Q (.bl (!decide (c=63\/c=b))) H')
def plc(k c:Nat):List Int:=(brs.take (2*k)).map λb=>if c=63\/c=b then 2 else 1
inductive spPlacesC:Type
 |mk (k:Int) (a:List Nat) (_:vs=[.int k,tx a]) (_:1<=k) (_:k<=4) (_:a.length<=40) (_:∀r H',H r=none->Same H H'->Pls H' r (a.map (plc k.toNat))->Q (.ref r) H')
theorem T6{k:Nat}(h:k<=4):(plc k c).length=2*k:=by
 unfold plc;rw[ax,cc];show min (2*k) 8=2*k;lia
theorem Vu(k c:Nat):Sm (plc k c):=by
 intro v a;unfold plc at a;obtain⟨b,_,rfl⟩:=cg.mp a
 split<;>exact⟨by decide,by decide⟩
def chg:List Nat->List Nat->Nat
 |c::a,b::l=>(if okc c b=true then 0 else 1)+chg a l
 |_,_=>0
theorem Fg:∀ (a l:List Nat),chg a l<=l.length
 |[],l=>by unfold chg;exact bA _
 |c::a,[]=>by unfold chg;exact bA _
 |c::a,b::l=>by
  have:=Fg a l;unfold chg;rw[aM]
  split<;>lia
def FtC(a:List Nat)(H:Hp)(v:V):O->Prop
 |none=>v= .non
 |some (w,l)=>∃T,v= .ref T/\H T=some (.tup [.int (chg a l),tx (brx l)])
abbrev Pc(k:Nat)(a:List Nat):Nat->Nat->Int:=PP (a.map (plc k))
theorem XQ(c b:Nat):inV (tx [c]) [tx [63],tx [b]]=decide (c=63\/c=b):=by
 unfold inV;simp only[dh,kS,Fe]
 by_cases a:c=63<;>by_cases d:c=b<;>simp[a,d,eq_comm]<;>lia
theorem SY(a:List V)(x:V):atI (a++[x]) (-1)=some x:=Dg nC nC
theorem ML:∀ (a l:List Nat),a.length=l.length->((aw a.length).map λi=>(if okc (a.getD i 0) (l.getD i 0)=true then(0:Int)else 1)).sum=chg a l
 |[],[],_=>rfl
 |c::a,b::l,h=>by
  have d:=ML a l (by simpa using h);rw[aM,fR,aW,d4,List.sum_cons];have e:((aw a.length).map ((λi=>(if okc ((c::a).getD i 0) ((b::l).getD i 0)=true then(0:Int)else 1))∘Nat.succ))=(aw a.length).map λi=>(if okc (a.getD i 0) (l.getD i 0)=true then(0:Int)else 1):=dw λi _=>rfl;rw[e,d,chg];show(if okc c b=true then(0:Int)else 1)+_=_
  split<;>simp
 |[],_::_,h=>by cases h
 |_::_,[],h=>by cases h
theorem JD{β:Type}(f:α->List β)(n:Nat)(a:∀x,(f x).length<=n):∀ (l:List α),(l.flatMap f).length<=n*l.length
 |[]=>by simp
 |x::l=>by
  have:=JD f n a l;have:=a x;rw[List.flatMap_cons,aG,aM,Nat.mul_succ];lia
end BrS
namespace BrB
def sms(L:List Int):Int:=L.foldr (· + ·) 0
end BrB
namespace BrI
variable{P:Nat->Nat->Int}
section
variable{k:Nat}
def Of(P:Nat->Nat->Int)(k n:Nat):Nat->Nat->Nat->Int
 |0,_,_=>0
 |f+1,t,j=>(if j=n then tbl P k 0 t else 0)+sm n (λu=>tbl P k (u+1) t*(pr P k u j*sm (n+1) (λs=>Of P k n f u s*tbl P k (j+1) s)))
def Oo(P:Nat->Nat->Int)(k n t j:Nat):Int:=Of P k n (n+1) t j
def out(P:Nat->Nat->Int)(k n u j:Nat):Int:=sm (n+1) (λs=>Oo P k n u s*tbl P k (j+1) s)
end
end BrI
open BrI
namespace BrS
def prs(n:Nat):List (Nat×Nat):=(aw n).flatMap λs=>(aw ((n-s)/2)).map λq=>(s,s+1+2*q)
def rst(P:Nat->Nat->Int)(k n s e:Nat):Int:=tbl P k (s+1) e*out P k n s e
theorem Tb.but{H0:Hp}{s F:Addr}{T:Nat->Nat->Int}(t:Tb H0 H s ad n T)(a:H0 F=none)(d:F≠s)(e:∀i,i<=n->F≠ad i)(h:SameBut1 F H H'):Tb H0 H' s ad n T:=
 ⟨t.fs,t.fa,t.ns,t.inj,h _ _ t.top d.symm,λi hi=>h _ _ (t.row i hi) (e i hi).symm,λb o z=>h _ _ (t.sm b o z) (AS z a)⟩
def Bh(n s q:Nat):List (Nat×Nat):=((aw s).flatMap λs=>(aw ((n-s)/2)).map λq=>(s,s+1+2*q))++(aw q).map λq=>(s,s+1+2*q)
theorem Vq(n s q:Nat):Bh n s (q+1)=Bh n s q++[(s,s+1+2*q)]:=by
 unfold Bh;rw[bZ,bv,<-e9];rfl
theorem Vp(n s:Nat):Bh n (s+1) 0=Bh n s ((n-s)/2):=by
 unfold Bh;rw[bZ,gN];simp
theorem R9(n:Nat):Bh n n 0=prs n:=by unfold Bh prs;simp
theorem R8(n s q:Nat)(a:s<=n)(b:q<=n)(d:n<=40):(Bh n s q).length<=1700:=by
 unfold Bh;rw[aG,ax,cY];have:=JD (λs=>(aw ((n-s)/2)).map λq=>(s,s+1+2*q)) 20 (λx=>by rw[ax,cY];lia) (aw s);rw[cY]at this;lia
def rw2(m:Nat)(f:Nat->Int):List V:=(aw m).map λj=>V.int (f j)
theorem Lh(m:Nat)(f:Nat->Int):(rw2 m f).length=m:=by simp[rw2]
theorem Li{m:Nat}(h:j<m):(rw2 m f)[j]? =some (.int (f j)):=by
 unfold rw2;rw[am,aU h];rfl
theorem Tp{m:Nat}{v:Int}:(rw2 m f).set j (.int v)=rw2 m (λx=>if x=j then v else f x):=by
 apply fX;intro i;unfold rw2;rw[iq,am,am]
 by_cases e:j=i
 ·subst e
  by_cases a:j<m
  ·rw[aU a];simp[a]
  ·rw[aO rfl,aB (by simpa using a)];rw[bL (by simpa using a)];rfl
 ·rw[aB e]
  by_cases hi:i<m
  ·rw[aU hi];simp[cI e]
  ·rw[bL (by simpa using hi)];rfl
theorem Jz{m:Nat}{g:Nat->Int}(h:∀j,j<m->f j=g j):rw2 m f=rw2 m g:=by
 unfold rw2;refine dw λj a=>?_;rw[h j (bG.mp a)]
structure Tw (H0 H:Hp) (s:Addr) (ad:Nat->Addr) (n m:Nat) (T:Nat->Nat->Int):Prop where
 fs:H0 s=none
 fa:∀i,i<n->H0 (ad i)=none
 ns:∀i,i<n->ad i≠s
 inj:∀i j,i<n->j<n->ad i=ad j->i=j
 top:H s=some (.lst ((aw n).map λi=>V.ref (ad i)))
 row:∀i,i<n->H (ad i)=some (.lst (rw2 m (T i)))
 sm:Same H0 H
section
variable{H0:Hp}{s:Addr}{m:Nat}{T T':Nat->Nat->Int}
theorem Tw.same(t:Tw H0 H s ad n m T)(h:Same H H'):Tw H0 H' s ad n m T:=⟨t.fs,t.fa,t.ns,t.inj,h _ _ t.top,λi hi=>h _ _ (t.row i hi),t.sm.trans h⟩
theorem Tw.at(t:Tw H0 H s ad n m T)(hi:i<n):((aw n).map λi=>V.ref (ad i))[i]? =some (.ref (ad i)):=by
 rw[am,aU hi];rfl
theorem Tw.set(t:Tw H0 H s ad n m T){v:Int}(hi:i<n):Tw H0 (upd H (ad i) (.lst ((rw2 m (T i)).set j (.int v)))) s ad n m (λa b=>if a=i/\b=j then v else T a b):=by
 refine⟨t.fs,t.fa,t.ns,t.inj,by rw[AI (cI (t.ns i hi))];exact t.top,λa d=>?_,λb o z=>?_⟩
 ·by_cases e:a=i
  ·subst e;rw[AF,Tp];congr 2;refine Jz λx _=>?_
   by_cases q:x=j<;>simp[q]
  ·rw[AI (λz=>e (t.inj a i d hi z)),t.row a d];congr 2;refine Jz λx _=>?_;simp[e]
 ·rw[AI (AS z (t.fa i hi))];exact t.sm b o z
end
def ga(P:Nat->Nat->Int)(k n i b:Nat)(x:Nat×Nat):Int:=
 if b%2=0 then(if x.1=i then P x.1 b*P x.2 (b+1)*rst P k n x.1 x.2 else 0)else(if x.2=i then P x.1 (b-1)*P x.2 b*rst P k n x.1 x.2 else 0)
theorem Qb(m:Nat):(aS m [V.int 0]).flatten=rw2 m λ_=>0:=by
 unfold rw2
 induction m with
 |zero=>rfl
 |succ m a=>rw[bZ,bv,<-a,jF,jS];rfl
section
variable{σ:zQ0}{Q:VK}
theorem Rb{a:Addr}(J:xs.length<=sizeLine)(o:H a=some (.lst xs))(Iv:Addr->Nat->List V->Hp->Prop)
 (h0:∀D,H D=none->Iv D 0 [] (upd H D (.lst []))) (mono:∀D i d q G,H D=none->Iv D i d q->SameBut1 D q G->Iv D i d G)
 (z:∀D d b,H D=none->b D=some (.lst d)->d.length=xs.length->Same H b->Iv D xs.length d b->Q (.ref D) b)
 (L:∀ (D:Addr) (i:Nat) (x:V) (d:List V) (b:Hp) (R:V->Hp->Prop),H D=none->xs[i]? =some x->b D=some (.lst d)->d.length=i->Same H b->Iv D i d b->(∀v B,Same b B->Iv D (i+1) (d++[v]) B->R v B)->g x (AY own sel σ) b λσ4 M=>te σ4 M R):BU (Itl K a) own sel σ g tYes te Q H:=by
 refine EF (λi=>xs.getD i .non) J Iv (λi b hi j=>⟨_,xs[i],SqL.of (j _ _ o),ai hi⟩) (λb j=>⟨_,SqL.of (j _ _ o),ao _⟩) (λi q x b hi j y=>?_) h0 mono z
  (λD i d b R P hi S T j e r=>?_)
 ·obtain⟨rfl,U⟩:=y;have:=U _ (SqL.of (j _ _ o));exact⟨rfl,by rw[af,this];rfl⟩
 ·have I:xs[i]? =some xs[i]:=ai hi;have X:xs.getD i .non=xs[i]:=by rw[af,I];rfl
  rw[X];exact L D i xs[i] d b R P I S T j e r
end
def gp(P:Nat->Nat->Int)(k n m o i b:Nat)(x:Nat×Nat):Int:=sms (((prs n).take m).map (ga P k n i b))+(if b/2<o then ga P k n i b x else 0)
end BrS
namespace L2
open PySem.SeqAt
def UY(k:Int):ah->Bool
 | .int i _=>i==k
 |_=>false
def rIndexI:V->List V->Hp->VK->Prop:=λx vs H Q=>∃l,∃ns:List Int,∃k:Int,∃j:Nat,x= .ref l/\vs=[.int k]/\H l=some (.lst (ns.map V.int))/\ns[j]? =some k/\(∀m,m<j->ns[m]? ≠some k)/\ns.length<=1000/\Q (.int j) H
theorem LP:∀ {ns:List Int} {us:List ah},Vals (ns.map V.int) us->us.length=ns.length/\∀ (m:Nat) (h:m<us.length) (d:m<ns.length),∃t,us[m]= .int ns[m] t
 |[],_, .nil=>⟨rfl,λm h=>absurd h (gH _)⟩
 |_::_,_, .cons r t=>by
  obtain⟨a,b⟩:=LP t;refine⟨by simp[a],λm h d=>?_⟩
  cases m with
  |zero=>exact r
  |succ m=>exact b m (by simpa using h) (by simpa using d)
theorem Qz:MtM X "list.index" rIndexI:=by
 intro pins s σ H x vs v Z Q I P rv h;obtain⟨l,ns,k,j,rfl,rfl,R,S,i,hz,q⟩:=h
 cases P
 obtain⟨u,rfl,T⟩:=rv.one;obtain⟨t,rfl⟩:∃t,u=fK k t:=T;obtain⟨z,o,n,r,hl,e⟩:=I.lstM R;obtain⟨L,B⟩:=LP r;obtain⟨a,U⟩:=az.mp S;refine dq F.slot_list_index ⟨_,e,rfl⟩ F.entry_list_index (F.args_list_index_2 _ _) (list_indexAt l _ n none #[] (.int k t) (UY k) j (by simpa[L]using a) nA ?_ ?_) ⟨e,λy Y=>?_,?_⟩
 ·obtain⟨M,b⟩:=B j nA a;rw[fb,b,U];exact fh k
 ·intro m G J;have d:m<ns.length:=by simpa[L]using G
  obtain⟨M,b⟩:=B m nA d;have:=i m J;rw[ai d]at this;rw[fb,b];exact cW.mpr λz=>this (by rw[z])
 ·obtain⟨m,G,rfl⟩:=List.getElem_of_mem (show y∈o by simpa using Y);obtain⟨M,b⟩:=B m G nA;rw[b];exact EqAt.int_int _ _ _ _
 ·exact⟨.int j,H,I.tok _,⟨_,rfl⟩,q⟩
theorem Rx{Q:VK}{l:Addr}{k:Int}(a:H l=some (.lst (ns.map V.int)))(b:ns[j]? =some k)(d:∀m,m<j->ns[m]? ≠some k)(e:ns.length<=1000)(h:Q (.int j) H):rIndexI (.ref l) [.int k] H Q:=⟨l,ns,k,j,rfl,rfl,a,b,d,e,h⟩
end L2
namespace BrS
abbrev P1(k:Nat)(a:List Nat):Nat->Nat->Int:=PP (a.map (plw (ones k)))
theorem HB(k:Nat)(a:List Nat):tbl (P1 k a) k 0 (a.map (plw (ones k))).length=zQ2 k a:=by
 unfold tbl zQ2;rw[aO (bA _),kQ,ax]
def OA(vs:List V)(k:Int)(a:List Nat):Prop:=vs=[.int k,tx a]/\1<=k/\k<=4/\AQ k a=true
def Px(cs:Cs):Sp:=λvs H Q E=>∃k a,OA vs k a/\((zQ2 k.toNat a=0/\Ref E cs.NoFilling H)\/(zQ2 k.toNat a≠0/\
 ∀ (T p s:Addr) (d:Nat->Addr) (e b:Hp),Same H b->b T=some (.tup [.ref p, .ref s])->Pls b p (a.map (plw (ones k.toNat)))->Tb e b s d (a.map (plw (ones k.toNat))).length (tbl (P1 k.toNat a) k.toNat)->Q (.ref T) b))
theorem Ry(m:Nat)(f:Nat->Int):rw2 m f=((aw m).map f).map V.int:=by unfold rw2;rw[d4];rfl
theorem K0(c:Int):∀ns:List Int,inV (.int c) (ns.map V.int)=decide (c∈ns)
 |[]=>by simp[inV]
 |n::ns=>by
  have a:=K0 c ns;rw[aW]
  by_cases e:c=n
  ·subst e;simp[inV,eqV]
  ·unfold inV at a⊢;rw[dh,a];simp[eqV,e,cI e]
end BrS
namespace L2
variable{its:Array ah}{es:List Expr}{ps:List Str}{t:TA}{ι:Type}{R:XR}
def MT{ι:Type}(i:Nat)(a:ι->Addr)(sp:ι->Sp)(R:XR)(t:TA):TE:=λσ H Q=>∃j:ι,σ[i]? =some (some (.ref (a j)))/\t σ H λvs b=>sp j vs b Q (xk R σ)
theorem UF(i:Nat){k:Nat}{adr:ι->Addr}{sp:ι->Sp}{p pos:Pos}
 (U:∀j,∃fd,FnOk X.prog X.w X.K X.mg X.base (CXE X.prog X.w) k (adr j) fd ps (sp j)/\W.keepIn X.K (.ref (adr j))=true/\Binds X.K fd ps []) (o:Room k X.A) (q:∀e d,XF X R e d->X.xe e d) (r:PA X (e::es) t)
 (y:X.N[i]? =some x:=by rfl) (z:Vis X.env.scope x:=by first|exact Or.inl rfl|exact Or.inr (Or.inl rfl)|exact Or.inr (Or.inr rfl)) (hd:(x==("__debug__":Str))=false:=by decide) (a:(x==("__classdict__":Str))=false:=by decide)
 (B:aL (e::es) X.env=(false,eval e X.env)::aL es X.env:=by rfl) (b:(dI pos (aL es X.env)).any (·.1)=false:=by rfl):
 PE X (.Call (.Name x p) (e::es) [] pos) (MT i adr sp R t):=by
 intro pins s σ H Q I h;obtain⟨j,J,h⟩:=h;exact UG i (G:=λf=>f=adr j) (spOf:=λ_=>sp j) (λf L=>by subst L;exact U j) o q r y z hd a B b pins s σ H Q I ⟨adr j,J,rfl,h⟩
theorem Ti{adr:ι->Addr}{sp:ι->Sp}{σ:zQ0}{Q:VK}(j:ι)(a:σ[i]? =some (some (.ref (adr j))))(h:t σ H λvs b=>sp j vs b Q (xk R σ)):MT i adr sp R t σ H Q:=⟨j,a,h⟩
theorem FTu.mk{a:Addr}(l:K.lookup a=some o)(c:o.cls= .type "tuple")(s:o.data= .seq its n)(r:ID its xs=true)(b:xs.length<=1000):FTu K a xs:=⟨o,its,n,l,c,s,Pu r b,JY r⟩
end L2
namespace BrS
variable{d r:Addr}{o:HO}
abbrev Kv:=List (Key×V)
def kyT(a:List Nat):Key:= .inr ⟨a.toArray⟩
theorem HV(h:kyT a=kyT b):a=b:=by
 have:=lE h;injection this with e
 simpa using cx f' e
def ltr:List Nat:=[97,98,99,100,101,102,103,104,105,106,107,108,109,110,111,112,113,114,115,116,117,118,119,120,121,122]
def fig:List Nat:=[48,49,50,51,52,53,54,55,56,57]
structure Nm (a:List Nat):Prop where
 lo:1<=a.length
 hi:a.length<=8
 all:∀c∈a,c∈ltr
theorem Nm.no32(h:Nm a):32∉a:=λz=>absurd (h.all _ z) nv
abbrev Cg:List Nat:=[107,105,110,100,115]
abbrev DU:List Nat:=[114,111,119]
abbrev Wc:List Nat:=[116,117,114,110]
abbrev S5:List Nat:=[98,101,104,105,110,100]
abbrev Fh:List Nat:=[100,114,111,112]
abbrev Wd:List Nat:=[115,104,111,119]
abbrev Uw:List Nat:=[110,97,109,101,115]
abbrev CS:List Nat:=[108,105,110,101]
abbrev De:List Nat:=[110,117,109,98,101,114]
abbrev DV:List Nat:=[110,101,119]
abbrev Av:List Nat:=[110,97,109,101]
abbrev tOk:List Nat:=[111,107]
abbrev tNone:List Nat:=[110,111,110,101]
theorem HF(c n:Nat):∀ (w r:List Nat),c∉w->spN c (n+1) (w++c::r)=w::spN c n r
 |[],r,_=>by show spN c (n+1) (c::r)=_;rw[spN,aO rfl]
 |x::w,r,h=>by
  show spN c (n+1) (x::(w++c::r))=_;rw[spN,aB (λz=>h (by rw[z];exact aA)),HF c n w r λz=>h (ay _ z)]
  rfl
theorem Ki(c n:Nat)(w:List Nat)(h:c∉w):spN c n w=[w]:=EA c n w h
theorem Mn(n:Nat):32∉AX n:=λz=>by have:=FJ n _ z;lia
theorem Rn(c:Nat)(l:List Nat):spN c 0 l=[l]:=by cases l<;>rfl
def FB(a:List Addr)(H d:Hp):Prop:=∀b o,H b=some o->b∉a->d b=some o
theorem FB.refl(a:List Addr)(H:Hp):FB a H H:=λ_ _ h _=>h
theorem FB.of(s:Same H H1):FB bad H H1:=λc o h _=>s c o h
theorem FB.s{H2:Hp}(a:FB bad H H1)(b:Same H1 H2):FB bad H H2:=λc o h n=>b c o (a c o h n)
theorem FB.atU(a:FB bad H H1)(b:p∈bad):FB bad H (upd H1 p o):=λc d h n=>by
 have e:c≠p:=λz=>n (by rw[z];exact b);rw[AI e];exact a c d h n
theorem FB.new(a:FB bad H H1)(b:H p=none):FB bad H (upd H1 p o):=λc d h n=>by
 rw[AI (λz=>by rw[z,b]at h;cases h)];exact a c d h n
theorem FB.trans{H2:Hp}(a:FB bad H H1)(b:FB bad H1 H2):FB bad H H2:=λc o h n=>b c o (a c o h n) n
def Dk(C:Addr)(H:Hp)(d r:Addr)(k:Int)(a:Kv):Prop:=(∃b,H d=some (.ins C b [("k", .int k),("rows", .ref r)]))/\H r=some (.dK a)
theorem Dk.same{k:Int}{kvs:Kv}(h:Dk C H d r k kvs)(s:Same H H'):Dk C H' d r k kvs:=let⟨⟨a,e⟩,f⟩:=h;⟨⟨a,s _ _ e⟩,s _ _ f⟩
theorem Dk.ne{k:Int}{kvs:Kv}(h:Dk C H d r k kvs):d≠r:=λe=>by
 obtain⟨⟨a,z⟩,f⟩:=h;rw[e,f]at z;cases z
def shw(a:List Nat):List Nat:=if a=[]then tNone else a
inductive spShown:Type
 |mk (a:_) (_:vs=[tx a]) (_:a.length<=1000) (_:Q (tx (shw a)) H)
inductive spSayKinds(cs:Cs)(C:Addr):Type
 |mk (d ws r:Addr) (k:Int) (kvs:Kv) (n:Nat) (_:vs=[.ref d, .ref ws]) (_:Dk C H d r k kvs) (_:H ws=some (.lst [tx (AX n)])) (_:n<10^9) (_:((1<=n/\n<=4/\∀r' H',H r'=none->FB [d] H H'->Dk C H' d r' n []->Q (tx tOk) H')\/(¬ (1<=n/\n<=4)/\Ref E cs.NoKinds H)))
inductive spSayDrop(C:Addr):Type
 |mk (d ws r:Addr) (k:Int) (kvs:Kv) (one:List Nat) (v:V) (_:vs=[.ref d, .ref ws]) (_:Dk C H d r k kvs) (_:H ws=some (.lst [tx one])) (_:AZ kvs (kyT one)=some v) (_:∀H',FB [r] H H'->Dk C H' d r k (CU kvs (kyT one))->Q (tx tOk) H')
inductive spSayShow(C:Addr):Type
 |mk (d ws r:Addr) (k:Int) (kvs:Kv) (one a:List Nat) (_:vs=[.ref d, .ref ws]) (_:Dk C H d r k kvs) (_:H ws=some (.lst [tx one])) (_:AZ kvs (kyT one)=some (tx a)) (_:a.length<=1000) (_:∀H',Same H H'->Q (tx (shw a)) H')
inductive spDkInit(C:Addr):Type
 |mk (d dx:_) (_:vs=[.ref d]) (_:H d=some (.ins C dx [])) (_:∀r H',H r=none->FB [d] H H'->Dk C H' d r 4 []->Q .non H')
end BrS
namespace L2
variable{R:Bool->Hp->Prop}
section
variable{σ:zQ0}{Q:VK}{td ty:TE}
theorem Vb(h:ty σ H λy d=>td σ d λx b=>∃a o,x= .ref a/\DGet b a y o/\Q (.bl (!o.isSome)) b):LQ ty td σ H Q:=h
theorem Wk{t:TE}(h:t σ H λx a=>∃c,x= .bl c/\R c a):tB t σ H R:=h
theorem W9(h:td σ H λx d=>ty σ d λy e=>∃a b k v,x= .ref a/\FDc P w K a b/\y=kV k/\AZ b k=some v/\Q v e):Hk P w K td ty σ H Q:=h
theorem W8(h:ty σ H λy d=>td σ d λx e=>∃a b k,x= .ref a/\FDc P w K a b/\y=kV k/\Q (.bl (!(AZ b k).isSome)) e):Kc P w K ty td σ H Q:=h
end
end L2
namespace BrS
variable{cs:Cs}{d:D15}{i:Int}{ar fm:List (List Nat)}{w:List Nat}{Q:VK}{E:XK}
theorem Hw(c:List Nat):∀ns:List (List Nat),inV (tx c) (ns.map tx)=decide (c∈ns)
 |[]=>rfl
 |x::ns=>by
  have a:=Hw c ns;unfold inV at a⊢;rw[aW,dh,a,Fe]
  by_cases h:c=x
  ·subst h;simp
  ·rw[aX (λz=>h z.symm)];simp[h]
theorem Sv{a:List α}(h:0<a.length):atI a 0=some a[0]:=by
 cases a with
 |nil=>simp at h
 |cons x r=>exact Er x r
abbrev HD:List Nat:=[9,78,111,78,97,109,101]
abbrev Rj:List Nat:=[9,78,111,75,105,110,100,115]
abbrev HE:List Nat:=[9,78,111,76,105,110,101]
theorem ifj{c:Bool}{t:TS}{σ:zQ0}(P:zQ0->Hp->Prop)(b:∀σ' a,P σ' a->D.nx σ' a)(d:c=true->∀N:zQ0->Hp->Prop,(∀σ' a,P σ' a->N σ' a)->t {D with nx:=N} σ H)(e:c=false->P σ H):if c=true then t D σ H else tNext D σ H:=by
 cases c with
 |true=>rw[aO rfl];exact d rfl D.nx b
 |false=>rw[aB aq];exact b _ _ (e rfl)
theorem _root_.L2.SameBut1.free1{x:Addr}(s:SameBut1 p H H')(d:Po H' p)(h:H' x=none):H x=none:=by
 cases e:H x with
 |none=>rfl
 |some o=>
  by_cases z:x=p
  ·obtain⟨a,b,c,g⟩:=d;rw[z,g]at h;cases h
  ·rw[s x o e z]at h;cases h
theorem Jy{i:Nat}{σ:zQ0}(h:D.nx (σ.set i none) H):(FU i D).nx σ H:=h
def Lw(w:List Nat):Prop:=w.length<=20/\∀c∈w,c∈ltr
theorem Lw.app(h:Lw a)(g:Lw b)(d:a.length+b.length<=20):Lw (a++b):=⟨by rw[aG];exact d,λc e=>(dW.mp e).elim (h.2 c) (g.2 c)⟩
def wd8:List (List Nat):=[[110,111,110,101],[114,111,119],[110,97,109,101,115],[115,104,111,119],[116,117,114,110],[107,105,110,100,115],[100,114,111,112],[109,97,110,121]]
theorem lw8:∀w∈wd8,Lw w:=by unfold Lw;decide
def wd5:List (List Nat):=[[113,120],[113,121],[113,120,113,121],[122,122,122,122,122,122,122,122],[120]]
theorem lw5:∀w∈wd5,Lw w:=by unfold Lw;decide
theorem Hf{β:Type}{l:List α}{x:α}(f:α->β)(h:atI l i=some x):atI (l.map f) i=some (f x):=by
 unfold atI at h⊢;rw[ax]
 cases e:ixN l.length i with
 |none=>rw[e]at h;cases h
 |some j=>
  rw[e]at h;show(l.map f)[j]? =_;rw[am];have h:l[j]? =some x:=h;rw[h];rfl
theorem Ut{l:List α}(h0:0<=i)(h:i<l.length):∃x,atI l i=some x/\x∈l:=by
 obtain⟨j,rfl⟩:∃j:Nat,i=j:=⟨i.toNat,by lia⟩;have a:j<l.length:=by lia
 exact⟨l[j],AT (ai a),dF a⟩
theorem JJ:∀l:List Addr,kf RelV (l.map V.ref) (l.map aj)
 |[]=> .nil
 |_::l=> .cons rfl (JJ l)
def wd15:List (List Nat):=[[107,105,110,100,115],[114,111,119],[116,117,114,110],[98,101,104,105,110,100],[100,114,111,112],[115,104,111,119],[114,105,103,104,116],[109,97,121],[109,97,110,121],[110,116,104],[110,117,109,98,101,114],[115,117,114,101],[102,101,119,101,115,116],[109,111,114,101],[110,97,109,101,115]]
theorem S4:(wd15.map λc=>(⟨c.toArray⟩:Str)).Nodup:=by decide +kernel
theorem N5{w:cX}{a:Addr}{x0 x1 x2 x3 x4 x5 x6 x7 x8 x9 x10 x11 x12 x13 x14:Str}{t0 t1 t2 t3 t4 t5 t6 t7 t8 t9 t10 t11 t12 t13 t14:Tok}{a0 a1 a2 a3 a4 a5 a6 a7 a8 a9 a10 a11 a12 a13 a14:Addr}(b:K.lookup a=some o)(ex:o.ExactDict)(d:o.data= .dict (([(x0,t0,aj a0),(x1,t1,aj a1),(x2,t2,aj a2),(x3,t3,aj a3),(x4,t4,aj a4),(x5,t5,aj a5),(x6,t6,aj a6),(x7,t7,aj a7),(x8,t8,aj a8),(x9,t9,aj a9),(x10,t10,aj a10),(x11,t11,aj a11),(x12,t12,aj a12),(x13,t13,aj a13),(x14,t14,aj a14)]:List (Str×Tok×ah)).map (Dt w)).toArray ep)(h:[x0,x1,x2,x3,x4,x5,x6,x7,x8,x9,x10,x11,x12,x13,x14]=wd15.map λc=>(⟨c.toArray⟩:Str))(m:(a==bJ)=false):FDc P w K a ((wd15.map kyT).zip [V.ref a0,V.ref a1,V.ref a2,V.ref a3,V.ref a4,V.ref a5,V.ref a6,V.ref a7,V.ref a8,V.ref a9,V.ref a10,V.ref a11,V.ref a12,V.ref a13,V.ref a14]):=by
 have e:=WP (P:=P) (vs:=[V.ref a0,V.ref a1,V.ref a2,V.ref a3,V.ref a4,V.ref a5,V.ref a6,V.ref a7,V.ref a8,V.ref a9,V.ref a10,V.ref a11,V.ref a12,V.ref a13,V.ref a14]) [(x0,t0,aj a0),(x1,t1,aj a1),(x2,t2,aj a2),(x3,t3,aj a3),(x4,t4,aj a4),(x5,t5,aj a5),(x6,t6,aj a6),(x7,t7,aj a7),(x8,t8,aj a8),(x9,t9,aj a9),(x10,t10,aj a10),(x11,t11,aj a11),(x12,t12,aj a12),(x13,t13,aj a13),(x14,t14,aj a14)] b ex d (JJ [a0,a1,a2,a3,a4,a5,a6,a7,a8,a9,a10,a11,a12,a13,a14]) (by
  show [x0,x1,x2,x3,x4,x5,x6,x7,x8,x9,x10,x11,x12,x13,x14].Nodup;rw[h];exact S4) m
 have i:([(x0,t0,aj a0),(x1,t1,aj a1),(x2,t2,aj a2),(x3,t3,aj a3),(x4,t4,aj a4),(x5,t5,aj a5),(x6,t6,aj a6),(x7,t7,aj a7),(x8,t8,aj a8),(x9,t9,aj a9),(x10,t10,aj a10),(x11,t11,aj a11),(x12,t12,aj a12),(x13,t13,aj a13),(x14,t14,aj a14)]:List (Str×Tok×ah)).map (λx=>(.inr x.1:Key))=wd15.map kyT:=by
  show [x0,x1,x2,x3,x4,x5,x6,x7,x8,x9,x10,x11,x12,x13,x14].map (Sum.inr:Str->Key)=_;rw[h,d4];rfl
 rw[i]at e;exact e
def filB(k:Int)(a b:List Nat):Bool:=AQ k b&&decide (b.length=a.length)&&decide (Rt b)&&(aw a.length).all λi=>decide (a.getD i 0=63)||decide (a.getD i 0=b.getD i 0)
theorem Gi{k:Nat}(hk:k<=4):∀ {b a st:List Nat},(∀o∈st,o<k)->(∀c∈b,c∈sgn (k:Int))->b.length=a.length->(∀i,i<a.length->a.getD i 0=63\/a.getD i 0=b.getD i 0)->run (cl_ st) b=some []->∃bs,b=brt bs/\Fll k a st bs
 |[],[],st,_,_,_,_,h=>by
  have h:some (cl_ st)=some []:=h;have:st=[]:=jR.mp (bi h);subst this;exact⟨[],rfl,rfl⟩
 |[],_::_,_,_,_,y,_,_=>by cases y
 |_::_,[],_,_,_,y,_,_=>by cases y
 |d::b,c::a,st,j,Q,y,R,h=>by
  have h:(stp (cl_ st) d).bind (λs=>run s b)=some []:=h;have hd:=Q d aA;have B:∀c∈b,c∈sgn (k:Int):=λx q=>Q x (ay _ q);have G:b.length=a.length:=by simpa using y
  have H:∀i,i<a.length->a.getD i 0=63\/a.getD i 0=b.getD i 0:=λi hi=>by
   have:=R (i+1) (by simpa using hi);simpa using this
  have U:c=63\/c=d:=by simpa using R 0 nC
  rcases U3 k hk d hd with rfl|⟨x,q,rfl⟩
  ·exfalso;have:stp (cl_ st) 63=none:=by
    unfold stp;rw[aB nv]
    cases st with
    |nil=>rfl
    |cons o r=>
     show(if(63:Nat)=brs.getD (2*o+1) 0 then some (cl_ r)else none)=none;rw[aB λz=>WZ (2*o+1) (by have:=j o aA;lia) z.symm]
   rw[this]at h
   cases h
  ·have I:pw k c x=1:=by
    rcases U with rfl|rfl
    ·exact Vl q
    ·rw[XH q nA (FY nA),aO rfl]
   obtain⟨S,T,L⟩:=He (x/2) nA
   by_cases J:x%2=0
   ·rw[show 2*(x/2)=x by lia]at S T L;rw[FD S,T]at h;have h:run (cl_ (x/2::st)) b=some []:=by
     have e:cl_ (x/2::st)=brs.getD (x+1) 0::cl_ st:=by
      show brs.getD (2*(x/2)+1) 0::cl_ st=_;rw[show 2*(x/2)=x by lia]
     rw[e];exact h
    obtain⟨bs,rfl,P⟩:=Gi hk (λo M=>by
     rcases aJ.mp M with z|z
     ·lia
     ·exact j o z) B G H h
    refine⟨x::bs,rfl,q,I,by lia,?_⟩;unfold stb;rw[aO J];exact P
   ·have ex:2*(x/2)+1=x:=by lia
    rw[ex]at L
    cases st with
    |nil=>
     exfalso;have:stp (cl_ []) (brs.getD x 0)=none:=by unfold stp;rw[aB L];rfl
     rw[this]at h
     cases h
    |cons o r=>
     have M:=j o aA;have e:stp (cl_ (o::r)) (brs.getD x 0)=if brs.getD x 0=brs.getD (2*o+1) 0 then some (cl_ r)else none:=by unfold stp;rw[aB L];rfl
     rw[e]at h
     by_cases z:brs.getD x 0=brs.getD (2*o+1) 0
     ·rw[aO z]at h;have X:x=2*o+1:=Uq x nA _ nA z;have h:run (cl_ r) b=some []:=h;obtain⟨bs,rfl,P⟩:=Gi hk (λo M=>j o (ay _ M)) B G H h;refine⟨x::bs,rfl,q,I,λ_=>⟨r,by rw[show x/2=o by lia]⟩,?_⟩;unfold stb;rw[aB J];exact P
     ·rw[aB z]at h
      cases h
theorem MC{k:Nat}(hk:k<=4)(h:filB (k:Int) a b=true):∃bs,b=brt bs/\Fi k a 0 [] bs:=by
 unfold filB at h;simp only[aQ,bq,aT,bG,bP]at h;obtain⟨⟨⟨d,i⟩,j⟩,o⟩:=h;obtain⟨bs,e,q⟩:=Gi (st:=[]) hk nC (Q7 d) i o j;exact⟨bs,e,Fll.fl (bA _) (by rw[ff];exact q)⟩
theorem Fi.filB{k:Nat}{bs:List Nat}(hk:k<=4)(G:a.length<=40)(d:Fi k a 0 [] bs):filB (k:Int) a (brt bs)=true:=by
 have o:=d.len;have q:(brt bs).length=bs.length:=by unfold brt;rw[ax]
 have b:=d.l;rw[ff]at b;have e:Rt (brt bs):=d.run hk nC;unfold BrS.filB;rw[Q8 hk nA b.lt,ba (show(brt bs).length=a.length by lia),ba e,iJ,iJ,iJ,aT];intro i hi;have hi:=bG.mp hi;have r:a[i]? =some (a.getD i 0):=by rw[af,ai hi];rfl
 have j:bs[i]? =some (bs.getD i 0):=by rw[af,ai (show i<bs.length by lia)];rfl
 have x:(brt bs).getD i 0=brs.getD (bs.getD i 0) 0:=by unfold brt;rw[af,am,j];rfl
 obtain⟨y,B⟩:=b.at r j;rw[x,bP];rcases Vn hk y B with z|z
 ·exact .inl (ba z)
 ·exact .inr (ba z)
def NoF(K:W.Frag)(k:Int)(a:List Nat)(H:Hp)(v:V):Prop:=(∃b,v=tx b/\b.length<=1000/\filB k a b=false)\/∃ty,TyOf K H v (.type ty)/\ty∈CB/\ty≠"str"
inductive spIsFillE(K:W.Frag):Type
 |mk (k:Int) (a:List Nat) (x:V) (_:vs=[.int k,tx a,x]) (_:1<=k) (_:k<=4) (_:AQ k a=true) (_:((∃b,x=tx b/\b.length<=1000/\∀H',Same H H'->Q (.bl (filB k a b)) H')\/∃ty,TyOf K H x (.type ty)/\ty∈CB/\ty≠"str"/\∀H',Same H H'->Q (.bl false) H'))
def MV(K:W.Frag)(cs:Cs):Sp:=λvs H Q E=>NC vs H Q E\/∃b v d,vs=[b,v,d]/\(Gate K cs H E b v\/∃ (k:Int) (a:List Nat),b= .int k/\v=tx a/\1<=k/\k<=4/\AQ k a=true/\NoN K 0 (zQ2 k.toNat a-1) H d/\Ref E cs.NoNumber H)
def Js(K:W.Frag)(cs:Cs):Sp:=λvs H Q E=>Kh vs H Q E\/∃b v x,vs=[b,v,x]/\(Gate K cs H E b v\/∃ (k:Int) (a:List Nat),b= .int k/\v=tx a/\1<=k/\k<=4/\AQ k a=true/\NoF K k a H x/\Ref E cs.NotRight H)
theorem Gm{k:Int}{n:Int}(d:1<=k)(e:k<=4)(i:AQ k a=true)(j:0<=n)(o:n<zQ2 k.toNat a)(q:∀bs b,Same H b->NF k.toNat a 0 [] n bs->bs.length=a.length->Q (tx (brt bs)) b):MV K cs [.int k,tx a, .int n] H Q E:= .inl (UP d e i j o q)
theorem JN{k:Int}{bs:List Nat}(d:1<=k)(e:k<=4)(i:AQ k a=true)(j:Fi k.toNat a 0 [] bs)(q:∀b,Same H b->Q (.int (num k.toNat a 0 [] bs)) b):Js K cs [.int k,tx a,tx (brt bs)] H Q E:= .inl (QF d e i j q)
inductive D15|kinds|row|turn|behind|drop|show|right|may|many|nth|number|sure|fewest|more|names
def D15.word:D15->List Nat
 | .kinds=>Cg| .row=>DU| .turn=>Wc| .behind=>S5| .drop=>Fh| .show=>Wd| .right=>[114,105,103,104,116]| .may=>[109,97,121]| .many=>[109,97,110,121]| .nth=>[110,116,104]| .number=>[110,117,109,98,101,114]| .sure=>[115,117,114,101]| .fewest=>[102,101,119,101,115,116]| .more=>[109,111,114,101]| .names=>Uw
def D15.form:D15->List (List Nat)
 | .kinds=>[De]| .row=>[DV,CS]| .turn=>[DV,Av]| .behind=>[DV,Av,Av]| .nth=>[Av,De]| .number=>[Av,CS]| .names=>[]|_=>[Av]
def D15.fn:D15->Str
 | .kinds=>"say_kinds"| .row=>"say_row"| .turn=>"say_turn"| .behind=>"say_behind"| .drop=>"say_drop"| .show=>"say_show"| .right=>"say_right"| .may=>"say_may"| .many=>"say_many"| .nth=>"say_nth"| .number=>"say_number"| .sure=>"say_sure"| .fewest=>"say_fewest"| .more=>"say_more"| .names=>"say_names"
def all15:List D15:=[.kinds, .row, .turn, .behind, .drop, .show, .right, .may, .many, .nth, .number, .sure, .fewest, .more, .names]
def D15.of(w:List Nat):Option D15:=all15.find? λd=>decide (d.word=w)
theorem Ls(d:D15):D15.of d.word=some d:=by cases d<;>rfl
theorem Lu(h:D15.of w=some d):d.word=w:=by simpa using List.find?_some h
theorem Rg:wd15=all15.map D15.word:=rfl
theorem UN(h:D15.of w=none):w∉wd15:=λz=>by
 rw[Rg]at z;obtain⟨d,_,rfl⟩:=cg.mp z;rw[Ls]at h;cases h
theorem D15.len(d:D15):d.form.length<=3:=by cases d<;>decide
def NX(P:bK)(w:cX)(K:W.Frag)(a:Addr):Prop:=∃FK,FDc P w K a FK/\(∀d:D15,∃t,AZ FK (kyT d.word)=some (.ref t)/\FTu K t (d.form.map tx))/\∀v,D15.of v=none->AZ FK (kyT v)=none
def NY(P:bK)(w:cX)(K:W.Frag)(mg:Str->Option ah)(b:Addr):Prop:=∃DK,FDc P w K b DK/\∃a:D15->Addr,∀d:D15,AZ DK (kyT d.word)=some (.ref (a d))/\mg d.fn=some (.ref (a d))
theorem JW:∀ {ws:List (List Nat)} {vs:List V},w∉ws->AZ ((ws.map kyT).zip vs) (kyT w)=none
 |[],vs,_=>rfl
 |_::_,[],_=>rfl
 |x::ws,v::vs,h=>by
  have a:=JW (ws:=ws) (vs:=vs) λz=>h (ay _ z);have b:¬kyT x=kyT w:=λz=>h (by rw[HV z];exact aA);unfold AZ at*
  rw[aW,List.zip_cons_cons,cT];rw[aX b];exact a
def isNm(a:List Nat):Bool:=decide (1<=a.length/\a.length<=8)&&a.all λc=>decide (c∈ltr)
theorem isNm_iff:isNm a=true↔Nm a:=by
 unfold isNm;rw[aQ,bq,aT];exact⟨λ⟨⟨d,e⟩,i⟩=>⟨d,e,λc b=>by simpa using i c b⟩,λh=>⟨⟨h.lo,h.hi⟩,λc b=>ba (h.all c b)⟩⟩
def Ex(a:List Nat):Bool:=decide (1<=a.length/\a.length<=9)&&(a.all λc=>decide (c∈fig))&&(decide (a.length=1)|| !decide (a[0]? =some 48))
def B7(a p:List Nat):Bool:=if p=CS then true else if p=De then Ex a else isNm a
def Bu(l:List Nat):List Nat:=((spN 32 1 l).head?).getD []
def wds(l:List Nat)(fm:List (List Nat)):List (List Nat):=if CS∈fm then spN 32 fm.length l else spN 32 (l.length+1) l
def knw(l:List Nat):Option (D15×List (List Nat)):=match D15.of (Bu l)with
 |none=>none
 |some d=>if(wds l d.form).tail.length=d.form.length/\(((wds l d.form).tail).zip d.form).all (λx=>B7 x.1 x.2)=true then some (d,(wds l d.form).tail)else none
theorem KD(l:List Nat):(spN 32 1 l).head?=some (Bu l):=by
 unfold Bu
 cases e:spN 32 1 l with
 |nil=>exact absurd e (C9 _ _ _)
 |cons w ws=>rfl
theorem Ji(x:Nat)(ws:List (List Nat)):(DT x ws).head?=some (x::(ws.head?.getD [])):=by cases ws<;>rfl
theorem Hq(c:Nat):∀ (n:Nat) (l:List Nat),(spN c (n+1) l).head?=(spN c 1 l).head?
 |_,[]=>by simp[spN]
 |n,x::r=>by
  rw[spN,spN]
  by_cases z:x=c
  ·rw[aO z,aO z];rfl
  ·rw[aB z,aB z,Ji,Ji,Hq c n r]
set_option tactic.hygienic true in
theorem KY(l:List Nat)(d:D15):wds l d.form=Bu l::(wds l d.form).tail:=by
 have h:(wds l d.form).head?=some (Bu l):=by
  rw[<-KD];unfold wds
  split
  ·cases d<;>first|exact Hq 32 _ l|(rename_i z;exact absurd z nv)
  ·exact Hq 32 _ l
 cases e:wds l d.form with
 |nil=>rw[e]at h;cases h
 |cons w ws=>rw[e]at h;simp only[List.head?_cons,e8]at h;rw[h];rfl
theorem Gf(c:Nat):∀ (n:Nat) (l:List Nat),∀w∈spN c n l,w.length<=l.length
 |n,[],w,h=>by
  have:w=[]:=by cases n<;>simpa[spN]using h
  rw[this];exact ao _
 |0,x::r,w,h=>by
  rw[spN]at h;rw[aV.mp h];exact ao _
 |n+1,x::r,w,h=>by
  rw[spN]at h
  by_cases z:x=c
  ·rw[aO z]at h;rcases aJ.mp h with rfl|h
   ·exact bA _
   ·exact io (Gf c n r w h)
  ·rw[aB z]at h;have a:=Gf c (n+1) r
   cases e:spN c (n+1) r with
   |nil=>exact absurd e (C9 _ _ _)
   |cons b ws=>
    rw[e]at h a;rcases aJ.mp h with rfl|h
    ·rw[aM,aM];exact Nat.succ_le_succ (a b aA)
    ·exact io (a w (ay _ h))
theorem KW{l:List Nat}(h:w∈wds l fm):w.length<=l.length:=by
 unfold wds at h
 split at h<;>exact Gf _ _ _ _ h
set_option tactic.hygienic true in
theorem V9{l:List Nat}(h:knw l=some (d,ar)):Bu l=d.word/\wds l d.form=d.word::ar/\ar.length=d.form.length/\(∀ (i:Nat) (a p:List Nat),ar[i]? =some a->d.form[i]? =some p->B7 a p=true)/\∀a∈ar,a.length<=l.length:=by
 unfold knw at h
 cases e:D15.of (Bu l)with
 |none=>rw[e]at h;cases h
 |some b=>
  rw[e]at h;simp only at h
  split at h
  ·rename_i j
   simp only[e8,ke]at h;obtain⟨rfl,rfl⟩:=h;have o:=Lu e;refine⟨o.symm,?_,j.1,λi a p q r=>?_,λa x=>?_⟩
   ·rw[o];exact KY l b
   ·have:=aT.mp j.2 (a,p) (jh.mpr ⟨i,by rw[fe];exact⟨q,r⟩⟩);exact this
   ·exact KW (l:=l) (fm:=b.form) (jH x)
  ·cases h
end BrS
namespace L2
variable{Q:VK}
theorem Lx(h:n<2^1900):((n:Nat):Int).natAbs.log2<1920:=by
 rw[Int.natAbs_natCast]
 by_cases z:n=0
 ·subst z;decide
 ·exact aI ((mV z).mpr h) nv
def rStrB:List V->Hp->VK->Prop:=λa H Q=>∃n:Nat,a=[.int (n:Nat)]/\n<2^1900/\Q (tx (AX n)) H
theorem Cc:CallR X (.type "str") rStrB:=by
 intro pins s σ H a b Q I rv ⟨n,e,hn,q⟩;subst e;obtain⟨u,rfl,t,rfl⟩:=rv.one;refine PySem.P.str_of_int (Lx hn) ?_;rw[HS];exact⟨tx (AX n),H,I.tok _,⟨_,rfl⟩,q⟩
def Nk(b:TE):TE:=λσ H Q=>b σ H λx a=>(∃n:Nat,x= .int (n:Nat)/\n<2^1900/\Q (tx (AX n)) a)\/∃z,x=tx z/\z.length<=10000/\Q (tx z) a
theorem Mi{pos:Pos}(i:PE X e te):PE X (.FormattedValue e (-1) none pos) (Nk te):=by
 intro pins s σ H Q I h;refine FormattedValue_plain (thn (i pins s σ H _ I h) λv r j=>?_);obtain⟨x,a,b,d,o⟩:=j;rcases o with⟨n,rfl,hn,q⟩|⟨z,rfl,hz,q⟩
 ·obtain⟨t,rfl⟩:=d;refine wpAny_formatField_int (Lx hn) ?_;rw[HS];exact⟨tx (AX n),a,b.tok _,⟨_,rfl⟩,q⟩
 ·obtain⟨t,rfl⟩:=d;refine formatField_str (λy B=>⟨tx z,a,b.tok _,⟨_,rfl⟩,q⟩) (by rw[BF,cj];lia)
def tJ3(d t2 e:TE):TE:=λσ H Q=>d σ H λx i=>∃a,x=tx a/\a.length<=10000/\t2 σ i λy j=>∃b,y=tx b/\b.length<=10000/\e σ j λz o=>∃c,z=tx c/\c.length<=10000/\Q (tx (a++b++c)) o
theorem SJ{e1 e2 e3:Expr}{t1 t2 t3:TE}{pos:Pos}(o:PE X e1 t1)(q:PE X e2 t2)(r:PE X e3 t3):PE X (.JoinedStr [e1,e2,e3] pos) (tJ3 t1 t2 t3):=by
 intro pins s σ H Q I h;refine JoinedStr_many (jL (thn (o pins s σ H _ I h) λv y z=>?_));obtain⟨x,B,G,J,d⟩:=z;obtain⟨a,rfl,Z,d⟩:=d;obtain⟨t,rfl⟩:=J;have L:(cF++⟨a.toArray⟩:Str)=⟨a.toArray⟩:=by
  show(⟨(#[]:Array Nat)++a.toArray⟩:Str)=_;simp
 show((cF++⟨a.toArray⟩:Str)).length<=sizeLine/\_;rw[L];refine⟨by rw[BF,cj];lia,jL (thn (q pins y σ B _ G d) λv M ⟨x,P,R,S,e⟩=>?_)⟩;obtain⟨b,rfl,hb,e⟩:=e;obtain⟨t,rfl⟩:=S;have e1:(⟨a.toArray⟩++⟨b.toArray⟩:Str)=⟨(a++b).toArray⟩:=by
  show(⟨a.toArray++b.toArray⟩:Str)=_;simp
 show((⟨a.toArray⟩++⟨b.toArray⟩:Str)).length<=sizeLine/\_;rw[e1];refine⟨by rw[BF,cj,aG];lia,jL (thn (r pins M σ P _ R e) λv s3 ⟨x,T,U,Y,i⟩=>?_)⟩;obtain⟨c,rfl,hc,i⟩:=i;obtain⟨t,rfl⟩:=Y;have e2:(⟨(a++b).toArray⟩++⟨c.toArray⟩:Str)=⟨(a++b++c).toArray⟩:=by
  show(⟨(a++b).toArray++c.toArray⟩:Str)=_;simp
 show((⟨(a++b).toArray⟩++⟨c.toArray⟩:Str)).length<=sizeLine/\_;rw[e2];have j:(⟨(a++b++c).toArray⟩:Str).length<=sizeLine:=by rw[BF,cj,aG,aG];lia
 exact⟨j,joinParts_nil ⟨tx (a++b++c),T,U.tok _,⟨_,rfl⟩,i⟩ j⟩
theorem Ci(a:n<2^1900)(q:Q (tx (AX n)) H):rStrB [.int (n:Nat)] H Q:=⟨n,rfl,a,q⟩
theorem W3{σ:zQ0}(h:te σ H λx a=>(∃n:Nat,x= .int (n:Nat)/\n<2^1900/\Q (tx (AX n)) a)\/∃z,x=tx z/\z.length<=10000/\Q (tx z) a):Nk te σ H Q:=h
theorem Xi{t1 t2 t3:TE}{σ:zQ0}(h:t1 σ H λx d=>∃a,x=tx a/\a.length<=10000/\t2 σ d λy e=>∃b,y=tx b/\b.length<=10000/\t3 σ e λz i=>∃c,z=tx c/\c.length<=10000/\Q (tx (a++b++c)) i):tJ3 t1 t2 t3 σ H Q:=h
end L2
namespace BrS
variable{a:Addr}{t:List Nat}
inductive spIsName8:Type
 |mk (a:_) (_:vs=[tx a]) (_:a.length<=1000) (_:∀H',Same H H'->Q (.bl (isNm a)) H')
inductive spIsNumber8:Type
 |mk (a:_) (_:vs=[tx a]) (_:a.length<=1000) (_:∀H',Same H H'->Q (.bl (Ex a)) H')
inductive spHasForm8:Type
 |mk (a p:_) (_:vs=[tx a,tx p]) (_:a.length<=1000) (_:∀H',Same H H'->Q (.bl (B7 a p)) H')
inductive spParted8(K:W.Frag):Type
 |mk (l:List Nat) (t:Addr) (fm:List (List Nat)) (_:vs=[tx l, .ref t]) (_:FTu K t (fm.map tx)) (_:fm.length<=10) (_:l.length<=1000) (_:∀p H',H p=none->Same H H'->H' p=some (.lst ((wds l fm).map tx))->Q (.ref p) H')
def N7(K:W.Frag)(H:Hp)(v:V):Prop:=(∃l,v=tx l/\l.length<=1000/\knw l=none)\/∃ty,TyOf K H v (.type ty)/\ty∈CB/\ty≠"str"
def Rp(K:W.Frag):Sp:=λvs H Q _=>(∃l d b,vs=[tx l]/\l.length<=1000/\knw l=some (d,b)/\∀p a,H p=none->Same H a->a p=some (.lst ((d.word::b).map tx))->Q (.ref p) a)\/∃v,vs=[v]/\N7 K H v/\∀a,Same H a->Q .non a
def yn(b:Bool):List Nat:=if b=true then [121,101,115]else [110,111]
inductive spYesNo:Type
 |mk (b:_) (_:vs=[.bl b]) (_:Q (tx (yn b)) H)
inductive spSayRow8(cs:Cs)(C:Addr):Type
 |mk (d ws r:Addr) (k:Int) (kvs:Kv) (nm a:List Nat) (_:vs=[.ref d, .ref ws]) (_:Dk C H d r k kvs) (_:1<=k) (_:k<=4) (_:kvs.length<=100) (_:H ws=some (.lst [tx nm,tx a])) (_:a.length<=1000) (_:((AQ k a=true/\∀H',FB [r] H H'->Dk C H' d r k (putK kvs (kyT nm) (tx a))->Q (tx tOk) H')\/(AQ k a=false/\Ref E cs.NoLine H)))
def fwT(a:List Nat):O->List Nat
 |none=>tNone
 |some (_,l)=>AX (chg a l)++[32]++shw (brx l)
def mrT:List Int->List Nat
 |[]=>tNone
 |x::_=>AX x.toNat
theorem fm_mk8{x0 x1 x2 x3 x4 x5 x6 x7 x8 x9 x10 x11 x12 x13 x14:Str}{t0 t1 t2 t3 t4 t5 t6 t7 t8 t9 t10 t11 t12 t13 t14:Tok}{a0 a1 a2 a3 a4 a5 a6 a7 a8 a9 a10 a11 a12 a13 a14:Addr}(q:K.lookup a=some o)(ex:o.ExactDict)(r:o.data= .dict (([(x0,t0,aj a0),(x1,t1,aj a1),(x2,t2,aj a2),(x3,t3,aj a3),(x4,t4,aj a4),(x5,t5,aj a5),(x6,t6,aj a6),(x7,t7,aj a7),(x8,t8,aj a8),(x9,t9,aj a9),(x10,t10,aj a10),(x11,t11,aj a11),(x12,t12,aj a12),(x13,t13,aj a13),(x14,t14,aj a14)]:List (Str×Tok×ah)).map (Dt w)).toArray ep)(h:[x0,x1,x2,x3,x4,x5,x6,x7,x8,x9,x10,x11,x12,x13,x14]=wd15.map λc=>(⟨c.toArray⟩:Str))(m:(a==bJ)=false)(x:FTu K a0 [tx De])(y:FTu K a1 [tx DV,tx CS])(z:FTu K a2 [tx DV,tx Av])(B:FTu K a3 [tx DV,tx Av,tx Av])(G:FTu K a4 [tx Av])(H:FTu K a5 [tx Av])(I:FTu K a6 [tx Av])(J:FTu K a7 [tx Av])(L:FTu K a8 [tx Av])(M:FTu K a9 [tx Av,tx De])(b:FTu K a10 [tx Av,tx CS])(d:FTu K a11 [tx Av])(e:FTu K a12 [tx Av])(i:FTu K a13 [tx Av])(j:FTu K a14 []):NX P w K a:=⟨_,N5 q ex r h m,λQ=>by
 cases Q
 ·exact⟨_,rfl,x⟩
 ·exact⟨_,rfl,y⟩
 ·exact⟨_,rfl,z⟩
 ·exact⟨_,rfl,B⟩
 ·exact⟨_,rfl,G⟩
 ·exact⟨_,rfl,H⟩
 ·exact⟨_,rfl,I⟩
 ·exact⟨_,rfl,J⟩
 ·exact⟨_,rfl,L⟩
 ·exact⟨_,rfl,M⟩
 ·exact⟨_,rfl,b⟩
 ·exact⟨_,rfl,d⟩
 ·exact⟨_,rfl,e⟩
 ·exact⟨_,rfl,i⟩
 ·exact⟨_,rfl,j⟩,λv R=>JW (UN R)⟩
theorem dd_mk8{x0 x1 x2 x3 x4 x5 x6 x7 x8 x9 x10 x11 x12 x13 x14:Str}{t0 t1 t2 t3 t4 t5 t6 t7 t8 t9 t10 t11 t12 t13 t14:Tok}{a0 a1 a2 a3 a4 a5 a6 a7 a8 a9 a10 a11 a12 a13 a14:Addr}(r:K.lookup a=some o)(ex:o.ExactDict)(x:o.data= .dict (([(x0,t0,aj a0),(x1,t1,aj a1),(x2,t2,aj a2),(x3,t3,aj a3),(x4,t4,aj a4),(x5,t5,aj a5),(x6,t6,aj a6),(x7,t7,aj a7),(x8,t8,aj a8),(x9,t9,aj a9),(x10,t10,aj a10),(x11,t11,aj a11),(x12,t12,aj a12),(x13,t13,aj a13),(x14,t14,aj a14)]:List (Str×Tok×ah)).map (Dt w)).toArray ep)(h:[x0,x1,x2,x3,x4,x5,x6,x7,x8,x9,x10,x11,x12,x13,x14]=wd15.map λc=>(⟨c.toArray⟩:Str))(m:(a==bJ)=false)(y:mg "say_kinds"=some (.ref a0))(z:mg "say_row"=some (.ref a1))(B:mg "say_turn"=some (.ref a2))(G:mg "say_behind"=some (.ref a3))(H:mg "say_drop"=some (.ref a4))(I:mg "say_show"=some (.ref a5))(J:mg "say_right"=some (.ref a6))(L:mg "say_may"=some (.ref a7))(M:mg "say_many"=some (.ref a8))(Q:mg "say_nth"=some (.ref a9))(b:mg "say_number"=some (.ref a10))(d:mg "say_sure"=some (.ref a11))(e:mg "say_fewest"=some (.ref a12))(i:mg "say_more"=some (.ref a13))(j:mg "say_names"=some (.ref a14)):NY P w K mg a:=⟨_,N5 r ex x h m,(λq=>match q with| .kinds=>a0| .row=>a1| .turn=>a2| .behind=>a3| .drop=>a4| .show=>a5| .right=>a6| .may=>a7| .many=>a8| .nth=>a9| .number=>a10| .sure=>a11| .fewest=>a12| .more=>a13| .names=>a14),λq=>by
 cases q
 ·exact⟨rfl,y⟩
 ·exact⟨rfl,z⟩
 ·exact⟨rfl,B⟩
 ·exact⟨rfl,G⟩
 ·exact⟨rfl,H⟩
 ·exact⟨rfl,I⟩
 ·exact⟨rfl,J⟩
 ·exact⟨rfl,L⟩
 ·exact⟨rfl,M⟩
 ·exact⟨rfl,Q⟩
 ·exact⟨rfl,b⟩
 ·exact⟨rfl,d⟩
 ·exact⟨rfl,e⟩
 ·exact⟨rfl,i⟩
 ·exact⟨rfl,j⟩⟩
theorem EI{a:List Nat}(b:4<=n)(h:a.length<=n):(shw a).length<=n:=by
 unfold shw;split
 ·exact b
 ·exact h
theorem Ll{k:Nat}(c b:Nat):0<=(plw (ones k) c).getD b 0/\(plw (ones k) c).getD b 0<=1:=by
 have h:∀v∈plw (ones k) c,0<=v/\v<=1:=by
  unfold plw
  split
  ·intro v a;obtain rfl:=dY a;exact⟨by decide,by decide⟩
  ·intro v a;obtain⟨x,_,rfl⟩:=cg.mp a
   split
   ·exact⟨by decide,by decide⟩
   ·exact⟨by decide,by decide⟩
 rw[af]
 cases e:(plw (ones k) c)[b]? with
 |none=>exact⟨by simp,by simp⟩
 |some v=>exact h v (bV e)
theorem EG{k:Nat}{a:List Nat}(hk:k<=4)(e:a.length<=40):0<=zQ2 k a/\zQ2 k a<=5^40:=by
 have d:∀i b,0<=PP (a.map (plw (ones k))) i b/\PP (a.map (plw (ones k))) i b<=1:=λi b=>by
  unfold PP;rw[af (l:=a.map _),am]
  cases a[i]? with
  |none=>exact⟨by simp,by simp⟩
  |some c=>exact Ll c b
 obtain⟨h0,j⟩:=FO (P:=PP (a.map (plw (ones k)))) (k:=k) (c:=1) nv (λi b=>(d i b).1) (λi b=>(d i b).2) a.length 0 [];refine⟨h0,bM j ?_⟩;rw[lN];exact bM (EB nA (by lia:((k:Int)+1)<=5) a.length).2 (EX nv e)
theorem MJ{k:Nat}{a:List Nat}(hk:k<=4)(b:a.length<=40):((zQ2 k a).toNat:Int)=zQ2 k a/\(zQ2 k a).toNat<2^1900:=by
 obtain⟨h0,d⟩:=EG hk b;refine⟨jV h0,?_⟩;have e:(zQ2 k a).toNat<=5^40:=by
  have:((zQ2 k a).toNat:Int)<=((5^40:Nat):Int):=by rw[jV h0];exact d
  exact Int.ofNat_le.mp this
 exact de e nB
abbrev Uz:List Nat:=[9,78,111,82,111,119]
abbrev GO:List Nat:=[9,78,111,78,117,109,98,101,114]
abbrev GN:List Nat:=[9,78,111,116,82,105,103,104,116]
abbrev GD:List Nat:=[9,78,111,70,105,108,108,105,110,103]
inductive Cap8 (cs:Cs):Addr->List Nat->Prop
 |row:Cap8 cs cs.NoRow Uz
 |name:Cap8 cs cs.NoName HD
 |kinds:Cap8 cs cs.NoKinds Rj
 |line:Cap8 cs cs.NoLine HE
 |number:Cap8 cs cs.NoNumber GO
 |right:Cap8 cs cs.NotRight GN
 |filling:Cap8 cs cs.NoFilling GD
theorem WO(a S:List Nat):eqVs ((a.filter λc=> !decide (c∈S)).map λc=>tx [c]) []=a.all λc=>decide (c∈S):=by
 cases e:a.filter λc=> !decide (c∈S)with
 |nil=>
  have:a.all (λc=>decide (c∈S))=true:=by
   rw[aT];intro c b;have:=List.filter_eq_nil_iff.mp e c b;simpa using this
  rw[this];rfl
 |cons c r=>
  have:a.all (λc=>decide (c∈S))=false:=by
   rw[Bool.eq_false_iff];intro z;have b:c∈a.filter λc=> !decide (c∈S):=by rw[e];exact aA
   have d:=ji.mp b;have i:=aT.mp z c d.1;rw[i]at d;exact absurd d.2 nv
  rw[this];rfl
theorem K5{a S:List Nat}(d:a[i]? =some c)(b:Bool)(e:(!decide (c∈S))=b):(a.take (i+1)).filter (λc=> !decide (c∈S))=(a.take i).filter (λc=> !decide (c∈S))++(if b=true then [c]else []):=by
 rw[cy,d,List.filter_append];show _++List.filter _ [c]=_;rw[iR,e];rfl
theorem NG{c:TT}{t u:TS}{σ:zQ0}(P:zQ0->Hp->Prop)(b:∀σ' a,P σ' a->D.nx σ' a)(d:(∀σ' a,P σ' a->D.nx σ' a)->Ds c t u D σ H):Ds c t u D σ H:=d b
theorem SameBut1.fresh{H2:Hp}(s:Same H H1)(b:SameBut1 p H1 H2)(h:H p=none):Same H H2:=λc o z=>b c o (s c o z) (AS z h)
theorem Dk.but{d r:Addr}{k:Int}{kvs:Kv}(h:Dk C H d r k kvs)(s:SameBut1 p H H')(a:d≠p)(b:r≠p):Dk C H' d r k kvs:=let⟨⟨i,e⟩,f⟩:=h;⟨⟨i,s _ _ e a⟩,s _ _ f b⟩
def Ans(t:List Nat):Prop:=t.length<=1000/\t.head?≠some 9/\t≠[111,100,100]
theorem Ans.all(h:t.length<=1000)(a:∀c∈t,c≠9/\c≠111):Ans t:=⟨h,λe=>(a 9 (List.mem_of_mem_head? e)).1 rfl,λe=>(a 111 (by rw[e];simp)).2 rfl⟩
theorem Ans.ok:Ans tOk:=⟨by decide,by decide,by decide⟩
theorem Ans.none:Ans tNone:=⟨by decide,by decide,by decide⟩
theorem Ans.shw(h:Ans t):Ans (BrS.shw t):=by
 unfold BrS.shw;split
 ·exact .none
 ·exact h
theorem Hi(h:n<=5^40):Ans (AX n):=by
 refine .all (bj (Cz 30 n (de h nB)) nv) λc a=>?_;have:=FJ n c a;lia
theorem M6(b:Bool):Ans (yn b):=by cases b<;>exact⟨by decide,by decide,by decide⟩
theorem M4(b:Nat):brs.getD b 0≠9/\brs.getD b 0≠111:=by
 by_cases h:b<8
 ·have:∀b,b<8->brs.getD b 0≠9/\brs.getD b 0≠111:=by decide
  exact this b h
 ·rw[af,bL (by show 8<=b;lia)];exact⟨by decide,by decide⟩
end BrS
namespace L2
theorem pxt{pos:Pos}(l:List Nat)(h:x=⟨l.toArray⟩:=by decide +kernel):PE X (.Constant (.str x) j pos) (tC (tx l)):=NM h
theorem KN{osc sc:gu}{N:List Str}{own':List Str}{sel':List Nat}{cl:List (Str×Addr)}{s2:ak}{H2:Hp}{fp:List Addr}
 (e:X.env.scope=osc) (a:(B1 X own' sel' sc cl C s2 H2 fp).N=N) (h:Gx (R4 sc osc) N own sel scope=true):CompOkC (B1 X own' sel' sc cl C s2 H2 fp).env.scope (B1 X own' sel' sc cl C s2 H2 fp).N own sel scope:=by
 subst e;subst a;exact Au h
end L2
namespace BrS
def DX(K:W.Frag)(cs:Cs)(C:Addr)(i:Nat):Bool:=
 W.mroIn K C (.ref cs.RowError)==some true&&W.kitOne K (.ref C) (.type "ValueError")==some true&&W.kitAny K (.ref C) ([cs.NoPlace,cs.NoTree,cs.NoWeights,cs.TooMany].map aj)==some false&&
 ([cs.NoRow,cs.NoName,cs.NoKinds,cs.NoLine,cs.NoNumber,cs.NotRight,cs.NoFilling].map λc=>W.kitOne K (.ref C) (.ref c))==(aw 7).map λj=>some (j==i)
def IR(K:W.Frag)(cs:Cs):Bool:=(aw 7).all λi=>DX K cs ([cs.NoRow,cs.NoName,cs.NoKinds,cs.NoLine,cs.NoNumber,cs.NotRight,cs.NoFilling].getD i 0) i
inductive Fct (K:W.Frag) (cs:Cs) (C:Addr) (nm:List Nat):Prop
 |mk (b1 b2 b3 b4 b5 b6 b7:Bool) (j:Nat) (wd:List Nat) (_:W.mroIn K C (.ref cs.RowError)=some true) (_:W.kitOne K (.ref C) (.ref cs.NoRow)=some b1) (_:W.kitOne K (.ref C) (.ref cs.NoName)=some b2) (_:W.kitOne K (.ref C) (.ref cs.NoKinds)=some b3) (_:W.kitOne K (.ref C) (.ref cs.NoLine)=some b4) (_:W.kitOne K (.ref C) (.ref cs.NoNumber)=some b5) (_:W.kitOne K (.ref C) (.ref cs.NotRight)=some b6) (_:W.kitOne K (.ref C) (.ref cs.NoFilling)=some b7) (_:W.kitAny K (.ref C) ([cs.NoPlace,cs.NoTree,cs.NoWeights,cs.TooMany].map aj)=some false) (_:W.kitOne K (.ref C) (.type "ValueError")=some true) (_:[b1,b2,b3,b4,b5,b6,b7].count true=1) (_:[b1,b2,b3,b4,b5,b6,b7][j]? =some true) (_:(∀m,m<j->[b1,b2,b3,b4,b5,b6,b7][m]? ≠some true)) (_:atI [tx [78,111,82,111,119],tx [78,111,78,97,109,101],tx [78,111,75,105,110,100,115],tx [78,111,76,105,110,101],tx [78,111,78,117,109,98,101,114],tx [78,111,116,82,105,103,104,116],tx [78,111,70,105,108,108,105,110,103]] (j:Int)=some (tx wd)) (_:nm=9::wd) (_:wd.length<=10)
theorem KO{cs:Cs}(h:IR K cs=true)(e:Cap8 cs C nm):Fct K cs C nm:=by
 have k:∀i,i<7->DX K cs ([cs.NoRow,cs.NoName,cs.NoKinds,cs.NoLine,cs.NoNumber,cs.NotRight,cs.NoFilling].getD i 0) i=true:=λi hi=>aT.mp h i (bG.mpr hi);have f:∀ (C:Addr) (i:Nat) (a:List Nat),DX K cs C i=true->[0==i,1==i,2==i,3==i,4==i,5==i,6==i].count true=1/\[0==i,1==i,2==i,3==i,4==i,5==i,6==i][i]? =some true/\(∀m,m<i->[0==i,1==i,2==i,3==i,4==i,5==i,6==i][m]? ≠some true)->atI [tx [78,111,82,111,119],tx [78,111,78,97,109,101],tx [78,111,75,105,110,100,115],tx [78,111,76,105,110,101],tx [78,111,78,117,109,98,101,114],tx [78,111,116,82,105,103,104,116],tx [78,111,70,105,108,108,105,110,103]] (i:Int)=some (tx a)->a.length<=10->Fct K cs C (9::a):=by
  intro C i a hk b j o;unfold DX at hk;simp only[aQ,bE,aW,fC,aw,lG,lK,and_true]at hk;obtain⟨⟨⟨q,r⟩,x⟩,y,z,B,G,H,I,d⟩:=hk;exact⟨_,_,_,_,_,_,_,i,a,q,y,z,B,G,H,I,d,x,r,b.1,b.2.1,b.2.2,j,rfl,o⟩
 cases e
 ·exact f _ 0 _ (k 0 nv) nv rfl nv
 ·exact f _ 1 _ (k 1 nv) nv rfl nv
 ·exact f _ 2 _ (k 2 nv) nv rfl nv
 ·exact f _ 3 _ (k 3 nv) nv rfl nv
 ·exact f _ 4 _ (k 4 nv) nv rfl nv
 ·exact f _ 5 _ (k 5 nv) nv rfl nv
 ·exact f _ 6 _ (k 6 nv) nv rfl nv
end BrS
namespace L2
variable{a:Addr}{c:Addr×Str×Stmt}{osl:Array (Option ah)}{R:List (Str×Addr)}{M:List (Str×Addr×Str×Stmt)}{G:List (Str×V)}{es:List Expr}{P:List ah->Prop}{r:R2}{f:Str}{β:Type}{Q:VK}
def AllP{β:Type}(Q:Str->β->Prop):List (Str×β)->Prop
 |[]=>True
 |(x,b)::r=>Q x b/\AllP Q r
theorem AllP.map{Q R:Str->β->Prop}(h:∀x b,Q x b->R x b):∀ {l:List (Str×β)},AllP Q l->AllP R l
 |[],_=>trivial
 |(_,_)::_,z=>⟨h _ _ z.1,AllP.map h z.2⟩
theorem AllP.at{Q:Str->β->Prop}:∀ {l:List (Str×β)},AllP Q l->∀ (i:Nat) {x:Str} {b:β} (_:l[i]? =some (x,b):=by rfl),Q x b
 |(_,_)::_,z,0,_,_,e=>by cases e;exact z.1
 |(_,_)::_,z,i+1,_,_,e=>AllP.at z.2 i e
section
variable{P:bK}{h:Heap}{q:Str}{st:Stmt}{N ps:List Str}{k:Nat}{f:Addr}
def FnN(K:W.Frag)(x:Str)(st:Stmt):Prop:=∃f fd,W.nsIn K a' x=some (some (.ref f))/\Fun K x x st f fd
def FnA(K:W.Frag)(mg:Str->Option ah)(x:Str)(st:Stmt):Prop:=∃f fd,mg x=some (.ref f)/\Fun K x x st f fd
def MtA(K:W.Frag)(q:Str)(c:Addr×Str×Stmt):Prop:=∃f fd,Meth K c.1 c.2.1 f/\Fun K c.2.1 q c.2.2 f fd
def ClN(K:W.Frag)(x:Str)(a:Addr):Prop:=W.nsIn K a' x=some (some (.ref a))/\Fq K a=true
abbrev ClA(K:W.Frag)(mg:Str->Option ah)(x:Str)(a:Addr):Prop:=mg x=some (.ref a)/\ECls K a
def GlN(K:W.Frag)(x:Str)(v:V):Prop:=∃u,W.nsIn K a' x=some (some u)/\RelV v u
abbrev GlA(mg:Str->Option ah)(x:Str)(v:V):Prop:=∃u,mg x=some u/\RelV v u
section
variable{oc:ah}{od an:Option Addr}{kV doc pm cdv ct:ah}{F:List (Str×Stmt)}{m:Str}
theorem AllP.fn(i:W.nsIn K a' x=some (some (.ref f)))(l:K.lookup f=some ⟨oc,od, .func (W.fnOf x x (C8 st) (Bn st) (AU st) .none kV doc pm an cdv ct),osl⟩)(c:W.codeIn K cdv x=true)(k:W.keepIn K (.ref f)=true)(t:AllP (FnN K) F):AllP (FnN K) ((x,st)::F):=⟨⟨f,_,i,Mu l c k⟩,t⟩
theorem AllP.mt(i:W.findIn K (.ref C) m=some (some (.ref f)))(n:W.isFn K (.ref f)=true)(l:K.lookup f=some ⟨oc,od, .func (W.fnOf m q (C8 st) (Bn st) (AU st) .none kV doc pm an cdv ct),osl⟩)(c:W.codeIn K cdv q=true)(k:W.keepIn K (.ref f)=true)(t:AllP (MtA K) M):AllP (MtA K) ((q,C,m,st)::M):=⟨⟨f,_,⟨i,n,k⟩,Mu l c k⟩,t⟩
theorem AllP.cl(i:W.nsIn K a' x=some (some (.ref a)))(e:Fq K a=true)(t:AllP (ClN K) R):AllP (ClN K) ((x,a)::R):=⟨⟨i,e⟩,t⟩
theorem AllP.tx{s:Str}{u:Tok}(i:W.nsIn K a' x=some (some (.str s u)))(e:s=⟨b.toArray⟩)(t:AllP (GlN K) G):AllP (GlN K) ((x,tx b)::G):=⟨⟨_,i,by rw[e];exact⟨_,rfl⟩⟩,t⟩
theorem AllP.int{s b:Int}{u:Tok}(i:W.nsIn K a' x=some (some (.int s u)))(e:s=b)(t:AllP (GlN K) G):AllP (GlN K) ((x, .int b)::G):=⟨⟨_,i,by rw[e];exact⟨_,rfl⟩⟩,t⟩
theorem AllP.ref(i:W.nsIn K a' x=some (some (.ref a)))(t:AllP (GlN K) G):AllP (GlN K) ((x, .ref a)::G):=⟨⟨_,i,rfl⟩,t⟩
theorem fnA(X:K.In h)(G:h.Ns a' mg)(z:AllP (FnN K) F):AllP (FnA K mg) F:=z.map λ_ _ ⟨f,fd,i,F⟩=>⟨f,fd,W.mg_of X G i,F⟩
theorem clA(X:K.In h)(G:h.Ns a' mg)(z:AllP (ClN K) R):AllP (ClA K mg) R:=z.map λ_ _ ⟨i,e⟩=>⟨W.mg_of X G i,Ui e⟩
theorem glA(X:K.In h)(b:h.Ns a' mg)(z:AllP (GlN K) G):AllP (GlA mg) G:=z.map λ_ _ ⟨u,i,e⟩=>⟨u,W.mg_of X b i,e⟩
end
def nbB(K:W.Frag)(l:List Str):Bool:=l.all λx=>W.nsIn K a' x==some none
theorem nbA{l:List Str}(X:K.In h)(G:h.Ns a' mg)(z:nbB K l=true):∀x∈l,mg x=none:=λx a=>W.mg_none_of X G (bE.mp (aT.mp z x a))
def Ny(K:W.Frag)(C:Addr)(l:List Str):Bool:=W.plainGet K C cF&&W.hasDictIn K C&&W.plainOver K C&&(W.findIn K (.ref C) "__setattr__"==some (some (.builtin "object.__setattr__")))&&W.makesIn K C&&W.keepIn K (.ref C)&&
 l.all λx=>W.findIn K (.ref C) x==some none
structure Own (K:W.Frag) (mg:Str->Option ah) (x:Str) (C:Addr) (l:List Str):Prop where
 c:mg x=some (.ref C)
 cl:Cls K C
 ma:W.makesIn K C=true
 kp:W.keepIn K (.ref C)=true
 n:∀f∈l,NoAttr K C f
theorem Own.at{l:List Str}(o:Own K mg x C l)(i:Nat){f:Str}(h:l[i]? =some f:=by rfl):NoAttr K C f:=o.n f (bV h)
theorem Own.fl{l:List Str}(o:Own K mg x C l)(i:Nat){d dx:Addr}{fs:List (Str×V)}{f:Str}{v:V}{R:V->Prop}(ob:H d=some (.ins C dx fs))(q:R v)(h:l[i]? =some f:=by rfl)(e:fs.lookup f=some v:=by rfl):
 ∃a j r b v',V.ref d= .ref a/\H a=some (.ins j r b)/\Cls K j/\NoAttr K j f/\b.lookup f=some v'/\R v':=⟨d,C,dx,fs,v,rfl,ob,o.cl,o.at i h,e,q⟩
theorem ownA{l:List Str}(X:K.In h)(G:h.Ns a' mg)(y:W.nsIn K a' x=some (some (.ref C)))(z:Ny K C l=true):Own K mg x C l:=by
 unfold Ny at z;simp only[aQ,bE,aT]at z;obtain⟨⟨⟨⟨⟨⟨a,b⟩,c⟩,d⟩,e⟩,f⟩,g⟩:=z;exact⟨W.mg_of X G y,⟨a,b,c,d⟩,e,f,g⟩
theorem scN{sc:gu}(N:List Str)(a:sc.kind= .function:=by rfl)(b:sc.isCoroutine=false:=by rfl)(c:sc.isGenerator=false:=by rfl)(d:N.Nodup:=by decide +kernel)(e:N.take ps.length=ps:=by rfl)(f:∀x∈ps,sc.names.lookup x=some .local\/sc.names.lookup x=some .cell:=by decide +kernel)(g:∀y∈sc.names,y.2≠ .free:=by decide +kernel):FnScope N ps sc:=⟨a,b,c,d,e,f,g⟩
theorem us0{P:List ah->Prop}(h:P []):∀us,us.length=0->P us:=λus e=>by cases us with|nil=>exact h|cons a r=>cases e
theorem usS{P:List ah->Prop}(h:∀a us,us.length=n->P (a::us)):∀us,us.length=n+1->P us:=λus e=>by cases us with|nil=>cases e|cons a r=>exact h a r (mC e)
theorem us1{P:List ah->Prop}(h:∀a,P [a]):∀us,us.length=1->P us:=usS λa=>us0 (h a)
theorem us2{P:List ah->Prop}(h:∀a b,P [a,b]):∀us,us.length=2->P us:=usS λa=>us1 (h a)
theorem us3{P:List ah->Prop}(h:∀a b c,P [a,b,c]):∀us,us.length=3->P us:=usS λa=>us2 (h a)
theorem us4{P:List ah->Prop}(h:∀a b c d,P [a,b,c,d]):∀us,us.length=4->P us:=usS λa=>us3 (h a)
def Ln(ps:List Str)(sp:Sp):Sp:=λvs H Q E=>vs.length=ps.length/\sp vs H Q E
theorem Xh{E:XK}(e:vs.length=ps.length)(h:sp vs H Q E):Ln ps sp vs H Q E:=⟨e,h⟩
abbrev FuV(P:bK)(w:cX)(K:W.Frag)(mg:Str->Option ah)(base:Heap)(k:Nat)(x:Str)(ps:List Str)(sp:Sp):Prop:=FnU P w K mg base k x ps (Ln ps sp)
abbrev Am(P:bK)(w:cX)(K:W.Frag)(mg:Str->Option ah)(base:Heap)(k:Nat)(x:Str)(ps:List Str)(sp:Sp):Prop:=FnUE P w K mg base k x ps (Ln ps sp)
abbrev MeV(P:bK)(w:cX)(K:W.Frag)(mg:Str->Option ah)(base:Heap)(k:Nat)(C:Addr)(x:Str)(ps:List Str)(sp:Sp):Prop:=MeU P w K mg base k C x ps (Ln ps sp)
abbrev N8(P:bK)(w:cX)(K:W.Frag)(mg:Str->Option ah)(base:Heap)(k:Nat)(C:Addr)(x:Str)(ps:List Str)(sp:Sp):Prop:=MeUE P w K mg base k C x ps (Ln ps sp)
abbrev MkV(P:bK)(w:cX)(K:W.Frag)(mg:Str->Option ah)(base:Heap)(k:Nat)(C:Addr)(ps:List Str)(sp:Sp):Prop:=MkU P w K mg base k C ps (Ln ps sp)
def Bnd(x q:Str)(st:Stmt)(ps:List Str):Prop:=∀ (kV a e:ah) (i:Option Addr) (b ct:ah) (d:List ah),d.length=ps.length->bindArgs (W.fnOf x q (C8 st) (Bn st) (AU st) .none kV a e i b ct) ⟨d,[]⟩=pure (ps.zip d)
def Bdy(P:bK)(w:cX)(K:W.Frag)(mg:Str->Option ah)(base:Heap)(N:List Str)(q:Str)(st:Stmt)(k:Nat)(sp:Sp):Prop:=
 ∀ {f:Addr}{a:ah}{A:eR}{outer:List Env}{s:ak}{vs:List V}{Q:VK}{E:XK} (nd:N.Nodup) (H:Hp),Room k (A.deeper (ig q (AU st) s.1.1.size f a))->sp vs H Q E->
   ∃t,PSs (CZ CX0 P w K mg base N q (AU st) f a A outer s H E).nox (Bn st) t/\t {nx:=λ_ b=>Q .non b,rt:=Q} (start N vs) H
def OD(P:bK)(w:cX)(K:W.Frag)(mg:Str->Option ah)(base:Heap)(N:List Str)(q:Str)(st:Stmt)(k:Nat)(sp:Sp):Prop:=
 ∀ {f:Addr}{a:ah}{A:eR}{outer:List Env}{s:ak}{vs:List V}{Q:VK}{E:XK} (nd:N.Nodup) (H:Hp),Room k (A.deeper (ig q (AU st) s.1.1.size f a))->sp vs H Q E->
   ∃t,PSs (cxE P w K mg base N q st f a A outer s H E) (Bn st) t/\t {nx:=λ_ b=>Q .non b,rt:=Q} (start N vs) H
theorem FnA.u(p:FnA K mg x st)(S:FnScope N ps (AU st))(b:Bdy P w K mg base N x st k sp)
 (d:Bnd x x st ps:=by and_intros):FuV P w K mg base (k+1) x ps sp:=
 let⟨f,fd,m,F⟩:=p;⟨f,fd,F.ok S (λ_ _ _ _ h=>h.1) λa A outer s H vs Q E r h=>b S.nd H r h.2,m,F.kp,F.binds d⟩
theorem FnA.uE(p:FnA K mg x st)(S:FnScope N ps (AU st))(b:OD P w K mg base N x st k sp)
 (d:Bnd x x st ps:=by and_intros):Am P w K mg base (k+1) x ps sp:=
 let⟨f,fd,m,F⟩:=p;⟨f,fd,F.okE S (λ_ _ _ _ h=>h.1) λa A outer s H vs Q E r h=>b S.nd H r h.2,m,F.kp,F.binds d⟩
theorem MtA.u{m:Str}(p:MtA K q (C,m,st))(S:FnScope N ps (AU st))(b:Bdy P w K mg base N q st k sp)
 (d:Bnd m q st ps:=by and_intros):MeV P w K mg base (k+1) C m ps sp:=
 let⟨f,fd,m,F⟩:=p;⟨f,fd,F.ok S (λ_ _ _ _ h=>h.1) λa A outer s H vs Q E r h=>b S.nd H r h.2,m,F.binds d⟩
theorem MtA.uE{m:Str}(p:MtA K q (C,m,st))(S:FnScope N ps (AU st))(b:OD P w K mg base N q st k sp)
 (d:Bnd m q st ps:=by and_intros):N8 P w K mg base (k+1) C m ps sp:=
 let⟨f,fd,m,F⟩:=p;⟨f,fd,F.okE S (λ_ _ _ _ h=>h.1) λa A outer s H vs Q E r h=>b S.nd H r h.2,m,F.binds d⟩
theorem MtA.m{l:List Str}(p:MtA K q (C,"__init__",st))(o:Own K mg x C l)(S:FnScope N ps (AU st))(b:Bdy P w K mg base N q st k sp)
 (d:Bnd "__init__" q st ps:=by and_intros):MkV P w K mg base (k+2) C ps sp:=
 let⟨f,fd,m,F⟩:=p;⟨⟨_,f,fd,ao _,F.ok S (λ_ _ _ _ h=>h.1) λa A outer s H vs Q E r h=>b S.nd H r h.2,⟨o.ma,m.at_,m.fn,o.kp⟩,F.binds d⟩⟩
theorem Xy(F:Fun K x q st f fd)(S:FnScope N ps (AU st))(b:Bdy P w K mg base N q st k sp):FnOk P w K mg base CX0 (k+1) f fd ps (Ln ps sp):=
 F.ok S (λ_ _ _ _ h=>h.1) λa A outer s H vs Q E r h=>b S.nd H r h.2
theorem V8{fa:Addr}(p:FnA K mg "law" st)(d:mg "law"=some (.ref fa))(j:∀ (s:ak) (kV a e:ah) (i:Option Addr) (b ct v:ah),kK s (W.fnOf "law" "law" (C8 st) (Bn st) (AU st) .none kV a e i b ct) ⟨[v],[]⟩ [("script",v)])
 (ok:∀ (base:Heap) {f fd},Fun K "law" "law" st f fd->FnOk P w K mg base CX0 n f fd ["script"] sp):∃fd:jB,(∀ (s:ak) (v:ah),kK s fd ⟨[v],[]⟩ [("script",v)])/\∀base:Heap,K.In base->base.Ns a' mg->FnOk P w K mg base CX0 n fa fd ["script"] sp:=by
 obtain⟨f,fd,m,F⟩:=p
 cases d.symm.trans m
 have o:=F;obtain⟨z,B,kV,a,e,i,b,ct,r,rfl,G,y⟩:=F.ex;exact⟨_,λs v=>j s kV a e i b ct v,λbase _ _=>ok base o⟩
end
section
variable{o i a b:Expr}{td ty tb:TE}{t:TA}{pos pos' p:Pos}{op:mI}
theorem AO(i:Nat)(d:PE X e te)(nd:X.N.Nodup:=by assumption)(hi:X.N[i]? =some x:=by rfl)(j:Loc X.env.scope x:=by exact Or.inl rfl)(q:gC e (some (.Name x pos')) pos.line X.env=pure false:=by rfl)
 (y:X.fn x=true\/X.env.scope.names.lookup x=some .local:=by first|exact .inl rfl|exact .inr rfl|assumption):PS X (.Assign [.Name x pos'] e pos) (Cr te (BG i)):=CM nd hi j d q y
theorem Ah(i:Nat)(nd:X.N.Nodup:=by assumption)(hi:X.N[i]? =some x:=by rfl)(d:Loc X.env.scope x:=by exact Or.inl rfl)(j:X.fn x=true\/X.env.scope.names.lookup x=some .local:=by first|exact .inl rfl|exact .inr rfl|assumption):PG X (.Name x pos) (BG i):=Af nd hi d j
theorem AH(K:W.Frag)(d:PE X a ta)(j:PE X b tb)(q:MN b:=by exact λ_ _=>rfl)(y:X.K=K:=by rfl):PE X (.Subscript a b pos) (tOp (Et K) ta tb):=XI (Xv K y) d j q
theorem Cq(d:X.A.units+1<jE)(j:PE X o td)(hi:PE X i ty)(q:Ez i:=by exact λ_ _=>rfl):PE X (.Subscript o i pos) (IF td ty):=UH d j hi q
theorem Hs(P:bK)(w:cX)(K:W.Frag)(d:PE X o td)(hi:PE X i ty)(j:Ez i:=by exact λ_ _=>rfl)(q:X.prog=P:=by rfl)(y:X.w=w:=by rfl)(z:X.K=K:=by rfl):PE X (.Subscript o i pos) (Hk P w K td ty):=SL P w K d hi j q y z
theorem BH(d:OpR X (bt op) r)(j:PE X a ta)(q:PE X b tb)(y:eZ op b=false:=by exact Mo _):PE X (.Compare a [op] [b] pos) (tOp r ta tb):=UI d j q y
theorem AR(d:OpR X (bt op) r)(j:PE X a ta)(q:PE X b tb)(y:eZ op b=false:=by exact Mo _):PT X (.Compare a [op] [b] pos) (Dm (tOp r ta tb)):=Tx d j q y
theorem Al(K:W.Frag)(d:X.mg "len"=none)(j:PA X [e] t)(hg:Gl X "len":=by rfl)(q:aL [e] X.env=(false,eval e X.env)::aL [] X.env:=by rfl)(y:(dI pos (aL [] X.env)).any (·.1)=false:=by rfl)(z:X.K=K:=by rfl):PE X (.Call (.Name "len" p) [e] [] pos) (tCB (Es K) t):=Aj (RT K z) hg d PySem.boot_len j nv nv q y
end
theorem Xx{G:Prop}(k:∀R:Prop,(G->R)->R):G:=k G id
section
variable{σ:zQ0}{R:List V->Hp->Prop}{v w c:V}{tb:TE}{tr:TA}{u a b:TS}
theorem Wl(h:te σ H λx d=>u D (σ.set i (some x)) d):Fu (Cr te (BG i)) u D σ H:=h
theorem XE(h:te σ H λx d=>D.nx (σ.set i (some x)) d):Cr te (BG i) D σ H:=h
theorem VA(e:σ[i]? =some (some v))(f:σ[j]? =some (some w))(h:r v w H Q):tOp r (Br i) (Br j) σ H Q:=⟨v,e,w,f,h⟩
theorem VB(e:σ[i]? =some (some v))(h:r v c H Q):tOp r (Br i) (tC c) σ H Q:=⟨v,e,h⟩
theorem Wp(e:σ[i]? =some (some v))(h:tb σ H λy d=>r v y d Q):tOp r (Br i) tb σ H Q:=⟨v,e,h⟩
theorem VC(h:ta σ H λx d=>r x c d Q):tOp r ta (tC c) σ H Q:=h
theorem XA(e:σ[i]? =some (some v))(h:R [v] H):CD (Br i) tNil σ H R:=⟨v,e,h⟩
theorem Xm(e:σ[i]? =some (some v))(h:tr σ H λd o=>R (v::d) o):CD (Br i) tr σ H R:=⟨v,e,h⟩
theorem Xn(h:ta σ H λx d=>R [x] d):CD ta tNil σ H R:=h
theorem Wz(h:te σ H λx d=>∃k,x= .bl k/\if k=true then a D σ d else b D σ d):Ds (Dm te) a b D σ H:=h
end
def E3(U R:zQ0->Hp->Prop):Prop:=∀σ H,U σ H->R σ H
def N9(U R:VK):Prop:=∀v H,U v H->R v H
def Opn(U B:zQ0->Hp->Prop)(V:VK)(G:Ends->Prop):Prop:=∀R S T,E3 U R->E3 B S->N9 V T->G ⟨R,T,S,R⟩
theorem V7{U R:zQ0->Hp->Prop}{σ:zQ0}(i:E3 U R)(h:U σ H):R σ H:=i _ _ h
section
variable{U B:zQ0->Hp->Prop}{V':VK}{G:Ends->Prop}{σ:zQ0}{c:Int}{l:List Nat}
theorem Wo(h:∀R S T,E3 U R->E3 B S->N9 V' T->G ⟨R,T,S,R⟩):Opn U B V' G:=h
theorem Opn.go(h:Opn U B V' G):G ⟨U,V',B,U⟩:=h _ _ _ (λ_ _ z=>z) (λ_ _ z=>z) λ_ _ z=>z
theorem FN(Pv:Nat->zQ0->Hp->Prop)(h0:Pv 0 σ H)(b:∀i σ H,i<n->Pv i σ H->Opn (Pv (i+1)) D.nx D.rt λD=>g (.int (lo+i)) σ H λσ2 d=>tb D σ2 d)(hd:∀σ H,Pv n σ H->D.nx σ H):B8 (Itr lo n) g tb D σ H:=Ud Pv h0 (λi σ H hi p=>(b i σ H hi p).go) hd
theorem Gs(Pv:Nat->zQ0->Hp->Prop)(h0:Pv 0 σ H)(b:∀i σ H,i<=xs.length->Pv i σ H->SqL K H a xs)(d:∀i x σ H,xs[i]? =some x->Pv i σ H->Opn (Pv (i+1)) D.nx D.rt λD=>g x σ H λσ2 j=>tb D σ2 j)(hd:∀σ H,Pv xs.length σ H->D.nx σ H):B8 (Itl K a) g tb D σ H:=Ue Pv h0 b (λi x σ H e p=>(d i x σ H e p).go) hd
theorem K3{a:List Nat}(Pv:Nat->zQ0->Hp->Prop)(h0:Pv 0 σ H)(b:∀i c σ H,a[i]? =some c->Pv i σ H->Opn (Pv (i+1)) D.nx D.rt λD=>g (tx [c]) σ H λσ2 d=>tb D σ2 d)(hd:∀σ H,Pv a.length σ H->D.nx σ H):B8 (Its ⟨a.toArray⟩) g tb D σ H:=Uc Pv h0 (λi c σ H e p=>(b i c σ H e p).go) hd
theorem CI(Pv:Nat->zQ0->Hp->Prop)(h0:Pv 0 σ H)(b:∀i σ H,i<n->Pv i σ H->Opn (Pv (i+1)) D.nx D.rt λD=>g (.int (lo+i*c)) σ H λσ2 d=>tb D σ2 d)(hd:∀σ H,Pv n σ H->D.nx σ H):B8 (DF lo c n) g tb D σ H:=Si Pv h0 (λi σ H hi p=>(b i σ H hi p).go) hd
theorem Ga{Pv:zQ0->Hp->Prop}{μ:zQ0->Hp->Nat}{m:Nat}(h:Opn (WN Pv μ m) D.nx D.rt λD=>tb D σ H):
 ∃N:zQ0->Hp->Prop,(∀σ' b,N σ' b->∃d,d<m/\(d=μ σ' b/\Pv σ' b))/\tb {D with nx:=N,ct:=N,bk:=D.nx} σ H:=S3 h.go
end
end L2
namespace BrS
variable{H0:Hp}{B:Int}{args:List (List Nat)}{L:List (List V)}{e:Nat}{ads:Nat->Addr}{S:Nat->Nat->Int}{x:Nat×Nat}{Q:VK}{E:XK}
inductive spSayG(D:D15->Sp)(K:W.Frag)(cs:Cs)(C:Addr):Type
 |mk (d r:Addr) (k:Int) (kvs:Kv) (v:V) (_:vs=[.ref d,v]) (_:Dk C H d r k kvs) (_:((N7 K H v/\Ref E cs.NoRow H)\/∃ (l:List Nat) (dd:D15) (args:List (List Nat)),v=tx l/\l.length<=1000/\knw l=some (dd,args)/\((∃ (i:Nat) (a:List Nat),args[i]? =some a/\dd.form[i]? =some Av/\AZ kvs (kyT a)=none/\Ref E cs.NoName H)\/((∀ (i:Nat) (a:List Nat),args[i]? =some a->dd.form[i]? =some Av->(AZ kvs (kyT a)).isSome=true)/\∀E' ws H',(∀c,Ref E c H->Ref E' c H')->Same H H'->H ws=none->H' ws=some (.lst (args.map tx))->D dd [.ref d, .ref ws] H' Q E'))))
inductive spSaidG(D:D15->Sp)(K:W.Frag)(cs:Cs)(C:Addr):Type
 |mk (d r:Addr) (k:Int) (kvs:Kv) (v:V) (_:vs=[.ref d,v]) (_:Dk C H d r k kvs) (_:∀ (Q':VK) (E':XK),(∀b H',b.length<=1000->b.head?≠some 9->(∀G,Same H' G->Q (tx b) G)->Q' (tx b) H')->(∀c nm,Cap8 cs c nm->(∀H',Same H H'->Q (tx nm) H')->Ref E' c H)->spSayG D K cs C [.ref d,v] H Q' E')
section
variable{cs:Cs}{d r:Addr}{k:Int}{kvs:Kv}{l:List Nat}
def Im(kvs:Kv)(dd:D15)(args:List (List Nat)):Bool:=(args.zip dd.form).all λx=> !decide (x.2=Av)||(AZ kvs (kyT x.1)).isSome
theorem R0(h:40<b.length):AQ k b=false:=by
 cases e:AQ k b with
 |false=>rfl
 |true=>have:=An e;lia
end
def Rf(H:Hp)(vs:List V)(L:List (List V)):Prop:=vs.length=L.length/\∀ (m:Nat) (x:List V),L[m]? =some x->∃T:Addr,vs[m]? =some (V.ref T)/\H T=some (.tup x)
theorem Rf.same(h:Rf H vs L)(s:Same H H'):Rf H' vs L:=⟨h.1,λm x d=>let⟨T,a,b⟩:=h.2 m x d;⟨T,a,s _ _ b⟩⟩
theorem Rf.lst{a:Addr}{o:HO}(h:Rf H vs L)(d:H a=some (.lst xs)):Rf (upd H a o) vs L:=⟨h.1,λm x i=>by
 obtain⟨T,e,b⟩:=h.2 m x i;exact⟨T,e,by rw[AI (IM b d (λz=>by cases z))];exact b⟩⟩
theorem Rf.more{T:Addr}{x:List V}(h:Rf H vs L)(b:H T=some (.tup x)):Rf H (vs++[.ref T]) (L++[x]):=by
 refine⟨by simp[h.1],λi y a=>?_⟩;rw[List.getElem?_append]at a⊢;rw[h.1]
 by_cases c:i<L.length
 ·rw[aO c]at a⊢;exact h.2 i y a
 ·rw[aB c]at a⊢
  cases e:i-L.length with
  |zero=>rw[e]at a;cases a;exact⟨T,rfl,b⟩
  |succ n=>rw[e]at a;cases a
section
variable(S p:Nat->Nat->Int)(n:Nat)
def inn(s e:Nat)(T:Nat->Nat->Int):Nat->(Nat->Nat->Int)×Int
 |0=>(T,0)
 |r+1=>(λa b=>if a=e+1/\b=e+1+2*r then(inn s e T r).1 (e+1) (e+1+2*r)+(inn s e T r).1 s (e+1+2*r)*p s e*S (s+1) e else(inn s e T r).1 a b,(inn s e T r).2+(inn s e T r).1 s (e+1+2*r)*S (e+1) (e+1+2*r))
def tq(s:Nat)(T:Nat->Nat->Int):Nat->Nat->Nat->Int
 |0=>T
 |q+1=>λa b=>if a=s+1/\b=s+1+2*q then(inn S p s (s+1+2*q) (tq s T q) ((n+1-(s+1+2*q))/2)).1 (s+1) (s+1+2*q)+p s (s+1+2*q)*(inn S p s (s+1+2*q) (tq s T q) ((n+1-(s+1+2*q))/2)).2 else(inn S p s (s+1+2*q) (tq s T q) ((n+1-(s+1+2*q))/2)).1 a b
def ts:Nat->Nat->Nat->Int
 |0=>λa b=>if a=0/\b=n then 1 else 0
 |s+1=>tq S p n s (ts s) ((n-s)/2)
def rv(s e:Nat):Int:=S (s+1) e*(inn S p s e (tq S p n s (ts S p n s) ((e-s-1)/2)) ((n+1-e)/2)).2
def gR3(x:Nat×Nat):List V:=[.int x.1, .int x.2, .int (rv S p n x.1 x.2)]
end
def U5:Int:=5^40
def D7c:Int:=8001*U5
section
variable{p:Nat->Nat->Int}(hS:∀i j,0<=S i j/\S i j<=U5)(hp:∀i j,0<=p i j/\p i j<=4)
include hS hp
theorem IS{s:Nat}(G:s<=e){C:Int}(x:0<=B){T:Nat->Nat->Int}(h0:∀a b,0<=T a b/\T a b<=C)(y:∀b,T s b<=B):∀r:Nat,(∀a b,0<=(inn S p s e T r).1 a b/\(inn S p s e T r).1 a b<=C+r*(B*U5*4))/\(∀b,(inn S p s e T r).1 s b<=B)/\0<=(inn S p s e T r).2/\(inn S p s e T r).2<=r*(B*U5*4)
 |0=>⟨λa b=>by have:=h0 a b;simpa[inn]using this,y,by simp[inn],by simp[inn]⟩
 |r+1=>by
  obtain⟨d,z,H,o1⟩:=IS G x h0 y r;have I:((r+1:Nat):Int)*(B*U5*4)=r*(B*U5*4)+B*U5*4:=by rw[jq,jW];simp
  have o:=λa b t=>be (d s t).1 (hS a b).1;have q:=λa b t=>cq (z t) (hS a b).2 (hS a b).1 x;have L:=be (o (s+1) e (e+1+2*r)) (hp s e).1;have M:=cq (q (s+1) e (e+1+2*r)) (hp s e).2 (hp s e).1 (bM (o _ _ _) (q (s+1) e (e+1+2*r)));have J:=o (e+1) (e+1+2*r) (e+1+2*r);have z1:=q (e+1) (e+1+2*r) (e+1+2*r);rw[I];refine⟨λa b=>?_,λb=>?_,Int.add_nonneg H J,?_⟩
  ·show 0<=(if a=e+1/\b=e+1+2*r then _ else _)/\(if a=e+1/\b=e+1+2*r then _ else _)<=_;have:=d a b;have:=d (e+1) (e+1+2*r);rw[Int.mul_right_comm]
   split<;>omega
  ·show(if s=e+1/\b=e+1+2*r then _ else _)<=B;rw[aB (by omega)];exact z b
  ·show(inn S p s e T r).2+_<=_;omega
theorem IX(x:n<=40){s:Nat}{T:Nat->Nat->Int}(h0:∀a b,0<=T a b/\T a b<=B):∀q:Nat,(∀a b,0<=tq S p n s T q a b/\tq S p n s T q a b<=B+q*(100*(B*U5*4)))/\∀b,tq S p n s T q s b<=B
 |0=>⟨λa b=>by have:=h0 a b;simpa[tq]using this,λb=>(h0 s b).2⟩
 |q+1=>by
  have d:0<=B:=bM (h0 0 0).1 (h0 0 0).2;obtain⟨y,z⟩:=IX x h0 q;obtain⟨o,G,r,o1⟩:=IS hS hp (s:=s) (e:=s+1+2*q) (by omega) d y z ((n+1-(s+1+2*q))/2);have H:((q+1:Nat):Int)*(100*(B*U5*4))=q*(100*(B*U5*4))+100*(B*U5*4):=by rw[jq,jW];simp
  have I:0<=B*U5*4:=be (be d nv) nv;have J:(((n+1-(s+1+2*q))/2:Nat):Int)*(B*U5*4)<=20*(B*U5*4):=bF (by omega) I;have L:=be (hp s (s+1+2*q)).1 r;have M:=cq (hp s (s+1+2*q)).2 o1 r nv;rw[H];refine⟨λa b=>?_,λb=>?_⟩
  ·show 0<=(if a=s+1/\b=s+1+2*q then _ else _)/\(if a=s+1/\b=s+1+2*q then _ else _)<=_;have:=o a b;have:=o (s+1) (s+1+2*q)
   split<;>omega
  ·show(if s=s+1/\b=s+1+2*q then _ else _)<=B;rw[aB (by omega)];exact G b
theorem NZ(e:n<=40):∀ (s:Nat) (a b:Nat),0<=ts S p n s a b/\ts S p n s a b<=D7c^s
 |0,a,b=>by show 0<=(if a=0/\b=n then(1:Int)else 0)/\(if a=0/\b=n then(1:Int)else 0)<=1;split<;>decide
 |s+1,a,b=>by
  have d:=NZ e s;obtain⟨h0,o⟩:=(IX hS hp e (s:=s) d ((n-s)/2)).1 a b;refine⟨h0,bM o ?_⟩;have q:0<=D7c^s:=bM (d 0 0).1 (d 0 0).2;have u:D7c^s*1<=D7c^s*U5:=gi nv q;have r:(((n-s)/2:Nat):Int)*(100*(D7c^s*U5*4))<=20*(100*(D7c^s*U5*4)):=bF (by omega) (by omega);rw[fE,show D7c^s*D7c=8001*(D7c^s*U5) by unfold D7c;rw[ir]];omega
def Ob:Int:=20*(D7c^40*U5*4)
theorem NQ(d:n<=40){s q r:Nat}(G:e=s+1+2*q)(x:s<=40)(H:r<=20):(∀t,0<=(inn S p s e (tq S p n s (ts S p n s) q) r).1 s t/\(inn S p s e (tq S p n s (ts S p n s) q) r).1 s t<=D7c^40)/\0<=(inn S p s e (tq S p n s (ts S p n s) q) r).2/\(inn S p s e (tq S p n s (ts S p n s) q) r).2<=Ob:=by
 have a:=NZ hS hp d s;have b:=IX hS hp d (s:=s) a q;have up:D7c^s<=D7c^40:=EX nv x;have o:0<=D7c^s:=bM (a 0 0).1 (a 0 0).2;obtain⟨y,z,B,o1⟩:=IS hS hp (s:=s) (e:=e) (by omega) o b.1 b.2 r;refine⟨λt=>⟨(y s t).1,bM (z t) up⟩,B,bM o1 (cq (by omega) (bF (bF up nv) nv) (be (be o nv) nv) nv)⟩
theorem Xp(b:n<=40){s:Nat}(d:s<e)(o:(e-s)%2=1)(x:e<n):0<=rv S p n s e/\rv S p n s e<=U5*Ob:=by
 obtain⟨_,a,o1⟩:=NQ hS hp b (s:=s) (e:=e) (q:=(e-s-1)/2) (r:=(n+1-e)/2) nA nA nA;exact⟨be (hS _ _).1 a,cq (hS _ _).2 o1 a nv⟩
end
theorem Hj:(U5*Ob).natAbs<big:=by unfold big Ob D7c U5;decide +kernel
theorem Dj:(D7c^40*4).natAbs<big:=by unfold big D7c U5;decide +kernel
structure Ct (P S:Nat->Nat->Int) (k:Nat):Prop where
 s:∀i j,0<=S i j/\S i j<=U5
 p:∀i j,0<=pr P k i j/\pr P k i j<=4
def tbn(k:Nat)(a:List Nat)(i j:Nat):Int:=if j<=a.length then tbl (P1 k a) k i j else 0
theorem Nx(k:Nat)(a:List Nat)(i b:Nat):0<=P1 k a i b/\P1 k a i b<=1:=by
 unfold P1 PP;rw[af (l:=a.map _),am]
 cases a[i]? with
 |none=>exact⟨by simp,by simp⟩
 |some c=>exact Ll c b
theorem XZ{k:Nat}(hk:k<=4)(e:a.length<=40):Ct (P1 k a) (tbn k a) k:=by
 have h0:=λi b=>(Nx k a i b).1;have d:=λi b=>(Nx k a i b).2;refine⟨λi j=>?_,λi j=>⟨D6 k λp _=>be (h0 _ _) (h0 _ _),?_⟩⟩
 ·unfold tbn tbl
  split
  ·split
   ·obtain⟨x,y⟩:=FO (k:=k) (c:=1) nv h0 d (j-i) i [];refine⟨x,bM y ?_⟩;rw[lN];exact bM (EB nA (by lia:((k:Int)+1)<=5) _).2 (EX nv nA)
   ·decide
  ·decide
 ·refine bM (FQ (g:=λ_=>1) k λp _=>cq (d _ _) (d _ _) (h0 _ _) nv) ?_;rw[FF];lia
def Kg:Sp:=λvs H Q _=>∃ (p s:Addr) (a:List (List Int)) (k:Nat) (S:Nat->Nat->Int) (e:Nat->Addr) (i:Hp),vs=[.ref p, .ref s]/\Pls H p a/\a.length<=40/\k<=4/\(∀l∈a,l.length=2*k/\Sm l)/\Ct (PP a) S k/\Tb i H s e a.length S/\
 ∀ (F:Addr) (b:List V) (d:Hp),H F=none->Same H d->d F=some (.lst b)->Rf d b ((prs a.length).map (gR3 S (pr (PP a) k) a.length))->Q (.ref F) d
theorem P6{s:Addr}{k:Nat}(d:Pls H p ps)(e:ps.length<=40)(i:k<=4)(j:∀l∈ps,l.length=2*k/\Sm l)(c:Ct (PP ps) S k)(o:Tb H0 H s ads ps.length S)
 (r:∀ (F:Addr) (a:List V) (b:Hp),H F=none->Same H b->b F=some (.lst a)->Rf b a ((prs ps.length).map (gR3 S (pr (PP ps) k) ps.length))->Q (.ref F) b):Kg ([.ref p, .ref s]++[]) H Q E:=⟨p,s,ps,k,S,ads,H0,rfl,d,e,i,j,c,o,r⟩
def bo(w:Nat->Int)(s e:Nat)(G:Nat->Nat->Int):Nat->Nat->Nat->Int
 |0=>G
 |o+1=>λi b=>if i=e/\b=2*o+1 then(if e=s/\2*o+1=2*o then bo w s e G o s (2*o)+w o else bo w s e G o e (2*o+1))+w o else if i=s/\b=2*o then bo w s e G o s (2*o)+w o else bo w s e G o i b
def bs(P r:Nat->Nat->Int)(k:Nat)(L:List (Nat×Nat)):Nat->Nat->Nat->Int
 |0=>λ_ _=>0
 |m+1=>bo (λo=>P (L.getD m (0,0)).1 (2*o)*P (L.getD m (0,0)).2 (2*o+1)*r (L.getD m (0,0)).1 (L.getD m (0,0)).2) (L.getD m (0,0)).1 (L.getD m (0,0)).2 (bs P r k L m) k
def ND:Sp:=λvs H Q _=>∃ (p s:Addr) (a:List (List Int)) (k:Nat) (S:Nat->Nat->Int) (b:Nat->Addr) (e:Hp),vs=[.ref p, .ref s]/\Pls H p a/\a.length<=40/\k<=4/\(∀l∈a,l.length=2*k/\Sm l)/\Ct (PP a) S k/\Tb e H s b a.length S/\
 ∀ (F:Addr) (i:Nat->Addr) (d:Hp),Tw H d F i a.length (2*k) (bs (PP a) (rv S (pr (PP a) k) a.length) k (prs a.length) (prs a.length).length)->Q (.ref F) d
theorem Ur{s:Addr}{k:Nat}(b:Pls H p ps)(d:ps.length<=40)(e:k<=4)(i:∀l∈ps,l.length=2*k/\Sm l)(c:Ct (PP ps) S k)(j:Tb H0 H s ads ps.length S)
 (r:∀ (F:Addr) (o:Nat->Addr) (a:Hp),Tw H a F o ps.length (2*k) (bs (PP ps) (rv S (pr (PP ps) k) ps.length) k (prs ps.length) (prs ps.length).length)->Q (.ref F) a):ND ([.ref p, .ref s]++[]) H Q E:=⟨p,s,ps,k,S,ads,H0,rfl,b,d,e,i,c,j,r⟩
theorem Vr(h:x∈prs n):x.1<x.2/\(x.2-x.1)%2=1/\x.2<n:=by
 unfold prs at h;obtain⟨s,a,h⟩:=lc.mp h;obtain⟨q,b,rfl⟩:=cg.mp h;have:=bG.mp a;have:=bG.mp b
 dsimp only
 lia
def atC(k:Nat)(a:List Nat):Nat->Nat->Int:=bs (P1 k a) (rv (tbn k a) (pr (P1 k a) k) a.length) k (prs a.length) (prs a.length).length
def Dw(k:Nat)(a:List Nat)(i:Nat):Option Nat:=(aw (2*k)).find? λb=>decide (atC k a i b=zQ2 k a)
def Bz(k:Nat)(a:List Nat)(i:Nat):Option (Nat×Nat):=if a.getD i 0=63 then(Dw k a i).map λb=>(i,b)else none
def Bs(k:Nat)(a:List Nat):List (Nat×Nat):=(aw a.length).filterMap (Bz k a)
def g2(x:Nat×Nat):List V:=[.int x.1,tx [brs.getD x.2 0]]
def Rm(cs:Cs):Sp:=λvs H Q E=>∃k a,OA vs k a/\((zQ2 k.toNat a=0/\Ref E cs.NoFilling H)\/(zQ2 k.toNat a≠0/\
 ∀ (D:Addr) (vs:List V) (b:Hp),H D=none->Same H b->b D=some (.lst vs)->Rf b vs ((Bs k.toNat a).map g2)->Q (.ref D) b))
theorem RI{k:Nat}{b:Nat}(h:Dw k a i=some b):atC k a i b=zQ2 k a/\b<2*k/\∀m,m<b->atC k a i m≠zQ2 k a:=by
 unfold Dw at h;rw[List.find?_range_eq_some]at h;obtain⟨d,e,j⟩:=h;refine⟨ib d,bG.mp e,λm o z=>?_⟩;have:=j m o;rw[ba z]at this
 cases this
theorem RJ{k:Nat}(h:Dw k a i=none):∀b,b<2*k->atC k a i b≠zQ2 k a:=λb d z=>by
 unfold Dw at h;rw[kl]at h;exact h b (bG.mpr d) (ba z)
theorem QY(k:Nat)(a:List Nat)(n:Nat):(aw (n+1)).filterMap (Bz k a)=(aw n).filterMap (Bz k a)++(Bz k a n).toList:=by
 rw[bZ,jm]
 cases h:Bz k a n<;>simp[h]
inductive Dq (k:Nat) (a:List Nat):Nat->Int->Prop
 |zero {j:Nat}:0<tbl (P1 k a) k 0 j->Dq k a j 0
 |next {i j:Nat} {y:Int}:i<j->((A8 (plw (ones k) (a.getD i 0))).any λn=>n !=0)=true->0<tbl (P1 k a) k (i+1) j->Dq k a i y->Dq k a j (y+1)
set_option tactic.hygienic true in
theorem Dq.bound{k:Nat}{x:Int}(h:Dq k a j x):0<=x/\x<=j:=by
 induction h with
 |zero _=>lia
 |next h _ _ _ b=>lia
def DLq(k:Nat)(a:List Nat)(j:Nat)(ns:List Int):Prop:=ns.Pairwise (· < ·)/\(∀x,x∈ns↔Dq k a j x)/\ns.length<=63
theorem Qa(h:ns.Pairwise (· < ·))(g:ms.Pairwise (· < ·))(e:∀x,x∈ns↔x∈ms):ns=ms:=by
 have nd:∀ {l:List Int},l.Pairwise (· < ·)->l.Nodup:=fun{l} h=>kJ (λz=>by lia) h;refine List.Perm.eq_of_pairwise (le:=(· < ·)) (λa b _ _ x y=>by lia) h g ?_;exact(List.perm_ext_iff_of_nodup (nd h) (nd g)).mpr e
def Jw:Sp:=λvs H Q _=>∃ (d e o:Addr) (k:Nat) (a:List Nat) (q:Hp) (r:Nat->Addr) (j:Nat) (L:List (List Int)),vs=[.ref d, .ref e, .ref o, .int j]/\Pls H d (a.map (plw (ones k)))/\Tb q H e r a.length (tbl (P1 k a) k)/\Pls H o L/\L.length=j/\j<=a.length/\a.length<=40/\
 (∀i l,L[i]? =some l->DLq k a i l)/\∀p ns b,H p=none->Same H b->b p=some (iL ns)->DLq k a j ns->Q (.ref p) b
theorem Pk{pp sp sh:Addr}{k:Nat}{L:List (List Int)}(d:Pls H pp (a.map (plw (ones k))))(e:Tb H0 H sp ad a.length (tbl (P1 k a) k))(o:Pls H sh L)(r:L.length=j)(x:j<=a.length)(y:a.length<=40)
 (z:∀i l,L[i]? =some l->DLq k a i l) (q:∀p ns b,H p=none->Same H b->b p=some (iL ns)->DLq k a j ns->Q (.ref p) b):Jw ([.ref pp, .ref sp, .ref sh, .int j]++[]) H Q E:=⟨pp,sp,sh,k,a,H0,ad,j,L,rfl,d,e,o,r,x,y,z,q⟩
section
variable{k:Nat}{L:List (List Int)}(hD:∀i l,L[i]? =some l->DLq k a i l)
include hD
set_option tactic.hygienic true in
theorem Pl(z:L.length=j)(x:Int):(x∈(aw j).flatMap (fB k a j L)\/(x=0/\0<tbl (P1 k a) k 0 j))↔Dq k a j x:=by
 have d:∀ {i},i<j->L[i]? =some (L.getD i []):=λhi=>by rw[af,ai nA];rfl
 constructor
 ·rintro(h|⟨rfl,h⟩)
  ·obtain⟨i,hi,b⟩:=lc.mp h;have hi:=bG.mp hi;unfold fB at b
   split at b
   ·rename_i e
    obtain⟨y,o,rfl⟩:=cg.mp b;exact .next hi e.1 e.2 (((hD i _ (d hi)).2.1 y).mp o)
   ·cases b
  ·exact .zero h
 ·intro h
  cases h with
  |zero h=>exact .inr ⟨rfl,h⟩
  | @next i _ y hi q r h=>
    refine .inl (List.mem_flatMap.mpr ⟨i,bG.mpr hi,?_⟩);unfold fB;rw[aO ⟨q,r⟩];exact cg.mpr ⟨y,((hD i _ (d hi)).2.1 _).mpr h,rfl⟩
theorem MD(i:Nat):(fB k a j L i).length<=63:=by
 unfold fB
 split
 ·rw[ax,af]
  cases e:L[i]? with
  |none=>simp
  |some l=>exact(hD i l e).2.2
 ·simp
theorem HX:∀n,((aw n).flatMap (fB k a j L)).length<=63*n
 |0=>by simp
 |n+1=>by
  rw[bZ,gN,aG,List.flatMap_singleton];have:=HX n;have:=MD hD (j:=j) n;lia
end
def Jv:Sp:=λvs H Q _=>∃ (k:Int) (a:List Nat),vs=[.int k,tx a]/\1<=k/\k<=4/\a.length<=40/\∀r b d L,PlA H b r d L->L.length=a.length+1->(∀i l,L[i]? =some l->DLq k.toNat a i l)->Q (.ref r) b
theorem Pi{k:Int}(d:1<=k)(e:k<=4)(j:a.length<=40)(q:∀r b o L,PlA H b r o L->L.length=a.length+1->(∀i l,L[i]? =some l->DLq k.toNat a i l)->Q (.ref r) b):Jv ([.int k,tx a]++[]) H Q E:=⟨k,a,rfl,d,e,j,q⟩
def Ju:Sp:=λvs H Q _=>∃ (k:Int) (a:List Nat),vs=[.int k,tx a]/\1<=k/\k<=4/\AQ k a=true/\∀p ns b,H p=none->Same H b->b p=some (iL ns)->DLq k.toNat a a.length ns->Q (.ref p) b
theorem JU{k:Int}(d:1<=k)(e:k<=4)(i:AQ k a=true)(q:∀p ns b,H p=none->Same H b->b p=some (iL ns)->DLq k.toNat a a.length ns->Q (.ref p) b):Ju ([.int k,tx a]++[]) H Q E:=⟨k,a,rfl,d,e,i,q⟩
noncomputable def goQ (k:Nat) (a:List Nat):Bool:= @decide (∃x,Dq k a a.length x) (iI _)
theorem DLq.goes{k:Nat}(h:DLq k a a.length ns):decide (0<ns.length)=goQ k a:=by
 unfold goQ;refine(@ge _ _ _ (iI _)).mpr ⟨λz=>?_,λ⟨x,b⟩=>List.length_pos_of_mem ((h.2.1 x).mpr b)⟩;obtain⟨x,b⟩:=List.exists_mem_of_length_pos z;exact⟨x,(h.2.1 x).mp b⟩
def LZ:Sp:=λvs H Q _=>∃ (k:Int) (a:List Nat),vs=[.int k,tx a]/\1<=k/\k<=4/\AQ k a=true/\∀b,Same H b->Q (.bl (goQ k.toNat a)) b
theorem KC{k:Int}(d:1<=k)(e:k<=4)(i:AQ k a=true)(q:∀b,Same H b->Q (.bl (goQ k.toNat a)) b):LZ ([.int k,tx a]++[]) H Q E:=⟨k,a,rfl,d,e,i,q⟩
def Jt:Sp:=λvs H Q _=>∃ (k:Int) (a:List Nat),vs=[.int k,tx a]/\1<=k/\k<=4/\AQ k a=true/\∀ns b,Same H b->DLq k.toNat a a.length ns->Q (hdv ns) b
theorem JS{k:Int}(d:1<=k)(e:k<=4)(i:AQ k a=true)(q:∀ns b,Same H b->DLq k.toNat a a.length ns->Q (hdv ns) b):Jt ([.int k,tx a]++[]) H Q E:=⟨k,a,rfl,d,e,i,q⟩
end BrS
namespace PySem.SeqAt
open PySem.AutoSeq1 (wpAny_loadPart')
open MeetsSeq MeetsSeq2 MeetsSeq3 SeqRoads2
variable{e:Nat->Bool}
def IC(items a:Array ah)(e:Nat->Bool)(j:Nat)(r:Bool):Prop:=
 (∃x y t u,items[j]? =some (.int x t)/\a[j]? =some (.int y u)/\e j=false/\r=decide (x<y))\/(j=items.size/\j=a.size/\r=false)
theorem US(l b:Addr)(items o:Array ah)(n Y:Nat)(dd S:Option Addr)(Z T:Array (Option ah))(e:Nat->Bool)(j:Nat)(r:Bool)(X:IC items o e j r)(k:Nat):
 ∀i:Nat,j-i=k->i<=j->(∀m,i<=m->m<j->e m=true)->Meets (fc.«list.__eq__.loop» ⟨[.ref l, .ref b,d2 i,d2 0],[]⟩)
  (λA R s=>s.heap.get? l=some {cls:= .type "list",dict:=dd,data:= .seq items n,slots:=Z}/\s.heap.get? b=some {cls:= .type "list",dict:=S,data:= .seq o Y,slots:=T}/\
    (∀j (J:j<items.size) (L:j<o.size),EqAt A.in1 s items[j] o[j] (e j))/\
    R (.ok (.ret (.bool r))) s):=by
 induction k with
 |zero=>
  intro i hk U G prog w A R s h;obtain⟨hp,g,d,tk,os⟩:=s;obtain⟨H,I,Q,h⟩:=h;have:i=j:=by lia
  subst this;rcases X with⟨x,y,t,u,J,L,hj,rfl⟩|⟨z1,z2,rfl⟩
  ·have q1:i<items.size:=(bH.mp J).1;have q2:i<o.size:=(bH.mp L).1
   wp_walk using cm H,cm I
   have q:items[((i:Nat):Int).toNat]? =some (.int x t):=by simpa using J
   have z:o[((i:Nat):Int).toNat]? =some (.int y u):=by simpa using L
   have g1:items[i]= .int x t:=(bH.mp J).2;have g2:o[i]= .int y u:=(bH.mp L).2;rw[q,z];have M:=Q i q1 q2;rw[g1,g2]at M;refine ac (M prog w _ _ ?_);rw[hj]
   wp_walk using cm H,cm I
   rw[q,z];show aH _ _ (bt .Lt (.int x t) (.int y u)>>=_) _ _ _;refine ac (PyProof.Rows.lt_int ?_);exact ag h
  ·wp_walk using cm H,cm I
   rw[show items[((i:Nat):Int).toNat]? =none by simp[z1]]
   wp_walk using cm H,cm I
   show R (.ok (.ret (.bool (decide (items.size<o.size))))) _;rw[aX nA];exact h
 |succ k ih=>
  intro i hk U G prog w A R s h;obtain⟨hp,g,d,tk,os⟩:=s;obtain⟨H,I,Q,h⟩:=h;have js:j<=items.size/\j<=o.size:=by
   rcases X with⟨x,y,t,u,J,L,_⟩|⟨z1,z2,_⟩
   ·exact⟨b9 (bH.mp J).1,b9 (bH.mp L).1⟩
   ·exact⟨fA z1,fA z2⟩
  have P:i<items.size:=by lia
  have B:i<o.size:=by lia
  wp_walk using cm H,cm I
  have q:items[((i:Nat):Int).toNat]? =some items[i]:=by simp[P]
  have z:o[((i:Nat):Int).toNat]? =some o[i]:=by simp[B]
  have hc:((i:Int)+1)=((i+1:Nat):Int):=by push_cast;rfl
  rw[q,z];refine ac (Q i P B prog w _ _ ?_);rw[G i (ao _) nA]
  wp_walk
  rw[hc];exact⟨eY iA _,cE entry_eq_loop (by
   rw[ci iA _];exact ih (i+1) nA nA (λm a b=>G m nA b) prog w A R _ ⟨H,I,Q,h⟩)⟩
theorem UT(l b:Addr)(items a:Array ah)(n x:Nat)(dd i:Option Addr)(y o:Array (Option ah))(e:Nat->Bool)(j:Nat)(r:Bool)(G:IC items a e j r)(q:∀m,m<j->e m=true):
 Meets (fc.«list.__lt__» ⟨[.ref l, .ref b],[]⟩)
  (λA R s=>s.heap.get? l=some {cls:= .type "list",dict:=dd,data:= .seq items n,slots:=y}/\s.heap.get? b=some {cls:= .type "list",dict:=i,data:= .seq a x,slots:=o}/\
    (∀j (I:j<items.size) (J:j<a.size),EqAt A.in1 s items[j] a[j] (e j))/\
    R (.ok (.ret (.bool r))) s):=by
 intro prog w A R s h;obtain⟨L,g,d,M,os⟩:=s;obtain⟨z,B,H,h⟩:=h;have P:=AutoSeq1.sub_list_list
 wp_walk using cm z,cm B
 exact⟨eY iA _,cE entry_eq_loop (by
  rw[ci iA _];exact US l b items a n x dd i y o e j r G _ 0 rfl (bA _) (λm _ b=>q m b) prog w A R _ ⟨z,B,H,h⟩)⟩
theorem lq_list{s:ak}{l b:Addr}{items items2:Array ah}{r:Bool}(H:s.heap.IsList l items)(I:s.heap.IsList b items2)(J:A.units<jE)
 (L:∀j (T:j<items.size) (U:j<items2.size),EqAt A.in1 s items[j] items2[j] (e j)) (M:IC items items2 e j r) (o:∀m,m<j->e m=true)
 (h:Q (.bool r) s):aH (aR prog w) A (bt .Lt (.ref l) (.ref b)) Q E s:=by
 obtain⟨⟨cls,P,data,R⟩,z,B,n,hd⟩:=id H;obtain⟨⟨G,q,data2,y⟩,a,d,S,i⟩:=id I;simp only at B hd d i;subst B hd d i;show aH _ _ (richCompare .Lt (.ref l) (.ref b)) Q E s;exact richCompare_meets_room (op:= .Lt) ⟨_,z,rfl⟩ ⟨_,a,rfl⟩ F.slot_list_lt F.entry_list_lt (F.args_list_lt_2 _ _) (UT l b items items2 n S P q R y e j r M o)
  ⟨z,a,L,show dS r≠Value.notImplemented/\Q (.bool r) s from⟨(λx=>nomatch x),h⟩⟩ J
end PySem.SeqAt
namespace L2
theorem Ky:∀ {bs cs:List Nat},bs.length=cs.length->∃j,((∃b c:Nat,bs[j]? =some b/\cs[j]? =some c/\b≠c/\decide (bs<cs)=decide (b<c))\/(j=bs.length/\decide (bs<cs)=false))/\∀m,m<j->∃x,bs[m]? =some x/\cs[m]? =some x
 |[],[],_=>⟨0, .inr ⟨rfl,by decide⟩,λm h=>absurd h (gH m)⟩
 |b::bs,c::cs,a=>by
  by_cases e:b=c
  ·subst e;have d:decide (b::bs<b::cs)=decide (bs<cs):=by rw[ge,jo];exact⟨λz=>z.elim (λz=>absurd z (bU _)) (·.2),λz=> .inr ⟨rfl,z⟩⟩
   rw[d];obtain⟨j,h,i⟩:=Ky (bs:=bs) (cs:=cs) (by simpa using a);refine⟨j+1,h.imp id λz=>⟨by rw[z.1];rfl,z.2⟩,λm o=>?_⟩
   cases m with
   |zero=>exact⟨b,rfl,rfl⟩
   |succ m=>exact i m nA
  ·refine⟨0, .inl ⟨b,c,rfl,rfl,e,?_⟩,λm h=>absurd h (gH m)⟩;rw[ge,jo];exact⟨λz=>z.elim id λw=>absurd w.1 e, .inl⟩
def rLq(K:W.Frag):R2:=λx y H Q=>∃a b bs cs,x= .ref a/\y= .ref b/\SqL K H a (nL bs)/\SqL K H b (nL cs)/\bs.length=cs.length/\Q (.bl (decide (bs<cs))) H
theorem XN(K:W.Frag)(J:X.A.units<jE)(L:X.K=K:=by rfl):OpR X (bt .Lt) (rLq K):=by
 subst L;intro pins s σ H x y v u Q I M P ⟨a,b,bs,cs,d,o,q1,q2,hl,q⟩;subst d o
 cases M
 cases P
 obtain⟨us,z,R,z1⟩:=I.list q1;obtain⟨ws,B,S,z2⟩:=I.list q2;obtain⟨j,h,T⟩:=Ky hl;have G:=z.length;have U:=B.length;rw[ax]at G U;have fl:∀bs:List Nat,(nL bs).all A4=true:=λbs=>by rw[mE,aT];intro _ _;rfl
 refine SeqAt.lq_list (e:=λi=>eqV ((nL bs).getD i .non) ((nL cs).getD i .non)) (j:=j) (r:=decide (bs<cs)) R.isList S.isList J (HY z B (fl _) (fl _)) ?_ (λm Y=>?_) ⟨.bl (decide (bs<cs)),H,I,rfl,q⟩
 ·rcases h with⟨m,n,h1,h2,h3,h5⟩|⟨rfl,h5⟩
  ·obtain⟨u1,d,Z,rfl⟩:=z.get (i:=j) (x:= .int (m:Int)) (by rw[am,h1];rfl);obtain⟨u2,o,t2,rfl⟩:=B.get (i:=j) (x:= .int (n:Int)) (by rw[am,h2];rfl);refine .inl ⟨m,n,Z,t2,by simpa using d,by simpa using o,?_,by rw[h5,ge];lia⟩;show eqV _ _=false;rw[af,af,am,am,h1,h2];exact aX (by show¬ (m:Int)=(n:Int);lia)
  ·exact .inr ⟨by simpa using G,by simp;lia,h5⟩
 ·obtain⟨x,g1,g2⟩:=T m Y;show eqV _ _=true;rw[af,af,am,am,g1,g2];exact ba rfl
end L2
namespace BrS
variable{d:Nat}{P:Nat->Nat->Int}{M:Nat->Nat->O}{x:Nat×Nat}{a b:O}
def Lo(d:Nat)(o:O):Prop:=∀w l,o=some (w,l)->l.length=d/\(∀b∈l,b<8)/\0<=w/\w<=top30^d
theorem Lo.none(d:Nat):Lo d none:=λ_ _ h=>by cases h
theorem Lo.lik(h:Lo d a)(g:Lo d b):Lo d (lik a b):=by
 match a,b with
 | .none,b=>exact g
 |some (x,l), .none=>exact h
 |some (x,l),some (y,m)=>
  show Lo d (if x=y then(if l<m then some (x,l)else some (y,m))else if x>y then some (x,l)else some (y,m))
  split<;>split<;>assumption
theorem Lo.beh{e f:Nat}(h:Lo d a)(g:Lo e b)(j:f=d+e):Lo f (beh a b):=by
 subst j
 match a,b with
 | .none,b=>exact Lo.none _
 |some (x,l), .none=>exact Lo.none _
 |some (x,l),some (y,m)=>
  intro w z o
  cases o
  obtain⟨q,r,B,G⟩:=h _ _ rfl;obtain⟨H,g2,i,I⟩:=g _ _ rfl;refine⟨by rw[aG,q,H],λb J=>(dW.mp J).elim (r b) (g2 b),be B i,?_⟩;rw[mX];exact cq G I i (lR nv)
theorem Lo.rnd{f:Nat}(h:Lo 2 a)(g:Lo d b)(j:f=2+d):Lo f (rnd a b):=by
 subst j
 match a,b with
 | .none,b=>exact Lo.none _
 |some (x,l), .none=>exact Lo.none _
 |some (x,l),some (y,m)=>
  intro w z o
  cases o
  obtain⟨r,e,B,G⟩:=h _ _ rfl;obtain⟨H,g2,i,I⟩:=g _ _ rfl
  match l,r with
  |[p,q],_=>
   refine⟨by simp[H];lia,λb hb=>?_,be B i,?_⟩
   ·have hb:b=p\/b∈m\/b=q:=by simpa using hb
    rcases hb with rfl|hb|rfl
    ·exact e _ nC
    ·exact g2 _ hb
    ·exact e _ nC
   ·rw[mX];exact cq G I i (lR nv)
theorem Lo.sz{o:O}(h:Lo d o)(hd:d<=40):Sz o:=λw l e=>by
 obtain⟨i,_,a,b⟩:=h w l e;exact⟨BA a (bM b (EX nv hd)) Ri,by lia⟩
def lp(f g:Nat->Int):Nat->O
 |0=>none
 |o+1=>if 0<f (2*o)*g (2*o+1)then lik (lp f g o) (some (f (2*o)*g (2*o+1),[2*o,2*o+1]))else lp f g o
theorem Fn{g:Nat->Int}(a:∀b,0<=f b/\f b<=top30)(hg:∀b,0<=g b/\g b<=top30):∀k,k<=4->Lo 2 (lp f g k)
 |0,_=>Lo.none _
 |o+1,h=>by
  have d:=Fn a hg o nA;rw[lp]
  split
  ·refine d.lik λw l e=>?_
   cases e
   refine⟨rfl,λb i=>?_,be (a _).1 (hg _).1,?_⟩
   ·have i:b=2*o\/b=2*o+1:=by simpa using i
    lia
   ·rw[fE,fE,Int.pow_zero,fY];exact cq (a _).2 (hg _).2 (hg _).1 nv
  ·exact d
section
variable(P:Nat->Nat->Int)(k n:Nat)
def lin(s e:Nat)(part:O)(M:Nat->Nat->O):Nat->Nat->Nat->O
 |0=>M
 |r+1=>λa b=>if a=s then(if b=e+1+2*r then lik (lin s e part M r s (e+1+2*r)) (beh part (lin s e part M r (e+1) (e+1+2*r)))else lin s e part M r a b)else lin s e part M r a b
def lq(s:Nat)(M:Nat->Nat->O):Nat->Nat->Nat->O
 |0=>M
 |q+1=>lin s (s+1+2*q) (rnd (lp (P s) (P (s+1+2*q)) k) (lq s M q (s+1) (s+1+2*q))) (lq s M q) ((n+1-(s+1+2*q))/2)
def DW(s:Nat)(M:Nat->Nat->O):Nat->Nat->O:=λa b=>if a=s then(if b=s then some (1,[])else M a b)else M a b
def ls:Nat->Nat->Nat->O
 |0=>λ_ _=>none
 |t+1=>lq P k n (n-t) (DW (n-t) (ls t)) ((n-(n-t))/2)
def lkO:O:=ls P k n (n+1) 0 n
end
def LtM(M:Nat->Nat->O):Prop:=∀i j,i<=j->Lo (j-i) (M i j)
theorem Lz{s:Nat}(h:LtM M):LtM (DW s M):=λi j a=>by
 unfold DW
 split
 ·split
  ·intro w l e
   cases e
   subst i;subst j;rw[d3];exact⟨rfl,λb d=>absurd d dE,by decide,by decide⟩
  ·exact h i j a
 ·exact h i j a
theorem Hv{s e:Nat}{part:O}(o:s<=e)(d:Lo (e+1-s) part)(h:LtM M):∀r,LtM (lin s e part M r)
 |0=>h
 |r+1=>λi j a=>by
  have b:=Hv o d h r;show Lo (j-i) (if i=s then(if j=e+1+2*r then lik (lin s e part M r s (e+1+2*r)) (beh part (lin s e part M r (e+1) (e+1+2*r)))else lin s e part M r i j)else lin s e part M r i j)
  split
  ·split
   ·subst i;subst j;exact(b _ _ a).lik (d.beh (b _ _ nA) nA)
   ·exact b i j a
  ·exact b i j a
section
variable{k:Nat}(hP:∀i b,0<=P i b/\P i b<=top30)(hk:k<=4)
include hP hk
theorem IP{s:Nat}(h:LtM M):∀q,LtM (lq P k n s M q)
 |0=>h
 |q+1=>by
  have a:=IP (s:=s) h q;exact Hv nA ((Fn (hP _) (hP _) k hk).rnd (a _ _ nA) nA) a _
theorem IN:∀t,LtM (ls P k n t)
 |0=>λ_ _ _=>Lo.none _
 |t+1=>IP hP hk (Lz (IN t)) _
end
inductive spLikelierQ:Type
 |mk (v1 v2:V) (o1 o2:O) (_:vs=[v1,v2]) (_:Bt Any H v1 o1) (_:Bt Any H v2 o2) (_:(∀w l x m,o1=some (w,l)->o2=some (x,m)->l.length=m.length)) (_:∀v H',Same H H'->((v=v1/\lik o1 o2=o1)\/(v=v2/\lik o1 o2=o2))->Q v H')
def Ro:Sp:=λvs H Q _=>∃ (d e:Addr) (x y:List Int) (k:Nat),vs=[.ref d, .ref e]/\H d=some (iL x)/\H e=some (iL y)/\x.length=2*k/\y.length=2*k/\k<=4/\Sm x/\Sm y/\
 ∀v a,Same H a->Bt (λb=>H b=none) a v (lp (λb=>x.getD b 0) (λb=>y.getD b 0) k)->Q v a
def Kd:Sp:=λvs H Q _=>∃ (p:Addr) (a:List (List Int)) (k:Nat),vs=[.ref p]/\Pls H p a/\a.length<=40/\k<=4/\(∀l∈a,l.length=2*k/\Sm l)/\
 ∀ (s r:Addr) (d:List V) (e:List V) (v:V) (b:Hp),Same H b->b s=some (.lst (.ref r::d))->b r=some (.lst (e++[v]))->Bt Any b v (lkO (PP a) k a.length)->Q (.ref s) b
theorem Pw{k:Nat}{Q:VK}{E:XK}(b:Pls H p ps)(d:ps.length<=40)(e:k<=4)(i:∀l∈ps,l.length=2*k/\Sm l)
 (q:∀ (s r:Addr) (j:List V) (o:List V) (v:V) (a:Hp),Same H a->a s=some (.lst (.ref r::j))->a r=some (.lst (o++[v]))->Bt Any a v (lkO (PP ps) k ps.length)->Q (.ref s) a):Kd ([.ref p]++[]) H Q E:=⟨p,ps,k,rfl,b,d,e,i,q⟩
def Rr:Sp:=λvs H Q _=>∃ (p:Addr) (a:List (List Int)) (k:Nat),vs=[.ref p]/\Pls H p a/\a.length<=40/\k<=4/\(∀l∈a,l.length=2*k/\Sm l)/\
 ∀ (v:V) (b:Hp),Same H b->Ft b v (lkO (PP a) k a.length)->Q v b
def lkC(k:Nat)(a:List Nat):O:=lkO (Pc k a) k a.length
def U1:Sp:=λvs H Q _=>∃ (k:Int) (a:List Nat),vs=[.int k,tx a]/\1<=k/\k<=4/\AQ k a=true/\∀ (v:V) (b:Hp),Same H b->FtC a b v (lkC k.toNat a)->Q v b
theorem Mr{k:Nat}(hk:k<=4)(a:∀l∈ps,l.length=2*k/\Sm l):Lo ps.length (lkO (PP ps) k ps.length):=by
 have:=IN (n:=ps.length) (CJ λl z=>(a l z).2) hk (ps.length+1) 0 ps.length (bA _);rwa[kQ]at this
theorem Jc{k:Nat}(hk:k<=4)(a:List Nat):∀l∈a.map (plc k),l.length=2*k/\Sm l:=λl h=>by
 obtain⟨c,_,rfl⟩:=cg.mp h;exact⟨T6 hk,Vu _ _⟩
theorem FR{k:Nat}(hk:k<=4){a l:List Nat}{w:Int}(h:lkC k a=some (w,l)):l.length=a.length/\∀b∈l,b<8:=by
 have:=Mr hk (Jc hk a);rw[ax]at this;obtain⟨d,e,_⟩:=this w l h;exact⟨d,e⟩
structure Ask7 (C:Addr) (H:Hp) (vs:List V) (d ws r:Addr) (k:Int) (kvs:Kv) (one:List Nat) (more:List V) (a:List Nat):Prop where
 vs:vs=[.ref d, .ref ws]
 dk:Dk C H d r k kvs
 k1:1<=k
 k4:k<=4
 ws:H ws=some (.lst (tx one::more))
 val:AZ kvs (kyT one)=some (tx a)
 row:AQ k a=true
inductive spRight7(C:Addr):Type
 |mk (d ws r k kvs one a:_) (_:Ask7 C H vs d ws r k kvs one [] a) (_:∀H',Same H H'->Q (tx (yn (decide (Rt a)))) H')
inductive spMay7(C:Addr):Type
 |mk (d ws r k kvs one a:_) (_:Ask7 C H vs d ws r k kvs one [] a) (_:∀H',Same H H'->Q (tx (yn (goQ k.toNat a))) H')
inductive spMany7(C:Addr):Type
 |mk (d ws r k kvs one a:_) (_:Ask7 C H vs d ws r k kvs one [] a) (_:∀H',Same H H'->Q (tx (AX (zQ2 k.toNat a).toNat)) H')
inductive spNth7(cs:Cs)(C:Addr):Type
 |mk (d ws r k kvs one a n:_) (_:Ask7 C H vs d ws r k kvs one [tx (AX n)] a) (_:n<10^9) (_:((n:Int)<zQ2 k.toNat a/\∀bs H',Same H H'->NF k.toNat a 0 [] n bs->bs.length=a.length->Q (tx (shw (brt bs))) H')\/(¬ (n:Int)<zQ2 k.toNat a/\Ref E cs.NoNumber H))
inductive spNumber7(cs:Cs)(C:Addr):Type
 |mk (d ws r k kvs one a b:_) (_:Ask7 C H vs d ws r k kvs one [tx b] a) (_:b.length<=1000) (_:(AQ k b=false/\Ref E cs.NoLine H)\/(AQ k b=true/\filB k a b=false/\Ref E cs.NotRight H)\/(AQ k b=true/\∃bs,b=brt bs/\Fi k.toNat a 0 [] bs/\∀H',Same H H'->Q (tx (AX (num k.toNat a 0 [] bs).toNat)) H'))
def CG(a:List Nat)(L:List (Nat×Nat)):List Nat:=L.foldl (λs x=>s.set x.1 (brs.getD x.2 0)) a
theorem DH:∀ {L:List (Nat×Nat)} {a:List Nat},(CG a L).length=a.length
 |[],_=>rfl
 |x::L,a=>by
  show(CG (a.set x.1 _) L).length=_;rw[DH,jj]
theorem Jq(a:List Nat)(L:List (Nat×Nat))(x:Nat×Nat):CG a (L++[x])=(CG a L).set x.1 (brs.getD x.2 0):=by
 unfold CG;rw[List.foldl_append];rfl
theorem LS{k:Nat}{a:List Nat}(h:x∈Bs k a):x.1<a.length:=by
 unfold Bs at h;obtain⟨i,hi,e⟩:=fM.mp h;unfold Bz at e
 split at e
 ·obtain⟨b,_,rfl⟩:=dz.mp e;exact bG.mp hi
 ·cases e
inductive spSure7(cs:Cs)(C:Addr):Type
 |mk (d ws r k kvs one a:_) (_:Ask7 C H vs d ws r k kvs one [] a) (_:(zQ2 k.toNat a=0/\Ref E cs.NoFilling H)\/(zQ2 k.toNat a≠0/\∀H',Same H H'->Q (tx (shw (CG a (Bs k.toNat a)))) H'))
inductive spFew7(C:Addr):Type
 |mk (d ws r k kvs one a:_) (_:Ask7 C H vs d ws r k kvs one [] a) (_:∀H',Same H H'->Q (tx (fwT a (lkC k.toNat a))) H')
inductive spMore7(C:Addr):Type
 |mk (d ws r k kvs one a:_) (_:Ask7 C H vs d ws r k kvs one [] a) (_:∀ns H',Same H H'->DLq k.toNat a a.length ns->Q (tx (mrT ns)) H')
def DE(cs:Cs)(C:Addr):D15->Sp
 | .kinds=>spSayKinds cs C| .row=>spSayRow8 cs C| .turn=>Du| .behind=>Du| .drop=>spSayDrop C| .show=>spSayShow C| .right=>spRight7 C| .may=>spMay7 C| .many=>spMany7 C| .nth=>spNth7 cs C| .number=>spNumber7 cs C| .sure=>spSure7 cs C| .fewest=>spFew7 C| .more=>spMore7 C| .names=>Du
end BrS
namespace L2
section
variable{h:Heap}{q:Str}{st:Stmt}{N ps:List Str}{k:Nat}
abbrev OB(P:bK)(w:cX)(K:W.Frag)(mg:Str->Option ah)(base:Heap)(k:Nat)(x:Str)(ps:List Str)(sp:Sp):Prop:=FnUH P w K mg base k x ps (Ln ps sp)
def X1(P:bK)(w:cX)(K:W.Frag)(mg:Str->Option ah)(base:Heap)(N:List Str)(q:Str)(st:Stmt)(k:Nat)(sp:Sp):Prop:=
 ∀ {f:Addr}{a:ah}{A:eR}{outer:List Env}{s:ak}{vs:List V}{Q:VK}{E:XK} (nd:N.Nodup) (H:Hp),RoomH k (A.deeper (ig q (AU st) s.1.1.size f a))->sp vs H Q E->
   ∃t,PSs (cxH P w K mg base N q st f a A outer s H E) (Bn st) t/\t {nx:=λ_ b=>Q .non b,rt:=Q} (start N vs) H
theorem FnA.uH(p:FnA K mg x st)(S:FnScope N ps (AU st))(b:X1 P w K mg base N x st k sp)
 (d:Bnd x x st ps:=by exact λ_ _ _ _ _ _=>by first|exact us2 λ_ _=>rfl|exact us1 λ_=>rfl|exact us3 λ_ _ _=>rfl|exact us4 λ_ _ _ _=>rfl|exact us0 rfl):OB P w K mg base (k+1) x ps sp:=
 let⟨f,fd,m,F⟩:=p;⟨f,fd,F.okH S (λ_ _ _ _ h=>h.1) λa A outer s H vs Q E r h=>b S.nd H r h.2,m,F.kp,F.binds d⟩
end
end L2
namespace BrS
variable{c:Bool}{cs:Cs}{D:D15->Sp}{P R co:Hp->Prop}{args:List (List Nat)}
inductive Due7 (k:Int) (a:List Nat) (n:Nat) (b:List Nat):D15->List Nat->Prop
 |right:Due7 k a n b .right (yn (decide (Rt a)))
 |may:Due7 k a n b .may (yn (goQ k.toNat a))
 |many:Due7 k a n b .many (AX (zQ2 k.toNat a).toNat)
 |nth {bs:List Nat}:(n:Int)<zQ2 k.toNat a->NF k.toNat a 0 [] n bs->bs.length=a.length->Due7 k a n b .nth (shw (brt bs))
 |nthNo:¬ (n:Int)<zQ2 k.toNat a->Due7 k a n b .nth GO
 |numNoL:AQ k b=false->Due7 k a n b .number HE
 |numNo:AQ k b=true->filB k a b=false->Due7 k a n b .number GN
 |num {bs:List Nat}:AQ k b=true->filB k a b=true->b=brt bs->Fi k.toNat a 0 [] bs->Due7 k a n b .number (AX (num k.toNat a 0 [] bs).toNat)
 |sureNo:zQ2 k.toNat a=0->Due7 k a n b .sure GD
 |sure:zQ2 k.toNat a≠0->Due7 k a n b .sure (shw (CG a (Bs k.toNat a)))
 |fewest:Due7 k a n b .fewest (fwT a (lkC k.toNat a))
 |more {ns:List Int}:DLq k.toNat a a.length ns->Due7 k a n b .more (mrT ns)
 |show:Due7 k a n b .show (shw a)
theorem Fi.lt{k:Nat}:∀ {bs:List Nat} {i:Nat} {d:List Nat},Fi k a i d bs->∀b∈bs,b<2*k
 |[],_,_,_,b,h=>nomatch h
 |c::bs,i,d,h,b,j=>(aJ.mp j).elim (λe=>e▸h.1) (Fi.lt h.2.2.2 b)
theorem MM:∀ {a d:List Nat},(∀b∈a,b<8)->(∀b∈d,b<8)->brt a=brt d->a=d
 |[],[],_,_,_=>rfl
 |[],_::_,_,_,h=>by cases h
 |_::_,[],_,_,h=>by cases h
 |x::a,y::d,j,o,h=>by
  obtain⟨q,r⟩:=mj (show brs.getD x 0::brt a=brs.getD y 0::brt d from h);have e:∀x,x<8->∀y,y<8->brs.getD x 0=brs.getD y 0->x=y:=by decide
  rw[e x (j x aA) y (o y aA) q,MM (λb i=>j b (ay _ i)) (λb i=>o b (ay _ i)) r]
theorem Due7.uniq{k:Int}{s t:List Nat}(L:1<=k)(M:k<=4)(y:a.length<=40)(h:Due7 k a n b dd s)(g:Due7 k a n b dd t):s=t:=by
 have hk:k.toNat<=4:=by lia
 cases h with
 |right=>cases g;rfl
 |may=>cases g;rfl
 |many=>cases g;rfl
 |«show»=>cases g;rfl
 |nth c z B=>
  cases g with
  |nth d j q=>rw[NF.uniq hk y (B.trans q.symm) z j]
  |nthNo d=>exact absurd c d
 |nthNo c=>
  cases g with
  |nth d j q=>exact absurd d c
  |nthNo d=>rfl
 |numNoL c=>
  cases g with
  |numNoL=>rfl
  |numNo d=>rw[c]at d;cases d
  |num d=>rw[c]at d;cases d
 |numNo c f=>
  cases g with
  |numNoL d=>rw[c]at d;cases d
  |numNo=>rfl
  |num _ e=>rw[f]at e;cases e
 |num c f G H=>
  cases g with
  |numNoL d=>rw[c]at d;cases d
  |numNo _ e=>rw[f]at e;cases e
  |num _ _ I J=>rw[MM (λb i=>by have:=H.lt b i;lia) (λb i=>by have:=J.lt b i;lia) (G.symm.trans I)]
 |sureNo c=>
  cases g with
  |sureNo=>rfl
  |sure d=>exact absurd c d
 |sure c=>
  cases g with
  |sureNo d=>exact absurd d c
  |sure=>rfl
 |fewest=>
  cases g with
  |fewest=>rfl
 |more o=>
  cases g with
  |more r=>rw[Qa o.1 r.1 λx=>(o.2.1 x).trans (r.2.1 x).symm]
section
variable{d r:Addr}{k:Int}{kvs:Kv}{l:List Nat}{Q:VK}{E:XK}
abbrev SdG(D:D15->Sp)(K:W.Frag)(cs:Cs)(C:Addr)(d:Addr)(v:V)(H:Hp)(Q:VK)(E:XK):Prop:=spSaidG D K cs C ([.ref d,v]++[]) H Q E
theorem doG(hd:Dk C H d r k kvs)(hk:knw l=some (dd,args))(I:l.length<=1000)(j:Im kvs dd args=true)
 (q:∀ (o:VK) (x:XK) ws e,Same H e->Dk C e d r k kvs->e ws=some (.lst (args.map tx))->H ws=none->(∀b G,Ans b->(∀B,Same G B->Q (tx b) B)->o (tx b) G)->(∀c nm,Cap8 cs c nm->(∀G,Same H G->Q (tx nm) G)->Ref x c e)->D dd [.ref d, .ref ws] e o x):SdG D K cs C d (tx l) H Q E:=
 ⟨d,r,k,kvs,_,rfl,hd,λo x J L=>⟨d,r,k,kvs,_,rfl,hd, .inr ⟨l,dd,args,rfl,I,hk, .inr ⟨λi b M P=>by
   have:=aT.mp j (b,Av) (jh.mpr ⟨i,fe.mpr ⟨M,P⟩⟩);simpa using this,λR ws e S sm T y=>q o R ws e sm (hd.same sm) y T (λb G j z=>J b G j.1 j.2.1 z) λc nm U z=>S c (L c nm U z)⟩⟩⟩⟩
def ar7(nm:List Nat)(n:Nat)(b:List Nat):D15->List (List Nat)
 | .nth=>[nm,AX n]| .number=>[nm,b]|_=>[nm]
def q7:D15->Bool
 | .right=>true| .may=>true| .many=>true| .nth=>true| .number=>true| .sure=>true| .fewest=>true| .more=>true| .show=>true|_=>false
theorem Ib(b:k<=4){c:Nat}(h:c∈sgn k):c∈sgn 4:=by
 have:k<=0\/k=1\/k=2\/k=3\/k=4:=by lia
 rcases this with z|rfl|rfl|rfl|rfl
 ·unfold sgn at h;rw[show k.toNat=0 by lia]at h;simp only[eF,lI]at h;rw[aV.mp h];decide
 ·have:∀c∈sgn 1,c∈sgn 4:=by decide
  exact this c h
 ·have:∀c∈sgn 2,c∈sgn 4:=by decide
  exact this c h
 ·have:∀c∈sgn 3,c∈sgn 4:=by decide
  exact this c h
 ·exact h
theorem Uo(bs:List Nat):∀c∈brt bs,c≠9/\c≠111:=λc e=>by
 unfold brt at e;obtain⟨b,_,rfl⟩:=cg.mp e;exact M4 b
theorem LR:∀ {L:List (Nat×Nat)} {a:List Nat},(∀c∈a,c≠9/\c≠111)->∀c∈CG a L,c≠9/\c≠111
 |[],_,h=>h
 |x::L,a,h=>LR (L:=L) (a:=a.set x.1 (brs.getD x.2 0)) λc b=>(List.mem_or_eq_of_mem_set b).elim (h c) λe=>e▸M4 _
theorem Ic(hd:Dk C H d r k kvs)(R:1<=k)(J:k<=4)(hk:knw l=some (dd,ar7 nm n b dd))(hq:q7 dd=true)(hl:l.length<=1000)(hn:n<10^9)(hb:b.length<=1000)(B:AZ kvs (kyT nm)=some (tx a))(I:AQ k a=true)
 (q:∀t G,Same H G->Due7 k a n b dd t->Q (tx t) G):SdG (DE cs C) K cs C d (tx l) H Q E:=by
 have T:=An I;have S:k.toNat<=4:=by lia
 have ok:∀c∈a,c≠9/\c≠111:=λc hc=>by
  have e:∀c∈sgn 4,c≠9/\c≠111:=by decide
  exact e c (Ib J (GV I c hc))
 have aa:Ans a:= .all nA ok;have cb:=(EG (k:=k.toNat) (a:=a) S T)
 cases dd<;>first|(cases hq;done)|skip
 all_goals refine doG hd hk hl (by unfold Im;simp[D15.form,ar7,B]) λQ' E' ws H' sm i L _ M X=>?_
 ·exact⟨d,ws,r,k,kvs,nm,a,rfl,i,L,B,by lia,λG s=>M _ G aa.shw λj x=>q _ j ((sm.trans s).trans x) .show⟩
 ·exact⟨d,ws,r,k,kvs,nm,a,⟨rfl,i,R,J,L,B,I⟩,λG s=>M _ G (M6 _) λj x=>q _ j ((sm.trans s).trans x) .right⟩
 ·exact⟨d,ws,r,k,kvs,nm,a,⟨rfl,i,R,J,L,B,I⟩,λG s=>M _ G (M6 _) λj x=>q _ j ((sm.trans s).trans x) .may⟩
 ·exact⟨d,ws,r,k,kvs,nm,a,⟨rfl,i,R,J,L,B,I⟩,λG s=>M _ G (Hi nA) λj x=>q _ j ((sm.trans s).trans x) .many⟩
 ·refine⟨d,ws,r,k,kvs,nm,a,n,⟨rfl,i,R,J,L,B,I⟩,hn,?_⟩
  by_cases c:(n:Int)<zQ2 k.toNat a
  ·exact .inl ⟨c,λbs G s nf Y=>M _ G (Ans.shw (.all (by unfold brt;rw[ax];lia) (Uo bs))) λj x=>q _ j ((sm.trans s).trans x) (.nth c nf Y)⟩
  ·exact .inr ⟨c,X _ _ .number λG s=>q _ G s (.nthNo c)⟩
 ·refine⟨d,ws,r,k,kvs,nm,a,b,⟨rfl,i,R,J,L,B,I⟩,hb,?_⟩
  cases c:AQ k b with
  |false=>exact .inl ⟨rfl,X _ _ .line λG s=>q _ G s (.numNoL c)⟩
  |true=>
   cases c2:filB k a b with
   |false=>exact .inr (.inl ⟨rfl,rfl,X _ _ .right λG s=>q _ G s (.numNo c c2)⟩)
   |true=>
    obtain⟨bs,e,Z⟩:=MC (k:=k.toNat) S (by rwa[show((k.toNat:Nat):Int)=k by lia]);obtain⟨_,h0,hlt⟩:=Fi.pos (k:=k.toNat) S T (by intro o ho;cases ho) Z;have hW:W k.toNat a 0 []=zQ2 k.toNat a:=rfl;refine .inr (.inr ⟨rfl,bs,e,Z,λG s=>M _ G (Hi ?_) λj x=>q _ j ((sm.trans s).trans x) (.num c c2 e Z)⟩);lia
 ·refine⟨d,ws,r,k,kvs,nm,a,⟨rfl,i,R,J,L,B,I⟩,?_⟩
  by_cases c:zQ2 k.toNat a=0
  ·exact .inl ⟨c,X _ _ .filling λG s=>q _ G s (.sureNo c)⟩
  ·exact .inr ⟨c,λG s=>M _ G (Ans.shw (.all (by rw[DH];lia) (LR ok))) λj x=>q _ j ((sm.trans s).trans x) (.sure c)⟩
 ·refine⟨d,ws,r,k,kvs,nm,a,⟨rfl,i,R,J,L,B,I⟩,λG s=>M _ G ?_ λj x=>q _ j ((sm.trans s).trans x) .fewest⟩;have lo:=λw l h=>FR (a:=a) (show k.toNat<=4 by lia) (w:=w) (l:=l) h;generalize lkC k.toNat a=o at lo⊢
  match o,lo with
  |none,_=>exact .none
  |some (w,P),lo=>
   have hlen2:P.length=a.length:=(lo w P rfl).1;have hc:=Fg a P;have U:=FJ (chg a P);have hl1:=Cz 8 (chg a P) nA;have hs:=EI (a:=brx P) (n:=40) nv (by unfold brx;rw[ax];lia);show Ans (AX (chg a P)++[32]++shw (brx P))
   cases e:AX (chg a P)with
   |nil=>exact absurd e (HU _)
   |cons c t=>
    rw[e]at U hl1;have:=U c aA;refine⟨?_,λz=>?_,λz=>?_⟩
    ·simp only[aG,aM,gM]at*;lia
    ·cases z;lia
    ·have:=(mj z).1;lia
 ·refine⟨d,ws,r,k,kvs,nm,a,⟨rfl,i,R,J,L,B,I⟩,λns G s dl=>M _ G ?_ λj x=>q _ j ((sm.trans s).trans x) (.more dl)⟩
  cases ns with
  |nil=>exact .none
  |cons y t=>
   have hy:=((dl.2.1 y).mp aA).bound;refine Hi (n:=y.toNat) ?_;lia
end
inductive spLine7:Type
 |mk (k:Int) (a:List Nat) (_:vs=[.int k,tx a]) (_:1<=k) (_:k<=4) (_:a.length<=1000) (_:∀H',Same H H'->Q (.bl (AQ k a)) H')
inductive spShown7:Type
 |mk (a:List Nat) (_:vs=[tx a]) (_:Q (tx (shw a)) H)
def IW:List (List Nat):=[GO,GN,GD,HE]
inductive spWord7(cs:Cs):Type
 |mk (x C:Addr) (ob:Obj) (nm:List Nat) (_:vs=[.ref x]) (_:H x=some (BE ob x C)) (_:Cap8 cs C nm) (_:nm∈IW) (_:∀H',Same H H'->Q (tx nm) H')
inductive spLSure7(cs:Cs):Type
 |mk (k:Int) (a:List Nat) (_:vs=[.int k,tx a]) (_:1<=k) (_:k<=4) (_:AQ k a=true) (_:(zQ2 k.toNat a=0/\Ref E cs.NoFilling H)\/(zQ2 k.toNat a≠0/\∀H',Same H H'->Q (tx (CG a (Bs k.toNat a))) H'))
def mo7(n:Nat)(b:List Nat):D15->List Nat
 | .nth=>AX n| .number=>b|_=>[]
inductive spTold7(cs:Cs):Type
 |mk (k:Int) (dd:D15) (a:List Nat) (n:Nat) (b:List Nat) (_:vs=[.int k,tx dd.word,tx a,tx (mo7 n b dd)]) (_:1<=k) (_:k<=4) (_:AQ k a=true) (_:q7 dd=true) (_:n<10^9) (_:b.length<=1000) (_:dd= .number->AQ k b=true)
   (_:∀t H',Same H H'->Due7 k a n b dd t->Q (tx t) H') (_:∀C nm,Cap8 cs C nm->nm∈IW->Due7 k a n b dd nm->Ref E C H)
inductive spDue7:Type
 |mk (k:Int) (dd:D15) (a:List Nat) (n:Nat) (b:List Nat) (_:vs=[.int k,tx dd.word,tx a,tx (mo7 n b dd)]) (_:1<=k) (_:k<=4) (_:AQ k a=true) (_:q7 dd=true) (_:n<10^9) (_:b.length<=1000)
   (_:∀t H',Same H H'->Due7 k a n b dd t->Q (tx t) H')
inductive spNames7:Type
 |mk (p:Addr) (_:vs=[.ref p]) (_:Po H p) (_:∀ (L:Addr) (ns:List (List Nat)) (H':Hp),H L=none->Po H' p->SameBut1 p H H'->H' L=some (.lst (ns.map tx))->(∀n∈ns,Nm n)->ns.Nodup->3<=ns.length->ns.length<=10->Q (.ref L) H')
inductive spQuest7:Type
 |mk (p:Addr) (k:Int) (a:List Nat) (_:vs=[.ref p, .int k,tx a]) (_:Po H p) (_:1<=k) (_:k<=4) (_:AQ k a=true) (_:∀ (L:Addr) (dd:D15) (n:Nat) (b:List Nat) (H':Hp),H L=none->Po H' p->SameBut1 p H H'->q7 dd=true->n<10^9->b.length<=50->(∀c∈b,c∈sgn 4\/c=120)->H' L=some (.tup [tx dd.word,tx (mo7 n b dd)])->Q (.ref L) H')
theorem XS{r:Int}(h0:0<=r)(h:r<9):∃a:D15,q7 a=true/\atI [tx [114,105,103,104,116],tx [109,97,121],tx [109,97,110,121],tx [110,116,104],tx [110,117,109,98,101,114],tx [115,117,114,101],tx [102,101,119,101,115,116],tx [109,111,114,101],tx [115,104,111,119]] r=some (tx a.word):=by
 have:r=0\/r=1\/r=2\/r=3\/r=4\/r=5\/r=6\/r=7\/r=8:=by lia
 rcases this with rfl|rfl|rfl|rfl|rfl|rfl|rfl|rfl|rfl
 ·exact⟨.right,rfl,rfl⟩
 ·exact⟨.may,rfl,rfl⟩
 ·exact⟨.many,rfl,rfl⟩
 ·exact⟨.nth,rfl,rfl⟩
 ·exact⟨.number,rfl,rfl⟩
 ·exact⟨.sure,rfl,rfl⟩
 ·exact⟨.fewest,rfl,rfl⟩
 ·exact⟨.more,rfl,rfl⟩
 ·exact⟨.show,rfl,rfl⟩
theorem SV(a:dd≠ .nth)(d:dd≠ .number)(n:Nat)(b:List Nat):mo7 n b dd=[]:=by
 cases dd<;>first|rfl|exact absurd rfl a|exact absurd rfl d
theorem Re(a:dd≠ .nth):decide (dd.word=[110,116,104])=false:=by cases dd<;>first|decide|exact absurd rfl a
theorem Rc(a:dd≠ .number):decide (dd.word=[110,117,109,98,101,114])=false:=by cases dd<;>first|decide|exact absurd rfl a
theorem WK{F:(Bool->Hp->Prop)->Prop}(t:∀G,co G->R G)(a:c=true->co H)(h0:c=false->(∀G,co G->R G)->F λb G=>if b=true then R G else P G):if c=true then(if true=true then R H else P H)else F (λb G=>if b=true then R G else P G):=by
 cases c with
 |true=>exact t H (a rfl)
 |false=>exact h0 rfl t
theorem Xt{l:List (List Nat)}{x y z:List Nat}(a:x∈l)(b:y∈l)(d:z∈l)(o:x≠y)(q:x≠z)(r:y≠z):3<=l.length:=by
 obtain⟨i,hi,rfl⟩:=cC.mp a;obtain⟨j,B,rfl⟩:=cC.mp b;obtain⟨m,G,rfl⟩:=cC.mp d;have H:i≠j:=λe=>o (by subst e;rfl);have I:i≠m:=λe=>q (by subst e;rfl);have J:j≠m:=λe=>r (by subst e;rfl);lia
theorem UZ{F:(Bool->Hp->Prop)->Prop}{co:Prop}(t:∀G,Same H G->co->P G)(a:c=true->(∀G,Same H G->co->P G)->F λb G=>if b=true then R G else P G)(h0:c=false->co):if c=true then F (λb G=>if b=true then R G else P G)else(if false=true then R H else P H):=by
 cases c with
 |true=>exact a rfl t
 |false=>exact t H (Same.refl H) (h0 rfl)
theorem Pm(h:IR K cs=true)(G:Cap8 cs C nm)(o:nm∈IW)(Z:ECls K C):∃ (q r x y:Bool) (j:Nat) (z:List Nat),ECls K C/\W.kitOne K (.ref C) (.ref cs.NoNumber)=some q/\W.kitOne K (.ref C) (.ref cs.NotRight)=some r/\W.kitOne K (.ref C) (.ref cs.NoFilling)=some x/\W.kitOne K (.ref C) (.ref cs.NoLine)=some y/\
 [q,r,x,y][j]? =some true/\(∀m,m<j->[q,r,x,y][m]? ≠some true)/\atI [tx [78,111,78,117,109,98,101,114],tx [78,111,116,82,105,103,104,116],tx [78,111,70,105,108,108,105,110,103],tx [78,111,76,105,110,101]] (j:Int)=some (tx z)/\nm=9::z/\z.length<=10:=by
 have k:∀i,i<7->DX K cs ([cs.NoRow,cs.NoName,cs.NoKinds,cs.NoLine,cs.NoNumber,cs.NotRight,cs.NoFilling].getD i 0) i=true:=λi hi=>aT.mp h i (bG.mpr hi);have f:∀ (C:Addr) (i:Nat),DX K cs C i=true->W.kitOne K (.ref C) (.ref cs.NoNumber)=some (4==i)/\W.kitOne K (.ref C) (.ref cs.NotRight)=some (5==i)/\W.kitOne K (.ref C) (.ref cs.NoFilling)=some (6==i)/\W.kitOne K (.ref C) (.ref cs.NoLine)=some (3==i):=λC i hk=>by
  unfold DX at hk;simp only[aQ,bE,aW,fC,aw,lG,lK,and_true]at hk;obtain⟨_,L,M,P,H,I,J,B⟩:=hk;exact⟨I,J,B,H⟩
 cases G
 ·exact absurd o nv
 ·exact absurd o nv
 ·exact absurd o nv
 ·obtain⟨a,b,d,e⟩:=f _ 3 (k 3 nv);exact⟨_,_,_,_,3,_,Z,a,b,d,e,rfl,by decide,rfl,rfl,by decide⟩
 ·obtain⟨a,b,d,e⟩:=f _ 4 (k 4 nv);exact⟨_,_,_,_,0,_,Z,a,b,d,e,rfl,by decide,rfl,rfl,by decide⟩
 ·obtain⟨a,b,d,e⟩:=f _ 5 (k 5 nv);exact⟨_,_,_,_,1,_,Z,a,b,d,e,rfl,by decide,rfl,rfl,by decide⟩
 ·obtain⟨a,b,d,e⟩:=f _ 6 (k 6 nv);exact⟨_,_,_,_,2,_,Z,a,b,d,e,rfl,by decide,rfl,rfl,by decide⟩
end BrS
namespace PySem
open PySem.Sem (wp)
variable{t:Tok}{z:Zk}
inductive Zk|s (x:Str)|l (a:Addr)|t (a:Addr)
def Zk.val(t:Tok):Zk->ah| .s x=> .str x t| .l a=> .ref a| .t a=> .ref a
def Zk.ob(t:Tok):Zk->Obj| .s x=>sit x t| .l a=>lit a| .t a=>uit a
def Zk.src(h:Heap):Zk->Prop| .s _=>True| .l a=>∃us,h.IsList a us| .t a=>∃us,h.IsTuple a us
def Zk.fp:Zk->List Addr| .s _=>[]| .l a=>[a]| .t a=>[a]
def Zk.it(z:Zk)(t:Tok)(j i:Nat)(h:Heap):Prop:=∃o,h.get? j=some o/\o.cls=(z.ob t).cls/\o.data= .fields #[z.val t, .int i 0]
theorem Zk.src.push{h:Heap}(g:z.src h):z.src (h.push o):=by
 cases z with
 |s=>trivial
 |l a=>exact let⟨b,q,e,r⟩:=g;⟨b,q,ae _ e,r⟩
 |t a=>exact let⟨b,q,e,r⟩:=g;⟨b,q,ae _ e,r⟩
theorem Zk.src.lt{h:Heap}(g:z.src h):∀a∈z.fp,a<h.objs.size:=by
 cases z with
 |s=>exact λ_ h=>nomatch h
 |l a=>exact λb d=>let⟨i,q,e,r⟩:=g;aV.mp d▸au e
 |t a=>exact λb d=>let⟨i,q,e,r⟩:=g;aV.mp d▸au e
theorem Zk.obd(z:Zk)(t:Tok):(z.ob t).data= .fields #[z.val t, .int 0 0]:=by cases z<;>rfl
section
variable{s:ak}
theorem Zk.iter(z:Zk)(g:z.src s.heap)(h:Q (.ref s.1.1.size) {s with heap:=s.heap.push (z.ob t)}):aH (aR prog w) A (i8 (z.val t)) Q E s:=by
 cases z with
 |s x=>exact wpAny_pyIter_strU h
 |l a=>obtain⟨b,g⟩:=g;exact eU g h
 |t a=>obtain⟨b,g⟩:=g;exact wpAny_pyIter_tuple g h
end
section
variable(h:Heap)(x y:Zk)(t u:Tok)
abbrev zq2:Heap:=(h.push (x.ob t)).push (y.ob u)
abbrev zq3:Heap:=(zq2 h x y t u).push {cls:= .type "tuple",data:= .seq #[.ref h.objs.size, .ref (h.push (x.ob t)).objs.size]}
abbrev zq4:Heap:=(zq3 h x y t u).push {cls:= .type "tuple",data:= .seq #[.none, .none]}
abbrev zq5:Heap:=(zq4 h x y t u).push {cls:= .type "zip",data:= .fields #[.none, .bool false, .bool false, .ref (zq2 h x y t u).objs.size, .ref (zq3 h x y t u).objs.size]}
end
theorem Oh(x y:Zk)(t u:Tok):
 Meets (fc.«zip.__new__» ⟨[.type "zip",x.val t,y.val u],[]⟩) (λ_ R s=>x.src s.heap/\y.src s.heap/\R (.ok (.ret (.ref (zq4 s.heap x y t u).objs.size))) {s with heap:=zq5 s.heap x y t u}):=
 .of_wp λprog w A R s h=>by
   obtain⟨b,g,d,o,os⟩:=s;obtain⟨e,i,h⟩:=h;have a:=sub_zip;have j:y.src (b.push (x.ob t)):=i.push
   wp_walk using Zk.iter x (t:=t) e,Zk.iter y (t:=u) j
   exact⟨_,rfl,h⟩
theorem RQ{s:ak}{x y:Zk}{u:Tok}(B:x.src s.heap)(G:y.src s.heap)
 (h:∀a,i3 a (s.1.1.size+4) (s.1.1.size+2) (s.1.1.size+3) .none->dZ a (s.1.1.size+2) (.ref s.1.1.size) (.ref (s.1.1.size+1))->
   dZ a (s.1.1.size+3) .none .none->x.it t s.1.1.size 0 a->y.it u (s.1.1.size+1) 0 a->a.objs.size=s.1.1.size+5->
   (∀c o,s.heap.get? c=some o->a.get? c=some o)->Q (.ref (s.1.1.size+4)) {s with heap:=a}):
 aH (aR prog w) A (call (.type "zip") [x.val t,y.val u]) Q E s:=by
 refine callType_new F.called_zip nv (F.typeCall_zip_2 _ _) (F.newCall_zip_2 _ _) (λobj=>F.args_object_init_3 obj _ _) F.entry_zip_new
  (Oh x y t u) ?_
 have z1:(s.heap.push (x.ob t)).objs.size=s.1.1.size+1:=bB ..;have z2:(zq2 s.heap x y t u).objs.size=s.1.1.size+2:=by rw[bB,z1]
 have b:(zq3 s.heap x y t u).objs.size=s.1.1.size+3:=by rw[bB,z2]
 have d:(zq4 s.heap x y t u).objs.size=s.1.1.size+4:=by rw[bB,b]
 have H:(zq5 s.heap x y t u).objs.size=s.1.1.size+5:=by rw[bB,d]
 have j:∀ (z:Zk) (t:Tok),(z.ob t).isFreed=false:=λz t=>by cases z<;>rfl
 have i:(zq5 s.heap x y t u).get? (zq4 s.heap x y t u).objs.size=some _:=ap _ rfl;have up:=fun(h:Heap) (c:Addr) (o o':Obj) (e:h.get? c=some o)=>ae (h:=h) o' e;have q:(zq5 s.heap x y t u).get? (zq3 s.heap x y t u).objs.size=some _:=ae _ (ap _ rfl);have r:(zq5 s.heap x y t u).get? (zq2 s.heap x y t u).objs.size=some _:=ae _ (ae _ (ap _ rfl));have g2:(zq5 s.heap x y t u).get? (s.heap.push (x.ob t)).objs.size=some _:=ae _ (ae _ (ae _ (ap _ (j y u))));have I:(zq5 s.heap x y t u).get? s.1.1.size=some _:=ae _ (ae _ (ae _ (ae _ (ap _ (j x t)))));refine⟨B,G,?_⟩;show _/\_;rw[z2,b,d]at i;rw[z1,z2]at r;rw[b]at q;rw[z1]at g2;rw[d];exact⟨⟨_,i,rfl⟩,h _ i r q ⟨_,I,rfl,x.obd t⟩ ⟨_,g2,rfl,y.obd u⟩ H λc o x=>
  ae _ (ae _ (ae _ (ae _ (ae _ x))))⟩
end PySem
namespace L2
variable{ta:TA}{Q:VK}{x:Zk}{R:Zk->Zk->Prop}
def Zk.v:Zk->V| .s x=> .str x| .l a=> .ref a| .t a=> .ref a
def Zk.At(K:W.Frag)(H:Hp)(xs:List V):Zk->Prop| .s x=>xs=x.cps.toList.map λc=> .str ⟨#[c]⟩| .l a=>SqL K H a xs| .t a=>SqT K H a xs
def IzQ(K:W.Frag)(x y:Zk):zQ1:=⟨λi H=>∃a b,Zk.At K H a x/\Zk.At K H b y/\i<a.length/\i<b.length,λi H v e=>∃T c d,H T=none/\(∀a,Zk.At K H a x->a[i]? =some c)/\(∀b,Zk.At K H b y->b[i]? =some d)/\v= .ref T/\e=upd H T (.tup [c,d]),λi H=>∃a b,Zk.At K H a x/\Zk.At K H b y/\(i=a.length\/(i<a.length/\i=b.length))⟩
section
variable{k:Nat}
theorem Zk.drs{σ:zQ0}{s:ak}(I:Inv X pins σ H s)(y:X.A.in1.handled=none)(z:Zk)(d:Zk.At X.K H xs z)(t:Tok)(j:Addr)(L:∀a∈z.fp,a≠j):
 ∃ (P1:Nat->ah->Prop) (B:Nat->Heap->Prop),jt X.prog X.w X.A.in1 j (j::z.fp) xs.length P1 B/\(∀i,z.it t j i s.heap->B i s.heap)/\(∀i h,B i h->z.it t j i h)/\∀i v,P1 i v->∃q,RelV q v/\∀o,Zk.At X.K H o z->o[i]? =some q:=by
 cases z with
 |s x=>
  cases d
  rw[ax];refine⟨_,_,WU j x t X.A.in1 y,λi h=>h,λi h h=>h,?_⟩;rintro i v ⟨c,u,M,rfl⟩;refine⟨.str ⟨#[c]⟩,⟨u,rfl⟩,λo e=>?_⟩
  cases e
  rw[am,cp,M];rfl
 |l a=>
  obtain⟨b,rv,G,_⟩:=I.list d;rw[rv.length,<-av];refine⟨_,_,l4 y j a (L a aA) b.toArray,λi h=>⟨h,G.isList⟩,λi h g=>g.1,λi v e=>?_⟩;have e:b[i]? =some v:=by simpa using e
  have hi:i<xs.length:=by rw[rv.length];exact(az.mp e).1
  obtain⟨Q,r,J⟩:=rv.get (i:=i) (x:=xs[i]) (ai hi);rw[e]at r;cases r;exact⟨_,J,λo h=>by rw[<-I.list_inj d h];exact ai hi⟩
 |t a=>
  obtain⟨b,rv,G,_⟩:=I.tuple d;rw[rv.length,<-av];refine⟨_,_,So y j a (L a aA) b.toArray,λi h=>⟨h,G⟩,λi h g=>g.1,λi v e=>?_⟩;have e:b[i]? =some v:=by simpa using e
  have hi:i<xs.length:=by rw[rv.length];exact(az.mp e).1
  obtain⟨Q,r,J⟩:=rv.get (i:=i) (x:=xs[i]) (ai hi);rw[e]at r;cases r;exact⟨_,J,λo h=>by rw[<-I.tuple_inj d h];exact ai hi⟩
theorem QV{y:Zk}{t u:Tok}{z TI TO i1 i2:Addr}(D:ZAp z TI TO i1 i2 [i1] [i2])(nx:∀a∈x.fp,∀b∈[z,TI,TO,i1,i2],a≠b)(S:∀a∈y.fp,∀b∈[z,TI,TO,i1,i2],a≠b):
 Turn P w K (.Tuple elts k tpos) (IzQ K x y) [z,TI,TO,i1,i2] z (λi h=>i3 h z TI TO .none/\dZ h TI (.ref i1) (.ref i2)/\(∃a b,dZ h TO a b)/\x.it t i1 i h/\y.it u i2 i h):=by
 have D':ZAp z TI TO i1 i2 (i1::x.fp) (i2::y.fp):=by
  have c:∀ {l:List Addr} {b i:Addr},(∀a∈l,∀b∈[z,TI,TO,i1,i2],a≠b)->b∈[z,TI,TO,i1,i2]->b∉[i]->b∉i::l:=λn B hi h=>(aJ.mp h).elim (λe=>hi (by simp[e])) λh=>n _ h _ B rfl;exact⟨D.TIz,D.TOz,D.TITO,D.TIi1,D.TIi2,c nx nC D.z1,c S nC D.z2,c nx nC D.o1,c S nC D.o2,c S nC D.a12,c nx nC D.a21,aA,aA⟩
 refine⟨by simp,λi h G b B=>?_,λi h h' G k=>?_,?_,?_,λA i s Q E G h=>kW G.1 h⟩
 ·obtain⟨M,d,⟨a,U,j⟩,⟨o1,J,_,Y⟩,⟨o2,L,_,Z⟩⟩:=G;simp only[aJ,dE,j4]at B;rcases B with rfl|rfl|rfl|rfl|rfl
  ·exact⟨_,M,λv z=>by cases z⟩
  ·exact⟨_,d,λv z=>by cases z⟩
  ·exact⟨_,j,λv z=>by cases z⟩
  ·exact⟨_,J,λv z=>by rw[Y]at z;cases z⟩
  ·exact⟨_,L,λv z=>by rw[Z]at z;cases z⟩
 ·obtain⟨M,d,⟨a,U,j⟩,⟨o1,J,r1⟩,⟨o2,L,r2⟩⟩:=G;exact⟨k z nC _ M,k TI nC _ d,⟨a,U,k TO nC _ j⟩,⟨o1,k i1 nC _ J,r1⟩,⟨o2,k i2 nC _ L,r2⟩⟩
 all_goals
  intro X hP hw hK hc i pins s σ H E I hf G hg;subst hP hw hK;obtain⟨M,d,⟨a,U,j⟩,T,h2⟩:=G;obtain⟨xs,ys,R,hy,hg⟩:=hg;obtain⟨P1,S1,D1,a1,b1,c1⟩:=Zk.drs I (I.ok.hd hc) x R t i1 λa h=>nx a h i1 nC;obtain⟨P2,S2,D2,a2,b2,c2⟩:=Zk.drs I (I.ok.hd hc) y hy u i2 λa h=>S a h i2 nC
 ·refine thn (RY (elts:=elts) (k:=k) (tpos:=tpos) (Qx:=λv q=>∀ys,Zk.At X.K H ys x->ys[i]? =some q) (Qy:=λv q=>∀xs,Zk.At X.K H xs y->xs[i]? =some q)
   (tn:=λh=>i3 h z TI TO .none/\dZ h TI (.ref i1) (.ref i2)/\(∃a b,dZ h TO a b)/\x.it t i1 (i+1) h/\y.it u i2 (i+1) h) D' D1 D2 I hf M d j (a1 i T) (a2 i h2) hg.1 hg.2
   (λh' _ _ q1 q2 q3 q4 q5=>⟨q1,q2,⟨_,_,q3⟩,b1 _ _ q4,b2 _ _ q5⟩) (c1 i) (c2 i)) ?_
  rintro r s1 ⟨u,hr,T⟩;refine⟨u,hr,thn T ?_⟩;rintro _ s2 ⟨xv,H',I2,rx,⟨Ta,q1,q2,v1,v2,hT,R,hy,ex,eH⟩,tn2,fr⟩;exact⟨xv,H',I2,rx,⟨Ta,q1,q2,hT,R,hy,ex,eH⟩,tn2,fr⟩
 ·exact OU D' D1 D2 M d j (a1 i T) (a2 i h2) hg λh' tk R=>⟨rfl,I.turnedAll (t':=tk) hf λb o B q=>R b o (λz=>B (by simp[z])) (λz=>B (by simp[z])) (λz=>B (by simp[z])) (λz=>B (by simp[z])) q⟩
end
def N1(K:W.Frag)(b:TA):TI:=λσ H R=>b σ H λvs a=>∃x y d e,vs=[Zk.v x,Zk.v y]/\Zk.At K a d x/\Zk.At K a e y/\R (IzQ K x y) a
theorem Zk.rel{σ:zQ0}{s:ak}(I:Inv X pins σ H s){v:ah}(h:Zk.At X.K H xs x)(r:RelV (Zk.v x) v):∃t,v=x.val t/\x.src s.heap:=by
 cases x with
 |s x=>obtain⟨t,rfl⟩:=r;exact⟨t,rfl,trivial⟩
 |l a=>obtain⟨b,rv,d,_⟩:=I.list h;cases r;exact⟨0,rfl,_,d.isList⟩
 |t a=>obtain⟨b,rv,d,_⟩:=I.tuple h;cases r;exact⟨0,rfl,_,d⟩
section
variable{a b:Expr}{p pos:Pos}{k:Nat}
theorem EL(K:W.Frag)(hg:Gl X "zip")(S:X.mg "zip"=none)(o:PA X [a,b] ta)(T:aL [a,b] X.env=[(false,eval a X.env),(false,eval b X.env)]:=by rfl)(i:aL [b] X.env=[(false,eval b X.env)]:=by rfl)(U:X.K=K:=by rfl):PI X (.Tuple elts k tpos) (.Call (.Name "zip" p) [a,b] [] pos) (N1 K ta):=by
 subst U;intro pins s σ H R I h;refine Call_ (CP I hg S boot_zip (bY (thn (o pos pins s σ H _ I h) λus d ⟨vs,Y,j,Z,q1⟩=>?_) (by rw[T,i]) (by rw[i];rfl)));obtain⟨x,y,xs,ys,e,hx,hy,q⟩:=q1;subst e
 cases Z with
 |cons r B=>
  cases B with
  |cons r2 B=>
   cases B
   obtain⟨t,rfl,L⟩:=Zk.rel j hx r;obtain⟨u,rfl,M⟩:=Zk.rel j hy r2;have P:∀ (z:Zk),z.src d.heap->∀a∈z.fp,∀b∈[d.1.1.size+4,d.1.1.size+2,d.1.1.size+3,d.1.1.size,d.1.1.size+1],a≠b:=λz sz a o b hb e=>by
    have:=aI (sz.lt a o) (ao _);subst e;simp only[aJ,dE,j4]at hb;lia
   refine RQ L M λh' Q G J h1 h2 hsz hk=>kW Q ?_;exact⟨d.1.1.size+4,[d.1.1.size+4,d.1.1.size+2,d.1.1.size+3,d.1.1.size,d.1.1.size+1],_,_,Y,rfl,j.kept (t':=d.toks) hk,QV (Xb _) (P x L) (P y M),⟨Q,G,⟨_,_,J⟩,h1,h2⟩,WL j,q⟩
end
theorem VM{σ:zQ0}{R:zQ1->Hp->Prop}(h:ta σ H λvs a=>∃x y b d,vs=[Zk.v x,Zk.v y]/\Zk.At K a b x/\Zk.At K a d y/\R (IzQ K x y) a):N1 K ta σ H R:=h
section
variable{y:Zk}{ys:List V}{σ:zQ0}
theorem VL(h:R (.s ⟨a.toArray⟩) (.s ⟨b.toArray⟩)):∃x y xs ys,[tx a,tx b]=[Zk.v x,Zk.v y]/\Zk.At K H xs x/\Zk.At K H ys y/\R x y:=⟨.s _, .s _,_,_,rfl,rfl,rfl,h⟩
theorem WM(z:ys.length=xs.length)(Pv:Nat->zQ0->Hp->Prop)(h0:Pv 0 σ H)(ht:∀i σ a,Pv i σ a->Zk.At K a xs x/\Zk.At K a ys y)
 (e:∀i c d T σ b a,xs[i]? =some c->ys[i]? =some d->Pv i σ b->Same b a->a T=some (.tup [c,d])->g (.ref T) σ a λσ2 j=>tb {D with nx:=Pv (i+1),ct:=Pv (i+1),bk:=D.nx} σ2 j) (hd:∀σ H,Pv xs.length σ H->D.nx σ H):B8 (IzQ K x y) g tb D σ H:=by
 refine Fd (n:=xs.length) Pv h0 (λi σ H hi p=>⟨xs,ys,(ht _ _ _ p).1,(ht _ _ _ p).2,hi,by lia⟩) (λσ H p=>⟨xs,ys,(ht _ _ _ p).1,(ht _ _ _ p).2, .inl rfl⟩) (λi v σ b a hi p o=>?_) hd;obtain⟨T,c,d,q,r,hd,rfl,rfl⟩:=o;exact e i c d T σ b _ (r _ (ht _ _ _ p).1) (hd _ (ht _ _ _ p).2) p (AJ q _) AF
theorem Hc(S:ys.length=xs.length)(Pv:Addr->Nat->List V->Hp->Prop)(ht:∀D i a e,H D=none->Pv D i a e->Zk.At K e xs x/\Zk.At K e ys y)(h0:∀D,H D=none->Pv D 0 [] (upd H D (.lst [])))
 (r:∀D a e,H D=none->e D=some (.lst a)->Pv D xs.length a e->Q (.ref D) e)
 (L:∀D i c d T a q e,H D=none->xs[i]? =some c->ys[i]? =some d->i<xs.length->e D=some (.lst a)->a.length<=i->Pv D i a q->Same q e->e T=some (.tup [c,d])->g (.ref T) (AY own sel σ) e λσ4 M=>tt σ4 M λb G=>
   if b=true then te σ4 G λv I=>∃a,I D=some (.lst a)/\a.length<sizeLine/\∃o,o<xs.length-i/\CW D xs.length (Pv D) (i+1) o (upd I D (.lst (a++[v])))
   else∃o,o<xs.length-i/\CW D xs.length (Pv D) (i+1) o G):BU (IzQ K x y) own sel σ g tt te Q H:=by
 refine B5 (n:=xs.length) Pv h0 (λD i a e j hi _ p=>⟨xs,ys,(ht _ _ _ _ j p).1,(ht _ _ _ _ j p).2,hi,by lia⟩) (λD a e j z _ p=>⟨⟨xs,ys,(ht _ _ _ _ j p).1,(ht _ _ _ _ j p).2, .inl rfl⟩,r D a e j z p⟩) (λD i a q U X j hi z B p P=>?_);obtain⟨T,c,d,J,R,hd,rfl,rfl⟩:=P;exact L D i c d T a q _ j (R _ (ht _ _ _ _ j p).1) (hd _ (ht _ _ _ _ j p).2) hi (AJ J _ _ _ z) B p (AJ J _) AF
theorem LO(v:Nat->Nat->V)(Z:b.length=a.length)(hn:a.length<=sizeLine)(G:∀D j,H D=none->Same H j->j D=some (.lst ((aw a.length).map λi=>v (a.getD i 0) (b.getD i 0)))->Q (.ref D) j)
 (hs:∀ (i c d:Nat) (T:Addr) (j:Hp) (R:V->Hp->Prop),a[i]? =some c->b[i]? =some d->Same H j->j T=some (.tup [tx [c],tx [d]])->(∀I,Same j I->R (v c d) I)->g (.ref T) (AY own sel σ) j λσ4 H4=>te σ4 H4 R):BU (IzQ K (.s ⟨a.toArray⟩) (.s ⟨b.toArray⟩)) own sel σ g tYes te Q H:=by
 have r:∀ (a:List Nat),(a.map λc=>tx [c]).length=a.length:=λa=>ax _;refine Hc (xs:=a.map λc=>tx [c]) (ys:=b.map λc=>tx [c]) (by rw[r,r,Z]) (λD i ys j=>Same H j/\ys=(aw i).map λi=>v (a.getD i 0) (b.getD i 0)) (λ_ _ _ _ _ _=>⟨rfl,rfl⟩) (λD q=>⟨AJ q _,rfl⟩) (λD ys j q J ⟨B,e⟩=>G D j q B (by rw[J,e,r])) ?_;rintro D i c d T ys H1 H3 q P hd hi L M ⟨B,e⟩ S hT;rw[r]at hi⊢;rw[am]at P hd;obtain⟨c,U,rfl⟩:=dz.mp P;obtain⟨d,X,rfl⟩:=dz.mp hd;have hv:v (a.getD i 0) (b.getD i 0)=v c d:=by rw[af,af,U,X];rfl
 rw[RZ];refine hs i c d T H3 _ U X (B.trans S) hT λI Y=>?_;refine Bj hi hn (Y _ _ L) M ⟨λx o z=>?_,?_⟩
 ·rw[AI (AS z q)];exact Y _ _ (S _ _ (B _ _ z))
 ·rw[e,bZ,bv,List.map_singleton,hv]
end
end L2
namespace BrS
variable{d:Addr}{cs:Cs}{D:D15->Sp}{kvs:Kv}{ar ns rs xs:List (List Nat)}{r:List (List Nat×List Nat)}{n p:List Nat}{f:List Nat×List Nat->Bool}{Q:VK}{E:XK}
def jn:List (List Nat)->List Nat|[]=>[]|[w]=>w|w::x::r=>w++32::jn (x::r)
theorem Mt:∀ (r:List (List Nat)) (w:List Nat),r.length<=(jn (w::r)).length
 |[],_=>bA _
 |x::r,w=>by
  show _<=(w++32::jn (x::r)).length;have:=Mt r x;rw[aG,aM,aM];lia
theorem jn2(w x:List Nat):(jn [w,x]).length=w.length+1+x.length:=by show(w++32::x).length=_;rw[aG,aM];lia
theorem jn3(w x y:List Nat):(jn [w,x,y]).length=w.length+1+x.length+1+y.length:=by show(w++32::jn [x,y]).length=_;rw[aG,aM,jn2];lia
theorem Ho:∀ (r:List (List Nat)) (w:List Nat) (n:Nat),r.length<=n->(∀x∈(w::r).dropLast,32∉x)->(n=r.length\/∀x∈w::r,32∉x)->spN 32 n (jn (w::r))=w::r
 |[],w,n,_,_,h=>by
  show spN 32 n w=[w];rcases h with rfl|h
  ·exact Rn _ _
  ·exact Ki _ _ _ (h w aA)
 |x::r,w,0,h,_,_=>absurd h (Nat.not_succ_le_zero _)
 |x::r,w,n+1,h,b,d=>by
  show spN 32 (n+1) (w++32::jn (x::r))=_;rw[HF 32 n w _ (b w aA),Ho r x n (Nat.le_of_succ_le_succ h) (λy a=>b y (ay _ a)) (d.imp mC λh y a=>h y (ay _ a))]
theorem no32(d:D15):32∉d.word:=by cases d<;>decide
set_option tactic.hygienic true in
theorem Di(d:D15)(ar:List (List Nat))(i:ar.length=d.form.length)(j:(ar.zip d.form).all (λx=>B7 x.1 x.2)=true)(o:∀x∈ar.dropLast,32∉x)(q:CS∈d.form\/∀x∈ar,32∉x):knw (jn (d.word::ar))=some (d,ar):=by
 have B:Bu (jn (d.word::ar))=d.word:=by
  unfold Bu
  cases ar with
  |nil=>show((spN 32 1 d.word).head?).getD []=_;rw[Ki _ _ _ (no32 d)];rfl
  |cons x r=>show((spN 32 1 (d.word++32::jn (x::r))).head?).getD []=_;rw[HF 32 0 _ _ (no32 d)];rfl
 have a:∀x∈(d.word::ar).dropLast,32∉x:=by
  cases ar with
  |nil=>exact λx b=>nomatch b
  |cons y r=>exact λx b=>(aJ.mp b).elim (λe=>e▸no32 d) (o x)
 have G:wds (jn (d.word::ar)) d.form=d.word::ar:=by
  unfold wds
  split
  ·exact Ho ar _ _ (fA i) a (.inl i.symm)
  ·rename_i z
   exact Ho ar _ _ (io (Mt ar _)) a (.inr λx b=>(aJ.mp b).elim (λe=>e▸no32 d) (q.resolve_left z x))
 unfold knw;rw[B,Ls];show(if _ then _ else _)=_;rw[G];exact aO ⟨i,j⟩
theorem Q9{n:Nat}(h:n<10^9):Ex (AX n)=true:=by
 unfold Ex;have d:=Cz 8 n h;have a:=List.length_pos_iff.mpr (HU n);rw[aQ,aQ,bq,aT,bP];refine⟨⟨⟨by lia,by lia⟩,λc b=>?_⟩,?_⟩
 ·have hd:=FJ n c b;have e:∀j,j<10->decide (48+j∈fig)=true:=by decide
  have:=e (c-48) nA;rwa[show 48+(c-48)=c by lia]at this
 ·by_cases z:n<10
  ·rw[Da z];exact .inl rfl
  ·exact .inr (by simpa using Qu (n:=n) nA)
theorem EN(h:Nm a)(b:p=Av\/p=DV):B7 a p=true:=by
 have:=isNm_iff.mpr h;rcases b with rfl|rfl<;>exact this
theorem MB{n:Nat}(h:n<10^9):B7 (AX n) De=true:=Q9 h
theorem all2(h:f (a,p)=true)(g:r.all f=true):((a,p)::r).all f=true:=by rw[fO,h,g];rfl
theorem IQ{n:Nat}(i:q7 dd=true)(d:Nm nm)(h:n<10^9):knw (jn (dd.word::ar7 nm n b dd))=some (dd,ar7 nm n b dd):=by
 have o:∀x∈[nm],32∉x:=λx a=>aV.mp a▸d.no32
 cases dd<;>first|(cases i;done)|skip
 case nth=>exact Di _ _ rfl (all2 (EN d (.inl rfl)) (all2 (MB h) rfl)) o (.inr λx a=>(aJ.mp a).elim (λe=>e▸d.no32) λa=>aV.mp a▸Mn n)
 case number=>exact Di _ _ rfl (all2 (EN d (.inl rfl)) rfl) o (.inl nv)
 all_goals exact Di _ _ rfl (all2 (EN d (.inl rfl)) rfl) (λx a=>nomatch a) (.inr o)
theorem UX(a:Nm nm):knw (jn [DU,nm,b])=some (.row,[nm,b]):=Di .row _ rfl (all2 (EN a (.inr rfl)) rfl) (λx d=>aV.mp d▸a.no32) (.inl nv)
theorem Q3{n:Nat}(h:n<10^9):knw (jn [Cg,AX n])=some (.kinds,[AX n]):=Di .kinds _ rfl (all2 (MB h) rfl) (λx a=>nomatch a) (.inr λx a=>aV.mp a▸Mn n)
theorem SZ(b:Nm nm):knw (jn [Fh,nm])=some (.drop,[nm]):=Di .drop _ rfl (all2 (EN b (.inl rfl)) rfl) (λx a=>nomatch a) (.inr λx a=>aV.mp a▸b.no32)
section
variable{r:Addr}{k:Int}{l:List Nat}
theorem XO(hd:Dk C H d r k kvs)(hk:knw l=some (dd,ar))(e:l.length<=1000)(j:ar[i]? =some b)(o:dd.form[i]? =some Av)(x:AZ kvs (kyT b)=none)(q:∀a,Same H a->Q (tx HD) a):SdG D K cs C d (tx l) H Q E:=
 ⟨d,r,k,kvs,_,rfl,hd,λz B G y=>⟨d,r,k,kvs,_,rfl,hd, .inr ⟨l,dd,ar,rfl,e,hk, .inl ⟨i,b,j,o,x,y _ _ .name q⟩⟩⟩⟩
theorem WA{n:Nat}(hd:Dk C H d r k kvs)(o:1<=n)(x:n<=4)(q:∀a e,H a=none->FB [d] H e->Dk C e d a n []->Q (tx tOk) e):SdG (DE cs C) K cs C d (tx (jn [Cg,AX n])) H Q E:=
 doG hd (Q3 nA) (by have:=Cz 0 n nA;rw[jn2];show 5+1+_<=_;lia) rfl λI J ws e sm i j _ y _=>⟨d,ws,r,k,kvs,n,rfl,i,j,by lia, .inl ⟨o,x,λa G z f dk=>y _ G .ok λB s=>q a B (sm.free z) ((FB.of sm).trans (f.s s)) (dk.same s)⟩⟩
theorem Xq(hd:Dk C H d r k kvs)(j:Nm nm)(o:1<=k)(x:k<=4)(y:kvs.length<=100)(e:AQ k b=true)(q:∀a,FB [r] H a->Dk C a d r k (putK kvs (kyT nm) (tx b))->Q (tx tOk) a):SdG (DE cs C) K cs C d (tx (jn [DU,nm,b])) H Q E:=
 doG hd (UX j) (by have:=An e;have:=j.hi;rw[jn3];show 3+1+_+1+_<=_;lia) rfl λJ L ws a sm i z _ B _=>⟨d,ws,r,k,kvs,nm,b,rfl,i,o,x,y,z,bj (An e) nv, .inl ⟨e,λG f dk=>B _ G .ok λI s=>q I ((FB.of sm).trans (f.s s)) (dk.same s)⟩⟩
theorem XX{v:V}(hd:Dk C H d r k kvs)(i:Nm nm)(j:AZ kvs (kyT nm)=some v)(q:∀a,FB [r] H a->Dk C a d r k (CU kvs (kyT nm))->Q (tx tOk) a):SdG (DE cs C) K cs C d (tx (jn [Fh,nm])) H Q E:=
 doG hd (SZ i) (by have:=i.hi;rw[jn2];show 4+1+_<=_;lia) (by unfold Im;simp[D15.form,j]) λz B ws a sm e o _ x _=>⟨d,ws,r,k,kvs,nm,v,rfl,e,o,j,λG f dk=>x _ G .ok λy s=>q y ((FB.of sm).trans (f.s s)) (dk.same s)⟩
end
structure W7 (C:Addr) (H0:Hp) (p L R d r:Addr) (k:Int) (kvs:Kv) (ns rs:List V) (H:Hp):Prop where
 sm:Same H0 H
 po:Po H p
 dk:Dk C H d r k kvs
 gn:H L=some (.lst ns)
 gr:H R=some (.lst rs)
 fp:H0 p=none
 fd:H0 d=none
 fr:H0 r=none
 lp:L≠p
 rp:R≠p
section
variable{H0:Hp}{p L R r r':Addr}{k k':Int}{kvs':Kv}{ns rs:List V}
theorem W7.same(h:W7 C H0 p L R d r k kvs ns rs H)(s:Same H H'):W7 C H0 p L R d r k kvs ns rs H':=⟨h.sm.trans s,h.po.same s,h.dk.same s,s _ _ h.gn,s _ _ h.gr,h.fp,h.fd,h.fr,h.lp,h.rp⟩
theorem W7.dp(h:W7 C H0 p L R d r k kvs ns rs H):d≠p/\r≠p:=by
 obtain⟨_,_,_,e⟩:=h.po;obtain⟨⟨_,a⟩,b⟩:=h.dk;exact⟨λz=>(by rw[z,e]at a;cases a),λz=>(by rw[z,e]at b;cases b)⟩
theorem W7.draw(h:W7 C H0 p L R d r k kvs ns rs H)(s:SameBut1 p H H')(po:Po H' p):W7 C H0 p L R d r k kvs ns rs H':=
 ⟨SameBut1.fresh h.sm s h.fp,po,h.dk.but s h.dp.1 h.dp.2,s _ _ h.gn h.lp,s _ _ h.gr h.rp,h.fp,h.fd,h.fr,h.lp,h.rp⟩
theorem W7.list{D:Addr}{xs:List V}(h:W7 C H0 p L R d r k kvs ns rs H)(e:H D=some (.lst xs)):D≠d/\D≠r:=by
 obtain⟨⟨_,a⟩,b⟩:=h.dk;exact⟨λz=>(by rw[z,a]at e;cases e),λz=>(by rw[z,b]at e;cases e)⟩
theorem W7.put(h:W7 C H0 p L R d r k kvs ns rs H)(s:FB [r] H H')(dk:Dk C H' d r k kvs'):W7 C H0 p L R d r k kvs' ns rs H':=by
 obtain⟨a,b,c,e⟩:=h.po;exact⟨λb o z=>s b o (h.sm b o z) (by simpa using AS z h.fr),⟨a,b,c,s _ _ e (by simpa using h.dp.2.symm)⟩,dk,s _ _ h.gn (by simpa using(h.list h.gn).2),s _ _ h.gr (by simpa using(h.list h.gr).2),h.fp,h.fd,h.fr,h.lp,h.rp⟩
theorem W7.kinds(h:W7 C H0 p L R d r k kvs ns rs H)(i:H r'=none)(s:FB [d] H H')(dk:Dk C H' d r' k' kvs'):W7 C H0 p L R d r' k' kvs' ns rs H':=by
 obtain⟨a,b,c,e⟩:=h.po;exact⟨λb o z=>s b o (h.sm b o z) (by simpa using AS z h.fd),⟨a,b,c,s _ _ e (by simpa using h.dp.1.symm)⟩,dk,s _ _ h.gn (by simpa using(h.list h.gn).1),s _ _ h.gr (by simpa using(h.list h.gr).1),h.fp,h.fd,h.sm.free i,h.lp,h.rp⟩
end
def kv7(ns rs:List (List Nat)):Kv:=(ns.zip rs).map λx=>(kyT x.1,tx x.2)
theorem FS:∀ {ns rs:List (List Nat)} {i:Nat} {n a:List Nat},ns.Nodup->ns[i]? =some n->rs[i]? =some a->AZ (kv7 ns rs) (kyT n)=some (tx a)
 |x::ns,y::rs,0,n,a,_,b,d=>by
  cases b;cases d
  show AZ ((kyT x,tx y)::kv7 ns rs) (kyT x)=_;unfold AZ;rw[cT,ba rfl];rfl
 |x::ns,y::rs,i+1,n,a,hd,b,d=>by
  obtain⟨o,q⟩:=fL.mp hd;have e:¬kyT x=kyT n:=λz=>o (HV z▸bV b);have j:=FS (ns:=ns) (rs:=rs) (i:=i) q b d;show AZ ((kyT x,tx y)::kv7 ns rs) (kyT n)=_;unfold AZ at j⊢;rw[cT,aX e];exact j
 |[],_,_,_,_,_,b,_=>by simp at b
 |_::_,[],_,_,_,_,_,d=>by simp at d
theorem Ms:∀ {ns rs:List (List Nat)} {n:List Nat},n∉ns->AZ (kv7 ns rs) (kyT n)=none
 |[],_,_,_=>rfl
 |_::_,[],_,_=>rfl
 |x::ns,y::rs,n,h=>by
  have b:=Ms (ns:=ns) (rs:=rs) λz=>h (ay _ z);have a:¬kyT x=kyT n:=λz=>h (by rw[HV z];exact aA);show AZ ((kyT x,tx y)::kv7 ns rs) (kyT n)=_;unfold AZ at b⊢;rw[cT,aX a];exact b
theorem UW(hd:ns.Nodup)(b:ns[i]? =some n)(d:rs[i]? =some a):putK (kv7 (ns.take i) (rs.take i)) (kyT n) (tx a)=kv7 (ns.take (i+1)) (rs.take (i+1)):=by
 have hi:=(az.mp b).1;have o:=(az.mp d).1;have j:n∉ns.take i:=λz=>by
  have e:ns.take (i+1)=ns.take i++[n]:=by rw[hH,b];rfl
  have:=hd.sublist (ip (i+1) ns);rw[e]at this;exact(List.nodup_append.mp this).2.2 n z n aA rfl
 rw[R6 _ (Ms j)];unfold kv7;rw[hH,hH,b,d,kg,kg,List.zip_append (by rw[cc,cc];lia),bv];rfl
theorem Sl(a:Kv)(k:Key):AZ (CU a k) k=none:=by
 unfold AZ CU;rw[Option.map_eq_none_iff,kl];intro x b;have:=(ji.mp b).2;simpa using this
theorem Uu{c:Bool}{F:VK->Prop}{R:VK}(h:∀b,R (.bl b) H)(g:∀a:VK,(∀b,a (.bl b) H)->F a):if c=true then F R else R (.bl false) H:=by
 cases c with
 |true=>exact g R h
 |false=>exact h false
theorem W7.new{H0:Hp}{p L R dx r:Addr}{ns rs:List V}{o1 o2:HO}(sm:Same H0 H)(po:Po H p)(gn:H L=some (.lst ns))(gr:H R=some (.lst rs))(fp:H0 p=none)(lp:L≠p)(rp:R≠p)(hd:H d=none)(a:H dx=none)
 (e:(upd (upd H dx o1) d o2) r=none) (f:FB [d] (upd (upd H dx o1) d o2) H') (dk:Dk C H' d r 4 []):W7 C H0 p L R d r 4 [] ns rs H':=by
 have s:Same H H':=λb o z=>f b o (by rw[AI (AS z hd),AI (AS z a)];exact z) (by simpa using AS z hd);have i:H r=none:=by
  by_cases z:r=d
  ·rw[z];exact hd
  ·rw[AI z]at e
   by_cases z2:r=dx
   ·rw[z2];exact a
   ·rwa[AI z2]at e
 exact⟨sm.trans s,po.same s,dk,s _ _ gn,s _ _ gr,fp,sm.free hd,sm.free i,lp,rp⟩
def Cp(ns rs:List (List Nat)):List (List Nat):=(ns.zip rs).map λx=>jn [DU,x.1,x.2]
theorem Kq(b:ns[i]? =some n)(d:rs[i]? =some a):(Cp ns rs)[i]? =some (jn [DU,n,a]):=by
 unfold Cp;rw[am,show(ns.zip rs)[i]? =some (n,a)from fe.mpr ⟨b,d⟩];rfl
theorem Df{v:V}(h:(ns.map tx)[i]? =some v):∃n,ns[i]? =some n/\tx n=v:=by
 rw[am]at h;exact let⟨a,b,d⟩:=dz.mp h;⟨a,b,d⟩
theorem QX(h:xs[i]? =some a):(xs.take i).map tx++[tx a]=(xs.take (i+1)).map tx:=by rw[hH,h,bv];rfl
def Fk(k:Nat)(ns rs:List (List Nat)):List (List Nat):=jn [Cg,AX k]::Cp ns rs
theorem M5{l:List (List Nat)}{i:Int}(h0:0<=i)(b:i<l.length):∃ (j:Nat) (x:List Nat),(j:Int)=i/\l[j]? =some x/\atI (l.map tx) i=some (tx x):=by
 obtain⟨j,rfl⟩:∃j:Nat,i=j:=⟨i.toNat,by lia⟩;have a:j<l.length:=by lia
 exact⟨j,l[j],rfl,ai a,Hf tx (AT (ai a))⟩
def Em:D15->Bool| .nth=>true| .number=>true|_=>false
theorem in7(dd:D15):inV (tx dd.word) [tx [110,116,104],tx [110,117,109,98,101,114]]=Em dd:=by cases dd<;>rfl
theorem Ii{n:Nat}(h:Em dd=false):dd.word++[32]++nm=jn (dd.word::ar7 nm n b dd):=by
 cases dd<;>first|(cases h;done)|simp[ar7,jn]
theorem N0{n:Nat}(h:Em dd=true):dd.word++[32]++nm++[32]++mo7 n b dd=jn (dd.word::ar7 nm n b dd):=by
 cases dd<;>first|(cases h;done)|simp[ar7,jn,mo7]
theorem GY(dd:D15):dd.word.length<=6:=by cases dd<;>decide
theorem Ly{n:Nat}(h:n<10^9)(a:b.length<=50):(mo7 n b dd).length<=50:=by
 have:=Cz 8 n h
 cases dd<;>first|exact bA _|exact a|(show(AX n).length<=50;lia)
theorem Hh{n:Nat}(d:nm.length<=8)(h:n<10^9)(a:b.length<=50):(jn (dd.word::ar7 nm n b dd)).length<=1000:=by
 have i:=GY dd;have j:=Ly (dd:=dd) h a
 cases e:Em dd with
 |false=>rw[<-Ii e,aG,aG];show _+1+_<=_;lia
 |true=>rw[<-N0 e];simp only[aG,f9];lia
def dds7:List D15:=[.right, .may, .many, .sure, .fewest, .more, .show, .nth, .number]
def qst(n:List Nat)(dd:D15):List Nat:=jn (dd.word::ar7 n 0 [40,41] dd)
theorem Ts(n:List Nat):[tx ([110,116,104,32]++n++[32,48]),tx ([110,117,109,98,101,114,32]++n++[32,40,41])]=[tx (qst n .nth),tx (qst n .number)]:=by
 have e:AX 0=[48]:=Da nv;unfold qst ar7 jn jn jn;rw[e];simp[D15.word]
theorem Vk{r:Addr}{k:Int}(hd:Dk C H d r k kvs)(a:q7 dd=true)(N:Nm n)(j:AZ kvs (kyT n)=none)(q:∀e,Same H e->Q (tx HD) e):SdG (DE cs C) K cs C d (tx (qst n dd)) H Q E:=
 XO hd (IQ a N nv) (Hh N.hi nv nv) (i:=0) (b:=n) (by cases dd<;>rfl) (by cases dd<;>first|rfl|cases a) j q
theorem WV:∀a∈dds7,q7 a=true:=by decide
theorem WW:∀j,j<7->∃a,dds7[j]? =some a/\Em a=false/\[tx [114,105,103,104,116,32],tx [109,97,121,32],tx [109,97,110,121,32],tx [115,117,114,101,32],tx [102,101,119,101,115,116,32],tx [109,111,114,101,32],tx [115,104,111,119,32]][j]? =some (tx (a.word++[32]))
 |0,_=>⟨.right,rfl,rfl,rfl⟩
 |1,_=>⟨.may,rfl,rfl,rfl⟩
 |2,_=>⟨.many,rfl,rfl,rfl⟩
 |3,_=>⟨.sure,rfl,rfl,rfl⟩
 |4,_=>⟨.fewest,rfl,rfl,rfl⟩
 |5,_=>⟨.more,rfl,rfl,rfl⟩
 |6,_=>⟨.show,rfl,rfl,rfl⟩
 |j+7,h=>absurd h nA
end BrS
end
open Int renaming toNat_natCast->d0
open List renaming length_map->ax,getElem?_eq_getElem->ai,length_singleton->f9,getD_eq_getElem?_getD->af,getElem?_map->am,length_append->aG,mem_of_getElem?->bV,map_append->bv,length_take->cc,range->aw,mem_singleton->aV,getElem?_eq_some_iff->az,mem_append->dW,length_cons->aM,map_map->d4,getElem?_range->aU,getElem_mem->dF,mem_append_right->aP,mem_of_mem_take->jG,take_of_length_le->dA,length_range->cY,map_congr_left->dw,take_length->dD
open Nat renaming lt_of_le_of_lt->de
open Option renaming map_eq_some_iff->dz
open Or renaming inl->kP
open PyProof.Rows renaming boot_isinstance->nb,boot_int->ni,boot_str->nj
open PySem.F renaming plainAttrs_list->ng,type_list_append->nk,slot_list_append->no,plainAttrs_str->nr,type_str_join->nu
open PySem.PassesOwn renaming never->nh
open PySem PySem.Spec PyProof.Rows
variable{XP:(Str->Option Value)->Heap->Prop}{C S p:Addr}{A:Around}{es:Array (Int×Value)}{dd:D15}{env:Env}{e tg:Expr}{fd:FuncData}{base h':Heap}{lo:Int}{pins:List (Addr×Obj)}{L ps:List (List Int)}{bad ch:List Addr}{outer:List Env}{elts ifs:List Expr}{ms ns:List Int}{a b nm sel st:List Nat}{own:List Str}{us ys:List Value}{M:Model}{c ep i j n t':Nat}{ad:Nat->Addr}{f:Nat->Int}{o:Obj}{tpos:Pos}{P prog:Program}{K:W.Frag}{R:Result->Shared->Prop}{scope:Scope}{pl:Sem Bool}{t:SetTable}{qual x:Str}{kindOf:Str->Option NameKind}{mg:Str->Option Value}{α:Type}{E Q:Value->Shared->Prop}{w:World}
variable{H H' H1:Hp}{kvs:List (List Key×V)}{vs xs:List V}
variable{X:Cx}
variable{D:Ends}{ta te:TE}{tb:TS}{tt:TT}{r:V->List V->Hp->VK->Prop}
variable{g:TG}
variable{sp:Sp}
open L2
open HT
open Att
set_option maxHeartbeats 8000000
open BrM
open BrTx
open BrC
open BrS
open BrT
open BrB
open BrI
namespace Bk
variable{loose:List Str}{K:Params->W.Frag}{q:Program}{YP:World->Heap->Prop}
def top(i:Nat):Stmt:=PySem.Challenge.pw_bracketrows_k47_asked_at_the_desk.main.body.getD i (.Pass ⟨0,0,0,0⟩)
def LF:List (Str×Stmt):=("is_whole",top 20)::("check_kinds",top 21)::("is_line",top 22)::("check_line",top 23)::("matched",top 24)::("is_right",top 25)::("weighed_places",top 27)::("counted_places",top 28)::("pair_sum",top 29)::("no_sums",top 30)::("span_sums",top 31)::("whole_sum",top 32)::("check_filling",top 33)::("pairs_with_rest",top 34)::("bracket_sums",top 35)::("how_many",top 37)::("may_open",top 39)::("depths_before",top 40)::("depths_by_stop",top 41)::("depths",top 42)::("may_go_on",top 43)::("fewest_more",top 44)::("opens",top 46)::("nth_filling",top 48)::("is_right_filling",top 49)::("number_of",top 50)::("likelier",top 52)::("likeliest_pair",top 53)::("round_about",top 54)::("one_behind_the_other",top 55)::("likeliest_spans",top 56)::("first_likeliest",top 57)::("needs_change",top 61)::("places_to_change",top 62)::("fewest_changes",top 63)::("filled",top 68)::("sure_places",top 69)::("is_name",top 79)::("is_number",top 80)::("has_form",top 81)::("parted",top 82)::("known_words",top 83)::("yes_or_no",top 84)::("shown",top 85)::("say_kinds",top 86)::("say_row",top 87)::("say_turn",top 88)::("say_behind",top 89)::("say_drop",top 90)::("say_show",top 91)::("say_right",top 92)::("say_may",top 93)::("say_many",top 94)::("say_nth",top 95)::("say_number",top 96)::[("say_sure",top 97),("say_fewest",top 98),("say_more",top 99),("say_names",top 100),("_law_pool",top 104),("_law_draw",top 105),("_law_right_row",top 106),("_law_signs",top 107),("_law_bent",top 108),("_law_line",top 109),("_law_said",top 110),("_law_names",top 111),("_law_is_line",top 112),("_law_shown",top 113),("_law_word",top 114),("_law_sure",top 115),("_law_told_of",top 116),("_law_due",top 117),("_law_question",top 118),("law",top 119)]
def LM(a b:Addr):List (Str×Addr×Str×Stmt):=[("Course.__init__",a,"__init__",inClass (top 47) 0),("Course.many_in_all",a,"many_in_all",inClass (top 47) 1),("Course.many_closing",a,"many_closing",inClass (top 47) 2),("Course.many_with",a,"many_with",inClass (top 47) 3),("Course.take",a,"take",inClass (top 47) 4),("Desk.__init__",b,"__init__",inClass (top 102) 0),("Desk.say",b,"say",inClass (top 102) 1)]
def LN:List Str:=["ValueError","all","any","bool","enumerate","int","isinstance","len","list","max","min","range","set","sorted","str","sum","zip"]
def LG(a b d:Addr):List (Str×V):=[("OPENING",tx [40,91,123,60]),("CLOSING",tx [41,93,125,62]),("KINDS", .ref a),("BRACKETS",tx [40,41,91,93,123,125,60,62]),("UNKNOWN",tx [63]),("MOST_SIGNS", .int 40),("KEPT", .int 2),("CHANGED", .int 1),("DONE",tx [111,107]),("NOTHING",tx [110,111,110,101]),("FIRST_KINDS", .int 4),("LETTERS",tx [97,98,99,100,101,102,103,104,105,106,107,108,109,110,111,112,113,114,115,116,117,118,119,120,121,122]),("MOST_LETTERS", .int 8),("FIGURES",tx [48,49,50,51,52,53,54,55,56,57]),("MOST_FIGURES", .int 9),("FORMS", .ref b),("DEEDS", .ref d)]
def LC(cs:Cs):List (Str×Addr):=[("RowError",cs.RowError),("NoKinds",cs.NoKinds),("NoLine",cs.NoLine),("NotRight",cs.NotRight),("NoTree",cs.NoTree),("NoNumber",cs.NoNumber),("NoWeights",cs.NoWeights),("NoPlace",cs.NoPlace),("NoFilling",cs.NoFilling),("TooMany",cs.TooMany),("NoName",cs.NoName),("NoRow",cs.NoRow)]
structure Txt (P:Program) (w:World) (K:W.Frag) (mg:Str->Option Value) (aK:Addr) (cs:Cs) (aC aE aF aD:Addr):Prop where
 f:AllP (FnA K mg) LF
 m:AllP (MtA K) (LM aC aE)
 n:∀x∈LN,mg x=none
 g:AllP (GlA mg) (LG aK aF aD)
 c:AllP (ClA K mg) (LC cs)
 k:FTu K aK [tx [40,41],tx [91,93],tx [123,125],tx [60,62]]
 F:NX P w K aF
 D:NY P w K mg aD
 C:Own K mg "Course" aC ["at","closings","places","rests","sums"]
 E:Own K mg "Desk" aE ["k","rows"]
 t:IR K cs=true
section
variable{K:W.Frag}{aK aC aE aF aD:Addr}{cs:Cs}{k:Nat}(T:Txt P w K mg aK cs aC aE aF aD)
set_option hygiene false
local macro_rules | `(tactic| walk_at"s") => `(tactic| first
  | with_reducible first | apply XE | apply XD | apply TK | apply Wi | apply s_try0 | apply Wr | apply Wh | apply Vd | apply s_break | apply VU | apply VT | apply Xc | apply Ws | apply W0 | apply XG | apply Vi | apply Wn | apply VD | apply Tg | apply s_truN | apply W6 | apply W4 | apply s_eqB | apply Wu | apply Wt | apply s_neB | apply Wy | apply Rv | apply Xd | apply Rw | apply U9 | apply TQ | apply Ww | apply Wv | apply VQ | apply s_intI | apply XB | apply TZ | apply s_irng2 | apply Vh | apply Tc | apply VN | apply TV | apply VR | apply Td | apply VS | apply s_rev | apply s_revI | apply s_irev | apply Wf | apply NE | apply TR | apply Vc | apply s_dget2 | apply VZ | apply Va | apply s_dinK | apply Vb | apply Wk | apply VM | apply W9 | apply W8 | apply s_slc | apply TH | apply Wg | apply Tf | apply s_LR | apply W3 | apply Xi | apply s_par | apply s_sset | apply VL | apply VI | apply VJ | apply VW | apply VX | apply Do
  | ((with_reducible apply s_irevT); (first | assumption | exact small nA))
  | ((with_reducible apply s_revT); (first | assumption | exact small nA))
  | ((with_reducible apply XC); exact rfl)
  | ((with_reducible apply TX); exact rfl)
  | ((with_reducible apply Xe); (first | (exact (show (0 : Int) < _ by lia)) | (exact ⟨by lia, by lia⟩) | (exact ⟨by decide, by decide, by decide⟩)))
  | ((with_reducible apply VH); (first | exact .inl ⟨by lia, by lia⟩ | exact .inr ⟨by lia, by lia⟩))
  | ((with_reducible apply MY); (first | assumption | exact small nA))
  | ((with_reducible apply BD); (first | exact small nA | exact small (by simp only [aG, aM, List.length_nil]; lia)))
  | ((with_reducible apply IH); (first | assumption | exact small nA | exact small (by simp only [aG, aM, List.length_nil]; lia)))
  | (with_reducible apply Wo; intro _ _ _ _ _ _)
  | refine V7 (by assumption) ?_
  | refine leaveV (by assumption) ?_
  | fail)
local macro_rules | `(tactic| walk_at"s") => `(tactic| first
  | ((with_reducible apply VA); exact rfl; exact rfl)
  | ((with_reducible apply Wp); exact rfl)
  | with_reducible first | apply VC | apply Xg | apply Vg | apply Xl | apply VF | apply VV | apply MZ | apply VE | apply U7 | apply Wx | apply Tj | apply Wz | apply Xk | apply VY | apply Wj | apply U6 | apply W2 | apply U8 | apply Xo | apply Xf | apply Wq | apply Vf | apply Te | apply TY
  | ((with_reducible apply Xj); exact rfl)
  | fail)
set_option hygiene true
local macro_rules | `(tactic| walk_at"s") => `(tactic| first
  | with_reducible apply s_c
  | ((with_reducible first | apply We | apply XA | apply Xm | apply VB | apply Xh); exact rfl)
  | with_reducible first | apply Xn | apply Ve | apply Wl | apply II | apply Wm | apply CV
  | ((with_reducible refine AL (xs := ?xs) (v := ?v) ?h ?e ?_); (case h => assumption); (case e => exact rfl))
  | fail)
local macro_rules | `(tactic| ext) => `(tactic| skip)
local macro_rules | `(tactic| ext) => `(tactic| first|(walk_at"s";ext)|fail)
local macro_rules | `(tactic| show $e:term) => `(tactic| (ext;refine $e))
local macro_rules | `(tactic| obtain ⟨$a, $b, $c, $x,*⟩ := $e:term) => `(tactic| (refine Xx λR out => ?_; rcases $e:term with ⟨$a, $b, $c, $x,*⟩ <;> (refine out ?_; clear out R)))
local macro_rules | `(tactic| and_intros) => `(tactic| exact λ_ _ _ _ _ _ => by first | exact us2 λ_ _ => rfl | exact us1 λ_ => rfl | exact us3 λ_ _ _ => rfl | exact us4 λ_ _ _ _ => rfl | exact us0 rfl)
include T
theorem Txt.N(i:Nat)(h:LN[i]? =some x:=by rfl):mg x=none:=T.n x (bV h)
theorem JM:FuV P w K mg base (k+1) "is_whole" ["thing"] (spWhole K):=FnA.u (T.f.at 0) (scN ["thing"]) λnd _ _ h=>by
 obtain⟨x,ty,rfl,a,e,q⟩:=h;refine⟨_,(AE (AK (EY (Aj (Dc K) rfl (T.N 6) nb (AA (pv 0) (AA (Dp (T.N 5) ni) AB))) (DO (Mg (Aj (Dc K) rfl (T.N 6) nb (AA (pv 0) (AA (Dp (T.N 3) PyProof.Rows.boot_bool) AB)))))))),?_⟩;ext;have d:ty="NoneType"\/ty="bool"\/ty="int"\/ty="str"\/ty="list"\/ty="tuple"\/ty="dict":=by simpa[CB]using e
 rcases d with rfl|rfl|rfl|rfl|rfl|rfl|rfl
 ·refine Bq (b:=false) a nE (CV (Ew ?_));exact q
 ·refine Bq (b:=true) a nE (CV (Cu ?_));show Bq (b:=true) a nE (CV ?_);exact q
 ·refine Bq (b:=true) a nE (CV (Cu ?_));show Bq (b:=false) a nE (CV ?_);exact q
 ·refine Bq (b:=false) a nE (CV (Ew ?_));exact q
 ·refine Bq (b:=false) a nE (CV (Ew ?_));exact q
 ·refine Bq (b:=false) a nE (CV (Ew ?_));exact q
 ·refine Bq (b:=false) a nE (CV (Ew ?_));exact q
theorem JB:Am P w K mg base (k+2) "check_kinds" ["k"] (Rq K cs):=FnA.uE (T.f.at 1) (scN ["k"]) λnd H d h=>by
 refine⟨_,(AE (AV (PW.pt (BS (BR (A6 K (AM (JM T) d (AA (pv 0) AB)))) (Bc (BR (FG CT CT AC (pv 0) (Al K (T.N 7) (AA (Ai (T.g.at 2)) AB))))))) (AE (DI (T.c.at 1).2 (T.c.at 1).1 d.hd DR (AA DA AB))) AW)),?_⟩;rcases h with⟨x,rfl,b,h2,q⟩|⟨v,rfl,⟨ty,hT,hp,hi⟩,r⟩
 ·show Jn ?_;show ifq rfl ?_;show ifp (ba b) ?_;show BJ (.inr T.k.sq) ?_;show ifq (by simp;lia) ?_;ext;exact q
 ·show⟨v,ty,rfl,hT,hp,?_⟩;ext
  by_cases e:ty="int"
  ·subst e;obtain⟨i,rfl⟩:=hT.int_of rfl
   ·have hi:=hi i rfl;rw[ba rfl];refine ifq rfl ?_;ext
    by_cases b:1<=i
    ·refine ifp (ba b) ?_;show BJ (.inr T.k.sq) ?_;show ifp (by simp;lia) ?_;ext;exact⟨small nv,λy a=>r y H (Same.refl H) a⟩
    ·refine ifq (aX b) ?_;show ifp rfl ?_;ext;exact⟨small nv,λy a=>r y H (Same.refl H) a⟩
  ·rw[aX e];refine ifp rfl ?_;show ifp rfl ?_;ext;exact⟨small nv,λy a=>r y H (Same.refl H) a⟩
theorem Je:Am P w K mg base (k+3) "is_line" ["k","thing"] (LY K cs):=FnA.uE (T.f.at 2) (scN ["k","thing","signs"]) λnd H M h=>by
 refine⟨_,(AD (Ax (Ac (JB T) M A3 (AA (pv 0) AB))) (AD (AV (PW.pt (BS (BR (A6 K (Aj (Dc K) rfl (T.N 6) nb (AA (pv 1) (AA (Dp (T.N 14) nj) AB))))) (Bc (AR CF (Al K (T.N 7) (AA (pv 1) AB)) (Ai (T.g.at 5)))))) (AE (AK B0)) AW) (AD (CM (i:=2) nd rfl (Or.inr rfl) (AG AN (AG AN (Aw (A0 K) (Ai (T.g.at 0)) Az (Ay (pv 0))) (Aw (A0 K) (Ai (T.g.at 1)) Az (Ay (pv 0)))) (Ai (T.g.at 4)))) (AE (AK (Aj (D9 K rfl) rfl (T.N 1) PyProof.Rows.boot_all (AA (A1 (own:=["sign"]) (sel:=[2]) (Au (osc:=(AU (top 22))) (N:=["k","thing","signs"]) nB) rfl (CN (pv 1)) (λ_ _ _ _ _=>(Af (i:=0) (show(["sign","signs"]:List Str).Nodup from by decide +kernel) rfl (kP rfl))) (Ak nv) (λ_ _ _ _ _=>A2) (λ_ _ _ _ _=>(BH (Ck K) (pv 0) (pv 1) nE))) AB))))))),?_⟩;rcases h with⟨kk,x,rfl,h1,h2,hx⟩|⟨kv,v,rfl,hk,r⟩
 rotate_left
 ·ext;exact .inr ⟨kv,rfl,hk,r.pass (Same.refl H)⟩
 ·show .inl (J8 h1 h2 ?_);ext;rcases hx with⟨a,rfl,ha,q⟩|⟨ty,hT,hp,hs,q⟩
  ·refine Bq (b:=true) (TyOf.str _) nE ?_;show ifq rfl ?_;show ifd (λQ=>?_) (λQ=>?_)
   ·ext;have e:AQ kk a=false:=by unfold AQ;rw[aX nA,Bool.false_and]
    have:=q H (Same.refl H);rw[e]at this;exact this
   ·ext;rw[Be _ nA,Be _ nA];have X:((([40,91,123,60]:List Nat)).take kk.toNat).length<=4:=by rw[cc];exact Nat.min_le_right _ _
    have Y:((([41,93,125,62]:List Nat)).take kk.toNat).length<=4:=by rw[cc];exact Nat.min_le_right _ _
    first|refine BD (small nA) ?_ |skip
    ext
    first|refine BD (small (by rw[aG,f9];lia)) ?_ |skip
    show B5 (n:=a.length) (λD i y j=>y=((a.take i).map λc=>V.bl (decide (c∈sgn kk)))/\SameBut1 D H j) (λD B=>⟨rfl,SameBut1.of (AJ B _)⟩) (λD i y j _ hi _ _=>by simpa[Its]using hi) (λD y j B d L ⟨e,G⟩=>⟨by simp[Its],?_⟩) ?_
    ·rw[dD]at e;subst e;have R:SqL K j D ((a.map λc=>decide (c∈sgn kk)).map V.bl):=by
      rw[d4];exact SqL.of d
     refine Ek R ?_;have S:((a.map λc=>decide (c∈sgn kk)).all id)=AQ kk a:=by
      unfold AQ;rw[ba nA,Bool.true_and,List.all_map]
      rfl
     rw[S];exact q j λb o z=>G b o z (AS z B)
    ·rintro D i y j x Z B hi d L ⟨e,G⟩ ⟨rfl,c,U,rfl⟩;have I:a[i]? =some c:=by simpa using U
     show BG 0 (tx [c]) _ _ _;show Cu ?_;show Bj hi (small nA) d L ⟨?_,G.trans SameBut1.upd⟩;rw[e,List.take_add_one,I];simp only[Option.toList_some,bv,List.map_cons,List.map_nil]
     rfl
  ·have J:ty="NoneType"\/ty="bool"\/ty="int"\/ty="list"\/ty="tuple"\/ty="dict":=by
    have:ty="NoneType"\/ty="bool"\/ty="int"\/ty="str"\/ty="list"\/ty="tuple"\/ty="dict":=by simpa[CB]using hp
    rcases this with z|z|z|z|z|z|z
    ·exact .inl z
    ·exact .inr (.inl z)
    ·exact .inr (.inr (.inl z))
    ·exact absurd z hs
    ·exact .inr (.inr (.inr (.inl z)))
    ·exact .inr (.inr (.inr (.inr (.inl z))))
    ·exact .inr (.inr (.inr (.inr (.inr z))))
   have fin:W.kitOne K (.type ty) (.type "str")=some false:=by
    rcases J with rfl|rfl|rfl|rfl|rfl|rfl<;>with_unfolding_all rfl
   refine Bq (b:=false) hT fin ?_;show ifp rfl ?_;show ifp rfl ?_;ext;exact q
theorem Ca:Am P w K mg base (k+4) "check_line" ["k","row"] (HG K cs spCheckLine):=FnA.uE (T.f.at 3) (scN ["k","row"]) λnd H b h=>by
 refine⟨_,(AE (AV (BR (A6 K (Ac (Je T) b A3 (AA (pv 0) (AA (pv 1) AB))))) (AE (DI (T.c.at 2).2 (T.c.at 2).1 b.hd DR (AA DA AB))) AW)),?_⟩;rcases h with⟨kk,a,rfl,h1,h2,ha,q⟩|⟨kv,v,rfl,⟨hk,r⟩|⟨kk,rfl,h1,h2,hn,r⟩⟩
 ·have x:=An ha;show .inl (Kz h1 h2 nA (λe i=>?_));show ifq (by rw[ha];rfl) ?_;ext;exact q e i
 ·ext;exact .inr ⟨kv,v,rfl,hk,r.pass (Same.refl H)⟩
 ·show QG h1 h2 hn (λj d=>?_);show ifp rfl ?_;ext;exact⟨small nv,λy o=>r y j d (d.free o)⟩
set_option tactic.hygienic true in
theorem QB:FuV P w K mg base (k+1) "matched" ["row"] (spMatched):=FnA.u (T.f.at 4) (scN ["row","found","waiting","at","sign","start"]) λnd H hr h=>by
 obtain⟨a,rfl,ha,q,q'⟩:=h;have hu:=hr.units0;refine⟨_,(AD (AO 1 (AG BX (Aa (AA AC AB)) (Al K (T.N 7) (AA (pv 0) AB)))) (AD (AO 2 (Aa AB)) (AD (A9 nh rfl (SD rfl (T.N 4) (AA (pv 0) AB)) (By (n:=2) K rfl (As (Ah 3) (As (Ah 4) Bm))) (AD (AV (AR (Ck K) (pv 4) (Ai (T.g.at 0)) nE) (AD (Ax (A7 K ng no nk B4 (pv 2) (AA (pv 3) AB))) (AE O8)) AW) (AD (AV (PW.pt (BS (BR (A6 K (pv 2))) (Bc (AR (E8 K) (AG AN (AH K (pv 0) (AH K (pv 2) (Bf BZ AC))) (pv 4)) (Ai (T.g.at 2)) nE)))) (AE (AK Aq)) AW) (AD (AO 5 (HR K ng PySem.F.slot_list_pop PySem.F.type_list_pop Hu (pv 2))) (AD (Bo (pv 3) (CO (pv 1) (pv 5) BW)) (AE (Bo (pv 5) (CO (pv 1) (pv 3) BW)))))))) (AE (AK (BL (A6 K (pv 2)) Aq (pv 1))))))),?_⟩;show⟨small (n:=1) nv,λp0 J=>?_⟩;show Ei AF nA nA (small (by simp;lia)) (λL M=>?_);rw[d0,XU];show⟨small (n:=0) nv,λwa Q=>?_⟩;ext;have sH:Same H (upd (upd (upd H p0 (.lst [.int 0])) L (.lst (List.replicate a.length (V.int 0)))) wa (.lst [])):=(AJ J _).trans ((AJ M _).trans (AJ Q _));have B:L≠wa:=AS AF Q;have R:H L=none:=(AJ J _).free M;have hHw:H wa=none:=(AJ J _).free ((AJ M _).free Q);refine Ug (λi σ H'=>∃ (st ws:List Nat) (S:List V) (o3 o4 o5:Option V),σ=[some (tx a),some (.ref L),some (.ref wa),o3,o4,o5]/\MI a i st ws S/\H' L=some (.lst S)/\H' wa=some (.lst (ws.reverse.map fun(w:Nat)=>V.int w))/\Same H H') ⟨[],[],List.replicate a.length (V.int 0),_,_,_,rfl,MI.start a nC,?_,AF,sH⟩ ?_ ?_
 ·rw[AI B,AF]
 ·intro i c σ H1 tt hc ht z_;obtain⟨st,ws,S,o3,o4,o5,rfl,m,U,X,Y⟩:=z_;have hi:i<a.length:=(az.mp hc).1;have s2:Same H1 (upd H1 tt (.tup [.int i,tx [c]])):=AJ ht _;have hf2:=s2 _ _ U;have y:=s2 _ _ X;have hwl:ws.length<=40:=by
   have e1:=m.wk.len;have e2:=IU m.rn;have:∀l:List Nat,hg l<=l.length:=by
    intro l
    induction l with
    |nil=>simp[hg]
    |cons d r ih=>rw[hg,aM];unfold sg;split<;>lia
   have e3:=this (a.take i);unfold BrM.ht at e2;rw[cc]at e3;lia
  refine DL (SqT.of AF) rfl ?_;show ifd (λho=>?_) (λho=>?_)
  ·show⟨.inl ⟨rfl,_,SqL.of y⟩,?_⟩;show⟨wa,_, .int i,rfl,rfl,y,DG (by simp;lia),?_⟩;show⟨_,i::ws,S,_,_,_,rfl,m.opens hc ho,?_,?_,?_⟩
   ·rw[AI B];exact hf2
   ·rw[AF];simp
   ·intro b o z;rw[AI (AS z hHw)];exact s2 b o (Y b o z)
  ·show ET (SqL.of y) ?_;have ho:c∉opn:=ho;have hne:∀ (hn:¬ (∃w I r,ws=w::I/\st=c::r)),¬Rt a:=by
    intro hn hR;obtain⟨s',e⟩:=Rz hR (i+1);rw[Gh m.rn hc]at e;unfold BrM.stp at e;rw[aB ho]at e
    cases st with
    |nil=>cases e
    |cons d r=>
     simp only at e
     split at e
     ·rename_i hd
      cases ws with
      |nil=>have:=m.wk.len;simp at this
      |cons w I=>exact hn ⟨w,I,r,rfl,by rw[hd]⟩
     ·cases e
   cases ws with
   |nil=>
    refine ifp rfl ?_;ext;exact q' (hne (by rintro⟨_,_,_,z,_⟩;cases z)) _ (Y.trans s2)
   |cons w I=>
    refine ifq nC ?_;obtain⟨cw,r,hcw,hcwo,rfl,hwi⟩:=m.top;have hwa':w<a.length:=by lia
    have x:((w::I).reverse.map fun(w:Nat)=>V.int w)=(I.reverse.map fun(w:Nat)=>V.int w)++[V.int w]:=by simp
    have hl2:atI ((w::I).reverse.map fun(w:Nat)=>V.int w) (-1)=some (.int w):=by rw[x];exact LK _ _
    walk_at"s";walk_at"s";walk_at"s";walk_at"s";walk_at"s";walk_at"s";show AL (SqL.of y) hl2 ?_;refine BO (small nA) (AT hcw) ?_;show Ko (.inr T.k.sq) rfl rfl ?_;have ek:inV (tx ([cw]++[c])) [tx [40,41],tx [91,93],tx [123,125],tx [60,62]]=decide (c=clo cw):=Sa hcwo;rw[ek];show ifn (λZ=>?_) (λZ=>?_)
    ·ext;exact q' (hne (by rintro⟨_,_,_,_,z⟩;injection z with z _;exact Z z.symm)) _ (Y.trans s2)
    ·show⟨.inl ⟨rfl,_,SqL.of y⟩,?_⟩;refine⟨wa,_, .int w,rfl,rfl,y,?_,?_⟩
     ·rw[x];simp
     ·ext;have hf3:(upd (upd H1 tt (.tup [.int i,tx [c]])) wa (.lst ((w::I).reverse.map fun(w:Nat)=>V.int w).dropLast)) L=some (.lst S):=by rw[AI B];exact hf2
      have hxl:=m.len;refine Ba (j:=w) hf3 (by simp[ixN];lia) ?_;show Ba (j:=i) AF (by simp[ixN];lia) ?_;show⟨r,I,_,_,_,_,rfl,MI.closes (c:=c) (by rw[Z];exact m) hc ho,AF,?_,?_⟩
      ·rw[AI B.symm,AI B.symm,AF,x];simp
      ·intro b o z;rw[AI (AS z R),AI (AS z R),AI (AS z hHw)];exact s2 b o (Y b o z)
 ·intro σ H1 z_;obtain⟨st,ws,S,o3,o4,o5,rfl,m,U,X,Y⟩:=z_;have G:=m.rn;rw[dD]at G;show ET (SqL.of X) ?_;have hl:=m.wk.len
  cases ws with
  |nil=>
   refine ifq rfl ?_;ext
   cases st with
   |nil=>exact q G L S H1 R Y U m.fin
   |cons d r=>simp at hl
  |cons w I=>
   refine ifp nC ?_;show q' (λhR=>?_) H1 Y;have hR':run [] a=some []:=hR;rw[G]at hR'
   cases hR'
   simp at hl
theorem GB:Am P w K mg base (k+5) "is_right" ["k","row"] (HG K cs spRightP):=FnA.uE (T.f.at 5) (scN ["k","row"]) λnd H e h=>by
 refine⟨_,(AD (Ax (Ac (Ca T) e A3 (AA (pv 0) (AA (pv 1) AB)))) (AE (AK (BH Qm (AM (QB T) e (AA (pv 1) AB)) Aq)))),?_⟩;rcases h with⟨kk,a,rfl,h1,h2,ha,q⟩|⟨kv,v,rfl,g⟩
 rotate_left
 ·ext;exact .inr ⟨kv,v,rfl,g.pass (Same.refl H)⟩
 have j:=An ha;show .inl (B2 h1 h2 ha (λz i=>?_));show Pa j (λo r B b x d G I=>?_) (λy b d=>?_)
 ·ext;have:=q b (i.trans d);rw[ba o]at this;exact this
 ·ext;have:=q b (i.trans d);rw[aX y]at this;exact this
theorem OM:FuV P w K mg base (k+1) "weighed_places" ["row","weights"] (spWeighed K):=FnA.u (T.f.at 6) (scN ["row","weights"]) λnd _ hr h=>by
 obtain⟨a,p,B,rfl,ha,Z,hw,q⟩:=h;have hu:=hr.units0;refine⟨_,(AE (AK (A1 (own:=["sign"]) (sel:=[1]) (Au (osc:=(AU (top 27))) (N:=["row","weights"]) nB) rfl (CN (pv 0)) (λ_ _ _ _ _=>(Af (i:=0) (show(["sign","weights"]:List Str).Nodup from by decide +kernel) rfl (Or.inr rfl))) (Ak nv) (λ_ _ _ _ _=>A2) (λ_ _ _ _ _=>(BL (AR (Ag K hu) (pv 0) (Ai (T.g.at 4))) (A5 (QQ K) rfl (T.N 8) PyProof.Rows.boot_list (AA (pv 1) AB)) (A1 (own:=["bracket"]) (sel:=[0]) (KN (osc:=(AU (top 27))) (N:=["sign","weights"]) rfl rfl nB) rfl (CN (Aw (A0 K) (Ai (T.g.at 3)) Az (Ay (Al K (T.N 7) (AA (pv 1) AB))))) (λ_ _ _ _ _=>(Af (i:=0) (show(["bracket","sign"]:List Str).Nodup from by decide +kernel) rfl (kP rfl))) (Ak nv) (λ_ _ _ _ _=>A2) (λ_ _ _ _ _=>(A5 Cd rfl (T.N 5) ni (AA (BH (Ag K hu) (pv 1) (pv 0)) AB))))))))),?_⟩;show G0 (small nA) (λD i H G=>∃d:Nat->Addr,H=(aw i).map (λj=>V.ref (d j))/\∀j,j<i->G (d j)=some (iL (plw B (a.getD j 0)))/\d j≠D)
  (λD _=>⟨λ_=>D,rfl,λj x=>absurd x nA⟩) (λD i H H1 I _ ⟨d,e,y⟩ L=>⟨d,e,λj x=>⟨L _ _ (y j x).1 (y j x).2,(y j x).2⟩⟩)
  (λD H G hD M _ J ⟨d,e,y⟩=>?_) ?_
 ·subst e;refine q D G hD J ⟨d,by rw[ax];exact M,λi hi=>?_⟩;rw[ax]at hi;have eg:(a.map (plw B)).getD i []=plw B (a.getD i 0):=by
   simp only[af,am,ai hi];rfl
  rw[eg];exact(y i hi).1
 ·rintro D i H G R hD hi M hl J ⟨d,e,y⟩ r;have fin:∀l H6,G l=none->Same G H6->H6 l=some (iL (plw B (a.getD i 0)))->R (.ref l) H6:=by
   intro l H6 o s6 h6;have Q:l≠D:=λz=>by rw[z,M]at o;cases o
   refine r _ _ s6 ⟨λj=>if j=i then l else d j,?_,λj x=>?_⟩
   ·subst e;rw[List.range_succ,bv];congr 1
    ·refine dw λj x=>?_;have:=List.mem_range.mp x;show V.ref (d j)=V.ref (if j=i then l else d j);rw[aB nA]
    ·simp
   ·by_cases ej:j=i
    ·subst ej;simp only[if_true];exact⟨h6,Q⟩
    ·simp only[aB ej];obtain⟨a1,a2⟩:=y j nA;exact⟨s6 _ _ a1,a2⟩
  show ifd (λS=>?_) (λS=>?_)
  ·show TU (J.seq Z) (λl o=>?_);refine fin l _ o (AJ o _) ?_;have U:a.getD i 0=63:=by simpa using S
   rw[AF];unfold plw;rw[aO U]
  ·have X:¬ (a.getD i 0=63):=by simpa using S
   show BJ (.inl (J.seq Z)) ?_;ext;have el:(((B.map V.int).length:Nat):Int)=(B.length:Int):=by rw[ax]
   rw[el,Be _ nA,d0];show KZ (λb=> .int (if a.getD i 0=b then 1 else 0)) (small (by rw[cc];exact Nat.le_trans (Nat.min_le_right _ _) nv)) (λD2 I Y s2 h2=>?_) (λi2 c I R2 hc2 s2 r2=>?_)
   ·refine fin D2 I Y s2 ?_;rw[h2];unfold plw;rw[aB X];show some (HO.lst _)=some (HO.lst (List.map V.int (List.map _ _)));rw[d4]
    rfl
   ·ext;have eb:(if(decide ([a.getD i 0]=[c]))=true then(1:Int)else 0)=if a.getD i 0=c then 1 else 0:=by
     by_cases z:a.getD i 0=c<;>simp[z]
    rw[eb];exact r2 I (Same.refl _)
theorem E4:FuV P w K mg base (k+2) "counted_places" ["k","row"] (spCounted):=FnA.u (T.f.at 7) (scN ["k","row"]) λnd H j h=>by
 obtain⟨b,a,rfl,L,M,o,q⟩:=h;refine⟨_,(AE (AK (AM (OM T) j (AA (pv 1) (AA (AG BX (Aa (AA AC AB)) (AG BX AC (pv 0))) AB))))),?_⟩;show⟨small (n:=1) nv,λz x=>?_⟩;ext;have e:(2*b).toNat=2*b.toNat:=by lia
 refine Ei (xs:=[.int 1]) AF nA nA (small (by rw[f9,e];lia)) (λp y=>?_);ext;have B:(List.replicate (2*b).toNat [V.int 1]).flatten=(ones b.toNat).map V.int:=by rw[e,R3]
 rw[B]at*
 have i:Same H (upd (upd H z (.lst [.int 1])) p (.lst ((ones b.toNat).map V.int))):=(AJ x _).trans (AJ y _);refine O3 o (SqL.of AF) (by rw[List.length_replicate];lia) (λr G d I J=>?_);exact q r G (i.free d) (i.trans I) J
theorem JK:FuV P w K mg base (k+1) "pair_sum" ["first","last"] (spPair):=FnA.u (T.f.at 8) (scN ["first","last"]) λnd _ o h=>by
 obtain⟨p,q,x,y,kk,rfl,d,z,B,Q,hk,e,j,r⟩:=h;have S:=o.units0;refine⟨_,(AE (AK (Aj (FC K rfl) rfl (T.N 15) PyProof.Rows.boot_sum (AA (A1 (own:=["opening"]) (sel:=[0,1]) (Au (osc:=(AU (top 29))) (N:=["first","last"]) nB) rfl (B3 rfl (T.N 11) (AA AC (AA (Al K (T.N 7) (AA (pv 0) AB)) (AA AC AB)))) (λ_ _ _ _ _=>(Af (i:=0) (show(["opening","first","last"]:List Str).Nodup from by decide +kernel) rfl (kP rfl))) (Ak nv) (λ_ _ _ _ _=>A2) (λ_ _ _ _ _=>(AG BV (AH K (pv 1) (pv 0)) (AH K (pv 2) (AG AN (pv 0) AC))))) AB)))),?_⟩;show BJ (.inl (SqL.of d)) ?_;ext;have G:(((x.map V.int).length:Nat):Int)=((2*kk:Nat):Int):=by rw[ax,B]
 rw[G];refine⟨0,((2*kk:Nat):Int),2,rfl,⟨by decide,by decide,CH nv nv nA nA⟩,?_⟩;have H:rN 0 ((2*kk:Nat):Int) 2=kk:=by rw[CL];lia
 rw[H];refine Jo (λi=> .int (x.getD (2*i) 0*y.getD (2*i+1) 0)) (small nA) (λD a U b I=>?_) (λi a R hi b J=>?_)
 ·have ns:SqL K a D (((aw kk).map λi=>x.getD (2*i) 0*y.getD (2*i+1) 0).map V.int):=by rw[d4];exact SqL.of I
  refine Fl ns ?_;rw[E7];exact r a b
 ·ext;have L:(0+((i:Nat):Int)*2)=((2*i:Nat):Int):=by lia
  rw[L];refine AL (SqL.of (b _ _ d)) (v:= .int (x.getD (2*i) 0)) (AT (int_at nA)) ?_;ext;have M:(((2*i:Nat):Int)+1)=((2*i+1:Nat):Int):=by lia
  rw[M];refine AL (SqL.of (b _ _ z)) (v:= .int (y.getD (2*i+1) 0)) (AT (int_at nA)) ?_;refine Bb (BA (e.at _).1 (e.at _).2 DJ) (BA (j.at _).1 (j.at _).2 DJ) ?_;exact J a (Same.refl _)
theorem Jd:FuV P w K mg base (k+1) "no_sums" ["many"] (spNoSums):=FnA.u (T.f.at 9) (scN ["many"]) λnd H hr h=>by
 obtain⟨n,rfl,hn,q⟩:=h;have hu:=hr.units0;refine⟨_,(AE (AK (A1 (own:=["start"]) (sel:=[0]) (Au (osc:=(AU (top 30))) (N:=["many"]) nB) rfl (CA rfl (T.N 11) (AA (AG AN (pv 0) AC) AB)) (λ_ _ _ _ _=>(Af (i:=0) (show(["start","many"]:List Str).Nodup from by decide +kernel) rfl (kP rfl))) (Ak nv) (λ_ _ _ _ _=>A2) (λ_ _ _ _ _=>(AG BX (Aa (AA AC AB)) (AG AN (pv 1) AC)))))),?_⟩;show⟨_,rfl,by lia,by lia,?_⟩;have L:((n:Int)+1).toNat=n+1:=by lia
 rw[L];refine HA (small nA) (λD i J x=>∃a:Nat->Addr,J=(aw i).map (λj=>V.ref (a j))/\(∀j,j<i->x (a j)=some (.lst (rwl n λ_=>0))/\H (a j)=none/\a j≠D)/\∀j y,j<i->y<i->a j=a y->j=y)
  (λD _=>⟨λ_=>D,rfl,λj b=>absurd b nA,λj _ b=>absurd b nA⟩) (λD i J H1 H2 _ ⟨a,e,d,G⟩ M=>⟨a,e,λj b=>⟨M _ _ (d j b).1 (d j b).2.2,(d j b).2⟩,G⟩)
  (λD J x hD Q _ S ⟨a,e,d,G⟩=>?_) ?_
 ·subst e;exact q D a x ⟨hD,λi hi=>(d i nA).2.1,λi hi=>(d i nA).2.2,λi j hi b=>G i j nA nA,Q,λi hi=>(d i nA).1,S⟩
 ·rintro D i J x R hD hi Q hl S ⟨a,e,d,G⟩ r;show⟨small (n:=1) nv,λz hz=>?_⟩;show Ei (xs:=[.int 0]) AF nA nA (small (by rw[f9,L];lia)) (λp I=>?_);have U:p≠z:=λw=>by rw[w,AF]at I;cases I
  have o:x p=none:=by rw[AI U]at I;exact I
  have X:p≠D:=λw=>by rw[w,Q]at o;cases o
  have sp:Same x (upd (upd x z (.lst [.int 0])) p (.lst (List.replicate ((n:Int)+1).toNat [V.int 0]).flatten)):=(AJ hz _).trans (AJ I _);refine r _ _ sp ⟨λj=>if j=i then p else a j,?_,?_,?_⟩
  ·subst e;rw[List.range_succ,bv];congr 1
   ·refine dw λj b=>?_;have:=List.mem_range.mp b;show V.ref (a j)=V.ref (if j=i then p else a j);rw[aB nA]
   ·simp
  ·intro j b
   by_cases ej:j=i
   ·subst ej;simp only[if_true];refine⟨?_,?_,X⟩
    ·rw[AF,L,R1]
    ·exact S.free o
   ·simp only[aB ej];obtain⟨a1,a2,a3⟩:=d j nA;exact⟨sp _ _ a1,a2,a3⟩
  ·intro j y b hj' B;have nq:∀j,j<i->a j≠p:=λj b w=>by have:=(d j b).1;rw[w,o]at this;cases this
   by_cases Y:j=i<;>by_cases Z:y=i
   ·lia
   ·simp only[aO Y,aB Z]at B;exact absurd B.symm (nq y nA)
   ·simp only[aB Y,aO Z]at B;exact absurd B (nq j nA)
   ·simp only[aB Y,aB Z]at B;exact G j y nA nA B
theorem E6:FuV P w K mg base (k+2) "span_sums" ["places"] (LV):=FnA.u (T.f.at 10) (scN ["places","many","sums","start","end","first_part","stop"]) λnd H hr h=>by
 obtain⟨p,d,B,rfl,hP,hn,hk,hl,q⟩:=h;have hu:=hr.units0;have X:∀l∈d,Sm l:=λl z=>(hl l z).2;obtain⟨pa,Y,hpa⟩:=id hP;refine⟨_,(AD (AO 1 (Al K (T.N 7) (AA (pv 0) AB))) (AD (AO 2 (AM (Jd T) hr (AA (pv 1) AB))) (AD (A9 nh rfl (B3 rfl (T.N 11) (AA (pv 1) (AA (Bf BZ AC) (AA (Bf BZ AC) AB)))) (Ah 3) (AD (Bo AC (CO (AH K (pv 2) (pv 3)) (pv 3) BW)) (AE (A9 nh rfl (B3 rfl (T.N 11) (AA (AG AN (pv 3) AC) (AA (pv 1) (AA AC AB)))) (Ah 4) (AD (AO 5 (AG BV (AM (JK T) hr (AA (AH K (pv 0) (pv 3)) (AA (AH K (pv 0) (pv 4)) AB))) (AH K (AH K (pv 2) (AG AN (pv 3) AC)) (pv 4)))) (AE (A9 nh rfl (B3 rfl (T.N 11) (AA (AG AN (pv 4) AC) (AA (AG AN (pv 1) AC) (AA AC AB)))) (Ah 6) (AE (EJ (AH K (pv 2) (pv 3)) (pv 6) (D7 K) (AG BV (pv 5) (AH K (AH K (pv 2) (AG AN (pv 4) AC)) (pv 6))) DC BW))))))))) (AE (AK (pv 2)))))),?_⟩;show BJ (.inl (SqL.of Y)) ?_;have en:((((aw d.length).map λi=>V.ref (pa i)).length:Nat):Int)=(d.length:Int):=by rw[ax,cY]
 rw[en];generalize hN:d.length=n at*
 show Jf hn (λZ ad H1 tb1=>?_);show⟨n,-1,-1,rfl,⟨by decide,by decide,JZ (.inl rfl) nA nA nv nv⟩,?_⟩;have er:rN (n:Int) (-1) (-1)=n+1:=by rw[Lk];lia
 rw[er];have place:∀ {L:Hp} {i:Nat},Same H L->i<n->∃l,L (pa i)=some (iL l)/\l.length=2*B/\Sm l/\∀b,PP d i b=l.getD b 0:=by
  intro L i sH hi;have e:d[i]? =some d[i]:=ai nA;have eg:d.getD i []=d[i]:=by rw[af,e];rfl
  refine⟨d[i],?_,(hl _ (dF _)).1,(hl _ (dF _)).2,λb=>by show(d.getD i []).getD b 0=_;rw[eg]⟩;have:=sH _ _ (hpa i nA);rw[eg]at this;exact this
 have pix:∀ {i:Nat},i<n->((aw n).map λi=>V.ref (pa i))[i]? =some (.ref (pa i)):=fun{i} hi=>by rw[am,aU hi];rfl
 refine CI (λt σ L=>∃o3 o4 o5 Q,σ=[some (.ref p),some (.int n),some (.ref Z),o3,o4,o5,Q]/\Tb H L Z ad n (λi j=>if n<i+t then tbl (PP d) B i j else 0)) ?_ ?_ ?_
 ·exact⟨_,_,_,_,rfl,tb1.congr λi j hi hj=>by rw[aB nA]⟩
 rotate_left
 ·intro σ L z_;obtain⟨o3,o4,o5,Q,rfl,tb⟩:=z_;ext;exact q Z ad L (tb.congr λi j hi hj=>by rw[aO nA])
 intro t σ H2 ht z_;obtain⟨o3,o4,o5,Q,rfl,R⟩:=z_;obtain⟨a,est⟩:∃a:Nat,a+t=n:=⟨n-t,by lia⟩;have e1:((n:Int)+(t:Int)* -1)=(a:Int):=by lia
 rw[e1];show AL (SqL.of R.top) (AT (R.at (i:=a) nA)) ?_;show Ba (R.row a nA) (j:=a) (by rw[Ce];unfold ixN;rw[aO nA,aO nA];simp) ?_;have tb3:=(R.set (i:=a) (j:=a) (v:=1) nA).congr (T':=λi j=>if a<i then tbl (PP d) B i j else if i=a then part (PP d) B a 0 j else 0) (λi j hi hj=>by
  by_cases I:i=a
  ·subst I;rw[aB (Nat.lt_irrefl _),aO rfl,Qj]
   by_cases G:j=i
   ·rw[aO ⟨rfl,G⟩,aO G]
   ·rw[aB (λz=>G z.2),aB G,aB nA]
  ·rw[aB (λz=>I z.1)]
   by_cases G:a<i
   ·rw[aO nA,aO G]
   ·rw[aB nA,aB G,aB I])
 generalize upd H2 (ad a) _=H3 at tb3;clear R;show⟨_,_,2,rfl,⟨by decide,by decide,CH nA nA nA nA⟩,?_⟩;have er2:rN ((a:Int)+1) n 2=(n-a)/2:=by rw[CL];lia
 rw[er2];refine CI (λq' σ L=>∃o4 o5 Q,σ=[some (.ref p),some (.int n),some (.ref Z),some (.int a),o4,o5,Q]/\Tb H L Z ad n (λi j=>if a<i then tbl (PP d) B i j else if i=a then part (PP d) B a q' j else 0)) ?_ ?_ ?_
 ·exact⟨_,_,_,rfl,tb3⟩
 rotate_left
 ·intro σ L z_;obtain⟨o4,o5,Q,rfl,tb⟩:=z_;show⟨_,_,_,_,rfl,tb.congr λi j hi hj=>?_⟩
  by_cases G:a<i
  ·rw[aO G,aO nA]
  ·by_cases I:i=a
   ·subst I;rw[aB G,aO rfl,aO nA];exact SN hj
   ·rw[aB G,aB I,aB nA]
 intro q' σ H4 hq' z_;obtain⟨o4,o5,Q,rfl,M⟩:=z_;obtain⟨en',hen⟩:∃e:Nat,e=a+1+2*q':=⟨_,rfl⟩;have e2:((a:Int)+1+(q':Int)*2)=(en':Int):=by lia
 have hen2:en'<n:=by lia
 rw[e2];ext;obtain⟨x,hx,lx,sx,ex⟩:=place M.sm (show a<n by lia);obtain⟨y,hy,ly,sy,ey⟩:=place M.sm (show en'<n by lia);refine AL (SqL.of (M.sm _ _ Y)) (AT (pix (i:=a) nA)) ?_;show AL (SqL.of (M.sm _ _ Y)) (AT (pix (i:=en') nA)) ?_;show Ku hx hy lx ly hk sx sy (λH5 s5=>?_);have epr:sm B (λo=>x.getD (2*o) 0*y.getD (2*o+1) 0)=pr (PP d) B a en':=by
  unfold pr;exact BK B λo _=>by rw[ex,ey]
 rw[epr];have S:=M.same s5;clear M;have e3:((a:Int)+1)=((a+1:Nat):Int):=by lia
 ext;rw[e3];refine AL (SqL.of S.top) (AT (S.at (i:=a+1) nA)) ?_;show AL (SqL.of (S.row (a+1) nA)) (AT (Bl (j:=en') nA)) ?_;have ev:(if a<a+1 then tbl (PP d) B (a+1) en' else if a+1=a then part (PP d) B a q' en' else 0)=cv (PP d) B (2*q') (a+1) []:=by
  rw[aO nA];unfold tbl;rw[aO nA,show en'-(a+1)=2*q' by lia]
 rw[ev];have b1:=Vs hk X a en';have b2:=Ff hk X (n:=2*q') nA (a+1) [];refine Bb (BA b1.1 b1.2 Mc) (BA b2.1 b2.2 FX) ?_;have b3:0<=pr (PP d) B a en'*cv (PP d) B (2*q') (a+1) []:=Int.mul_nonneg b1.1 b2.1;have b4:pr (PP d) B a en'*cv (PP d) B (2*q') (a+1) []<=4*(top30*top30)*cap:=Int.mul_le_mul b1.2 b2.2 b2.1 nv;show⟨_,_,2,rfl,⟨by decide,by decide,CH nA nA nA nA⟩,?_⟩;have er3:rN ((en':Int)+1) ((n:Int)+1) 2=(n+1-en')/2:=by rw[CL];lia
 rw[er3];refine CI (λr σ L=>∃Q,σ=[some (.ref p),some (.int n),some (.ref Z),some (.int a),some (.int en'),some (.int (pr (PP d) B a en'*cv (PP d) B (2*q') (a+1) [])),Q]/\Tb H L Z ad n (λi j=>if a<i then tbl (PP d) B i j else if i=a then(if j<en'+1+2*r then part (PP d) B a (q'+1) j else part (PP d) B a q' j)else 0)) ?_ ?_ ?_
 ·refine⟨_,rfl,S.congr λi j hi hj=>?_⟩
  by_cases G:a<i
  ·rw[aO G,aO G]
  ·rw[aB G,aB G]
   by_cases I:i=a
   ·rw[aO I,aO I]
    by_cases h3:j<en'+1+2*0
    ·rw[aO h3,Qk nA]
    ·rw[aB h3]
   ·rw[aB I,aB I]
 rotate_left
 ·rintro σ L ⟨Q,rfl,tb⟩;show⟨_,_,_,rfl,tb.congr λi j hi hj=>?_⟩
  by_cases G:a<i
  ·rw[aO G,aO G]
  ·rw[aB G,aB G]
   by_cases I:i=a
   ·rw[aO I,aO I,aO nA]
   ·rw[aB I,aB I]
 rintro r σ H6 hr6 ⟨Q,rfl,J⟩;obtain⟨sp,hsp⟩:∃e:Nat,e=en'+1+2*r:=⟨_,rfl⟩;have e4:((en':Int)+1+(r:Int)*2)=(sp:Int):=by lia
 have U:sp<=n:=by lia
 rw[e4];show AL (SqL.of J.top) (AT (J.at (i:=a) nA)) ?_;show EV (SqL.of (J.row a nA)) (Bl (j:=sp) U) ?_;have ev2:(if a<a then tbl (PP d) B a sp else if a=a then(if sp<en'+1+2*r then part (PP d) B a (q'+1) sp else part (PP d) B a q' sp)else 0)=part (PP d) B a q' sp:=by
  rw[aB nA,aO rfl,aB nA]
 rw[ev2];have e5:((en':Int)+1)=((en'+1:Nat):Int):=by lia
 ext;rw[e5];refine AL (SqL.of J.top) (AT (J.at (i:=en'+1) nA)) ?_;show AL (SqL.of (J.row (en'+1) nA)) (AT (Bl (j:=sp) U)) ?_;have ev3:(if a<en'+1 then tbl (PP d) B (en'+1) sp else if en'+1=a then(if sp<en'+1+2*r then part (PP d) B a (q'+1) sp else part (PP d) B a q' sp)else 0)=cv (PP d) B (sp-(en'+1)) (en'+1) []:=by
  rw[aO nA];unfold tbl;rw[aO nA]
 rw[ev3];have b5:=Ff hk X (n:=sp-(en'+1)) nA (en'+1) [];refine Bb (BA b3 b4 Ss) (BA b5.1 b5.2 FX) ?_;refine Do ?_;refine Ba (J.row a nA) (j:=sp) (by rw[Ce];unfold ixN;rw[aO nA,aO nA];simp) ?_;show⟨_,rfl,(J.set (i:=a) (j:=sp) nA).congr λi j hi hj=>?_⟩
 by_cases I:i=a
 ·subst I;simp only[Nat.lt_irrefl,if_false,if_true,true_and]
  by_cases G:j=sp
  ·subst G;rw[aO rfl,aO nA];exact Ql hen nA nA
  ·rw[aB G]
   by_cases h3:j<en'+1+2*r
   ·rw[aO h3,aO nA]
   ·rw[aB h3]
    by_cases h4:j<en'+1+2*(r+1)
    ·rw[aO h4,Kt nA,Kt nA]
    ·rw[aB h4]
 ·rw[aB (λz=>I z.1)]
  by_cases G:a<i
  ·rw[aO G,aO G]
  ·rw[aB G,aB G,aB I,aB I]
theorem E5:FuV P w K mg base (k+1) "whole_sum" ["sums"] (spWholeSum):=FnA.u (T.f.at 11) (scN ["sums"]) λnd _ _ h=>by
 obtain⟨b,d,e,n,a,rfl,tb,q⟩:=h;refine⟨_,(AE (AK (AH K (AH K (pv 0) AC) (Bf BZ AC)))),?_⟩;show AL (SqL.of tb.top) (AT (j:=0) (tb.at (Nat.zero_le _))) ?_;show AL (SqL.of (tb.row 0 (Nat.zero_le _))) (v:= .int (a 0 n)) (Dg ?_ ?_) ?_
 ·rw[Ce];lia
 ·rw[Ce];exact Bl (Nat.le_refl _)
 exact q
theorem OS:Am P w K mg base (k+2) "check_filling" ["sums"] (spCheckFillE cs):=FnA.uE (T.f.at 12) (scN ["sums"]) λnd H a h=>by
 have d:=a.units0;refine⟨_,(AE (AV (AR (Ag K d) (AM (E5 T) a (AA (pv 0) AB)) AC) (AE (DI (T.c.at 8).2 (T.c.at 8).1 a.hd DR (AA DA AB))) AW)),?_⟩;obtain⟨o,sa,x,n,e,rfl,tb,⟨b,q⟩|⟨i,r⟩⟩:=h
 ·show Dz tb ?_;show ifq (aX b) ?_;ext;exact q
 ·show Dz tb ?_;show ifp (ba i) ?_;ext;exact⟨small nv,λy j=>r y H (Same.refl H) j⟩
theorem OJ:FuV P w K mg base (k+2) "pairs_with_rest" ["places","sums"] (Kg):=FnA.u (T.f.at 13) (scN ["places","sums","many","outer","found","start","end","pair","within","outside","stop"]) @λ_ _ _ _ s vs _ _ nd H hr h=>by
 obtain⟨p,ss,B,G,S,ads,H0,rfl,hP,hn,hk,hl,hC,Z,q⟩:=h;have hu:=hr.units0;have hsm:∀l∈B,Sm l:=λl z=>(hl l z).2;obtain⟨pa,hp0,hpa⟩:=id hP;refine⟨_,(AD (AO 2 (Al K (T.N 7) (AA (pv 0) AB))) (AD (AO 3 (AM (Jd T) hr (AA (pv 2) AB))) (AD (Bo AC (CO (AH K (pv 3) AC) (pv 2) BW)) (AD (AO 4 (Aa AB)) (AD (A9 nh rfl (CA rfl (T.N 11) (AA (pv 2) AB)) (Ah 5) (AE (A9 nh rfl (B3 rfl (T.N 11) (AA (AG AN (pv 5) AC) (AA (pv 2) (AA AC AB)))) (Ah 6) (AD (AO 7 (AM (JK T) hr (AA (AH K (pv 0) (pv 5)) (AA (AH K (pv 0) (pv 6)) AB)))) (AD (AO 8 (AH K (AH K (pv 1) (AG AN (pv 5) AC)) (pv 6))) (AD (AO 9 AC) (AD (A9 nh rfl (B3 rfl (T.N 11) (AA (AG AN (pv 6) AC) (AA (AG AN (pv 2) AC) (AA AC AB)))) (Ah 10) (AD (EJ (AH K (pv 3) (AG AN (pv 6) AC)) (pv 10) (D7 K) (AG BV (AG BV (AH K (AH K (pv 3) (pv 5)) (pv 10)) (pv 7)) (pv 8)) DC BW) (AE (EW (i:=9) nd rfl (kP rfl) (AG BV (AH K (AH K (pv 3) (pv 5)) (pv 10)) (AH K (AH K (pv 1) (AG AN (pv 6) AC)) (pv 10))) DC)))) (AD (EJ (AH K (pv 3) (AG AN (pv 5) AC)) (pv 6) (D7 K) (AG BV (pv 7) (pv 9)) DC BW) (AE (Ax (A7 K ng no nk B4 (pv 4) (AA (BM (AA (pv 5) (AA (pv 6) (AA (AG BV (pv 8) (pv 9)) AB)))) AB)))))))))))) (AE (AK (pv 4)))))))),?_⟩;show BJ (.inl (SqL.of hp0)) ?_;have en:((((aw B.length).map λi=>V.ref (pa i)).length:Nat):Int)=(B.length:Int):=by rw[ax,cY]
 rw[en];generalize hN:B.length=n at*
 ext;obtain⟨g,hg⟩:∃g,g=gR3 S (pr (PP B) G) n:=⟨_,rfl⟩;rw[<-hg]at q;refine Jf hn (λs' ad H1 tb1=>?_);have place:∀ {R:Hp} {i:Nat},Same H R->i<n->∃l,R (pa i)=some (iL l)/\l.length=2*G/\Sm l/\∀b,PP B i b=l.getD b 0:=by
  intro R i sH hi;have e:B[i]? =some B[i]:=ai nA;have eg:B.getD i []=B[i]:=by rw[af,e];rfl
  refine⟨B[i],?_,(hl _ (dF _)).1,(hl _ (dF _)).2,λb=>by show(B.getD i []).getD b 0=_;rw[eg]⟩;have:=sH _ _ (hpa i nA);rw[eg]at this;exact this
 have pix:∀ {i:Nat},i<n->((aw n).map λi=>V.ref (pa i))[i]? =some (.ref (pa i)):=fun{i} hi=>by rw[am,aU hi];rfl
 show AL (SqL.of tb1.top) (AT (j:=0) (tb1.at (Nat.zero_le _))) ?_;show Ba (tb1.row 0 (Nat.zero_le _)) (j:=n) (by rw[Ce];unfold ixN;rw[aO nA,aO nA];simp) ?_;have tb2:=tb1.set (i:=0) (j:=n) (v:=1) (Nat.zero_le _);generalize upd H1 (ad 0) _=H2 at*
 show⟨small (n:=0) nv,λF0 hF0=>?_⟩;have t3:=AJ hF0 (.lst []);have gF3:(upd H2 F0 (.lst [])) F0=some (.lst []):=AF;have tb3:=tb2.same t3;have hHF:H F0=none:=tb2.sm.free hF0;have nFs:F0≠s':=λz=>by rw[z,tb2.top]at hF0;cases hF0
 have nFa:∀i,i<=n->F0≠ad i:=λi hi z=>by rw[z,tb2.row i hi]at hF0;cases hF0
 have fp3:Rf (upd H2 F0 (.lst [])) [] ((Bh n 0 0).map g):=⟨rfl,λm x hx=>by simp[Bh]at hx⟩;generalize upd H2 F0 _=H3 at*
 clear tb1 tb2 t3;show⟨_,rfl,by lia,by lia,?_⟩;rw[d0];refine FN (λd σ R=>∃ (vs:List V) (o5 o6 o7 o8 o9 M:Option V),σ=[some (.ref p),some (.ref ss),some (.int (n:Int)),some (.ref s'),some (.ref F0),o5,o6,o7,o8,o9,M]/\Tb H R s' ad n (ts S (pr (PP B) G) n d)/\R F0=some (.lst vs)/\Rf R vs ((Bh n d 0).map g)) ⟨[],_,_,_,_,_,_,rfl,tb3,gF3,fp3⟩ ?_ ?_
 rotate_left
 ·intro σ H4 z_;obtain⟨vs,o5,o6,o7,o8,o9,M,rfl,tb,gF,fp⟩:=z_;ext;rw[R9]at fp;exact q F0 vs H4 hHF tb.sm gF fp
 clear tb3 gF3 fp3;intro d σ H4 hst z_;obtain⟨vs4,o5,o6,o7,o8,o9,M,rfl,tb4,gF4,fp4⟩:=z_;have e0:(0:Int)+(d:Int)=(d:Int):=by lia
 rw[e0];show⟨_,_,2,rfl,⟨by decide,by decide,CH nA nA nA nA⟩,?_⟩;have er2:rN ((d:Int)+1) n 2=(n-d)/2:=by rw[CL];lia
 rw[er2];refine CI (λq' σ R=>∃ (vs:List V) (o6 o7 o8 o9 M:Option V),σ=[some (.ref p),some (.ref ss),some (.int (n:Int)),some (.ref s'),some (.ref F0),some (.int (d:Int)),o6,o7,o8,o9,M]/\Tb H R s' ad n (tq S (pr (PP B) G) n d (ts S (pr (PP B) G) n d) q')/\R F0=some (.lst vs)/\Rf R vs ((Bh n d q').map g)) ⟨vs4,_,_,_,_,_,rfl,tb4,gF4,fp4⟩ ?_ ?_
 rotate_left
 ·intro σ H5 z_;obtain⟨vs,o6,o7,o8,o9,M,rfl,tb,gF,fp⟩:=z_;ext;exact⟨vs,_,_,_,_,_,_,rfl,tb,gF,by rw[Vp];exact fp⟩
 clear tb4 gF4 fp4;intro q' σ H5 hq' z_;obtain⟨vs5,o6,o7,o8,o9,M,rfl,tb5,gF5,fp5⟩:=z_;obtain⟨en',hen⟩:∃e:Nat,e=d+1+2*q':=⟨_,rfl⟩;have e2:((d:Int)+1+(q':Int)*2)=(en':Int):=by lia
 have hen2:en'<n:=by lia
 rw[e2];ext;obtain⟨x,hx,lx,sx,ex⟩:=place tb5.sm (show d<n by lia);obtain⟨y,hy,ly,sy,ey⟩:=place tb5.sm (show en'<n by lia);refine AL (SqL.of (tb5.sm _ _ hp0)) (AT (pix (i:=d) nA)) ?_;show AL (SqL.of (tb5.sm _ _ hp0)) (AT (pix (i:=en') nA)) ?_;show Ku hx hy lx ly hk sx sy (λH6 s6=>?_);have epr:sm G (λo=>x.getD (2*o) 0*y.getD (2*o+1) 0)=pr (PP B) G d en':=by
  unfold pr;exact BK G λo _=>by rw[ex,ey]
 rw[epr];have tb6:=tb5.same s6;have gF6:=s6 _ _ gF5;have fp6:=fp5.same s6;clear tb5 gF5 fp5;have e3:((d:Int)+1)=((d+1:Nat):Int):=by lia
 ext;rw[e3];refine AL (SqL.of (tb6.sm _ _ Z.top)) (AT (Z.at (i:=d+1) nA)) ?_;show AL (SqL.of (tb6.sm _ _ (Z.row (d+1) nA))) (AT (Bl (j:=en') nA)) ?_;have U:=hC.p d en';have bS:=hC.s (d+1) en';obtain⟨Sx,hSx⟩:∃x,x=S (d+1) en':=⟨_,rfl⟩;obtain⟨px,hpx⟩:∃x,x=pr (PP B) G d en':=⟨_,rfl⟩;show⟨_,_,2,rfl,⟨by decide,by decide,CH nA nA nA nA⟩,?_⟩;have er3:rN ((en':Int)+1) ((n:Int)+1) 2=(n+1-en')/2:=by rw[CL];lia
 rw[er3];have hu':=λr hr=>NQ hC.s hC.p hn (s:=d) (q:=q') (r:=r) hen nA hr;generalize hT5:tq S (pr (PP B) G) n d (ts S (pr (PP B) G) n d) q'=X at*
 refine CI (λr σ R=>∃ (M:Option V),σ=[some (.ref p),some (.ref ss),some (.int (n:Int)),some (.ref s'),some (.ref F0),some (.int (d:Int)),some (.int (en':Int)),some (.int (pr (PP B) G d en')),some (.int (S (d+1) en')),some (.int (inn S (pr (PP B) G) d en' X r).2),M]/\Tb H R s' ad n (inn S (pr (PP B) G) d en' X r).1/\R F0=some (.lst vs5)/\Rf R vs5 ((Bh n d q').map g)) ⟨_,rfl,tb6,gF6,fp6⟩ ?_ ?_
 rotate_left
 ·intro σ H7 z_;obtain⟨M,rfl,J,gF7,fp7⟩:=z_;obtain⟨_,bo0,bo1⟩:=hu' ((n+1-en')/2) nA;have bout2:=BA (c:=U5*Ob) bo0 (Int.le_trans bo1 nB) Hj;have eT:tq S (pr (PP B) G) n d (ts S (pr (PP B) G) n d) (q'+1)=λa b=>if a=d+1/\b=en' then(inn S (pr (PP B) G) d en' X ((n+1-en')/2)).1 (d+1) en'+pr (PP B) G d en'*(inn S (pr (PP B) G) d en' X ((n+1-en')/2)).2 else(inn S (pr (PP B) G) d en' X ((n+1-en')/2)).1 a b:=by subst hen hT5;rfl
  have er:S (d+1) en'*(inn S (pr (PP B) G) d en' X ((n+1-en')/2)).2=rv S (pr (PP B) G) n d en':=by unfold rv;rw[show(en'-d-1)/2=q' by lia,hT5]
  generalize inn S (pr (PP B) G) d en' X ((n+1-en')/2)=I at*
  ext;rw[e3];refine AL (SqL.of J.top) (AT (J.at (i:=d+1) nA)) ?_;show EV (SqL.of (J.row (d+1) nA)) (Bl (j:=en') nA) ?_;show Bb (BA U.1 (Int.le_trans U.2 (by decide:(4:Int)<=U5)) (by unfold big U5;decide +kernel)) bout2 ?_;refine Do ?_;refine Ba (J.row (d+1) nA) (j:=en') (by rw[Ce];unfold ixN;rw[aO nA,aO nA];simp) ?_;have Q:=J.set (i:=d+1) (j:=en') (v:=I.1 (d+1) en'+pr (PP B) G d en'*I.2) nA;rw[<-eT]at Q;have gF8:(upd H7 (ad (d+1)) (.lst ((rwl n (I.1 (d+1))).set en' (.int (I.1 (d+1) en'+pr (PP B) G d en'*I.2))))) F0=some (.lst vs5):=by rw[AI (nFa (d+1) nA)];exact gF7
  have fp8:=fp7.lst (o:= .lst ((rwl n (I.1 (d+1))).set en' (.int (I.1 (d+1) en'+pr (PP B) G d en'*I.2)))) (J.row (d+1) nA);generalize upd H7 (ad (d+1)) _=H8 at*
  show⟨.inl ⟨rfl,_,SqL.of gF8⟩,?_⟩;show Bb (BA bS.1 (Int.le_trans bS.2 (by decide +kernel:U5<=U5*Ob)) Hj) bout2 ?_;rw[er];show⟨small (n:=3) nv,λT' hT=>?_⟩;have t9:=AJ hT (.tup [.int (d:Int), .int (en':Int), .int (rv S (pr (PP B) G) n d en')]);have g9:(upd H8 T' (.tup [.int (d:Int), .int (en':Int), .int (rv S (pr (PP B) G) n d en')])) T'=some (.tup (g (d,en'))):=by rw[AF,hg];rfl
  have tb9:=Q.same t9;have gF9:=t9 _ _ gF8;have fp9:=fp8.same t9;have nTF:T'≠F0:=λz=>by rw[z,gF8]at hT;cases hT
  generalize upd H8 T' _=H9 at*
  show⟨F0,_,_,rfl,rfl,gF9,?_,?_⟩
  ·have:=R8 n d q' nA nA hn;rw[fp9.1,ax,PySem.sizeLine_eq];lia
  have up:SameBut1 F0 H9 (upd H9 F0 (.lst (vs5++[.ref T']))):=SameBut1.upd;show⟨_,_,_,_,_,_,rfl,tb9.but hHF nFs nFa up,AF,?_⟩;rw[Vq,<-hen,bv];exact(fp9.lst gF9).more (up _ _ g9 nTF)
 intro r σ H7 hr7 z_;obtain⟨M,rfl,J,gF7,fp7⟩:=z_;obtain⟨L,hsp⟩:∃e:Nat,e=en'+1+2*r:=⟨_,rfl⟩;have e4:((en':Int)+1+(r:Int)*2)=(L:Int):=by lia
 have Y:L<=n:=by lia
 rw[e4];have e5:((en':Int)+1)=((en'+1:Nat):Int):=by lia
 obtain⟨bI,_⟩:=hu' r nA;have bT:=bI L;have eI:inn S (pr (PP B) G) d en' X (r+1)=(λa b=>if a=en'+1/\b=L then(inn S (pr (PP B) G) d en' X r).1 (en'+1) L+(inn S (pr (PP B) G) d en' X r).1 d L*pr (PP B) G d en'*S (d+1) en' else(inn S (pr (PP B) G) d en' X r).1 a b,(inn S (pr (PP B) G) d en' X r).2+(inn S (pr (PP B) G) d en' X r).1 d L*S (en'+1) L):=by subst hsp;rfl
 generalize inn S (pr (PP B) G) d en' X r=I at*
 have bS2:=hC.s (en'+1) L;ext;rw[e5];refine AL (SqL.of J.top) (AT (J.at (i:=en'+1) nA)) ?_;show EV (SqL.of (J.row (en'+1) nA)) (Bl (j:=L) Y) ?_;show AL (SqL.of J.top) (AT (J.at (i:=d) nA)) ?_;show AL (SqL.of (J.row d nA)) (AT (Bl (j:=L) Y)) ?_;show Bb (BA bT.1 (Int.le_trans bT.2 nB) Dj) (BA U.1 (Int.le_trans U.2 nB) Dj) ?_;show Bb (BA (Int.mul_nonneg bT.1 U.1) (Int.mul_le_mul bT.2 U.2 U.1 (Int.pow_nonneg nv)) Dj) (BA bS.1 (Int.le_trans bS.2 nB) Dj) ?_;refine Do ?_;refine Ba (J.row (en'+1) nA) (j:=L) (by rw[Ce];unfold ixN;rw[aO nA,aO nA];simp) ?_;have Q:=J.set (i:=en'+1) (j:=L) (v:=I.1 (en'+1) L+I.1 d L*pr (PP B) G d en'*S (d+1) en') nA;have gF8:(upd H7 (ad (en'+1)) (.lst ((rwl n (I.1 (en'+1))).set L (.int (I.1 (en'+1) L+I.1 d L*pr (PP B) G d en'*S (d+1) en'))))) F0=some (.lst vs5):=by rw[AI (nFa (en'+1) nA)];exact gF7
 have fp8:=fp7.lst (o:= .lst ((rwl n (I.1 (en'+1))).set L (.int (I.1 (en'+1) L+I.1 d L*pr (PP B) G d en'*S (d+1) en')))) (J.row (en'+1) nA);generalize upd H7 (ad (en'+1)) _=H8 at*
 show AL (SqL.of Q.top) (AT (Q.at (i:=d) nA)) ?_;show AL (SqL.of (Q.row d nA)) (AT (Bl (j:=L) Y)) ?_;ext;rw[e5,aB (show¬ (d=en'+1/\L=L) by lia)];refine AL (SqL.of (Q.sm _ _ Z.top)) (AT (Z.at (i:=en'+1) nA)) ?_;show AL (SqL.of (Q.sm _ _ (Z.row (en'+1) nA))) (AT (Bl (j:=L) Y)) ?_;refine Bb (BA bT.1 (Int.le_trans bT.2 nB) Dj) (BA bS2.1 (Int.le_trans bS2.2 nB) Dj) ?_;ext;rw[eI];exact⟨_,rfl,Q,gF8,fp8⟩
theorem OW:FuV P w K mg base (k+3) "bracket_sums" ["places","sums"] (ND):=FnA.u (T.f.at 14) (scN ["places","sums","found","start","end","rest","opening","weight"]) λnd H hr h=>by
 obtain⟨p,ss,a,kk,S,ads,H0,rfl,hP,hn,hk,hl,hC,tbS,q⟩:=h;have hu:=hr.units0;have hsm:∀l∈a,Sm l:=λl z=>(hl l z).2;obtain⟨pa,hp0,hpa⟩:=id hP;refine⟨_,(AD (F9 (i:=2) nd rfl (kP rfl) (own:=["place"]) (sel:=[]) (Au (osc:=(AU (top 35))) (N:=["places","sums","found","start","end","rest","opening","weight"]) nB) rfl (Bx K (pv 0)) (λ_ _ _ _ _=>(Af (i:=0) (show(["place"]:List Str).Nodup from by decide +kernel) rfl (kP rfl))) (Ak nv) (λ_ _ _ _ _=>A2) (λ_ _ _ _ _=>(AG BX (Aa (AA AC AB)) (Al K (T.N 7) (AA (pv 0) AB))))) (AD (A9 nh rfl (Bx K (AM (OJ T) hr (AA (pv 0) (AA (pv 1) AB)))) (By (n:=3) K rfl (As (Ah 3) (As (Ah 4) (As (Ah 5) Bm)))) (AE (A9 nh rfl (B3 rfl (T.N 11) (AA AC (AA (Al K (T.N 7) (AA (AH K (pv 0) (pv 3)) AB)) (AA AC AB)))) (Ah 6) (AD (AO 7 (AG BV (AG BV (AH K (AH K (pv 0) (pv 3)) (pv 6)) (AH K (AH K (pv 0) (pv 4)) (AG AN (pv 6) AC))) (pv 5))) (AD (EJ (AH K (pv 2) (pv 3)) (pv 6) (D7 K) (pv 7) DC BW) (AE (EJ (AH K (pv 2) (pv 4)) (AG AN (pv 6) AC) (D7 K) (pv 7) DC BW))))))) (AE (AK (pv 2))))),?_⟩;have place:∀ {M:Hp} {i:Nat},Same H M->i<a.length->∃l,M (pa i)=some (iL l)/\l.length=2*kk/\Sm l/\∀b,PP a i b=l.getD b 0:=by
  intro M i sH hi;have e:a[i]? =some a[i]:=ai nA;have eg:a.getD i []=a[i]:=by rw[af,e];rfl
  refine⟨a[i],?_,(hl _ (dF _)).1,(hl _ (dF _)).2,λb=>by show(a.getD i []).getD b 0=_;rw[eg]⟩;have:=sH _ _ (hpa i nA);rw[eg]at this;exact this
 have pix:∀ {i:Nat},i<a.length->((aw a.length).map λi=>V.ref (pa i))[i]? =some (.ref (pa i)):=fun{i} hi=>by rw[am,aU hi];rfl
 have hlen:((aw a.length).map λi=>V.ref (pa i)).length=a.length:=by rw[ax,cY]
 show⟨p,rfl,⟨_,SqL.of hp0⟩,?_⟩;refine Rb (small (by rw[hlen];lia)) hp0 (λD i ys M=>∃I:Nat->Addr,ys=(aw i).map (λj=>V.ref (I j))/\(∀j,j<i->M (I j)=some (.lst (rw2 (2*kk) λ_=>0))/\H (I j)=none/\I j≠D)/\∀j j',j<i->j'<i->I j=I j'->j=j')
  (λD _=>⟨λ_=>D,rfl,λj Q=>absurd Q nA,λj _ Q=>absurd Q nA⟩) (λD i ys H1 H2 _ ⟨I,e,Z,h2⟩ s12=>⟨I,e,λj Q=>⟨s12 _ _ (Z j Q).1 (Z j Q).2.2,(Z j Q).2⟩,h2⟩)
  (λD ys M hD hy _ sH ⟨I,e,Z,h2⟩=>?_) ?_
 rotate_left
 ·rintro D i x ys M R hD hx hy hl' sH ⟨I,e,Z,h2⟩ r;have hi:i<a.length:=by
   have:=(az.mp hx).1;rw[hlen]at this;exact this
  rw[pix hi]at hx
  cases hx
  obtain⟨l,gl,ll,_,_⟩:=place sH hi;show⟨small (n:=1) nv,λz hz=>?_⟩;show BJ (.inl (SqL.of (AJ hz _ _ _ gl))) ?_;have el:(((l.map V.int).length:Nat):Int)=((2*kk:Nat):Int):=by rw[ax,ll]
  rw[el];refine Ei (k:=((2*kk:Nat):Int)) (xs:=[.int 0]) AF nA nA (small (by rw[f9,d0];lia)) (λp' hp'=>?_);have hpz:p'≠z:=λw=>by rw[w,AF]at hp';cases hp'
  have hp2:M p'=none:=by rw[AI hpz]at hp';exact hp'
  have hpD:p'≠D:=λw=>by rw[w,hy]at hp2;cases hp2
  have sp:Same M (upd (upd M z (.lst [.int 0])) p' (.lst (List.replicate ((2*kk:Nat):Int).toNat [V.int 0]).flatten)):=(AJ hz _).trans (AJ hp' _);refine r _ _ sp ⟨λj=>if j=i then p' else I j,?_,?_,?_⟩
  ·subst e;rw[List.range_succ,bv];congr 1
   ·refine dw λj Q=>?_;have:=List.mem_range.mp Q;show V.ref (I j)=V.ref (if j=i then p' else I j);rw[aB nA]
   ·simp
  ·intro j Q
   by_cases ej:j=i
   ·subst ej;simp only[if_true];refine⟨?_,?_,hpD⟩
    ·rw[AF,d0,Qb]
    ·exact sH.free hp2
   ·simp only[aB ej];obtain⟨a1,a2,a3⟩:=Z j nA;exact⟨sp _ _ a1,a2,a3⟩
  ·intro j j' Q hj' ee;have nq:∀j,j<i->I j≠p':=λj Q w=>by have:=(Z j Q).1;rw[w,hp2]at this;cases this
   by_cases e1:j=i<;>by_cases e2:j'=i
   ·lia
   ·simp only[aO e1,aB e2]at ee;exact absurd ee.symm (nq j' nA)
   ·simp only[aB e1,aO e2]at ee;exact absurd ee (nq j nA)
   ·simp only[aB e1,aB e2]at ee;exact h2 j j' nA nA ee
 rw[hlen]at e Z h2;subst e;have tw0:Tw H M D I a.length (2*kk) (bs (PP a) (rv S (pr (PP a) kk) a.length) kk (prs a.length) 0):=⟨hD,λi hi=>(Z i nA).2.1,λi hi=>(Z i nA).2.2,λi j hi Q=>h2 i j nA nA,hy,λi hi=>(Z i nA).1,sH⟩;clear Z h2 hD hy;show P6 (hP.same sH) hn hk hl hC (ads:=ads) (H0:=H0) ?_ (λF0 U H2 hF0 s2 gF fp=>?_)
 ·exact tbS.same sH
 have tw1:=tw0.same s2;have nFa:∀i,i<a.length->F0≠I i:=λi hi z=>by rw[z,tw0.row i hi]at hF0;cases hF0
 clear tw0;show⟨F0,rfl,⟨_,SqL.of gF⟩,?_⟩;refine Gs (xs:=U) (λm σ M=>∃ (o3 o4 o5 o6 o7:Option V),σ=[some (.ref p),some (.ref ss),some (.ref D),o3,o4,o5,o6,o7]/\Tw H M D I a.length (2*kk) (bs (PP a) (rv S (pr (PP a) kk) a.length) kk (prs a.length) m)/\M F0=some (.lst U)/\Rf M U ((prs a.length).map (gR3 S (pr (PP a) kk) a.length))) ⟨_,_,_,_,_,rfl,tw1,gF,fp⟩ (λm σ M _ ⟨_,_,_,_,_,_,_,g,_⟩=>SqL.of g) ?_ ?_
 rotate_left
 ·intro σ H3 z_;obtain⟨o3,o4,o5,o6,o7,rfl,tw,g3,X⟩:=z_;ext;rw[X.1,ax]at tw;exact q D I H3 tw
 clear tw1 gF fp;intro m x σ H3 hx z_;obtain⟨o3,o4,o5,o6,o7,rfl,tw3,g3,X⟩:=z_;have hm:m<(prs a.length).length:=by
  have:=(az.mp hx).1;rw[X.1,ax]at this;exact this
 obtain⟨⟨d,en⟩,hse⟩:∃y,(prs a.length)[m]? =some y:=⟨_,ai hm⟩;obtain⟨T,eT,gT⟩:=X.2 m _ (by rw[am,hse];rfl);rw[hx]at eT
 cases eT
 obtain⟨hlt,hod,J⟩:=Vr (bV hse)
 dsimp only at hlt hod J
 have L:d<a.length:=by lia
 have eD:(prs a.length).getD m (0,0)=(d,en):=by rw[af,hse];rfl
 obtain⟨R,hR⟩:∃R,R=rv S (pr (PP a) kk) a.length d en:=⟨_,rfl⟩;obtain⟨w,hw⟩:∃w:Nat->Int,w=λo=>PP a d (2*o)*PP a en (2*o+1)*R:=⟨_,rfl⟩;have eB:bs (PP a) (rv S (pr (PP a) kk) a.length) kk (prs a.length) (m+1)=bo w d en (bs (PP a) (rv S (pr (PP a) kk) a.length) kk (prs a.length) m) kk:=by rw[bs,eD,hw,hR]
 have br:=Xp hC.s hC.p hn hlt hod J;unfold gR3 at gT
 dsimp only at gT
 rw[<-hR]at gT br;show⟨T,_,rfl,SqT.of gT,rfl,?_⟩;obtain⟨l1,gl1,ll1,sm1,e1⟩:=place tw3.sm L;show AL (SqL.of (tw3.sm _ _ hp0)) (AT (pix L)) ?_;show BJ (.inl (SqL.of gl1)) ?_;have el:(((l1.map V.int).length:Nat):Int)=((2*kk:Nat):Int):=by rw[ax,ll1]
 rw[el];show⟨0,_,2,rfl,⟨by decide,by decide,CH nA nA nA nA⟩,?_⟩;have er:rN 0 ((2*kk:Nat):Int) 2=kk:=by rw[CL];lia
 rw[er];generalize bs (PP a) (rv S (pr (PP a) kk) a.length) kk (prs a.length) m=B at*
 refine CI (λo σ M=>∃ (o6 o7:Option V),σ=[some (.ref p),some (.ref ss),some (.ref D),some (.int (d:Int)),some (.int (en:Int)),some (.int R),o6,o7]/\Tw H M D I a.length (2*kk) (bo w d en B o)/\M F0=some (.lst U)/\Rf M U ((prs a.length).map (gR3 S (pr (PP a) kk) a.length))) ⟨_,_,rfl,tw3,g3,X⟩ ?_ ?_
 rotate_left
 ·intro σ H4 z_;obtain⟨o6,o7,rfl,G,g4,fp4⟩:=z_;ext;exact⟨_,_,_,_,_,rfl,eB▸G,g4,fp4⟩
 clear tw3 g3 X gl1;intro o σ H4 ho z_;obtain⟨o6,o7,rfl,G,g4,fp4⟩:=z_;have e0:(0:Int)+(o:Int)*2=((2*o:Nat):Int):=by lia
 have e2:((2*o:Nat):Int)+1=((2*o+1:Nat):Int):=by lia
 rw[e0];obtain⟨l1,gl1,ll1,sm1,e1⟩:=place G.sm L;obtain⟨l2,gl2,ll2,sm2,e3⟩:=place G.sm J;have gx:l1[2*o]? =some (l1.getD (2*o) 0):=by rw[af,ai nA];rfl
 have gy:l2[2*o+1]? =some (l2.getD (2*o+1) 0):=by rw[af,ai nA];rfl
 have bx:=sm1.at (2*o);have by':=sm2.at (2*o+1);show AL (SqL.of (G.sm _ _ hp0)) (AT (pix L)) ?_;show AL (SqL.of gl1) (AT (by rw[am,gx];rfl)) ?_;show AL (SqL.of (G.sm _ _ hp0)) (AT (pix J)) ?_;ext
 first|rw[e2]|skip
 refine AL (SqL.of gl2) (AT (by rw[am,gy];rfl)) ?_;refine Bb (BA bx.1 bx.2 DJ) (BA by'.1 by'.2 DJ) ?_;show Bb (BA (Int.mul_nonneg bx.1 by'.1) (Int.le_trans (Int.mul_le_mul bx.2 by'.2 by'.1 nv) (by decide:top30*top30<=4*(top30*top30))) Mc) (BA br.1 br.2 Hj) ?_;have ew:l1.getD (2*o) 0*l2.getD (2*o+1) 0*R=w o:=by rw[hw,<-e1,<-e3]
 rw[ew];show AL (SqL.of G.top) (AT (G.at L)) ?_;show EV (SqL.of (G.row d L)) (Li (j:=2*o) nA) ?_;ext
 first|refine Do ?_ |skip
 refine Ba (G.row d L) (j:=2*o) (by rw[Lh];unfold ixN;rw[aO nA,aO nA];exact congrArg some (d0 _)) ?_;have Y:=G.set (i:=d) (j:=2*o) (v:=bo w d en B o d (2*o)+w o) L;have g5:(upd H4 (I d) (.lst ((rw2 (2*kk) (bo w d en B o d)).set (2*o) (.int (bo w d en B o d (2*o)+w o))))) F0=some (.lst U):=by rw[AI (nFa d L)];exact g4
 have fp5:=fp4.lst (o:= .lst ((rw2 (2*kk) (bo w d en B o d)).set (2*o) (.int (bo w d en B o d (2*o)+w o)))) (G.row d L);generalize upd H4 (I d) _=H5 at*
 show AL (SqL.of Y.top) (AT (Y.at J)) ?_;ext
 first|rw[e2]|skip
 refine EV (SqL.of (Y.row en J)) (Li (j:=2*o+1) nA) ?_;ext
 first|refine Do ?_ |skip
 refine Ba (Y.row en J) (j:=2*o+1) (by rw[Lh];unfold ixN;rw[aO nA,aO nA];exact congrArg some (d0 _)) ?_;have tw6:=Y.set (i:=en) (j:=2*o+1) (v:=(if en=d/\2*o+1=2*o then bo w d en B o d (2*o)+w o else bo w d en B o en (2*o+1))+w o) J;have g6:=AI (H:=H5) (o:= .lst ((rw2 (2*kk) (λb=>if en=d/\b=2*o then bo w d en B o d (2*o)+w o else bo w d en B o en b)).set (2*o+1) (.int ((if en=d/\2*o+1=2*o then bo w d en B o d (2*o)+w o else bo w d en B o en (2*o+1))+w o)))) (nFa en J);have fp6:=fp5.lst (o:= .lst ((rw2 (2*kk) (λb=>if en=d/\b=2*o then bo w d en B o d (2*o)+w o else bo w d en B o en b)).set (2*o+1) (.int ((if en=d/\2*o+1=2*o then bo w d en B o d (2*o)+w o else bo w d en B o en (2*o+1))+w o)))) (Y.row en J);rw[g5]at g6;ext;exact⟨_,_,rfl,tw6,g6,fp6⟩
theorem GC:Am P w K mg base (k+5) "how_many" ["k","row"] (HG K cs MW):=FnA.uE (T.f.at 15) (scN ["k","row"]) λnd H b h=>by
 refine⟨_,(AD (Ax (Ac (Ca T) b A3 (AA (pv 0) (AA (pv 1) AB)))) (AE (AK (AM (E5 T) b (AA (AM (E6 T) b (AA (AM (E4 T) b (AA (pv 0) (AA (pv 1) AB))) AB)) AB))))),?_⟩;rcases h with⟨kk,a,rfl,h1,h2,ha,q⟩|⟨kv,v,rfl,g⟩
 rotate_left
 ·ext;exact .inr ⟨kv,v,rfl,g.pass (Same.refl H)⟩
 ·have d:=An ha;show .inl (B2 h1 h2 ha (λz i=>?_));show D4 h1 h2 d (λr B j o x=>?_);show D5 (k:=kk.toNat) x (by rw[ax];exact d) nA (B9 nA) (λG I y tb=>?_);show Dz tb ?_;have e:tbl (PP (a.map (plw (ones kk.toNat)))) kk.toNat 0 (a.map (plw (ones kk.toNat))).length=zQ2 kk.toNat a:=by
   unfold tbl zQ2;rw[aO (Nat.zero_le _),Nat.sub_zero,ax]
  rw[e];exact q y ((i.trans o).trans tb.sm)
theorem PL:FuV P w K mg base (k+1) "may_open" ["place"] (spMayOpen K):=FnA.u (T.f.at 16) (scN ["place"]) λnd _ d h=>by
 obtain⟨p,l,rfl,e,q⟩:=h;have i:=d.units0;refine⟨_,(AE (AK (Aj (RV K rfl) rfl (T.N 2) PyProof.Rows.boot_any (AA (Vw K (pv 0) AC) AB)))),?_⟩;show⟨rfl,p,_,rfl,SqL.of e,λr a=>?_⟩;have b:=AJ a (.lst (A8 (l.map V.int)));rw[KI _ _ _ (Nat.le_refl _)]at b⊢;refine⟨r,A8 l,rfl,SqL.of AF,?_⟩;exact q _ b
theorem OQ:FuV P w K mg base (k+2) "depths_before" ["places","sums","shorter","stop"] (Jw):=FnA.u (T.f.at 17) (scN ["places","sums","shorter","stop","found"]) λnd H hr h=>by
 obtain⟨pp,sp,sh,d,a,H0,ad,j,L,rfl,hP,hT,hL,hLj,hja,ha,hD,q⟩:=h;have hu:=hr.units0;refine⟨_,(AD (O7 (i:=4) nd rfl (kP rfl) (own:=["start","depth"]) (sel:=[0,3,1,2]) (RN (osc:=(AU (top 40))) (N:=["places","sums","shorter","stop","found"]) nB) rfl (CA rfl (T.N 11) (AA (pv 3) AB)) nv (λ_ _ _ _ _=>(Af (i:=0) (show(["start","depth","places","stop","sums","shorter"]:List Str).Nodup from by decide +kernel) rfl (kP rfl))) (λ_ _ _ _ _=>EK (PW.pt (Cj (A6 K (AM (PL T) hr (AA (AH K (pv 2) (pv 0)) AB))) (C0 (AR CF (AH K (AH K (pv 4) (AG AN (pv 0) AC)) (pv 3)) AC))))) (λ_ _ _ _ _=>(Bx K (AH K (pv 5) (pv 0)))) (λ_ _ _ _ _=>(Af (i:=1) (show(["start","depth","places","stop","sums","shorter"]:List Str).Nodup from by decide +kernel) rfl (kP rfl))) (λ_ _ _ _ _=>A2) (λ_ _ _ _ _=>(AG AN (pv 1) AC))) (AD (AV (AR CF (AH K (AH K (pv 1) AC) (pv 3)) AC) (AE (Ax (A7 K ng no nk B4 (pv 4) (AA AC AB)))) AW) (AE (AK (SF K (T.N 12) (T.N 13) hr rfl (pv 4)))))),?_⟩;show⟨_,rfl,by lia,by lia,?_⟩;rw[d0];obtain⟨pa,hp0,hpa⟩:=id hP;obtain⟨la,hl0,S⟩:=id hL;have hn:(a.map (plw (ones d))).length=a.length:=ax ..;rw[hn]at hp0 hpa;rw[hLj]at hl0 S;have hcap:((aw j).flatMap (fB d a j L)).length<=2520:=Nat.le_trans (HX (j:=j) hD j) nA;refine RO (λi=>(fB d a j L i).map V.int) (λD H1 M B Q=>?_) (λD i H1 N M hi B Q hN=>?_)
 rotate_left
 ·have e0:(0:Int)+(i:Int)=(i:Int):=by lia
  rw[e0];have ea:a[i]? =some (a.getD i 0):=by rw[af,ai nA];rfl
  have gp:H1 (pa i)=some (iL (plw (ones d) (a.getD i 0))):=by
   have:=B _ _ (hpa i nA);rw[af,am,ea]at this;exact this
  have gl:H1 (la i)=some (iL (L.getD i [])):=B _ _ (S i hi);show AL (SqL.of (B _ _ hp0)) (AT (by rw[am,aU nA];rfl)) ?_;show PZ gp (λH2 I=>?_);ext;have nD:∀b o,H b=some o->b≠D:=λb o z=>AS z M
  cases hm:(A8 (plw (ones d) (a.getD i 0))).any λn=>n !=0 with
  |false=>
   refine ifq rfl (ifq rfl ?_);refine hN H2 (B.trans I) ?_;rw[I _ _ Q];have:fB d a j L i=[]:=by unfold fB;rw[aB (by rw[hm];simp)]
   rw[this];simp
  |true=>
   refine ifp rfl ?_;ext;have e1:((i:Int)+1)=((i+1:Nat):Int):=by lia
   rw[e1];have U:=hT.same (B.trans I);refine AL (SqL.of U.top) (AT (U.at (i:=i+1) nA)) ?_;show AL (SqL.of (U.row (i+1) nA)) (AT (Bl (j:=j) nA)) ?_;ext
   by_cases J:0<tbl (P1 d a) d (i+1) j
   ·refine ifp (by simpa using J) ?_;have ef:fB d a j L i=(L.getD i []).map (· +1):=by unfold fB;rw[aO ⟨hm,J⟩]
    rw[ef]at hN;have hn63:(L.getD i []).length<=63:=by
     have:=MD (j:=j) hD i;rw[ef,ax]at this;exact this
    have hpre:((aw i).flatMap (fB d a j L)).length<=2520:=Nat.le_trans (HX (j:=j) hD i) nA;unfold ER;show AL (SqL.of (I _ _ (B _ _ hl0))) (AT (by rw[am,aU nA];rfl)) ?_;refine⟨la i,rfl,⟨_,SqL.of (I _ _ gl)⟩,?_⟩;refine RA (λx=>match x with| .int z=> .int (z+1)|y=>y) (I _ _ gl) (nD _ _ (S i hi)) (I _ _ Q) ?_ (λi2 x H3 R hx s3 r=>?_) (λH3 s3 h3=>?_)
    ·rw[K6,ax,ax,sizeLine_eq];lia
    ·rw[am]at hx;obtain⟨z,hz,rfl⟩:=dz.mp hx;ext;exact r
    ·refine hN H3 (λb o z=>s3 b o (I b o (B b o z)) (nD b o z)) ?_;rw[h3,d4,d4];rfl
   ·refine ifq (by simpa using J) ?_;refine hN H2 (B.trans I) ?_;rw[I _ _ Q];have:fB d a j L i=[]:=by unfold fB;rw[aB (λz=>J z.2)]
    rw[this];simp
 rw[K6]at Q;have G:=Pl hD hLj;have X:=hT.same B;show AL (SqL.of X.top) (show atI _ (0:Int)=some (V.ref (ad 0))from AT (j:=0) (X.at (i:=0) nA)) ?_;show AL (SqL.of (X.row 0 nA)) (AT (Bl (j:=j) nA)) ?_;ext
 by_cases J:0<tbl (P1 d a) d 0 j
 ·refine ifp (by simpa using J) ?_;show⟨.inl ⟨rfl,_,SqL.of Q⟩,?_⟩;show⟨D,_,_,rfl,rfl,Q,by rw[ax,sizeLine_eq];lia,?_⟩;show⟨D,(aw j).flatMap (fB d a j L)++[0],rfl,SqL.of (by rw[AF,bv];rfl),by rw[aG];simp only[f9];lia,λx hx=>?_,λp ns hp Y hm Z=>?_⟩
  ·have hx':Dq d a j x:=(G x).mp (by
    rcases dW.mp hx with z|z
    ·exact .inl z
    ·exact .inr ⟨by simpa using z,J⟩)
   have:=hx'.bound;lia
  ·have hne:∀b o,H b=some o->b≠D:=λb o z=>AS z M;have hpn:H p=none:=by
    by_cases e:p=D
    ·rw[e];exact M
    ·rw[AI e]at hp;exact B.free hp
   refine q p ns _ hpn (λb o z=>?_) AF ⟨Y,λx=>?_,Z⟩
   ·rw[AI (AS z hpn),AI (hne b o z)];exact B b o z
   ·rw[hm x,<-G x,dW]
    constructor
    ·rintro(z|z)
     ·exact .inl z
     ·exact .inr ⟨by simpa using z,J⟩
    ·rintro(z|z)
     ·exact .inl z
     ·exact .inr (by simp[z.1])
 ·refine ifq (by simpa using J) ?_;show⟨D,(aw j).flatMap (fB d a j L),rfl,SqL.of Q,by lia,λx hx=>?_,λp ns hp Y hm Z=>?_⟩
  ·have hx':Dq d a j x:=(G x).mp (.inl hx);have:=hx'.bound;lia
  ·refine q p ns _ (B.free hp) (B.trans (AJ hp _)) AF ⟨Y,λx=>?_,Z⟩;rw[hm x,<-G x];exact⟨λz=> .inl z,λz=>z.elim id λy=>absurd y.2 J⟩
theorem OO:FuV P w K mg base (k+3) "depths_by_stop" ["k","row"] (Jv):=FnA.u (T.f.at 18) (scN ["k","row","places","sums","found","stop"]) λnd H y h=>by
 obtain⟨B,a,rfl,J,M,Q,q⟩:=h;have hu:=y.units0;refine⟨_,(AD (AO 2 (AM (E4 T) y (AA (pv 0) (AA (pv 1) AB)))) (AD (AO 3 (AM (E6 T) y (AA (pv 2) AB))) (AD (AO 4 (Aa AB)) (AD (A9 nh rfl (CA rfl (T.N 11) (AA (AG AN (Al K (T.N 7) (AA (pv 1) AB)) AC) AB)) (Ah 5) (AE (Ax (A7 K ng no nk B4 (pv 4) (AA (AM (OQ T) y (AA (pv 2) (AA (pv 3) (AA (pv 4) (AA (pv 5) AB))))) AB))))) (AE (AK (pv 4))))))),?_⟩;show D4 J M Q (λpp H1 hp1 s1 X=>?_);show D5 (k:=B.toNat) X (by rw[ax];exact Q) nA (B9 nA) (λsp ad0 H2 tb=>?_);have R:=X.same tb.sm;have en:(a.map (plw (ones B.toNat))).length=a.length:=ax ..;rw[en]at tb;show⟨small (n:=0) nv,λo d=>?_⟩;have s3:=AJ d (.lst []);show⟨_,rfl,by lia,by lia,?_⟩;have et:((a.length:Int)+1).toNat=a.length+1:=by lia
 rw[et];have e:Same H H2:=s1.trans tb.sm;have r:H o=none:=e.free d;refine FN (λj σ H'=>∃ (G:Nat->Addr) (L:List (List Int)) (S:Option V),σ=[some (.int B),some (tx a),some (.ref pp),some (.ref sp),some (.ref o),S]/\PlA H2 H' o G L/\L.length=j/\∀i l,L[i]? =some l->DLq B.toNat a i l)
  ⟨λ_=>0,[],_,rfl,⟨d,(λ_ z=>absurd z (Nat.not_lt_zero _)),AF,(λ_ z=>absurd z (Nat.not_lt_zero _)),s3⟩,rfl,λi l z=>by simp at z⟩ ?_ ?_
 ·intro j σ Y hj U;obtain⟨G,L,S,rfl,b,x,I⟩:=U;have ej:(0:Int)+(j:Int)=(j:Int):=by lia
  rw[ej];show⟨.inl ⟨rfl,_,SqL.of b.top⟩,?_⟩;show Pk (j:=j) (R.same b.sm) (tb.same b.sm) b.pls x nA Q I (λp ns H4 hp Z gp dl=>?_);show⟨o,_,_,rfl,rfl,Z _ _ b.top,by simp only[ax,cY];rw[sizeLine_eq];lia,?_⟩;show⟨_,L++[ns],_,rfl,b.push Z hp gp,by simp[x],λi l z=>?_⟩
  by_cases c:i<L.length
  ·rw[List.getElem?_append_left c]at z;exact I i l z
  ·rw[List.getElem?_append_right nA]at z;have hi:i=L.length:=by
    have:=(az.mp z).1;simp at this;lia
   subst hi;simp at z;subst z;rw[x];exact dl
 ·intro σ Y U;obtain⟨G,L,S,rfl,b,x,I⟩:=U;ext;exact q o Y G L ⟨r,λi hi=>e.free (b.fa i hi),b.top,b.row,e.trans b.sm⟩ x I
theorem J2:Am P w K mg base (k+5) "depths" ["k","row"] (Ju):=FnA.uE (T.f.at 19) (scN ["k","row"]) λnd _ j h=>by
 obtain⟨J,a,rfl,b,d,e,q⟩:=h;have M:=j.units0;have x:=An e;refine B6 ⟨_,(AD (Ax (Ac (Ca T) j Bp (AA (pv 0) (AA (pv 1) AB)))) (AE (AK (AH K (AM (OO T) j (AA (pv 0) (AA (pv 1) AB))) (Bf BZ AC))))),?_⟩;show .inl (B2 b d e (λQ o=>?_));show Pi b d x (λr y z L i B G=>?_);ext;have H:L[a.length]? =some (L.getD a.length []):=by rw[af,ai nA];rfl
 have I:=G _ _ H;refine AL (SqL.of i.top) (v:= .ref (z a.length)) (Dg (by simp;lia) (by simp only[ax,cY];rw[B,am,aU nA];rfl)) ?_;exact q _ _ y (o.free (i.fa _ nA)) (o.trans i.sm) (i.row _ nA) I
theorem JH:Am P w K mg base (k+6) "may_go_on" ["k","row"] (LZ):=FnA.uE (T.f.at 20) (scN ["k","row"]) λnd _ j h=>by
 obtain⟨o,a,rfl,b,d,i,q⟩:=h;have z:=j.units0;refine B6 ⟨_,(AE (AK (BH CF (Al K (T.N 7) (AA (Ac (J2 T) j Bp (AA (pv 0) (AA (pv 1) AB))) AB)) AC))),?_⟩;show JU b d i (λp ns r B x gp y=>?_);show BJ (.inl (SqL.of gp)) ?_;ext;rw[ax];have e:decide ((0:Int)<(ns.length:Int))=goQ o.toNat a:=by
  rw[<-y.goes];exact decide_eq_decide.mpr nA
 rw[e];exact q r x
theorem JA:Am P w K mg base (k+6) "fewest_more" ["k","row"] (Jt):=FnA.uE (T.f.at 21) (scN ["k","row","found"]) λnd _ i h=>by
 obtain⟨z,a,rfl,b,d,e,q⟩:=h;have B:=i.units0;refine B6 ⟨_,(AD (AO 2 (Ac (J2 T) i Bp (AA (pv 0) (AA (pv 1) AB)))) (AE (AK (BL (A6 K (pv 2)) (AH K (pv 2) AC) Aq)))),?_⟩;show JU b d e (λp ns j G o gp y=>?_);ext
 cases ns with
 |nil=>
  refine ET (SqL.of gp) ?_;refine ifq rfl ?_;ext;exact q [] j o y
 |cons x r=>
  refine ET (SqL.of gp) ?_;refine ifp rfl ?_;show AL (SqL.of gp) (Er _ _) ?_;exact q (x::r) j o y
theorem Kw:FuV P w K mg base (k+1) "opens" ["bracket"] (spOpens):=FnA.u (T.f.at 22) (scN ["bracket"]) λnd _ a h=>by
 obtain⟨b,rfl,q⟩:=h;have d:=a.units0;refine⟨_,(AE (AK (BH (Ag K d) (AG DQ (pv 0) AC) AC))),?_⟩;ext;have e:decide ((b:Int)%2=0)=decide (b%2=0):=decide_eq_decide.mpr nA;rw[e];exact q
theorem Iu:MkV P w K mg base (k+4) aC ["self","k","row"] (TB aC):=MtA.m (T.m.at 0) T.C (scN ["self","k","row"]) λnd H hr h=>by
 obtain⟨co,d,Y,a,H0,rfl,k1,k4,hro,hco,h0co,s0,q⟩:=h;have hu:=hr.units0;have hl:=An hro;refine⟨_,(AD (Cf K (pv 0) (AM (E4 T) hr (AA (pv 1) (AA (pv 2) AB)))) (AD (Cf K (pv 0) (AM (E6 T) hr (AA (Ab K (pv 0)) AB))) (AD (Cf K (pv 0) AC) (AD (Cf K (pv 0) (Aa AB)) (AE (Cf K (pv 0) (Aa (AA (A1 (own:=["row_sums"]) (sel:=[]) (Au (osc:=(AU (inClass (top 47) 0))) (N:=["self","k","row"]) nB) rfl (Bx K (Ab K (pv 0))) (λ_ _ _ _ _=>(Af (i:=0) (show(["row_sums"]:List Str).Nodup from by decide +kernel) rfl (kP rfl))) (Ak nv) (λ_ _ _ _ _=>A2) (λ_ _ _ _ _=>(AH K (pv 0) (Bf BZ AC)))) AB)))))))),?_⟩;show D4 k1 k4 hl (λB H1 hpl s1 hP1=>?_);ext;have L:=s1 _ _ hco;refine⟨co,aC,d,[],rfl,L,T.C.cl,(T.C.at 2),by show 0<1000;decide,?_⟩;have g2:(upd H1 co (.ins aC d (Ar "places" (.ref B) []))) co=some (.ins aC d [("places", .ref B)]):=AF;have sb2:SameBut1 co H1 (upd H1 co (.ins aC d (Ar "places" (.ref B) []))):=SameBut1.upd;generalize upd H1 co _=G2 at*
 have npl:B≠co:=λz=>by rw[z,hco]at hpl;cases hpl
 have M:∀b xs,H1 b=some (.lst xs)->G2 b=some (.lst xs):=λb xs z=>sb2 _ _ z λe=>by rw[e,L]at z;cases z
 have hP2:Pls G2 B (a.map (plw (ones Y.toNat))):=by
  obtain⟨pd,h1,h2⟩:=hP1;exact⟨pd,M _ _ h1,λi hi=>M _ _ (h2 i hi)⟩
 show T.C.fl 2 g2 ?_;show D5 (k:=Y.toNat) hP2 (by rw[ax];exact hl) nA (λl hll=>B9 nA l hll) (λsm ad I y=>?_);rw[ax]at y;have g3:=y.sm _ _ g2;have hP3:=hP2.same y.sm;show⟨co,aC,d,_,rfl,g3,T.C.cl,(T.C.at 4),by show 1<1000;decide,?_⟩;have g4:(upd I co (.ins aC d (Ar "sums" (.ref sm) [("places", .ref B)]))) co=some (.ins aC d [("places", .ref B),("sums", .ref sm)]):=AF;have sb4:SameBut1 co I (upd I co (.ins aC d (Ar "sums" (.ref sm) [("places", .ref B)]))):=SameBut1.upd;generalize upd I co _=G4 at*
 show⟨co,aC,d,_,rfl,g4,T.C.cl,(T.C.at 0),by show 2<1000;decide,?_⟩;have g5:(upd G4 co (.ins aC d (Ar "at" (.int 0) [("places", .ref B),("sums", .ref sm)]))) co=some (.ins aC d [("places", .ref B),("sums", .ref sm),("at", .int 0)]):=AF;have sb5:=sb4.trans (SameBut1.upd (p:=co) (H:=G4) (o:= .ins aC d (Ar "at" (.int 0) [("places", .ref B),("sums", .ref sm)])));generalize upd G4 co _=G5 at*
 show⟨small (n:=0) nv,λcl J=>?_⟩;have Z:cl≠co:=λz=>by rw[z,g5]at J;cases J
 have t6:=AJ J (.lst []);have gc6:(upd G5 cl (.lst [])) cl=some (.lst []):=AF;have g6:=t6 _ _ g5;have sb6:=sb5.trans (SameBut1.of (p:=co) t6);have Q:I cl=none:=by
  cases e:I cl with
  |none=>rfl
  |some o=>rw[sb5 _ _ e Z]at J;cases J
 generalize upd G5 cl _=G6 at*
 show⟨co,aC,d,_,rfl,g6,T.C.cl,(T.C.at 1),by show 3<1000;decide,?_⟩;have g7:(upd G6 co (.ins aC d (Ar "closings" (.ref cl) [("places", .ref B),("sums", .ref sm),("at", .int 0)]))) co=some (.ins aC d [("places", .ref B),("sums", .ref sm),("at", .int 0),("closings", .ref cl)]):=AF;have sb7:=sb6.trans (SameBut1.upd (p:=co) (H:=G6) (o:= .ins aC d (Ar "closings" (.ref cl) [("places", .ref B),("sums", .ref sm),("at", .int 0)])));have gc7:(upd G6 co (.ins aC d (Ar "closings" (.ref cl) [("places", .ref B),("sums", .ref sm),("at", .int 0)]))) cl=some (.lst []):=by rw[AI Z];exact gc6
 generalize upd G6 co _=G7 at*
 have nsm:sm≠co:=λz=>by have:=y.fs;rw[z,g2]at this;cases this
 show T.C.fl 4 g7 ?_;ext;have S:=sb7 _ _ y.top nsm;have nad:∀i,i<=a.length->ad i≠co:=λi hi z=>by have:=y.fa i hi;rw[z,g2]at this;cases this
 refine⟨sm,rfl,⟨_,SqL.of S⟩,?_⟩;refine Rh (λi=>V.ref (ad i)) (λi=>V.int (W Y.toNat a i [])) (small nA) S (λD H8 hD s8 hy=>?_) (λi H8 R hi s8 r=>?_)
 rotate_left
 ·have row8:=s8 _ _ (sb7 _ _ (y.row i nA) (nad i nA));show AL (SqL.of row8) (Dg (by rw[Ce];lia) (by rw[Ce,Nat.add_sub_cancel];exact Bl (Nat.le_refl _))) ?_;have e:tbl (pa_ Y.toNat a) Y.toNat i a.length=W Y.toNat a i []:=by unfold tbl W;rw[aO nA]
  have:=r H8 (Same.refl _);rw[<-e]at this;exact this
 have hy:H8 D=some (iL (CY Y.toNat a [])):=by rw[hy];unfold iL CY;rw[d4];rfl
 have g8:=s8 _ _ g7;have gc8:=s8 _ _ gc7;have sb8:=sb7.trans (SameBut1.of (p:=co) s8);show⟨small (n:=1) nv,λrs G=>?_⟩;have nrc:rs≠co:=(AS g8 G).symm;have nrl:cl≠rs:=AS gc8 G;have nrD:D≠rs:=AS hy G;have nDc:D≠co:=(AS g7 hD).symm;have nDl:D≠cl:=(AS gc7 hD).symm;have U:I rs=none:=by
  cases e:I rs with
  |none=>rfl
  |some o=>rw[sb8 _ _ e nrc]at G;cases G
 have t9:=AJ G (.lst [.ref D]);show⟨co,aC,d,_,rfl,by rw[AI nrc.symm];exact g8,T.C.cl,(T.C.at 3),by show 4<1000;decide,?_⟩;have low:∀b o,H0 b=some o->I b=some o/\b≠co:=λb o z=>by
  have hb:b≠co:=AS z h0co;exact⟨y.sm _ _ (sb2 _ _ (s1 _ _ (s0 _ _ z)) hb),hb⟩
 have X:∀ {b:Addr},I b=none->H0 b=none:=fun{b} z=>by
  cases e:H0 b with
  |none=>rfl
  |some o=>rw[(low b o e).1]at z;cases z
 refine q _ ⟨d,B,sm,cl,rs,G2,I,ad,[D],?_⟩;refine{ob:=(by rw[AF];rfl),pls:=hP3,tb:=y,keep:=λb o z hb=>?_,nco:=λxs z=>(by rw[g3]at z;cases z),ncl:=Q,nrs:=U,ne:=nrl,clo:=?_,res:=?_,ral:=rfl,rows:=λj x hx=>?_,h0:=λb o z=>?_,h0co:=h0co,h0cl:=X Q,h0rs:=X U,len:=hl,hk:=nA}
 ·rw[AI hb];exact t9 _ _ (sb8 _ _ z hb)
 ·rw[AI Z,AI nrl];exact gc8
 ·rw[AI nrc,AF];rfl
 ·cases j with
  |zero=>
   have hx:D=x:=Option.some.inj hx;subst hx;exact⟨by rw[AI nDc,AI nrD];exact hy,nDl,nrD⟩
  |succ j=>simp at hx
 ·obtain⟨z1,z2⟩:=low b o z;rw[AI z2];exact t9 _ _ (sb8 _ _ z1 z2)
theorem OG:MeV P w K mg base (k+2) aC "many_in_all" ["self"] (spCAll aC):=MtA.u (T.m.at 1) (scN ["self"]) λnd _ b h=>by
 obtain⟨co,d,a,i,e,j,rfl,⟨o,r,sm,cl,x,Hz,Hb,y,z,c⟩,q⟩:=h;have B:=b.units0;refine⟨_,(AE (AK (AM (E5 T) b (AA (Ab K (pv 0)) AB)))),?_⟩;show T.C.fl 4 c.ob ?_;show Dz c.tbH ?_;exact q
theorem Ir:MeV P w K mg base (k+1) aC "many_closing" ["self","start","closing"] (spCClosing aC):=MtA.u (T.m.at 2) (scN ["self","start","closing","rest"]) λnd _ hr h=>by
 obtain⟨co,b,a,i,B,H0,d,p,rfl,⟨dx,pl,sm,cl,rs,Hz,Hb,ad,ra,c⟩,G,hp,q⟩:=h;have hu:=hr.units0;have Z:=c.len;have hk:=c.hk;obtain⟨x0,H,I⟩:=c.top;refine⟨_,(AD (CM (i:=3) nd rfl (Or.inr rfl) (AH K (Ab K (pv 0)) (Bf BZ AC))) (AE (AK (Aj (FC K rfl) rfl (T.N 15) PyProof.Rows.boot_sum (AA (A1 (own:=["end"]) (sel:=[3,2,1,0]) (Au (osc:=(AU (inClass (top 47) 2))) (N:=["self","start","closing","rest"]) nB) rfl (B3 rfl (T.N 11) (AA (pv 1) (AA (Al K (T.N 7) (AA (Ab K (pv 0)) AB)) (AA AC AB)))) (λ_ _ _ _ _=>(Af (i:=0) (show(["end","rest","closing","start","self"]:List Str).Nodup from by decide +kernel) rfl (kP rfl))) (Ak nv) (λ_ _ _ _ _=>A2) (λ_ _ _ _ _=>(AG BV (AG BV (AH K (AH K (Ab K (pv 4)) (pv 3)) (pv 0)) (AH K (AH K (Ab K (pv 4)) (pv 0)) (pv 2))) (AH K (pv 1) (AG AN (pv 0) AC))))) AB))))),?_⟩;show T.C.fl 3 c.ob ?_;show AL (SqL.of c.res) H ?_;show T.C.fl 2 c.ob ?_;obtain⟨px,J,y⟩:=Lm c.plH;rw[ax]at y;show BJ (.inl (SqL.of J)) ?_;rw[y];show⟨_,_,_,rfl,⟨by decide,by decide,CH nA nA nA nA⟩,?_⟩;rw[show rN (d:Int) (a.length:Int) 2=(a.length-d+1)/2 by rw[CL];lia];refine Jo (λe=>V.int (tbl (pa_ b a) b d (d+2*e)*pa_ b a (d+2*e) (2*p+1)*W b a (d+2*e+1) B)) (small nA) (λD L hD o hy=>?_) (λe L R he o r=>?_)
 ·have em:((aw ((a.length-d+1)/2)).map λe=>V.int (tbl (pa_ b a) b d (d+2*e)*pa_ b a (d+2*e) (2*p+1)*W b a (d+2*e+1) B))=((aw ((a.length-d+1)/2)).map λe=>tbl (pa_ b a) b d (d+2*e)*pa_ b a (d+2*e) (2*p+1)*W b a (d+2*e+1) B).map V.int:=by rw[d4];rfl
  rw[em]at hy;show Fl (SqL.of hy) ?_;rw[E7,<-Uv b a d p B G];exact q L o
 obtain⟨j,eE⟩:∃j:Nat,j=d+2*e:=⟨_,rfl⟩;have e2:((d:Int)+(e:Int)*2)=(j:Int):=by lia
 have hE:j<a.length:=by lia
 rw[<-eE]at r;rw[e2];have z:=o _ _ c.ob;have x:=c.tbH;obtain⟨ps,px1,M,Q,lps,S⟩:=Me c.plH (i:=j) (by rw[ax];exact hE);have U:(a.map (plw (ones b))).getD j []∈a.map (plw (ones b)):=by
  rw[af,ai (by rw[ax];exact hE)];exact dF _
 have hll:=(B9 hk _ U).1;show T.C.fl 4 z ?_;show AL (SqL.of (o _ _ x.top)) (AT (x.at (i:=d) G)) ?_;show AL (SqL.of (o _ _ (x.row d G))) (AT (Bl nA)) ?_;show T.C.fl 2 z ?_;show AL (SqL.of (o _ _ M)) (AT Q) ?_;ext;have X:(2*(p:Int)+1)=((2*p+1:Nat):Int):=by lia
 have Y:(((a.map (plw (ones b))).getD j []).map V.int)[2*p+1]? =some (.int (pa_ b a j (2*p+1))):=by
  rw[am,ai (show 2*p+1<((a.map (plw (ones b))).getD j []).length by lia)];show some (V.int _)=some (V.int (((a.map (plw (ones b))).getD j []).getD (2*p+1) 0));rw[af (l:=(a.map (plw (ones b))).getD j []),ai (show 2*p+1<((a.map (plw (ones b))).getD j []).length by lia)]
  rfl
 rw[X];refine AL (SqL.of (o _ _ S)) (AT Y) ?_;show Bb (nab (HC hk nA).1 (HC hk nA).2 FX) (nab (EZ hk _ _).1 (EZ hk _ _).2 DJ) ?_;ext;have e3:((j:Int)+1)=((j+1:Nat):Int):=by lia
 rw[e3];refine AL (SqL.of (o _ _ I)) (AT (Lj nA)) ?_;show Bb (Uy hk nA) (nab (Fs hk Z _ _).1 (Fs hk Z _ _).2 FX) ?_;exact r L (Same.refl _)
theorem F5:MeV P w K mg base (k+2) aC "many_with" ["self","bracket"] (spCWith aC):=MtA.u (T.m.at 3) (scN ["self","bracket"]) λnd H J h=>by
 obtain⟨co,d,a,i,I,H0,b,rfl,U,hi,hb,q⟩:=h;obtain⟨dx,pl,sm,cl,rs,Hz,Hb,ad,ra,c⟩:=id U;have X:=J.units0;have hl:=c.len;have hk:=c.hk;obtain⟨ps,px1,L,M,lps,Q⟩:=Me c.plH (i:=i) (by rw[ax];exact hi);have R:(a.map (plw (ones d))).getD i []∈a.map (plw (ones d)):=by
  rw[af,ai (by rw[ax];exact hi)];exact dF _
 have hll:=(B9 hk _ R).1;have S:(((a.map (plw (ones d))).getD i []).map V.int)[b]? =some (.int (pa_ d a i b)):=by
  rw[am,ai (show b<((a.map (plw (ones d))).getD i []).length by lia)];show some (V.int _)=some (V.int (((a.map (plw (ones d))).getD i []).getD b 0));rw[af (l:=(a.map (plw (ones d))).getD i []),ai (show b<((a.map (plw (ones d))).getD i []).length by lia)]
  rfl
 refine⟨_,(AD (AV (AR (Ag K X) (AH K (AH K (Ab K (pv 0)) (Ab K (pv 0))) (pv 1)) AC) (AE (AK AC)) AW) (AD (AV (A6 K (AM (Kw T) J (AA (pv 1) AB))) (AE (AK (DP T.C.cl (Ir T) J (pv 0) (AA (AG AN (Ab K (pv 0)) AC) (AA (AG AN (pv 1) AC) AB))))) AW) (AD (AV (PW.pt (BS (BR (A6 K (Ab K (pv 0)))) (Bc (AR (BN K X) (AH K (Ab K (pv 0)) (Bf BZ AC)) (pv 1))))) (AE (AK AC)) AW) (AE (AK (AH K (AH K (Ab K (pv 0)) (Bf BZ AC)) (AG AN (Ab K (pv 0)) AC))))))),?_⟩;show T.C.fl 2 c.ob ?_;show T.C.fl 0 c.ob ?_;show AL (SqL.of L) (AT M) ?_;show AL (SqL.of Q) (AT S) ?_;ext
 by_cases z:pa_ d a i b=0
 ·refine ifp (ba z) ?_;ext;have e:mw d a i I b=0:=by
   unfold mw
   split
   ·rw[z,Int.zero_mul]
   ·cases I with
    |nil=>rfl
    |cons o r=>
     show(if 2*o+1=b then pa_ d a i b*W d a (i+1) r else 0)=0
     split
     ·rw[z,Int.zero_mul]
     ·rfl
  have:=q H (Same.refl H);rw[e]at this;exact this
 have Y:pa_ d a i b=1:=(IK hk hi).resolve_left z;refine ifq (aX z) ?_;show J1 ?_;ext;have Z:((i:Int)+1)=((i+1:Nat):Int):=by lia
 by_cases j:b%2=0
 ·refine ifp (ba j) ?_;show⟨co,dx,_,rfl,c.ob,rfl,?_⟩;show T.C.fl 0 c.ob ?_;ext;have e2:((b:Int)+1)=2*((b/2:Nat):Int)+1:=by lia
  rw[Z,e2];refine⟨co,d,a,i,I,H0,i+1,b/2,rfl,U,by lia,by lia,λH' r=>?_⟩;have:=q H' r;unfold mw at this;rw[aO j,Y,Int.one_mul]at this;exact this
 refine ifq (aX j) ?_;show T.C.fl 1 c.ob ?_;refine ET (SqL.of c.clo) ?_
 cases I with
 |nil=>
  show ifp rfl ?_;refine ifp rfl ?_;ext;have:=q H (Same.refl H);unfold mw at this;rw[aB j]at this;exact this
 |cons o r=>
  have ee:(Bv (o::r)).isEmpty=false:=by rw[D8];simp
  rw[ee];show ifq rfl ?_;show T.C.fl 1 c.ob ?_;show AL (SqL.of c.clo) (RP o r) ?_;ext
  by_cases B:2*o+1=b
  ·refine ifq (by rw[show(2*(o:Int)+1)=(b:Int) by lia];simp) ?_;show T.C.fl 3 c.ob ?_;ext;obtain⟨x1,G⟩:∃x,ra[r.length]? =some x:=⟨_,ai (by rw[c.ral,aM];lia)⟩;have y:=(c.rows _ x1 G).1;rw[aM,show r.length+1-r.length=1 by lia,List.drop_one,List.tail_cons]at y;refine AL (SqL.of c.res) (Sy (by rw[ax,c.ral,aM];lia) (by rw[ax,c.ral,aM,am,show r.length+1+1-2=r.length by lia,G];rfl)) ?_;show T.C.fl 0 c.ob ?_;ext;rw[Z];refine AL (SqL.of y) (AT (Lj nA)) ?_;have:=q H (Same.refl H);unfold mw at this;rw[aB j]at this;simp only[aO B,Y,Int.one_mul]at this;exact this
  ·refine ifp (by rw[Bool.not_eq_true',decide_eq_false_iff_not];lia) ?_;ext;have:=q H (Same.refl H);unfold mw at this;rw[aB j]at this;simp only[aB B]at this;exact this
theorem JC:MeV P w K mg base (k+2) aC "take" ["self","bracket"] (spCTake aC):=MtA.u (T.m.at 4) (scN ["self","bracket","rest"]) @λ_ _ _ _ s _ _ _ nd H hr h=>by
 obtain⟨co,U,a,i,st,H0,b,rfl,hC,hi,hb,hst,hne,q⟩:=h;obtain⟨B,J,sm,cl,rs,Hz,Hb,X,ra,c⟩:=id hC;have hu:=hr.units0;have hl:=c.len;have hk:=c.hk;refine⟨_,(AD (P4 K L9 (pv 0) AC) (AE (AV (A6 K (AM (Kw T) hr (AA (pv 1) AB))) (AD (F9 (i:=2) nd rfl (kP rfl) (own:=["start"]) (sel:=[0,1]) (Au (osc:=(AU (inClass (top 47) 4))) (N:=["self","bracket","rest"]) nB) rfl (CA rfl (T.N 11) (AA (AG AN (Al K (T.N 7) (AA (Ab K (pv 0)) AB)) AC) AB)) (λ_ _ _ _ _=>(Af (i:=0) (show(["start","self","bracket"]:List Str).Nodup from by decide +kernel) rfl (kP rfl))) (Ak nv) (λ_ _ _ _ _=>A2) (λ_ _ _ _ _=>(DP T.C.cl (Ir T) hr (pv 1) (AA (pv 0) (AA (AG AN (pv 2) AC) AB))))) (AD (Ax (A7 K ng no nk B4 (Ab K (pv 0)) (AA (pv 2) AB))) (AE (Ax (A7 K ng no nk B4 (Ab K (pv 0)) (AA (AG AN (pv 1) AC) AB)))))) (AD (Ax (HR K ng PySem.F.slot_list_pop PySem.F.type_list_pop Hu (Ab K (pv 0)))) (AE (Ax (HR K ng PySem.F.slot_list_pop PySem.F.type_list_pop Hu (Ab K (pv 0))))))))),?_⟩;show⟨co,aC,B,_,_,(rfl),c.ob,T.C.cl,(T.C.at 0),rfl,?_⟩;show .inl ⟨_,_,rfl,rfl,?_⟩;refine⟨B,_,c.ob,by show 5<1000;decide,?_⟩;have e1:(((i+1:Nat):Int))=(i:Int)+1:=by lia
 have d:CoS aC H0 (upd H co (.ins aC B (Ar "at" (.int ((i:Int)+1)) (cf J sm cl rs i)))) co U a (i+1) st B J sm cl rs Hz Hb X ra:=by
  have c0:=c.at (i+1);have e0:cf J sm cl rs (((i+1:Nat):Int))=Ar "at" (.int ((i:Int)+1)) (cf J sm cl rs i):=by rw[e1];rfl
  rw[e0]at c0;exact c0
 generalize upd H co _=G1 at*
 have hC1:Co aC H0 G1 co U a (i+1) st:=⟨B,J,sm,cl,rs,Hz,Hb,X,ra,d⟩;show J1 ?_;ext
 by_cases G:b%2=0
 ·have M:stb st b=b/2::st:=by unfold stb;rw[aO G]
  rw[M]at q;have e2:((b:Int)+1)=2*((b/2:Nat):Int)+1:=by lia
  refine ifp (ba G) ?_;show T.C.fl 2 d.ob ?_;obtain⟨px,gpl,Y⟩:=Lm d.plH;rw[ax]at Y;show BJ (.inl (SqL.of gpl)) ?_;rw[Y];show⟨_,rfl,by lia,by lia,?_⟩;rw[show((a.length:Int)+1).toNat=a.length+1 by lia];refine Ka (λs=>V.int (W U a s (b/2::st))) (small nA) (λD H2 hD I hy=>?_) (λj H2 R hj I r=>?_)
  rotate_left
  ·have ej:(0:Int)+(j:Int)=(j:Int):=by lia
   rw[ej];show⟨co,B,_,rfl,I _ _ d.ob,rfl,?_⟩;ext;rw[e2];exact⟨co,U,a,i+1,st,H0,j,b/2,rfl,hC1.same I,by lia,by lia,λH3 s3=>r H3 s3⟩
  have hy:H2 D=some (iL (CY U a (b/2::st))):=by rw[hy];unfold iL CY;rw[d4];rfl
  have nDc:D≠cl:=(AS d.clo hD).symm;have nDr:D≠rs:=(AS d.res hD).symm;have Q:=I _ _ d.ob;have y:=I _ _ d.res;have L:=I _ _ d.clo;show T.C.fl 3 Q ?_;refine⟨.inl ⟨rfl,_,SqL.of y⟩,?_⟩;show⟨rs,_, .ref D,rfl,rfl,y,by rw[ax,d.ral,sizeLine_eq];lia,?_⟩;have c2:CoS aC H0 H2 co U a (i+1) st B J sm cl rs Hz Hb X ra:=by
   exact{ob:=Q,pls:=d.pls,tb:=d.tb,keep:=λb o z n=>I _ _ (d.keep b o z n),nco:=d.nco,ncl:=d.ncl,nrs:=d.nrs,ne:=d.ne,clo:=L,res:=y,ral:=d.ral,rows:=λj x hx=>⟨I _ _ (d.rows j x hx).1,(d.rows j x hx).2⟩,h0:=d.h0.trans I,h0co:=d.h0co,h0cl:=d.h0cl,h0rs:=d.h0rs,len:=d.len,hk:=d.hk}
  have c3:=c2.push hy nDc nDr;have S:=c2.nl y;show T.C.fl 1 (by rw[AI S.symm];exact Q) ?_;have e:(upd H2 rs (.lst (ra.map V.ref++[.ref D]))) cl=some (.lst (Bv st)):=by rw[AI d.ne];exact L
  refine⟨.inl ⟨rfl,_,SqL.of e⟩,?_⟩;ext;rw[e2];refine⟨cl,_,_,rfl,rfl,e,by unfold Bv;rw[ax,List.length_reverse,sizeLine_eq];lia,?_⟩;show q _ ⟨B,J,sm,cl,rs,Hz,Hb,X,ra++[D],?_⟩;have ea:(ra++[D]).map V.ref=ra.map V.ref++[.ref D]:=by rw[bv];rfl
  rw[ea,D8]at c3;exact c3
 have M:stb st b=st.tail:=by unfold stb;rw[aB G]
 rw[M]at q;refine ifq (aX G) ?_
 cases st with
 |nil=>exact absurd rfl (hne nA)
 |cons o s'=>
  have c3:=d.pop;have S:=d.nl d.res;have Z:=d.ral;rw[aM]at Z;obtain⟨xl,hxl⟩:∃x,(ra.map V.ref)[(ra.map V.ref).length-1]? =some x:=⟨_,ai (by rw[ax];lia)⟩;show T.C.fl 3 d.ob ?_;refine⟨.inl ⟨rfl,_,SqL.of d.res⟩,?_⟩;refine⟨rs,_,xl,rfl,rfl,d.res,hxl,?_⟩;have edl:(ra.map V.ref).dropLast=ra.dropLast.map V.ref:=by rw[List.map_dropLast]
  rw[edl];show T.C.fl 1 (by rw[AI S.symm];exact d.ob) ?_;have e:(upd G1 rs (.lst (ra.dropLast.map V.ref))) cl=some (.lst (Bv (o::s'))):=by rw[AI d.ne];exact d.clo
  refine⟨.inl ⟨rfl,_,SqL.of e⟩,?_⟩;refine⟨cl,_, .int (2*(o:Int)+1),rfl,rfl,e,by rw[D8];simp,?_⟩;have ecl:(Bv (o::s')).dropLast=Bv s':=by rw[D8,List.dropLast_concat]
  rw[ecl];ext;exact q _ ⟨B,J,sm,cl,rs,Hz,Hb,X,ra.dropLast,c3⟩
theorem F6:Am P w K mg base (k+5) "nth_filling" ["k","row","i"] (MV K cs):=FnA.uE (T.f.at 23) (scN ["k","row","i","course","left","found","bracket"]) λnd H I h=>by
 have hu:=I.units0;refine⟨_,(AD (Ax (Ac (Ca T) I A3 (AA (pv 0) (AA (pv 1) AB)))) (AD (AO 3 (Mh (Iu T) I T.C.c (AA (pv 0) (AA (pv 1) AB)))) (AD (AV (PW.pt (BS (BR (A6 K (AM (JM T) I (AA (pv 2) AB)))) (Bc (BR (FG CT IL AC (pv 2) (UA T.C.cl (OG T) I (pv 3))))))) (AE (DI (T.c.at 5).2 (T.c.at 5).1 I.hd DR (AA DA AB))) AW) (AD (AO 4 (pv 2)) (AD (AO 5 (pxt [])) (AD (PS.nox (Gj nh (AR IL (Al K (T.N 7) (AA (pv 5) AB)) (Al K (T.N 7) (AA (pv 1) AB))) (AD (AO 6 AC) (AD (Gj nh (AR NP (pv 4) (DP T.C.cl (F5 T) I (pv 3) (AA (pv 6) AB))) (AD (EW (i:=4) nd rfl (kP rfl) (DP T.C.cl (F5 T) I (pv 3) (AA (pv 6) AB)) WI) (AE (EW (i:=6) nd rfl (kP rfl) AC DC)))) (AD (Ax (DP T.C.cl (JC T) I (pv 3) (AA (pv 6) AB))) (AE (EW (i:=5) nd rfl (kP rfl) (AH K (Ai (T.g.at 3)) (pv 6)) L9))))))) (AE (AK (pv 5))))))))),?_⟩;rcases h with⟨kk,a,n,rfl,k1,k4,hro,n0,n1,q⟩|⟨kv,v,iv,rfl,g|⟨kk,a,rfl,rfl,k1,k4,hro,⟨ty,hT,hp,hi⟩,rf⟩⟩
 rotate_left
 ·ext;exact .inr ⟨kv,v,rfl,g.pass (Same.refl H)⟩
 ·have hu:=I.units0;have hl:=An hro;show .inl (B2 k1 k4 hro (λj s1=>?_));ext;intro co r J Q hne;have s2:Same j (upd (upd j r (.own co)) co (.ins aC r [])):=λx o z=>by rw[AI (AS z J),AI (AS z Q)];exact z
  show⟨co,r,kk,a,j,rfl,k1,k4,hro,AF,J,s2,λH2 R=>?_⟩;refine⟨rfl,?_⟩;have S:Same H H2:=by
   obtain⟨_,_,_,_,_,_,_,_,_,c⟩:=id R;exact s1.trans c.h0
  obtain⟨U,pl2,sm2,cl2,rs2,X⟩:∃r Y sm cl Z,H2 co=some (.ins aC r (cf Y sm cl Z ((0:Nat):Int))):=by
   obtain⟨r,Y,sm,cl,Z,_,_,_,_,c⟩:=id R;exact⟨r,Y,sm,cl,Z,c.ob⟩
  show⟨iv,ty,rfl,hT.same S,hp,?_⟩;ext
  by_cases e:ty="int"
  ·subst e;obtain⟨i,rfl⟩:=hT.int_of rfl;have hi:=hi i rfl;rw[ba rfl];refine ifq rfl ?_;ext
   by_cases h1:0<=i
   ·refine ifp (ba h1) ?_;show⟨co,U,_,rfl,X,rfl,?_⟩;show⟨co,kk.toNat,a,0,[],j,rfl,R,?_⟩;have hW:W kk.toNat a 0 []=zQ2 kk.toNat a:=rfl;rw[hW];show ifp (by rw[aX nA];rfl) ?_;ext;exact⟨small nv,λy hy=>rf y H2 S (S.free hy)⟩
   ·refine ifq (aX h1) ?_;show ifp rfl ?_;ext;exact⟨small nv,λy hy=>rf y H2 S (S.free hy)⟩
  ·rw[aX e];refine ifp rfl ?_;show ifp rfl ?_;ext;exact⟨small nv,λy hy=>rf y H2 S (S.free hy)⟩
 ·have hu:=I.units0;have hl:=An hro;ext;have hk4:kk.toNat<=4:=by lia
  refine .inl (B2 k1 k4 hro (λj s1=>?_));ext;intro co r J Q hne;have s2:Same j (upd (upd j r (.own co)) co (.ins aC r [])):=λx o z=>by rw[AI (AS z J),AI (AS z Q)];exact z
  show⟨co,r,kk,a,j,rfl,k1,k4,hro,AF,J,s2,λH2 R=>?_⟩;refine⟨rfl,?_⟩;have same:∀ {H':Hp} {i d},Co aC j H' co kk.toNat a i d->Same H H':=fun{H' i d} C=>by
   obtain⟨_,_,_,_,_,_,_,_,_,c⟩:=C;exact s1.trans c.h0
  have obj:∀ {H':Hp} {i d},Co aC j H' co kk.toNat a i d->∃r Y sm cl Z,H' co=some (.ins aC r (cf Y sm cl Z i)):=fun{H' i d} C=>by
   obtain⟨r,Y,sm,cl,Z,_,_,_,_,c⟩:=C;exact⟨r,Y,sm,cl,Z,c.ob⟩
  show Jn ?_;show ifq rfl ?_;show ifp (ba n0) ?_;ext;obtain⟨U,pl2,sm2,cl2,rs2,X⟩:=obj R;refine⟨co,U,_,rfl,X,rfl,?_⟩;show⟨co,kk.toNat,a,0,[],j,rfl,R,?_⟩;have hW:W kk.toNat a 0 []=zQ2 kk.toNat a:=rfl;rw[hW];show ifq (by rw[ba n1];rfl) ?_;show GZ (λσ H'=>∃ (bs d:List Nat) (M:Int) (o6:Option V),σ=[some (.int kk),some (tx a),some (.int n),some (.ref co),some (.int M),some (tx (brt bs)),o6]/\Co aC j H' co kk.toNat a bs.length d/\bs.length<=a.length/\(∀o∈d,o<kk.toNat)/\d.length<=bs.length/\0<=M/\M<W kk.toNat a bs.length d/\∀rest,NF kk.toNat a bs.length d M rest->NF kk.toNat a 0 [] n (bs++rest))
   (λσ _=>match σ with|[_,_,_,_,_,some (.str x),_]=>a.length-x.cps.toList.length|_=>0) ⟨[],[],n,_,rfl,R,Nat.zero_le _,(λ_ h=>nomatch h),Nat.le_refl _,n0,n1,λrest h=>h⟩ ?_
  intro σ H3 z_;obtain⟨bs,d,M,o6,rfl,C3,hbl,hst,hsl,l0,l1,hnf⟩:=z_;have hbt:(brt bs).length=bs.length:=by unfold brt;rw[ax]
  show ifd (λhc=>?_) (λhc=>?_)
  rotate_left
  ·have he:bs.length=a.length:=by lia
   ext;rw[he,IV]at l1;have hst0:d=[]:=by
    by_cases z:d=[]
    ·exact z
    ·rw[aB z]at l1;lia
   rw[aO hst0]at l1;refine q bs H3 (same C3) ?_ he;have:=hnf [] ⟨he,by lia⟩;rw[List.append_nil]at this;exact this
  refine Ga ?_;have L:bs.length<a.length:=by lia
  have htot:=Mq L hst;show GZ (λσ H'=>∃ (b:Nat) (l2:Int),σ=[some (.int kk),some (tx a),some (.int n),some (.ref co),some (.int l2),some (tx (brt bs)),some (.int (b:Int))]/\Co aC j H' co kk.toNat a bs.length d/\b<2*kk.toNat/\l2=M-sm b (mw kk.toNat a bs.length d)/\0<=l2)
   (λσ _=>match σ with|[_,_,_,_,_,_,some (.int b)]=>10-b.toNat|_=>0) ⟨0,M,rfl,C3,by lia,by show M=M-0;lia,l0⟩ ?_
  intro σ H4 z_;obtain⟨b,l2,rfl,C4,hb,el,hl2⟩:=z_;obtain⟨dx4,pl4,sm4,cl4,rs4,ob4⟩:=obj C4;show⟨co,dx4,_,rfl,ob4,rfl,?_⟩;show⟨co,kk.toNat,a,bs.length,d,j,b,rfl,C4,L,hb,λH5 s5=>?_⟩;have C5:=C4.same s5;have B:sm (b+1) (mw kk.toNat a bs.length d)=sm b (mw kk.toNat a bs.length d)+mw kk.toNat a bs.length d b:=rfl;show ifd (λhc2=>?_) (λhc2=>?_)
  ·refine Ga ?_;obtain⟨dx5,pl5,sm5,cl5,rs5,ob5⟩:=obj C5;have hb2:b+1<2*kk.toNat:=by
    by_cases z:b+1<2*kk.toNat
    ·exact z
    ·rw[show b+1=2*kk.toNat by lia,htot]at B;lia
   show⟨co,dx5,_,rfl,ob5,rfl,?_⟩;show⟨co,kk.toNat,a,bs.length,d,j,b,rfl,C5,L,hb,λH6 s6=>?_⟩;ext;have eb:((b:Int)+1)=((b+1:Nat):Int):=by lia
   rw[eb];refine⟨⟨b+1,_,rfl,C5.same s6,hb2,by rw[B];lia,by lia⟩,?_⟩;show 10-((b+1:Nat):Int).toNat<10-((b:Nat):Int).toNat;lia
  ·obtain⟨dx5,pl5,sm5,cl5,rs5,ob5⟩:=obj C5;obtain⟨ew,hodd,hst',hlen'⟩:=Mp hk4 hl L hst hb nA;show⟨co,dx5,_,rfl,ob5,rfl,?_⟩;show⟨co,kk.toNat,a,bs.length,d,j,b,rfl,C5,L,hb,hsl,hodd,λH6 C6=>?_⟩;ext;have hbr:brs[b]? =some (brs.getD b 0):=by
    have:b<8:=by lia
    match b,this with
    |0,_=>rfl
    |1,_=>rfl
    |2,_=>rfl
    |3,_=>rfl
    |4,_=>rfl
    |5,_=>rfl
    |6,_=>rfl
    |7,_=>rfl
   refine BO (a:=brs) (small (n:=8) nv) (AT hbr) ?_;show .inr ⟨brt bs,[brs.getD b 0],rfl,rfl,small (by rw[hbt,f9];lia),?_⟩;have ebt:brt bs++[brs.getD b 0]=brt (bs++[b]):=by unfold brt;rw[bv];rfl
   have G:(bs++[b]).length=bs.length+1:=by rw[aG,f9]
   rw[ebt];ext;show⟨⟨bs++[b],stb d b,l2,_,rfl,by rw[G];exact C6,by lia,hst',by lia,hl2,?_,λrest hr2=>?_⟩,?_⟩
   ·rw[G,<-ew];lia
   ·rw[List.append_assoc];refine hnf ([b]++rest) ⟨hb,by lia,by rw[B];lia,?_⟩;rw[G,el]at hr2;exact hr2
   ·show a.length-(brt (bs++[b])).toArray.toList.length<a.length-(brt bs).toArray.toList.length;have h2:(brt (bs++[b])).length=bs.length+1:=by unfold brt;rw[ax,G]
    simp only[List.toList_toArray];lia
theorem OI:Am P w K mg base (k+6) "is_right_filling" ["k","row","thing"] (spIsFillE K):=FnA.uE (T.f.at 24) (scN ["k","row","thing"]) λnd H B h=>by
 obtain⟨o,a,x,rfl,k1,k4,G,Y⟩:=h;have Z:=B.units0;have hl:=An G;refine B6 ⟨_,(AD (AV (PW.pt (BS (BR (A6 K (Ac (Je T) B Bp (AA (pv 0) (AA (pv 2) AB))))) (BS (AR (BN K Z) (Al K (T.N 7) (AA (pv 2) AB)) (Al K (T.N 7) (AA (pv 1) AB))) (Bc (BR (A6 K (Ac (GB T) B Bp (AA (pv 0) (AA (pv 2) AB))))))))) (AE (AK B0)) AW) (AE (AK (Aj (D9 K rfl) rfl (T.N 1) PyProof.Rows.boot_all (AA (A1 (own:=["sign","bracket"]) (sel:=[]) (Au (osc:=(AU (top 49))) (N:=["k","row","thing"]) nB) rfl (EL K rfl (T.N 16) (AA (pv 1) (AA (pv 2) AB))) (λ_ _ _ _ _=>(By (n:=2) K rfl (As (Af (i:=0) (show(["sign","bracket"]:List Str).Nodup from by decide +kernel) rfl (kP rfl)) (As (Af (i:=1) (show(["sign","bracket"]:List Str).Nodup from by decide +kernel) rfl (kP rfl)) Bm)))) (Ea (CK BY (EO BY CQ) (Ak nv) (CK BY CQ (Ak nv) Eb))) (λ_ _ _ _ _=>A2) (λ_ _ _ _ _=>(BH (Ck K) (pv 0) (BM (AA (Ai (T.g.at 4)) (AA (pv 1) AB))) nE))) AB))))),?_⟩;ext;rcases Y with⟨b,rfl,hb,q⟩|⟨ty,I,J,hs,q⟩
 rotate_left
 ·refine .inl ⟨o,x,rfl,k1,k4, .inr ⟨ty,I,J,hs,?_⟩⟩;show ifp rfl ?_;show ifp rfl ?_;ext;exact q H (Same.refl H)
 refine .inl (Kz k1 k4 hb (λS y=>?_));ext
 by_cases j:AQ o b=true
 rotate_left
 ·have j:AQ o b=false:=by simpa using j
  have e:filB o a b=false:=by unfold filB;rw[j];rfl
  rw[e]at q;refine ifp (by rw[j];rfl) ?_;show ifp rfl ?_;ext;exact q S y
 have hbl:=An j;refine ifq (by rw[j];rfl) ?_;ext
 by_cases L:b.length=a.length
 rotate_left
 ·have e:filB o a b=false:=by unfold filB;rw[aX L,Bool.and_false];rfl
  rw[e]at q;refine ifp (by rw[aX nA];rfl) ?_;show ifp rfl ?_;ext;exact q S y
 refine ifq (by rw[ba nA];rfl) ?_;show .inl (GF k1 k4 j (λH2 U=>?_));ext
 by_cases z:Rt b
 rotate_left
 ·have e:filB o a b=false:=by unfold filB;rw[aX z,Bool.and_false];rfl
  rw[e]at q;rw[aX z];refine ifp rfl ?_;ext;exact q H2 (y.trans U)
 rw[ba z];refine ifq rfl ?_;show LO (λc d=> .bl (decide (c=63)||decide (c=d))) L (small nA) (λD M hD X hy=>?_) (λi c d Ta M R hc hd X I r=>?_)
 ·ext;have Q:SqL K M D (((aw a.length).map λi=>(decide (a.getD i 0=63)||decide (a.getD i 0=b.getD i 0))).map V.bl):=by rw[d4];exact SqL.of hy
  refine Ek Q ?_;have e:(((aw a.length).map λi=>(decide (a.getD i 0=63)||decide (a.getD i 0=b.getD i 0))).all id)=filB o a b:=by
   unfold filB;rw[j,ba L,ba z,Bool.true_and,Bool.true_and,Bool.true_and,List.all_map]
   rfl
  rw[e];exact q M ((y.trans U).trans X)
 ·refine DL (SqT.of I) rfl ?_;show⟨small (n:=2) nv,λp J=>?_⟩;refine Ej (.inr (SqT.of AF)) rfl rfl ?_;rw[Xw];exact r _ (AJ J _)
theorem JG:Am P w K mg base (k+7) "number_of" ["k","row","filling"] (Js K cs):=FnA.uE (T.f.at 25) (scN ["k","row","filling","course","number","sign","bracket"]) λnd H G h=>by
 have hu:=G.units0;refine⟨_,(AD (Ax (Ac (Ca T) G A3 (AA (pv 0) (AA (pv 1) AB)))) (AD (AV (BR (A6 K (Ac (OI T) G A3 (AA (pv 0) (AA (pv 1) (AA (pv 2) AB)))))) (AE (DI (T.c.at 3).2 (T.c.at 3).1 G.hd DR (AA DA AB))) AW) (AD (CM (i:=3) nd rfl (Or.inr rfl) (Mh (Iu T) G T.C.c (AA (pv 0) (AA (pv 1) AB)))) (AD (AO 4 AC) (AD (PS.nox (A9 nh rfl (CN (pv 2)) (Ah 5) (AD (AO 6 (A7 K nr PySem.F.slot_str_index PySem.F.type_str_index SU (Ai (T.g.at 3)) (AA (pv 5) AB))) (AD (EW (i:=4) nd rfl (kP rfl) (Aj (FC K rfl) rfl (T.N 15) PyProof.Rows.boot_sum (AA (A1 (own:=["earlier"]) (sel:=[3]) (Au (osc:=(AU (top 50))) (N:=["k","row","filling","course","number","sign","bracket"]) nB) rfl (CA rfl (T.N 11) (AA (pv 6) AB)) (λ_ _ _ _ _=>(Af (i:=0) (show(["earlier","course"]:List Str).Nodup from by decide +kernel) rfl (kP rfl))) (Ak nv) (λ_ _ _ _ _=>A2) (λ_ _ _ _ _=>(DP T.C.cl (F5 T) G (pv 1) (AA (pv 0) AB)))) AB)) DC) (AE (Ax (DP T.C.cl (JC T) G (pv 3) (AA (pv 6) AB)))))))) (AE (AK (pv 4)))))))),?_⟩;rcases h with⟨kk,a,bs,rfl,k1,k4,hro,hfl,q⟩|⟨kv,v,x,rfl,g|⟨kk,a,rfl,rfl,k1,k4,hro,hno,rf⟩⟩
 rotate_left
 ·ext;exact .inr ⟨kv,v,rfl,g.pass (Same.refl H)⟩
 ·have hu:=G.units0;show .inl (B2 k1 k4 hro (λH1 Y=>?_));show⟨kk,a,x,rfl,k1,k4,hro,?_⟩;rcases hno with⟨b,rfl,Z,hf⟩|⟨ty,hT,hp,hs⟩
  ·refine .inl ⟨b,rfl,Z,λB s2=>?_⟩;rw[hf];show ifp rfl ?_;ext;have J:=Y.trans s2;exact⟨small nv,λy U=>rf y B J (J.free U)⟩
  ·refine .inr ⟨ty,hT.same Y,hp,hs,λB s2=>?_⟩;show ifp rfl ?_;ext;have J:=Y.trans s2;exact⟨small nv,λy U=>rf y B J (J.free U)⟩
 ·have hu:=G.units0;have hl:=An hro;have hk4:kk.toNat<=4:=by lia
  have hbl:=hfl.len;have hbt:(brt bs).length=bs.length:=by unfold brt;rw[ax]
  have hfB:filB kk a (brt bs)=true:=by
   have:=hfl.filB hk4 hl;rwa[show((kk.toNat:Nat):Int)=kk by lia]at this
  show .inl (B2 k1 k4 hro (λH1 Y=>?_));show⟨kk,a,_,rfl,k1,k4,hro, .inl ⟨brt bs,rfl,by lia,λB s2=>?_⟩⟩;rw[hfB];ext
  first|refine ifq rfl ?_ |skip
  ext;intro co L hco hdx hne;have J:Same B (upd (upd B L (.own co)) co (.ins aC L [])):=λx o z=>by rw[AI (AS z hco),AI (AS z hdx)];exact z
  show⟨co,L,kk,a,B,rfl,k1,k4,hro,AF,hco,J,λH3 C3=>?_⟩;refine⟨rfl,?_⟩;have same:∀ {H':Hp} {i d},Co aC B H' co kk.toNat a i d->Same H H':=fun{H' i d} C=>by
   obtain⟨_,_,_,_,_,_,_,_,_,c⟩:=C;exact(Y.trans s2).trans c.h0
  have obj:∀ {H':Hp} {i d},Co aC B H' co kk.toNat a i d->∃L pl sm cl rs,H' co=some (.ins aC L (cf pl sm cl rs i)):=fun{H' i d} C=>by
   obtain⟨L,pl,sm,cl,rs,_,_,_,_,c⟩:=C;exact⟨L,pl,sm,cl,rs,c.ob⟩
  show K3 (λj σ H'=>∃ (d:List Nat) (X:Int) (o5 o6:Option V),σ=[some (.int kk),some (tx a),some (tx (brt bs)),some (.ref co),some (.int X),o5,o6]/\Co aC B H' co kk.toNat a j d/\Fi kk.toNat a j d (bs.drop j)/\(∀o∈d,o<kk.toNat)/\d.length<=j/\num kk.toNat a 0 [] bs=X+num kk.toNat a j d (bs.drop j))
   ⟨[],0,_,_,rfl,C3,hfl,(λ_ h=>nomatch h),Nat.le_refl _,by rw[List.drop_zero];lia⟩ ?_ ?_
  rotate_left
  ·intro σ H4 z_;obtain⟨d,X,o5,o6,rfl,C4,f4,M,hsl,I⟩:=z_;rw[hbt,List.drop_length]at I;have I:num kk.toNat a 0 [] bs=X+0:=I;ext;have:=q H4 (same C4);rw[I,Int.add_zero]at this;exact this
  intro j c σ H4 hc z_;obtain⟨d,X,o5,o6,rfl,C4,f4,M,hsl,I⟩:=z_;obtain⟨b,Z,ec⟩:∃b,bs[j]? =some b/\brs.getD b 0=c:=by
   unfold brt at hc;rw[am]at hc;exact dz.mp hc
  have hjl:j<bs.length:=(az.mp Z).1;have ed:bs.drop j=b::bs.drop (j+1):=by
   rw[List.drop_eq_getElem_cons hjl];congr 1;rw[ai hjl]at Z;exact Option.some.inj Z
  rw[ed]at f4 I;obtain⟨b1,b2,b3,b4⟩:=id f4;have hji:j<a.length:=by lia
  have hb8:b<8:=by lia
  have hocc:Fz brs c=some b:=by
   rw[<-ec]
   match b,hb8 with
   |0,_=>exact(by first|decide|decide +kernel)
   |1,_=>exact(by first|decide|decide +kernel)
   |2,_=>exact(by first|decide|decide +kernel)
   |3,_=>exact(by first|decide|decide +kernel)
   |4,_=>exact(by first|decide|decide +kernel)
   |5,_=>exact(by first|decide|decide +kernel)
   |6,_=>exact(by first|decide|decide +kernel)
   |7,_=>exact(by first|decide|decide +kernel)
  show W1 (l:=brs) hocc ?_;show⟨_,rfl,by lia,by lia,?_⟩;rw[d0];refine Ka (λe=>V.int (mw kk.toNat a j d e)) (small nA) (λD H5 hD s5 U=>?_) (λe H5 R he s5 r=>?_)
  rotate_left
  ·have ee:(0:Int)+(e:Int)=(e:Int):=by lia
   rw[ee];have C5:=C4.same s5;obtain⟨Q,pl5,sm5,cl5,rs5,S⟩:=obj C5;show⟨co,Q,_,rfl,S,rfl,?_⟩;ext;exact⟨co,kk.toNat,a,j,d,B,e,rfl,C5,hji,by lia,λH6 s6=>r H6 s6⟩
  have C5:=C4.same s5;have em:((aw b).map λe=>V.int (mw kk.toNat a j d e))=((aw b).map (mw kk.toNat a j d)).map V.int:=by rw[d4];rfl
  rw[em]at U;show Fl (SqL.of U) ?_;rw[E7];ext;obtain⟨Q,pl5,sm5,cl5,rs5,S⟩:=obj C5;refine⟨co,Q,_,rfl,S,rfl,?_⟩;show⟨co,kk.toNat,a,j,d,B,b,rfl,C5,hji,b1,hsl,λho=>by obtain⟨s',z⟩:=b3 ho;rw[z];simp,λH6 C6=>?_⟩;ext;have I:num kk.toNat a 0 [] bs=X+(sm b (mw kk.toNat a j d)+num kk.toNat a (j+1) (stb d b) (bs.drop (j+1))):=I;refine⟨stb d b,_,_,_,rfl,C6,b4,?_,?_,by lia⟩
  ·unfold stb
   split
   ·intro o ho;rcases List.mem_cons.mp ho with z|z
    ·lia
    ·exact M o z
   ·intro o ho;exact M o (List.mem_of_mem_tail ho)
  ·unfold stb
   split
   ·simp;lia
   ·rw[List.length_tail];lia
theorem JL:FuV P w K mg base (k+1) "likelier" ["one","other"] (spLikelierQ):=FnA.u (T.f.at 26) (scN ["one","other"]) @λ_ _ _ _ _ _ Q _ nd H S h=>by
 obtain⟨G,I,o1,o2,rfl,b,d,hd,q⟩:=h;have J:=S.units0;refine⟨_,(AD (AV (PW.pt (BS (AR Bd (pv 0) Aq) (Bc (AR Bd (pv 1) Aq)))) (AE (AK (BL (AR Bd (pv 1) Aq) (pv 0) (pv 1)))) AW) (AD (AV (AR (Ag K J) (AH K (pv 0) AC) (AH K (pv 1) AC)) (AE (AK (BL (AR (XN K J) (AH K (pv 0) AC) (AH K (pv 1) AC)) (pv 0) (pv 1)))) AW) (AE (AK (BL (AR CF (AH K (pv 0) AC) (AH K (pv 1) AC)) (pv 0) (pv 1)))))),?_⟩
 match o1,o2,b,d,hd,q with
 |none,none,b,d,hd,q=>
  cases(show G= .non from b)
  cases(show I= .non from d)
  show ifp rfl ?_
  first|refine ifp rfl ?_ |skip
  show ifp rfl ?_;ext;exact q _ _ (Same.refl H) (.inl ⟨rfl,rfl⟩)
 |none,some (x,m),b,⟨L,o,r,_,_,i,g2⟩,hd,q=>
  cases(show G= .non from b)
  subst r;show ifp rfl ?_
  first|refine ifp rfl ?_ |skip
  show ifq rfl ?_;ext;exact q _ _ (Same.refl H) (.inr ⟨rfl,rfl⟩)
 |some (w,l),none,⟨M,y,z,_,_,j,R⟩,d,hd,q=>
  cases(show I= .non from d)
  subst z;show ifq rfl ?_;show ifp rfl ?_
  first|refine ifp rfl ?_ |skip
  show ifp rfl ?_;ext;exact q _ _ (Same.refl H) (.inl ⟨rfl,rfl⟩)
 |some (w,l),some (x,m),⟨M,y,z,_,_,j,R⟩,⟨L,o,r,_,_,i,g2⟩,hd,q=>
  subst z r;have e:=hd w l x m rfl rfl;have q:∀v H',Same H H'->((v= .ref M/\(if w=x then(if l<m then some (w,l)else some (x,m))else if w>x then some (w,l)else some (x,m))=some (w,l))\/(v= .ref L/\(if w=x then(if l<m then some (w,l)else some (x,m))else if w>x then some (w,l)else some (x,m))=some (x,m)))->Q v H':=q;show ifq rfl ?_;show ifq rfl ?_
  first|refine ifq rfl ?_ |skip
  show BB (SqT.of j) (v:= .int w) rfl ?_;show BB (SqT.of i) (v:= .int x) rfl ?_;show ifd (λB=>?_) (λB=>?_)
  ·show BB (SqT.of j) (v:= .ref y) rfl ?_;show BB (SqT.of i) (v:= .ref o) rfl ?_;refine⟨y,o,l,m,rfl,rfl,SqL.of R,SqL.of g2,e,?_⟩;ext;rw[aO B]at q;refine ifd (λa=>?_) (λa=>?_)
   ·ext;exact q _ _ (Same.refl H) (.inl ⟨rfl,aO a⟩)
   ·ext;exact q _ _ (Same.refl H) (.inr ⟨rfl,aB a⟩)
  ·show BB (SqT.of j) (v:= .int w) rfl ?_;show BB (SqT.of i) (v:= .int x) rfl ?_;ext;rw[aB B]at q;refine ifd (λa=>?_) (λa=>?_)
   ·ext;exact q _ _ (Same.refl H) (.inl ⟨rfl,aO a⟩)
   ·ext;exact q _ _ (Same.refl H) (.inr ⟨rfl,aB a⟩)
theorem ON:FuV P w K mg base (k+2) "likeliest_pair" ["first","last"] (Ro):=FnA.u (T.f.at 27) (scN ["first","last","best","opening","weight"]) λnd H S h=>by
 obtain⟨p1,p2,x,y,kk,rfl,U,h2,lx,ly,hk,X,Y,q⟩:=h;have hu:=S.units0;obtain⟨f,J⟩:∃f:Nat->Int,f=λb=>x.getD b 0:=⟨_,rfl⟩;obtain⟨g,hg⟩:∃g:Nat->Int,g=λb=>y.getD b 0:=⟨_,rfl⟩;have lo:=Fn (f:=f) (g:=g) (by rw[J];exact X.at) (by rw[hg];exact Y.at);rw[<-J,<-hg]at q;refine⟨_,(AD (AO 2 Aq) (AD (A9 nh rfl (B3 rfl (T.N 11) (AA AC (AA (Al K (T.N 7) (AA (pv 0) AB)) (AA AC AB)))) (Ah 3) (AD (AO 4 (AG BV (AH K (pv 0) (pv 3)) (AH K (pv 1) (AG AN (pv 3) AC)))) (AE (AV (AR CF (pv 4) AC) (AE (AO 2 (AM (JL T) S (AA (pv 2) (AA (BM (AA (pv 4) (AA (Aa (AA (pv 3) (AA (AG AN (pv 3) AC) AB))) AB))) AB))))) AW)))) (AE (AK (pv 2))))),?_⟩;show BJ (.inl (SqL.of U)) ?_;rw[ax,lx];show⟨0,_,2,rfl,⟨by decide,by decide,CH nA nA nA nA⟩,?_⟩;have er:rN 0 ((2*kk:Nat):Int) 2=kk:=by rw[CL];lia
 rw[er];refine CI (λt σ Z=>∃ (v:V) (L M:Option V),σ=[some (.ref p1),some (.ref p2),some v,L,M]/\Same H Z/\Bt (λb=>H b=none) Z v (lp f g t)) ⟨.non,_,_,rfl,Same.refl H,rfl⟩ ?_ ?_
 rotate_left
 ·intro σ i Q;obtain⟨v,L,M,rfl,d,j⟩:=Q;ext;exact q v i d j
 intro t σ i ht Q;obtain⟨v,L,M,rfl,d,j⟩:=Q;have e0:(0:Int)+(t:Int)*2=((2*t:Nat):Int):=by lia
 have e1:((2*t:Nat):Int)+1=((2*t+1:Nat):Int):=by lia
 rw[e0];ext;have gx:x[2*t]? =some (x.getD (2*t) 0):=by rw[af,ai nA];rfl
 have gy:y[2*t+1]? =some (y.getD (2*t+1) 0):=by rw[af,ai nA];rfl
 refine AL (SqL.of (d _ _ U)) (AT (by rw[am,gx];rfl)) ?_;ext
 first|rw[e1]|skip
 refine AL (SqL.of (d _ _ h2)) (AT (by rw[am,gy];rfl)) ?_;have bx:=X.at (2*t);have o:=Y.at (2*t+1);refine Bb (BA bx.1 bx.2 DJ) (BA o.1 o.2 DJ) ?_;have r:lp f g (t+1)=if 0<x.getD (2*t) 0*y.getD (2*t+1) 0 then lik (lp f g t) (some (x.getD (2*t) 0*y.getD (2*t+1) 0,[2*t,2*t+1]))else lp f g t:=by subst J hg;rfl
 generalize x.getD (2*t) 0*y.getD (2*t+1) 0=wt at r⊢;show ifd (λB=>?_) (λB=>?_)
 ·have B:0<wt:=B;rw[aO B]at r;ext;rw[e1];refine⟨small (n:=2) nv,λa ha=>?_⟩;have t1:=AJ ha (.lst [.int ((2*t:Nat):Int), .int ((2*t+1:Nat):Int)]);have k1:(upd i a (.lst [.int ((2*t:Nat):Int), .int ((2*t+1:Nat):Int)])) a=_:=AF;generalize upd i a _=H2 at*
  show⟨small (n:=2) nv,λT hT=>?_⟩;have t2:=AJ hT (.tup [.int wt, .ref a]);have k2:(upd H2 T (.tup [.int wt, .ref a])) T=_:=AF;have G:=t2 _ _ k1;have R:=t1.trans t2;have fT:i T=none:=t1.free hT;generalize upd H2 T _=H3 at*
  show⟨v, .ref T,lp f g t,some (wt,[2*t,2*t+1]),rfl,(j.same R).imp (λ_ _ _ _=>trivial),⟨T,a,rfl,trivial,trivial,k2,G⟩,?_,λv' H4 I hv=>?_⟩
  ·intro w l x' m e z
   cases z
   exact(lo t nA w l e).1
  show⟨v',_,_,rfl,(d.trans R).trans I,?_⟩;rw[r];rcases hv with⟨rfl,e⟩|⟨rfl,e⟩
  ·rw[e];exact j.same (R.trans I)
  ·rw[e];exact⟨T,a,rfl,d.free fT,d.free ha,I _ _ k2,I _ _ G⟩
 ·ext;rw[aB B]at r;exact⟨v,_,_,rfl,d,r▸j⟩
theorem Oc:FuV P w K mg base (k+1) "round_about" ["pair","within"] (spRound):=FnA.u (T.f.at 28) (scN ["pair","within","opening","closing"]) λnd H hr h=>by
 obtain⟨v1,v2,o1,o2,rfl,y,o,b,z1,z2,q⟩:=h;have hu:=hr.units0;refine⟨_,(AD (AV (PW.pt (BS (AR Bd (pv 0) Aq) (Bc (AR Bd (pv 1) Aq)))) (AE (AK Aq)) AW) (AD (Bo (AH K (pv 0) AC) (T8 (n:=2) K rfl (As (Ah 2) (As (Ah 3) Bm)))) (AE (AK (BM (AA (AG BV (AH K (pv 0) AC) (AH K (pv 1) AC)) (AA (AG AN (AG AN (Aa (AA (pv 2) AB)) (AH K (pv 1) AC)) (Aa (AA (pv 3) AB))) AB))))))),?_⟩
 match o1,o2,y,o,b,z1,z2,q with
 |none,o2,y,o,b,z1,z2,q=>
  cases(show v1= .non from y)
  show ifp rfl ?_
  first|refine ifp rfl ?_ |skip
  ext;exact q _ _ (Same.refl H) rfl
 |some (w,l),none,⟨T1,z,B,_,_,G,U⟩,o,b,z1,z2,q=>
  cases(show v2= .non from o)
  subst B;show ifq rfl ?_;show ifp rfl ?_
  first|refine ifp rfl ?_ |skip
  ext;exact q _ _ (Same.refl H) rfl
 |some (w,l),some (x,m),⟨T1,z,B,_,_,G,U⟩,⟨T2,a2,e2,_,_,X,g2⟩,b,z1,z2,q=>
  subst B e2;obtain⟨b1,l1⟩:=z1 w l rfl;obtain⟨b2,l2⟩:=z2 x m rfl;obtain⟨a,d,rfl⟩:∃a d,l=[a,d]:=by
   match l,b w l rfl with
   |[a,d],_=>exact⟨a,d,rfl⟩
  show ifq rfl ?_;show ifq rfl ?_
  first|refine ifq rfl ?_ |skip
  show BB (SqT.of G) (v:= .ref z) rfl ?_;refine⟨z,[.int (a:Int), .int (d:Int)],rfl,SqL.of U,rfl,?_⟩;show BB (SqT.of G) (v:= .int w) rfl ?_;show BB (SqT.of X) (v:= .int x) rfl ?_;refine Bb b1 b2 ?_;show⟨small (n:=1) nv,λI J=>?_⟩;have r:=AJ J (.lst [.int (a:Int)]);have k1:(upd H I (.lst [.int (a:Int)])) I=_:=AF;generalize upd H I _=Y at*
  show BB (SqT.of (r _ _ X)) (v:= .ref a2) rfl ?_;refine DM k1 (r _ _ g2) (small (by rw[ax];simp;lia)) (λL M=>?_);have Z:=AJ M (.lst ([.int (a:Int)]++nL m));have k2:(upd Y L (.lst ([.int (a:Int)]++nL m))) L=_:=AF;generalize upd Y L _=H2 at*
  show⟨small (n:=1) nv,λQ R=>?_⟩;have S:=AJ R (.lst [.int (d:Int)]);have k3:(upd H2 Q (.lst [.int (d:Int)])) Q=_:=AF;generalize upd H2 Q _=H3 at*
  refine DM (S _ _ k2) k3 (small (by simp;lia)) (λe i=>?_);have t4:=AJ i (.lst (([.int (a:Int)]++nL m)++[.int (d:Int)]));have k4:(upd H3 e (.lst (([.int (a:Int)]++nL m)++[.int (d:Int)]))) e=_:=AF;generalize upd H3 e _=H4 at*
  ext;have j:=(r.trans Z).trans (S.trans t4);refine⟨small (n:=2) nv,λT hT=>?_⟩;have t5:=AJ hT (.tup [.int (w*x), .ref e]);refine q _ _ (j.trans t5) ⟨T,e,rfl,j.free hT,((r.trans Z).trans S).free i,AF,?_⟩;rw[t5 _ _ k4];show some (HO.lst _)=some (HO.lst (nL ([a]++m++[d])));simp[nL]
theorem OE:FuV P w K mg base (k+1) "one_behind_the_other" ["first","second"] (spBehindO):=FnA.u (T.f.at 29) (scN ["first","second"]) λnd H G h=>by
 obtain⟨I,J,o1,o2,rfl,b,a,z1,z2,q⟩:=h;have U:=G.units0;refine⟨_,(AD (AV (PW.pt (BS (AR Bd (pv 0) Aq) (Bc (AR Bd (pv 1) Aq)))) (AE (AK Aq)) AW) (AE (AK (BM (AA (AG BV (AH K (pv 0) AC) (AH K (pv 1) AC)) (AA (AG AN (AH K (pv 0) AC) (AH K (pv 1) AC)) AB)))))),?_⟩
 match o1,o2,b,a,z1,z2,q with
 |none,o2,b,a,z1,z2,q=>
  cases(show I= .non from b)
  show ifp rfl ?_
  first|refine ifp rfl ?_ |skip
  ext;exact q _ _ (Same.refl H) rfl
 |some (w,l),none,⟨L,i,d,_,_,e,j⟩,a,z1,z2,q=>
  cases(show J= .non from a)
  subst d;show ifq rfl ?_;show ifp rfl ?_
  first|refine ifp rfl ?_ |skip
  ext;exact q _ _ (Same.refl H) rfl
 |some (w,l),some (x,m),⟨L,i,d,_,_,e,j⟩,⟨X,M,Q,_,_,o,g2⟩,z1,z2,q=>
  subst d Q;obtain⟨R,Y⟩:=z1 w l rfl;obtain⟨S,Z⟩:=z2 x m rfl;show ifq rfl ?_;show ifq rfl ?_
  first|refine ifq rfl ?_ |skip
  show BB (SqT.of e) (v:= .int w) rfl ?_;show BB (SqT.of o) (v:= .int x) rfl ?_;refine Bb R S ?_;show BB (SqT.of e) (v:= .ref i) rfl ?_;show BB (SqT.of o) (v:= .ref M) rfl ?_;refine DM j g2 (small (by rw[ax,ax];lia)) (λc r=>?_);have y:=AJ r (.lst (nL l++nL m));show⟨small (n:=2) nv,λT z=>?_⟩;have B:=AJ z (.tup [.int (w*x), .ref c]);refine q _ _ (y.trans B) ⟨T,c,rfl,y.free z,r,AF,?_⟩;rw[B _ _ AF,<-bv]
theorem OK:FuV P w K mg base (k+3) "likeliest_spans" ["places"] (Kd):=FnA.u (T.f.at 30) (scN ["places","many","best","start","end","part","stop","found"]) @λ_ _ _ _ s _ _ _ nd H hr h=>by
 obtain⟨p,J,U,rfl,hP,hn,hk,hl,q⟩:=h;have hu:=hr.units0;have hsm:∀l∈J,Sm l:=λl z=>(hl l z).2;have hPP:=CJ hsm;obtain⟨pa,hp0,hpa⟩:=id hP;refine⟨_,(AD (CM (i:=1) nd rfl (Or.inr rfl) (Al K (T.N 7) (AA (pv 0) AB))) (AD (F9 (i:=2) nd rfl (kP rfl) (own:=["start"]) (sel:=[1]) (Au (osc:=(AU (top 56))) (N:=["places","many","best","start","end","part","stop","found"]) nB) rfl (CA rfl (T.N 11) (AA (AG AN (pv 1) AC) AB)) (λ_ _ _ _ _=>(Af (i:=0) (show(["start","many"]:List Str).Nodup from by decide +kernel) rfl (kP rfl))) (Ak nv) (λ_ _ _ _ _=>A2) (λ_ _ _ _ _=>(AG BX (Aa (AA Aq AB)) (AG AN (pv 1) AC)))) (AD (A9 nh rfl (B3 rfl (T.N 11) (AA (pv 1) (AA (Bf BZ AC) (AA (Bf BZ AC) AB)))) (Ah 3) (AD (Bo (BM (AA AC (AA (Aa AB) AB))) (CO (AH K (pv 2) (pv 3)) (pv 3) BW)) (AE (A9 nh rfl (B3 rfl (T.N 11) (AA (AG AN (pv 3) AC) (AA (pv 1) (AA AC AB)))) (Ah 4) (AD (AO 5 (AM (Oc T) hr (AA (AM (ON T) hr (AA (AH K (pv 0) (pv 3)) (AA (AH K (pv 0) (pv 4)) AB))) (AA (AH K (AH K (pv 2) (AG AN (pv 3) AC)) (pv 4)) AB)))) (AE (A9 nh rfl (B3 rfl (T.N 11) (AA (AG AN (pv 4) AC) (AA (AG AN (pv 1) AC) (AA AC AB)))) (Ah 6) (AD (AO 7 (AM (OE T) hr (AA (pv 5) (AA (AH K (AH K (pv 2) (AG AN (pv 4) AC)) (pv 6)) AB)))) (AE (Bo (AM (JL T) hr (AA (AH K (AH K (pv 2) (pv 3)) (pv 6)) (AA (pv 7) AB))) (CO (AH K (pv 2) (pv 3)) (pv 6) BW))))))))))) (AE (AK (pv 2)))))),?_⟩;show BJ (.inl (SqL.of hp0)) ?_;have en:((((aw J.length).map λi=>V.ref (pa i)).length:Nat):Int)=(J.length:Int):=by rw[ax,cY]
 rw[en];generalize hN:J.length=n at*
 show⟨_,rfl,by lia,by lia,?_⟩;have en:((n:Int)+1).toNat=n+1:=by lia
 rw[en];refine HA (small nA) (λD i ys Q=>∃S:Nat->Addr,ys=(aw i).map (λj=>V.ref (S j))/\(∀j,j<i->Q (S j)=some (.lst (rwv n λ_=> .non))/\H (S j)=none/\S j≠D)/\∀j j',j<i->j'<i->S j=S j'->j=j')
  (λD _=>⟨λ_=>D,rfl,λj hj=>absurd hj nA,λj _ hj=>absurd hj nA⟩) (λD i ys Z H2 _ ⟨S,e,h1,h2⟩ s12=>⟨S,e,λj hj=>⟨s12 _ _ (h1 j hj).1 (h1 j hj).2.2,(h1 j hj).2⟩,h2⟩)
  (λs' ys Z hD hy _ sH ⟨S,e,h1,h2⟩=>?_) ?_
 rotate_left
 ·rintro D i ys Q R hD hi hy hl sH ⟨S,e,h1,h2⟩ r;show⟨small (n:=1) nv,λz hz=>?_⟩;show Ei (xs:=[.non]) AF nA nA (small (by rw[f9,en];lia)) (λp hp=>?_);have hpz:p≠z:=λw=>by rw[w,AF]at hp;cases hp
  have hp':Q p=none:=by rw[AI hpz]at hp;exact hp
  have hpD:p≠D:=λw=>by rw[w,hy]at hp';cases hp'
  have L:Same Q (upd (upd Q z (.lst [.non])) p (.lst (List.replicate ((n:Int)+1).toNat [V.non]).flatten)):=(AJ hz _).trans (AJ hp _);refine r _ _ L ⟨λj=>if j=i then p else S j,?_,?_,?_⟩
  ·subst e;rw[List.range_succ,bv];congr 1
   ·refine dw λj hj=>?_;have:=List.mem_range.mp hj;show V.ref (S j)=V.ref (if j=i then p else S j);rw[aB nA]
   ·simp
  ·intro j hj
   by_cases ej:j=i
   ·subst ej;simp only[if_true];refine⟨?_,?_,hpD⟩
    ·rw[AF,en];congr 2;unfold rwv;have:∀m:Nat,(List.replicate m [V.non]).flatten=(aw m).map λ_=>V.non:=by
      intro m
      induction m with
      |zero=>rfl
      |succ m ih=>rw[List.replicate_succ',List.flatten_append,ih,List.range_succ,bv];rfl
     exact this (n+1)
    ·exact sH.free hp'
   ·simp only[aB ej];obtain⟨a1,a2,a3⟩:=h1 j nA;exact⟨L _ _ a1,a2,a3⟩
  ·intro j j' hj hj' he
   by_cases ej:j=i<;>by_cases ej':j'=i
   ·lia
   ·simp only[aO ej,aB ej']at he;have:=(h1 j' nA).1;rw[<-he,hp']at this;cases this
   ·simp only[aB ej,aO ej']at he;have:=(h1 j nA).1;rw[he,hp']at this;cases this
   ·simp only[aB ej,aB ej']at he;exact h2 j j' nA nA he
 subst e;have tb1:Tv H Z Z s' S n (λ_ _=> .non):=⟨hD,λi hi=>(h1 i nA).2.1,λi hi=>(h1 i nA).2.2,λi j hi hj=>h2 i j nA nA,λi hi=>by rw[(h1 i nA).1];simp,hy,λi hi=>(h1 i nA).1,sH,λb z=>z⟩;clear h1 h2 hy hD;show⟨n,-1,-1,rfl,⟨by decide,by decide,JZ (.inl rfl) nA nA nv nv⟩,?_⟩;have er:rN (n:Int) (-1) (-1)=n+1:=by rw[Lk];lia
 rw[er];have place:∀ {Q:Hp} {i:Nat},Same H Q->i<n->∃l,Q (pa i)=some (iL l)/\l.length=2*U/\Sm l/\∀b,PP J i b=l.getD b 0:=by
  intro Q i sH hi;have e:J[i]? =some J[i]:=ai nA;have eg:J.getD i []=J[i]:=by rw[af,e];rfl
  refine⟨J[i],?_,(hl _ (dF _)).1,(hl _ (dF _)).2,λb=>by show(J.getD i []).getD b 0=_;rw[eg]⟩;have:=sH _ _ (hpa i nA);rw[eg]at this;exact this
 have pix:∀ {i:Nat},i<n->((aw n).map λi=>V.ref (pa i))[i]? =some (.ref (pa i)):=fun{i} hi=>by rw[am,aU hi];rfl
 obtain⟨Vm,X⟩:∃Vm:Hp->(Nat->Nat->V)->(Nat->Nat->O)->Prop,Vm=λQ T M=>∀i j,Bt (λb=>Z b=none) Q (T i j) (M i j):=⟨_,rfl⟩;have vmk:∀ {G G':Hp} {T:Nat->Nat->V} {M:Nat->Nat->O},Vm G T M->Same G G'->Vm G' T M:=by
  subst X;exact λh s i j=>(h i j).same s
 refine CI (λt σ Q=>∃ (T:Nat->Nat->V) (o3 o4 o5 o6 o7:Option V),σ=[some (.ref p),some (.int n),some (.ref s'),o3,o4,o5,o6,o7]/\Tv H Z Q s' S n T/\Vm Q T (ls (PP J) U n t)) ⟨_,_,_,_,_,_,rfl,tb1,by rw[X];exact λ_ _=>rfl⟩ ?_ ?_
 rotate_left
 ·intro σ Q z_;obtain⟨T,o3,o4,o5,o6,o7,rfl,tb,vm⟩:=z_;ext;rw[X]at vm;refine q s' (S 0) ((aw n).map λi=>V.ref (S (i+1))) ((aw n).map (T 0)) (T 0 n) Q tb.sm ?_ ?_ ((vm 0 n).imp λ_ _ _ _=>trivial)
  ·rw[tb.top,List.range_succ_eq_map,List.map_cons,d4];rfl
  ·rw[tb.row 0 (Nat.zero_le _)];unfold rwv;rw[List.range_succ,bv];rfl
 intro t σ H2 ht z_;obtain⟨T,o3,o4,o5,o6,o7,rfl,tb2,vm2⟩:=z_;obtain⟨B,est⟩:∃B:Nat,B+t=n:=⟨n-t,by lia⟩;have e1:((n:Int)+(t:Int)* -1)=(B:Int):=by lia
 have eM:ls (PP J) U n (t+1)=lq (PP J) U n B (DW B (ls (PP J) U n t)) ((n-B)/2):=by rw[ls,show n-t=B by lia]
 have lo0:=Lz (s:=B) (IN (n:=n) hPP hk t);rw[e1];show⟨small (n:=0) nv,λz hz=>?_⟩;have t3:=AJ hz (.lst []);have k3:(upd H2 z (.lst [])) z=_:=AF;generalize upd H2 z _=H3 at*
 show⟨small (n:=2) nv,λT1 hT1=>?_⟩;have t4:=AJ hT1 (.tup [.int 1, .ref z]);have k4:(upd H3 T1 (.tup [.int 1, .ref z])) T1=_:=AF;have k34:=t4 _ _ k3;have fz:Z z=none:=tb2.gr z hz;have fT1:Z T1=none:=tb2.gr T1 (t3.free hT1);have tb4:=tb2.same (t3.trans t4);have vm4:=vmk vm2 (t3.trans t4);generalize upd H3 T1 _=H4 at*
 show AL (SqL.of tb4.top) (AT (tb4.at (i:=B) nA)) ?_;show Ba (tb4.row B nA) (j:=B) (by rw[Lg];unfold ixN;rw[aO nA,aO nA];simp) ?_;have tb5:=tb4.set (i:=B) (j:=B) (v:= .ref T1) nA;have kp5:=λb x f z=>tb4.keep (i:=B) nA (o:= .lst ((rwv n (T B)).set B (.ref T1))) b x f z;have vm5:Vm (upd H4 (S B) (.lst ((rwv n (T B)).set B (.ref T1)))) (λa b=>if a=B then(if b=B then .ref T1 else T a b)else T a b) (DW B (ls (PP J) U n t)):=by
  rw[X]at vm4⊢;intro i j;unfold DW
  dsimp only
  split
  ·split
   ·exact⟨T1,z,rfl,fT1,fz,kp5 _ _ fT1 k4,kp5 _ _ fz k34⟩
   ·exact(vm4 i j).keep kp5
  ·exact(vm4 i j).keep kp5
 generalize(λa b=>if a=B then(if b=B then V.ref T1 else T a b)else T a b)=T5 at*
 generalize upd H4 (S B) _=H5 at*
 generalize DW B (ls (PP J) U n t)=M0 at*
 clear tb4 vm4 kp5 k4 k34 fz fT1 tb2 vm2 t3 t4 k3 hz hT1;show⟨_,_,2,rfl,⟨by decide,by decide,CH nA nA nA nA⟩,?_⟩;have er2:rN ((B:Int)+1) n 2=(n-B)/2:=by rw[CL];lia
 rw[er2];refine CI (λq' σ Q=>∃ (T:Nat->Nat->V) (o4 o5 o6 o7:Option V),σ=[some (.ref p),some (.int n),some (.ref s'),some (.int B),o4,o5,o6,o7]/\Tv H Z Q s' S n T/\Vm Q T (lq (PP J) U n B M0 q')) ⟨T5,_,_,_,_,rfl,tb5,vm5⟩ ?_ ?_
 rotate_left
 ·intro σ Q z_;obtain⟨T,o4,o5,o6,o7,rfl,tb,vm⟩:=z_;ext;exact⟨T,_,_,_,_,_,rfl,tb,eM▸vm⟩
 clear tb5 vm5;intro q' σ H6 hq' z_;obtain⟨T,o4,o5,o6,o7,rfl,tb6,vm6⟩:=z_;obtain⟨d,hen⟩:∃e:Nat,e=B+1+2*q':=⟨_,rfl⟩;have e2:((B:Int)+1+(q':Int)*2)=(d:Int):=by lia
 have hen2:d<n:=by lia
 have loM:=IP (s:=B) (n:=n) hPP hk lo0 q';have eQ:lq (PP J) U n B M0 (q'+1)=lin B d (rnd (lp (PP J B) (PP J d) U) (lq (PP J) U n B M0 q' (B+1) d)) (lq (PP J) U n B M0 q') ((n+1-d)/2):=by rw[lq,hen]
 generalize lq (PP J) U n B M0 q'=M at*
 rw[e2];ext;obtain⟨x,hx,lx,sx,ex⟩:=place tb6.sm (show B<n by lia);obtain⟨y,hy,ly,sy,ey⟩:=place tb6.sm (show d<n by lia);refine AL (SqL.of (tb6.sm _ _ hp0)) (AT (pix (i:=B) nA)) ?_;show AL (SqL.of (tb6.sm _ _ hp0)) (AT (pix (i:=d) nA)) ?_;show⟨pa B,pa d,x,y,U,rfl,hx,hy,lx,ly,hk,sx,sy,λvp H7 s7 bp=>?_⟩;rw[show(λb=>x.getD b 0)=PP J B from funext λb=>(ex b).symm,show(λb=>y.getD b 0)=PP J d from funext λb=>(ey b).symm]at bp;have lop:=Fn (hPP B) (hPP d) U hk;have tb7:=tb6.same s7;have vm7:=vmk vm6 s7;have e3:((B:Int)+1)=((B+1:Nat):Int):=by lia
 ext;rw[e3];refine AL (SqL.of tb7.top) (AT (tb7.at (i:=B+1) nA)) ?_;show AL (SqL.of (tb7.row (B+1) nA)) (AT (HN (j:=d) nA)) ?_;have lob:=loM (B+1) d nA;show⟨vp,T (B+1) d,lp (PP J B) (PP J d) U,M (B+1) d,rfl,bp.imp (λ_ _ _ _=>trivial),(by rw[X]at vm7;exact vm7 _ _:Bt _ _ _ _).imp (λ_ _ _ _=>trivial),λw l e=>(lop w l e).1,lop.sz nv,lob.sz nA,λvr H8 s8 br=>?_⟩;have br:Bt (λb=>Z b=none) H8 vr (rnd (lp (PP J B) (PP J d) U) (M (B+1) d)):=br.imp λb x f _=>tb7.gr b f;have lor:=lop.rnd lob (show d+1-B=2+(d-(B+1)) by lia);have loI:=Hv (s:=B) (e:=d) nA lor loM;generalize rnd (lp (PP J B) (PP J d) U) (M (B+1) d)=part at*
 have tb8:=tb7.same s8;have vm8:=vmk vm7 s8;clear tb6 tb7 vm6 vm7 hx hy bp s7 s8;show⟨_,_,2,rfl,⟨by decide,by decide,CH nA nA nA nA⟩,?_⟩;have er3:rN ((d:Int)+1) ((n:Int)+1) 2=(n+1-d)/2:=by rw[CL];lia
 rw[er3];refine CI (λr σ Q=>∃ (T:Nat->Nat->V) (o6 o7:Option V),σ=[some (.ref p),some (.int n),some (.ref s'),some (.int B),some (.int d),some vr,o6,o7]/\Tv H Z Q s' S n T/\Vm Q T (lin B d part M r)/\Bt (λb=>Z b=none) Q vr part) ⟨T,_,_,rfl,tb8,vm8,br⟩ ?_ ?_
 rotate_left
 ·intro σ Q z_;obtain⟨T,o6,o7,rfl,tb,vm,_⟩:=z_;ext;exact⟨T,_,_,_,_,rfl,tb,eQ▸vm⟩
 clear tb8 vm8 br;intro r σ H9 hr9 z_;obtain⟨T,o6,o7,rfl,tb9,vm9,br9⟩:=z_;obtain⟨L,hsp⟩:∃e:Nat,e=d+1+2*r:=⟨_,rfl⟩;have e4:((d:Int)+1+(r:Int)*2)=(L:Int):=by lia
 have hsp2:L<=n:=by lia
 rw[e4];have e5:((d:Int)+1)=((d+1:Nat):Int):=by lia
 have lo9:=loI r;have eI:lin B d part M (r+1)=λa b=>if a=B then(if b=L then lik (lin B d part M r B L) (beh part (lin B d part M r (d+1) L))else lin B d part M r a b)else lin B d part M r a b:=by subst hsp;rfl
 generalize lin B d part M r=I at*
 have bc:Bt (λb=>Z b=none) H9 (T (d+1) L) (I (d+1) L):=by rw[X]at vm9;exact vm9 _ _
 have bd:Bt (λb=>Z b=none) H9 (T B L) (I B L):=by rw[X]at vm9;exact vm9 _ _
 have loc:=lo9 (d+1) L nA;have lod:=lo9 B L nA;have lof:=lor.beh loc (show L-B=d+1-B+(L-(d+1)) by lia);ext;rw[e5];refine AL (SqL.of tb9.top) (AT (tb9.at (i:=d+1) nA)) ?_;show AL (SqL.of (tb9.row (d+1) nA)) (AT (HN (j:=L) hsp2)) ?_;show⟨vr,T (d+1) L,part,I (d+1) L,rfl,br9.imp (λ_ _ _ _=>trivial),bc.imp (λ_ _ _ _=>trivial),lor.sz nA,loc.sz nA,λvf H10 s10 bf=>?_⟩;have bf:Bt (λb=>Z b=none) H10 vf (beh part (I (d+1) L)):=bf.imp λb x f _=>tb9.gr b f;have tb10:=tb9.same s10;show AL (SqL.of tb10.top) (AT (tb10.at (i:=B) nA)) ?_;show AL (SqL.of (tb10.row B nA)) (AT (HN (j:=L) hsp2)) ?_;show⟨T B L,vf,I B L,beh part (I (d+1) L),rfl,(bd.same s10).imp (λ_ _ _ _=>trivial),bf.imp (λ_ _ _ _=>trivial),λw l x' m a b=>(lod w l a).1.trans (lof x' m b).1.symm,λvn H11 s11 hv=>?_⟩;have s911:=s10.trans s11;have Y:=tb9.same s911;have bn:Bt (λb=>Z b=none) H11 vn (lik (I B L) (beh part (I (d+1) L))):=by
  rcases hv with⟨rfl,e⟩|⟨rfl,e⟩
  ·rw[e];exact bd.same s911
  ·rw[e];exact bf.same s11
 show AL (SqL.of Y.top) (AT (Y.at (i:=B) nA)) ?_;show Ba (Y.row B nA) (j:=L) (by rw[Lg];unfold ixN;rw[aO nA,aO nA];simp) ?_;have tb12:=Y.set (i:=B) (j:=L) (v:=vn) nA;have kp12:=λb x f z=>Y.keep (i:=B) nA (o:= .lst ((rwv n (T B)).set L vn)) b x f z;show⟨_,_,_,rfl,tb12,?_,(br9.same s911).keep kp12⟩;have vm11:=vmk vm9 s911;rw[eI];rw[X]at vm11⊢;intro i j
 dsimp only
 split
 ·split
  ·exact bn.keep kp12
  ·exact(vm11 i j).keep kp12
 ·exact(vm11 i j).keep kp12
theorem OL:FuV P w K mg base (k+4) "first_likeliest" ["places"] (Rr):=FnA.u (T.f.at 31) (scN ["places","best"]) λnd _ z h=>by
 obtain⟨p,B,Z,rfl,hP,hn,hk,G,q⟩:=h;have hu:=z.units0;refine⟨_,(AD (AO 1 (AH K (AH K (AM (OK T) z (AA (pv 0) AB)) AC) (Bf BZ AC))) (AD (AV (AR Bd (pv 1) Aq) (AE (AK Aq)) AW) (AE (AK (BM (AA (AH K (pv 1) AC) (AA (A7 K nr PySem.F.slot_str_join nu (EM K) (pxt []) (AA (A1 (own:=["bracket"]) (sel:=[]) (Au (osc:=(AU (top 57))) (N:=["places","best"]) nB) rfl (Bx K (AH K (pv 1) AC)) (λ_ _ _ _ _=>(Af (i:=0) (show(["bracket"]:List Str).Nodup from by decide +kernel) rfl (kP rfl))) (Ak nv) (λ_ _ _ _ _=>A2) (λ_ _ _ _ _=>(AH K (Ai (T.g.at 3)) (pv 0)))) AB)) AB))))))),?_⟩;ext;have lo:=Mr hk G;refine Pw hP hn hk G (λs' r rs xs v H1 H e1 e2 a=>?_);generalize lkO (PP B) Z B.length=o at*
 show AL (SqL.of e1) (v:= .ref r) (Er _ _) ?_;show AL (SqL.of e2) (SY xs v) ?_
 match o,a,lo,q with
 |none,a,lo,q=>
  cases(show v= .non from a)
  show ifp rfl ?_;ext;exact q _ H1 H rfl
 |some (w,l),⟨T1,I,ev,_,_,J,L⟩,lo,q=>
  subst ev;obtain⟨hl2,d,_⟩:=lo w l rfl;have M:l.length<=40:=by lia
  show ifq rfl ?_;show BB (SqT.of J) (v:= .int w) rfl ?_;show BB (SqT.of J) (v:= .ref I) rfl ?_;show⟨I,rfl,⟨_,SqL.of L⟩,?_⟩;refine Sr (λx=>match x with| .int i=>tx [brs.getD i.toNat 0]|y=>y) (small (by rw[ax];lia)) L (λD Q hD S U=>?_) (λD i x Q R hD X S hR=>?_)
  ·have e:((nL l).map λx=>match x with| .int i=>tx [brs.getD i.toNat 0]|y=>y)=(l.map λb=>[brs.getD b 0]).map tx:=by
    unfold nL;rw[d4,d4]
    rfl
   rw[e]at U;ext;have Y:(l.map λb=>[brs.getD b 0]).flatten=brx l:=by
    unfold brx;rw[<-ED (l.map λb=>brs.getD b 0),d4];rfl
   refine EU (xss:=l.map λb=>[brs.getD b 0]) (SqL.of U) (by rw[Y,ax];unfold brx;rw[ax];lia) ?_;rw[Y];show⟨small (n:=2) nv,λT' hT=>?_⟩;exact q _ _ ((H.trans S).trans (AJ hT _)) ⟨T',rfl,AF⟩
  ·rw[am]at X;obtain⟨b,hb,rfl⟩:=dz.mp X;have j:=d b (bV hb);show BO (small nv) (AT (FY j)) ?_;exact hR Q (Same.refl _)
theorem Iy:FuV P w K mg base (k+1) "needs_change" ["sign","bracket"] (spNeeds):=FnA.u (T.f.at 32) (scN ["sign","bracket"]) λnd _ a h=>by
 obtain⟨c,b,rfl,q⟩:=h;have j:=a.units0;refine⟨_,(AE (AK (BH (E8 K) (pv 0) (BM (AA (Ai (T.g.at 4)) (AA (pv 1) AB))) nE))),?_⟩;show⟨small (n:=2) nv,λd e=>?_⟩;have i:=AJ e (.tup [tx [63],tx [b]]);refine .inr ⟨d,_,rfl, .inr (SqT.of AF),rfl,rfl,?_⟩;rw[XQ];exact q _ i
theorem OH:FuV P w K mg base (k+2) "places_to_change" ["k","row"] (spPlacesC):=FnA.u (T.f.at 33) (scN ["k","row"]) λnd _ U h=>by
 obtain⟨y,a,rfl,k1,k4,ha,q⟩:=h;have hu:=U.units0;refine⟨_,(AE (AK (A1 (own:=["sign"]) (sel:=[0]) (Au (osc:=(AU (top 62))) (N:=["k","row"]) nB) rfl (CN (pv 1)) (λ_ _ _ _ _=>(Af (i:=0) (show(["sign","k"]:List Str).Nodup from by decide +kernel) rfl (Or.inr rfl))) (Ak nv) (λ_ _ _ _ _=>A2) (λ_ _ _ _ _=>(A1 (own:=["bracket"]) (sel:=[0]) (KN (osc:=(AU (top 62))) (N:=["sign","k"]) rfl rfl nB) rfl (CN (Aw (A0 K) (Ai (T.g.at 3)) Az (Ay (AG BX AC (pv 1))))) (λ_ _ _ _ _=>(Af (i:=0) (show(["bracket","sign"]:List Str).Nodup from by decide +kernel) rfl (kP rfl))) (Ak nv) (λ_ _ _ _ _=>A2) (λ_ _ _ _ _=>(BL (A6 K (AM (Iy T) U (AA (pv 1) (AA (pv 0) AB)))) (Ai (T.g.at 7)) (Ai (T.g.at 6))))))))),?_⟩;show G0 (small nA) (λD i H B=>∃d:Nat->Addr,H=(aw i).map (λj=>V.ref (d j))/\∀j,j<i->B (d j)=some (iL (plc y.toNat (a.getD j 0)))/\d j≠D)
  (λD _=>⟨λ_=>D,rfl,λj o=>absurd o nA⟩) (λD i H H1 J _ ⟨d,e,x⟩ L=>⟨d,e,λj o=>⟨L _ _ (x j o).1 (x j o).2,(x j o).2⟩⟩)
  (λD H B X M _ Y ⟨d,e,x⟩=>?_) ?_
 ·subst e;refine q D B X Y ⟨d,by rw[ax];exact M,λi hi=>?_⟩;rw[ax]at hi;have eg:(a.map (plc y.toNat)).getD i []=plc y.toNat (a.getD i 0):=by
   simp only[af,am,ai hi];rfl
  rw[eg];exact(x i hi).1
 ·rintro D i H B R X hi M hl Y ⟨d,e,x⟩ r;have fin:∀l H6,B l=none->Same B H6->H6 l=some (iL (plc y.toNat (a.getD i 0)))->R (.ref l) H6:=by
   intro l H6 G Z h6;have Q:l≠D:=λz=>by rw[z,M]at G;cases G
   refine r _ _ Z ⟨λj=>if j=i then l else d j,?_,λj o=>?_⟩
   ·subst e;rw[List.range_succ,bv];congr 1
    ·refine dw λj o=>?_;have:=List.mem_range.mp o;show V.ref (d j)=V.ref (if j=i then l else d j);rw[aB nA]
    ·simp
   ·by_cases ej:j=i
    ·subst ej;simp only[if_true];exact⟨h6,Q⟩
    ·simp only[aB ej];obtain⟨a1,a2⟩:=x j nA;exact⟨Z _ _ a1,a2⟩
  ext;rw[Be _ nA,show(2*y).toNat=2*y.toNat by lia];show KZ (λb=> .int (if a.getD i 0=63\/a.getD i 0=b then 2 else 1)) (small (by rw[cc];exact Nat.le_trans (Nat.min_le_right _ _) nv)) (λD2 J S s2 h2=>?_) (λi2 c J R2 hc2 s2 I=>?_)
  ·refine fin D2 J S s2 ?_;rw[h2];unfold plc;show some (HO.lst _)=some (HO.lst (List.map V.int (List.map _ _)));rw[d4]
   rfl
  ·show⟨a.getD i 0,c,rfl,λH3 s3=>?_⟩;ext
   by_cases z:a.getD i 0=63\/a.getD i 0=c
   ·rw[aO z]at I;refine ifq (by rw[ba z];rfl) ?_;ext;exact I H3 s3
   ·rw[aB z]at I;refine ifp (by rw[aX z];rfl) ?_;ext;exact I H3 s3
theorem Iw:Am P w K mg base (k+5) "fewest_changes" ["k","row"] (U1):=FnA.uE (T.f.at 34) (scN ["k","row","best","right"]) λnd _ x h=>by
 obtain⟨y,a,rfl,k1,k4,B,q⟩:=h;have hu:=x.units0;have L:=An B;have j:y.toNat<=4:=by lia
 have U:=BC x;refine B6 ⟨_,(AD (Ax (Ac (Ca T) x Bp (AA (pv 0) (AA (pv 1) AB)))) (AD (AO 2 (AM (OL T) x (AA (AM (OH T) x (AA (pv 0) (AA (pv 1) AB))) AB))) (AD (AV (AR Bd (pv 2) Aq) (AE (AK Aq)) AW) (AD (AO 3 (AH K (pv 2) AC)) (AE (AK (BM (AA (Aj (FC K rfl) rfl (T.N 15) PyProof.Rows.boot_sum (AA (A1 (own:=["sign","bracket"]) (sel:=[]) (Au (osc:=(AU (top 63))) (N:=["k","row","best","right"]) nB) rfl (EL K rfl (T.N 16) (AA (pv 1) (AA (pv 3) AB))) (λ_ _ _ _ _=>(By (n:=2) K rfl (As (Af (i:=0) (show(["sign","bracket"]:List Str).Nodup from by decide +kernel) rfl (kP rfl)) (As (Af (i:=1) (show(["sign","bracket"]:List Str).Nodup from by decide +kernel) rfl (kP rfl)) Bm)))) (Ea (CK BY (EO BY CQ) (Ak nv) (CK BY CQ (Ak nv) Eb))) (λ_ _ _ _ _=>A2) (λ_ _ _ _ _=>(A5 Cd rfl (T.N 5) ni (AA (AM (Iy T) x (AA (pv 0) (AA (pv 1) AB))) AB)))) AB)) (AA (pv 3) AB))))))))),?_⟩;show .inl (B2 k1 k4 B (λH1 X=>?_));show⟨y,a,rfl,k1,k4,L,λr H2 _ Y Z=>?_⟩;show⟨r,_,y.toNat,rfl,Z,by rw[ax];exact L,j,Jc j a,λv H3 s3 G=>?_⟩;rw[ax]at G;have lo:=λw l h=>FR (a:=a) j (w:=w) (l:=l) h;unfold lkC at lo q;generalize lkO (Pc y.toNat a) y.toNat a.length=o at*
 have M:=(X.trans Y).trans s3
 match o,G,lo,q with
 |none,G,lo,q=>
  cases(show v= .non from G)
  show ifp rfl ?_;ext;exact q _ H3 M rfl
 |some (w,l),⟨T1,ev,f1⟩,lo,q=>
  subst ev;obtain⟨b,hbd⟩:=lo w l rfl;have H:(brx l).length=a.length:=by unfold brx;rw[ax];exact b
  show ifq rfl ?_;show BB (SqT.of f1) (v:=tx (brx l)) rfl ?_;show LO (λc d=> .int (if c=63\/c=d then 0 else 1)) H (small nA) (λD H4 hD Q S=>?_) (λi c d I H4 R hc hd Q J hR=>?_)
  ·have e:((aw a.length).map λi=>V.int (if a.getD i 0=63\/a.getD i 0=(brx l).getD i 0 then 0 else 1))=((aw a.length).map λi=>(if okc (a.getD i 0) (l.getD i 0)=true then(0:Int)else 1)).map V.int:=by
    rw[d4];refine dw λi hi=>?_;have hi:=List.mem_range.mp hi;have eg:(brx l).getD i 0=brs.getD (l.getD i 0) 0:=by
     unfold brx;rw[af,am,ai nA,af (l:=l),ai nA];rfl
    show V.int (if a.getD i 0=63\/a.getD i 0=(brx l).getD i 0 then 0 else 1)=V.int (if okc (a.getD i 0) (l.getD i 0)=true then(0:Int)else 1);rw[eg];unfold okc
    by_cases z:a.getD i 0=63\/a.getD i 0=brs.getD (l.getD i 0) 0
    ·rw[aO z,aO (ba z)]
    ·rw[aB z,aB (by rw[aX z];decide)]
   rw[e]at S;show Fl (SqL.of S) ?_;rw[ML a l b.symm];show⟨small (n:=2) nv,λI J=>?_⟩;exact q _ _ ((M.trans Q).trans (AJ J _)) ⟨I,rfl,AF⟩
  ·show⟨I,_,rfl,SqT.of J,rfl,?_⟩;show⟨c,d,rfl,λH5 s5=>?_⟩;ext;have eb:(if(!decide (c=63\/c=d))=true then(1:Int)else 0)=if c=63\/c=d then 0 else 1:=by
    by_cases z:c=63\/c=d
    ·rw[ba z,aO z];rfl
    ·rw[aX z,aB z];rfl
   rw[eb];exact hR H5 s5
theorem Qs:Am P w K mg base (k+3) "filled" ["k","row"] (Px cs):=FnA.uE (T.f.at 35) (scN ["k","row","places","sums"]) λnd _ j h=>by
 refine⟨_,(AD (AO 2 (AM (E4 T) j (AA (pv 0) (AA (pv 1) AB)))) (AD (AO 3 (AM (E6 T) j (AA (pv 2) AB))) (AD (Ax (Ac (OS T) j A3 (AA (pv 3) AB))) (AE (AK (BM (AA (pv 2) (AA (pv 3) AB)))))))),?_⟩;obtain⟨B,a,⟨rfl,G,H,I⟩,h⟩:=h;have d:=An I;rcases h with⟨hc,r⟩|⟨hc,q⟩
 ·show D4 G H d (λo J x y e=>?_);show D5 (k:=B.toNat) e (by rw[ax];exact d) nA (B9 nA) (λb i L tb=>?_);ext;exact⟨_,b,i,_,_,rfl,tb, .inr ⟨(HB _ _).trans hc,r.pass (y.trans tb.sm)⟩⟩
 ·show D4 G H d (λo J x y e=>?_);show D5 (k:=B.toNat) e (by rw[ax];exact d) nA (B9 nA) (λb i L tb=>?_);show⟨_,b,i,_,_,rfl,tb, .inl ⟨λz=>hc ((HB _ _).symm.trans z),?_⟩⟩;show⟨small (n:=2) nv,λT M=>?_⟩;have t:=AJ M (.tup [.ref o, .ref b]);exact q T o b i _ _ ((y.trans tb.sm).trans t) AF ((e.same tb.sm).same t) (tb.same t)
theorem Iz:Am P w K mg base (k+5) "sure_places" ["k","row"] (Rm cs):=FnA.uE (T.f.at 36) (scN ["k","row","places","sums","in_all"]) λnd _ X h=>by
 have hu:=X.units0;refine⟨_,(AD (Ax (Ac (Ca T) X A3 (AA (pv 0) (AA (pv 1) AB)))) (AD (Bo (Ac (Qs T) X A3 (AA (pv 0) (AA (pv 1) AB))) (By (n:=2) K rfl (As (Ah 2) (As (Ah 3) Bm)))) (AD (CM (i:=4) nd rfl (Or.inr rfl) (AM (E5 T) X (AA (pv 3) AB))) (AE (AK (A1 (own:=["at","manies"]) (sel:=[4,1]) (Au (osc:=(AU (top 69))) (N:=["k","row","places","sums","in_all"]) nB) rfl (Qh K rfl (T.N 4) (AA (AM (OW T) X (AA (pv 2) (AA (pv 3) AB))) AB)) (λ_ _ _ _ _=>(By (n:=2) K rfl (As (Af (i:=0) (show(["at","manies","in_all","row"]:List Str).Nodup from by decide +kernel) rfl (kP rfl)) (As (Af (i:=1) (show(["at","manies","in_all","row"]:List Str).Nodup from by decide +kernel) rfl (kP rfl)) Bm)))) (Ea (CK BY (EO BY CQ) (Ak nv) (CK BY CQ (Ak nv) Eb))) (λ_ _ _ _ _=>EK (PW.pt (Cj (AR (Ag K hu) (AH K (pv 3) (pv 0)) (Ai (T.g.at 4))) (C0 (AR (Ck K) (pv 2) (pv 1) nE))))) (λ_ _ _ _ _=>(BM (AA (pv 0) (AA (AH K (Ai (T.g.at 3)) (A7 K ng PySem.F.slot_list_index PySem.F.type_list_index Qz (pv 1) (AA (pv 2) AB))) AB)))))))))),?_⟩;obtain⟨d,a,⟨rfl,h1,h2,Z⟩,h⟩:=h;have hl:=An Z;have hu:=X.units0;rcases h with⟨hc,r⟩|⟨hc,q⟩
 ·show .inl (B2 h1 h2 Z (λH1 s1=>?_));ext;exact⟨d,a,⟨rfl,h1,h2,Z⟩, .inl ⟨hc,r.pass s1⟩⟩
 ·show .inl (B2 h1 h2 Z (λH1 s1=>?_));show⟨d,a,⟨rfl,h1,h2,Z⟩, .inr ⟨hc,λT p ss ad H0 H2 s2 gT hP tb=>?_⟩⟩;show⟨T,_,rfl,SqT.of gT,rfl,?_⟩;show Dz tb ?_;rw[HB];ext;have S:(a.map (plw (ones d.toNat))).length=a.length:=ax _;refine Ur hP (by rw[S];exact hl) (show d.toNat<=4 by lia) (B9 nA) (XZ nA hl) (tb.congr λi j _ hj=>(aO (S▸hj)).symm) (λF0 y H4 I=>?_);rw[S]at I;show⟨F0,rfl,⟨_,SqL.of I.top⟩,?_⟩;have hrl:((aw a.length).map λi=>V.ref (y i)).length=a.length:=by rw[ax,cY]
  refine B5 (n:=a.length) (λD n J Q=>Same H4 Q/\Rf Q J (((aw n).filterMap (Bz d.toNat a)).map g2)) (λD Y=>⟨AJ Y _,rfl,λm x h=>by simp at h⟩) (λD n J Q Y hn hy p=>⟨_,_,SqL.of (p.1 _ _ I.top),I.at hn⟩) (λD J Q Y hy hyl p=>⟨⟨_,SqL.of (p.1 _ _ I.top),hrl.symm⟩,q D J Q (s1.free (s2.free (I.sm.free Y))) ((s1.trans s2).trans (I.sm.trans p.1)) hy p.2⟩) ?_;rintro D n J G x G3 Y hn hy hyl ⟨sG,hsl⟩ ⟨Tt,xx,hTt,L,rfl,rfl⟩;have L:=L _ (SqL.of (sG _ _ I.top));rw[I.at hn]at L
  cases L
  have tT:=AJ hTt (.tup [.int (n:Int), .ref (y n)]);have gTt:(upd G Tt (.tup [.int (n:Int), .ref (y n)])) Tt=some (.tup [.int (n:Int), .ref (y n)]):=AF;have hyT:=tT _ _ hy;have sT:=sG.trans tT;have R:=hsl.same tT;show Ey K 2 _ (.ref Tt) _ (upd G Tt (.tup [.int (n:Int), .ref (y n)])) _;generalize upd G Tt _=G4 at*
  have B:H4 (y n)=some (.lst (((aw (2*d.toNat)).map (atC d.toNat a n)).map V.int)):=by rw[I.row n hn,Ry];rfl
  have M:=QY d.toNat a n;have gc:a[n]? =some (a.getD n 0):=by rw[af,ai hn];rfl
  show⟨Tt,_,rfl,SqT.of gTt,rfl,?_⟩;show BO (small nA) (AT gc) ?_;ext;have skip:Bz d.toNat a n=none->∃m',m'<a.length-n/\CW D a.length (λn J Q=>Same H4 Q/\Rf Q J (((aw n).filterMap (Bz d.toNat a)).map g2)) (n+1) m' G4:=λhz=>by
   rw[hz]at M;exact⟨a.length-(n+1),by lia,rfl,by lia,J,hyT,by lia,sT,by rw[M];simpa using R⟩
  by_cases H:a.getD n 0=63
  ·refine ifp (by rw[H];rfl) ?_;show Ej (.inl (SqL.of (sT _ _ B))) rfl (RG _) ?_;rw[K0]
   cases hf:Dw d.toNat a n with
   |none=>
    have hno:=RJ hf;have hnm:¬zQ2 d.toNat a∈(aw (2*d.toNat)).map (atC d.toNat a n):=λz=>by
     obtain⟨b,hb,e⟩:=List.mem_map.mp z;exact hno b (List.mem_range.mp hb) e
    rw[aX hnm];show ifq rfl ?_;exact skip (by unfold Bz;rw[aO H,hf];rfl)
   |some b=>
    obtain⟨hb1,hb2,hb3⟩:=RI hf;have hmm:zQ2 d.toNat a∈(aw (2*d.toNat)).map (atC d.toNat a n):=List.mem_map.mpr ⟨b,List.mem_range.mpr hb2,hb1⟩;rw[ba hmm];show ifp rfl ?_;show⟨SqL.ty (SqL.of (sT _ _ B)),?_⟩;show Rx (j:=b) (sT _ _ B) (by rw[am,aU hb2];exact congrArg some hb1) (λm hm z=>?_) (by rw[ax,cY];lia) ?_
    ·rw[am,aU nA]at z;exact hb3 m hm (Option.some.inj z)
    show BO (small nv) (AT (FY (show b<8 by lia))) ?_;show⟨small (n:=2) nv,λT2 hT2=>?_⟩;have t6:=AJ hT2 (.tup [.int (n:Int),tx [brs.getD b 0]]);have g6:(upd G4 T2 (.tup [.int (n:Int),tx [brs.getD b 0]])) T2=some (.tup [.int (n:Int),tx [brs.getD b 0]]):=AF;have U:=t6 _ _ hyT;rw[show Bz d.toNat a n=some (n,b) by unfold Bz;rw[aO H,hf];rfl]at M;refine⟨J,U,by rw[sizeLine_eq];lia,a.length-(n+1),by lia,rfl,by lia,_,AF,by rw[aG,f9];lia,λz o hz=>?_,?_⟩
    ·rw[AI (AS hz Y)];exact t6 _ _ (sT _ _ hz)
    ·rw[M,bv];exact((R.same t6).lst U).more (by rw[AI (IM g6 U (λz=>by cases z))];exact g6)
  ·refine ifq (by simpa using H) ?_;refine ifq rfl ?_;exact skip (by unfold Bz;rw[aB H])
theorem QD:FuV P w K mg base (k+1) "is_name" ["word"] (spIsName8):=FnA.u (T.f.at 37) (scN ["word"]) λnd H G h=>by
 obtain⟨a,rfl,R,q⟩:=h;have S:=G.units0;unfold isNm at q;refine⟨_,(AE (AK (EY (SM CT CT AC (Al K (T.N 7) (AA (pv 0) AB)) (Ai (T.g.at 12))) (DO (Aj (D9 K rfl) rfl (T.N 1) PyProof.Rows.boot_all (AA (A1 (own:=["sign"]) (sel:=[]) (Au (osc:=(AU (top 79))) (N:=["word"]) nB) rfl (CN (pv 0)) (λ_ _ _ _ _=>(Af (i:=0) (show(["sign"]:List Str).Nodup from by decide +kernel) rfl (kP rfl))) (Ak nv) (λ_ _ _ _ _=>A2) (λ_ _ _ _ _=>(BH (Ck K) (pv 0) (Ai (T.g.at 11)) nE))) AB)))))),?_⟩;show ifd (λI=>?_) (λI=>?_)
 ·show ifd (λJ=>?_) (λJ=>?_)
  ·show Gw (small nA) (λD i x j=>x=((a.take i).map λc=>V.bl (decide (c∈ltr)))/\SameBut1 D H j) (λD r=>⟨rfl,SameBut1.of (AJ r _)⟩) (λD x j r d ⟨e,y⟩=>?_) ?_
   ·rw[dD]at e;subst e;have L:SqL K j D ((a.map λc=>decide (c∈ltr)).map V.bl):=by
     rw[d4];exact SqL.of d
    show Ek L ?_;have M:((a.map λc=>decide (c∈ltr)).all id)=(decide (1<=a.length/\a.length<=8)&&a.all λc=>decide (c∈ltr)):=by
     rw[List.all_map,ba nA,Bool.true_and];rfl
    rw[M];exact q j λb o z=>y b o z (AS z r)
   ·rintro D i c x j r Q hi d B ⟨e,y⟩;show Cu ?_;show Bj hi (small nA) d B ⟨?_,y.trans SameBut1.upd⟩;rw[e,List.take_add_one,Q];simp only[Option.toList_some,bv,List.map_cons,List.map_nil]
    rfl
  ·have:=q H (Same.refl H);rw[aX nA,Bool.false_and]at this;exact this
 ·have:=q H (Same.refl H);rw[aX nA,Bool.false_and]at this;exact⟨false,rfl,this⟩
theorem Oz:FuV P w K mg base (k+1) "is_number" ["word"] (spIsNumber8):=FnA.u (T.f.at 38) (scN ["word"]) @λ_ _ _ _ _ _ Q _ nd H R h=>by
 obtain⟨a,rfl,ha,q⟩:=h;have I:=R.units0;unfold Ex at q;have r:¬ (1<=a.length/\a.length<=9)->Q (.bl false) H:=λz=>by
  have:=q H (Same.refl H);rw[aX z,Bool.false_and,Bool.false_and]at this;exact this
 refine⟨_,(AD (AV (PW.pt (BS (BR (FG CT CT AC (Al K (T.N 7) (AA (pv 0) AB)) (Ai (T.g.at 14)))) (Bc (BR (A6 K (Aj (D9 K rfl) rfl (T.N 1) PyProof.Rows.boot_all (AA (A1 (own:=["sign"]) (sel:=[]) (Au (osc:=(AU (top 80))) (N:=["word"]) nB) rfl (CN (pv 0)) (λ_ _ _ _ _=>(Af (i:=0) (show(["sign"]:List Str).Nodup from by decide +kernel) rfl (kP rfl))) (Ak nv) (λ_ _ _ _ _=>A2) (λ_ _ _ _ _=>(BH (Ck K) (pv 0) (Ai (T.g.at 13)) nE))) AB))))))) (AE (AK B0)) AW) (AE (AK (NN (BH (Ag K I) (Al K (T.N 7) (AA (pv 0) AB)) AC) (DO (BH (BN K I) (AH K (pv 0) AC) (pxt [48]))))))),?_⟩;show ifd (λS=>?_) (λS=>?_)
 ·ext
  by_cases J:(a.length:Int)<=9
  ·refine ifq (by rw[ba J];rfl) ?_;show Gw (small nA) (λD i y H'=>y=((a.take i).map λc=>V.bl (decide (c∈fig)))/\SameBut1 D H H') (λD x=>⟨rfl,SameBut1.of (AJ x _)⟩) (λD y H' x j ⟨e,B⟩=>?_) ?_
   ·rw[dD]at e;subst e;have U:SqL K H' D ((a.map λc=>decide (c∈fig)).map V.bl):=by
     rw[d4];exact SqL.of j
    have X:Same H H':=λb o z=>B b o z (AS z x);have d:=q H' X;rw[ba (show 1<=a.length/\a.length<=9 by lia),Bool.true_and]at d;show Ek U ?_;have Y:((a.map λc=>decide (c∈fig)).all id)=(a.all λc=>decide (c∈fig)):=by
     rw[List.all_map];rfl
    rw[Y];ext
    cases L:(a.all λc=>decide (c∈fig))with
    |false=>
     rw[L,Bool.false_and]at d;refine ifp rfl ?_;ext;exact d
    |true=>
     rw[L,Bool.true_and]at d;refine ifq rfl ?_;show ifd (λZ=>?_) (λZ=>?_)
     ·rw[ba (show a.length=1 by lia),Bool.true_or]at d;exact d
     ·rw[aX (show¬a.length=1 by lia),Bool.false_or]at d;have M:0<a.length:=by lia
      show BO (c:=a[0]) (small nA) (by rw[Sv M]) ?_;ext;have:(!decide ([a[0]]=[48]))= !decide (a[0]? =some 48):=by
       rw[ai M];congr 1;exact decide_eq_decide.mpr ⟨λz=>by rw[(List.cons.inj z).1],λz=>by rw[Option.some.inj z]⟩
      rw[this];exact d
   ·rintro D i c y H' x ec hi j G ⟨e,B⟩;show Cu ?_;show Bj hi (small nA) j G ⟨?_,B.trans SameBut1.upd⟩;rw[e,List.take_add_one,ec];simp only[Option.toList_some,bv,List.map_cons,List.map_nil]
    rfl
  ·refine ifp (by rw[aX J];rfl) ?_;ext;exact r nA
 ·ext;rw[aO (show(!false)=true from rfl),aO rfl];ext;exact r nA
theorem PU:FuV P w K mg base (k+2) "has_form" ["word","part"] (spHasForm8):=FnA.u (T.f.at 39) (scN ["word","part"]) λnd H b h=>by
 obtain⟨a,p,rfl,i,q⟩:=h;have j:=b.units0;unfold B7 at q;refine⟨_,(AD (AV (AR (Ag K j) (pv 1) (pxt [108,105,110,101])) (AE (AK B0)) AW) (AE (AK (BL (AR (Ag K j) (pv 1) (pxt [110,117,109,98,101,114])) (AM (Oz T) b (AA (pv 0) AB)) (AM (QD T) b (AA (pv 0) AB)))))),?_⟩;show ifd (λd=>?_) (λd=>?_)
 ·rw[aO d]at q;ext;exact q H (Same.refl H)
 ·rw[aB d]at q;show ifd (λe=>?_) (λe=>?_)
  ·rw[aO e]at q;ext;exact⟨a,rfl,i,q⟩
  ·rw[aB e]at q;ext;exact⟨a,rfl,i,q⟩
theorem Qr:FuV P w K mg base (k+1) "parted" ["text","form"] (spParted8 K):=FnA.u (T.f.at 40) (scN ["text","form"]) λnd H i h=>by
 obtain⟨l,t,a,rfl,j,r,y,q⟩:=h;have z:=i.units0;have ht:SqT K H t (a.map tx):=j.sq;have d:(a.map tx).all A4=true:=by rw[List.all_map,List.all_eq_true];intro x _;rfl
 refine⟨_,(AE (AK (BL (AR (Ck K) (pxt [108,105,110,101]) (pv 1) nE) (A7 K nr PySem.F.slot_str_split PySem.F.type_str_split Kx (pv 0) (AA (pxt [32]) (AA (Al K (T.N 7) (AA (pv 1) AB)) AB))) (A7 K nr PySem.F.slot_str_split PySem.F.type_str_split Kx (pv 0) (AA (pxt [32]) AB))))),?_⟩;show Ej (.inr ht) rfl d ?_;have o:inV (tx CS) (a.map tx)=decide (CS∈a):=by
  exact Hw CS a
 rw[o];show ifd (λe=>?_) (λe=>?_)
 ·show BJ (.inr ht) ?_;rw[ax];show Ru nA nA nA (λp b=>?_);rw[d0];refine q p _ b (AJ b _) ?_;unfold wds;rw[aO e];exact AF
 ·show TJ nA (λp b=>?_);refine q p _ b (AJ b _) ?_;unfold wds;rw[aB e];exact AF
theorem Og:FuV P w K mg base (k+3) "known_words" ["thing"] (Rp K):=FnA.u (T.f.at 41) (scN ["thing","first","form","words"]) @λ_ _ _ _ _ vs Q _ nd H Z h=>by
 have hu:=Z.units0;obtain⟨FK,M,hF,hN⟩:=T.F;have h9:∃v,vs=[v]/\((∃l,v=tx l/\l.length<=1000/\(∀d ar,knw l=some (d,ar)->∀p H',H p=none->Same H H'->H' p=some (.lst ((d.word::ar).map tx))->Q (.ref p) H')/\(knw l=none->∀H',Same H H'->Q .non H'))\/((∃ty,TyOf K H v (.type ty)/\ty∈CB/\ty≠"str")/\Q .non H)):=by
  rcases h with⟨l,d,ar,rfl,hl,hk,q⟩|⟨v,rfl,⟨l,rfl,hl,hk⟩|hty,q⟩
  ·exact⟨_,rfl, .inl ⟨l,rfl,hl,λd' ar' e=>(by rw[hk]at e;cases e;exact q),λe=>(by rw[hk]at e;cases e)⟩⟩
  ·exact⟨_,rfl, .inl ⟨l,rfl,hl,λd' ar' e=>(by rw[hk]at e;cases e),λ_=>q⟩⟩
  ·exact⟨_,rfl, .inr ⟨hty,q H (Same.refl H)⟩⟩
 obtain⟨v,e0,h8⟩:=h9;clear h;subst e0;refine⟨_,(AD (AV (BR (A6 K (Aj (Dc K) rfl (T.N 6) nb (AA (pv 0) (AA (Dp (T.N 14) nj) AB))))) (AE (AK Aq)) AW) (AD (AO 1 (AH K (A7 K nr PySem.F.slot_str_partition PySem.F.type_str_partition UR (pv 0) (AA (pxt [32]) AB)) AC)) (AD (AV (Mb (P5 P w K (pv 1) (Ai (T.g.at 15))) nE) (AE (AK Aq)) AW) (AD (AO 2 (Hs P w K (Ai (T.g.at 15)) (pv 1))) (AD (AO 3 (AM (Qr T) Z (AA (pv 0) (AA (pv 2) AB)))) (AD (AV (AR (BN K hu) (Al K (T.N 7) (AA (pv 3) AB)) (AG AN (Al K (T.N 7) (AA (pv 2) AB)) AC)) (AE (AK Aq)) AW) (AE (AK (BL (A6 K (Aj (D9 K rfl) rfl (T.N 1) PyProof.Rows.boot_all (AA (A1 (own:=["word","part"]) (sel:=[]) (Au (osc:=(AU (top 83))) (N:=["thing","first","form","words"]) nB) rfl (EL K rfl (T.N 16) (AA (Aw (A0 K) (pv 3) (Ay AC) Az) (AA (pv 2) AB))) (λ_ _ _ _ _=>(By (n:=2) K rfl (As (Af (i:=0) (show(["word","part"]:List Str).Nodup from by decide +kernel) rfl (kP rfl)) (As (Af (i:=1) (show(["word","part"]:List Str).Nodup from by decide +kernel) rfl (kP rfl)) Bm)))) (Ea (CK BY (EO BY CQ) (Ak nv) (CK BY CQ (Ak nv) Eb))) (λ_ _ _ _ _=>A2) (λ_ _ _ _ _=>(AM (PU T) Z (AA (pv 0) (AA (pv 1) AB))))) AB))) (pv 3) Aq))))))))),?_⟩;ext;rcases h8 with⟨l,rfl,hsz,q,q0⟩|⟨⟨ty,I,hp,hs⟩,q⟩
 rotate_left
 ·refine Bq (b:=false) I (by
   have:ty="NoneType"\/ty="bool"\/ty="int"\/ty="str"\/ty="list"\/ty="tuple"\/ty="dict":=by simpa[CB]using hp
   rcases this with rfl|rfl|rfl|rfl|rfl|rfl|rfl<;>first|exact absurd rfl hs|with_unfolding_all rfl) ?_
  show ifp rfl ?_;ext;exact q
 refine Bq (b:=true) (TyOf.str _) nE ?_;show ifq rfl ?_;show TN nA (KD l) (λp v u hp=>?_);ext;have J:=AJ hp (.tup [tx (Bu l),v,u]);refine BB (SqT.of AF) rfl ?_;generalize upd H p _=H1 at*
 show⟨aF,FK,kyT (Bu l),rfl,M,rfl,?_⟩;ext
 cases S:D15.of (Bu l)with
 |none=>
  refine ifp (by rw[hN _ S];rfl) ?_;ext;exact q0 (by unfold knw;rw[S]) H1 J
 |some d=>
 have ew:=Lu S;obtain⟨t,hv,I⟩:=hF d;rw[ew]at hv;refine ifq (by rw[hv];rfl) ?_;show⟨aF,FK,kyT (Bu l),_,rfl,M,rfl,hv,?_⟩;ext;have hln:=d.len;refine⟨l,t,d.form,rfl,I,by lia,hsz,λp2 H2 hp2 U j=>?_⟩;have ek:knw l=if(wds l d.form).tail.length=d.form.length/\(((wds l d.form).tail).zip d.form).all (λx=>B7 x.1 x.2)=true then some (d,(wds l d.form).tail)else none:=by
  show(match D15.of (Bu l)with|none=>none|some d=>_)=_;rw[S]
 have hwl:(wds l d.form).tail.length<=1001:=by
  have:(wds l d.form).length<=l.length+1:=by unfold wds;split<;>exact EH _ _ _
  rw[List.length_tail];lia
 have hea:∀a∈(wds l d.form).tail,a.length<=1000:=λa X=>Nat.le_trans (KW (List.mem_of_mem_tail X)) hsz;rw[KY]at j;rw[<-ew]at j;generalize(wds l d.form).tail=args at*
 show BJ (.inl (SqL.of j)) ?_;show BJ (.inr I.sq) ?_;ext
 by_cases r:args.length=d.form.length
 rotate_left
 ·refine ifp (by rw[aX];rfl;simp only[ax,aM];lia) ?_;ext;exact q0 (by rw[ek,aB (λz=>r z.1)]) H2 (J.trans U)
 refine ifq (by rw[ba];rfl;simp only[ax,aM];lia) ?_;show Eh (SqL.of j) (λz hz=>?_);have ez:Cw ((d.word::args).map tx) (some 1) none=args.map tx:=LA _ _;rw[ez];have s3:=AJ hz (.lst (args.map tx));have B:(upd H2 z (.lst (args.map tx))) z=some (.lst (args.map tx)):=AF;have hz2:H z=none:=J.free (U.free hz);generalize upd H2 z _=H3 at*
 have hl3:=s3 _ _ j;show⟨.l z, .t t,_,_,rfl,SqL.of B,I.sq,?_⟩;refine Hc (by rw[ax,ax];lia) (λD i Y H'=>Y=(((args.zip d.form).take i).map λx=>B7 x.1 x.2).map V.bl/\SameBut1 D H3 H') (λD i Y H' L ⟨_,R⟩=>⟨SqL.of (R _ _ B (AS B L)),I.sq⟩) (λD L=>⟨rfl,SameBut1.of (AJ L _)⟩) (λD Y H' L G ⟨e,R⟩=>?_) ?_
 ·have e0:(args.zip d.form).take ((args.map tx).length)=args.zip d.form:=dA (by rw[List.length_zip,ax];lia);rw[e0]at e;subst e;show Ek (SqL.of G) ?_;have e2:(((args.zip d.form).map λx=>B7 x.1 x.2).all id)=(args.zip d.form).all λx=>B7 x.1 x.2:=by rw[List.all_map];rfl
  rw[e2];have sG:Same H3 H':=λb o y=>R b o y (AS y L);ext
  cases e3:(args.zip d.form).all λx=>B7 x.1 x.2 with
  |true=>
   refine ifp rfl ?_;ext;exact q d args (by rw[ek,aO ⟨r,e3⟩]) p2 H' (J.free hp2) (((J.trans U).trans s3).trans sG) (sG _ _ hl3)
  |false=>
   refine ifq rfl ?_;ext;exact q0 (by rw[ek,aB (λz=>by rw[e3]at z;cases z.2)]) H' (((J.trans U).trans s3).trans sG)
 ·rintro D i c dv T' Y H4 H5 L hc hdv hi G hl' ⟨e,R⟩ s5 hT';obtain⟨a,X,rfl⟩:∃a,args[i]? =some a/\tx a=c:=by
   rw[am]at hc;obtain⟨a,h1,h2⟩:=dz.mp hc;exact⟨a,h1,h2⟩
  obtain⟨pp,hpp,rfl⟩:∃a,d.form[i]? =some a/\tx a=dv:=by
   rw[am]at hdv;obtain⟨a,h1,h2⟩:=dz.mp hdv;exact⟨a,h1,h2⟩
  refine DL (SqT.of hT') rfl ?_;show Cu ?_;show⟨a,pp,rfl,hea a (bV X),λH6 s6=>?_⟩;refine Bj hi (small (by rw[ax];lia)) (s6 _ _ G) hl' ⟨?_,?_⟩
  ·have ez2:(args.zip d.form)[i]? =some (a,pp):=by rw[List.getElem?_zip_eq_some];exact⟨X,hpp⟩
   rw[e,List.take_add_one,ez2];simp only[Option.toList_some,bv,List.map_cons,List.map_nil]
  ·exact((R.trans (SameBut1.of (s5.trans s6))).trans SameBut1.upd)
theorem JF:FuV P w K mg base (k+1) "yes_or_no" ["truth"] (spYesNo):=FnA.u (T.f.at 42) (scN ["truth"]) λnd _ _ h=>by
 obtain⟨b,rfl,q⟩:=h;refine⟨_,(AE (AK (BL (A6 K (pv 0)) (pxt [121,101,115]) (pxt [110,111])))),?_⟩;ext
 cases b with
 |true=>
  refine ifp rfl ?_;ext;exact q
 |false=>
  refine ifq rfl ?_;ext;exact q
theorem FI:FuV P w K mg base (k+1) "shown" ["row"] (spShown):=FnA.u (T.f.at 43) (scN ["row"]) λnd _ b h=>by
 obtain⟨a,rfl,d,q⟩:=h;have i:=b.units0;refine⟨_,(AE (AK (BL (A6 K (pv 0)) (pv 0) (Ai (T.g.at 9))))),?_⟩;show U4 (small d) ?_
 by_cases e:a=[]
 ·rw[ba e];refine ifq rfl ?_;ext;rw[shw,aO e]at q;exact q
 ·rw[aX e];refine ifp rfl ?_;ext;rw[shw,aB e]at q;exact q
theorem Ox:Am P w K mg base (k+3) "say_kinds" ["desk","words"] (spSayKinds cs aE):=FnA.uE (T.f.at 44) (scN ["desk","words","k"]) λnd H b h=>by
 have G:=b.units0;have j:=BC b;refine⟨_,(AD (AO 2 (A5 GX rfl (T.N 5) ni (AA (AH K (pv 1) AC) AB))) (AD (Ax (Ac (JB T) b A3 (AA (pv 2) AB))) (AD (Cf K (pv 0) (pv 2)) (AD (Cf K (pv 0) Ks) (AE (AK (Ai (T.g.at 8)))))))),?_⟩;obtain⟨d,ws,r,k,I,n,rfl,hd,B,L,h⟩:=h;have G:=b.units0;have j:=BC b;obtain⟨⟨o,x⟩,M⟩:=id hd;have J:=hd.ne;rcases h with⟨n1,n4,q⟩|⟨hn',rf⟩
 ·show AL (SqL.of B) rfl ?_;show Fc nA ?_;show .inl (J8 nA nA ?_);show⟨d,aE,o,_,rfl,x,T.E.cl,(T.E.at 0),by show 2<1000;decide,?_⟩;ext;intro r' a;ext;have y:H r'=none:=by
   by_cases z:r'=d
   ·subst z;rw[AF]at a;cases a
   ·rwa[AI z]at a
  have e:d≠r':=λz=>by rw[z,y]at x;cases x
  refine⟨d,aE,o,_,rfl,by rw[AI e];exact AF,T.E.cl,(T.E.at 1),by show 2<1000;decide,?_⟩;show q r' _ y (((FB.refl _ _).atU nC).new y|>.atU nC) ⟨⟨o,?_⟩,?_⟩
  ·rw[AF];rfl
  ·rw[AI e.symm];exact AF
 ·show AL (SqL.of B) rfl ?_;show Fc nA ?_;ext;exact .inr ⟨_,rfl,⟨"int",TyOf.int _,by decide,λi hi=>by cases hi;lia⟩,rf.pass (Same.refl H)⟩
theorem P8:Am P w K mg base (k+5) "say_row" ["desk","words"] (spSayRow8 cs aE):=FnA.uE (T.f.at 45) (scN ["desk","words"]) λnd H e h=>by
 have y:=e.units0;have i:=BC e;refine⟨_,(AD (Ax (Ac (Ca T) e A3 (AA (Ab K (pv 0)) (AA (AH K (pv 1) AC) AB)))) (AD (Tz i (Ab K (pv 0)) (AH K (pv 1) AC) (AH K (pv 1) AC) rfl) (AE (AK (Ai (T.g.at 8)))))),?_⟩;obtain⟨d,ws,r,k,z,B,a,rfl,hd,k1,k4,J,j,L,h⟩:=h;have y:=e.units0;have i:=BC e;obtain⟨⟨G,o⟩,I⟩:=id hd;have x:=hd.ne;rcases h with⟨hro,q⟩|⟨hro,rf⟩
 ·show T.E.fl 0 o ?_;show AL (SqL.of j) rfl ?_;show .inl (B2 k1 k4 hro (λM b=>?_));show AL (SqL.of (b _ _ j)) rfl ?_;show T.E.fl 1 (b _ _ o) ?_;show AL (SqL.of (b _ _ j)) rfl ?_;show⟨r,_,rfl,DPut.k (k:=kyT B) (b _ _ I) (by rw[sizeLine_eq];lia),?_⟩;ext;exact q _ (((FB.refl _ _).s b).atU nC) ⟨⟨G,by rw[AI x];exact b _ _ o⟩,AF⟩
 ·show T.E.fl 0 o ?_;show AL (SqL.of j) rfl ?_;ext;exact .inr ⟨_,_,rfl, .inr ⟨k,rfl,k1,k4, .inl ⟨a,rfl,by lia,hro⟩,rf.pass (Same.refl H)⟩⟩
theorem PB:Am P w K mg base (k+1) "say_turn" ["desk","words"] (Du):=FnA.uE (T.f.at 46) (scN ["desk","words"]) λ_ _ _ h=>h.elim
theorem On:Am P w K mg base (k+1) "say_behind" ["desk","words"] (Du):=FnA.uE (T.f.at 47) (scN ["desk","words","both"]) λ_ _ _ h=>h.elim
theorem PK:Am P w K mg base (k+1) "say_drop" ["desk","words"] (spSayDrop aE):=FnA.uE (T.f.at 48) (scN ["desk","words"]) λnd _ e h=>by
 obtain⟨d,ws,r,k,a,one,v,rfl,hd,o,x,q⟩:=h;have B:=e.units0;have y:=BC e;obtain⟨⟨z,i⟩,j⟩:=id hd;have b:=hd.ne;refine B6 ⟨_,(AD (Ax (SK (Ab K (pv 0)) (AH K (pv 1) AC) ⟨rfl,rfl,rfl,rfl⟩)) (AE (AK (Ai (T.g.at 8))))),?_⟩;show T.E.fl 1 i ?_;refine⟨r,rfl, .inl ⟨a, .inl j⟩,?_⟩;show AL (SqL.of o) rfl ?_;refine⟨a,kyT one,v,j,rfl,x,?_⟩;ext;exact q _ ((FB.refl _ _).atU nC) ⟨⟨z,by rw[AI b];exact i⟩,AF⟩
theorem PF:Am P w K mg base (k+2) "say_show" ["desk","words"] (spSayShow aE):=FnA.uE (T.f.at 49) (scN ["desk","words"]) λnd H b h=>by
 obtain⟨d,ws,r,k,i,one,a,rfl,hd,j,o,x,q⟩:=h;have G:=b.units0;have e:=BC b;obtain⟨⟨I,y⟩,z⟩:=id hd;have B:=hd.ne;refine B6 ⟨_,(AE (AK (AM (FI T) b (AA (Cq e (Ab K (pv 0)) (AH K (pv 1) AC)) AB)))),?_⟩;show T.E.fl 1 y ?_;show AL (SqL.of j) rfl ?_;show⟨r,_,rfl,by rw[<-o];exact DGet.k (k:=kyT one) z,?_⟩;ext;exact⟨a,rfl,x,q H (Same.refl H)⟩
theorem Ov:Am P w K mg base (k+6) "say_right" ["desk","words"] (spRight7 aE):=FnA.uE (T.f.at 50) (scN ["desk","words"]) λnd _ b h=>by
 obtain⟨d,ws,r,H,j,one,a,h,q⟩:=h;obtain⟨rfl,hd,k1,k4,o,x,y⟩:=h;have I:=b.units0;have e:=BC b;obtain⟨⟨J,i⟩,z⟩:=id hd;refine B6 ⟨_,(AE (AK (AM (JF T) b (AA (Ac (GB T) b Bp (AA (Ab K (pv 0)) (AA (Cq e (Ab K (pv 0)) (AH K (pv 1) AC)) AB))) AB)))),?_⟩;show T.E.fl 0 i ?_;show T.E.fl 1 i ?_;show AL (SqL.of o) rfl ?_;show⟨r,_,rfl,by rw[<-x];exact DGet.k (k:=kyT one) z,?_⟩;show .inl (GF k1 k4 y (λB G=>?_));ext;exact⟨_,rfl,q B G⟩
theorem QA:Am P w K mg base (k+7) "say_may" ["desk","words"] (spMay7 aE):=FnA.uE (T.f.at 51) (scN ["desk","words"]) λnd _ b h=>by
 obtain⟨d,ws,r,H,j,one,a,h,q⟩:=h;obtain⟨rfl,hd,k1,k4,o,x,y⟩:=h;have I:=b.units0;have e:=BC b;obtain⟨⟨J,i⟩,z⟩:=id hd;refine B6 ⟨_,(AE (AK (AM (JF T) b (AA (Ac (JH T) b Bp (AA (Ab K (pv 0)) (AA (Cq e (Ab K (pv 0)) (AH K (pv 1) AC)) AB))) AB)))),?_⟩;show T.E.fl 0 i ?_;show T.E.fl 1 i ?_;show AL (SqL.of o) rfl ?_;show⟨r,_,rfl,by rw[<-x];exact DGet.k (k:=kyT one) z,?_⟩;show KC k1 k4 y (λB G=>?_);ext;exact⟨_,rfl,q B G⟩
theorem PJ:Am P w K mg base (k+6) "say_many" ["desk","words"] (spMany7 aE):=FnA.uE (T.f.at 52) (scN ["desk","words"]) λnd _ b h=>by
 obtain⟨d,ws,r,o,x,one,a,h,q⟩:=h;obtain⟨rfl,hd,k1,k4,y,z,i⟩:=h;have L:=b.units0;have e:=BC b;obtain⟨⟨M,j⟩,B⟩:=id hd;refine B6 ⟨_,(AE (AK (A5 Cc rfl (T.N 14) nj (AA (Ac (GC T) b Bp (AA (Ab K (pv 0)) (AA (Cq e (Ab K (pv 0)) (AH K (pv 1) AC)) AB))) AB)))),?_⟩;show T.E.fl 0 j ?_;show T.E.fl 1 j ?_;show AL (SqL.of y) rfl ?_;show⟨r,_,rfl,by rw[<-z];exact DGet.k (k:=kyT one) B,?_⟩;show .inl (Gp k1 k4 i (λG H=>?_));ext;obtain⟨I,J⟩:=MJ (k:=o.toNat) (a:=a) nA (An i);rw[<-I];refine Ci J ?_;exact q G H
theorem P9:Am P w K mg base (k+6) "say_nth" ["desk","words"] (spNth7 cs aE):=FnA.uE (T.f.at 53) (scN ["desk","words"]) λnd H b h=>by
 obtain⟨d,ws,r,y,z,one,a,n,h,Q,q⟩:=h;obtain⟨rfl,hd,k1,k4,o,B,e⟩:=h;have R:=b.units0;have j:=BC b;obtain⟨⟨S,x⟩,G⟩:=id hd;refine⟨_,(AE (AK (AM (FI T) b (AA (Ac (F6 T) b A3 (AA (Ab K (pv 0)) (AA (Cq j (Ab K (pv 0)) (AH K (pv 1) AC)) (AA (A5 GX rfl (T.N 5) ni (AA (AH K (pv 1) AC) AB)) AB)))) AB)))),?_⟩;show T.E.fl 0 x ?_;show T.E.fl 1 x ?_;show AL (SqL.of (o)) rfl ?_;show⟨r,_,rfl,by rw[<-B];exact DGet.k (k:=kyT one) (G),?_⟩;show AL (SqL.of o) rfl ?_;show Fc nA ?_;ext;have U:=An e;rcases q with⟨hc,q⟩|⟨hc,rf⟩
 ·refine Gm k1 k4 e nA hc (λbs I J L M=>?_);ext;exact⟨_,rfl,by unfold brt;rw[ax];lia,q bs I J L M⟩
 ·exact .inr ⟨_,_,_,rfl, .inr ⟨y,a,rfl,rfl,k1,k4,e,⟨"int",TyOf.int _,by decide,λi hi=>by cases hi;lia⟩,rf.pass (Same.refl H)⟩⟩
theorem Ol:Am P w K mg base (k+8) "say_number" ["desk","words"] (spNumber7 cs aE):=FnA.uE (T.f.at 54) (scN ["desk","words"]) λnd H x h=>by
 obtain⟨d,ws,r,e,M,one,a,b,h,Q,q⟩:=h;obtain⟨rfl,hd,k1,k4,y,R,B⟩:=h;have hu:=x.units0;have G:=BC x;obtain⟨⟨dx,I⟩,S⟩:=id hd;refine⟨_,(AD (Ax (Ac (Ca T) x A3 (AA (Ab K (pv 0)) (AA (AH K (pv 1) AC) AB)))) (AE (AK (A5 Cc rfl (T.N 14) nj (AA (Ac (JG T) x A3 (AA (Ab K (pv 0)) (AA (Cq G (Ab K (pv 0)) (AH K (pv 1) AC)) (AA (AH K (pv 1) AC) AB)))) AB))))),?_⟩;show T.E.fl 0 I ?_;show AL (SqL.of y) rfl ?_;ext;rcases q with⟨i,rf⟩|q
 ·exact .inr ⟨_,_,rfl, .inr ⟨e,rfl,k1,k4, .inl ⟨b,rfl,by lia,i⟩,rf.pass (Same.refl H)⟩⟩
 have i:AQ e b=true:=by rcases q with⟨z,_⟩|⟨z,_⟩<;>exact z
 refine .inl (B2 k1 k4 i (λH1 j=>?_));show T.E.fl 0 (j _ _ I) ?_;show T.E.fl 1 (j _ _ I) ?_;show AL (SqL.of (j _ _ y)) rfl ?_;show⟨r,_,rfl,by rw[<-R];exact DGet.k (k:=kyT one) (j _ _ S),?_⟩;show AL (SqL.of (j _ _ y)) rfl ?_;ext;have L:=An B;rcases q with⟨_,hf,rf⟩|⟨_,bs,rfl,hf,q⟩
 ·exact .inr ⟨_,_,_,rfl, .inr ⟨e,a,rfl,rfl,k1,k4,B, .inl ⟨b,rfl,Q,hf⟩,rf.pass j⟩⟩
 ·refine JN k1 k4 B hf (λU X=>?_);ext;obtain⟨_,h0,J⟩:=Fi.pos (k:=e.toNat) nA L (by intro o Y;cases Y) hf;have h5:=(EG (k:=e.toNat) (a:=a) nA L).2;have Z:W e.toNat a 0 []=zQ2 e.toNat a:=rfl;rw[Z]at J;have q':=q U (j.trans X);generalize num e.toNat a 0 [] bs=m at*
  have em:m=((m.toNat:Nat):Int):=by lia
  have hm:m.toNat<2^1900:=by
   have:m.toNat<=5^40:=by lia
   exact de this nB
  rw[em];refine Ci hm ?_;exact q'
theorem PD:Am P w K mg base (k+6) "say_sure" ["desk","words"] (spSure7 cs aE):=FnA.uE (T.f.at 55) (scN ["desk","words","row","signs","at","bracket"]) @λ_ _ _ _ _ vs _ _ nd H S h=>by
 obtain⟨d,ws,r,B,kvs,one,a,h,q⟩:=h;obtain⟨rfl,hd,k1,k4,hw,hv,X⟩:=h;have hu:=S.units0;have Y:=BC S;obtain⟨⟨dx,e1⟩,e2⟩:=id hd;have hl:=An X;refine⟨_,(AD (AO 2 (Cq Y (Ab K (pv 0)) (AH K (pv 1) AC))) (AD (AO 3 (A5 (Jm K rfl) rfl (T.N 8) PyProof.Rows.boot_list (AA (pv 2) AB))) (AD (A9 PassesOwn.leaving rfl (Bx K (Ac (Iz T) S A3 (AA (Ab K (pv 0)) (AA (pv 2) AB)))) (By (n:=2) K rfl (As (Ah 4) (As (Ah 5) Bm))) (AE (Bo (pv 5) (CO (pv 3) (pv 4) BW)))) (AE (AK (AM (FI T) S (AA (A7 K nr PySem.F.slot_str_join nu (EM K) (pxt []) (AA (pv 3) AB)) AB))))))),?_⟩;show T.E.fl 1 e1 ?_;show AL (SqL.of hw) rfl ?_;show⟨r,_,rfl,by rw[<-hv];exact DGet.k (k:=kyT one) e2,?_⟩;show Lf nA (λsg J=>?_);have Z:=AJ J (.lst ((a.map λc=>[c]).map tx));have h1:(upd H sg (.lst ((a.map λc=>[c]).map tx))) sg=some (.lst ((a.map λc=>[c]).map tx)):=AF;generalize upd H sg _=H1 at*
 show T.E.fl 0 (Z _ _ e1) ?_;ext;rcases q with⟨hc,rf⟩|⟨hc,q⟩
 ·exact⟨B,a,⟨rfl,k1,k4,X⟩, .inl ⟨hc,rf.pass Z⟩⟩
 refine⟨B,a,⟨rfl,k1,k4,X⟩, .inr ⟨hc,λD vs H2 hD s2 L hS=>?_⟩⟩;have M:∀x∈Bs B.toNat a,x.1<a.length:=λx U=>LS U;have h2:=s2 _ _ h1;have Q:vs.length=(Bs B.toNat a).length:=by rw[hS.1,ax]
 have hDs:D≠sg:=λz=>by rw[z,h1]at hD;cases hD
 show⟨D,rfl,⟨_,SqL.of L⟩,?_⟩;refine Gs (xs:=vs) (λi σ G=>∃o4 o5,σ=[some (.ref d),some (.ref ws),some (tx a),some (.ref sg),o4,o5]/\SameBut1 sg H2 G/\G sg=some (.lst (((CG a ((Bs B.toNat a).take i)).map λc=>[c]).map tx))) ⟨_,_,rfl,SameBut1.of (Same.refl _),h2⟩ (λi σ G _ ⟨_,_,_,I,_⟩=>SqL.of (I _ _ L hDs)) ?_ ?_
 ·intro i x σ G U z_;obtain⟨o4,o5,rfl,I,hg⟩:=z_;have hi:i<vs.length:=(az.mp U).1;obtain⟨y,hy⟩:∃y,(Bs B.toNat a)[i]? =some y:=⟨_,ai (by rw[<-Q];exact hi)⟩;obtain⟨T1,R,e⟩:=hS.2 i _ (by rw[am,hy];rfl);rw[U]at R
  cases R
  have e:H2 T1=some (.tup [.int y.1,tx [brs.getD y.2 0]]):=e;have hlt:=M y (bV hy);have hTs:T1≠sg:=λz=>by rw[z,h2]at e;cases e
  show⟨T1,_,rfl,SqT.of (I _ _ e hTs),rfl,?_⟩;show Ba hg (j:=y.1) (L6 (by rw[ax,ax,DH];exact hlt)) ?_;show⟨_,_,rfl,I.trans SameBut1.upd,?_⟩;rw[AF,List.take_add_one,hy];simp only[Option.toList_some];rw[Jq,List.map_set,List.map_set]
 ·intro σ G z_;obtain⟨o4,o5,rfl,I,hg⟩:=z_;rw[Q,dD]at hg;show EU (SqL.of hg) (by rw[E9,ax,DH];lia) ?_;rw[E9];ext;exact⟨_,rfl,by rw[DH];lia,q G λb o z=>I b o (s2 _ _ (Z _ _ z)) (AS z J)⟩
theorem Om:Am P w K mg base (k+6) "say_fewest" ["desk","words"] (spFew7 aE):=FnA.uE (T.f.at 56) (scN ["desk","words","found"]) λnd _ i h=>by
 obtain⟨d,ws,r,j,H,one,a,h,q⟩:=h;obtain⟨rfl,hd,k1,k4,I,J,z⟩:=h;have X:=i.units0;have x:=BC i;obtain⟨⟨Y,B⟩,L⟩:=id hd;have Z:=An z;refine B6 ⟨_,(AD (AO 2 (Ac (Iw T) i Bp (AA (Ab K (pv 0)) (AA (Cq x (Ab K (pv 0)) (AH K (pv 1) AC)) AB)))) (AE (AK (BL (AR Bd (pv 2) Aq) (Ai (T.g.at 9)) (SJ (Mi (AH K (pv 2) AC)) (pxt [32]) (Mi (AM (FI T) i (AA (AH K (pv 2) AC) AB)))))))),?_⟩;show T.E.fl 0 B ?_;show T.E.fl 1 B ?_;show AL (SqL.of (I)) rfl ?_;show⟨r,_,rfl,by rw[<-J];exact DGet.k (k:=kyT one) (L),?_⟩;show⟨j,a,rfl,k1,k4,z,λv M Q y=>?_⟩;have b:=q M Q;have lo:=λw l h=>FR (a:=a) (show j.toNat<=4 by lia) (w:=w) (l:=l) h;generalize lkC j.toNat a=o at*
 ext
 match o,y,lo,b with
 |none,y,lo,b=>
  cases(show v= .non from y)
  refine ifp rfl ?_;ext;exact b
 |some (w,l),⟨T1,R,G⟩,lo,b=>
  subst R;have e:l.length=a.length:=(lo w l rfl).1;have S:(brx l).length=a.length:=by unfold brx;rw[ax];exact e
  refine ifq rfl ?_;ext;have U:=Fg a l;refine BB (SqT.of G) rfl ?_;refine .inl ⟨chg a l,rfl,de (show chg a l<=40 by lia) nB,_,rfl,?_,?_⟩
  ·exact Nat.le_trans (Cz 8 _ nA) nA
  show⟨_,rfl,by decide,?_⟩;show BB (SqT.of G) rfl ?_;show⟨_,rfl,by lia, .inr ⟨_,rfl,?_,_,rfl,?_,?_⟩⟩
  ·exact Nat.le_trans (EI (n:=40) nv nA) nv
  ·exact Nat.le_trans (EI (n:=40) nv nA) nv
  ·exact b
theorem PH:Am P w K mg base (k+7) "say_more" ["desk","words"] (spMore7 aE):=FnA.uE (T.f.at 57) (scN ["desk","words","found"]) λnd _ b h=>by
 obtain⟨d,ws,r,L,z,one,a,h,q⟩:=h;obtain⟨rfl,hd,k1,k4,B,G,i⟩:=h;have M:=b.units0;have e:=BC b;obtain⟨⟨Q,j⟩,H⟩:=id hd;refine B6 ⟨_,(AD (AO 2 (Ac (JA T) b Bp (AA (Ab K (pv 0)) (AA (Cq e (Ab K (pv 0)) (AH K (pv 1) AC)) AB)))) (AE (AK (BL (AR Bd (pv 2) Aq) (Ai (T.g.at 9)) (A5 Cc rfl (T.N 14) nj (AA (pv 2) AB)))))),?_⟩;show T.E.fl 0 j ?_;show T.E.fl 1 j ?_;show AL (SqL.of B) rfl ?_;show⟨r,_,rfl,by rw[<-G];exact DGet.k (k:=kyT one) H,?_⟩;show JS k1 k4 i (λns I J o=>?_);have y:=q ns I J o;ext
 cases ns with
 |nil=>
  refine ifp rfl ?_;ext;exact y
 |cons x r=>
  have R:=((o.2.1 x).mp List.mem_cons_self).bound;refine ifq rfl ?_;ext;have S:=An i;have ex:x=((x.toNat:Nat):Int):=by lia
  show rStrB [.int x] _ _;rw[ex];refine Ci (de (show x.toNat<=40 by lia) nB) ?_;exact y
theorem Ow:Am P w K mg base (k+1) "say_names" ["desk","words"] (Du):=FnA.uE (T.f.at 58) (scN ["desk","words"]) λ_ _ _ h=>h.elim
theorem OT:MkV P w K mg base (k+2) aE ["self"] (spDkInit aE):=MtA.m (T.m.at 5) T.E (scN ["self"]) λnd H j h=>by
 obtain⟨d,e,rfl,hd,q⟩:=h;have o:=j.units0;refine⟨_,(AD (Cf K (pv 0) (Ai (T.g.at 10))) (AE (Cf K (pv 0) Ks))),?_⟩;show⟨d,aE,e,[],rfl,hd,T.E.cl,(T.E.at 0),by show 0<1000;decide,?_⟩;ext;intro r a;have i:H r=none:=by
  by_cases z:r=d
  ·subst z;rw[AF]at a;cases a
  ·rwa[AI z]at a
 have b:d≠r:=λz=>by rw[z,i]at hd;cases hd
 show⟨d,aE,e,_,rfl,by rw[AI b];exact AF,T.E.cl,(T.E.at 1),by show 1<1000;decide,?_⟩;show q r _ i (((FB.refl _ _).atU nC).new i|>.atU nC) ⟨⟨e,?_⟩,?_⟩
 ·rw[AF];rfl
 ·rw[AI b.symm];exact AF
theorem PV:N8 P w K mg base (k+9) aE "say" ["self","row"] (spSayG (DE cs aE) K cs aE):=MtA.uE (T.m.at 6) (scN ["self","row","words","word","part","deed"]) λnd H R h=>by
 obtain⟨d,r,kk,I,v,rfl,hd,h⟩:=h;have hu:=R.units0;have hu2:=BC R;obtain⟨FK,hFK,hF,_⟩:=T.F;obtain⟨DK,hDK,X,o⟩:=T.D;obtain⟨⟨dx,e1⟩,e2⟩:=id hd;have hdd:∀j:D15,∃fd,FnOk P w K mg base (CXE P w) (k+8) (X j) fd ["desk","words"] (Ln ["desk","words"] (DE cs aE j))/\W.keepIn K (.ref (X j))=true/\Binds K fd ["desk","words"] []:=by
  have one:∀ {x:Str} {sp:Sp} {a:Addr},FnUE P w K mg base (k+8) x ["desk","words"] sp->mg x=some (.ref a)->∃fd,FnOk P w K mg base (CXE P w) (k+8) a fd ["desk","words"] sp/\W.keepIn K (.ref a)=true/\Binds K fd ["desk","words"] []:=λU hm=>by
   obtain⟨f,fd,F1,e,kp,b⟩:=U.ex;rw[hm]at e
   cases e
   exact⟨fd,F1,kp,b⟩
  intro j
  cases j
  ·exact one (Ox T) (o .kinds).2
  ·exact one (P8 T) (o .row).2
  ·exact one (PB T) (o .turn).2
  ·exact one (On T) (o .behind).2
  ·exact one (PK T) (o .drop).2
  ·exact one (PF T) (o .show).2
  ·exact one (Ov T) (o .right).2
  ·exact one (QA T) (o .may).2
  ·exact one (PJ T) (o .many).2
  ·exact one (P9 T) (o .nth).2
  ·exact one (Ol T) (o .number).2
  ·exact one (PD T) (o .sure).2
  ·exact one (Om T) (o .fewest).2
  ·exact one (PH T) (o .more).2
  ·exact one (Ow T) (o .names).2
 refine⟨_,(AD (AO 2 (AM (Og T) R (AA (pv 1) AB))) (AD (AV (AR Bd (pv 2) Aq) (AE (DI (T.c.at 11).2 (T.c.at 11).1 R.hd DR (AA DA AB))) AW) (AD (A9 PassesOwn.leaving rfl (EL K rfl (T.N 16) (AA (Aw (A0 K) (pv 2) (Ay AC) Az) (AA (Hs P w K (Ai (T.g.at 15)) (AH K (pv 2) AC)) AB))) (By (n:=2) K rfl (As (Ah 3) (As (Ah 4) Bm))) (AE (AV (PW.pt (Cj (AR (Ag K hu) (pv 4) (pxt [110,97,109,101])) (C0 (Mb (Qi hu2 (pv 3) (Ab K (pv 0))) nE)))) (AE (DI (T.c.at 10).2 (T.c.at 10).1 R.hd DR (AA DA AB))) AW))) (AD (AO 5 (Hs P w K (Ai (T.g.at 16)) (AH K (pv 2) AC))) (AE (AK (UF 5 hdd R A3 (AA (pv 0) (AA (Aw (A0 K) (pv 2) (Ay AC) Az) AB))))))))),?_⟩;ext;rcases h with⟨hno,Y⟩|⟨l,G,args,rfl,hll,hk,h⟩
 ·refine .inr ⟨v,rfl,hno,λH1 Z=>?_⟩;show ifp rfl ?_;ext;exact⟨small nv,λy hy=>Y y H1 Z (Z.free hy)⟩
 obtain⟨_,_,hln,_,_⟩:=V9 hk;obtain⟨t,hv,hT⟩:=hF G;refine .inl ⟨l,G,args,rfl,hll,hk,λp H1 hp Z hp1=>?_⟩;show ifq rfl ?_;show Eh (SqL.of hp1) (λz hz=>?_);have ez:∀ (w0:List Nat) (ar:List (List Nat)),Cw ((w0::ar).map tx) (some 1) none=ar.map tx:=λ_ _=>LA _ _;rw[ez];have s2:=AJ hz (.lst (args.map tx));have hz2:(upd H1 z (.lst (args.map tx))) z=some (.lst (args.map tx)):=AF;generalize upd H1 z _=H2 at*
 have L:=s2 _ _ hp1;have hf3:=G.len;show AL (SqL.of L) (Er _ _) ?_;refine⟨aF,FK,kyT G.word,_,rfl,hFK,rfl,hv,?_⟩;show⟨.l z, .t t,_,_,rfl,SqL.of hz2,hT.sq,?_⟩;refine WM (by rw[ax,ax];lia) (λi σ H'=>∃o3 o4 o5,σ=[some (.ref d),some (tx l),some (.ref p),o3,o4,o5]/\Same H2 H'/\∀ (j:Nat) (a:List Nat),j<i->args[j]? =some a->G.form[j]? =some Av->(AZ I (kyT a)).isSome=true) ⟨_,_,_,rfl,Same.refl _,λj a hj=>absurd hj (Nat.not_lt_zero j)⟩ (λi σ H' ⟨o3,o4,o5,_,sH,_⟩=>⟨SqL.of (sH _ _ hz2),hT.sq⟩) ?_ ?_
 ·rintro i c dv T' σ H3 H4 S hdv ⟨o3,o4,o5,rfl,M,B⟩ s4 hT';obtain⟨a,ha,rfl⟩:∃a,args[i]? =some a/\tx a=c:=by
   rw[am]at S;obtain⟨a,h1,h2⟩:=dz.mp S;exact⟨a,h1,h2⟩
  obtain⟨pp,hpp,rfl⟩:∃a,G.form[i]? =some a/\tx a=dv:=by
   rw[am]at hdv;obtain⟨a,h1,h2⟩:=dz.mp hdv;exact⟨a,h1,h2⟩
  have J:Same H H4:=((Z.trans s2).trans M).trans s4;refine DL (SqT.of hT') rfl ?_;ext;have more:(pp=Av->(AZ I (kyT a)).isSome=true)->∀ (j:Nat) (b:List Nat),j<i+1->args[j]? =some b->G.form[j]? =some Av->(AZ I (kyT b)).isSome=true:=λhx j b hj hb hf=>by
   by_cases e:j=i
   ·subst e;rw[ha]at hb;cases hb;rw[hpp]at hf;cases hf;exact hx rfl
   ·exact B j b nA hb hf
  refine ifd (λS=>?_) (λS=>?_)
  ·subst S;show T.E.fl 1 (J _ _ e1) ?_;refine⟨r,_,rfl,DGet.k (k:=kyT a) (J _ _ e2),?_⟩;ext
   cases e:AZ I (kyT a)with
   |none=>
    refine ifp rfl ?_;ext;rcases h with⟨_,_,_,_,_,Y⟩|⟨hy,_⟩
    ·exact⟨small nv,λy hy=>Y y H4 J (J.free hy)⟩
    ·have:=hy i a ha hpp;rw[e]at this;cases this
   |some v=>
    refine ifq rfl ?_;ext;exact⟨_,_,_,rfl,M.trans s4,more λ_=>by rw[e];rfl⟩
  ·refine ifq rfl ?_;ext;exact⟨_,_,_,rfl,M.trans s4,more λe=>absurd e S⟩
 ·intro σ H3 z_;obtain⟨o3,o4,o5,rfl,M,B⟩:=z_;rw[ax]at B;have J:Same H H3:=(Z.trans s2).trans M;rcases h with⟨i,a,ha,hf,hn,_⟩|⟨_,q⟩
  ·have:=B i a (az.mp ha).1 ha hf;rw[hn]at this;cases this
  show AL (SqL.of (M _ _ L)) (Er _ _) ?_;refine⟨aD,DK,kyT G.word,_,rfl,hDK,rfl,(o G).1,?_⟩;show Ti G rfl ?_;show Eh (SqL.of (M _ _ L)) (λz3 Q=>?_);rw[ez];ext;exact q _ z3 _ (λc Y=>Y.pass (J.trans (AJ Q _))) (J.trans (AJ Q _)) (J.free Q) AF
theorem PQ:FuV P w K mg base (k+1) "_law_pool" ["script","k"] (spPoolD K):=FnA.u (T.f.at 59) (scN ["script","k","cell"]) λnd _ e h=>by
 obtain⟨a,ns,k,rfl,d,h0,j,q⟩:=h;have o:=e.units0;have big:∀ (cell:Int),OC 10 18:=λ_=>⟨by decide,by decide,by decide⟩;refine⟨_,(AD (AO 2 AC) (AD (AV (AR IL (pv 1) (Al K (T.N 7) (AA (pv 0) AB))) (AE (AO 2 (AH K (pv 0) (pv 1)))) AW) (AE (AK (Aa (AA (pv 2) (AA (A5 Cd rfl (T.N 5) ni (AA (BH NP (pv 2) (AG Mm AC AC)) AB)) (AA (AG BX AC (pv 1)) AB)))))))),?_⟩;show BJ (.inl d) ?_;show ifd (λc=>?_) (λc=>?_)
 ·rw[ax]at c;obtain⟨v,i⟩:=Sw (ns:=ns) h0 c;show AL d i ?_;show⟨small (n:=3) nv,λp b=>?_⟩;exact q p _ b (AJ b _) Po.new
 ·show⟨small (n:=3) nv,λp b=>?_⟩;exact q p _ b (AJ b _) Po.new
theorem Ae:FuV P w K mg base (k+1) "_law_draw" ["pool","many"] (spDraw):=FnA.u (T.f.at 60) (scN ["pool","many","found","x"]) λnd H i h=>by
 obtain⟨p,m,rfl,⟨a,b,c,e⟩,d,o,q⟩:=h;have r:=i.units0;have z:SqL K H p [.int a, .int b, .int c]:=SqL.of e;refine⟨_,(AD (AV (AR (Ag K r) (AH K (pv 0) AC) AC) (AD (AO 2 (AG DQ (AH K (pv 0) AC) (pv 1))) (AD (Bo (AG SR (AH K (pv 0) AC) (pv 1)) (CO (pv 0) AC BW)) (AE (AK (pv 2))))) AW) (AD (Bo (AG AN (AH K (pv 0) AC) AC) (CO (pv 0) AC BW)) (AD (AO 3 (AG DQ (AG AN (AG DQ (AH K (pv 0) AC) AC) (AG BX AC (AH K (pv 0) AC))) AC)) (AD (AO 3 (AG DQ (AG BX (pv 3) (pv 3)) AC)) (AD (AO 3 (AG DQ (AG BX (AG AN (pv 3) AC) (pv 3)) AC)) (AE (AK (AG DQ (AG Lr (pv 3) AC) (pv 1))))))))),?_⟩;show ifd (λx=>?_) (λx=>?_)
 ·show Ba e (j:=0) rfl ?_;ext;exact q _ _ (Int.emod_nonneg _ nA) (Int.emod_lt_of_pos _ d) Po.new SameBut1.upd
 ·show Ba e (j:=2) rfl ?_;have y:SqL K (upd H p (.lst [.int a, .int b, .int (c+1)])) p [.int a, .int b, .int (c+1)]:=SqL.of AF;ext;exact q _ _ (Int.emod_nonneg _ nA) (Int.emod_lt_of_pos _ d) Po.new SameBut1.upd
theorem OP:FuV P w K mg base (k+2) "_law_right_row" ["pool","k","pairs"] (Kf):=FnA.u (T.f.at 61) (scN ["pool","k","pairs","row","left","waiting","kind"]) λnd H hr h=>by
 obtain⟨p,i,S,rfl,hd,hk1,hk4,hm0,hm1,q⟩:=h;have hu:=hr.units0;refine⟨_,(AD (AO 3 (pxt [])) (AD (AO 4 (pv 2)) (AD (AO 5 (pxt [])) (AD (Gj nh (PW.pt (BS (AR CF (pv 4) AC) (Bc (AR (BN K hu) (pv 5) (pxt []))))) (AE (AV (PW.pt (Cj (AR CF (pv 4) AC) (C0 (PW.pt (BS (AR (Ag K hu) (pv 5) (pxt [])) (Bc (AR (Ag K hu) (AM (Ae T) hr (AA (pv 0) (AA AC AB))) AC))))))) (AD (AO 6 (AM (Ae T) hr (AA (pv 0) (AA (pv 1) AB)))) (AD (AO 3 (AG AN (pv 3) (AH K (pxt [40,91,123,60]) (pv 6)))) (AD (AO 5 (AG AN (pv 5) (AH K (pxt [41,93,125,62]) (pv 6)))) (AE (AO 4 (AG Ml (pv 4) AC)))))) (AD (AO 3 (AG AN (pv 3) (AH K (pv 5) (Bf BZ AC)))) (AE (AO 5 (Aw (A0 K) (pv 5) Az (Ay (Bf BZ AC))))))))) (AE (AK (pv 3))))))),?_⟩;show GZ (λσ H'=>∃ (a:Int) (row wt:List Nat) (U:Option V),σ=[some (.ref p),some (.int i),some (.int S),some (tx row),some (.int a),some (tx wt),U]/\
  0<=a/\run [] row=some wt.reverse/\(∀c∈row,kin i c)/\(∀c∈wt,c∈cls.take i.toNat/\c∉opn)/\(row.length:Int)+wt.length+2*a=2*S/\Po H' p/\SameBut1 p H H')
  (λσ _=>match σ with|[_,_,_,_,some (.int a),some (.str wt),_]=>2*a.toNat+wt.length|_=>0) ⟨S,[],[],none,rfl,hm0,rfl,(λ_ z=>nomatch z),(λ_ z=>nomatch z),by simp,hd,SameBut1.refl _ _⟩ ?_
 ·intro σ H5 z_;obtain⟨a,row,wt,U,rfl,lf0,j,r,hwt,hsum,x,s5⟩:=z_;have hrow:row.length<=40:=by lia
  have hwl:wt.length<=40:=by lia
  refine SQ (c:=decide (0<a)) (d:= !decide (wt=[])) (λR h=>by ext;exact h) (λR h=>by ext;exact h) ?_;refine Ij (λy=>?_) (λy=>?_)
  ·have hwl2:wt.length=0->wt=[]:=List.length_eq_zero_iff.mp;have hne:0<a\/wt≠[]:=by simpa using y
   refine Ga ?_;have B:∀ {H6:Hp},Po H6 p->SameBut1 p H H6->0<a->∀ (X:Int) (H7:Hp),Po H7 p->SameBut1 p H6 H7->0<=X->X<i->∀o,o∈opn->o∈opn.take i.toNat->clo o∈cls.take i.toNat->clo o∉opn->
    WN (λσ H'=>∃ (a:Int) (row wt:List Nat) (U:Option V),σ=[some (.ref p),some (.int i),some (.int S),some (tx row),some (.int a),some (tx wt),U]/\
   0<=a/\run [] row=some wt.reverse/\(∀c∈row,kin i c)/\(∀c∈wt,c∈cls.take i.toNat/\c∉opn)/\(row.length:Int)+wt.length+2*a=2*S/\Po H' p/\SameBut1 p H H') (λσ _=>match σ with|[_,_,_,_,some (.int a),some (.str wt),_]=>2*a.toNat+wt.length|_=>0) (2*a.toNat+wt.length) [some (.ref p),some (.int i),some (.int S),some (tx (row++[o])),some (.int (a-1)),some (tx (wt++[clo o])),some (.int X)] H7:=by
    intro H6 d6 s6 G X H7 d7 s7 k0 k1 o I J L M;refine⟨⟨a-1,row++[o],wt++[clo o],_,rfl,by lia,?_,?_,?_,?_,d7,s6.trans s7⟩,?_⟩
    ·rw[Gg j,FD I,List.reverse_append];rfl
    ·intro c y;rcases dW.mp y with z|z
     ·exact r c z
     ·rw[aV.mp z];exact .inl J
    ·intro c y;rcases dW.mp y with z|z
     ·exact hwt c z
     ·rw[aV.mp z];exact⟨L,M⟩
    ·simp only[aG,f9];lia
    ·show 2*(a-1).toNat+(wt++[clo o]).toArray.size<2*a.toNat+wt.length;simp only[List.size_toArray,aG,f9];lia
   have Q:∀ {H6:Hp} (U:Option V),Po H6 p->SameBut1 p H H6->∀b e,wt=e++[b]->
    WN (λσ H'=>∃ (a:Int) (row wt:List Nat) (U:Option V),σ=[some (.ref p),some (.int i),some (.int S),some (tx row),some (.int a),some (tx wt),U]/\
   0<=a/\run [] row=some wt.reverse/\(∀c∈row,kin i c)/\(∀c∈wt,c∈cls.take i.toNat/\c∉opn)/\(row.length:Int)+wt.length+2*a=2*S/\Po H' p/\SameBut1 p H H') (λσ _=>match σ with|[_,_,_,_,some (.int a),some (.str wt),_]=>2*a.toNat+wt.length|_=>0) (2*a.toNat+wt.length) [some (.ref p),some (.int i),some (.int S),some (tx (row++[b])),some (.int a),some (tx e),U] H6:=by
    intro H6 U d6 s6 b e Y;subst Y;obtain⟨hd1,hd2⟩:=hwt b (aP _ List.mem_cons_self);rw[List.reverse_append]at j;refine⟨⟨a,row++[b],e,_,rfl,lf0,?_,?_,λc y=>hwt c (List.mem_append_left _ y),?_,d6,s6⟩,?_⟩
    ·rw[Gg j];exact GP hd2 _
    ·intro c y;rcases dW.mp y with z|z
     ·exact r c z
     ·rw[aV.mp z];exact .inr hd1
    ·simp only[aG,f9]at hsum⊢;lia
    ·show 2*a.toNat+e.toArray.size<2*a.toNat+(e++[b]).length;simp only[List.size_toArray,aG,f9];lia
   show ifd (λG=>?_) (λG=>?_)
   ·show ifd (λZ=>?_) (λZ=>?_)
    ·refine Cu ?_;show Ad x nA nA (λr1 H6 k0 k1 d6 s6=>?_);obtain⟨o,ho1,I,J,ho4,L,M⟩:=Mj k0 k1 hk4;show BO (small (n:=4) nv) ho1 ?_;show BO (small (n:=4) nv) ho4 ?_;ext;exact B x s5 G _ H6 d6 s6 k0 k1 o I J L M
    ·show Ad x nv nv (λr1 H6 a1 a2 d6 s6=>?_);show ifd (λh2=>?_) (λh2=>?_)
     ·show Ad d6 nA nA (λr1 H7 k0 k1 d7 s7=>?_);obtain⟨o,ho1,I,J,ho4,L,M⟩:=Mj k0 k1 hk4;show BO (small (n:=4) nv) ho1 ?_;show BO (small (n:=4) nv) ho4 ?_;ext;exact B d6 (s5.trans s6) G _ H7 d7 s7 k0 k1 o I J L M
     ·obtain⟨e,b,Y⟩:=Jx Z;show BO (small nA) (show atI wt (-1)=some b by rw[Y];exact LJ e b) ?_;ext
      first|refine IH (small nA) ?_ |skip
      rw[show Ap wt none (some (-1))=e by rw[Y];exact LB e b];ext;exact Q _ d6 (s5.trans s6) b e Y
   ·have Z:wt≠[]:=by
     rcases hne with z|z
     ·exact absurd z G
     ·exact z
    obtain⟨e,b,Y⟩:=Jx Z;refine ifq rfl ?_;show BO (small nA) (show atI wt (-1)=some b by rw[Y];exact LJ e b) ?_;ext
    first|refine IH (small nA) ?_ |skip
    rw[show Ap wt none (some (-1))=e by rw[Y];exact LB e b];ext;exact Q _ x s5 b e Y
  ·have hc':a<=0/\wt=[]:=by simpa using y
   obtain⟨e1,rfl⟩:=hc';ext;exact q row H5 j (by simp at hsum;lia) r x s5
theorem F8:FuV P w K mg base (k+1) "_law_signs" ["k"] (Ke):=FnA.u (T.f.at 62) (scN ["k"]) λnd _ b h=>by
 obtain⟨a,rfl,k1,k4,q⟩:=h;have d:=b.units0;refine⟨_,(AE (AK (AG AN (Aw (A0 K) (pxt [40,91,123,60]) Az (Ay (pv 0))) (Aw (A0 K) (pxt [41,93,125,62]) Az (Ay (pv 0)))))),?_⟩;ext;rw[Be _ nA,Be _ nA];have e:([40,91,123,60].take a.toNat).length<=4:=by rw[cc];simp;lia
 have i:([41,93,125,62].take a.toNat).length<=4:=by rw[cc];simp;lia
 first|refine BD (small nA) ?_ |skip
 ext;exact q
theorem PR:FuV P w K mg base (k+2) "_law_bent" ["pool","k","row","often"] (Lc):=FnA.u (T.f.at 63) (scN ["pool","k","row","often","found","sign","at"]) @λ_ _ _ _ _ _ Q _ nd H r h=>by
 obtain⟨p,kk,row,J,rfl,hp,k1,k4,L,o0,o1,q⟩:=h;have hu:=r.units0;have hl:=An L;refine⟨_,(AD (AO 4 (pxt [])) (AD (A9 nh rfl (CN (pv 2)) (Ah 5) (AE (AO 4 (AG AN (pv 4) (AH K (Aa (AA (pv 5) (AA (pxt [63]) AB))) (A5 Cd rfl (T.N 5) ni (AA (EY (BH CF (pv 3) AC) (DO (BH (Ag K hu) (AM (Ae T) r (AA (pv 0) (AA (pv 3) AB))) AC))) AB))))))) (AD (AV (PW.pt (Cj (AR (BN K hu) (pv 4) (pxt [])) (C0 (AR (Ag K hu) (AM (Ae T) r (AA (pv 0) (AA AC AB))) AC)))) (AD (AO 6 (AM (Ae T) r (AA (pv 0) (AA (Al K (T.N 7) (AA (pv 4) AB)) AB)))) (AE (AO 4 (AG AN (AG AN (Aw (A0 K) (pv 4) Az (Ay (pv 6))) (AH K (AG AN (AM (F8 T) r (AA (pv 1) AB)) (pxt [63])) (AM (Ae T) r (AA (pv 0) (AA (AG AN (AG BX AC (pv 1)) AC) AB))))) (Aw (A0 K) (pv 4) (Ay (AG AN (pv 6) AC)) Az))))) AW) (AD (AV (AR (Ag K hu) (AM (Ae T) r (AA (pv 0) (AA AC AB))) AC) (AE (AO 4 (Aw (A0 K) (pv 4) Az (Ay (AM (Ae T) r (AA (pv 0) (AA (AG AN (Al K (T.N 7) (AA (pv 4) AB)) AC) AB))))))) AW) (AE (AK (pv 4))))))),?_⟩;ext;have hin:=GV L;have M:(63:Nat)∈sgn kk:=aP _ List.mem_cons_self;refine K3 (λi σ H'=>∃ (f:List Nat) (o5 y:Option V),σ=[some (.ref p),some (.int kk),some (tx row),some (.int J),some (tx f),o5,y]/\f.length=i/\(∀c∈f,c∈sgn kk)/\Po H' p/\SameBut1 p H H') ⟨[],_,_,rfl,rfl,(λ_ z=>nomatch z),hp,SameBut1.refl _ _⟩ ?_ ?_
 ·intro i c σ R B z_;obtain⟨f,o5,y,rfl,hf,b,e,S⟩:=z_;have hi:i<row.length:=(az.mp B).1;have hcm:=hin c (bV B);show⟨small (n:=2) nv,λl U=>?_⟩;have t1:=AJ U (.lst [tx [c],tx [63]]);have g1:=AF (H:=R) (a:=l) (o:= .lst [tx [c],tx [63]]);have n1:=e.ne U;have p1:=e.same t1;have u1:SameBut1 p H (upd R l (.lst [tx [c],tx [63]])):=S.trans (SameBut1.of t1);generalize upd R l _=G1 at*
  have m1:∀x∈f++[c],x∈sgn kk:=λx hx=>(dW.mp hx).elim (b x) λz=>by rw[aV.mp z];exact hcm
  have m2:∀x∈f++[63],x∈sgn kk:=λx hx=>(dW.mp hx).elim (b x) λz=>by rw[aV.mp z];exact M
  have X:f.length+[c].length<=1000:=by rw[f9];lia
  have lf2:f.length+[63].length<=1000:=by rw[f9];lia
  show ifd (λhof=>?_) (λhof=>?_)
  ·show Ad p1 nA nA (λr2 H2 _ _ G j=>?_);have g2:=j _ _ g1 n1;ext
   by_cases Y:r2=0
   ·rw[ba Y];show AL (SqL.of g2) (show atI [tx [c],tx [63]] (if true=true then 1 else 0)=some (tx [63])from rfl) ?_;refine BD (small lf2) ?_;ext;exact⟨f++[63],_,_,rfl,by simp[hf],m2,G,u1.trans j⟩
   ·rw[aX Y];show AL (SqL.of g2) (show atI [tx [c],tx [63]] (if false=true then 1 else 0)=some (tx [c])from rfl) ?_;refine BD (small X) ?_;ext;exact⟨f++[c],_,_,rfl,by simp[hf],m1,G,u1.trans j⟩
  ·show AL (SqL.of g1) (show atI [tx [c],tx [63]] (if false=true then 1 else 0)=some (tx [c])from rfl) ?_;refine BD (small X) ?_;ext;exact⟨f++[c],_,_,rfl,by simp[hf],m1,p1,u1⟩
 ·intro σ R z_;obtain⟨f,o5,y,rfl,hf,b,e,S⟩:=z_;have tail:∀ (g:List Nat) (H2:Hp) (y:Option V),g.length<=row.length->(∀c∈g,c∈sgn kk)->Po H2 p->SameBut1 p H H2->
   (Fu (Ds (Dm (tOp (Eu K) (Dn (Ln ["pool","many"] spDraw) [] E0 (CD (Br 0) (CD (tC (V.int 2)) tNil))) (tC (V.int 0))))
     (Cr (tSl (Fv K) (Br 4) tNoPart (IE (Dn (Ln ["pool","many"] spDraw) [] E0 (CD (Br 0) (CD (tOp rPlus (tCB (Es K) (CD (Br 4) tNil)) (tC (V.int 1))) tNil))))) (BG 4)) tNext) (IY (Br 4)))
   {nx:=λx H'=>Q V.non H',rt:=Q} [some (.ref p),some (.int kk),some (tx row),some (.int J),some (tx g),o5,y] H2:=by
   intro g H2 y hg Z G j;have hg40:g.length<=40:=by lia
   show Ad G nv nv (λr3 H3 _ _ p3 s3=>?_);show ifd (λh3=>?_) (λh3=>?_)
   ·show Ad p3 nA nA (λr4 H4 I r41 p4 s4=>?_);ext;rw[Be _ I];have hz:(g.take r4.toNat).length<=g.length:=by rw[cc];lia
    exact q _ H4 nA (Gr nA λc B=>Z c (jG B)) p4 ((j.trans s3).trans s4)
   ·ext;exact q _ H3 hg (Gr nA Z) p3 (j.trans s3)
  have hf40:f.length<=40:=by lia
  show Ij (λhne=>?_) (λhne=>?_)
  rotate_left
  ·refine ifq rfl ?_;exact tail f R y nA b e S
  show Ad e nv nv (λr2 H2 _ _ G j=>?_);show ifd (λh2=>?_) (λh2=>?_)
  rotate_left
  ·exact tail f H2 y nA b G (S.trans j)
  have hne':f≠[]:=by simpa using hne
  have hfp:0<f.length:=List.length_pos_iff.mpr hne';show Ad G nA nA (λat0 H3 a0 a1 p3 s3=>?_);show GE k1 k4 ?_;have sl:=HL k1 k4;ext
  first|refine BD (small (by rw[f9];lia)) ?_ |skip
  show Ad p3 nA nA (λr4 H4 I r41 p4 s4=>?_);obtain⟨d,ed,hd⟩:=Ee (l:=sgb kk++[63]) (i:=r4) I (by rw[aG,f9,sl];lia);have hds:d∈sgn kk:=(dW.mp hd).elim HK λz=>by rw[aV.mp z];exact M
  show BO (small (by rw[aG,f9];lia)) ed ?_;obtain⟨at',rfl⟩:∃at':Nat,at0=at':=⟨at0.toNat,by lia⟩;have ea:((at':Int)+1)=((at'+1:Nat):Int):=by lia
  rw[Be _ nA,d0];have lt1:(f.take at').length=at':=by rw[cc];lia
  have lt2:(f.drop (at'+1)).length=f.length-at'-1:=by rw[List.length_drop];lia
  refine BD (small (by rw[f9];lia)) ?_;ext;rw[ea,EE];refine BD (small (by rw[aG,f9];lia)) ?_;refine tail (f.take at'++[d]++f.drop (at'+1)) H4 _ (by simp only[aG,f9];lia) (λc B=>?_) p4 ((S.trans j).trans (s3.trans s4));simp only[dW,aV]at B;rcases B with(z|z)|z
  ·exact b c (jG z)
  ·rw[z];exact hds
  ·exact b c (List.mem_of_mem_drop z)
theorem GA:FuV P w K mg base (k+3) "_law_line" ["pool","k","most"] (LX):=FnA.u (T.f.at 64) (scN ["pool","k","most","way","signs","half","pairs"]) λnd H r h=>by
 obtain⟨p,kk,most,rfl,hp,k1,k4,m1,m40,q⟩:=h;have hu:=r.units0;have q63:(63:Nat)∈sgn kk:=aP _ List.mem_cons_self;refine⟨_,(AD (AO 3 (AM (Ae T) r (AA (pv 0) (AA AC AB)))) (AD (AV (AR (Ag K hu) (pv 3) AC) (AD (CM (i:=4) nd rfl (Or.inr rfl) (AG AN (AM (F8 T) r (AA (pv 1) AB)) (pxt [63,63,63]))) (AE (AK (A7 K nr PySem.F.slot_str_join nu (EM K) (pxt []) (AA (A1 (own:=["sign"]) (sel:=[4,0,1]) (Au (osc:=(AU (top 109))) (N:=["pool","k","most","way","signs","half","pairs"]) nB) rfl (CA rfl (T.N 11) (AA (AM (Ae T) r (AA (pv 0) (AA (AG AN (pv 2) AC) AB))) AB)) (λ_ _ _ _ _=>(Af (i:=0) (show(["sign","signs","pool","k"]:List Str).Nodup from by decide +kernel) rfl (kP rfl))) (Ak nv) (λ_ _ _ _ _=>A2) (λ_ _ _ _ _=>(AH K (pv 1) (AM (Ae T) r (AA (pv 2) (AA (AG AN (AG BX AC (pv 3)) AC) AB)))))) AB))))) AW) (AD (AV (AR (Ag K hu) (pv 3) AC) (AE (AK (AG BX (pxt [63]) (AM (Ae T) r (AA (pv 0) (AA (AG AN (pv 2) AC) AB)))))) AW) (AD (AO 5 (AG Lr (pv 2) AC)) (AD (AO 6 (AH K (Aa (AA (AM (Ae T) r (AA (pv 0) (AA (AG AN (pv 5) AC) AB))) (AA (AM (Ae T) r (AA (pv 0) (AA (Aj (GW rfl) rfl (T.N 10) PyProof.Rows.boot_min (AA AC (AA (AG AN (pv 5) AC) AB))) AB))) (AA (pv 5) AB)))) (AM (Ae T) r (AA (pv 0) (AA AC AB))))) (AE (AK (AM (PR T) r (AA (pv 0) (AA (pv 1) (AA (AM (OP T) r (AA (pv 0) (AA (pv 1) (AA (pv 6) AB)))) (AA (AH K (Aa (AA AC (AA AC (AA AC (AA AC (AA AC (AA AC AB))))))) (AM (Ae T) r (AA (pv 0) (AA AC AB)))) AB)))))))))))),?_⟩;show Ad hp nv nv (λway H1 w0 w1 p1 U=>?_);show ifd (λhw=>?_) (λhw=>?_)
 ·show GE k1 k4 ?_;have sl:=HL k1 k4;ext
  first|refine BD (small (by simp only[aM,List.length_nil];lia)) ?_ |skip
  show Ad p1 nA nA (λn H2 n0 n1 y B=>?_);refine⟨n,rfl,by lia,by lia,?_⟩;have sg:∀c∈sgb kk++[63,63,63],c∈sgn kk:=λc hc=>(dW.mp hc).elim HK λz=>by
   simp only[List.mem_cons,List.not_mem_nil,or_false,or_self]at z;rw[z];exact q63
  have G:(sgb kk++[63,63,63]).length=(2*kk).toNat+3:=by rw[aG,sl];rfl
  generalize sgb kk++[63,63,63]=sg' at sg G⊢;refine LE (n:=n.toNat) (small nA) (λD j ys H'=>∃cs:List Nat,ys=(cs.map λc=>[c]).map tx/\cs.length=j/\(∀c∈cs,c∈sgn kk)/\D≠p/\Po H' p/\SameBut1 p H H') (λD I=>⟨[],rfl,rfl,(λ_ z=>nomatch z),y.ne I,y.same (AJ I _),Xs (U.trans B) (by
   cases e:H D with
   |none=>rfl
   |some o=>
    have:=(U.trans B) _ _ e (y.ne I);rw[I]at this;cases this)⟩) (λD ys M I hy ⟨cs,ey,X,J,x,Q,Y⟩=>?_) ?_
  ·subst ey;show EU (SqL.of hy) (by rw[ED,ax];lia) ?_;rw[ED];exact q cs M nA (Gr nA J) Q Y
  ·intro D j ys M I hj hy hl z_;obtain⟨cs,rfl,X,J,x,Q,Y⟩:=z_;show Cu ?_;show Ad Q nA nA (λr4 H4 r40 r41 p4 s4=>?_);obtain⟨d,ed,hd⟩:=Ee (l:=sg') (i:=r4) r40 (by rw[G];lia);show BO (small (by rw[G];lia)) ed ?_;refine Bj hj (small nA) (s4 _ _ hy x) hl ⟨cs++[d],by simp,by simp[X],λc hc=>(dW.mp hc).elim (J c) λz=>by rw[aV.mp z];exact sg d hd,x,?_,λb o z zn=>?_⟩
   ·obtain⟨a,b,c,e⟩:=p4;exact⟨a,b,c,by rw[AI (Ne.symm x)];exact e⟩
   ·have hbD:b≠D:=λe=>by
     have:=(U.trans B) _ _ z zn;rw[e,I]at this;cases this
    rw[AI hbD];exact s4 b o (Y b o z zn) zn
 show ifd (λhw1=>?_) (λhw1=>?_)
 ·show Ad p1 nA nA (λn H2 n0 n1 y B=>?_);show VG n0 nA nv ?_;ext;rw[Vj];exact q _ H2 (by rw[List.length_replicate];lia) (Q6 nA) y (U.trans B)
 ext;have hh0:0<=most/2:=by lia
 have hh1:most/2<=20:=by lia
 have hh2:2*(most/2)<=most:=by lia
 generalize most/2=half at hh0 hh1 hh2⊢;refine Ad p1 nA nA (λR H2 r20 r21 y B=>?_);ext;obtain⟨Z,emm,mm1,mm2,mm3⟩:∃Z:Int,(if half+1<5 then half+1 else 5)=Z/\1<=Z/\Z<=half+1/\Z<=5:=⟨_,rfl,by split<;>lia,by split<;>lia,by split<;>lia⟩
 try rw[emm]
 refine Ad y nA nA (λS M r30 r31 Q Y=>?_);show⟨small (n:=3) nv,λl hl=>?_⟩;have t4:=AJ hl (.lst [.int R, .int S, .int half]);have g4:=AF (H:=M) (a:=l) (o:= .lst [.int R, .int S, .int half]);have n4:=Q.ne hl;have p4:=Q.same t4;have u4:SameBut1 p H (upd M l (.lst [.int R, .int S, .int half])):=((U.trans B).trans Y).trans (SameBut1.of t4);generalize upd M l _=G4 at*
 show Ad p4 nv nv (λr5 H5 r50 r51 p5 s5=>?_);obtain⟨pr,epr,pr0,pr1⟩:∃pr:Int,atI [V.int R,V.int S,V.int half] r5=some (.int pr)/\0<=pr/\pr<=half:=by
  obtain⟨v,e,h⟩:=at3 (V.int R) (V.int S) (V.int half) r50 r51;rcases h with rfl|rfl|rfl
  ·exact⟨R,e,by lia,by lia⟩
  ·exact⟨S,e,by lia,by lia⟩
  ·exact⟨half,e,by lia,by lia⟩
 show AL (SqL.of (s5 _ _ g4 n4)) epr ?_;show P0 p5 k1 k4 pr0 nA (λrow H6 hR hrl hkin p6 s6=>?_);have hro:AQ kk row=true:=Sd (kk:=kk) nA nA hkin;show⟨small (n:=6) nv,λl7 hl7=>?_⟩;have t7:=AJ hl7 (.lst [.int 0, .int 2, .int 3, .int 5, .int 9, .int 1]);have g7:=AF (H:=H6) (a:=l7) (o:= .lst [.int 0, .int 2, .int 3, .int 5, .int 9, .int 1]);have n7:=p6.ne hl7;have p7:=p6.same t7;have u7:SameBut1 p H (upd H6 l7 (.lst [.int 0, .int 2, .int 3, .int 5, .int 9, .int 1])):=(u4.trans (s5.trans s6)).trans (SameBut1.of t7);generalize upd H6 l7 _=G7 at*
 show Ad p7 nv nv (λL H8 r80 r81 p8 s8=>?_);obtain⟨of',eof,of0,of1⟩:∃o:Int,atI [V.int 0,V.int 2,V.int 3,V.int 5,V.int 9,V.int 1] L=some (.int o)/\0<=o/\o<=1000:=by
  have:L=0\/L=1\/L=2\/L=3\/L=4\/L=5:=by lia
  rcases this with rfl|rfl|rfl|rfl|rfl|rfl
  ·exact⟨0,rfl,by decide,by decide⟩
  ·exact⟨2,rfl,by decide,by decide⟩
  ·exact⟨3,rfl,by decide,by decide⟩
  ·exact⟨5,rfl,by decide,by decide⟩
  ·exact⟨9,rfl,by decide,by decide⟩
  ·exact⟨1,rfl,by decide,by decide⟩
 show AL (SqL.of (s8 _ _ g7 n7)) eof ?_;show RX p8 k1 k4 hro of0 of1 (λrow' H9 hl9 hro9 p9 s9=>?_);exact q row' H9 nA hro9 p9 (u7.trans (s8.trans s9))
theorem DZ:FuV P w K mg base (k+10) "_law_said" ["desk","row"] (spSaidG (DE cs aE) K cs aE):=FnA.u (T.f.at 65) (scN ["desk","row","caught","found","e","kinds"]) λnd H hr h=>by
 obtain⟨d,r,kk,kvs,v,rfl,hd,h⟩:=h;have hu:=hr.units0;obtain⟨⟨dx,e1⟩,e2⟩:=id hd;have facts:∀C nm,Cap8 cs C nm->ECls K C:=λC nm h=>by
  cases h
  ·exact(T.c.at 11).2
  ·exact(T.c.at 10).2
  ·exact(T.c.at 1).2
  ·exact(T.c.at 2).2
  ·exact(T.c.at 5).2
  ·exact(T.c.at 3).2
  ·exact(T.c.at 8).2
 refine⟨_,(AD (AO 2 Aq) (AD (AO 3 (pxt [])) (AD (Md (i:=4) (T.c.at 0).2 (T.c.at 0).1 ⟨rfl,rfl,rfl⟩ nd rfl rfl (λpn xe R U=>(AE (AO 3 (T9 T.E.cl (PV T) hr U (pv 0) (AA (pv 1) AB))))) (λev=>(AE (AO 2 (pv 4))))) (AD (AV (AR Bd (pv 2) Aq) (AE (AK (AH K (Aa (AA (pv 3) (AA (pxt [111,100,100]) AB))) (A5 Cd rfl (T.N 5) ni (AA (NN (Mg (Aj (Dc K) rfl (T.N 6) nb (AA (pv 3) (AA (Dp (T.N 14) nj) AB)))) (DO (BH (Ag K hu) (Aw (A0 K) (pv 3) Az (Ay AC)) (pxt [9])))) AB))))) AW) (AD (AO 5 (Aa (AA (Aj (Bw K) rfl (T.N 6) nb (AA (pv 2) (AA (Bg (T.c.at 11).1) AB))) (AA (Aj (Bw K) rfl (T.N 6) nb (AA (pv 2) (AA (Bg (T.c.at 10).1) AB))) (AA (Aj (Bw K) rfl (T.N 6) nb (AA (pv 2) (AA (Bg (T.c.at 1).1) AB))) AB))))) (AD (AO 5 (AG AN (pv 5) (Aa (AA (Aj (Bw K) rfl (T.N 6) nb (AA (pv 2) (AA (Bg (T.c.at 2).1) AB))) (AA (Aj (Bw K) rfl (T.N 6) nb (AA (pv 2) (AA (Bg (T.c.at 5).1) AB))) (AA (Aj (Bw K) rfl (T.N 6) nb (AA (pv 2) (AA (Bg (T.c.at 3).1) AB))) AB)))))) (AD (Ax (A7 K ng no nk B4 (pv 5) (AA (Aj (Bw K) rfl (T.N 6) nb (AA (pv 2) (AA (Bg (T.c.at 8).1) AB))) AB))) (AD (AV (PW.pt (BS (A6 K (Aj (Bw K) rfl (T.N 6) nb (AA (pv 2) (AA (BM (AA (Bg (T.c.at 7).1) (AA (Bg (T.c.at 4).1) (AA (Bg (T.c.at 6).1) (AA (Bg (T.c.at 9).1) AB))))) AB)))) (Bc (BR (A6 K (Aj (Bw K) rfl (T.N 6) nb (AA (pv 2) (AA (Dp (T.N 0) OY) AB)))))))) (AE (AK (pxt [111,100,100]))) AW) (AD (AV (AR (BN K hu) (A7 K ng PySem.F.slot_list_count PySem.F.type_list_count Q0 (pv 5) (AA B0 AB)) AC) (AE (AK (pxt [111,100,100]))) AW) (AE (AK (AG AN (pxt [9]) (AH K (Aa (AA (pxt [78,111,82,111,119]) (AA (pxt [78,111,78,97,109,101]) (AA (pxt [78,111,75,105,110,100,115]) (AA (pxt [78,111,76,105,110,101]) (AA (pxt [78,111,78,117,109,98,101,114]) (AA (pxt [78,111,116,82,105,103,104,116]) (AA (pxt [78,111,70,105,108,108,105,110,103]) AB)))))))) (A7 K ng PySem.F.slot_list_index PySem.F.type_list_index J7 (pv 5) (AA B0 AB))))))))))))))),?_⟩;show⟨d,dx,_,rfl,e1,rfl,?_⟩;show h _ _ (λb H1 hb h9 q=>?_) (λC nm hC q=>?_)
 ·show ifp rfl ?_;show⟨small (n:=2) nv,λy hy=>?_⟩;show Bq (b:=true) (TyOf.str _) nE ?_;ext;clear facts;refine ifq rfl ?_;ext;have hne:¬ (Ap b none (some 1)=[9]):=λz=>by
   rw[Be _ nv]at z
   cases b with
   |nil=>cases z
   |cons x r=>exact h9 (by rw[(List.cons.inj z).1];rfl)
  rw[aX hne];show AL (SqL.of AF) (show atI [tx b,tx [111,100,100]] (if false=true then 1 else 0)=some (tx b)from rfl) ?_;exact q _ (AJ hy _)
 ·have Z:=facts C nm hC;obtain⟨B,I,J,L,M,Q,b7,j,wd,mr,k1,k2,k3,k4,k5,k6,k7,ka,kv,hc,hj,hm,hw,rfl,hwl⟩:=KO T.t hC;refine Ma λy G sG hy=>⟨mr,λob=>?_⟩;have s1:Same H (upd G y (BE ob y C)):=Kn sG hy;have U:(upd G y (BE ob y C)) y=some (BE ob y C):=AF;generalize upd G y _=G1 at*
  ext;clear facts h;refine Jy ?_;show ifq rfl ?_;show CC U Z k1 ?_;show CC U Z k2 ?_;show CC U Z k3 ?_;show⟨small (n:=3) nv,λl1 hl1=>?_⟩;have t1:=AJ hl1 (.lst [.bl B, .bl I, .bl J]);have g1:=AF (H:=G1) (a:=l1) (o:= .lst [.bl B, .bl I, .bl J]);generalize upd G1 l1 _=G2 at*
  have e:=t1 _ _ U;show CC e Z k4 ?_;show CC e Z k5 ?_;show CC e Z k6 ?_;show⟨small (n:=3) nv,λl2 hl2=>?_⟩;have t2:=AJ hl2 (.lst [.bl L, .bl M, .bl Q]);have g2:=AF (H:=G2) (a:=l2) (o:= .lst [.bl L, .bl M, .bl Q]);generalize upd G2 l2 _=G3 at*
  show DM (t2 _ _ g1) g2 (small (n:=6) nv) (λl3 S=>?_);have t3:=AJ S (.lst ([.bl B, .bl I, .bl J]++[.bl L, .bl M, .bl Q]));have g3:(upd G3 l3 (.lst ([.bl B, .bl I, .bl J]++[.bl L, .bl M, .bl Q]))) l3=some (.lst [.bl B, .bl I, .bl J, .bl L, .bl M, .bl Q]):=AF;have n3:H l3=none:=s1.free (t1.free (t2.free S));have s3:Same H (upd G3 l3 (.lst ([.bl B, .bl I, .bl J]++[.bl L, .bl M, .bl Q]))):=((s1.trans t1).trans t2).trans t3;have X:=t3 _ _ (t2 _ _ e);generalize upd G3 l3 _=G4 at*
  have nxl:y≠l3:=AS (t2 _ _ e) S;clear t1 t2 t3 g1 g2 U e hl1 hl2 S s1 sG;show⟨SqL.ty (SqL.of g3),?_⟩;show CC X Z k7 ?_;show⟨l3,_,_,rfl,rfl,g3,DG (show 6<=1000 by decide),?_⟩;have t4:Same H (upd G4 l3 (.lst ([.bl B, .bl I, .bl J, .bl L, .bl M, .bl Q]++[.bl b7]))):=λb o z=>by rw[AI (AS z n3)];exact s3 b o z
  have g4:(upd G4 l3 (.lst ([.bl B, .bl I, .bl J, .bl L, .bl M, .bl Q]++[.bl b7]))) l3=some (.lst ([B,I,J,L,M,Q,b7].map V.bl)):=AF;have hx4:(upd G4 l3 (.lst ([.bl B, .bl I, .bl J, .bl L, .bl M, .bl Q]++[.bl b7]))) y=some (BE ob y C):=by rw[AI nxl];exact X
  generalize upd G4 l3 _=G5 at*
  clear s3 g3 X;show⟨small (n:=4) nv,λtp htp=>?_⟩;have Y:=AJ htp (.tup ([cs.NoPlace,cs.NoTree,cs.NoWeights,cs.TooMany].map V.ref));show VO (cs:=[cs.NoPlace,cs.NoTree,cs.NoWeights,cs.TooMany]) (Y _ _ hx4) Z AF ka ?_;show ifq rfl ?_;show VP (Y _ _ hx4) Z kv ?_;show ifq rfl ?_;show⟨SqL.ty (SqL.of (Y _ _ g4)),?_⟩;show⟨l3,_,_,rfl,rfl,Y _ _ g4,?_⟩;rw[hc];show ifq rfl ?_;show⟨small (n:=7) nv,λl6 hl6=>?_⟩;have t6:=AJ hl6 (.lst [tx [78,111,82,111,119],tx [78,111,78,97,109,101],tx [78,111,75,105,110,100,115],tx [78,111,76,105,110,101],tx [78,111,78,117,109,98,101,114],tx [78,111,116,82,105,103,104,116],tx [78,111,70,105,108,108,105,110,103]]);show⟨SqL.ty (SqL.of (t6 _ _ (Y _ _ g4))),?_⟩;show⟨l3,_,_,j,rfl,rfl,t6 _ _ (Y _ _ g4),hj,hm,by simp,?_⟩;refine AL (SqL.of AF) hw ?_;refine BD (small (by simp only[aM,List.length_nil];lia)) ?_;exact q _ ((t4.trans Y).trans t6)
theorem Oy:FuV P w K mg base (k+2) "_law_names" ["pool"] (spNames7):=FnA.u (T.f.at 66) (scN ["pool","letters","word","at","letter","more","whole","found","one"]) λnd H hr h=>by
 obtain⟨p,rfl,po,q⟩:=h;have S:=hr.units0;refine⟨_,(AD (CM (i:=1) nd rfl (Or.inr rfl) (NM (l:=ltr) nB)) (AD (AO 2 (A7 K nr PySem.F.slot_str_join nu (EM K) (pxt []) (AA (A1 (own:=["k"]) (sel:=[1,0]) (Au (osc:=(AU (top 111))) (N:=["pool","letters","word","at","letter","more","whole","found","one"]) nB) rfl (CA rfl (T.N 11) (AA (AG AN AC (AM (Ae T) hr (AA (pv 0) (AA AC AB)))) AB)) (λ_ _ _ _ _=>(Af (i:=0) (show(["k","letters","pool"]:List Str).Nodup from by decide +kernel) rfl (kP rfl))) (Ak nv) (λ_ _ _ _ _=>A2) (λ_ _ _ _ _=>(AH K (pv 1) (AM (Ae T) hr (AA (pv 2) (AA AC AB)))))) AB))) (AD (AO 3 (AM (Ae T) hr (AA (pv 0) (AA (Al K (T.N 7) (AA (pv 2) AB)) AB)))) (AD (AO 4 (AH K (pv 1) (AM (Ae T) hr (AA (pv 0) (AA AC AB))))) (AD (AO 5 (Aa (AA (pv 2) (AA (AG AN (pv 2) (pv 4)) (AA (AG AN (pv 4) (pv 2)) (AA (AG AN (AG AN (Aw (A0 K) (pv 2) Az (Ay (pv 3))) (pv 4)) (Aw (A0 K) (pv 2) (Ay (AG AN (pv 3) AC)) Az)) AB)))))) (AD (Ax (A7 K ng no nk B4 (pv 5) (AA (AH K (Aa (AA (pxt [110,111,110,101]) (AA (pxt [114,111,119]) (AA (pxt [110,97,109,101,115]) (AA (pxt [115,104,111,119]) (AA (pxt [116,117,114,110]) (AA (pxt [107,105,110,100,115]) (AA (pxt [100,114,111,112]) (AA (pxt [109,97,110,121]) AB))))))))) (AM (Ae T) hr (AA (pv 0) (AA AC AB)))) AB))) (AD (AV (AR (Ag K S) (AM (Ae T) hr (AA (pv 0) (AA AC AB))) AC) (AD (AO 6 (AG AN (AG AN (pv 2) (pv 4)) (pxt [98]))) (AE (AO 5 (Aa (AA (Aw (A0 K) (pv 6) Az (Ay AC)) (AA (Aw (A0 K) (pv 6) (Ay AC) Az) (AA (Aw (A0 K) (pv 6) Az (Ay AC)) (AA (Aw (A0 K) (pv 6) (Ay AC) Az) (AA (pxt [110,111,110,101]) AB))))))))) AW) (AD (AO 7 (Aa AB)) (AD (A9 nh rfl (Bx K (AG AN (pv 5) (Aa (AA (pxt [113,120]) (AA (pxt [113,121]) (AA (pxt [113,120,113,121]) (AA (pxt [122,122,122,122,122,122,122,122]) (AA (pxt [120]) AB)))))))) (Ah 8) (AE (AV (PW.pt (Cj (FG CT CT AC (Al K (T.N 7) (AA (pv 8) AB)) AC) (C0 (AR (E8 K) (pv 8) (pv 7) nE)))) (AE (Ax (A7 K ng no nk B4 (pv 7) (AA (pv 8) AB)))) AW))) (AE (AK (Aw (A0 K) (pv 7) Az (Ay (AH K (Aa (AA AC (AA AC AB))) (A5 Cd rfl (T.N 5) ni (AA (BH (Ag K S) (AM (Ae T) hr (AA (pv 0) (AA AC AB))) AC) AB)))))))))))))))),?_⟩;show Ad po nv nv (λn0 H1 n1 n2 p1 s1=>?_);show⟨1+n0,rfl,by lia,by lia,?_⟩;refine LE (n:=(1+n0).toNat) (small nA) (λD j ys U=>∃cs:List Nat,ys=(cs.map λc=>[c]).map tx/\cs.length=j/\(∀c∈cs,c∈ltr)/\D≠p/\Po U p/\SameBut1 p H U) (λD hD=>⟨[],rfl,rfl,(λ_ z=>nomatch z),p1.ne hD,p1.same (AJ hD _),s1.trans (SameBut1.of (AJ hD _))⟩) (λD ys H3 hD hy ⟨cs,ey,hcl,J,X,p3,s3⟩=>?_) ?_
 rotate_left
 ·intro D j ys H3 hD hj hy hl z_;obtain⟨cs,rfl,hcl,J,X,p3,s3⟩:=z_;show Cu ?_;show Ad p3 nA nA (λr4 H4 r40 r41 p4 s4=>?_);obtain⟨d,ed,hd⟩:=Ee (l:=ltr) (i:=r4) r40 (by show r4<26;lia);show BO (small nv) ed ?_;refine Bj hj (small nA) (s4 _ _ hy X) hl ⟨cs++[d],by simp,by simp[hcl],λc G=>(dW.mp G).elim (J c) λz=>by rw[aV.mp z];exact hd,X,?_,λb o z zn=>?_⟩
  ·obtain⟨a,b,c,e⟩:=p4;exact⟨a,b,c,by rw[AI (Ne.symm X)];exact e⟩
  ·have hbD:b≠D:=λe=>by
    have:=s1 _ _ z zn;rw[e,hD]at this;cases this
   rw[AI hbD];exact s4 b o (s3 b o z zn) zn
 subst ey;show EU (SqL.of hy) (by rw[ED,ax];lia) ?_;rw[ED];have hc7:cs.length<=7:=by lia
 have hc1:1<=cs.length:=by lia
 clear hy hcl X hD s1 p1;show Ad p3 nA nA (λat0 H4 a0 a1 p4 s4=>?_);show Ad p4 nv nv (λr5 H5 r50 r51 p5 s5=>?_);obtain⟨lt,elt,hlt⟩:=Ee (l:=ltr) (i:=r5) r50 (by show r5<26;lia);refine BO (small nv) elt ?_;obtain⟨at',rfl⟩:∃at':Nat,at0=at':=⟨at0.toNat,by lia⟩;have ea:((at':Int)+1)=((at'+1:Nat):Int):=by lia
 ext;have lt1:(cs.take at').length=at':=by rw[cc];lia
 have lt2:(cs.drop (at'+1)).length=cs.length-at'-1:=by rw[List.length_drop];lia
 rw[Be _ nA,d0];refine BD (small (by rw[f9];lia)) ?_;ext;rw[ea,EE];refine BD (small (by rw[aG,f9];lia)) ?_;ext;have sB:SameBut1 p H H5:=(s3.trans s4).trans s5;clear s3 s4 s5 p3 p4;have L1:Lw cs:=⟨by lia,J⟩;have L2':Lw [lt]:=⟨by simp,λc G=>by rw[aV.mp G];exact hlt⟩;have L3:Lw (cs.take at'++[lt]++cs.drop (at'+1)):=⟨by simp only[aG,f9];lia,λc G=>by
  simp only[dW]at G;rcases G with(z|z)|z
  ·exact J c (jG z)
  ·exact L2'.2 c z
  ·exact J c (List.mem_of_mem_drop z)⟩
 generalize cs.take at'++[lt]++cs.drop (at'+1)=w4 at L3⊢;refine⟨small (n:=4) nv,λm hm=>?_⟩;have t1:=AJ hm (.lst [tx cs,tx (cs++[lt]),tx ([lt]++cs),tx w4]);have g1:=AF (H:=H5) (a:=m) (o:= .lst [tx cs,tx (cs++[lt]),tx ([lt]++cs),tx w4]);have nm:=p5.ne hm;have hmH:H m=none:=sB.free1 p5 hm;have p6:=p5.same t1;have s6:=sB.trans (SameBut1.of t1);generalize upd H5 m _=H6 at*
 clear t1 p5 sB;show⟨SqL.ty (SqL.of g1),?_⟩;show⟨small (n:=8) nv,λw8 hw8=>?_⟩;have t2:=AJ hw8 (.lst [tx [110,111,110,101],tx [114,111,119],tx [110,97,109,101,115],tx [115,104,111,119],tx [116,117,114,110],tx [107,105,110,100,115],tx [100,114,111,112],tx [109,97,110,121]]);have g2:(upd H6 w8 (.lst [tx [110,111,110,101],tx [114,111,119],tx [110,97,109,101,115],tx [115,104,111,119],tx [116,117,114,110],tx [107,105,110,100,115],tx [100,114,111,112],tx [109,97,110,121]])) w8=some (.lst (wd8.map tx)):=AF;have nw:=p6.ne hw8;have p7:=p6.same t2;have Z:=t2 _ _ g1;have s7:=s6.trans (SameBut1.of t2);generalize upd H6 w8 _=H7 at*
 clear t2 p6 s6 g1;show Ad p7 nv nv (λr8 H8 r80 r81 p8 s8=>?_);obtain⟨x8,ex8,hx8⟩:=Ut (l:=wd8) (i:=r8) r80 (by show r8<8;lia);refine AL (SqL.of (s8 _ _ g2 nw)) (v:=tx x8) (Hf tx ex8) ?_;show⟨m,_,_,rfl,rfl,s8 _ _ Z nm,DG (show 4<=1000 by decide),?_⟩;have L8:Lw x8:=lw8 x8 hx8;have g9:(upd H8 m (.lst ([tx cs,tx (cs++[lt]),tx ([lt]++cs),tx w4]++[tx x8]))) m=some (.lst ([cs,cs++[lt],[lt]++cs,w4,x8].map tx)):=AF;have p9:Po (upd H8 m (.lst ([tx cs,tx (cs++[lt]),tx ([lt]++cs),tx w4]++[tx x8]))) p:=by
  obtain⟨a,b,c,e⟩:=p8;exact⟨a,b,c,by rw[AI nm.symm];exact e⟩
 have s9:SameBut1 p H (upd H8 m (.lst ([tx cs,tx (cs++[lt]),tx ([lt]++cs),tx w4]++[tx x8]))):=λb o z zn=>by
  rw[AI (AS z hmH)];exact(s7.trans s8) b o z zn
 generalize upd H8 m _=H9 at*
 clear s7 s8 p7 p8 Z g2;show Ad p9 nv nv (λr9 H10 r90 r91 p10 s10=>?_);have g10:=s10 _ _ g9 nm;have s11:=s9.trans s10;clear s9 s10 g9 p9;show ifj (λσ U=>∃ (m':Addr) (ws:List (List Nat)) (o6:Option V),σ=[some (.ref p),some (tx ltr),some (tx cs),some (.int at'),some (tx [lt]),some (.ref m'),o6,none,none]/\U m'=some (.lst (ws.map tx))/\ws.length=5/\(∀w∈ws,Lw w)/\m'≠p/\Po U p/\SameBut1 p H U) ?_ ?_ (λ_=>⟨m,[cs,cs++[lt],[lt]++cs,w4,x8],none,rfl,g10,rfl,?_,nm,p10,s11⟩)
 rotate_left
 ·intro G N hN;ext;have LW:Lw (cs++[lt]++[98]):=⟨by simp only[aG,f9];lia,λc G=>by
   simp only[dW,aV]at G;rcases G with(z|z)|z
   ·exact J c z
   ·rw[z];exact hlt
   ·rw[z];decide⟩
  generalize cs++[lt]++[98]=r at LW⊢;have c1:Ap r none (some 1)=r.take 1:=Be _ nv;have c2:Ap r (some 1) none=r.drop 1:=EE r 1;have c3:Ap r none (some 2)=r.take 2:=Be _ nv;have c4:Ap r (some 2) none=r.drop 2:=EE r 2;rw[c1,c2,c3,c4];refine⟨small (n:=5) nv,λm2 hm2=>?_⟩;ext;have t3:=AJ hm2 (.lst [tx (r.take 1),tx (r.drop 1),tx (r.take 2),tx (r.drop 2),tx [110,111,110,101]]);refine⟨m2,[r.take 1,r.drop 1,r.take 2,r.drop 2,[110,111,110,101]],_,rfl,AF,rfl,?_,p10.ne hm2,p10.same t3,s11.trans (SameBut1.of t3)⟩;have hT:∀n,Lw (r.take n):=λn=>⟨by have:=LW.1;rw[cc];lia,λc G=>LW.2 c (jG G)⟩;have hDr:∀n,Lw (r.drop n):=λn=>⟨by have:=LW.1;rw[List.length_drop];lia,λc G=>LW.2 c (List.mem_of_mem_drop G)⟩;intro w I;simp only[List.mem_cons,List.not_mem_nil,or_false]at I;rcases I with rfl|rfl|rfl|rfl|rfl
  ·exact hT 1
  ·exact hDr 1
  ·exact hT 2
  ·exact hDr 2
  ·exact lw8 _ nv
 ·intro w I;have:=L1.2;simp only[List.mem_cons,List.not_mem_nil,or_false]at I;rcases I with rfl|rfl|rfl|rfl|rfl
  ·exact L1
  ·exact L1.app L2' (by rw[f9];lia)
  ·exact L2'.app L1 (by rw[f9];lia)
  ·exact L3
  ·exact L8
 intro σ H11 z_;obtain⟨m',ws,o6,rfl,g11,hws,hLw,nm',p11,s12⟩:=z_;show⟨small (n:=0) nv,λfo hfo=>?_⟩;have t4:=AJ hfo (.lst []);have g12:=AF (H:=H11) (a:=fo) (o:= .lst []);have nf:=p11.ne hfo;have hfH:H fo=none:=s12.free1 p11 hfo;have gm:=t4 _ _ g11;have p12:=p11.same t4;have s13:=s12.trans (SameBut1.of t4);generalize upd H11 fo _=H12 at*
 clear t4 p11 s12 g11 s11 p10 g10 L8 L3 hmH;show⟨small (n:=5) nv,λl5 hl5=>?_⟩;have t5:=AJ hl5 (.lst [tx [113,120],tx [113,121],tx [113,120,113,121],tx [122,122,122,122,122,122,122,122],tx [120]]);have g5:(upd H12 l5 (.lst [tx [113,120],tx [113,121],tx [113,120,113,121],tx [122,122,122,122,122,122,122,122],tx [120]])) l5=some (.lst (wd5.map tx)):=AF;have p13:=p12.same t5;have g125:=t5 _ _ g12;have gm5:=t5 _ _ gm;have s135:=s13.trans (SameBut1.of t5);generalize upd H12 l5 _=H13 at*
 show DM gm5 g5 (small (by rw[ax,ax,hws];decide)) (λl6 hl6=>?_);rw[<-bv];have t6:=AJ hl6 (.lst ((ws++wd5).map tx));have g6:(upd H13 l6 (.lst ((ws++wd5).map tx))) l6=some (.lst ((ws++wd5).map tx)):=AF;have nl6:=p13.ne hl6;have n6f:l6≠fo:=(AS g125 hl6).symm;have gf:=t6 _ _ g125;have p14:=p13.same t6;have s14:=s135.trans (SameBut1.of t6);generalize upd H13 l6 _=H14 at*
 have hLa:∀w∈ws++wd5,Lw w:=λw I=>(dW.mp I).elim (hLw w) (lw5 w);have hla:(ws++wd5).length=10:=by rw[aG,hws];rfl
 have hxa:[120]∈ws++wd5/\[113,120]∈ws++wd5/\[113,121]∈ws++wd5:=⟨aP _ nv,aP _ nv,aP _ nv⟩;generalize ws++wd5=wa at*
 show⟨l6,rfl,⟨_,SqL.of g6⟩,?_⟩;refine K4 (xs:=wa.map tx) (λi σ U=>∃ (fs:List (List Nat)) (o8:Option V),σ=[some (.ref p),some (tx ltr),some (tx cs),some (.int at'),some (tx [lt]),some (.ref m'),o6,some (.ref fo),o8]/\U fo=some (.lst (fs.map tx))/\fs.length<=i/\(∀w∈fs,Nm w)/\fs.Nodup/\(∀ (j:Nat) (w:List Nat),j<i->wa[j]? =some w->1<=w.length->w.length<=8->w∈fs)/\U l6=some (.lst (wa.map tx))/\Po U p/\SameBut1 p H U) ⟨[],_,rfl,gf,by simp,(λ_ z=>nomatch z),List.nodup_nil,(λj w hj=>absurd hj (Nat.not_lt_zero j)),g6,p14,s14⟩ (λi σ U _ ⟨_,_,_,_,_,_,_,_,g,_⟩=>SqL.of g) ?_ ?_
 ·intro i v σ H15 hv z_;obtain⟨fs,o8,rfl,y,hfl,M,Q,Y,gl,B,R⟩:=z_;obtain⟨w,I,rfl⟩:∃w,wa[i]? =some w/\tx w=v:=by
   rw[am]at hv;obtain⟨w,h1,h2⟩:=dz.mp hv;exact⟨w,h1,h2⟩
  have hL:=hLa w (bV I);have hwl:=hL.1;have hi:i<10:=by rw[<-hla];exact(az.mp I).1
  ext;have keep:(1<=w.length->w.length<=8->w∈fs)->∀ (j:Nat) (u:List Nat),j<i+1->wa[j]? =some u->1<=u.length->u.length<=8->u∈fs:=λhk j u hj S h1 h8=>by
   by_cases e:j=i
   ·subst e;rw[I]at S;cases S;exact hk h1 h8
   ·exact Y j u nA S h1 h8
  refine ifd (λh1=>?_) (λh1=>?_)
  rotate_left
  ·show ifq rfl ?_;ext;exact⟨fs,_,rfl,y,by lia,M,Q,keep λz=>absurd z nA,gl,B,R⟩
  show ifd (λh8=>?_) (λh8=>?_)
  rotate_left
  ·refine ifq rfl ?_;ext;exact⟨fs,_,rfl,y,by lia,M,Q,keep λ_ z=>absurd z nA,gl,B,R⟩
  show Ko (.inl (SqL.of y)) rfl (by rw[List.all_map,List.all_eq_true];intro _ _;rfl) ?_;rw[Hw];ext
  by_cases hin:w∈fs
  ·rw[ba hin];refine ifq rfl ?_;ext;exact⟨fs,_,rfl,y,by lia,M,Q,keep λ_ _=>hin,gl,B,R⟩
  ·rw[aX hin];refine ifp rfl ?_;show⟨SqL.ty (SqL.of y),?_⟩;show⟨fo,_,_,rfl,rfl,y,DG (by rw[ax];lia),?_⟩;show⟨fs++[w],_,rfl,by rw[AF,bv];rfl,by rw[aG,f9];lia,λu S=>?_,List.nodup_append.mpr ⟨Q,List.nodup_cons.mpr ⟨List.not_mem_nil,List.nodup_nil⟩,λa ha b hb e=>hin (by rw[<-aV.mp hb,<-e];exact ha)⟩,λj u hj S a1 a8=>?_,by rw[AI n6f];exact gl,?_,λb o z zn=>?_⟩
   ·rcases dW.mp S with z|z
    ·exact M u z
    ·rw[aV.mp z];exact⟨by lia,by lia,hL.2⟩
   ·by_cases e:j=i
    ·subst e;rw[I]at S;cases S;exact aP _ (aV.mpr rfl)
    ·exact List.mem_append_left _ (Y j u nA S a1 a8)
   ·obtain⟨a,b,c,e⟩:=B;exact⟨a,b,c,by rw[AI nf.symm];exact e⟩
   ·rw[AI (AS z hfH)];exact R b o z zn
 ·intro σ H15 z_;obtain⟨fs,o8,rfl,y,hfl,M,Q,Y,gl,B,R⟩:=z_;rw[ax,hla]at hfl Y;have hx:∀x,x∈wa->1<=x.length->x.length<=8->x∈fs:=λx hx a1 a8=>by
   obtain⟨j,hj,e⟩:=List.mem_iff_getElem.mp hx;exact Y j x nA (by rw[ai hj,e]) a1 a8
  have hpos:3<=fs.length:=Xt (hx _ hxa.1 nv nv) (hx _ hxa.2.1 nv nv) (hx _ hxa.2.2 nv nv) nv nv nv;show⟨small (n:=2) nv,λl7 hl7=>?_⟩;have t7:=AJ hl7 (.lst [V.int 5,V.int 10]);have g7:=AF (H:=H15) (a:=l7) (o:= .lst [V.int 5,V.int 10]);have n7:=B.ne hl7;show Ad (B.same t7) nv nv (λr7 H17 _ _ p17 s17=>?_);ext;have gf17:=s17 _ _ (t7 _ _ y) nf;have Z:=s17 _ _ g7 n7;have s18:SameBut1 p H H17:=(R.trans (SameBut1.of t7)).trans s17;obtain⟨n,en,hn⟩:∃n:Int,atI [V.int 5,V.int 10] (if decide (r7=1)=true then 1 else 0)=some (.int n)/\(n=5\/n=10):=by
   cases decide (r7=1)
   ·exact⟨5,rfl, .inl rfl⟩
   ·exact⟨10,rfl, .inr rfl⟩
  refine AL (SqL.of Z) en ?_;show Eh (SqL.of gf17) (λL hL=>?_);have ec:Cw (fs.map tx) none (some n)=(fs.take n.toNat).map tx:=by
   rw[List.map_take];exact Be _ nA
  rw[ec];have t8:=AJ hL (.lst ((fs.take n.toNat).map tx));exact q L _ _ (s18.free1 p17 hL) (p17.same t8) (s18.trans (SameBut1.of t8)) AF (λw I=>M w (jG I)) (Q.sublist (List.take_sublist _ _)) (by rw[cc];lia) (by rw[cc];lia)
theorem Oe:FuV P w K mg base (k+1) "_law_is_line" ["k","row"] (spLine7):=FnA.u (T.f.at 67) (scN ["k","row"]) λnd H R h=>by
 obtain⟨d,a,rfl,k1,k4,Y,q⟩:=h;have S:=R.units0;refine⟨_,(AE (AK (EY (BH CT (Al K (T.N 7) (AA (pv 1) AB)) AC) (DO (BH (Ag K S) (A1 (own:=["sign"]) (sel:=[0]) (Au (osc:=(AU (top 112))) (N:=["k","row"]) nB) rfl (CN (pv 1)) (λ_ _ _ _ _=>(Af (i:=0) (show(["sign","k"]:List Str).Nodup from by decide +kernel) rfl (kP rfl))) (Ak nv) (λ_ _ _ _ _=>EK (AR (E8 K) (pv 0) (AG AN (AG AN (Aw (A0 K) (pxt [40,91,123,60]) Az (Ay (pv 1))) (Aw (A0 K) (pxt [41,93,125,62]) Az (Ay (pv 1)))) (pxt [63])) nE)) (λ_ _ _ _ _=>(pv 0))) (Aa AB)))))),?_⟩;show ifd (λB=>?_) (λB=>?_)
 rotate_left
 ·have:=q H (Same.refl H);rw[R0 nA]at this;exact this
 have B:a.length<=40:=by lia
 show Gw (small nA) (λD i G H'=>G=(((a.take i).filter λc=> !decide (c∈sgn d)).map λc=>tx [c])/\SameBut1 D H H') (λD x=>⟨rfl,SameBut1.of (AJ x _)⟩) (λD G H' x j ⟨e,y⟩=>?_) ?_
 ·rw[dD]at e;have U:Same H H':=λb o z=>y b o z (AS z x);show⟨small (n:=0) nv,λz X=>?_⟩;ext;have J:=AJ X (.lst []);refine W5 (SqL.of (J _ _ j)) (SqL.of AF) (by rw[e,List.all_map,List.all_eq_true];intro _ _;rfl) rfl ?_;have I:=q _ (U.trans J);unfold AQ at I;rw[ba B,Bool.true_and]at I;rw[e,WO];exact I
 ·rintro D i c G H' x L hi j r ⟨e,y⟩;ext;have M:Ap [40,91,123,60] none (some d)=opn.take d.toNat/\Ap [41,93,125,62] none (some d)=cls.take d.toNat:=by
   obtain rfl|rfl|rfl|rfl:d=1\/d=2\/d=3\/d=4:=by lia
   all_goals exact⟨by decide,by decide⟩
  have Z:(opn.take d.toNat).length<=4:=by rw[cc];exact Nat.le_trans (Nat.min_le_right _ _) nv
  have l2:(cls.take d.toNat).length<=4:=by rw[cc];exact Nat.le_trans (Nat.min_le_right _ _) nv
  rw[M.1,M.2];refine BD (small nA) ?_;ext;rw[show List.take d.toNat opn++List.take d.toNat cls++[63]=sgn d from rfl]
  cases Q:(!decide (c∈sgn d))with
  |true=>
   refine ifp rfl ?_;show Bj hi (small nA) j r ⟨?_,y.trans SameBut1.upd⟩;rw[e,K5 L true Q,bv];rfl
  |false=>
   refine ifq rfl ?_;exact FA hi j r ⟨by rw[e,K5 L false Q];simp,y⟩
theorem D3:FuV P w K mg base (k+1) "_law_shown" ["row"] (spShown7):=FnA.u (T.f.at 68) (scN ["row"]) λnd _ b h=>by
 obtain⟨a,rfl,q⟩:=h;have d:=b.units0;refine⟨_,(AE (AK (BL (AR (BN K d) (pv 0) (pxt [])) (pv 0) (pxt [110,111,110,101])))),?_⟩;ext
 by_cases e:a=[]
 ·subst e;refine ifq rfl ?_;ext;exact q
 ·refine ifp (by rw[aX e];rfl) ?_;ext;rw[show shw a=a from aB e]at q;exact q
theorem PM:OB P w K mg base (k+1) "_law_word" ["caught"] (spWord7 cs):=FnA.uH (T.f.at 69) (scN ["caught","kinds"]) λnd H L h=>by
 obtain⟨x,C,ob,nm,rfl,b,B,M,q⟩:=h;have hu:=de (Nat.le_add_right _ (16*k+200)) (Nat.add_assoc .. ▸L.un);obtain⟨d,e,i,o,j,wd,Z,Q,R,S,U,X,Y,hw,rfl,r⟩:=Pm T.t (C:=C) (nm:=nm) B M (by cases B;exact(T.c.at 11).2;exact(T.c.at 10).2;exact(T.c.at 1).2;exact(T.c.at 2).2;exact(T.c.at 5).2;exact(T.c.at 3).2;exact(T.c.at 8).2);refine⟨_,(AD (AO 1 (Aa (AA (Aj (Bw K) rfl (T.N 6) nb (AA (pv 0) (AA (Bg (T.c.at 5).1) AB))) (AA (Aj (Bw K) rfl (T.N 6) nb (AA (pv 0) (AA (Bg (T.c.at 3).1) AB))) (AA (Aj (Bw K) rfl (T.N 6) nb (AA (pv 0) (AA (Bg (T.c.at 8).1) AB))) AB))))) (AD (Ax (A7 K ng no nk B4 (pv 1) (AA (Aj (Bw K) rfl (T.N 6) nb (AA (pv 0) (AA (Bg (T.c.at 2).1) AB))) AB))) (AE (AK (AG AN (pxt [9]) (AH K (Aa (AA (pxt [78,111,78,117,109,98,101,114]) (AA (pxt [78,111,116,82,105,103,104,116]) (AA (pxt [78,111,70,105,108,108,105,110,103]) (AA (pxt [78,111,76,105,110,101]) AB))))) (A7 K ng PySem.F.slot_list_index PySem.F.type_list_index J7 (pv 1) (AA B0 AB)))))))),?_⟩;show CC b Z Q ?_;show CC b Z R ?_;show CC b Z S ?_;show⟨small (n:=3) nv,λl r=>?_⟩;have I:=AJ r (.lst [.bl d, .bl e, .bl i]);show⟨SqL.ty (SqL.of AF),?_⟩;show CC (I _ _ b) Z U ?_;show⟨l,_,_,rfl,rfl,AF,DG (show 3<=1000 by decide),?_⟩;rw[S6];have J:Same H (upd H l (.lst ([.bl d, .bl e, .bl i]++[.bl o]))):=AJ r _;have a:(upd H l (.lst ([.bl d, .bl e, .bl i]++[.bl o]))) l=some (.lst ([d,e,i,o].map V.bl)):=AF;generalize upd H l _=G at J a⊢;clear I;show⟨small (n:=4) nv,λl4 y=>?_⟩;have z:=AJ y (.lst [tx [78,111,78,117,109,98,101,114],tx [78,111,116,82,105,103,104,116],tx [78,111,70,105,108,108,105,110,103],tx [78,111,76,105,110,101]]);show⟨SqL.ty (SqL.of (z _ _ a)),?_⟩;show⟨l,_,_,j,rfl,rfl,z _ _ a,X,Y,by simp,?_⟩;refine AL (SqL.of AF) hw ?_;ext;exact q _ (J.trans z)
theorem PN:Am P w K mg base (k+6) "_law_sure" ["k","row"] (spLSure7 cs):=FnA.uE (T.f.at 70) (scN ["k","row","signs","place","bracket"]) @λ_ _ _ _ _ vs _ _ nd H R h=>by
 obtain⟨e,a,rfl,k1,k4,S,q⟩:=h;have hu:=R.units0;have hu2:=BC R;have hl:=An S;refine⟨_,(AD (AO 2 (A5 (Jm K rfl) rfl (T.N 8) PyProof.Rows.boot_list (AA (pv 1) AB))) (AD (A9 PassesOwn.leaving rfl (Bx K (Ac (Iz T) R A3 (AA (pv 0) (AA (pv 1) AB)))) (By (n:=2) K rfl (As (Ah 3) (As (Ah 4) Bm))) (AE (Bo (pv 4) (CO (pv 2) (pv 3) BW)))) (AE (AK (A7 K nr PySem.F.slot_str_join nu (EM K) (pxt []) (AA (pv 2) AB)))))),?_⟩;show Lf nA (λsg G=>?_);have s1:=AJ G (.lst ((a.map λc=>[c]).map tx));have h1:(upd H sg (.lst ((a.map λc=>[c]).map tx))) sg=some (.lst ((a.map λc=>[c]).map tx)):=AF;generalize upd H sg (.lst ((a.map λc=>[c]).map tx))=H1 at*
 ext;rcases q with⟨hc,rf⟩|⟨hc,q⟩
 ·exact⟨e,a,⟨rfl,k1,k4,S⟩, .inl ⟨hc,rf.pass s1⟩⟩
 refine⟨e,a,⟨rfl,k1,k4,S⟩, .inr ⟨hc,λD vs H2 hD s2 I hS=>?_⟩⟩;have J:∀x∈Bs e.toNat a,x.1<a.length:=λx Q=>LS Q;have h2:=s2 _ _ h1;have L:vs.length=(Bs e.toNat a).length:=by rw[hS.1,ax]
 have U:D≠sg:=λz=>by rw[z,h1]at hD;cases hD
 show⟨D,rfl,⟨_,SqL.of I⟩,?_⟩;refine Gs (xs:=vs) (λi σ r=>∃X Y,σ=[some (.int e),some (tx a),some (.ref sg),X,Y]/\SameBut1 sg H2 r/\r sg=some (.lst (((CG a ((Bs e.toNat a).take i)).map λc=>[c]).map tx))) ⟨_,_,rfl,SameBut1.of (Same.refl _),h2⟩ (λi σ r _ ⟨_,_,_,B,_⟩=>SqL.of (B _ _ I U)) ?_ ?_
 ·intro i x σ r Q Z;obtain⟨X,Y,rfl,B,hg⟩:=Z;have hi:i<vs.length:=(az.mp Q).1;obtain⟨y,hy⟩:∃y,(Bs e.toNat a)[i]? =some y:=⟨_,ai (by rw[<-L];exact hi)⟩;obtain⟨T1,M,d⟩:=hS.2 i _ (by rw[am,hy];rfl);rw[Q]at M
  cases M
  have d:H2 T1=some (.tup [.int y.1,tx [brs.getD y.2 0]]):=d;have hlt:=J y (bV hy);have hTs:T1≠sg:=λz=>by rw[z,h2]at d;cases d
  show⟨T1,_,rfl,SqT.of (B _ _ d hTs),rfl,?_⟩;show Ba hg (j:=y.1) (L6 (by rw[ax,ax,DH];exact hlt)) ?_;show⟨_,_,rfl,B.trans SameBut1.upd,?_⟩;rw[AF,List.take_add_one,hy];simp only[Option.toList_some];rw[Jq,List.map_set,List.map_set]
 ·intro σ r Z;obtain⟨X,Y,rfl,B,hg⟩:=Z;rw[L,dD]at hg;show EU (SqL.of hg) (by rw[E9,ax,DH];lia) ?_;rw[E9];ext;exact q r λb o z=>B b o (s2 _ _ (s1 _ _ z)) (AS z G)
theorem Od:Am P w K mg base (k+8) "_law_told_of" ["k","head","row","more"] (spTold7 cs):=FnA.uE (T.f.at 71) (scN ["k","head","row","more","told"]) @λ_ _ _ _ s _ _ _ nd _ y h=>by
 obtain⟨d,dd,a,n,b,rfl,k1,k4,B,hq,hn,R,S,q,r⟩:=h;have I:=y.units0;have hu2:=BC y;have hl:=An B;refine⟨_,(AD (AV (AR (Ag K I) (pv 1) (pxt [114,105,103,104,116])) (AE (AK (AH K (Aa (AA (pxt [110,111]) (AA (pxt [121,101,115]) AB))) (A5 Cd rfl (T.N 5) ni (AA (Ac (GB T) y A3 (AA (pv 0) (AA (pv 2) AB))) AB))))) AW) (AD (AV (AR (Ag K I) (pv 1) (pxt [109,97,121])) (AE (AK (AH K (Aa (AA (pxt [110,111]) (AA (pxt [121,101,115]) AB))) (A5 Cd rfl (T.N 5) ni (AA (Ac (JH T) y A3 (AA (pv 0) (AA (pv 2) AB))) AB))))) AW) (AD (AV (AR (Ag K I) (pv 1) (pxt [109,97,110,121])) (AE (AK (A5 Cc rfl (T.N 14) nj (AA (AG AN (Ac (GC T) y A3 (AA (pv 0) (AA (pv 2) AB))) AC) AB)))) AW) (AD (AV (AR (Ag K I) (pv 1) (pxt [110,116,104])) (AE (AK (AM (D3 T) y (AA (Ac (F6 T) y A3 (AA (pv 0) (AA (pv 2) (AA (A5 GX rfl (T.N 5) ni (AA (pv 3) AB)) AB)))) AB)))) AW) (AD (AV (AR (Ag K I) (pv 1) (pxt [110,117,109,98,101,114])) (AE (AK (A5 Cc rfl (T.N 14) nj (AA (AG AN (Ac (JG T) y A3 (AA (pv 0) (AA (pv 2) (AA (pv 3) AB)))) AC) AB)))) AW) (AD (AV (AR (Ag K I) (pv 1) (pxt [115,117,114,101])) (AE (AK (AM (D3 T) y (AA (Ac (PN T) y A3 (AA (pv 0) (AA (pv 2) AB))) AB)))) AW) (AD (AV (AR (Ag K I) (pv 1) (pxt [102,101,119,101,115,116])) (AD (AO 4 (Ac (Iw T) y A3 (AA (pv 0) (AA (pv 2) AB)))) (AE (AK (BL (AR Bd (pv 4) Aq) (pxt [110,111,110,101]) (AG AN (AG AN (A5 Cc rfl (T.N 14) nj (AA (AG AN (AH K (pv 4) AC) AC) AB)) (pxt [32])) (AM (D3 T) y (AA (AH K (pv 4) AC) AB))))))) AW) (AD (AV (AR (Ag K I) (pv 1) (pxt [109,111,114,101])) (AD (AO 4 (Ac (JA T) y A3 (AA (pv 0) (AA (pv 2) AB)))) (AE (AK (BL (AR Bd (pv 4) Aq) (pxt [110,111,110,101]) (A5 Cc rfl (T.N 14) nj (AA (AG AN (pv 4) AC) AB)))))) AW) (AE (AK (AM (D3 T) y (AA (pv 2) AB)))))))))))),?_⟩
 cases dd<;>first|(cases hq;done)|skip
 all_goals ext
 all_goals repeat((first|refine ifp nv ?_ |refine ifq nv ?_);ext)
 ·exact⟨a,rfl,q _ _ (Same.refl _) .show⟩
 ·refine⟨small (n:=2) nv,λz U=>?_⟩;have X:=AJ U (.lst [tx [110,111],tx [121,101,115]]);show .inl (GF k1 k4 B (λJ j=>?_));show AL (SqL.of (j _ _ AF)) (v:=tx (yn (decide (Rt a)))) (by cases decide (Rt a)<;>rfl) ?_;ext;exact q _ _ (X.trans j) .right
 ·refine⟨small (n:=2) nv,λz U=>?_⟩;have X:=AJ U (.lst [tx [110,111],tx [121,101,115]]);show KC k1 k4 B (λJ j=>?_);show AL (SqL.of (j _ _ AF)) (v:=tx (yn (goQ d.toNat a))) (by cases goQ d.toNat a<;>rfl) ?_;ext;exact q _ _ (X.trans j) .may
 ·refine .inl (Gp k1 k4 B (λJ j=>?_));ext;obtain⟨c1,L⟩:=MJ (k:=d.toNat) (a:=a) nA (An B);rw[Int.add_zero,<-c1];refine Ci L ?_;ext;exact q _ _ j .many
 ·refine Fc nA ?_;ext
  by_cases c:(n:Int)<zQ2 d.toNat a
  ·refine Gm k1 k4 B nA c (λbs J j nf R=>?_);ext;exact⟨_,rfl,q _ _ j (.nth c nf R)⟩
  ·exact .inr ⟨_,_,_,rfl, .inr ⟨d,a,rfl,rfl,k1,k4,B,⟨"int",TyOf.int _,by decide,λi hi=>by cases hi;lia⟩,(r _ _ .number nv (.nthNo c)).pass (Same.refl _)⟩⟩
 ·have M:=S rfl
  cases L:filB d a b with
  |false=>exact .inr ⟨_,_,_,rfl, .inr ⟨d,a,rfl,rfl,k1,k4,B, .inl ⟨b,rfl,R,L⟩,(r _ _ .right nv (.numNo M L)).pass (Same.refl _)⟩⟩
  |true=>
   obtain⟨bs,e,Y⟩:=MC (k:=d.toNat) nA (by rwa[show((d.toNat:Nat):Int)=d by lia]);subst e;refine JN k1 k4 B Y (λH2 s2=>?_);ext;obtain⟨_,h0,Z⟩:=Fi.pos (k:=d.toNat) nA hl (by intro o ho;cases ho) Y;have h5:=(EG (k:=d.toNat) (a:=a) nA hl).2;have hW:W d.toNat a 0 []=zQ2 d.toNat a:=rfl;rw[hW]at Z;have H:=q _ _ s2 (.num M L rfl Y);generalize num d.toNat a 0 [] bs=m at*
   have em:m=((m.toNat:Nat):Int):=by lia
   have hm:m.toNat<2^1900:=by
    have:m.toNat<=5^40:=by lia
    exact de this nB
   rw[Int.add_zero,em];refine Ci hm ?_;ext;exact H
 ·by_cases c:zQ2 d.toNat a=0
  ·exact⟨d,a,rfl,k1,k4,B, .inl ⟨c,(r _ _ .filling nv (.sureNo c)).pass (Same.refl _)⟩⟩
  ·refine⟨d,a,rfl,k1,k4,B, .inr ⟨c,λJ j=>?_⟩⟩;ext;exact⟨_,rfl,q _ _ j (.sure c)⟩
 ·refine⟨d,a,rfl,k1,k4,B,λv J j ft=>?_⟩;have H:=λG s=>q _ G (j.trans s) .fewest;have lo:=λw l h=>FR (a:=a) (show d.toNat<=4 by lia) (w:=w) (l:=l) h;generalize lkC d.toNat a=o at*
  ext
  match o,ft,lo,H with
  |none,ft,lo,H=>
   cases(show v= .non from ft)
   refine ifp rfl ?_;ext;exact H _ (Same.refl _)
  |some (w,l),⟨T1,ev,f1⟩,lo,H=>
   subst ev;have Q:l.length=a.length:=(lo w l rfl).1;have hbl:(brx l).length=a.length:=by unfold brx;rw[ax];exact Q
   refine ifq rfl ?_;ext;have hcl:=Fg a l;refine BB (SqT.of f1) rfl ?_;ext;rw[Int.add_zero];refine Ci (de (show chg a l<=40 by lia) nB) ?_;ext;have n1:=Cz 8 (chg a l) nA;refine BD (small (by show _+1<=1000;lia)) ?_;show BB (SqT.of f1) rfl ?_;show⟨_,rfl,?_⟩;have n2:=EI (a:=brx l) (n:=40) nv nA;ext;exact H _ (Same.refl _)
 ·refine JS k1 k4 B (λns J j dl=>?_);have H:=q _ _ j (.more dl);ext
  cases ns with
  |nil=>
   refine ifp rfl ?_;ext;exact H
  |cons x r=>
   have R:=((dl.2.1 x).mp List.mem_cons_self).bound;refine ifq rfl ?_;ext;have ex:x=((x.toNat:Nat):Int):=by lia
   refine MZ ?_;rw[Int.add_zero,ex];refine Ci (de (show x.toNat<=40 by lia) nB) ?_;ext;exact H
theorem QC:FuV P w K mg base (k+9) "_law_due" ["k","head","row","more"] (spDue7):=FnA.u (T.f.at 72) (scN ["k","head","row","more","found","e"]) λnd _ d h=>by
 obtain⟨r,x,a,n,b,rfl,k1,k4,S,U,X,M,q⟩:=h;have Y:=d.units0;have Z:=BC d;have facts:∀C z,Cap8 cs C z->ECls K C:=λC z h=>by
  cases h
  ·exact(T.c.at 11).2
  ·exact(T.c.at 10).2
  ·exact(T.c.at 1).2
  ·exact(T.c.at 2).2
  ·exact(T.c.at 5).2
  ·exact(T.c.at 3).2
  ·exact(T.c.at 8).2
 refine⟨_,(AD (AV (PW.pt (Cj (AR (Ag K Y) (pv 1) (pxt [110,117,109,98,101,114])) (C0 (BR (A6 K (AM (Oe T) d (AA (pv 0) (AA (pv 3) AB)))))))) (AE (AK (pxt [9,78,111,76,105,110,101]))) AW) (AD (AO 4 (pxt [])) (AD (Md (i:=5) (T.c.at 0).2 (T.c.at 0).1 ⟨rfl,rfl,rfl⟩ nd rfl rfl (λpn xe R B=>(AE (AO 4 (Ac (Od T) d B (AA (pv 0) (AA (pv 1) (AA (pv 2) (AA (pv 3) AB)))))))) (λev=>(AE (AO 4 (Vx (PM T) (d.h _) (AA (pv 5) AB)))))) (AE (AK (pv 4)))))),?_⟩;show UZ (co:=x= .number->AQ r b=true) (λG o H=>?_) (λh t=>?_) (λh e=>?_)
 ·show⟨r,x,a,n,b,rfl,k1,k4,S,U,X,M,H,λt H2 I J=>?_,λC z Q hm J=>?_⟩
  ·ext;exact q _ _ (o.trans I) J
  ·obtain⟨b1,b2,b3,b4,b5,b6,b7,j,wd,mr,_⟩:=KO T.t Q;refine Ma λy L sG hy=>⟨mr,λob=>?_⟩;have I:Same G (upd L y (BE ob y C)):=Kn sG hy;have B:(upd L y (BE ob y C)) y=some (BE ob y C):=AF;generalize upd L y _=G3 at*
   show⟨y,C,ob,z,rfl,B,Q,hm,λH' s3=>?_⟩;show Jy ?_;ext;exact q _ _ ((o.trans I).trans s3) J
 ·have e:x= .number:=by cases x<;>first|rfl|exact absurd h nv
  subst e;show⟨r,b,rfl,k1,k4,M,λG o=>?_⟩;ext
  cases c:AQ r b with
  |false=>
   refine ifp rfl ?_;ext;exact q _ _ o (.numNoL c)
  |true=>
   refine ifq rfl ?_;exact t _ o λ_=>c
 ·subst e;exact absurd h nv
theorem OV:Am P w K mg base (k+6) "_law_question" ["pool","k","row"] (spQuest7):=FnA.uE (T.f.at 73) (scN ["pool","k","row","head","many","some","other","at","bent"]) λnd H j h=>by
 obtain⟨p,M,a,rfl,po,k1,k4,ha,q⟩:=h;have hu:=j.units0;have hu2:=BC j;have hl:=An ha;refine⟨_,(AD (AO 3 (AH K (Aa (AA (pxt [114,105,103,104,116]) (AA (pxt [109,97,121]) (AA (pxt [109,97,110,121]) (AA (pxt [110,116,104]) (AA (pxt [110,117,109,98,101,114]) (AA (pxt [115,117,114,101]) (AA (pxt [102,101,119,101,115,116]) (AA (pxt [109,111,114,101]) (AA (pxt [115,104,111,119]) AB)))))))))) (AM (Ae T) j (AA (pv 0) (AA AC AB))))) (AD (AO 4 (Ac (GC T) j Bp (AA (pv 1) (AA (pv 2) AB)))) (AD (AV (AR (Ag K hu) (pv 3) (pxt [110,116,104])) (AD (AO 5 (Aa (AA AC (AA (AG Ml (pv 4) AC) (AA (pv 4) (AA (AM (Ae T) j (AA (pv 0) (AA (AG AN (pv 4) AC) AB))) (AA AC (AA (AM (Ae T) j (AA (pv 0) (AA (AG Mm AC AC) AB))) AB)))))))) (AE (AK (BM (AA (pv 3) (AA (A5 Cc rfl (T.N 14) nj (AA (Aj (GW rfl) rfl (T.N 10) PyProof.Rows.boot_min (AA AC (AA (Aj (KP rfl) rfl (T.N 9) PyProof.Rows.boot_max (AA AC (AA (AH K (pv 5) (AM (Ae T) j (AA (pv 0) (AA AC AB)))) AB))) AB))) AB)) AB)))))) AW) (AD (AV (AR (BN K hu) (pv 3) (pxt [110,117,109,98,101,114])) (AE (AK (BM (AA (pv 3) (AA (pxt []) AB))))) AW) (AD (AV (PW.pt (BS (AR (Ag K hu) (pv 4) AC) (Bc (AR (Ag K hu) (AM (Ae T) j (AA (pv 0) (AA AC AB))) AC)))) (AE (AK (BM (AA (pv 3) (AA (AH K (Aa (AA (pv 2) (AA (pxt []) (AA (AG AN (pv 2) (pxt [40,41])) (AA (Aw (A0 K) (pv 2) Az (Ay (Bf BZ AC))) (AA (pxt [40,120,41]) (AA (pxt [63]) AB))))))) (AM (Ae T) j (AA (pv 0) (AA AC AB)))) AB))))) AW) (AD (AO 6 (Ac (F6 T) j Bp (AA (pv 1) (AA (pv 2) (AA (AM (Ae T) j (AA (pv 0) (AA (pv 4) AB))) AB))))) (AD (AO 7 (AM (Ae T) j (AA (pv 0) (AA (AG AN (Al K (T.N 7) (AA (pv 6) AB)) AC) AB)))) (AD (AO 8 (AG AN (AG AN (Aw (A0 K) (pv 6) Az (Ay (pv 7))) (AH K (AM (F8 T) j (AA (pv 1) AB)) (AM (Ae T) j (AA (pv 0) (AA (AG BX AC (pv 1)) AB))))) (Aw (A0 K) (pv 6) (Ay (AG AN (pv 7) AC)) Az))) (AE (AK (BM (AA (pv 3) (AA (AH K (Aa (AA (pv 6) (AA (pv 6) (AA (pv 8) AB)))) (AM (Ae T) j (AA (pv 0) (AA AC AB)))) AB))))))))))))),?_⟩;show⟨small (n:=9) nv,λy hy=>?_⟩;have s0:=AJ hy (.lst [tx [114,105,103,104,116],tx [109,97,121],tx [109,97,110,121],tx [110,116,104],tx [110,117,109,98,101,114],tx [115,117,114,101],tx [102,101,119,101,115,116],tx [109,111,114,101],tx [115,104,111,119]]);have g0:=AF (H:=H) (a:=y) (o:= .lst [tx [114,105,103,104,116],tx [109,97,121],tx [109,97,110,121],tx [110,116,104],tx [110,117,109,98,101,114],tx [115,117,114,101],tx [102,101,119,101,115,116],tx [109,111,114,101],tx [115,104,111,119]]);have n0:=po.ne hy;have p0:=po.same s0;have u0:=SameBut1.of (p:=p) s0;generalize upd H y _=H0 at*
 show Ad p0 nv nv (λr1 H1 r10 r11 p1 s1=>?_);obtain⟨dd,hq,hd⟩:=XS r10 r11;refine AL (SqL.of (s1 _ _ g0 n0)) hd ?_;have u1:=u0.trans s1;clear s0 s1 g0 p0 u0 hd;show .inl (Gp k1 k4 ha (λH2 s2=>?_));have Z:=p1.same s2;have Y:=u1.trans (SameBut1.of s2);clear s2 p1 u1;obtain⟨c0,c5⟩:=EG (k:=M.toNat) (a:=a) nA hl;ext
 by_cases e1:dd= .nth
 ·subst e1;refine ifp nv ?_;show Ad Z nA nA (λr2 H3 r20 r21 Q s3=>?_);show Ad Q nv nv (λr3 H4 r30 r31 p4 s4=>?_);have u4:=(Y.trans s3).trans s4;show⟨small (n:=6) nv,λz R=>?_⟩;have J:=AJ R (.lst [.int 0, .int (zQ2 M.toNat a-1), .int (zQ2 M.toNat a), .int r2, .int 999999999, .int r3]);show Ad (p4.same J) nv nv (λr H6 r60 r61 U S=>?_);have u6:=(u4.trans (SameBut1.of J)).trans S;have g6:=S _ _ AF (p4.ne R);obtain⟨i,ei⟩:∃i:Int,atI [V.int 0,V.int (zQ2 M.toNat a-1),V.int (zQ2 M.toNat a),V.int r2,V.int 999999999,V.int r3] r=some (.int i):=by
   have:r=0\/r=1\/r=2\/r=3\/r=4\/r=5:=by lia
   rcases this with rfl|rfl|rfl|rfl|rfl|rfl<;>exact⟨_,rfl⟩
  refine AL (SqL.of g6) ei ?_;clear J S g6 ei u4 Q p4 s3 s4;ext;obtain⟨n,en,hn⟩:∃n:Nat,(if(if i>0 then i else 0)<999999999 then(if i>0 then i else 0)else 999999999)=(n:Int)/\n<10^9:=⟨((if(if i>0 then i else 0)<999999999 then(if i>0 then i else 0)else 999999999):Int).toNat,by split<;>split<;>lia,by split<;>split<;>lia⟩;rw[en];refine Ci (Nat.lt_trans hn nB) ?_;show⟨small (n:=2) nv,λL x=>?_⟩;have B:=AJ x (.tup [tx D15.nth.word,tx (AX n)]);exact q L .nth n [] _ (u6.free1 U x) (U.same B) (u6.trans (SameBut1.of B)) rfl hn nv (λ_ z=>nomatch z) AF
 refine ifq (Re e1) ?_;ext
 by_cases e2:dd= .number
 rotate_left
 ·refine ifp (by rw[Rc e2];rfl) ?_;show⟨small (n:=2) nv,λL x=>?_⟩;have B:=AJ x (.tup [tx dd.word,tx []]);exact q L dd 0 [] _ (Y.free1 Z x) (Z.same B) (Y.trans (SameBut1.of B)) hq nv nv (λ_ z=>nomatch z) (by rw[SV e1 e2];exact AF)
 subst e2;refine ifq nv ?_;show WK (co:=λG=>Po G p/\SameBut1 p H G) (λG ⟨Q,u3⟩=>?_) (λ_=>⟨Z,Y⟩) (λc1 t=>?_)
 ·show⟨small (n:=6) nv,λz R=>?_⟩;have J:=AJ R (.lst [tx a,tx [],tx (a++[40,41]),tx (Ap a none (some (-1))),tx [40,120,41],tx [63]]);show Ad (Q.same J) nv nv (λr H6 r60 r61 U S=>?_);have g6:=S _ _ AF (Q.ne R);have u6:=(u3.trans (SameBut1.of J)).trans S;have hm:∀c∈a,c∈sgn 4\/c=120:=λc I=> .inl (Ib k4 (GV ha c I));have hcut:(Ap a none (some (-1))).length<=40/\∀c∈Ap a none (some (-1)),c∈a:=⟨by have:=Um a none (some (-1));lia,λc h=>Ul h⟩;obtain⟨b,eb,hb,X⟩:∃b,atI [tx a,tx [],tx (a++[40,41]),tx (Ap a none (some (-1))),tx [40,120,41],tx [63]] r=some (tx b)/\b.length<=50/\∀c∈b,c∈sgn 4\/c=120:=by
   have:r=0\/r=1\/r=2\/r=3\/r=4\/r=5:=by lia
   rcases this with rfl|rfl|rfl|rfl|rfl|rfl
   ·exact⟨_,rfl,by lia,hm⟩
   ·exact⟨_,rfl,by decide,λ_ z=>nomatch z⟩
   ·exact⟨_,rfl,by rw[aG];show _+2<=_;lia,λc I=>(dW.mp I).elim (hm c) λz=> .inl ((show∀c∈[40,41],c∈sgn 4 by decide) c z)⟩
   ·exact⟨_,rfl,by lia,λc I=>hm c (hcut.2 c I)⟩
   ·exact⟨_,rfl,by decide,by decide⟩
   ·exact⟨_,rfl,by decide,by decide⟩
  refine AL (SqL.of g6) eb ?_;show⟨small (n:=2) nv,λL x=>?_⟩;have B:=AJ x (.tup [tx D15.number.word,tx b]);exact q L .number 0 b _ (u6.free1 U x) (U.same B) (u6.trans (SameBut1.of B)) rfl nv hb X AF
 ·have c1:=of_decide_eq_false c1;show Ad Z nv nv (λr2 H3 r20 r21 Q s3=>?_);show ifd (λhr2=>?_) (λhr2=>?_)
  ·exact t _ ⟨Q,Y.trans s3⟩
  ·show Ad Q nA nA (λr4 H4 r40 r41 p4 s4=>?_);refine⟨by rfl,Gm k1 k4 ha r40 r41 (λbs H5 J nf hb=>?_)⟩;ext;have bl:(brt bs).length<=40:=by unfold brt;rw[ax];lia
   have p5:=p4.same J;refine MY (small nA) ?_;show Ad p5 nA nA (λat0 H6 a0 a1 U S=>?_);show GE k1 k4 ?_;have sl:=HL k1 k4;show Ad U nA nA (λr7 H7 r70 r71 p7 s7=>?_);obtain⟨d,ed,hd⟩:=Ee (l:=sgb M) (i:=r7) r70 (by rw[sl];lia);show BO (small nA) ed ?_;obtain⟨at',rfl⟩:∃at':Nat,at0=at':=⟨at0.toNat,by lia⟩;have ea:((at':Int)+1)=((at'+1:Nat):Int):=by lia
   rw[Be _ nA,d0];have lt1:((brt bs).take at').length<=40:=by rw[cc];lia
   have lt2:((brt bs).drop (at'+1)).length<=40:=by rw[List.length_drop];lia
   refine BD (small (by rw[f9];lia)) ?_;ext;rw[ea,EE];refine BD (small (by rw[aG,f9];lia)) ?_;ext;have bm:∀c∈brt bs,c∈sgn 4\/c=120:=λc I=> .inl (by
    unfold brt at I;obtain⟨b,hbs,rfl⟩:=List.mem_map.mp I;have e:∀b,b<8->brs.getD b 0∈sgn 4:=by decide
    by_cases hb8:b<8
    ·exact e b hb8
    ·have:=(NF.fl (k:=M.toNat) nA hl nA (by intro o ho;cases ho) r40 (show r4<W M.toNat a 0 []from r41) nf).lt b hbs;lia)
   refine⟨small (n:=3) nv,λz R=>?_⟩;have s8:=AJ R (.lst [tx (brt bs),tx (brt bs),tx ((brt bs).take at'++[d]++(brt bs).drop (at'+1))]);show Ad (p7.same s8) nv nv (λr9 H9 r90 r91 p9 s9=>?_);have g9:=s9 _ _ AF (p7.ne R);have u9:=(((((Y.trans s3).trans s4).trans (SameBut1.of J)).trans S).trans s7).trans ((SameBut1.of s8).trans s9);obtain⟨b,eb,hb,X⟩:∃b,atI [tx (brt bs),tx (brt bs),tx ((brt bs).take at'++[d]++(brt bs).drop (at'+1))] r9=some (tx b)/\b.length<=50/\∀c∈b,c∈sgn 4\/c=120:=by
    have:r9=0\/r9=1\/r9=2:=by lia
    rcases this with rfl|rfl|rfl
    ·exact⟨_,rfl,by lia,bm⟩
    ·exact⟨_,rfl,by lia,bm⟩
    ·refine⟨_,rfl,by simp only[aG,cc,List.length_drop,f9];lia,λc I=>?_⟩;simp only[dW,aV]at I;rcases I with(z|z)|z
     ·exact bm c (jG z)
     ·rw[z];exact .inl (Ib k4 (HK hd))
     ·exact bm c (List.mem_of_mem_drop z)
   refine AL (SqL.of g9) eb ?_;show⟨small (n:=2) nv,λL x=>?_⟩;have B:=AJ x (.tup [tx D15.number.word,tx b]);exact q L .number 0 b _ (u9.free1 p9 x) (p9.same B) (u9.trans (SameBut1.of B)) rfl nv hb X AF
theorem V5{f:Addr}(F:Fun K "law" "law" (top 119) f fd):FnOk P w K mg base CX0 (k+11) f fd ["script"] (Ln ["script"] (spLaw K)):=Xy F (scN ["script","k","pool","kinds","names","most","rows","desk","words","turn","at","head","more","row","due","gone","heads","asked"]) @λ_ _ _ _ s _ _ _ nd H Q h=>by
 obtain⟨sa,ms,rfl,hsc,hms,q⟩:=h;have hu:=Q.units0;have hu2:=BC Q;refine⟨_,(AD (A9 nh rfl (CA rfl (T.N 11) (AA (Aj (KP rfl) rfl (T.N 9) PyProof.Rows.boot_max (AA AC (AA (Aj (GW rfl) rfl (T.N 10) PyProof.Rows.boot_min (AA AC (AA (Al K (T.N 7) (AA (pv 0) AB)) AB))) AB))) AB)) (Ah 1) (AD (AO 2 (AM (PQ T) Q (AA (pv 0) (AA (pv 1) AB)))) (AD (AO 3 (AG AN AC (AM (Ae T) Q (AA (pv 2) (AA AC AB))))) (AD (AO 4 (Aw (A0 K) (AM (Oy T) Q (AA (pv 2) AB)) Az (Ay AC))) (AD (AO 5 (AH K (Aa (AA AC (AA AC AB))) (A5 Cd rfl (T.N 5) ni (AA (EY (BH (Ag K hu) (AM (Ae T) Q (AA (pv 2) (AA AC AB))) AC) (DO (BH (Ag K hu) (pv 1) AC))) AB)))) (AD (AO 6 (Aa (AA (AM (GA T) Q (AA (pv 2) (AA (pv 3) (AA AC AB)))) (AA (AM (GA T) Q (AA (pv 2) (AA (pv 3) (AA (pv 5) AB)))) (AA (AM (GA T) Q (AA (pv 2) (AA (pv 3) (AA AC AB)))) AB))))) (AD (CM (i:=7) nd rfl (Or.inr rfl) (UB (OT T) Q T.E.c)) (AD (AO 8 (AG AN (Aa (AA (AG AN (pxt [107,105,110,100,115,32]) (A5 Cc rfl (T.N 14) nj (AA (pv 3) AB))) AB)) (A1 (own:=["name","row"]) (sel:=[]) (Au (osc:=(AU (top 119))) (N:=["script","k","pool","kinds","names","most","rows","desk","words","turn","at","head","more","row","due","gone","heads","asked"]) nB) rfl (EL K rfl (T.N 16) (AA (pv 4) (AA (pv 6) AB))) (λ_ _ _ _ _=>(By (n:=2) K rfl (As (Af (i:=0) (show(["name","row"]:List Str).Nodup from by decide +kernel) rfl (kP rfl)) (As (Af (i:=1) (show(["name","row"]:List Str).Nodup from by decide +kernel) rfl (kP rfl)) Bm)))) (Ea (CK BY (EO BY CQ) (Ak nv) (CK BY CQ (Ak nv) Eb))) (λ_ _ _ _ _=>A2) (λ_ _ _ _ _=>(AG AN (AG AN (AG AN (pxt [114,111,119,32]) (pv 0)) (pxt [32])) (pv 1)))))) (AD (AV (AR (BN K hu) (A1 (own:=["one"]) (sel:=[7]) (Au (osc:=(AU (top 119))) (N:=["script","k","pool","kinds","names","most","rows","desk","words","turn","at","head","more","row","due","gone","heads","asked"]) nB) rfl (Bx K (pv 8)) (λ_ _ _ _ _=>(Af (i:=0) (show(["one","desk"]:List Str).Nodup from by decide +kernel) rfl (kP rfl))) (Ak nv) (λ_ _ _ _ _=>EK (AR (BN K hu) (AM (DZ T) Q (AA (pv 1) (AA (pv 0) AB))) (pxt [111,107]))) (λ_ _ _ _ _=>(pv 0))) (Aa AB)) (AE (AK B0)) AW) (AD (A9 nh rfl (CA rfl (T.N 11) (AA AC AB)) (Ah 9) (AD (AO 10 (AM (Ae T) Q (AA (pv 2) (AA AC AB)))) (AD (Bo (Ac (OV T) Q Bp (AA (pv 2) (AA (pv 3) (AA (AH K (pv 6) (pv 10)) AB)))) (By (n:=2) K rfl (As (Ah 11) (As (Ah 12) Bm)))) (AD (AV (PW.pt (Cj (AR CF (pv 9) AC) (Cj (AR CF (Al K (T.N 7) (AA (AH K (pv 6) (pv 10)) AB)) AC) (C0 (AR (Ck K) (pv 11) (Aa (AA (pxt [115,117,114,101]) (AA (pxt [102,101,119,101,115,116]) (AA (pxt [110,116,104]) (AA (pxt [110,117,109,98,101,114]) AB))))) nE))))) (AE (Bo (BM (AA (pxt [109,97,110,121]) (AA (pxt []) AB))) (By (n:=2) K rfl (As (Ah 11) (As (Ah 12) Bm))))) AW) (AD (AO 13 (AG AN (AG AN (pv 11) (pxt [32])) (AH K (pv 4) (pv 10)))) (AD (AV (AR (Ck K) (pv 11) (Aa (AA (pxt [110,116,104]) (AA (pxt [110,117,109,98,101,114]) AB))) nE) (AE (AO 13 (AG AN (AG AN (pv 13) (pxt [32])) (pv 12)))) AW) (AD (AO 14 (AM (QC T) Q (AA (pv 3) (AA (pv 11) (AA (AH K (pv 6) (pv 10)) (AA (pv 12) AB)))))) (AE (AV (PW.pt (BS (AR (BN K hu) (AM (DZ T) Q (AA (pv 7) (AA (pv 13) AB))) (pv 14)) (Bc (AR (BN K hu) (AM (DZ T) Q (AA (pv 7) (AA (pv 13) AB))) (pv 14))))) (AE (AK B0)) AW))))))))) (AD (AV (AR (BN K hu) (A1 (own:=["name"]) (sel:=[7]) (Au (osc:=(AU (top 119))) (N:=["script","k","pool","kinds","names","most","rows","desk","words","turn","at","head","more","row","due","gone","heads","asked"]) nB) rfl (Bx K (pv 4)) (λ_ _ _ _ _=>(Af (i:=0) (show(["name","desk"]:List Str).Nodup from by decide +kernel) rfl (kP rfl))) (Ak nv) (λ_ _ _ _ _=>A2) (λ_ _ _ _ _=>(AM (DZ T) Q (AA (pv 1) (AA (AG AN (pxt [115,104,111,119,32]) (pv 0)) AB))))) (A1 (own:=["row"]) (sel:=[]) (Au (osc:=(AU (top 119))) (N:=["script","k","pool","kinds","names","most","rows","desk","words","turn","at","head","more","row","due","gone","heads","asked"]) nB) rfl (Bx K (pv 6)) (λ_ _ _ _ _=>(Af (i:=0) (show(["row"]:List Str).Nodup from by decide +kernel) rfl (kP rfl))) (Ak nv) (λ_ _ _ _ _=>A2) (λ_ _ _ _ _=>(AM (D3 T) Q (AA (pv 0) AB))))) (AE (AK B0)) AW) (AD (CM (i:=15) nd rfl (Or.inr rfl) (AH K (pv 4) (AM (Ae T) Q (AA (pv 2) (AA AC AB))))) (AD (AV (AR (BN K hu) (AM (DZ T) Q (AA (pv 7) (AA (AG AN (pxt [100,114,111,112,32]) (pv 15)) AB))) (pxt [111,107])) (AE (AK B0)) AW) (AD (AO 16 (Aa (AA (pxt [114,105,103,104,116,32]) (AA (pxt [109,97,121,32]) (AA (pxt [109,97,110,121,32]) (AA (pxt [115,117,114,101,32]) (AA (pxt [102,101,119,101,115,116,32]) (AA (pxt [109,111,114,101,32]) (AA (pxt [115,104,111,119,32]) AB))))))))) (AD (AO 17 (AG AN (A1 (own:=["head"]) (sel:=[15]) (Au (osc:=(AU (top 119))) (N:=["script","k","pool","kinds","names","most","rows","desk","words","turn","at","head","more","row","due","gone","heads","asked"]) nB) rfl (Bx K (pv 16)) (λ_ _ _ _ _=>(Af (i:=0) (show(["head","gone"]:List Str).Nodup from by decide +kernel) rfl (kP rfl))) (Ak nv) (λ_ _ _ _ _=>A2) (λ_ _ _ _ _=>(AG AN (pv 0) (pv 1)))) (Aa (AA (AG AN (AG AN (pxt [110,116,104,32]) (pv 15)) (pxt [32,48])) (AA (AG AN (AG AN (pxt [110,117,109,98,101,114,32]) (pv 15)) (pxt [32,40,41])) AB))))) (AE (AV (AR (BN K hu) (A1 (own:=["one"]) (sel:=[7]) (Au (osc:=(AU (top 119))) (N:=["script","k","pool","kinds","names","most","rows","desk","words","turn","at","head","more","row","due","gone","heads","asked"]) nB) rfl (Bx K (pv 17)) (λ_ _ _ _ _=>(Af (i:=0) (show(["one","desk"]:List Str).Nodup from by decide +kernel) rfl (kP rfl))) (Ak nv) (λ_ _ _ _ _=>EK (AR (BN K hu) (AM (DZ T) Q (AA (pv 1) (AA (pv 0) AB))) (pxt [9,78,111,78,97,109,101]))) (λ_ _ _ _ _=>(pv 0))) (Aa AB)) (AE (AK B0)) AW))))))))))))))))) (AE (AK B0))),?_⟩;clear hu hu2 Q;simp only[Np];show BJ (.inl hsc) ?_;rw[ax];ext;have hm:∀x:Int,1<=(if(if x<3 then x else 3)>1 then if x<3 then x else 3 else 1)/\(if(if x<3 then x else 3)>1 then if x<3 then x else 3 else 1)<=3:=λx=>by
  split
  ·split<;>lia
  ·lia
 have hm:=hm (ms.length:Int);generalize(if(if(ms.length:Int)<3 then(ms.length:Int)else 3)>1 then if(ms.length:Int)<3 then(ms.length:Int)else 3 else 1)=m at*
 refine⟨m,rfl,by lia,by lia,?_⟩;obtain⟨m',rfl⟩:∃m':Nat,m=m':=⟨m.toNat,by lia⟩;refine FN (n:=m') (λi σ H'=>∃o1 o2 o3 o4 o5 o6 o7 o8 o9 o10 o11 o12 o13 Z o15 o16 o17,σ=[some (.ref sa),o1,o2,o3,o4,o5,o6,o7,o8,o9,o10,o11,o12,o13,Z,o15,o16,o17]/\Same H H') ⟨_,_,_,_,_,_,_,_,_,_,_,_,_,_,_,_,_,rfl,Same.refl H⟩ ?_ ?_
 rotate_left
 ·intro σ H9 z_;obtain⟨o1,o2,o3,o4,o5,o6,o7,o8,o9,o10,o11,o12,o13,Z,o15,o16,o17,rfl,s9⟩:=z_;ext;exact q _
 intro i σ H1 hi z_;obtain⟨o1,o2,o3,o4,o5,o6,o7,o8,o9,o10,o11,o12,o13,Z,o15,o16,o17,rfl,s1⟩:=z_;have hs1:=s1.seq hsc;show Qf hs1 nA nA (λp H2 hp s2 po2=>?_);have hs2:=s2.seq hs1;have sm2:=s1.trans s2;have fp:H p=none:=s1.free hp;clear s1 s2 hs1 hp;show Ad po2 nv nv (λk0 H3 k00 k01 po3 s3=>?_);have sm3:=SameBut1.fresh sm2 s3 fp;clear s3 sm2 po2;ext;obtain⟨M,ek,k1,k4⟩:∃M:Nat,1+k0=(M:Int)/\1<=M/\M<=4:=⟨(1+k0).toNat,by lia,by lia,by lia⟩;rw[ek];refine⟨p,rfl,po3,λL0 ns0 H4 hL0 po4 s4 gL0 hnm0 hnd0 h3 h10=>?_⟩;have sm4:=SameBut1.fresh sm3 s4 fp;clear s4 sm3 po3 hL0 ek k00 k01;show Eh (SqL.of gL0) (λL hL=>?_);have ec:Cw (ns0.map tx) none (some 3)=(ns0.take 3).map tx:=by
  rw[List.map_take];exact Be _ nv
 rw[ec];have hln:(ns0.take 3).length=3:=by rw[cc];lia
 have hnd:(ns0.take 3).Nodup:=hnd0.sublist (List.take_sublist _ _);have hnm:∀n∈ns0.take 3,Nm n:=λn h=>hnm0 n (jG h);have t5:=AJ hL (.lst ((ns0.take 3).map tx));have gL:=AF (H:=H4) (a:=L) (o:= .lst ((ns0.take 3).map tx));have nL:=po4.ne hL;have po5:=po4.same t5;have sm5:=sm4.trans t5;generalize ns0.take 3=ns at*
 generalize upd H4 L _=H5 at*
 clear t5 po4 sm4 gL0 h3 h10 hnm0 hnd0 ec;show⟨small (n:=2) nv,λz hz=>?_⟩;have t6:=AJ hz (.lst [V.int 16,V.int 40]);have gz:=AF (H:=H5) (a:=z) (o:= .lst [V.int 16,V.int 40]);have nz:=po5.ne hz;have gL6:=t6 _ _ gL;have po6:=po5.same t6;have sm6:=sm5.trans t6;generalize upd H5 z _=H6 at*
 clear t6 po5 sm5;show Ad po6 nv nv (λr4 H7 _ _ po7 s7=>?_);have sm7:=SameBut1.fresh sm6 s7 fp;have gz7:=s7 _ _ gz nz;have gL7:=s7 _ _ gL6 nL;clear s7 po6 sm6 gz gL6 hz;show Uu (λb=>?_) (λR' hR=>?_)
 rotate_left
 ·ext;exact hR _
 ext;obtain⟨mo,em,m1,m2⟩:∃mo:Int,atI [V.int 16,V.int 40] (if b=true then 1 else 0)=some (.int mo)/\1<=mo/\mo<=40:=by
  cases b
  ·exact⟨16,rfl,by decide,by decide⟩
  ·exact⟨40,rfl,by decide,by decide⟩
 refine AL (SqL.of gz7) em ?_;clear gz7 em;show GS po7 nA nA nv nv (λa0 H8 _ ra0 po8 s8=>?_);have sm8:=SameBut1.fresh sm7 s8 fp;have gL8:=s8 _ _ gL7 nL;clear s8 po7 sm7 gL7;show GS po8 nA nA m1 m2 (λa1 H9 _ ra1 po9 s9=>?_);have sm9:=SameBut1.fresh sm8 s9 fp;have gL9:=s9 _ _ gL8 nL;clear s9 po8 sm8 gL8;show GS po9 nA nA nv nv (λa2 H10 _ ra2 po10 s10=>?_);have sm10:=SameBut1.fresh sm9 s10 fp;have gL10:=s10 _ _ gL9 nL;clear s10 po9 sm9 gL9;show⟨small (n:=3) nv,λR hR=>?_⟩;obtain⟨J,ers,hrl,hrr⟩:∃J:List (List Nat),[tx a0,tx a1,tx a2]=J.map tx/\J.length=3/\∀a∈J,AQ M a=true:=⟨[a0,a1,a2],rfl,rfl,by
  intro a S;simp only[List.mem_cons,List.not_mem_nil,or_false]at S;rcases S with rfl|rfl|rfl
  ·exact ra0
  ·exact ra1
  ·exact ra2⟩
 rw[ers];have t11:=AJ hR (.lst (J.map tx));have gR11:=AF (H:=H10) (a:=R) (o:= .lst (J.map tx));have gL11:=t11 _ _ gL10;have po11:=po10.same t11;have sm11:=sm10.trans t11;have nR:=po10.ne hR;have hRH:H R=none:=sm10.free hR;generalize upd H10 R _=H11 at*
 clear t11 po10 sm10 gL10 ers ra0 ra1 ra2 m1 m2;ext;intro d dx hd hdx hne;show⟨d,dx,rfl,AF,λr0 H12 hr0 f2 dk2=>⟨rfl,?_⟩⟩;have w0:=W7.new sm11 po11 gL11 gR11 fp nL nR hd hdx hr0 f2 dk2;clear sm11 po11 gL11 gR11 hd hdx hr0 f2 dk2 hne hRH hR hL nz nL nR fp;show Ci (de k4 nB) ?_;ext;have hk1:=Cz 0 M nA;refine BD (small (by show 6+_<=1000;lia)) ?_;show⟨small (n:=1) nv,λl1 hl1=>?_⟩;have t13:=AJ hl1 (.lst [tx (jn [Cg,AX M])]);have g1:(upd H12 l1 (.lst [tx (jn [Cg,AX M])])) l1=_:=AF;have w1:=w0.same t13;rw[show [107,105,110,100,115,32]++AX M=jn [Cg,AX M]from rfl];generalize upd H12 l1 _=H13 at*
 clear w0 t13 hl1;show⟨.l L, .l R,_,_,rfl,SqL.of w1.gn,SqL.of w1.gr,?_⟩;refine Hc (xs:=ns.map tx) (ys:=J.map tx) (by rw[ax,ax,hln,hrl]) (λD i zs H'=>zs=((Cp ns J).take i).map tx/\Same H13 H') (λD i zs H' _ ⟨_,s⟩=>⟨SqL.of (s _ _ w1.gn),SqL.of (s _ _ w1.gr)⟩) (λD B=>⟨rfl,AJ B _⟩) (λD zs H' B I ⟨e,s⟩=>?_) ?_
 rotate_left
 ·rintro D i c dv T' zs Ha Hb B hc hdv hi I hzl ⟨e,s⟩ sb hT;obtain⟨n,hn,rfl⟩:=Df hc;obtain⟨a,S,rfl⟩:=Df hdv;have n1:=(hnm n (bV hn)).hi;have a1:=An (hrr a (bV S));refine DL (SqT.of hT) rfl ?_;show ifp rfl ?_;show Bj hi (small (by rw[ax,hln];decide)) I hzl ⟨?_,λb o z=>by rw[AI (AS z B)];exact sb _ _ (s _ _ z)⟩;rw[e,show [114,111,119,32]++n++[32]++a=jn [DU,n,a] by simp[jn,DU]];exact QX (Kq hn S)
 have hrl2:(Cp ns J).length=3:=by unfold Cp;rw[ax,List.length_zip,hln,hrl];rfl
 rw[ax,hln,dA (Nat.le_of_eq hrl2)]at e;subst e;refine DM (s _ _ g1) I (small (by rw[ax,hrl2];exact Nat.le_of_ble_eq_true rfl)) (λl3 hl3=>?_);have t14:=AJ hl3 (.lst ([tx (jn [Cg,AX M])]++(Cp ns J).map tx));have g3:(upd H' l3 (.lst ([tx (jn [Cg,AX M])]++(Cp ns J).map tx))) l3=some (.lst ((Fk M ns J).map tx)):=AF;have w2:=(w1.same s).same t14;generalize upd H' l3 _=H14 at*
 clear t14 w1 g1 s hl3 I B;show⟨l3,rfl,⟨_,SqL.of g3⟩,?_⟩;have h4:(Fk M ns J).length=4:=by unfold Fk;rw[aM,hrl2]
 have l3d:=w2.list g3;refine B5 (n:=4) (λD i ys G=>ys=[]/\G l3=some (.lst ((Fk M ns J).map tx))/\∃ (r:Addr) (k':Int) (kvs:Kv),W7 aE H p L R d r k' kvs (ns.map tx) (J.map tx) G/\(1<=i->k'=M/\kvs=kv7 (ns.take (i-1)) (J.take (i-1)))) (λD B=>⟨rfl,AJ B _ _ _ g3,r0,4,[],w2.same (AJ B _),λz=>absurd z nv⟩) (λD i ys G B hi I p=>⟨_,_,SqL.of p.2.1,ai (by rw[ax,h4];exact hi)⟩) (λD ys G B I X U=>⟨⟨_,SqL.of U.2.1,by rw[ax,h4];exact Nat.le_refl 4⟩,?_⟩) ?_
 rotate_left
 ·rintro D i ys G x G3 B hi I X ⟨rfl,gw,r,k',kvs,w,hk⟩ ⟨rfl,Y⟩;have Y:=Y _ (SqL.of gw);obtain⟨t,ht,rfl⟩:=Df Y;ext;have nD:=w.list I;have nl:=w.list gw
  cases i with
  |zero=>
   cases ht
   refine WA w.dk k1 k4 (λr' G' Q f dk=>?_);show ifq nv ?_;exact FA hi (f _ _ I (by simpa using nD.1)) X ⟨rfl,f _ _ gw (by simpa using nl.1),r',M,[],w.kinds Q f dk,λ_=>⟨rfl,rfl⟩⟩
  |succ i=>
   obtain⟨n,hn⟩:∃n,ns[i]? =some n:=⟨_,ai (show i<ns.length by lia)⟩;obtain⟨a,S⟩:∃a,J[i]? =some a:=⟨_,ai (show i<J.length by lia)⟩;have et:(Cp ns J)[i]? =some t:=ht;rw[Kq hn S]at et
   cases et
   obtain⟨rfl,rfl⟩:=hk nA;refine Xq w.dk (hnm n (bV hn)) nA nA (by show(((ns.take i).zip (J.take i)).map _).length<=100;rw[ax,List.length_zip,cc];lia) (hrr a (bV S)) (λG' f dk=>?_);show ifq nv ?_;exact FA hi (f _ _ I (by simpa using nD.2)) X ⟨rfl,f _ _ gw (by simpa using nl.2),r,M,_,w.put f dk,λ_=>⟨rfl,UW hnd hn S⟩⟩
 obtain⟨rfl,gw,r,k',kvs,w,hk⟩:=U;obtain⟨rfl,rfl⟩:=hk nv;rw[show 4-1=3 from rfl,dA (Nat.le_of_eq hln),dA (Nat.le_of_eq hrl)]at w;show⟨small (n:=0) nv,λz hz=>?_⟩;refine IJ (SqL.of (AJ hz _ _ _ I)) (SqL.of AF) rfl rfl ?_;have w3:=w.same (AJ hz (.lst []));generalize upd G z _=G3 at*
 clear w gw hz I X B hk w2 g3 l3d h4 hrl2;show ifq rfl ?_;show⟨10,rfl,by decide,by decide,?_⟩;refine FN (n:=10) (λj σ G=>∃o9 o10 o11 o12 o13 Z o15 o16 o17,σ=[some (.ref sa),some (.int (0+(i:Int))),some (.ref p),some (.int M),some (.ref L),some (.int mo),some (.ref R),some (.ref d),some (.ref l3),o9,o10,o11,o12,o13,Z,o15,o16,o17]/\W7 aE H p L R d r M (kv7 ns J) (ns.map tx) (J.map tx) G) ⟨_,_,_,_,_,_,_,_,_,rfl,w3⟩ ?_ ?_
 ·clear w3;intro j σ G4 hj z_;obtain⟨o9,o10,o11,o12,o13,Z,o15,o16,o17,rfl,w4⟩:=z_;show Ad w4.po nv nv (λr1 G5 r10 r11 po5 s5=>?_);have w5:=w4.draw s5 po5;clear w4 s5 po5;obtain⟨x,a,rfl,S,ea⟩:=M5 (l:=J) r10 nA;obtain⟨n,hn⟩:∃n,ns[x]? =some n:=⟨_,ai (show x<ns.length by lia)⟩;have N:=hnm n (bV hn);have ra:=hrr a (bV S);have hv:=FS hnd hn S;show AL (SqL.of w5.gr) ea ?_;show⟨p,M,a,rfl,w5.po,by lia,by lia,ra,λT' dd0 nn0 b0 G6 _ po6 s6 hq0 hnn0 hb0 hbs gT=>?_⟩;have w6:=w5.draw s6 po6;clear w5 s6 po6;refine DL (SqT.of gT) rfl ?_;walk_at"s";walk_at"s";walk_at"s";walk_at"s";walk_at"s"
  dsimp only
  refine II ?_;refine NG (λσ' G=>∃ (dd:D15) (nn:Nat) (b:List Nat),σ'=[some (.ref sa),some (.int (0+(i:Int))),some (.ref p),some (.int M),some (.ref L),some (.int mo),some (.ref R),some (.ref d),some (.ref l3),some (.int (0+(j:Int))),some (.int x),some (tx dd.word),some (tx (mo7 nn b dd)),o13,Z,o15,o16,o17]/\W7 aE H p L R d r M (kv7 ns J) (ns.map tx) (J.map tx) G/\q7 dd=true/\nn<10^9/\b.length<=50) ?_ (λrest=>?_)
  rotate_left
  ·ext;have stay:=rest _ _ ⟨dd0,nn0,b0,rfl,w6,hq0,hnn0,hb0⟩;refine ifd (λ_=>?_) (λ_=>?_)
   rotate_left
   ·exact ifq rfl stay
   show AL (SqL.of w6.gr) ea ?_;have al:=An ra;show ifd (λ_=>?_) (λ_=>?_)
   rotate_left
   ·exact ifq rfl stay
   show⟨small (n:=4) nv,λz hz=>?_⟩;refine Ej (.inl (SqL.of AF)) rfl rfl ?_;have w7:=w6.same (AJ hz (.lst [tx [115,117,114,101],tx [102,101,119,101,115,116],tx [110,116,104],tx [110,117,109,98,101,114]]));generalize upd G6 z _=G7 at*
   show Ij (λ_=>?_) (λ_=>?_)
   rotate_left
   ·exact rest _ _ ⟨dd0,nn0,b0,rfl,w7,hq0,hnn0,hb0⟩
   show⟨small (n:=2) nv,λy I=>?_⟩;have w8:=w7.same (AJ I (.tup [tx [109,97,110,121],tx []]));refine DL (SqT.of AF) rfl ?_;walk_at"s";walk_at"s";walk_at"s";walk_at"s";walk_at"s";exact rest _ _ ⟨.many,nn0,[],rfl,w8,rfl,hnn0,by decide⟩
  intro σ' G z_;obtain⟨dd,nn,b,rfl,w,hq,hnn,hb⟩:=z_
  dsimp only
  ext;clear w6 hnn0 hq0 hb0 gT hbs;refine BD (small (by have:dd.word.length<=6:=(by cases dd<;>decide);show _+1<=1000;lia)) ?_;show AL (SqL.of w.gn) (Hf tx (AT hn)) ?_;ext;have n1:=N.hi;have w1:=GY dd;have m1:=Ly (dd:=dd) hnn hb;refine BD (small (by rw[aG];show _+1+_<=1000;lia)) ?_;refine II ?_;refine NG (λσ' G=>σ'=[some (.ref sa),some (.int (0+(i:Int))),some (.ref p),some (.int M),some (.ref L),some (.int mo),some (.ref R),some (.ref d),some (.ref l3),some (.int (0+(j:Int))),some (.int x),some (tx dd.word),some (tx (mo7 nn b dd)),some (tx (jn (dd.word::ar7 n nn b dd))),Z,o15,o16,o17]/\W7 aE H p L R d r M (kv7 ns J) (ns.map tx) (J.map tx) G) ?_ (λrest=>?_)
  rotate_left
  ·show⟨small (n:=2) nv,λz hz=>?_⟩;refine Ej (.inl (SqL.of AF)) rfl rfl ?_;have w7:=w.same (AJ hz (.lst [tx [110,116,104],tx [110,117,109,98,101,114]]));generalize upd G z _=G7 at*
   rw[in7];show ifj _ rest (λe N hN=>?_) (λe=>⟨by rw[<-Ii e];rfl,w7⟩);ext;exact⟨by rw[<-N0 e];rfl,w7⟩
  rintro σ' G ⟨rfl,w⟩
  dsimp only
  show AL (SqL.of w.gr) ea ?_;show⟨M,dd,a,nn,b,rfl,by lia,by lia,ra,hq,hnn,by lia,λt G8 s8 du=>?_⟩;have w8:=w.same s8;clear w s8;have al:=Hh (dd:=dd) (b:=b) n1 hnn hb;have hkn:=IQ (b:=b) hq N hnn;show Ic w8.dk nA nA hkn hq al hnn nA hv ra (λt' G9 s9 du'=>?_);obtain rfl:=Due7.uniq nA nA (An ra) du' du;have w9:=w8.same s9;show ifq nC ?_;show Ic w9.dk nA nA hkn hq al hnn nA hv ra (λt' G10 s10 du'=>?_);obtain rfl:=Due7.uniq nA nA (An ra) du' du;show ifq nC ?_;ext;exact⟨_,_,_,_,_,_,_,_,_,rfl,w9.same s10⟩
 intro σ G z_;obtain⟨o9,o10,o11,o12,o13,Z,o15,o16,o17,rfl,w⟩:=z_;show⟨L,rfl,⟨_,SqL.of w.gn⟩,?_⟩;have nl3:(ns.map tx).length=3:=by rw[ax,hln]
 have hsh:∀ (j:Nat) (a:List Nat),J[j]? =some a->(shw a).length<=40:=λj a S=>EI nv (An (hrr a (bV S)));refine B5 (n:=3) (λD j ys G'=>ys=((J.take j).map shw).map tx/\Same G G') (λD B=>⟨rfl,AJ B _⟩) (λD j ys G' B hj I U=>⟨_,_,SqL.of (U.2 _ _ w.gn),ai (by rw[nl3];exact hj)⟩) (λD ys G' B I X U=>⟨⟨_,SqL.of (U.2 _ _ w.gn),by rw[nl3];exact Nat.le_refl 3⟩,?_⟩) ?_
 rotate_left
 ·rintro D j ys G' v G3 B hj I X ⟨rfl,sG⟩ ⟨rfl,Y⟩;have Y:=Y _ (SqL.of (sG _ _ w.gn));obtain⟨n,hn,rfl⟩:=Df Y;obtain⟨a,S⟩:∃a,J[j]? =some a:=⟨_,ai (show j<J.length by lia)⟩;have N:=hnm n (bV hn);have n1:=N.hi;have ra:=hrr a (bV S);show ifp rfl ?_;ext;have w2:=w.same sG;have et:[115,104,111,119,32]++n=jn (D15.word .show::ar7 n 0 [] .show):=rfl;rw[et];refine Ic w2.dk nA nA (IQ rfl N nv) rfl (Hh n1 nv nv) nv nv (FS hnd hn S) ra (λt' G9 s9 du'=>?_)
  cases du'
  refine Bj hj (small (n:=3) nv) (s9 _ _ I) X ⟨?_,λb o z=>by rw[AI (AS z B)];exact s9 _ _ (sG _ _ z)⟩;rw[List.take_succ,S,bv,bv];rfl
 obtain⟨e1,sG⟩:=U;rw[dA (Nat.le_of_eq hrl)]at e1;subst e1;have w2:=w.same sG;have gD:=I;clear w sG B X I;show⟨R,rfl,⟨_,SqL.of w2.gr⟩,?_⟩;have rl3:(J.map tx).length=3:=by rw[ax,hrl]
 refine B5 (n:=3) (λD j ys G2=>ys=((J.take j).map shw).map tx/\Same G' G2) (λD B=>⟨rfl,AJ B _⟩) (λD j ys G2 B hj I U=>⟨_,_,SqL.of (U.2 _ _ w2.gr),ai (by rw[rl3];exact hj)⟩) (λD2 ys G2 B I X U=>⟨⟨_,SqL.of (U.2 _ _ w2.gr),by rw[rl3];exact Nat.le_refl 3⟩,?_⟩) ?_
 rotate_left
 ·rintro D j ys G2 v G3 B hj I X ⟨rfl,sG⟩ ⟨rfl,Y⟩;have Y:=Y _ (SqL.of (sG _ _ w2.gr));obtain⟨a,S,rfl⟩:=Df Y;show ifp rfl ?_;show⟨a,rfl,?_⟩;refine Bj hj (small (n:=3) nv) I X ⟨?_,λb o z=>by rw[AI (AS z B)];exact sG _ _ z⟩;rw[List.take_succ,S,bv,bv];rfl
 obtain⟨e1,s2⟩:=U;rw[dA (Nat.le_of_eq hrl)]at e1;subst e1;refine IJ (SqL.of (s2 _ _ gD)) (SqL.of I) (Gu _) (Gu _) ?_;rw[KL (Gu _)];have w3:=w2.same s2;clear w2 s2 gD I B X hsh nl3 rl3;show ifq rfl ?_;show Ad w3.po nv nv (λr1 G5 r10 r11 po5 s5=>?_);have w4:=w3.draw s5 po5;clear w3 s5 po5;obtain⟨x,n,rfl,hn,en⟩:=M5 (l:=ns) r10 nA;obtain⟨a,S⟩:∃a,J[x]? =some a:=⟨_,ai (show x<J.length by lia)⟩;have N:=hnm n (bV hn);have n1:=N.hi;have hv:=FS hnd hn S;show AL (SqL.of w4.gn) en ?_;ext;have et:[100,114,111,112,32]++n=jn [Fh,n]:=rfl;rw[et];refine XX w4.dk N hv (λG6 f dk=>?_);have w5:=w4.put f dk;have hv5:=Sl (kv7 ns J) (kyT n);clear w4 f dk hv et en;show ifq nv ?_;show⟨small (n:=7) nv,λX hhl=>?_⟩;have gh:=AF (H:=G6) (a:=X) (o:= .lst [tx [114,105,103,104,116,32],tx [109,97,121,32],tx [109,97,110,121,32],tx [115,117,114,101,32],tx [102,101,119,101,115,116,32],tx [109,111,114,101,32],tx [115,104,111,119,32]]);have w6:=w5.same (AJ hhl (.lst [tx [114,105,103,104,116,32],tx [109,97,121,32],tx [109,97,110,121,32],tx [115,117,114,101,32],tx [102,101,119,101,115,116,32],tx [109,111,114,101,32],tx [115,104,111,119,32]]));generalize upd G6 X _=G7 at*
 clear w5 hhl;show⟨X,rfl,⟨_,SqL.of gh⟩,?_⟩;refine B5 (n:=7) (λD j ys G2=>ys=((dds7.take j).map (qst n)).map tx/\Same G7 G2) (λD B=>⟨rfl,AJ B _⟩) (λD j ys G2 B hj I U=>⟨_,_,SqL.of (U.2 _ _ gh),ai hj⟩) (λD2 ys G2 B I _ U=>⟨⟨_,SqL.of (U.2 _ _ gh),Nat.le_refl 7⟩,?_⟩) ?_
 rotate_left
 ·rintro D j ys G2 v G3 B hj I X ⟨rfl,sG⟩ ⟨rfl,Y⟩;have Y:=Y _ (SqL.of (sG _ _ gh));obtain⟨dd,hdd,hm,ht⟩:=WW j hj;rw[ht]at Y
  cases Y
  have w1:=GY dd;show ifp rfl ?_;show Bj hj (small (n:=7) nv) I X ⟨?_,λb o z=>by rw[AI (AS z B)];exact sG _ _ z⟩;rw[List.take_succ,hdd,bv,bv,Ii (n:=0) (b:=[40,41]) hm];rfl
 obtain⟨e1,s2⟩:=U;subst e1;have w7:=w6.same s2;clear w6 s2 B gh;show⟨small (n:=2) nv,λl2 hl2=>?_⟩;rw[Ts];have t8:=AJ hl2 (.lst [tx (qst n .nth),tx (qst n .number)]);refine DM (t8 _ _ I) AF (small (by simp[dds7])) (λl9 hl9=>?_);have g9:(upd (upd G2 l2 (.lst [tx (qst n .nth),tx (qst n .number)])) l9 (.lst (((dds7.take 7).map (qst n)).map tx++[tx (qst n .nth),tx (qst n .number)]))) l9=some (.lst ((dds7.map (qst n)).map tx)):=AF;have w9:=(w7.same t8).same (AJ hl9 (.lst (((dds7.take 7).map (qst n)).map tx++[tx (qst n .nth),tx (qst n .number)])));generalize upd (upd G2 l2 _) l9 _=G9 at*
 clear w7 t8 hl9 hl2 I;show⟨l9,rfl,⟨_,SqL.of g9⟩,?_⟩;have hl9:((dds7.map (qst n)).map tx).length=9:=rfl;refine B5 (n:=9) (λD j ys G2=>ys=[]/\Same G9 G2) (λD B=>⟨rfl,AJ B _⟩) (λD j ys G2 B hj I U=>⟨_,_,SqL.of (U.2 _ _ g9),ai (by rw[hl9];exact hj)⟩) (λD2 ys G2 B I _ U=>⟨⟨_,SqL.of (U.2 _ _ g9),by rw[hl9];exact Nat.le_refl 9⟩,?_⟩) ?_
 rotate_left
 ·rintro D j ys G2 v G3 B hj I X ⟨rfl,sG⟩ ⟨rfl,Y⟩;have Y:=Y _ (SqL.of (sG _ _ g9));obtain⟨t,ht,rfl⟩:=Df Y;rw[am]at ht;obtain⟨dd,hdd,rfl⟩:=dz.mp ht;show Vk (w9.same sG).dk (WV dd (bV hdd)) N hv5 (λG4 s4=>?_);show ifq nv ?_;exact FA hj (s4 _ _ I) X ⟨rfl,sG.trans s4⟩
 obtain⟨rfl,s2⟩:=U;have w10:=w9.same s2;clear w9 s2 g9;show⟨small (n:=0) nv,λz hz=>?_⟩;refine IJ (SqL.of (AJ hz _ _ _ I)) (SqL.of AF) rfl rfl ?_;have w11:=w10.same (AJ hz (.lst []));ext;exact⟨_,_,_,_,_,_,_,_,_,_,_,_,_,_,_,_,_,rfl,w11.sm⟩
end
theorem fin{l:W.OpenLaw}{K:W.Frag}{fa aK x0 x1 x2 x3 x4 x5 x6 x7 x8 x9 x10 x11 aC aE aF aD:Addr}(d:mg "law"=some (.ref fa))(T:Txt l.prog w K mg aK ⟨x0,x1,x2,x3,x4,x5,x6,x7,x8,x9,x10,x11⟩ aC aE aF aD):∃fd:FuncData,(∀ (s:Shared) (v:Value),BindsTo s fd ⟨[v],[]⟩ [("script",v)])/\∀base:Heap,K.In base->base.Ns mainGlobals mg->FnOk l.prog w K mg base CX0 11 fa fd ["script"] (spLaw K):=
 let⟨fd,a,b⟩:=V8 (T.f.at 74) d (λ_ _ _ _ _ _ _ _=> .of_eq rfl) λ_ _ _ F=>V5 (k:=0) T F
 ⟨fd,a,λbase x y=>(b base x y).imp λvs H Q E h=>⟨by obtain⟨a,ns,rfl,_⟩:=h;rfl,h⟩⟩
theorem walk{l:W.OpenLaw}{d:DefRec}(e:l.most=some 63)(b:d.params.defaults=[])
 (i:∀ (w:World) (h:Heap),YP w h->(K w.params).In h)
 (F:∀ (w:World) (mg:Str->Option Value) (fa:Addr) (h:Heap),(K w.params).In h->h.Ns mainGlobals mg->mg d.name=some (.ref fa)->
   ∃fd:FuncData,(∀ (s:Shared) (u:Value),BindsTo s fd ⟨[u],[]⟩ [("script",u)])/\∀base:Heap,(K w.params).In base->base.Ns mainGlobals mg->FnOk l.prog w (K w.params) mg base CX0 11 fa fd ["script"] (spLaw (K w.params))):
 W.WalkO q loose XP YP l.row.toRowW d [] (λf vs=>PySem.call f vs):=
 L2.walk_of (n:=63) (k:=11) (x:="script") (CX:=λ_=>CX0) (sp:=λw=>spLaw (K w.params)) e nv b ⟨rfl,by decide,by decide,rfl⟩ i F (λ_ _ a ns j _ o=>⟨a,ns,rfl,o,j,λ_=>rfl⟩) λ_ _ _ _ _ z=>z
end Bk
namespace PySem.W.Fast
def tw14080338177424069410:=0
def tw17294646056625480483:=0
def tw10939689320981039491:=0
def tw579310240374866812:=0
def tw4279518927620611027:=0
def tw17643886408858303926:=0
def tw4328024647694822612:=0
def tw17361290777485510622:=0
def tw17682785724671862155:=0
def tw5791314727347331734:=0
def tw2844726434397524541:=0
def tw11961198896577032371:=0
def tw7994138450412607684:=0
def tw8393160944899022526:=0
def tw15594289936598162070:=0
def tw8234989983084460100:=0
def tw1966265868783337715:=0
def tw4826444897494105909:=0
def tw4207844135466723695:=0
def tw9813888658702821950:=0
def tw7737662747945720065:=0
def tw5184414268800341789:=0
def tw16536204633410944245:=0
def tw3052554663036285496:=0
def tw17546942829631998739:=0
def tw13799025920693242346:=0
def tw10688742710597853103:=0
def tw17642804377563226834:=0
def tw8217012301146389188:=0
def tw726659745756482473:=0
def tw1111581591149288128:=0
def tw9082048630638489560:=0
def tw14313316066735891840:=0
def tw13396506152432816892:=0
def tw8726709691217317497:=0
def tw2513881509681159947:=0
def tw7510592375957056469:=0
def tw6515384735154912677:=0
def tw6563351224446359813:=0
def tw8831279472637604094:=0
def tw1171882639225269152:=0
def tw4056207749260046499:=0
def tw14185771454613981619:=0
def tw455424980364280254:=0
def tw16576766192723907174:=0
def tw10681343859489469109:=0
def tw9086733576519627812:=0
def tw9134992022270877319:=0
def tw13048060809707111371:=0
def tw13308842058592699576:=0
def tw5067781685529976976:=0
def tw18253706751629879154:=0
def tw5400511154876854684:=0
def tw6092370121014533956:=0
def tw15151822944264372551:=0
def tw7631067802209782542:=0
def tw13901960103276472176:=0
def tw15932742117308483816:=0
def tw5413830958027995727:=0
def tw1979913997736167285:=0
def tw10060249590077545567:=0
def tw11220818800618564039:=0
def tw12916559374005315598:=0
def tw7330601627586237469:=0
def tw3295998741885800955:=0
def tw1989996397607529825:=0
def tw14983826744700816051:=0
def tw14069861606225629688:=0
def tw12216488172448774785:=0
def tw8630749668073440242:=0
def tw12893037165873895229:=0
def tw17901204024360040103:=0
def tw12990725085957264319:=0
def tw17462413424094350815:=0
def tw2256993990929523049:=0
def tw11222278645806003723:=0
def tw9647650192025209475:=0
def tw7620315319623724022:=0
def tw18042047327163716160:=0
def tw4054109117142938746:=0
def tw7433702537537756140:=0
def tw3523683603784550531:=0
def tw15339153005820035731:=0
def tw12785448357267054734:=0
def tw14211922370552330377:=0
def tw2296829123401794982:=0
def tw2991012816687753847:=0
def tw11287729959936395333:=0
def tw6694906097710055772:=0
def tw4643610272660462441:=0
def tw9199443152303788887:=0
def tw1053385110107063450:=0
def tw8256441800069053625:=0
def tw12318102856498010848:=0
def tw4054835769544595118:=0
def tw16333712405668260445:=0
def tw8826356285573682958:=0
def tw13918843600321972061:=0
def tw7449277124038855211:=0
def tw9118837499519239640:=0
def tw11989736280111196684:=0
def tw12568269944603043514:=0
def tw18168168440615596194:=0
def tw12004740535759386922:=0
def tw7174350357612429164:=0
def tw13252004807822158793:=0
def tw12865352842821549999:=0
def tw16010590810486397244:=0
def tw5452462355011702381:=0
def tw10691182868057515772:=0
def tw502770180013472679:=0
def tw8035337253814760136:=0
def tw8202366087625825377:=0
def tw12137947968075834781:=0
def tw5517676464698904930:=0
def tw1806496686739458082:=0
def tw10118192509870405634:=0
def tw16321939724813379453:=0
def tw6416230126093462017:=0
def tw8514392097169198345:=0
def tw6772297163605550081:=0
def tw3506860454168383059:=0
def tw13646845499801733606:=0
def tw8413854491797631229:=0
def tw13715650529879711096:=0
def tw11447622938638138337:=0
def tw196879968536045107:=0
def tw334666909240898430:=0
def tw12567682305143851284:=0
def tw5569282694708739241:=0
def tw18047018322715656399:=0
def tw7118402856975404732:=0
def tw17076943810631217412:=0
def tw12932504057011150842:=0
def tw2816809154117918883:=0
def tw9541150284415447605:=0
def tw13558335025127772854:=0
def tw5962441929825842202:=0
def tw11529676955599280652:=0
def tw13956219038607753379:=0
def tw7054656871234609744:=0
def tw3786965212763901745:=0
def tw4594311652776492481:=0
def tw16784173723419979648:=0
def tw868624555661770775:=0
def tw7772057240815500432:=0
def tw534951301284384281:=0
def tw5249311994568161377:=0
def tw2871403887073241238:=0
def tw15235475963443704716:=0
def tw6762153032028865084:=0
def tw2566854676818428632:=0
def tw3693949984998448328:=0
def tw10902246330313605761:=0
def tw1801723474076200121:=0
def tw6950392006290156032:=0
def tw17804071955435918511:=0
def tw14624307759558809823:=0
def tw2210883690593573583:=0
def tw9211011621292542107:=0
def tw14051171841316117858:=0
def tw18240771206071209116:=0
def tw3076933319996166144:=0
def tw17980182119738647797:=0
def tw15785017406819679606:=0
def tw12915116391946924882:=0
def tw10711057224456501990:=0
def tw3136171547031259135:=0
def tw9907335669444218951:=0
def tw6766835733397421993:=0
def tw1830670358938580931:=0
def tw3455151920433076971:=0
def tw4246242592612508206:=0
def tw9018720989851177203:=0
def tw17118826225673845961:=0
def tw18125687422757636868:=0
def tw8934887206475721456:=0
def tw15966247794987516019:=0
def tw5278294610172373879:=0
def tw12768920481265971962:=0
def tw16334228163710333219:=0
def tw8865304584160231346:=0
def tw6059751400816610205:=0
def tw10310624761267935177:=0
def tw12896519433921606894:=0
def tw11844678969396521343:=0
def tw12878651141826552022:=0
def tw4954731382577195882:=0
def tw5396228045508063600:=0
def tw17554548261174935381:=0
def tw12558171286497007108:=0
def tw6219577543648031717:=0
def tw51343968420751607:=0
def tw2315655525597598942:=0
def tw278264891746717573:=0
def tw1768043250306153323:=0
def tw9001705242604746661:=0
def tw16741628695568442179:=0
def tw12580784815098172073:=0
def tw3065252415238964035:=0
def tw18157732179226630866:=0
def tw294425980883792001:=0
def tw3260144610589698918:=0
def tw4172941671484462120:=0
def tw3193425411625655556:=0
def tw3436961163244467043:=0
def tw1025551648559842817:=0
def tw9551807254883891136:=0
def tw9765917365887215805:=0
def tw85408646651593987:=0
def tw17922660031148417648:=0
def tw10618905076998752348:=0
def tw11003415768407653649:=0
def tw7714183865870183062:=0
def tw4780474061973636112:=0
def tw8384676668299573421:=0
def tw2198907180801223527:=0
def tw1130535605641617601:=0
def tw18002612196615643790:=0
def tw14550867918110619300:=0
def tw17237657257280918715:=0
def tw1156816304312180194:=0
def tw17729184488155371887:=0
def tw17416997350730347347:=0
def tw17525870097491446914:=0
def tw2750923337213740055:=0
def tw14679092563770252188:=0
def tw1146509425459307446:=0
def tw2032394535980998289:=0
def tw2239875995186395699:=0
def tw16528588551701873948:=0
def tw7964173696222671956:=0
def tw12954007723049771894:=0
def tw6413834197281399856:=0
def tw18011472259845107535:=0
def tw2003754959376225990:=0
def tw6395119959711516703:=0
def tw338514523433624331:=0
def tw14056429614398161381:=0
def tw2049553460409173693:=0
def tw10848532668139964559:=0
def tw14924976543238876816:=0
def tw698097646290115340:=0
def tw11599690044453386590:=0
def tw17452839606192303952:=0
def tw4434586963858462279:=0
def tw10548600408157839912:=0
def tw17770797214717339272:=0
def tw5252675404805760306:=0
def tw9337333025151994103:=0
def tw879724519819376499:=0
def tw8166060114208722359:=0
def tw7687068436150530176:=0
def tw3985065756816490548:=0
def tw14847377626057532441:=0
def tw14519108482982525248:=0
def tw1245806715944165270:=0
def tw6116286632337300297:=0
def tw4273908087082547249:=0
def tw4176846221002531385:=0
def tw16710316981334507758:=0
def tw3248765132251089126:=0
def tw17661173731660851619:=0
def tw1661972208013588598:=0
def tw3523870099063810873:=0
def tw14984831682058395820:=0
def tw7183490466340921744:=0
def tw9895088074534115206:=0
def tw8304102510330171924:=0
def tw16687598763252681241:=0
def tw8685756931719290240:=0
def tw10403651324718769118:=0
def tw11969179981146755013:=0
def tw5659308798601331725:=0
def tw17424019286436979042:=0
def tw18249274708659936851:=0
def tw16315745480848363502:=0
def tw11552148933829123818:=0
def tw5003141230377814814:=0
def tw12465022648086684242:=0
def tw9699748789437007024:=0
def tw10973037104115795895:=0
def tw8888696594884087870:=0
def tw7417272473711385027:=0
def tw13412924088287756846:=0
def tw16730353205607938810:=0
def tw15972496995271877950:=0
def tw14808023719289679824:=0
def tw18197988690718449607:=0
def tw2380240708068643583:=0
def tw9249610436310629684:=0
def tw16937520145080609381:=0
def tw17892585685266727815:=0
def tw7186649394051668926:=0
def tw11780683028873962475:=0
def tw10257128330397542970:=0
def tw16701178616293216742:=0
def tw46539963514945217:=0
def tw2728779112370185155:=0
def tw12049402869544089486:=0
def tw13159904263140592910:=0
def tw14166483095777653891:=0
def tw1507653156682628774:=0
def tw16632485094034374158:=0
def tw13347816480134456442:=0
def tw7669108871465761431:=0
def tw16779635060098681563:=0
def tw958638904561720644:=0
def tw816871910280852129:=0
def tw4888528964431768884:=0
def tw17601880317083523567:=0
def tw12084786240579581672:=0
def tw6145659564093739130:=0
def tw17716702858448371852:=0
def tw5795442028193355343:=0
def tw15360980796644060668:=0
def tw12520734458784975423:=0
def tw628616273490885910:=0
def tw6024703974069782807:=0
def tw3325186903926369137:=0
def tw17184843696088334557:=0
def tw12733344551224701656:=0
def tw6659010984242677229:=0
def tw8979307927615702351:=0
def tw8633315162347931241:=0
def tw16678002661250986356:=0
def tw13518953708059119767:=0
def tw12810542534013787428:=0
def tw570173722030027366:=0
def tw3472157183816112755:=0
def tw2474781280662628203:=0
def tw17368593482631100964:=0
def tw14744941465361783803:=0
def tw15454450090717352514:=0
def tw3512784697635080977:=0
def tw18050039884666624480:=0
def tw15937636412878352628:=0
def tw12652989650683938601:=0
def tw2251398042756122731:=0
def tw87017031606625110:=0
def tw7845671030886775069:=0
def tw2997651962758067357:=0
def tw18075657318748623356:=0
def tw16212778695033469945:=0
def tw10569299093649686766:=0
def tw463151354630976014:=0
def tw3672169705852973807:=0
def tw17317664380576816004:=0
def tw14160984653956006677:=0
def tw11184076240157908777:=0
def tw18216932509579929185:=0
def tw12890332672793008562:=0
def tw7843330752582798002:=0
def tw6388906526478704658:=0
def tw5510675733285074558:=0
def tw3489991134541986532:=0
def tw2042529577340794069:=0
def tw2200963593572201996:=0
def tw858584830139555087:=0
def tw14782013543703757373:=0
def tw14198771469100147605:=0
def tw13392633368309114730:=0
def tw11990611747084808913:=0
def tw323108897313208263:=0
def tw8949105739665687694:=0
def tw3891537618067030431:=0
def tw3394026424406754083:=0
def tw14822879735775138627:=0
def tw12917478680484701773:=0
def tw5272590600081704062:=0
def tw3057747919595196923:=0
def tw12547312808015587455:=0
def tw11540743247505063989:=0
def tw4344887960955447569:=0
def tw9057826793394315113:=0
def tw253870673756439022:=0
def tw12256517230419111204:=0
def tw18064221430725540633:=0
def tw8569209611073827942:=0
def tw147662213064602645:=0
def tw5519832928940407026:=0
def tw8277100471083783510:=0
def tw7694787099373571633:=0
def tw16246416803785701608:=0
def tw11520363018103625135:=0
def tw11500966757817987642:=0
def tw14154914069205050365:=0
def tw14281870730828883099:=0
def tw7518246520178683884:=0
def tw7966829927093313523:=0
def tw5826976811367055836:=0
def tw3065685994984341158:=0
def tw2441587348687416796:=0
def tw1216521178515526355:=0
def tw11614211843546378647:=0
def tw17743799629463472809:=0
def tw16366894771503496237:=0
def tw1247288061220441606:=0
def tw10684093497017477888:=0
def tw3996088128444339160:=0
def tw3514440625103560624:=0
def tw12428611941949402085:=0
def tw4977568707416541718:=0
def tw14872553129593027781:=0
def tw12320193477892592305:=0
def tw10617028047923221718:=0
def tw15158777095056590483:=0
def tw5683318248993795775:=0
def tw680053084873227701:=0
def tw11908954029802858707:=0
def tw4712944570563470128:=0
def tw4493986071793610866:=0
def tw1933887258226374944:=0
def tw914066638366399495:=0
def tw1838916655752701657:=0
def tw11409212966148321728:=0
def tw1614000364298449723:=0
def tw18180777418540413760:=0
def tw4577361999299265459:=0
def tw15436039082932213497:=0
def tw11153766959070085343:=0
def tw4073704000887237586:=0
def tw11601197097364425976:=0
def tw13488163318033158316:=0
def tw17883679044039040934:=0
def tw16859138494940225947:=0
def tw1879352869523919998:=0
def tw16705657042809078396:=0
def tw15471188743184735509:=0
def tw14751805197991677428:=0
def tw4061463257574484773:=0
def tw14132836028233952211:=0
def tw9470009693758495627:=0
def tw9377859141872400744:=0
def tw9272363969346589517:=0
def tw890125797630406825:=0
def tw8718109427027215694:=0
def tw8333882681811851873:=0
def tw8047654944250622328:=0
def tw3012614530981788053:=0
def tw2672461956863594648:=0
def tw2456056656582378790:=0
def tw1267425457872908563:=0
def tw10683898950782510631:=0
def tw9632517286735363464:=0
def tw11934810031455371329:=0
def tw9852465853823416464:=0
def tw562161878730373160:=0
def tw3458235349815837324:=0
def tw3145043633128287357:=0
def tw18129815960691140041:=0
def tw18080072634355329930:=0
def tw16049115765656991741:=0
def tw13548716809954462742:=0
def tw12360295770752624532:=0
def tw12143782084031947227:=0
def tw8339521343456070982:=0
def tw4433776277986329201:=0
def tw2223659864570602083:=0
def tw8870048259851976871:=0
def tw10428949150235183175:=0
def tw4521440546124673051:=0
def tw4367232529471185488:=0
def tw2536640886820921744:=0
def tw11572152789259730848:=0
def tw11405609654102134422:=0
def tw11048857378635004280:=0
def tw11639945880161119130:=0
def tw7955378195635074429:=0
def tw6263898688485155104:=0
def tw6223144934361396295:=0
def tw4889170180746692380:=0
def tw3467103256541973303:=0
def tw2915263997330126251:=0
def tw9288343643747599651:=0
def tw11862404890721269465:=0
def tw7911674805085258697:=0
def tw181947928711273954:=0
def tw5095034539652633087:=0
def tw2675767582526707427:=0
def tw704175907457598029:=0
def tw77451979228934479:=0
def tw40521196256427718:=0
def tw3965991232929887364:=0
def tw3927789561790876668:=0
def tw3852844311147895024:=0
def tw3566366833719014714:=0
def tw17353567419456062069:=0
def tw16893102653984392565:=0
def tw15521696912968147130:=0
def tw14792138991739705021:=0
def tw13177719669021314321:=0
def tw1296090173206565983:=0
def tw8232039878270143994:=0
def tw16768452565914868622:=0
def tw6131332574580033980:=0
def tw14297026538504505824:=0
def tw9232884460883509165:=0
def tw8137672033976643310:=0
def tw17294651005386836461:=0
def tw9735595555908389121:=0
def tw8987919691870750708:=0
def tw890542552584412695:=0
def tw7426298847162552111:=0
def tw4777698351819044286:=0
def tw4658447116333156301:=0
def tw3834776212040628932:=0
def tw3531725847789010639:=0
def tw2647618046401000183:=0
def tw18336478739405127882:=0
def tw15987496836313156126:=0
def tw14882703023028028469:=0
def tw14360611640563441512:=0
def tw10099968736250873557:=0
end PySem.W.Fast
end
open PySem PySem.W PyProof.Rows
set_option maxRecDepth 100000 in
set_option maxHeartbeats 0 in
theorem PySem.Challenge.cw_bracketrows_k47_asked_at_the_desk_holds : PySem.Challenge.rw_bracketrows_k47_asked_at_the_desk.Holds := by
  w_on; o_law; k_head; (case hw => w_witness2)
  k_fill
  refine Bk.walk (l := PySem.Challenge.rw_bracketrows_k47_asked_at_the_desk) rfl rfl (fun w h Y => PySem.W.kIn_of Y) ?F
  case F =>
    intro w mg fa h KX G hmg
    refine' Bk.fin hmg ⟨L2.fnA KX G ?f, ?m, L2.nbA KX G ?n, L2.glA KX G ?g, L2.clA KX G ?c, ?k, ?F, ?D, L2.ownA KX G ?y ?z, L2.ownA KX G ?Y ?Z, ?t⟩
    (case y | Y => k_is)
    (case f => (repeat (apply L2.AllP.fn; k_is; k_is; k_is; k_is)); trivial)
    (case m => (repeat (apply L2.AllP.mt; k_is; k_is; k_is; k_is; k_is)); trivial)
    (case c => (repeat (apply L2.AllP.cl; k_is; kernel_rfl)); trivial)
    (case g => (repeat (first | (apply L2.AllP.tx; k_is; (first | rfl | decide +kernel)) | (apply L2.AllP.int; k_is; rfl) | (apply L2.AllP.ref; k_is))); trivial)
    (case n | z | Z | t => kernel_rfl)
    (case k => (apply L2.FTu.mk; k_is; rfl; rfl; decide +kernel; decide))
    (case F => (apply BrS.fm_mk8; k_is; exact ⟨rfl, rfl, rfl⟩; rfl; (first | rfl | decide +kernel); (first | rfl | decide +kernel); all_goals (apply L2.FTu.mk; k_is; rfl; rfl; decide +kernel; decide)))
    (case D => (apply BrS.dd_mk8; k_is; exact ⟨rfl, rfl, rfl⟩; rfl; (first | rfl | decide +kernel); (first | rfl | decide +kernel); all_goals (apply PySem.W.mg_of KX G; k_is)))
