import PyProof.Rows.All
import Wide.All
import OpenK.AllK
import Wide.FinOn
import PyProof.EqAt
import PyProof.EqKinds
import PyProof.TupleCall
import KE.BitLaws
import Open.SpecLaws
import KE.OsHead
import KE.OsGo
import OpenK.KOwn
import KE.KMinKey
import KE.KDictSum
import KE.KSortRegAny
import KE.KRevSl
import PyProof.DictRoadsH
import PyProof.ZipIter
import PyProof.WalksMore
import PyProof.DictTruth
import PySem.Challenge.RW_kinfolds_s01_answers
import PyVbdeah
set_option Elab.async false
set_option linter.all false
set_option maxRecDepth 100000
set_option maxHeartbeats 4000000
open Option renaming some->ae,none->ay,isSome_map->bZ,map_some->ye,isSome_iff_exists->Mv,isSome_some->UH,getD_none->X7,map_map->aaM
open List renaming length_map->ag,mem_singleton->ai,map_append->az,mem_map->aA,mem_cons_self->aB,mem_cons_of_mem->aC,mem_cons->aF,length_append->aK,length_cons->aL,mem_append->aP,map_cons->aU,length_eq_zero_iff->aV,mem_filter->aW,mem_append_right->bc,length_filter_le->bf,map_map->bx,mem_append_left->bO,mem_of_getElem?->bW,pairwise_cons->b7,filter_cons->b9,size_toArray->cg,map_congr_left->cu,all_eq_true->cz,append_nil->cD,take_length->cE,not_mem_nil->cP,nodup_cons->cU,foldl_cons->cV,sum_cons->dc,getElem?_map->dh,getElem?_eq_some_iff->dj,getElem?_eq_getElem->dz,append_assoc->dJ,length_take->d6,filter_congr->d8,pairwise_map->eV,find?_eq_none->fg,filter_sublist->fF,mem_of_find?_eq_some->fM,flatMap_append->fZ,any_eq_true->gu,map_reverse->gy,length->gE,contains_iff_mem->gH,find?_cons->gI,flatMap_map->gR,length_flatMap->hG,filter_map->hU,length_drop->ik,isEmpty_iff->ip,reverse_cons->iM,nodup_append->iN,filter_append->jm,sum_append->jI,pairwise_append->jN,lookup_cons->kE,find?_some->lU,drop_drop->nG,mem_take_iff_getElem->n8,length_reverse->oS,filter_eq_self->oT,lookup->qa,pairwise_singleton->qb,drop_eq_nil_of_le->rh,getElem?_eq_none->rV,cons_append->sU,eq_nil_iff_forall_not_mem->sV,sum_reverse->sW,any_cons->sX,forall_mem_cons->tF,forall_mem_nil->ub,map_eq_nil_iff->uc,reverse_append->ud,find?_map->vc,filter_filter->vd,ne_nil_of_mem->vg,mem_drop_iff_getElem->v7,flatMap_cons->wc,find?_append->we,getElem?_cons_zero->xK,getElem?_set_self->yk,length_pos_of_mem->yp,all_map->yq,filter_eq_nil_iff->yr,length_singleton->Ag,length_filter_lt_length_iff_exists->AR,getElem?_set_ne->Bg,forIn_nil->Bh,reverse_reverse->Bj,drop_eq_nil_iff->Bk,filterMap_cons->CT,mem_filterMap->Ep,Nodup->Er,map_nil->FL,flatten_cons->FP,getElem_inj->HL,find?_eq_some_iff_getElem->HQ,perm_middle->HS,mem_reverse->HV,drop->HW,map_id->IC,of_mem_zip->K6,forIn_cons->K8,length_nil->K_,all_append->La,nil_append->Lb,perm_ext_iff_of_nodup->My,nodup_iff_pairwise_ne->MB,drop_eq_getElem_cons->NJ,getElem?_zip_eq_some->NK,getElem?_cons_succ->PX,any_map->Sj,length_eq_one_iff->Sl,map_singleton->X8,take_add_one->Yl,all_eq_false->Yn,zipIdx_cons->aaL
open PySem renaming Addr->aj,wpAny_bind->ak,Value->ax,Shared->aE,sizeLine->aM,wpAny_pure->aS,Program->bg,FuncData->bq,boot_len->bz,wpAny->bR,World->cn,model->cG,Heap->df,Spec->dA,mem_of_lookup->dD,Stmt->dX,sysModules->d7,Expr->eJ,wpAny_callSpecial?_slot->gY,wpAny_mono->iG,wpAny_call_entry->iH,wpAny_seqItems->iV,wpAny_truthy_bool->i7,wpAny_field->jt,wpAny_Call_Name_kw->jH,DictEntry->ko,NameKind->kz,IsPair->lR,mainGlobals->l_,wpAny_typeNameOfWhole_keyiter->mh,wpAny_setField_rec->mn,Scope->m_,wpAny_passesOwn->ng,wpAny_newObj_type->nV,wpAny_Call_method->nW,wpAny_typeNameOf_keyiter->qX,wpAny_holding->qY,tupleKind_room_in1->rq,wpAny_letGo->rO,wpAny_dictEntries->sY,evalArgs_none->tV,wpAny_execs_nil->vH,IsZip->yo,Paired->B7,Keyword->B9,wpAny_rule->Ca,pushCells_keeps->CV,wpAny_updateSeq->CW,wpAny_setField->EB,wpAny_updateSeq_pair->ED,wpAny_attempt->HM,plainId_quiet->HN,wpAny_onRaise->HP,Builtin->IA,Params->IB,wpAny_pyIter_list->Lg,codeAny_mono->Lh,slot_list_getitem->Li,call_meetsIn->Lj,sizeLine_eq->Pw,Within->PN,wpAny_loadPart'->PR,wpAny_dictEpoch->PV,size_of_entries->PY,BindsTo->Sd,call_meets->SY,method_meetsIn->S6,wpAny_tryCatch->S7,ZipApart->S8,wpAny_standAt->V4,wpAny_getItem_list_slice->V5,wpAny_newList->V8,CmpOp->X5,wpAny_isTrue_Compare1->aaE,wpAny_notOrdered_dict->aaG,wpAny_isOneOf_keyiter->aaH
open PySem.W renaming Frag->au,emptyDict->gS,findIn->i9,instObj->js,WData->nX,keepIn->t9,excIn->vJ,plainGet->v9,fnOf->xj,lookIn->yy,plainGet_of->AK,callWith_K->B8,WellAll->B',methodObj->C0,hasDictIn->C1,hideAll->Gx,takerIn->Gy,length_le_weightAllW->GB,codeIn->Iy,isFn->NA,cellsFrom_some->NB,methodCall_KW->Py,hideAll_get->R_,callWith_K0->Se,kdu_collect->Sg,of_hideAll->SV,plainOver->UG,handedIn->V3,WRecords->V6,kdl_dict->V7,makesIn->X6,WalkOS->Yk,mg_of->aaO
open PySem.Heap renaming get?_push_of_some->aG,get?_push_size->bA,lt_size->bN,size_push->eU,get?_update_other->lI,get?_update_self->mj,SameBut->nU,FlyingW->Sf
open Bool renaming and_eq_true->aH,false_ne_true->bK,eq_false_iff->bP,eq_iff_iff->cT,noConfusion->fJ,true_and->gZ,and_true->iz,false_and->jj,and_false->jl,and_eq_false_iff->rW,and_eq_true_iff->tE,false_eq_true->u_,not_eq_true'->FN
open Nat renaming le_refl->aJ,le_trans->bX,zero_le->cI,lt_of_lt_of_le->cS,ne_of_lt->dR,lt_irrefl->fX,le_succ->nJ,lt_succ_self->nY,le_of_succ_le->xg,min_le_right->yf,ne_of_gt->yx,le_of_eq->yz,lt_of_le_of_lt->EC,lt_succ_of_lt->Gz,lt_trans->GA,le_of_lt->SW,not_succ_lt_self->V9
open Vbdeah renaming step->aN,without->bp,Bank->bB,answered->bL,famOf->bT,asked->bU,okX->cy,persons->cC,subs->cH,nats->di,child->dq,Kid->dN,kids->d4,tidy->d5,putP->er,putKid->eA,listed->eC,settle->e9,Tree->fm,DEPTH->fA,mustered->fB,shapeFrom->fG,shownFrom->fH,okPlace->fI,ofFam->fL,ofPerson->fR,Person->fT,Wait->gd,distinct->gm,inTo->gM,pathOf->gT,lives->il,lineFrom->iK,load->iZ,line->jF,shape->jG,upFrom->jM,waitOk->jO,toldWaits->kx,group->kT,readKids->lM,toldForest->lZ,start->nF,born->pY,both->pZ,readForest->qU,shownKid->tG,idsOf->tW,split->tX,depth->tY,readFam->uW,free->vK,recall->v5,leave->xM,outOf->xN,kin->xO,assemble->yg,gather->Cb,muster->Cd,inR->CY,adopt->Es,found->Et,close->Eu,pair->GI,putF->GJ,okN->Lc,finish->Mz,readWaits->X9,stepCall->Yo,waiting->aaN
open VbdeahNeutral renaming whole60->aZ,further->gp,asked1->IE,asked->Ld
open Or renaming inl->bE,inr->PD
open Option.some renaming inj->bF,injEq->PB
open PySem.F renaming plainAttrs_list->b8,slot_list_extend->dQ,type_list_extend->eZ,slot_list_append->gb,type_list_append->gF,slot_dict_keyiterator_next->gN,plainAttrs_dict->jL,slot_tuple_iterator_next->nZ,plain_max_loop->pG,slot_list_pop->tD,slot_dict_values->v_,type_list_pop->yh,slot_zip_next->Bi,slot_dict_setdefault->GH,slot_dict_getitem->K',args_dict_keyiterator_next_1->Ln,entry_dict_keyiterator_next->Mw,slot_dict_keyiterator_iter->ND,args_tuple_iterator_next_1->NF,slot_dict_pop->Pz,slot_dict_get->PF,entry_tuple_iterator_next->PH,args_list_extend_2->Yi,args_dict_values_1->Yj,entry_list_extend->aaF,entry_dict_values->aaJ
open Sum renaming inl->cO,inr->yw
open PySem.Value renaming ref->de,none->iL,int->rT,type->u6,str->Gw,bool->V2
open PySem.PassesOwn renaming never->dm,leaving->uV
open PySem.Builtin.SmallTypes renaming nextOf->fh,ownedTupleIsFree->ic,ownedTupleHandOut->va
open Int renaming toNat->fY,ofNat->ir,le_refl->lJ,toNat_natCast->rm,toNat_of_nonneg->uU,le_of_lt->S9
open PySem.Paired renaming length->gj
open False renaming elim->gk
open Ne renaming symm->gA
open PySem.Str renaming ofString->gJ
open List.Pairwise renaming nil->gK,sublist->HR
open Array renaming length_toList->g_,getElem?_toList->rN,toList->PQ
open List.cons renaming inj->hZ
open PySem.Heap.SameBut renaming update->iy
open PySem.Calls renaming spliced_cons->ji,callWith_builtin->kU,evalArgs_plain->nj,spliced_nil->qW,Name_function_global->Lf,call_function_entry->Mx
open PySem.Builtin.List renaming listTooLong->jk
open PySem.PyData renaming keyHash->kr
open PyProof.Rows renaming step_dedup->lQ,callWith_type1->rM,AllBare->yj,IntsAre->B_,Subscript_->SX,subscriptTail_builtinR->Yh
open Sum.inl renaming inj->ml
open PyVbdeah renaming shape->p_,answers_asked->xi,answers->Ew,whole->HX,calls->X_
open PySem.NameKind renaming free->rn,cell->K9
open True renaming intro->sT
open List.Perm renaming cons->tM,append_left->xk,cons_inv->PZ,swap->V'
open PySem.W.Codec renaming encAll->t_,denoteAll->ym,app->GD,withinAll->aaK
open Prod renaming fst->ve,snd->vf
open PySem.Obj renaming data_mapFields->vI,mapSeq->NC,isFreed_of_fields->UI,data_mapDictKeys->V_,cls_mapFields->aaI
open PyFlat renaming told->vL,played->v8,calls->Ex
open ForInStep renaming yield->xh
open PySem.Builtin.Dict_items renaming ownsTuple->yl
open PySem.W.WData renaming weightAll->yn
open List.Sublist renaming refl->Ah
open PySem.Builtin.Builtins renaming bindParams->AQ
open Vbdeah.Bank renaming fam->C2,person->NH
open Vbdeah.R renaming ok->EE,err->MA,wait->Ym
open PySem.Builtin.Dict renaming showsAll->Iz
open PySem.Heap.IsSliceOf renaming new->K7
open PySem.SeqAt.EqAt renaming int_str->Pt,str_int->Pu
open PySem.Around renaming under->Px,under_plainId->Sh
open PySem.Code renaming isFrame->Sb
open PySem.Data renaming seq->UJ
open PySem.Value.type renaming inj->UK
abbrev aX:=@if_neg
abbrev aY:=@of_decide_eq_true
abbrev bw:=@if_pos
abbrev bG:=@decide_eq_true
abbrev bJ:=@decide_eq_true_iff
abbrev bM:=@absurd
abbrev da:=@congrArg
abbrev l0:=@decide_eq_false_iff_not
abbrev u5:=@decide_eq_false
abbrev Iw:=@beq_iff_eq
namespace L2
open PySem PySem.Spec PyProof.Rows
abbrev Key:=Sum Int Str
def Bl:Key->ax->Bool
 | .inl k,v=>Value.isInt k v
 | .inr x,v=>Value.isStrOf x v
def afc(w:cn):Key->Int
 | .inl k=>hashInt k
 | .inr x=>hashStr w x
theorem iX:∀{k:Key} {v:ax},Bl k v=true->(∃i t,k=cO i/\v=rT i t)\/(∃x t,k=yw x/\v=Gw x t)
 | .inl i,v,h=>by
  obtain⟨t,e⟩:=Value.isInt_shape (k:=i) (v:=v) h;exact .inl ⟨i,t,rfl,e⟩
 | .inr x,v,h=>by
  obtain⟨t,e⟩:=Value.isStrOf_shape (x:=x) (v:=v) h;exact .inr ⟨x,t,rfl,e⟩
theorem wg(i:Int)(t:Tok):Bl (.inl i) (.int i t)=true:=by simp[Bl,Value.isInt]
theorem wj(x:Str)(t:Tok):Bl (.inr x) (.str x t)=true:=by simp[Bl,Value.isStrOf]
theorem adj(a b:Int):decide ((cO a:Key)=cO b)=(a==b):=by
 by_cases e:a=b;subst e;simp;have h:¬(cO a:Key)=cO b:=λq=>e (ml q);rw[decide_eq_false h];exact(beq_eq_false_iff_ne.mpr e).symm
theorem adk(a b:Str):decide ((yw a:Key)=yw b)=decide (a=b):=by
 by_cases e:a=b;subst e;simp;have h:¬(yw a:Key)=yw b:=λq=>e (Sum.inr.inj q);rw[decide_eq_false h,decide_eq_false e]
theorem adl(a:Int)(b:Str):decide ((cO a:Key)=yw b)=false:=u5 (λq=>nomatch q)
theorem adm(a:Str)(b:Int):decide ((yw a:Key)=cO b)=false:=u5 (λq=>nomatch q)
def fK(prog:bg)(w:cn):PySem.KeyKind prog w Key where
 is:=Bl
 hash:=afc w
 inj:=λv a b ha hb=>by
  obtain⟨i,t,rfl,rfl⟩|⟨x,t,rfl,rfl⟩:=iX ha
  ·obtain⟨j,u,rfl,e⟩|⟨y,u,rfl,e⟩:=iX hb
   ·injection e with e1 _;rw[e1]
   exact nomatch e
  ·obtain⟨j,u,rfl,e⟩|⟨y,u,rfl,e⟩:=iX hb
   exact nomatch e
   ·injection e with e1 _;rw[e1]
 byValue:=λk v h=>by
  obtain⟨i,t,rfl,rfl⟩|⟨x,t,rfl,rfl⟩:=iX h<;>rfl
 pyHash:=λhv h=>by
  obtain⟨i,t,rfl,rfl⟩|⟨x,t,rfl,rfl⟩:=iX hv
  exact wpAny_pyHash_int h;exact wpAny_pyHash_str h
 eqBool:=λhu hv h=>by
  obtain⟨i,t,rfl,rfl⟩|⟨x,t,rfl,rfl⟩:=iX hu
  ·obtain⟨j,u,rfl,rfl⟩|⟨y,u,rfl,rfl⟩:=iX hv
   rw[adj] at h;exact wpAny_eqBool_int h;rw[adl] at h;exact Pt i t y u _ _ _ _ h
  ·obtain⟨j,u,rfl,rfl⟩|⟨y,u,rfl,rfl⟩:=iX hv
   rw[adm] at h;exact Pu x t j u _ _ _ _ h;rw[adk] at h;exact wpAny_eqBool_str h
 «strs»:=λk x t v h=>by
  obtain⟨i,u,rfl,e⟩|⟨y,u,rfl,e⟩:=iX h
  exact nomatch e
  ·injection e with e1 _
   subst e1;cases v<;>rfl
theorem P0(prog:bg)(w:cn)(i:Int)(t:Tok):(fK prog w).is (.inl i) (.int i t)=true:=wg i t
theorem P1(prog:bg)(w:cn)(x:Str)(t:Tok):(fK prog w).is (.inr x) (.str x t)=true:=wj x t
end L2
namespace L2
open PySem PySem.Spec PyProof.Rows
inductive V where
 |non|bl (b:Bool)|int (i:Int)|str (x:Str)|Sn (b:Array UInt8)|flt (b:UInt64)|ref (a:aj)|ty (n:String)
 deriving DecidableEq
def RelV:V->ax->Prop
 | .non,u=>u=iL
 | .bl b,u=>u=V2 b
 | .int i,u=>∃t,u=rT i t
 | .str x,u=>∃t,u=Gw x t
 | .Sn b,u=>∃t,u=Value.bytes b t
 | .flt b,u=>∃t,u=Value.float b t
 | .ref a,u=>u=de a
 | .ty n,u=>u=u6 n
abbrev fj:List V->List ax->Prop:=B7 RelV
theorem fj.length{xs:List V}{us:List ax}(r:fj xs us):xs.length=us.length:=gj r
theorem fj.get:∀{xs:List V} {us:List ax} {i:Nat} {x:V},fj xs us->xs[i]? =ae x->∃u,us[i]? =ae u/\RelV x u
 |_,_,_,_,.nil,e=>by simp at e
 |_,_,0,_,.cons r _,e=>by simp at e;subst e;exact⟨_,rfl,r⟩
 |_,_,i+1,x,.cons _ t,e=>by
  obtain⟨u,h1,h2⟩:=fj.get (i:=i) (x:=x) t (by simpa using e);exact⟨u,by simpa using h1,h2⟩
theorem fj.append:∀{xs ys:List V} {us ws:List ax},fj xs us->fj ys ws->fj (xs++ys) (us++ws)
 |_,_,_,_,.nil,s=>s
 |_,_,_,_,.cons r t,s=> .cons r (fj.append t s)
theorem fj.take:∀{xs:List V} {us:List ax} (n:Nat),fj xs us->fj (xs.take n) (us.take n)
 |_,_,0,_=> .nil
 |_,_,_+1,.nil=> .nil
 |_,_,n+1,.cons r t=> .cons r (fj.take n t)
theorem fj.drop:∀{xs:List V} {us:List ax} (n:Nat),fj xs us->fj (xs.drop n) (us.drop n)
 |_,_,0,r=>r
 |_,_,_+1,.nil=> .nil
 |_,_,n+1,.cons _ t=>fj.drop n t
def wm:Option V->Option ax->Prop
 |some v,ae u=>RelV v u
 |none,ay=>True
 |_,_=>False
def KV{κ:Type}:List (κ×V)->List (κ×ax)->Prop:=B7 λ(p:κ×V) (q:κ×ax)=>p.1=q.1/\RelV p.2 q.2
def kV:Key->V
 | .inl i=> .int i
 | .inr x=> .str x
inductive HO where
 |lst (xs:List V)
 |tup (xs:List V)
 |dK (kvs:List (Key×V))|dT (kvs:List (List Key×V))
 |set (S:Int->Bool) (n:Nat)
 |ins (C dx:aj) (fs:List (Str×V))
 |own (x:aj)
 |xd (fs:List (Str×V))
 |met (f x:aj)
 |rng (lo hi:Int)
 |jq (o:Obj) (u:HO)
 |tbl (ps:Array ax)
 |ext (φ:df->Prop)
abbrev Hp:=aj->Option HO
def upd(H:Hp)(a:aj)(o:HO):Hp:=λb=>if b=a then ae o else H b
theorem aq{H:Hp}{a:aj}{o:HO}:upd H a o a=ae o:=by unfold upd;rw[if_pos rfl]
theorem cZ{H:Hp}{a b:aj}{o:HO}(h:b≠a):upd H a o b=H b:=by unfold upd;rw[if_neg h]
theorem gg{H:Hp}{a b:aj}{o u:HO}(h:H a=ae o)(h':H b=ae u)(d:o≠u):a≠b:=by
 intro e;subst e;rw[h] at h';exact d (bF h')
theorem aI{H:Hp}{a b:aj}{o:HO}(h:H a=ae o)(h':H b=ay):a≠b:=by
 intro e;subst e;rw[h] at h';cases h'
section
variable(P:bg)(w:cn)
def jv(H:Hp)(h:df)(a:aj):HO->Prop
 | .lst xs=>xs.length<=aM/\∃(its:List ax) (n:Nat),fj xs its/\h.get? a=ae {cls:= .type "list",data:= .seq its.toArray n}
 | .tup xs=>xs.length<=aM/\∃its:List ax,fj xs its/\IsTup h a its.toArray
 | .dK kvs=>kvs.length<=aM/\(a==d7)=false/\∃vs,KV kvs vs/\h.DictOf (fK P w) a vs
 | .dT kvs=>kvs.length<=aM/\(a==d7)=false/\∃xs:List (List Key×aj×ax),B7 (λ(p:List Key×V) (q:List Key×aj×ax)=>p.1=q.1/\H q.2.1=ae (.tup (p.1.map kV))/\RelV p.2 q.2.2) kvs xs/\∃o es ep,h.get? a=ae o/\o.ExactDict/\o.data= .dict es ep/\es.toList=xs.map (entryOfKey (tupleKind (fK P w)))/\(xs.map (·.1)).Nodup
 | .set S n=>h.SetOf (intKind P w) a S n
 | .ins C dx fs=>H dx=ae (.own a)/\fs.length<=1000/\dx≠a/\h.get? a=ae (js C dx)/\∃mA,h.Ns1 dx mA/\(∀f,wm (fs.lookup f) (mA f))/\PN mA (fs.map (·.1))
 | .own _=>∃o,h.get? a=ae o
 | .xd fs=>∃mA,h.Ns1 a mA/\∀f,wm (fs.lookup f) (mA f)
 | .rng lo hi=>∃t u v,h.get? a=ae {cls:= .type "range",data:= .fields #[.int lo t,.int hi u,.int 1 v]}
 | .jq o u=>h.get? a=ae o/\jv H h a u
 | .tbl ps=>h.get? a=ae {cls:= .none,data:= .fields ps}
 | .met f x=>h.get? a=ae (C0 (.ref f) (.ref x))
 | .ext φ=>φ h/\(∃o,h.get? a=ae o)/\∀h1 h2:df,φ h1->(∀o,h1.get? a=ae o->h2.get? a=ae o)->φ h2
def xl(H:Hp)(h:df):Prop:=∀a o,H a=ae o->jv P w H h a o
end
section
variable{P:bg}{w:cn}{H H':Hp}{h h':df}{a:aj}{o:HO}
theorem jv.lt(x:jv P w H h a o):a<h.objs.size:=by
 cases o with
 |lst xs=>obtain⟨_,_,_,_,e⟩:=x;exact bN e
 |tup xs=>obtain⟨_,_,_,p⟩:=x;exact p.lt
 |dK kvs=>obtain⟨_,_,_,_,o,_,_,e,_⟩:=x;exact bN e
 |dT kvs=>obtain⟨_,_,_,_,o,_,_,e,_⟩:=x;exact bN e
 |set S n=>obtain⟨o,_,_,_,e,_⟩:=x;exact bN e
 |ins C dx fs=>obtain⟨_,_,_,e,_⟩:=x;exact bN e
 |own y=>obtain⟨_,e⟩:=x;exact bN e
 |xd fs=>obtain⟨_,⟨_,_,_,e,_⟩,_⟩:=x;exact bN e
 |rng lo hi=>obtain⟨_,_,_,e⟩:=x;exact bN e
 |jq ob u=>obtain⟨e,_⟩:=x;exact bN e
 |tbl ps=>exact bN (show h.get? a=ae _ from x)
 |met f y=>exact bN (show h.get? a=ae _ from x)
 |ext φ=>obtain⟨_,⟨_,e⟩,_⟩:=x;exact bN e
theorem B7.adn{α β:Type}{F G:α->β->Prop}:∀{l₁:List α} {l₂:List β},B7 F l₁ l₂->(∀a b,F a b->G a b)->B7 G l₁ l₂
 |_,_,.nil,_=> .nil
 |_,_,.cons r t,f=> .cons (f _ _ r) (B7.adn t f)
theorem jv.yi(x:jv P w H h a o)(k:∀b u,(b=a\/H b=ae (.own a))->h.get? b=ae u->h'.get? b=ae u)(ho:∀b,H b=ae (.own a)->H' b=ae (.own a))(ht:∀b xs,H b=ae (.tup xs)->H' b=ae (.tup xs)):jv P w H' h' a o:=by
 induction o with
 |lst xs=>obtain⟨z,its,n,r,e⟩:=x;exact⟨z,its,n,r,k _ _ (.inl rfl) e⟩
 |tup xs=>obtain⟨z,its,r,ob,e,c⟩:=x;exact⟨z,its,r,ob,k _ _ (.inl rfl) e,c⟩
 |dK kvs=>obtain⟨z,y,vs,r,ob,es,ep,e,c⟩:=x;exact⟨z,y,vs,r,ob,es,ep,k _ _ (.inl rfl) e,c⟩
 |dT kvs=>
  obtain⟨z,y,xs,r,ob,es,ep,e,c⟩:=x;exact⟨z,y,xs,B7.adn r λp q z=>⟨z.1,ht _ _ z.2.1,z.2.2⟩,ob,es,ep,k _ _ (.inl rfl) e,c⟩
 |set S n=>obtain⟨ob,es,ep,t,e,c⟩:=x;exact⟨ob,es,ep,t,k _ _ (.inl rfl) e,c⟩
 |ins C dx fs=>
  obtain⟨d,z,ne,e,mA,⟨od,es,ep,e2,c⟩,r⟩:=x;exact⟨ho _ d,z,ne,k _ _ (.inl rfl) e,mA,⟨od,es,ep,k _ _ (.inr d) e2,c⟩,r⟩
 |own y=>obtain⟨ob,e⟩:=x;exact⟨ob,k _ _ (.inl rfl) e⟩
 |xd fs=>obtain⟨mA,⟨od,es,ep,e,c⟩,r⟩:=x;exact⟨mA,⟨od,es,ep,k _ _ (.inl rfl) e,c⟩,r⟩
 |rng lo hi=>obtain⟨t,u,v,e⟩:=x;exact⟨t,u,v,k _ _ (.inl rfl) e⟩
 |jq ob u ih=>obtain⟨e,q⟩:=x;exact⟨k _ _ (.inl rfl) e,ih q⟩
 |tbl ps=>
  have e:h.get? a=ae {cls:= .none,data:= .fields ps}:=x;show h'.get? a=ae {cls:= .none,data:= .fields ps};exact k a _ (.inl rfl) e
 |met f y=>
  have e:h.get? a=ae (C0 (.ref f) (.ref y)):=x;show h'.get? a=ae (C0 (.ref f) (.ref y));exact k a _ (.inl rfl) e
 |ext φ=>obtain⟨p,⟨o,e⟩,st⟩:=x;exact⟨st _ _ p λo q=>k _ _ (.inl rfl) q,⟨o,k _ _ (.inl rfl) e⟩,st⟩
theorem xl.lt(x:xl P w H h)(e:H a=ae o):a<h.objs.size:=(x a o e).lt
theorem xl.fresh(x:xl P w H h)(e:h.objs.size<=a):H a=ay:=by
 cases q:H a with
 |none=>rfl
 |some u=>exact bM (cS (x.lt q) e) (fX _)
theorem xl.kept(x:xl P w H h)(k:∀b u,h.get? b=ae u->h'.get? b=ae u):xl P w H h':=λa o e=>
 (x a o e).yi (λb u _ q=>k b u q) (λ_ q=>q) λ_ _ q=>q
theorem xl.laid(x:xl P w H h)(k:∀b u,h.get? b=ae u->h'.get? b=ae u)(hp:h.objs.size<=a)(new:jv P w (upd H a o) h' a o):xl P w (upd H a o) h':=λb u e=>by
 have hn:=x.fresh hp;by_cases hb:b=a;subst hb;rw[aq] at e;cases e;exact new
 ·rw[cZ hb] at e;exact(x b u e).yi (λc v _ q=>k c v q) (λc q=>by rw[cZ (aI q hn)];exact q) λc xs q=>by rw[cZ (aI q hn)];exact q
end
def Rd(H:Hp)(a:aj)(u:HO):Prop:=H a=ae u\/∃o,H a=ae (.jq o u)
theorem Rd.ok{P:bg}{w:cn}{H:Hp}{h:df}{a:aj}{u:HO}(r:Rd H a u)(x:xl P w H h):jv P w H h a u:=by
 obtain r|⟨o,r⟩:=r
 exact x a u r;obtain⟨_,q⟩:=x a _ r;exact q
def Mut:Option HO->Prop
 |some (.lst _)=>True
 |some (.dK _)=>True
 |some (.dT _)=>True
 |some (.set _ _)=>True
 |some (.ins _ _ _)=>True
 |some (.ext _)=>True
 |_=>False
section
variable{P:bg}{w:cn}{H:Hp}{h h':df}{x e:aj}{o':HO}
theorem xl.write(ok:xl P w H h)(mu:Mut (H x))(he:e=x\/H e=ae (.own x))(k:∀b u,b≠e->h.get? b=ae u->h'.get? b=ae u)(heo:∃u,h'.get? e=ae u)(new:jv P w (upd H x o') h' x o'):xl P w (upd H x o') h':=λb u q=>by
 have afd:∀c y,H c=ae (.own y)->c≠x:=λc y r z=>by subst z;rw[r] at mu;exact mu
 have aia:∀c xs,H c=ae (.tup xs)->c≠x:=λc xs r z=>by subst z;rw[r] at mu;exact mu
 by_cases hb:b=x;subst hb;rw[aq] at q;cases q;exact new
 ·rw[cZ hb] at q;by_cases hbe:b=e
  ·have q':H b=ae (.own x):=by
    obtain z|z:=he
    exact bM (hbe.trans z) hb;rw[hbe];exact z
   rw[q] at q';cases q';obtain⟨v,hv⟩:=heo;exact⟨v,by rw[hbe];exact hv⟩
  ·refine(ok b u q).yi (λc v hc r=>k c v ?_ r) (λc r=>by rw[cZ (afd c b r)];exact r) λc xs r=>by rw[cZ (aia c xs r)];exact r
   obtain rfl|hc:=hc
   exact hbe
   ·rintro rfl;obtain z|z:=he
    exact afd c b hc z;rw[hc] at z;cases z;exact hb rfl
end
structure Un(fs ex:List aj)(H H':Hp)(h h':df):Prop where
 keep:∀b o,h.get? b=ae o->H b=ay->b∉fs->b∉ex->h'.get? b=ae o
 slot:∀b o,h.get? b=ae o->H b=ay->b∈fs->b∉ex->∃sl,h'.get? b=ae {o with slots:=sl}
 free:∀b o,h.get? b=ae o->H b=ay->b∉ex->H' b=ay
 there:∀b o,h.get? b=ae o->b∉ex->∃o',h'.get? b=ae o'
 Lp:∀b xs,H b=ae (.tup xs)->H' b=ae (.tup xs)
 GK:∀b o u,H b=ae (.jq o u)->H' b=ae (.jq o u)
 Lq:∀b ps,H b=ae (.tbl ps)->∃more,H' b=ae (.tbl (ps++more))
section
variable{fs S_ ex ex':List aj}{H H1 H2:Hp}{h h1 h2 h':df}{a x e:aj}{o:HO}
theorem Un.any(u:Un fs ex H H1 h h1){b:aj}{ob:Obj}(q:h.get? b=ae ob)(n:H b=ay)(hx:b∉ex):∃sl,h1.get? b=ae {ob with slots:=sl}:=by
 by_cases hb:b∈fs;exact u.slot b ob q n hb hx;exact⟨ob.slots,u.keep b ob q n hb hx⟩
theorem Un.kept(k:∀b u,h.get? b=ae u->h'.get? b=ae u):Un fs ex H H h h':=⟨λb ob q _ _ _=>k b ob q,λb ob q _ _ _=>⟨ob.slots,k b ob q⟩,λ_ _ _ n _=>n,λb ob q _=>⟨ob,k b ob q⟩,λ_ _ q=>q,λ_ _ _ q=>q,λ_ ps q=>⟨#[],by rw[q];simp⟩⟩
theorem Un.refl:Un fs ex H H h h:=Un.kept λ_ _ q=>q
theorem Un.laid(k:∀b u,h.get? b=ae u->h'.get? b=ae u)(hp:h.objs.size<=a)(hn:H a=ay):Un fs ex H (upd H a o) h h' where
 keep:=λb u q _ _ _=>k b u q
 slot:=λb u q _ _ _=>⟨u.slots,k b u q⟩
 free:=λb u q n _=>by rw[cZ (dR (cS (bN q) hp))];exact n
 there:=λb u q _=>⟨u,k b u q⟩
 Lp:=λb xs q=>by rw[cZ (aI q hn)];exact q
 GK:=λb u xs q=>by rw[cZ (aI q hn)];exact q
 Lq:=λb ps q=>⟨#[],by rw[cZ (aI q hn),q];simp⟩
theorem Un.write(mu:Mut (H x))(he:e=x\/H e=ae (.own x))(k:∀b u,b≠e->h.get? b=ae u->h'.get? b=ae u)(heo:∃u,h'.get? e=ae u):Un fs ex H (upd H x o) h h':=by
 have hx:∀b,H b=ay->b≠x:=λb n z=>by subst z;rw[n] at mu;exact mu
 have hb:∀b,H b=ay->b≠e:=λb n z=>by
  subst z;obtain r|r:=he
  exact hx b n r;rw[n] at r;cases r
 have hm:∀b u,H b=ae u->¬Mut (ae u)->b≠x:=λb u q nm z=>by subst z;rw[q] at mu;exact nm mu
 refine⟨λb u q n _ _=>k b u (hb b n) q,λb u q n _ _=>⟨u.slots,k b u (hb b n) q⟩,λb u q n _=>by rw[cZ (hx b n)];exact n,λb u q _=>?_,λb xs q=>by rw[cZ (hm b _ q λz=>z)];exact q,λb u xs q=>by rw[cZ (hm b _ q λz=>z)];exact q,λb ps q=>⟨#[],by rw[cZ (hm b _ q λz=>z),q];simp⟩⟩
 by_cases hbe:b=e;subst hbe;exact heo;exact⟨u,k b u hbe q⟩
end
def trk(h:df)(H:Hp):List aj:=(List.range h.objs.size).filter λa=>(H a).isSome
def NM(h:df)(H:Hp):df:=Gx h (trk h H)
theorem Wa(h:df)(H:Hp):(NM h H).objs.size=h.objs.size:=PySem.W.hideAll_size _ _
theorem Yp{h:df}{H:Hp}{b:aj}{o:Obj}(e:h.get? b=ae o)(n:H b=ay):(NM h H).get? b=ae o:=R_ _ e λhm=>by
  have q:(H b).isSome=true:=(aW.mp hm).2;rw[n] at q;simp at q
theorem aa5{h:df}{H:Hp}{b:aj}{o:Obj}(e:(NM h H).get? b=ae o):h.get? b=ae o/\H b=ay:=by
 have e':h.get? b=ae o:=SV (trk h H) e;refine⟨e',?_⟩;cases q:H b with
 |none=>rfl
 |some x=>
  have hm:b∈trk h H:=aW.mpr ⟨List.mem_range.mpr (bN e'),by simp[q]⟩;have z:(NM h H).get? b=ay:=PySem.W.hideAll_none (trk h H) hm;rw[z] at e;cases e
end L2
namespace L2
open PySem PySem.Spec PyProof.Rows
structure Mod(K:au)(mg:Str->Option ax)(base:df):Prop where
 kin:K.In base
 glob:base.Ns l_ mg
 blt:∃mb,base.Ns builtinsNs mb/\∀x:Str,x≠"__name__"->mb x=bootBuiltins x
 nolimit:base.NoLimit
structure Cx where
 prog:bg
 w:cn
 K:au
 mg:Str->Option ax
 base:df
 A:Around
 N:List Str
 MC:aE
 H_0:Hp
 env:Env
 outer:List Env
 stack:List Env
 ex:List aj
 fn:Str->Bool
 calm:Bool
 pn:List (aj×Obj)
 xe:ax->aE->Prop
def Ey(l:List Env):List aj:=l.filterMap (·.frame)
abbrev Cx.fs(X:Cx):List aj:=Ey X.outer
def Vis(sc:m_)(x:Str):Prop:=sc.names.lookup x=ae .local\/sc.names.lookup x=ae .cell\/sc.names.lookup x=ae .free
def Loc(sc:m_)(x:Str):Prop:=sc.names.lookup x=ae .local\/sc.names.lookup x=ae .cell
def Look(env:Env)(h:df)(m:Str->Option ax)(x:Str)(u:ax):Prop:=(env.kindOf x=ae .local/\m x=ae u)\/((env.kindOf x=ae .cell\/env.kindOf x=ae .free)/\∃c,env.cells.lookup x=ae c/\h.IsCell c (ae u))
structure Cx.Ok(X:Cx):Prop where
 mod:Mod X.K X.mg X.base
 kind:X.env.scope.kind= .function
 glob:X.env.globals=l_
 blt:X.env.builtins=builtinsNs
 above:X.MC.heap.objs.size<=X.env.locals
 inj:∀x y c,X.env.cells.lookup x=ae c->X.env.cells.lookup y=ae c->x=y
 has:∀x,(X.env.kindOf x=ae .cell\/X.env.kindOf x=ae .free)->∃c,X.env.cells.lookup x=ae c
 cab:∀x c,X.fn x=true->X.env.cells.lookup x=ae c->X.MC.heap.objs.size<=c
 hd:X.calm=true->X.A.handled=ay
 frames:X.A.frames=ae X.stack
 xP:X.stack=X.outer\/(X.stack=X.env::X.outer/\X.env.frame=ae X.env.locals)
 exf:∀b∈X.ex,b≠X.env.locals/\∀x c,X.env.cells.lookup x=ae c->c≠b
 bs:∀b o,X.base.get? b=ae o->X.MC.heap.get? b=ae o/\X.H_0 b=ay
 Yq:X.base.objs.size<=X.MC.heap.objs.size
 S':∀b o,X.base.get? b=ae o->b∉X.ex
 Ta:∀b∈X.ex,b∉X.fs
 C3:X.MC.heap.FunFrames X.base X.outer
 frf:∀b∈X.fs,X.H_0 b=ay
structure Inv(X:Cx)(pins:List (aj×Obj))(σ:List (Option V))(H:Hp)(s:aE):Prop where
 ok:X.Ok
 os:s.os=X.MC.os
 bare:yj s.gens
 base:Un X.fs X.ex X.H_0 H X.MC.heap s.heap
 loc:∃m,s.heap.Ns X.env.locals m/\∀(i:Nat) (x:Str) (v:V),X.N[i]? =ae x->σ[i]? =ae (ae v)->Vis X.env.scope x->∃u,RelV v u/\Look X.env s.heap m x u
 cell:∀x c,X.env.cells.lookup x=ae c->∃v,s.heap.IsCell c v
 free:H X.env.locals=ay
 rX:∀x c,X.env.cells.lookup x=ae c->H c=ay
 pin:∀p∈X.pn++pins,s.heap.get? p.1=ae p.2/\H p.1=ay/\p.1≠X.env.locals/\p.1∉X.fs/\∀v,p.2.data≠ .cell v
 gB:xl X.prog X.w H s.heap
 len:σ.length=X.N.length
section
variable{X:Cx}{pins:List (aj×Obj)}{σ:List (Option V)}{H H':Hp}{s:aE}{h':df}
theorem Cx.Ok.aib(ok:X.Ok){b:aj}{o:Obj}(e:X.base.get? b=ae o):b∉X.fs:=λhb=>by
 have:=(ok.C3.mem hb).1;rw[e] at this;cases this
theorem Inv.bs(I:Inv X pins σ H s):∀b o,X.base.get? b=ae o->s.heap.get? b=ae o/\H b=ay:=λb o e=>
 ⟨I.base.keep b o (I.ok.bs b o e).1 (I.ok.bs b o e).2 (I.ok.aib e) (I.ok.S' b o e),I.base.free b o (I.ok.bs b o e).1 (I.ok.bs b o e).2 (I.ok.S' b o e)⟩
theorem Inv.bk(I:Inv X pins σ H s):∀b o,X.base.get? b=ae o->s.heap.get? b=ae o:=λb o e=>(I.bs b o e).1
theorem Inv.mod(I:Inv X pins σ H s):Mod X.K X.mg X.base:=I.ok.mod
theorem Inv.P2(I:Inv X pins σ H s):X.K.In s.heap:=I.ok.mod.kin.keeps I.bk
theorem Inv.lt(I:Inv X pins σ H s):X.env.locals<s.heap.objs.size:=let ⟨_,hn,_⟩:=I.loc;hn.lt
theorem Inv.sz(I:Inv X pins σ H s):X.MC.heap.objs.size<=s.heap.objs.size:=bX I.ok.above (SW I.lt)
theorem Inv.aic(I:Inv X pins σ H s){a:aj}(h:s.heap.objs.size<=a):a∉X.fs:=λhb=>by
 obtain⟨_,o,ho,_⟩:=I.ok.C3.mem hb;exact bM (cS (bN ho) (bX I.sz h)) (fX _)
theorem Inv.cne(I:Inv X pins σ H s):∀x c,X.env.cells.lookup x=ae c->c≠X.env.locals:=λx c e z=>by
 obtain⟨v,o,ho,hd⟩:=I.cell x c e;obtain⟨m,⟨o',es,ep,P4,Wb,_⟩,_⟩:=I.loc;rw[z,P4] at ho;cases ho;rw[Wb] at hd;cases hd
theorem Inv.C3(I:Inv X pins σ H s):s.heap.FunFrames X.base X.outer:=by
 have all:∀(l:List Env),(∀b∈Ey l,b∈X.fs)->X.MC.heap.FunFrames X.base l->s.heap.FunFrames X.base l:=by
  intro l;induction l with
  |nil=>intro _ _;trivial
  |cons env r ih=>
   intro hs hl;obtain⟨hk,⟨L,o,hf,hn,ho,hd⟩,hr⟩:=hl;have hL:L∈X.fs:=hs L (by unfold Ey;rw[CT,hf];exact aB);obtain⟨sl,e⟩:=I.base.slot L o ho (I.ok.frf L hL) hL λz=>I.ok.Ta L z hL;exact⟨hk,⟨L,_,hf,hn,e,hd⟩,ih (λb hb=>hs b (by unfold Ey;rw[CT,hf];exact aC _ hb)) hr⟩
 exact all X.outer (λ_ hb=>hb) I.ok.C3
theorem Inv.stack(I:Inv X pins σ H s):s.heap.FunFrames X.base X.stack:=by
 obtain e|⟨e,hf⟩:=I.ok.xP
 rw[e];exact I.C3;rw[e];obtain⟨m,hn,_⟩:=I.loc;refine .cons (by rw[I.ok.kind];decide) hf hn ?_ I.C3;exact Heap.get?_none_of_le (bX I.ok.Yq I.ok.above)
theorem Inv.NP(I:Inv X pins σ H s):∀b∈Ey X.stack,b∈X.env.locals::X.fs:=λb hb=>by
 obtain e|⟨e,hf⟩:=I.ok.xP
 rw[e] at hb;exact aC _ hb;rw[e] at hb;unfold Ey at hb;rw[CT,hf] at hb;exact hb
theorem Inv.HY(I:Inv X pins σ H s):∀b∈Ey X.stack,H b=ay:=λb hb=>by
 obtain e|hb:=aF.mp (I.NP b hb)
 rw[e];exact I.free;obtain⟨_,o,ho,_⟩:=I.ok.C3.mem hb;exact I.base.free b o ho (I.ok.frf b hb) λz=>I.ok.Ta b z hb
theorem Inv.step{g':Array GenState}{t':Nat}{d':Drawn}{ch:List aj}(I:Inv X pins σ H s)(FQ:∀b∈ch,(b∈X.ex\/X.MC.heap.objs.size<=b)/\b≠X.env.locals/\(∀x c,X.env.cells.lookup x=ae c->c≠b)/\∀p∈X.pn++pins,p.1≠b)(keep:∀b o,b≠X.env.locals->b∉X.fs->b∉ch->s.heap.get? b=ae o->H b=ay->h'.get? b=ae o)(slot:∀b o,b≠X.env.locals->b∈X.fs->b∉ch->s.heap.get? b=ae o->H b=ay->∃sl,h'.get? b=ae {o with slots:=sl})(free:∀b o,b∉ch->s.heap.get? b=ae o->H b=ay->H' b=ay)(there:∀b o,b∉ch->s.heap.get? b=ae o->∃o',h'.get? b=ae o')(Lp:∀b xs,H b=ae (.tup xs)->H' b=ae (.tup xs))(GK:∀b o u,H b=ae (.jq o u)->H' b=ae (.jq o u))(Lq:∀b ps,H b=ae (.tbl ps)->∃more,H' b=ae (.tbl (ps++more)))(ns:∀m,s.heap.Ns X.env.locals m->h'.Ns X.env.locals m)(gB:xl X.prog X.w H' h')(hg:yj g'):Inv X pins σ H' {s with heap:=h',gens:=g',drawn:=d',toks:=t'}:=by
 have neL:∀b o,X.MC.heap.get? b=ae o->b≠X.env.locals:=λb o e=>dR (cS (bN e) I.ok.above);have neC:∀b o,X.MC.heap.get? b=ae o->b∉X.ex->b∉ch:=λb o e hx hb=>by
  obtain z|z:=(FQ b hb).1
  exact hx z;exact bM (cS (bN e) z) (fX _)
 have cellK:∀x c,X.env.cells.lookup x=ae c->∀v,s.heap.IsCell c v->h'.IsCell c v:=λx c e v ⟨o,ho,hd⟩=>by
  have nch:c∉ch:=λz=>(FQ c z).2.2.1 x c e rfl;by_cases hc:c∈X.fs;obtain⟨sl,q⟩:=slot c o (I.cne x c e) hc nch ho (I.rX x c e);exact⟨_,q,hd⟩;exact⟨o,keep c o (I.cne x c e) hc nch ho (I.rX x c e),hd⟩
 refine⟨I.ok,I.os,hg,⟨λb o e n hb hx=>?_,λb o e n hb hx=>?_,λb o e n hx=>?_,λb o e hx=>?_,λb xs e=>Lp b xs (I.base.Lp b xs e),λb o xs e=>GK b o xs (I.base.GK b o xs e),λb ps e=>?_⟩,?_,λx c e=>?_,?_,λx c e=>?_,λp hp=>?_,gB,I.len⟩;exact keep b o (neL b o e) hb (neC b o e hx) (I.base.keep b o e n hb hx) (I.base.free b o e n hx);obtain⟨sl,e1⟩:=I.base.slot b o e n hb hx;obtain⟨sl',e2⟩:=slot b _ (neL b o e) hb (neC b o e hx) e1 (I.base.free b o e n hx);exact⟨sl',e2⟩;obtain⟨o',e1⟩:=I.base.there b o e hx;exact free b o' (neC b o e hx) e1 (I.base.free b o e n hx);obtain⟨o',e1⟩:=I.base.there b o e hx;exact there b o' (neC b o e hx) e1;obtain⟨m1,e1⟩:=I.base.Lq b ps e;obtain⟨m2,e2⟩:=Lq b _ e1;exact⟨m1++m2,by rw[e2,Array.append_assoc]⟩
 ·obtain⟨m,hn,hl⟩:=I.loc;refine⟨m,ns m hn,λi x v e1 e2 e3=>?_⟩;obtain⟨u,r,l⟩:=hl i x v e1 e2 e3;refine⟨u,r,?_⟩;obtain l|⟨k,c,e,z⟩:=l
  exact .inl l;exact .inr ⟨k,c,e,cellK x c e _ z⟩
 obtain⟨v,z⟩:=I.cell x c e;exact⟨v,cellK x c e v z⟩;obtain⟨m,⟨o,_,_,ho,_⟩,_⟩:=I.loc;exact free _ o (λz=>(FQ _ z).2.1 rfl) ho I.free;obtain⟨v,o,ho,hd⟩:=I.cell x c e;exact free c o (λz=>(FQ c z).2.2.1 x c e rfl) ho (I.rX x c e);obtain⟨e,n,ne,nf,d⟩:=I.pin p hp;have nch:p.1∉ch:=λz=>(FQ p.1 z).2.2.2 p hp rfl;exact⟨keep p.1 p.2 ne nf nch e n,free p.1 p.2 nch e n,ne,nf,d⟩
theorem Inv.un{t':Nat}(I:Inv X pins σ H s)(u:Un X.fs [] H H' s.heap h')(gB:xl X.prog X.w H' h'):Inv X pins σ H' {s with heap:=h',toks:=t'}:=by
 obtain⟨m,⟨o,es,ep,ho,r⟩,_⟩:=id I.loc;obtain⟨sl,hL⟩:=u.any ho I.free (by simp);exact I.step (g':=s.gens) (d':=s.drawn) (ch:=[]) (λ_ z=>nomatch z) (λb o _ hb _ e n=>u.keep b o e n hb (by simp)) (λb o _ hb _ e n=>u.slot b o e n hb (by simp)) (λb o _ e n=>u.free b o e n (by simp)) (λb o _ e=>u.there b o e (by simp)) u.Lp u.GK u.Lq (λm' hm=>by
  obtain⟨o',NQ,Sq,P4,r'⟩:=hm;rw[ho] at P4;cases P4;exact⟨_,NQ,Sq,hL,r'⟩) gB I.bare
theorem Inv.call{g':Array GenState}{t':Nat}{d':Drawn}{ch:List aj}(I:Inv X pins σ H s)(u:Un (Ey X.stack) ch H H' s.heap h')(gB:xl X.prog X.w H' h')(hg:yj g')(FQ:∀b∈ch,(b∈X.ex\/X.MC.heap.objs.size<=b)/\b≠X.env.locals/\(∀x c,X.env.cells.lookup x=ae c->c≠b)/\∀p∈X.pn++pins,p.1≠b):Inv X pins σ H' {s with heap:=h',gens:=g',drawn:=d',toks:=t'}:=by
 obtain⟨m,⟨o,es,ep,ho,r⟩,_⟩:=id I.loc;obtain⟨sl,hL⟩:=u.any ho I.free λz=>(FQ _ z).2.1 rfl;exact I.step (ch:=ch) FQ (λb o hL hb hc e n=>u.keep b o e n (λz=>(aF.mp (I.NP b z)).elim hL hb) hc) (λb o _ _ hc e n=>u.any e n hc) (λb o hc e n=>u.free b o e n hc) (λb o hc e=>u.there b o e hc) u.Lp u.GK u.Lq (λm' hm=>by
  obtain⟨o',NQ,Sq,P4,r'⟩:=hm;rw[ho] at P4;cases P4;exact⟨_,NQ,Sq,hL,r'⟩) gB hg
theorem Inv.turned{t':Nat}{it:aj}(I:Inv X pins σ H s)(k:∀b o,b≠it->s.heap.get? b=ae o->h'.get? b=ae o)(hn:H it=ay)(hL:it≠X.env.locals)(h1:it∈X.ex\/X.MC.heap.objs.size<=it)(h2:∀x c,X.env.cells.lookup x=ae c->c≠it)(h3:∀p∈X.pn++pins,p.1≠it):Inv X pins σ H {s with heap:=h',toks:=t'}:=by
 have nit:∀b u,H b=ae u->b≠it:=λb u e z=>by rw[z,hn] at e;cases e
 refine I.step (g':=s.gens) (d':=s.drawn) (ch:=[it]) (λb hb=>?_) (λb o _ _ hc e _=>k b o (λz=>hc (by simp[z])) e) (λb o _ _ hc e _=>⟨o.slots,k b o (λz=>hc (by simp[z])) e⟩) (λ_ _ _ _ n=>n) (λb o hc e=>⟨o,k b o (λz=>hc (by simp[z])) e⟩) (λ_ _ e=>e) (λ_ _ _ e=>e) (λb ps e=>⟨#[],by rw[e];simp⟩) (λm hm=>?_) (λb u e=>?_) I.bare
 ·have e:b=it:=by simpa using hb
  subst e;exact⟨h1,hL,h2,h3⟩
 obtain⟨o,es,ep,ho,r⟩:=hm;exact⟨o,es,ep,k _ o (gA hL) ho,r⟩
 ·refine(I.gB b u e).yi (λc v hc q=>k c v ?_ q) (λ_ q=>q) λ_ _ q=>q;obtain z|z:=hc
  rw[z];exact nit b u e;exact nit c _ z
theorem Inv.tok(I:Inv X pins σ H s)(t:Nat):Inv X pins σ H {s with toks:=t}:=I.un (h':=s.heap) (t':=t) Un.refl I.gB
theorem Inv.kept{t':Nat}(I:Inv X pins σ H s)(k:∀b u,s.heap.get? b=ae u->h'.get? b=ae u):Inv X pins σ H {s with heap:=h',toks:=t'}:=I.un (Un.kept k) (I.gB.kept k)
theorem Inv.laid{a:aj}{o:HO}{t':Nat}(I:Inv X pins σ H s)(k:∀b u,s.heap.get? b=ae u->h'.get? b=ae u)(hp:s.heap.objs.size<=a)(new:jv X.prog X.w (upd H a o) h' a o):Inv X pins σ (upd H a o) {s with heap:=h',toks:=t'}:=I.un (Un.laid k hp (I.gB.fresh hp)) (I.gB.laid k hp new)
theorem Inv.write{x e:aj}{o:HO}{t':Nat}(I:Inv X pins σ H s)(mu:Mut (H x))(he:e=x\/H e=ae (.own x))(k:∀b u,b≠e->s.heap.get? b=ae u->h'.get? b=ae u)(heo:∃u,h'.get? e=ae u)(new:jv X.prog X.w (upd H x o) h' x o):Inv X pins σ (upd H x o) {s with heap:=h',toks:=t'}:=I.un (Un.write mu he k heo) (I.gB.write mu he k heo new)
theorem Inv.weak{σ':List (Option V)}(I:Inv X pins σ H s)(hl:σ'.length=σ.length)(w:∀(i:Nat) v,σ'[i]? =ae (ae v)->σ[i]? =ae (ae v)):Inv X pins σ' H s:=⟨I.ok,I.os,I.bare,I.base,let ⟨m,hn,sZ⟩:=I.loc;⟨m,hn,λi x v e1 e2 e3=>sZ i x v e1 (w i v e2) e3⟩,I.cell,I.free,I.rX,I.pin,I.gB,hl.trans I.len⟩
theorem Inv.UL{acu:List (aj×Obj)}(I:Inv X pins σ H s)(h:∀p∈acu,s.heap.get? p.1=ae p.2/\H p.1=ay/\p.1≠X.env.locals/\p.1∉X.fs/\∀v,p.2.data≠ .cell v):Inv X acu σ H s:=⟨I.ok,I.os,I.bare,I.base,I.loc,I.cell,I.free,I.rX,λp hp=>(aP.mp hp).elim (λz=>I.pin p (bO _ z)) (h p),I.gB,I.len⟩
theorem IG{N:List Str}(hN:N.Nodup){i j:Nat}{x:Str}(a:N[i]? =ae x)(b:N[j]? =ae x):i=j:=by
 obtain⟨h1,e1⟩:=dj.mp a;obtain⟨h2,e2⟩:=dj.mp b;exact(HL hN).mp (e1.trans e2.symm)
theorem MD{M:Model}{A:Around}{E:ax->aE->Prop}{i:Nat}{x:Str}{v:V}{u:ax}{Q:Unit->aE->Prop}(I:Inv X pins σ H s)(hN:X.N.Nodup)(hi:X.N[i]? =ae x)(hx:Loc X.env.scope x)(r:RelV v u)(h:∀s',Inv X pins (σ.set i (ae v)) H s'->(∃a,nU a s.heap s'.heap/\(a=X.env.locals\/X.env.cells.lookup x=ae a))->Q () s')(hf:X.fn x=true\/X.env.scope.names.lookup x=ae .local:=by first|exact .inl rfl|exact .inr rfl|assumption):bR M A (storeName X.env x u) Q E s:=by
 obtain⟨m,hn,hl⟩:=id I.loc;have aie:(X.env.scope.kind== .class||(X.env.scope.kind== .module&&X.env.locals !=X.env.globals))=false:=by rw[I.ok.kind];rfl
 have hiσ:i<σ.length:=by rw[I.len];exact(dj.mp hi).1
 have cne:=I.cne;have tracked:∀{a:aj} {h':df},(∃o,s.heap.get? a=ae o/\H a=ay)->nU a s.heap h'->xl X.prog X.w H h':=λ{a h'} ha hs b ob e=>by
  obtain⟨_,_,MF⟩:=ha;refine(I.gB b ob e).yi (λc w' hc q=>(hs.2 c ?_).trans q) (λ_ q=>q) λ_ _ q=>q;rintro rfl;obtain rfl|hc:=hc
  rw[MF] at e;cases e;rw[MF] at hc;cases hc
 obtain hk|hk:=hx
 ·refine wpAny_storeName_local hk hn (λh' Tb hs=>?_) aie;obtain⟨oL,_,_,hoL,_⟩:=id hn;refine h _ ⟨I.ok,I.os,I.bare,⟨λb o e n hb hx=>?_,λb o e n hb hx=>?_,I.base.free,λb o e hx=>?_,I.base.Lp,I.base.GK,I.base.Lq⟩,⟨_,Tb,λj y v' e1 e2 e3=>?_⟩,λy c e=>?_,I.free,I.rX,λp hp=>?_,tracked ⟨oL,hoL,I.free⟩ hs,by simpa using I.len⟩ ⟨_,hs,.inl rfl⟩;exact(hs.2 b (dR (cS (bN e) I.ok.above))).trans (I.base.keep b o e n hb hx);obtain⟨sl,e1⟩:=I.base.slot b o e n hb hx;exact⟨sl,(hs.2 b (dR (cS (bN e) I.ok.above))).trans e1⟩;obtain⟨o',e1⟩:=I.base.there b o e hx;exact⟨o',(hs.2 b (dR (cS (bN e) I.ok.above))).trans e1⟩
  ·by_cases hj:j=i;subst hj;rw[hi] at e1;cases e1;rw[yk hiσ] at e2;cases e2;exact⟨u,r,.inl ⟨hk,by simp⟩⟩
   ·rw[Bg (gA hj)] at e2;obtain⟨u',r',q⟩:=hl j y v' e1 e2 e3;refine⟨u',r',?_⟩;obtain⟨k,e⟩|⟨k,c,e,z⟩:=q
    refine .inl ⟨k,?_⟩;have:y≠x:=λe=>hj (IG hN e1 (e▸hi));simp[this,e];exact .inr ⟨k,c,e,z.sameBut hs (cne y c e)⟩
  obtain⟨w',z⟩:=I.cell y c e;exact⟨w',z.sameBut hs (cne y c e)⟩;obtain⟨e,n,ne,nf,d⟩:=I.pin p hp;exact⟨(hs.2 p.1 ne).trans e,n,ne,nf,d⟩
 ·have hfn:X.fn x=true:=by
   obtain z|z:=hf
   exact z;rw[z] at hk;cases hk
  obtain⟨c,hc⟩:=I.ok.has x (.inl hk);obtain⟨w',z⟩:=I.cell x c hc;refine wpAny_storeName_cell I.ok.kind hk hc z (λh' vM hs=>?_);obtain⟨oc,hoc,aif⟩:=id z;refine h {s with heap:=h'} ⟨I.ok,I.os,I.bare,⟨λb o e n hb hx=>?_,λb o e n hb hx=>?_,I.base.free,λb o e hx=>?_,I.base.Lp,I.base.GK,I.base.Lq⟩,⟨m,hn.sameBut hs (gA (cne x c hc)),λj y v' e1 e2 e3=>?_⟩,λy c' e=>?_,I.free,I.rX,λp hp=>?_,tracked ⟨oc,hoc,I.rX x c hc⟩ hs,by simpa using I.len⟩ ⟨c,hs,.inr hc⟩;exact(hs.2 b (dR (cS (bN e) (I.ok.cab x c hfn hc)))).trans (I.base.keep b o e n hb hx);obtain⟨sl,e1⟩:=I.base.slot b o e n hb hx;exact⟨sl,(hs.2 b (dR (cS (bN e) (I.ok.cab x c hfn hc)))).trans e1⟩;obtain⟨o',e1⟩:=I.base.there b o e hx;exact⟨o',(hs.2 b (dR (cS (bN e) (I.ok.cab x c hfn hc)))).trans e1⟩
  ·by_cases hj:j=i;subst hj;rw[hi] at e1;cases e1;rw[yk hiσ] at e2;cases e2;exact⟨u,r,.inr ⟨.inl hk,c,hc,vM⟩⟩
   ·rw[Bg (gA hj)] at e2;obtain⟨u',r',q⟩:=hl j y v' e1 e2 e3;refine⟨u',r',?_⟩;obtain q|⟨k,c',e,z'⟩:=q
    exact .inl q;refine .inr ⟨k,c',e,z'.sameBut hs ?_⟩;rintro rfl;exact hj (IG hN e1 (I.ok.inj _ _ _ e hc▸hi))
  ·by_cases hcc:c'=c;subst hcc;exact⟨_,vM⟩;obtain⟨w2,z2⟩:=I.cell y c' e;exact⟨w2,z2.sameBut hs hcc⟩
  obtain⟨e,n,ne,nf,d⟩:=I.pin p hp;refine⟨(hs.2 p.1 ?_).trans e,n,ne,nf,d⟩;intro q;rw[q,hoc] at e;have q':oc=p.2:=bF e;exact d w' (by rw[<-q'];exact aif)
theorem P5{M:Model}{A:Around}{E:ax->aE->Prop}{i:Nat}{x:Str}{v:V}{u:ax}{Q:Unit->aE->Prop}(I:Inv X pins σ H s)(hN:X.N.Nodup)(hi:X.N[i]? =ae x)(hx:Loc X.env.scope x)(r:RelV v u)(h:∀s',Inv X pins (σ.set i (ae v)) H s'->Q () s')(hf:X.fn x=true\/X.env.scope.names.lookup x=ae .local:=by first|exact .inl rfl|exact .inr rfl|assumption):bR M A (storeName X.env x u) Q E s:=MD I hN hi hx r (λs' I' _=>h s' I') hf
theorem Inv.acv{s':aE}{ch:List aj}(I:Inv X pins σ H s)(ho:s'.os=s.os)(u:Un (Ey X.stack) ch H H' s.heap s'.heap)(gB:xl X.prog X.w H' s'.heap)(hg:yj s'.gens)(FQ:∀b∈ch,(b∈X.ex\/X.MC.heap.objs.size<=b)/\b≠X.env.locals/\(∀x c,X.env.cells.lookup x=ae c->c≠b)/\∀p∈X.pn++pins,p.1≠b):Inv X pins σ H' s':=by
 obtain⟨h',g',d',t',o'⟩:=s';have e:o'=s.os:=ho;subst e;exact I.call (g':=g') (t':=t') (d':=d') u gB hg FQ
end
abbrev XK:=ax->Option aj->Hp->Prop
abbrev St:=List (Option V)
abbrev VK:=V->Hp->Prop
abbrev TE:=St->Hp->VK->Prop
abbrev TT:=St->Hp->(Bool->Hp->Prop)->Prop
abbrev TA:=St->Hp->(List V->Hp->Prop)->Prop
structure Ends where
 nx:St->Hp->Prop
 rt:VK
 bk:St->Hp->Prop:=λ_ _=>False
 ct:St->Hp->Prop:=λ_ _=>False
abbrev TS:=Ends->St->Hp->Prop
def EP(X:Cx)(pins:List (aj×Obj))(σ:St)(Q:VK)(u:ax)(s':aE):Prop:=∃v H',Inv X pins σ H' s'/\RelV v u/\Q v H'
def TP(X:Cx)(pins:List (aj×Obj))(σ:St)(Q:Bool->Hp->Prop)(b:Bool)(s':aE):Prop:=∃H',Inv X pins σ H' s'/\Q b H'
def AP(X:Cx)(pins:List (aj×Obj))(σ:St)(Q:List V->Hp->Prop)(us:List ax)(s':aE):Prop:=∃vs H',Inv X pins σ H' s'/\fj vs us/\Q vs H'
def SP(X:Cx)(pins:List (aj×Obj))(D:Ends)(f:Flow)(s':aE):Prop:=match f with
 | .next=>∃σ' H',Inv X pins σ' H' s'/\D.nx σ' H'
 | .brk=>∃σ' H',Inv X pins σ' H' s'/\D.bk σ' H'
 | .cont=>∃σ' H',Inv X pins σ' H' s'/\D.ct σ' H'
 | .ret u=>∃v σ' H',Inv X pins σ' H' s'/\RelV v u/\D.rt v H'
def PE(X:Cx)(e:eJ)(t:TE):Prop:=∀(pins:List (aj×Obj)) (s:aE) (σ:St) (H:Hp) (Q:VK),Inv X pins σ H s->t σ H Q->bR (cG X.prog X.w) X.A (eval e X.env) (EP X pins σ Q) X.xe s
def PT(X:Cx)(e:eJ)(t:TT):Prop:=∀(pins:List (aj×Obj)) (s:aE) (σ:St) (H:Hp) (Q:Bool->Hp->Prop),Inv X pins σ H s->t σ H Q->bR (cG X.prog X.w) X.A (isTrue e X.env (eval e X.env)) (TP X pins σ Q) X.xe s
def PW(X:Cx)(e:eJ)(t:TT):Prop:=∀(whole:Sem ax) (pins:List (aj×Obj)) (s:aE) (σ:St) (H:Hp) (Q:Bool->Hp->Prop),Inv X pins σ H s->t σ H Q->bR (cG X.prog X.w) X.A (isTrue e X.env whole) (TP X pins σ Q) X.xe s
theorem PW.pt{X:Cx}{e:eJ}{t:TT}(h:PW X e t):PT X e t:=h _
def PA(X:Cx)(es:List eJ)(t:TA):Prop:=∀(pos:Pos) (pins:List (aj×Obj)) (s:aE) (σ:St) (H:Hp) (Q:List V->Hp->Prop),Inv X pins σ H s->t σ H Q->bR (cG X.prog X.w) X.A (spliced (backTo pos (starEach es X.env))) (AP X pins σ Q) X.xe s
def PS(X:Cx)(st:dX)(t:TS):Prop:=∀(pins:List (aj×Obj)) (s:aE) (σ:St) (H:Hp) (D:Ends),Inv X pins σ H s->t D σ H->bR (cG X.prog X.w) X.A (exec st X.env) (SP X pins D) X.xe s
def Sr(X:Cx)(st:List dX)(t:TS):Prop:=∀(pins:List (aj×Obj)) (s:aE) (σ:St) (H:Hp) (D:Ends),Inv X pins σ H s->t D σ H->bR (cG X.prog X.w) X.A (execs st X.env) (SP X pins D) X.xe s
theorem iU{α:Type}{t:Sem α}{Q Q':α->aE->Prop}{M:Model}{A:Around}{E:ax->aE->Prop}{s:aE}(h:bR M A t Q E s)(hQ:∀a s,Q a s->Q' a s):bR M A t Q' E s:=iG h hQ λ_ _ x=>x
end L2
namespace L2
open PySem PySem.Spec PyProof.Rows
section
variable{X:Cx}
def EF(i:Nat):TE:=λσ H Q=>∃v,σ[i]? =ae (ae v)/\Q v H
def tC(v:V):TE:=λ_ H Q=>Q v H
theorem adt{i:Nat}{x:Str}{pos:Pos}(hN:X.N[i]? =ae x)(hv:Vis X.env.scope x)(hd:(x==("__debug__":Str))=false:=by decide)(hcd:(x==("__classdict__":Str))=false:=by decide):PE X (.Name x pos) (EF i):=by
 intro pins s σ H Q I h;obtain⟨v,e,h⟩:=h;obtain⟨m,hn,hl⟩:=I.loc;obtain⟨u,r,l⟩:=hl i x v hN e hv;have fin:EP X pins σ Q u s:=⟨v,H,I,r,h⟩;obtain⟨hk,hm⟩|⟨hk,c,hc,acw⟩:=l
 exact wpAny_Name (wpAny_loadName_local I.ok.kind hk hn hm fin) hd
 ·obtain hk|hk:=hk
  exact wpAny_Name (wpAny_loadName_cell I.ok.kind hk hc acw fin) hd;exact wpAny_Name (wpAny_loadName_free I.ok.kind hk hc acw fin hcd) hd
theorem aQ{i j pos}:PE X (.Constant (.int i) j pos) (tC (.int i)):=λ_ _ _ H _ I h=>wpAny_Constant_int ⟨.int i,H,I.tok _,⟨_,rfl⟩,h⟩
theorem II{b j pos}:PE X (.Constant (.bool b) j pos) (tC (.bl b)):=λ_ _ _ H _ I h=>Constant_bool ⟨.bl b,H,I,rfl,h⟩
theorem IJ{x j pos}:PE X (.Constant (.str x) j pos) (tC (.str x)):=λ_ _ _ H _ I h=>Calls.Constant_str ⟨.str x,H,I.tok _,⟨_,rfl⟩,h⟩
def Gl(X:Cx)(x:Str):Prop:=X.env.kindOf x=ae .globalImplicit
theorem Aj{E:ax->aE->Prop}{pins:List (aj×Obj)}{s:aE}{σ:St}{H:Hp}{x:Str}{u:ax}{pos:Pos}{Q:ax->aE->Prop}(I:Inv X pins σ H s)(hg:Gl X x)(hm:X.mg x=ae u)(h:Q u s)(hd:(x==("__debug__":Str))=false:=by decide):bR (cG X.prog X.w) X.A (eval (.Name x pos) X.env) Q E s:=Lf I.ok.kind hg (Calls.loadGlobal_global (by rw[I.ok.glob];exact I.mod.glob.keeps I.bk) hm h) hd
theorem EG{E:ax->aE->Prop}{pins:List (aj×Obj)}{s:aE}{σ:St}{H:Hp}{x:Str}{u:ax}{pos:Pos}{Q:ax->aE->Prop}(I:Inv X pins σ H s)(hg:Gl X x)(hm:X.mg x=ay)(hv:bootBuiltins x=ae u)(h:Q u s)(hn:x≠"__name__":=by decide)(hd:(x==("__debug__":Str))=false:=by decide):bR (cG X.prog X.w) X.A (eval (.Name x pos) X.env) Q E s:=by
 obtain⟨mb,h1,h2⟩:=I.mod.blt;exact Lf I.ok.kind hg (Calls.loadGlobal_builtin (by rw[I.ok.glob];exact I.mod.glob.keeps I.bk) hm (by rw[I.ok.blt];exact h1.keeps I.bk) ((h2 x hn).trans hv) h) hd
theorem UM{x:Str}{v:V}{u:ax}{pos:Pos}(hg:Gl X x)(hm:X.mg x=ae u)(r:RelV v u)(hd:(x==("__debug__":Str))=false:=by decide):PE X (.Name x pos) (tC v):=λ_ _ _ H _ I h=>Aj I hg hm ⟨v,H,I,r,h⟩ hd
variable{a b:eJ}{ta tb:TE}{pos:Pos}
def PC(X:Cx)(op:X5)(a b:eJ)(t:TE):Prop:=∀(pins:List (aj×Obj)) (s:aE) (σ:St) (H:Hp) (Q:VK),Inv X pins σ H s->t σ H Q->bR (cG X.prog X.w) X.A (eval a X.env) (λv s₁=>bR (cG X.prog X.w) X.A (eval b X.env) (λu s₂=>bR (cG X.prog X.w) X.A (compareOp op v u) (EP X pins σ Q) X.xe s₂) X.xe s₁) X.xe s
def tB(t:TE):TT:=λσ H Q=>t σ H λx H1=>∃c,x= .bl c/\Q c H1
theorem NR{op:X5}{t:TE}(h:PC X op a b t)(h1:behindInMarks op b=false:=by first|exact Yr _ (by decide) (by decide)|rfl):PE X (.Compare a [op] [b] pos) t:=λpins s σ H Q I hw=>wpAny_Compare1 (h pins s σ H Q I hw) h1
theorem kG{op:X5}{t:TE}(h:PC X op a b t)(h1:behindInMarks op b=false:=by first|exact Yr _ (by decide) (by decide)|rfl):PT X (.Compare a [op] [b] pos) (tB t):=by
 intro pins s σ H Q I hw;refine aaE (iU (h pins s σ H _ I hw) λv s1 h1=>iU h1 λu s2 h2=>iU h2 λc s3 ⟨x,H1,I1,r1,q1⟩=>?_) h1;obtain⟨d,rfl,q⟩:=q1;cases r1;exact i7 ⟨H1,I1,q⟩
theorem vN{e:eJ}{t:TE}(h:PE X e t)(he:∀whole,isTrue e X.env whole=(do let v<-whole;standAt e.pos;holding [v] (truthy v)):=by intro _;rfl):PT X e (tB t):=by
 intro pins s σ H Q I hw;refine isTrue_plain (iU (h pins s σ H _ I hw) λv s1 ⟨x,H1,I1,r1,q1⟩=>?_) (he _);obtain⟨d,rfl,q⟩:=q1;cases r1;exact i7 ⟨H1,I1,q⟩
variable{tA tB':TT}{rest:List eJ}
def aih(t u:TT):TT:=λσ H Q=>t σ H λc H1=>if c=true then u σ H1 Q else Q false H1
def tOr(t u:TT):TT:=λσ H Q=>t σ H λc H1=>if c=true then Q true H1 else u σ H1 Q
def aii(t:TT):TT:=λσ H Q=>t σ H λc H1=>Q (!c) H1
theorem UN(ha:PT X a tA):PW X (.BoolOp .And [a] pos) tA:=by
 intro wh pins s σ H Q I h;refine isTrue_and (iU (ha pins s σ H Q I h) λc s1 e=>?_);cases c with
 |true=>exact isTrue_and_nil e
 |false=>exact e
theorem NS(ha:PT X a tA):PW X (.BoolOp .Or [a] pos) tA:=by
 intro wh pins s σ H Q I h;refine isTrue_or (iU (ha pins s σ H Q I h) λc s1 e=>?_);cases c with
 |false=>exact isTrue_or_nil e
 |true=>exact e
theorem Tc(ha:PT X a tA)(hb:PW X (.BoolOp .And (b::rest) pos) tB'):PW X (.BoolOp .And (a::b::rest) pos) (aih tA tB'):=by
 intro wh pins s σ H Q I h;refine isTrue_and (iU (ha pins s σ H _ I h) λc s1 ⟨H1,I1,q1⟩=>?_);cases c with
 |true=>exact hb wh pins s1 σ H1 Q I1 q1
 |false=>exact⟨H1,I1,q1⟩
theorem UO(ha:PT X a tA)(hb:PW X (.BoolOp .Or (b::rest) pos) tB'):PW X (.BoolOp .Or (a::b::rest) pos) (tOr tA tB'):=by
 intro wh pins s σ H Q I h;refine isTrue_or (iU (ha pins s σ H _ I h) λc s1 ⟨H1,I1,q1⟩=>?_);cases c with
 |true=>exact⟨H1,I1,q1⟩
 |false=>exact hb wh pins s1 σ H1 Q I1 q1
theorem vO(ha:PT X a tA):PT X (.UnaryOp .Not a pos) (aii tA):=by
 intro pins s σ H Q I h;exact isTrue_not (ha pins s σ H (λc H1=>Q (!c) H1) I h)
def afg(ta tb:TE):TE:=λσ H Q=>ta σ H λx H1=>∃c,x= .bl c/\if c=true then tb σ H1 Q else Q (.bl false) H1
theorem yA{op}{t:TE}(h:PE X a t):PE X (.BoolOp op [a] pos) t:=λpins s σ H Q I hw=>BoolOp_one (h pins s σ H Q I hw)
theorem xm(ha:PE X a ta)(hb:PE X (.BoolOp .And (b::rest) pos) tb):PE X (.BoolOp .And (a::b::rest) pos) (afg ta tb):=by
 intro pins s σ H Q I h;refine BoolOp_and (iU (ha pins s σ H _ I h) λv s1 ⟨x,H1,I1,r1,q1⟩=>?_);obtain⟨c,rfl,q1⟩:=q1;cases r1;refine i7 ?_;cases c with
 |true=>exact hb pins s1 σ H1 Q I1 q1
 |false=>exact⟨.bl false,H1,I1,rfl,q1⟩
end
end L2
namespace L2
open PySem PySem.Spec PyProof.Rows
def dS(K:au)(H:Hp)(a:aj)(xs:List V):Prop:=Rd H a (.lst xs)\/∃(o:Obj) (its:Array ax) (n:Nat),K.lookup a=ae o/\o.cls= .type "list"/\o.dict=ay/\o.data= .seq its n/\its.size<=aM/\fj xs its.toList
def n9(K:au)(H:Hp)(a:aj)(xs:List V):Prop:=Rd H a (.tup xs)\/∃(o:Obj) (its:Array ax) (n:Nat),K.lookup a=ae o/\o.cls= .type "tuple"/\o.data= .seq its n/\its.size<=aM/\fj xs its.toList
def aij:ax->Option V
 | .none=>ae .non
 | .bool b=>ae (.bl b)
 | .int i _=>ae (.int i)
 | .str x _=>ae (.str x)
 | .bytes b _=>ae (.Sn b)
 | .float b _=>ae (.flt b)
 | .ref a=>ae (.ref a)
 | .type n=>ae (.ty n)
 |_=>ay
theorem RelV.abs{x:V}{u:ax}(r:RelV x u):aij u=ae x:=by
 cases x with
 |non=>cases r;rfl
 |bl _=>cases r;rfl
 |int _=>obtain⟨t,rfl⟩:=r;rfl
 |str _=>obtain⟨t,rfl⟩:=r;rfl
 |Sn _=>obtain⟨t,rfl⟩:=r;rfl
 |flt _=>obtain⟨t,rfl⟩:=r;rfl
 |ref _=>cases r;rfl
 |ty _=>cases r;rfl
theorem RelV.inj{x y:V}{u:ax}(r:RelV x u)(q:RelV y u):x=y:=bF (r.abs.symm.trans q.abs)
theorem fj.inj:∀{xs ys:List V} {us:List ax},fj xs us->fj ys us->xs=ys
 |_,_,_,.nil,.nil=>rfl
 |_,_,_,.cons r t,.cons r' t'=>by rw[r.inj r',fj.inj t t']
section
variable{X:Cx}{pins:List (aj×Obj)}{σ:St}{H:Hp}{s:aE}{a:aj}{xs ys:List V}
theorem dS.of{K:au}(h:H a=ae (.lst xs)):dS K H a xs:= .inl (.inl h)
theorem n9.of{K:au}(h:H a=ae (.tup xs)):n9 K H a xs:= .inl (.inl h)
theorem Inv.list(I:Inv X pins σ H s)(h:dS X.K H a xs):∃its:List ax,fj xs its/\PlainL s.heap a its.toArray/\xs.length<=aM:=by
 obtain h|⟨o,its,n,hk,hc,hd,hs,hz,r⟩:=h
 obtain⟨z,its,n,r,e⟩:=h.ok I.gB;exact⟨its,r,⟨_,n,e,rfl,rfl,rfl⟩,z⟩;refine⟨its.toList,r,⟨o,n,I.P2 a o hk,hc,hd,by simpa using hs⟩,?_⟩;have e:=r.length;simp only[g_] at e;omega
theorem Inv.tuple(I:Inv X pins σ H s)(h:n9 X.K H a xs):∃its:List ax,fj xs its/\IsTup s.heap a its.toArray/\xs.length<=aM:=by
 obtain h|⟨o,its,n,hk,hc,hs,hz,r⟩:=h
 obtain⟨z,its,r,p⟩:=h.ok I.gB;exact⟨its,r,p,z⟩;refine⟨its.toList,r,⟨o,I.P2 a o hk,hc,n,by simpa using hs⟩,?_⟩;have e:=r.length;simp only[g_] at e;omega
theorem Inv.P6(I:Inv X pins σ H s)(h:dS X.K H a xs)(h':dS X.K H a ys):xs=ys:=by
 obtain⟨its,r,⟨o,n,e,_,_,d⟩,_⟩:=I.list h;obtain⟨its',r',⟨o',n',e',_,_,d'⟩,_⟩:=I.list h';rw[e] at e';cases e';rw[d] at d';injection d' with d1 _
 have:its=its':=by simpa using congrArg PQ d1
 subst this;exact r.inj r'
theorem Inv.Wc(I:Inv X pins σ H s)(h:n9 X.K H a xs)(h':n9 X.K H a ys):xs=ys:=by
 obtain⟨its,r,⟨o,e,_,n,d⟩,_⟩:=I.tuple h;obtain⟨its',r',⟨o',e',_,n',d'⟩,_⟩:=I.tuple h';rw[e] at e';cases e';rw[d] at d';injection d' with d1 _
 have:its=its':=by simpa using congrArg PQ d1
 subst this;exact r.inj r'
end
abbrev Cx.EH(X:Cx)(E:ax->aE->Prop):Cx:={X with xe:=E}
abbrev Cx.nox(X:Cx):Cx:=X.EH λ_ _=>False
theorem Cx.Ok.EH{X:Cx}(ok:X.Ok)(E:ax->aE->Prop):(X.EH E).Ok:=⟨ok.mod,ok.kind,ok.glob,ok.blt,ok.above,ok.inj,ok.has,ok.cab,ok.hd,ok.frames,ok.xP,ok.exf,ok.bs,ok.Yq,ok.S',ok.Ta,ok.C3,ok.frf⟩
theorem Cx.Ok.yB{X:Cx}{E:ax->aE->Prop}(ok:(X.EH E).Ok):X.Ok:=⟨ok.mod,ok.kind,ok.glob,ok.blt,ok.above,ok.inj,ok.has,ok.cab,ok.hd,ok.frames,ok.xP,ok.exf,ok.bs,ok.Yq,ok.S',ok.Ta,ok.C3,ok.frf⟩
section
variable{X:Cx}{pins:List (aj×Obj)}{σ:St}{H:Hp}{s:aE}{E:ax->aE->Prop}
theorem Inv.EH(I:Inv X pins σ H s)(E:ax->aE->Prop):Inv (X.EH E) pins σ H s:=⟨I.ok.EH E,I.os,I.bare,I.base,I.loc,I.cell,I.free,I.rX,I.pin,I.gB,I.len⟩
theorem Inv.yB(I:Inv (X.EH E) pins σ H s):Inv X pins σ H s:=⟨I.ok.yB,I.os,I.bare,I.base,I.loc,I.cell,I.free,I.rX,I.pin,I.gB,I.len⟩
theorem SP.yB{D:Ends}{f:Flow}{s':aE}(h:SP (X.EH E) pins D f s'):SP X pins D f s':=by
 cases f with
 |next=>obtain⟨σ',H',I,q⟩:=h;exact⟨σ',H',I.yB,q⟩
 |brk=>obtain⟨σ',H',I,q⟩:=h;exact⟨σ',H',I.yB,q⟩
 |cont=>obtain⟨σ',H',I,q⟩:=h;exact⟨σ',H',I.yB,q⟩
 |ret u=>obtain⟨v,σ',H',I,r,q⟩:=h;exact⟨v,σ',H',I.yB,r,q⟩
theorem Sr.nox{st:List dX}{t:TS}(h:Sr X.nox st t):Sr X st t:=λpins s σ H D I hw=>
 iG (h pins s σ H D (I.EH _) hw) (λ_ _ q=>q.yB) λ_ _ z=>gk z
end
section
variable{X:Cx}{st:dX}{rest:List dX}{t u:TS}{e:eJ}{te:TE}{pos:Pos}
def acx:TS:=λD σ H=>D.nx σ H
def rY(t u:TS):TS:=λD σ H=>t {D with nx:=u D} σ H
theorem bY:Sr X [] acx:=λ_ _ σ H _ I h=>vH ⟨σ,H,I,h⟩
theorem ao(h1:PS X st t)(h2:Sr X rest u):Sr X (st::rest) (rY t u):=by
 intro pins s σ H D I h;refine wpAny_execs_cons (iU (h1 pins s σ H {D with nx:=u D} I h) λf s1 q=>?_);cases f with
 |next=>
  obtain⟨σ',H',I',q⟩:=q;exact h2 pins s1 σ' H' D I' q
 |ret v=>exact q
 |brk=>exact q
 |cont=>exact q
theorem aD(h1:PS X st t):Sr X [st] t:=by
 intro pins s σ H D I h;refine wpAny_execs_cons (iU (h1 pins s σ H D I h) λf s1 q=>?_);cases f with
 |next=>exact vH q
 |ret v=>exact q
 |brk=>exact q
 |cont=>exact q
theorem Inv.quiet{pins:List (aj×Obj)}{σ:St}{H:Hp}{s:aE}(I:Inv X pins σ H s):interactive X.env=false:=by simp[interactive,I.ok.kind]
def acy(te:TE):TS:=λD σ H=>te σ H λ_ H1=>D.nx σ H1
theorem cJ(he:PE X e te)(hs:swapsWith e ay pos.line X.env=pure false:=by rfl):PS X (.Expr e pos) (acy te):=by
 intro pins s σ H D I h;exact wpAny_Expr_any (iU (he pins s σ H _ I h) λv s1 ⟨x,H1,I1,r1,q1⟩=>⟨σ,H1,I1,q1⟩) I.quiet hs
def aa9(te:TE):TS:=λD σ H=>te σ H D.rt
theorem bu(he:PE X e te):PS X (.Return (ae e) pos) (aa9 te):=by
 intro pins s σ H D I h;exact wpAny_Return_some (iU (he pins s σ H _ I h) λv s1 ⟨x,H1,I1,r1,q1⟩=>⟨x,σ,H1,I1,r1,q1⟩)
def afh(c:TT)(t u:TS):TS:=λD σ H=>c σ H λb H1=>if b=true then t D σ H1 else u D σ H1
theorem dr{c:eJ}{a b:List dX}{tc:TT}(hc:PT X c tc)(ha:Sr X a t)(hb:Sr X b u):PS X (.If c a b pos) (afh tc t u):=by
 intro pins s σ H D I h;refine wpAny_If (iU (hc pins s σ H _ I h) λd s1 ⟨H1,I1,q1⟩=>?_);cases d with
 |true=>exact ha pins s1 σ H1 D I1 q1
 |false=>exact hb pins s1 σ H1 D I1 q1
def adu:TS:=λ_ _ _=>False
theorem Ys:PS X st adu:=λ_ _ _ _ _ _ h=>h.elim
end
abbrev TG:=V->St->Hp->(St->Hp->Prop)->Prop
abbrev TGs:=List V->St->Hp->(St->Hp->Prop)->Prop
def PG(X:Cx)(target:eJ)(t:TG):Prop:=∀(pins:List (aj×Obj)) (s:aE) (σ:St) (H:Hp) (v:V) (u:ax) (Q:St->Hp->Prop),Inv X pins σ H s->RelV v u->t v σ H Q->bR (cG X.prog X.w) X.A (assign target X.env u) (λ_ s'=>∃σ' H',Inv X pins σ' H' s'/\Q σ' H') X.xe s
def PGs(X:Cx)(ts:List eJ)(t:TGs):Prop:=∀(pins:List (aj×Obj)) (s:aE) (σ:St) (H:Hp) (vs:List V) (us:List ax) (Q:St->Hp->Prop),Inv X pins σ H s->fj vs us->t vs σ H Q->bR (cG X.prog X.w) X.A (assignInOrder ((assignEach ts X.env).map (·.2)) us) (λ_ s'=>∃σ' H',Inv X pins σ' H' s'/\Q σ' H') X.xe s
section
variable{X:Cx}{pos:Pos}
def UQ(i:Nat):TG:=λv σ H Q=>Q (σ.set i (ae v)) H
theorem f6{i:Nat}{x:Str}(hN:X.N.Nodup)(hi:X.N[i]? =ae x)(hx:Loc X.env.scope x)(hf:X.fn x=true\/X.env.scope.names.lookup x=ae .local:=by first|exact .inl rfl|exact .inr rfl|assumption):PG X (.Name x pos) (UQ i):=by
 intro pins s σ H v u Q I r h;exact wpAny_assign_Name (P5 I hN hi hx r (λs' I'=>⟨_,H,I',h⟩) hf)
def aik:TGs:=λvs σ H Q=>vs=[]/\Q σ H
def afi(t:TG)(u:TGs):TGs:=λvs σ H Q=>∃v r,vs=v::r/\t v σ H λσ' H'=>u r σ' H' Q
theorem NT:PGs X [] aik:=by
 intro pins s σ H vs us Q I r h;obtain⟨e,h⟩:=h;subst e;cases r;exact assignInOrder_nil ⟨σ,H,I,h⟩
theorem wq{e:eJ}{es:List eJ}{t:TG}{u:TGs}(h1:PG X e t)(h2:PGs X es u)(hs:(assignEach (e::es) X.env).map (·.2)=assign e X.env::(assignEach es X.env).map (·.2):=by rfl):PGs X (e::es) (afi t u):=by
 intro pins s σ H vs us Q I r h;obtain⟨v,vr,e1,h⟩:=h;subst e1;cases r with
 |cons r rr=>
  rw[hs];refine assignInOrder_cons (iU (h1 pins s σ H _ _ _ I r h) λ_ s1 ⟨σ1,H1,I1,q1⟩=>?_);exact h2 pins s1 σ1 H1 _ _ Q I1 rr q1
def ail(K:au)(n:Nat)(t:TGs):TG:=λv σ H Q=>∃a xs,v= .ref a/\n9 K H a xs/\xs.length=n/\t xs σ H Q
theorem Td{es:List eJ}{k:Nat}{t:TGs}{n:Nat}(hc:X.calm=true)(h:PGs X es t)(hn:(assignEach es X.env).length=n:=by rfl)(X':(assignEach es X.env).findIdx? (·.1)=ay:=by rfl):PG X (.Tuple es k pos) (ail X.K n t):=by
 intro pins s σ H v u Q I r hw;obtain⟨a,xs,e1,hq,hl,hw⟩:=hw;subst e1;cases r;obtain⟨its,rv,ht,hz⟩:=I.tuple hq;refine assign_Tuple_tuple (I.ok.hd hc) ht (by simp[hn,<-hl,rv.length]) X' λh' hx=>?_;have I1:Inv X pins σ H {s with heap:=h'}:=I.kept (t':=s.toks) λb o e=>hx b o (dR (bN e)) e;exact h pins _ σ H xs _ Q I1 (by simpa using rv) hw
def afj(te:TE)(g:TG):TS:=λD σ H=>te σ H λx H1=>g x σ H1 D.nx
theorem cj{i:Nat}{x:Str}{e:eJ}{te:TE}{pos':Pos}(hN:X.N.Nodup)(hi:X.N[i]? =ae x)(hx:Loc X.env.scope x)(he:PE X e te)(hs:swapsWith e (ae (.Name x pos')) pos.line X.env=pure false:=by rfl)(hf:X.fn x=true\/X.env.scope.names.lookup x=ae .local:=by first|exact .inl rfl|exact .inr rfl|assumption):PS X (.Assign [.Name x pos'] e pos) (afj te (UQ i)):=by
 intro pins s σ H D I h;refine wpAny_Assign_Name (iU (he pins s σ H _ I h) λv s1 ⟨y,H1,I1,r1,q1⟩=>?_) hs;exact P5 I1 hN hi hx r1 (λs2 I2=>⟨_,H1,I2,q1⟩) hf
end
section
variable{X:Cx}{pos:Pos}
def EI(c:TT)(tb:TS):TS:=λD σ H=>∃W:Nat->St->Hp->Prop,(∃m,W m σ H)/\∀m σ H,W m σ H->c σ H λb H1=>if b=true then∃N:St->Hp->Prop,(∀σ' H',N σ' H'->∃m',m'<m/\W m' σ' H')/\tb {D with nx:=N,ct:=N,bk:=D.nx} σ H1 else D.nx σ H1
theorem rZ{c:eJ}{body:List dX}{tc:TT}{tb:TS}(hp:PassesOwn (cG X.prog X.w) X.A X.env X.xe)(hc:PT X c tc)(hb:Sr X body tb):PS X (.While c body [] pos) (EI tc tb):=by
 intro pins s σ H D I h;obtain⟨W,⟨m0,w0⟩,turn⟩:=h;refine wpAny_While (codeAny_whileLoop (λn s'=>∃σ' H',Inv X pins σ' H' s'/\W n σ' H') ?_ m0 ⟨σ,H,I,w0⟩);rintro n s1 ⟨σ1,H1,I1,w1⟩;refine ng hp (iU (hc pins s1 σ1 H1 _ I1 (turn n σ1 H1 w1)) λb s2 ⟨H2,I2,q2⟩=>?_);cases b with
 |true=>
  obtain⟨N,hN,q2⟩:=q2;rw[bw rfl];refine ng hp (iU (hb pins s2 σ1 H2 _ I2 q2) λf s3 q3=>?_);cases f with
  |next=>
   obtain⟨σ3,H3,I3,n3⟩:=q3;obtain⟨m',hm,w3⟩:=hN σ3 H3 n3;exact⟨m',hm,σ3,H3,I3,w3⟩
  |cont=>
   obtain⟨σ3,H3,I3,n3⟩:=q3;obtain⟨m',hm,w3⟩:=hN σ3 H3 n3;exact⟨m',hm,σ3,H3,I3,w3⟩
  |brk=>exact q3
  |ret v=>exact q3
 |false=>
  rw[aX bK];exact vH ⟨σ1,H2,I2,q2⟩
end
structure It where
 go:Nat->Hp->Prop
 yld:Nat->Hp->V->Hp->Prop
 stop:Nat->Hp->Prop
def GL(X:Cx)(pins:List (aj×Obj))(H:Hp)(b:aj):Prop:=H b=ay/\b≠X.env.locals/\b∉X.fs/\(b∈X.ex\/X.MC.heap.objs.size<=b)/\(∀x c,X.env.cells.lookup x=ae c->c≠b)/\∀p∈X.pn++pins,p.1≠b
theorem Inv.Yt{X:Cx}{pins:List (aj×Obj)}{σ:St}{H H':Hp}{s:aE}{b:aj}(I:Inv X pins σ H s)(hb:s.heap.objs.size<=b)(hn:H' b=ay):GL X pins H' b:=by
 refine⟨hn,yx (cS I.lt hb),I.aic hb,.inr (bX I.sz hb),λx c e z=>?_,λp hp z=>?_⟩;obtain⟨v,q⟩:=I.cell x c e;exact bM (cS q.lt (by rw[z];exact hb)) (fX _);exact bM (cS (bN (I.pin p hp).1) (by rw[z];exact hb)) (fX _)
structure Turn(P:bg)(w:cn)(K:au)(tg:eJ)(J:It)(fp:List aj)(it:aj)(tn:Nat->df->Prop):Prop where
 mem:it∈fp
 obj:∀i h,tn i h->∀b∈fp,∃o,h.get? b=ae o/\∀v,o.data≠ .cell v
 keep:∀i h h',tn i h->(∀b∈fp,∀o,h.get? b=ae o->h'.get? b=ae o)->tn i h'
 item:∀(X:Cx),X.prog=P->X.w=w->X.K=K->X.calm=true->∀(i:Nat) (pins:List (aj×Obj)) (s:aE) (σ:St) (H:Hp) (E:ax->aE->Prop),Inv X pins σ H s->(∀b∈fp,GL X pins H b)->tn i s.heap->J.go i H->bR (cG P w) X.A (pyNext (.ref it)) (λr s1=>∃u,r=ae u/\bR (cG P w) X.A (letOwnedTupleGo tg (.ref it) u) (λ_ s2=>∃x H',Inv X pins σ H' s2/\RelV x u/\J.yld i H x H'/\tn (i+1) s2.heap/\∀b∈fp,H' b=ay) E s1) E s
 done:∀(X:Cx),X.prog=P->X.w=w->X.K=K->X.calm=true->∀(i:Nat) (pins:List (aj×Obj)) (s:aE) (σ:St) (H:Hp) (E:ax->aE->Prop),Inv X pins σ H s->(∀b∈fp,GL X pins H b)->tn i s.heap->J.stop i H->bR (cG P w) X.A (pyNext (.ref it)) (λr s1=>r=ay/\Inv X pins σ H s1) E s
 self:∀(A:Around) (i:Nat) (s:aE) (Q:ax->aE->Prop) (E:ax->aE->Prop),tn i s.heap->Q (.ref it) s->bR (cG P w) A (pyIter (.ref it)) Q E s
abbrev TI:=St->Hp->(It->Hp->Prop)->Prop
def PIE(X:Cx)(pins:List (aj×Obj))(σ:St)(tg:eJ)(R:It->Hp->Prop)(itv:ax)(s2:aE):Prop:=∃(it:aj) (fp:List aj) (tn:Nat->df->Prop) (J:It) (H':Hp),itv= .ref it/\Inv X pins σ H' s2/\Turn X.prog X.w X.K tg J fp it tn/\tn 0 s2.heap/\(∀b∈fp,GL X pins H' b)/\R J H'
def PI(X:Cx)(tg iter:eJ)(wi:TI):Prop:=∀(pins:List (aj×Obj)) (s:aE) (σ:St) (H:Hp) (R:It->Hp->Prop),Inv X pins σ H s->wi σ H R->bR (cG X.prog X.w) X.A (eval iter X.env) (λv s1=>bR (cG X.prog X.w) X.A (pyIter v) (PIE X pins σ tg R) X.xe s1) X.xe s
theorem P7{M:Model}{A:Around}{E:ax->aE->Prop}{s:aE}{tg:eJ}{it:aj}{u:ax}{o:Obj}{n:String}{vs:Array ax}{Q:Unit->aE->Prop}(ho:s.heap.get? it=ae o)(hc:o.cls= .type n)(hd:o.data= .fields vs)(hn:["enumerate","zip","dict_itemiterator","dict_reverseitemiterator","odict_iterator","itertools.zip_longest","itertools.pairwise"].contains n=false)(hQ:Q () s):bR M A (letOwnedTupleGo tg (.ref it) u) Q E s:=by
 unfold letOwnedTupleGo;cases tg<;>first
  |exact aS hQ
  |(cases u<;>first
    |exact aS hQ
    |(refine ak (wpAny_load ho ?_)
      rw[hc,hd];show bR M A (if(["enumerate","zip","dict_itemiterator","dict_reverseitemiterator","odict_iterator","itertools.zip_longest","itertools.pairwise"].contains n&&vs[0]? ==ae (rawInt _))=true then _ else _) Q E s;rw[aX (by intro h;rw[hn,jj] at h;cases h)];exact aS hQ))
def Itl(K:au)(a:aj):It:=⟨λi H=>∃xs x,dS K H a xs/\xs[i]? =ae x,λi H x H'=>H'=H/\∀xs,dS K H a xs->xs[i]? =ae x,λi H=>∃xs,dS K H a xs/\xs.length<=i⟩
def Itr(lo:Int)(n:Nat):It:=⟨λi _=>i<n,λi H x H'=>H'=H/\x= .int (lo+i),λi _=>n<=i⟩
theorem Wd{P:bg}{w:cn}{K:au}{tg:eJ}(a it:aj):Turn P w K tg (Itl K a) [it] it (λi h=>h.IsListIter it a i) where
 mem:=by simp
 obj:=λi h st b hb=>by
  have e:b=it:=by simpa using hb
  subst e;obtain⟨o,e,c,d⟩:=st;exact⟨o,e,λv z=>by rw[d] at z;cases z⟩
 keep:=λi h h' st k=>st.at λo e=>k it (by simp) o e
 item:=by
  intro X hP hw hK hc i pins s σ H E I hf st hg;subst hP hw hK;obtain⟨xs,x,hq,hx⟩:=hg;obtain⟨its,rv,p,hz⟩:=I.list hq;obtain⟨u,hu,ru⟩:=rv.get hx;obtain⟨f0,f1,f2,f3,f4,f5⟩:=hf it (by simp);refine wpAny_pyNext_list_item st p.isList (x:=u) (by simpa using hu) λh' UR sb=>?_;have I1:Inv X pins σ H {s with heap:=h'}:=I.turned (t':=s.toks) (λb o hb e=>(sb.2 b hb).trans e) f0 f1 f3 f4 f5;obtain⟨o,e,c,d⟩:=id UR;exact⟨u,rfl,P7 (s:={s with heap:=h'}) e c d (by decide) ⟨x,H,I1,ru,⟨rfl,λys hy=>by rw[I.P6 hy hq];exact hx⟩,UR,λb hb=>(hf b hb).1⟩⟩
 done:=by
  intro X hP hw hK hc i pins s σ H E I hf st hg;subst hP hw hK;obtain⟨xs,hq,hx⟩:=hg;obtain⟨its,rv,p,hz⟩:=I.list hq;obtain⟨f0,f1,f2,f3,f4,f5⟩:=hf it (by simp);have hl:=rv.length;exact wpAny_pyNext_list_end (I.ok.hd hc) st p.isList (by simp;omega) λh' eb=>⟨rfl,I.turned (t':=s.toks) (λb o hb e=>eb b o hb e) f0 f1 f3 f4 f5⟩
 self:=λ_ _ _ _ _ st h=>wpAny_pyIter_listiter st h
theorem Te{P:bg}{w:cn}{K:au}{tg:eJ}(it:aj)(lo:Int)(n:Nat):Turn P w K tg (Itr lo n) [it] it (λi h=>IsRangeIter h it (lo+(i:Nat)*1) ((n:Int) -(i:Nat)) 1) where
 mem:=by simp
 obj:=λi h st b hb=>by
  have e:b=it:=by simpa using hb
  subst e;exact⟨_,st,λv z=>by
   have z':Data.fields _=Data.cell v:=z;cases z'⟩
 keep:=λi h h' st k=>k it (by simp) _ st
 item:=by
  intro X hP hw hK hc i pins s σ H E I hf st hg;subst hP hw hK;obtain⟨f0,f1,f2,f3,f4,f5⟩:=hf it (by simp);have W:=Walks.range (prog:=X.prog) (w:=X.w) (I.ok.hd hc) it lo 1 n;refine W.item i s _ _ hg st λv h' tk hv UR kk=>?_;obtain⟨t,rfl⟩:=hv;have I1:Inv X pins σ H {s with heap:=h',toks:=tk}:=I.turned (λb o hb e=>kk b o (by simpa using hb) e) f0 f1 f3 f4 f5;refine⟨_,rfl,P7 (s:={s with heap:=h',toks:=tk}) (n:="range_iterator") UR rfl rfl (by decide) ⟨.int (lo+i),H,I1,⟨t,?_⟩,⟨rfl,rfl⟩,UR,λb hb=>(hf b hb).1⟩⟩;rw[Int.mul_one]
 done:=by
  intro X hP hw hK hc i pins s σ H E I hf st hg;subst hP hw hK;obtain⟨f0,f1,f2,f3,f4,f5⟩:=hf it (by simp);exact wpAny_pyNext_range_end (I.ok.hd hc) st (by have:n<=i:=hg;omega) λh' eb=>⟨rfl,I.turned (t':=s.toks) (λb o hb e=>eb b o hb e) f0 f1 f3 f4 f5⟩
 self:=λ_ _ _ _ _ st h=>wpAny_pyIter_rangeiter st h
end L2
namespace L2
open PySem PySem.Spec PyProof.Rows
section
variable{X:Cx}{tg:eJ}
def afl(K:au)(tl:TE):TI:=λσ H R=>tl σ H λx H1=>∃a,x= .ref a/\(∃xs,dS K H1 a xs)/\R (Itl K a) H1
theorem kH{l:eJ}{tl:TE}(hl:PE X l tl):PI X tg l (afl X.K tl):=by
 intro pins s σ H R I h;refine iU (hl pins s σ H _ I h) λv s1 ⟨x,H1,I1,r1,q1⟩=>?_;obtain⟨a,e,⟨xs,hq⟩,q⟩:=q1;subst e;cases r1;obtain⟨its,rv,p,hz⟩:=I1.list hq;refine Lg p.isList ?_;refine⟨s1.heap.objs.size,[s1.heap.objs.size],_,_,H1,rfl,I1.kept (t':=s1.toks) λb o e=>aG _ e,Wd a _,⟨_,bA _ rfl,rfl,rfl⟩,λb hb=>?_,q⟩;have e:b=s1.heap.objs.size:=by simpa using hb
 subst e;exact I1.Yt (aJ _) (I1.gB.fresh (aJ _))
theorem Yu{pins:List (aj×Obj)}{σ:St}{H:Hp}{s:aE}{R:It->Hp->Prop}{E:ax->aE->Prop}{lo hi:Int}{t u v:Tok}{tk:Nat}(I:Inv X pins σ H s)(h1: -(2^62)<=lo)(h2:lo<2^62)(h3: -(2^62)<=hi)(h4:hi<2^62)(q:R (Itr lo (hi -lo).toNat) H):bR (cG X.prog X.w) X.A (pyIter (.ref s.heap.objs.size)) (PIE X pins σ tg R) E {s with heap:=s.heap.push {cls:= .type "range",data:= .fields #[.int lo t,.int hi u,.int 1 v]},toks:=tk}:=by
 refine wpAny_pyIter_range (IsRange.new ..) (small_one h1 h2 h3 h4) ?_;have I1:Inv X pins σ H {s with heap:=s.heap.push {cls:= .type "range",data:= .fields #[.int lo t,.int hi u,.int 1 v]},toks:=tk}:=I.kept λb o e=>aG _ e;refine⟨(s.heap.push {cls:= .type "range",data:= .fields #[.int lo t,.int hi u,.int 1 v]}).objs.size,[(s.heap.push {cls:= .type "range",data:= .fields #[.int lo t,.int hi u,.int 1 v]}).objs.size],_,_,H,rfl,I1.kept (t':=tk) λb o e=>aG _ e,Te _ lo (hi -lo).toNat,?_,λb hb=>?_,q⟩
 ·have e1:lo+((0:Nat):Int)*1=lo:=by simp
  have e2:(((hi -lo).toNat:Nat):Int) -((0:Nat):Int)=Builtin.Range.rangeSize lo hi 1:=by rw[rangeSize_one];split<;>omega
  show IsRangeIter _ _ (lo+((0:Nat):Int)*1) ((((hi -lo).toNat:Nat):Int) -((0:Nat):Int)) 1;rw[e1,e2];exact bA _ rfl
 ·have e:b=(s.heap.push {cls:= .type "range",data:= .fields #[.int lo t,.int hi u,.int 1 v]}).objs.size:=by simpa using hb
  subst e;exact I1.Yt (aJ _) (I1.gB.fresh (aJ _))
def afm(ta:TA):TI:=λσ H R=>ta σ H λvs H1=>∃j:Int,vs=[.int j]/\ -(2^62)<=j/\j<2^62/\R (Itr 0 j.toNat) H1
theorem Wf{a:eJ}{ta:TA}{p pos:Pos}(hg:Gl X "range")(hm:X.mg "range"=ay)(ha:PA X [a] ta)(hs:starEach [a] X.env=[(false,eval a X.env)]:=by rfl):PI X tg (.Call (.Name "range" p) [a] [] pos) (afm ta):=by
 intro pins s σ H R I h;refine Call_ (EG I hg hm boot_range (rM (iU (ha pos pins s σ H _ I h) λus s1 ⟨vs,H1,I1,r1,q1⟩=>?_) hs rfl));obtain⟨j,e,q1,q2,q⟩:=q1;subst e;cases r1 with
 |cons r rr=>
  cases rr;obtain⟨t,rfl⟩:=r;exact call_range_1 (Yu I1 (by omega) (by omega) q1 q2 (by simpa using q))
def ain(wi:TI)(g:TG)(tb:TS):TS:=λD σ H=>wi σ H λJ H1=>∃W:Nat->Nat->St->Hp->Prop,(∃m,W 0 m σ H1)/\∀i m σ H,W i m σ H->(J.stop i H/\D.nx σ H)\/(J.go i H/\∃N:St->Hp->Prop,(∀σ' H',N σ' H'->∃m',m'<m/\W (i+1) m' σ' H')/\∀x H',J.yld i H x H'->g x σ H' λσ2 H2=>tb {D with nx:=N,ct:=N,bk:=D.nx} σ2 H2)
def IK(fp:List aj)(h:df):List (aj×Obj):=fp.filterMap λb=>(h.get? b).map λo=>(b,o)
theorem Ce{fp:List aj}{h:df}{b:aj}{o:Obj}(hb:b∈fp)(e:h.get? b=ae o):(b,o)∈IK fp h:=Ep.mpr ⟨b,hb,by rw[e];rfl⟩
theorem Wg{fp:List aj}{h:df}{p:aj×Obj}(hp:p∈IK fp h):p.1∈fp/\h.get? p.1=ae p.2:=by
 obtain⟨b,hb,e⟩:=Ep.mp hp;cases q:h.get? b with
 |none=>rw[q] at e;cases e
 |some o=>
  rw[q] at e;have e':(b,o)=p:=bF e;subst e';exact⟨hb,q⟩
theorem Inv.pinned{pins:List (aj×Obj)}{σ:St}{H:Hp}{s:aE}{fp:List aj}(I:Inv X pins σ H s)(hf:∀b∈fp,GL X pins H b)(ho:∀b∈fp,∃o,s.heap.get? b=ae o/\∀v,o.data≠ .cell v):Inv X (pins++IK fp s.heap) σ H s:=I.UL λp hp=>(aP.mp hp).elim (λz=>I.pin p (bc _ z)) λz=>by
  obtain⟨hb,e⟩:=Wg z;obtain⟨f0,f1,f2,_⟩:=hf p.1 hb;obtain⟨o,e',d⟩:=ho p.1 hb;rw[e] at e';cases e';exact⟨e,f0,f1,f2,d⟩
theorem Inv.C4{pins pl:List (aj×Obj)}{σ:St}{H:Hp}{s:aE}(I:Inv X (pins++pl) σ H s):Inv X pins σ H s:=I.UL λp hp=>I.pin p (bc _ (bO _ hp))
theorem nM{iter:eJ}{body:List dX}{wi:TI}{g:TG}{tb:TS}{pos:Pos}(hp:PassesOwn (cG X.prog X.w) X.A X.env X.xe)(hc:X.calm=true)(hi:PI X tg iter wi)(hg:PG X tg g)(hb:Sr X body tb)(hs:∀x,foldedSetIterable iter X.env x=pure x:=by intro _;rfl):PS X (.For tg iter body [] pos) (ain wi g tb):=by
 intro pins s σ H D I h;refine wpAny_For (iU (hi pins s σ H _ I h) λv s1 h1=>iU h1 λitv s2 h2=>?_) hs;obtain⟨it,fp,tn,J,H2,e,I2,T,st2,f2,W,⟨m0,w0⟩,turn⟩:=h2;subst e;have stat:∀{H':Hp},(∀b∈fp,H' b=ay)->∀b∈fp,GL X pins H' b:=λhn b hb=>⟨hn b hb,(f2 b hb).2⟩;refine codeAny_forLoop_any (λn s'=>∃i σ' H',Inv X pins σ' H' s'/\tn i s'.heap/\(∀b∈fp,H' b=ay)/\W i n σ' H') ?_ m0 ⟨0,σ,H2,I2,st2,λb hb=>(f2 b hb).1,w0⟩;rintro n s3 ⟨i,σ3,H3,I3,st3,fr3,w3⟩;obtain⟨stop,qn⟩|⟨go,N,hN,step⟩:=turn i n σ3 H3 w3
 refine ng hp (iU (T.done X rfl rfl rfl hc i pins s3 σ3 H3 X.xe I3 (stat fr3) st3 stop) λr s4 ⟨hr,I4⟩=>?_);subst hr;exact vH ⟨σ3,H3,I4,qn⟩
 ·refine ng hp (iU (T.item X rfl rfl rfl hc i pins s3 σ3 H3 X.xe I3 (stat fr3) st3 go) λr s4 ⟨u,hr,h4⟩=>?_);subst hr;refine ng hp (iU h4 λ_ s5 ⟨x,H5,I5,r5,y5,st5,fr5⟩=>?_);have I5':=I5.pinned (stat fr5) (T.obj _ _ st5);refine ng hp (iU (hg _ s5 σ3 H5 x u _ I5' r5 (step x H5 y5)) λ_ s6 ⟨σ6,H6,I6,q6⟩=>?_);refine ng hp (iU (hb _ s6 σ6 H6 _ I6 q6) λf s7 q7=>?_);have again:∀{σ7:St} {H7:Hp},Inv X (pins++IK fp s5.heap) σ7 H7 s7->N σ7 H7->∃m,m<n/\∃i σ' H',Inv X pins σ' H' s7/\tn i s7.heap/\(∀b∈fp,H' b=ay)/\W i m σ' H':=λ{σ7 H7} I7 n7=>by
   obtain⟨m',hm,w7⟩:=hN σ7 H7 n7;refine⟨m',hm,i+1,σ7,H7,I7.C4,T.keep _ _ _ st5 λb hb o e=>(I7.pin (b,o) (bc _ (bc _ (Ce hb e)))).1,λb hb=>?_,w7⟩;obtain⟨o,e,d⟩:=T.obj _ _ st5 b hb;exact(I7.pin (b,o) (bc _ (bc _ (Ce hb e)))).2.1
  cases f with
  |next=>obtain⟨σ7,H7,I7,n7⟩:=q7;exact again I7 n7
  |cont=>obtain⟨σ7,H7,I7,n7⟩:=q7;exact again I7 n7
  |brk=>obtain⟨σ7,H7,I7,q7⟩:=q7;exact⟨σ7,H7,I7.C4,q7⟩
  |ret v=>obtain⟨x7,σ7,H7,I7,r7,q7⟩:=q7;exact⟨x7,σ7,H7,I7.C4,r7,q7⟩
end
theorem qc{K:au}{a:aj}{xs:List V}{g:TG}{tb:TS}{D:Ends}{σ:St}{H:Hp}(Pv:Nat->St->Hp->Prop)(h0:Pv 0 σ H)(hl:∀i σ H,i<=xs.length->Pv i σ H->dS K H a xs)(hs:∀i x σ H,xs[i]? =ae x->Pv i σ H->g x σ H λσ2 H2=>tb {D with nx:=Pv (i+1),ct:=Pv (i+1),bk:=D.nx} σ2 H2)(hd:∀σ H,Pv xs.length σ H->D.nx σ H):∃W:Nat->Nat->St->Hp->Prop,(∃m,W 0 m σ H)/\∀i m σ H,W i m σ H->((Itl K a).stop i H/\D.nx σ H)\/((Itl K a).go i H/\∃N:St->Hp->Prop,(∀σ' H',N σ' H'->∃m',m'<m/\W (i+1) m' σ' H')/\∀x H',(Itl K a).yld i H x H'->g x σ H' λσ2 H2=>tb {D with nx:=N,ct:=N,bk:=D.nx} σ2 H2):=by
 refine⟨λi m σ H=>m=xs.length -i/\i<=xs.length/\Pv i σ H,⟨xs.length,by simp,cI _,h0⟩,?_⟩;rintro i m σ H ⟨rfl,hi,p⟩;have q:=hl i σ H hi p;by_cases Ak:i<xs.length;refine .inr ⟨⟨xs,xs[i],q,by simp[Ak]⟩,Pv (i+1),λσ' H' p'=>⟨xs.length -(i+1),by omega,rfl,Ak,p'⟩,λx H' y=>?_⟩;obtain⟨e,y⟩:=y;subst e;exact hs i x σ _ (y xs q) p
 ·have e:i=xs.length:=by omega
  subst e;exact .inl ⟨⟨xs,q,aJ _⟩,hd σ H p⟩
theorem Wh{lo:Int}{n:Nat}{g:TG}{tb:TS}{D:Ends}{σ:St}{H:Hp}(Pv:Nat->St->Hp->Prop)(h0:Pv 0 σ H)(hs:∀i σ H,i<n->Pv i σ H->g (.int (lo+i)) σ H λσ2 H2=>tb {D with nx:=Pv (i+1),ct:=Pv (i+1),bk:=D.nx} σ2 H2)(hd:∀σ H,Pv n σ H->D.nx σ H):∃W:Nat->Nat->St->Hp->Prop,(∃m,W 0 m σ H)/\∀i m σ H,W i m σ H->((Itr lo n).stop i H/\D.nx σ H)\/((Itr lo n).go i H/\∃N:St->Hp->Prop,(∀σ' H',N σ' H'->∃m',m'<m/\W (i+1) m' σ' H')/\∀x H',(Itr lo n).yld i H x H'->g x σ H' λσ2 H2=>tb {D with nx:=N,ct:=N,bk:=D.nx} σ2 H2):=by
 refine⟨λi m σ H=>m=n -i/\i<=n/\Pv i σ H,⟨n,by simp,cI _,h0⟩,?_⟩;rintro i m σ H ⟨rfl,hi,p⟩;by_cases Ak:i<n;refine .inr ⟨Ak,Pv (i+1),λσ' H' p'=>⟨n -(i+1),by omega,rfl,Ak,p'⟩,λx H' y=>?_⟩;obtain⟨e,y⟩:=y;subst e y;exact hs i σ _ Ak p
 ·have e:i=n:=by omega
  subst e;exact .inl ⟨aJ _,hd σ H p⟩
end L2
namespace L2
open PySem PySem.Spec PyProof.Rows
abbrev R2:=V->V->Hp->VK->Prop
def NV(X:Cx)(f:ax->ax->Sem ax)(r:R2):Prop:=∀(pins:List (aj×Obj)) (s:aE) (σ:St) (H:Hp) (x y:V) (v u:ax) (Q:VK),Inv X pins σ H s->RelV x v->RelV y u->r x y H Q->bR (cG X.prog X.w) X.A (f v u) (EP X pins σ Q) X.xe s
def UnR(X:Cx)(f:ax->Sem ax)(r:V->Hp->VK->Prop):Prop:=∀(pins:List (aj×Obj)) (s:aE) (σ:St) (H:Hp) (x:V) (v:ax) (Q:VK),Inv X pins σ H s->RelV x v->r x H Q->bR (cG X.prog X.w) X.A (f v) (EP X pins σ Q) X.xe s
def Bm(X:Cx)(f:ax)(r:List V->Hp->VK->Prop):Prop:=∀(pins:List (aj×Obj)) (s:aE) (σ:St) (H:Hp) (xs:List V) (us:List ax) (Q:VK),Inv X pins σ H s->fj xs us->r xs H Q->bR (cG X.prog X.w) X.A (call f us) (EP X pins σ Q) X.xe s
def tOp(r:R2)(ta tb:TE):TE:=λσ H Q=>ta σ H λx H1=>tb σ H1 λy H2=>r x y H2 Q
def tUn(r:V->Hp->VK->Prop)(ta:TE):TE:=λσ H Q=>ta σ H λx H1=>r x H1 Q
def rI0(g:Int->Int->V):R2:=λx y H Q=>∃i j,x= .int i/\y= .int j/\Q (g i j) H
def rU(g:Int->V):V->Hp->VK->Prop:=λx H Q=>∃i,x= .int i/\Q (g i) H
section
variable{X:Cx}{a b c:eJ}{ta tb tc:TE}{pos:Pos}
theorem adw(ha:PE X a ta)(hb:PE X b tb){pins:List (aj×Obj)}{s:aE}{σ:St}{H:Hp}{R:V->V->Hp->Prop}(I:Inv X pins σ H s)(h:ta σ H λx H1=>tb σ H1 λy H2=>R x y H2){Q:ax->aE->Prop}{f:ax->ax->Sem ax}(hf:∀v u s2 x y H2,Inv X pins σ H2 s2->RelV x v->RelV y u->R x y H2->bR (cG X.prog X.w) X.A (f v u) Q X.xe s2):bR (cG X.prog X.w) X.A (eval a X.env) (λv s₁=>bR (cG X.prog X.w) X.A (eval b X.env) (λu s₂=>bR (cG X.prog X.w) X.A (f v u) Q X.xe s₂) X.xe s₁) X.xe s:=by
 refine iU (ha pins s σ H _ I h) λv s1 ⟨x,H1,I1,r1,q1⟩=>?_;refine iU (hb pins s1 σ H1 _ I1 q1) λu s2 ⟨y,H2,I2,r2,q2⟩=>?_;exact hf v u s2 x y H2 I2 r1 r2 q2
theorem iO{op:Operator}{r:R2}(ho:NV X (binaryOp op) r)(ha:PE X a ta)(hb:PE X b tb):PE X (.BinOp a op b pos) (tOp r ta tb):=by
 intro pins s σ H Q I h;exact wpAny_BinOp (adw ha hb I h λv u s2 x y H2 I2 rx ry q=>ho pins s2 σ H2 x y v u Q I2 rx ry q)
theorem P8{op:UnaryOp}{r:V->Hp->VK->Prop}(ho:UnR X (unaryOp op) r)(ha:PE X a ta):PE X (.UnaryOp op a pos) (tUn r ta):=by
 intro pins s σ H Q I h;exact UnaryOp_ (iU (ha pins s σ H _ I h) λv s1 ⟨x,H1,I1,r1,q1⟩=>ho pins s1 σ H1 x v Q I1 r1 q1)
theorem afn{f:ax->ax->Sem ax}{g:Int->Int->Int}(rule:∀(i j:Int) (t u:Tok) (s:aE) (Q:ax->aE->Prop) (E:ax->aE->Prop),Q (.int (g i j) s.toks) {s with toks:=s.toks+1}->bR (cG X.prog X.w) X.A (f (.int i t) (.int j u)) Q E s):NV X f (rI0 λi j=> .int (g i j)):=by
 intro pins s σ H x y v u Q I rx ry h;obtain⟨i,j,rfl,rfl,q⟩:=h;obtain⟨t,rfl⟩:=rx;obtain⟨t',rfl⟩:=ry;exact rule i j t t' s _ _ ⟨.int (g i j),H,I.tok _,⟨_,rfl⟩,q⟩
theorem abe{f:ax->ax->Sem ax}{g:Int->Int->Bool}(rule:∀(i j:Int) (t u:Tok) (s:aE) (Q:ax->aE->Prop) (E:ax->aE->Prop),Q (.bool (g i j)) s->bR (cG X.prog X.w) X.A (f (.int i t) (.int j u)) Q E s):NV X f (rI0 λi j=> .bl (g i j)):=by
 intro pins s σ H x y v u Q I rx ry h;obtain⟨i,j,rfl,rfl,q⟩:=h;obtain⟨t,rfl⟩:=rx;obtain⟨t',rfl⟩:=ry;exact rule i j t t' s _ _ ⟨.bl (g i j),H,I,rfl,q⟩
theorem yC:NV X (binaryOp .Add) (rI0 λi j=> .int (i+j)):=afn λ_ _ _ _ _ _ _ q=>add_int q
theorem Cg:NV X (binaryOp .Sub) (rI0 λi j=> .int (i -j)):=afn λ_ _ _ _ _ _ _ q=>sub_int q
theorem unI{f:ax->Sem ax}{g:Int->Int}(rule:∀(i:Int) (t:Tok) (s:aE) (Q:ax->aE->Prop) (E:ax->aE->Prop),Q (.int (g i) s.toks) {s with toks:=s.toks+1}->bR (cG X.prog X.w) X.A (f (.int i t)) Q E s):UnR X f (rU λi=> .int (g i)):=by
 intro pins s σ H x v Q I rx h;obtain⟨i,rfl,q⟩:=h;obtain⟨t,rfl⟩:=rx;exact rule i t s _ _ ⟨.int (g i),H,I.tok _,⟨_,rfl⟩,q⟩
theorem IL:UnR X (unaryOp .USub) (rU λi=> .int (-i)):=unI λ_ _ _ _ _ q=>neg_int q
end
def afo:V->V->Bool
 | .non,.non=>true| .non,.int _=>true| .int _,.non=>true| .non,.bl _=>true| .bl _,.non=>true| .non,.str _=>true| .str _,.non=>true
 | .int _,.int _=>true| .bl _,.bl _=>true| .str _,.str _=>true| .Sn _,.Sn _=>true
 | .int _,.str _=>true| .str _,.int _=>true| .bl _,.str _=>true| .str _,.bl _=>true
 |_,_=>false
def rEq:R2:=λx y H Q=>afo x y=true/\Q (.bl (decide (x=y))) H
def rNe:R2:=λx y H Q=>afo x y=true/\Q (.bl (!decide (x=y))) H
theorem UT{i j:Int}:decide (V.int i=V.int j)=(i==j):=by
 rw[cT];simp
theorem Yv{i j:Bool}:decide (V.bl i=V.bl j)=(i==j):=by
 rw[cT];simp
theorem UU{i j:Str}:decide (V.str i=V.str j)=(i==j):=by
 rw[cT];simp
theorem UW{i j:Array UInt8}:decide (V.Sn i=V.Sn j)=(i.toList==j.toList):=by
 rw[cT];cases i;cases j;simp
section
variable{X:Cx}{a b c:eJ}{ta tb tc:TE}{pos:Pos}
theorem gO{pins:List (aj×Obj)}{σ:St}{H:Hp}{s:aE}{Q:VK}{k k':Bool}(I:Inv X pins σ H s)(q:Q (.bl k) H)(e:k=k'):EP X pins σ Q (.bool k') s:=by
 subst e;exact⟨.bl k,H,I,rfl,q⟩
theorem fC:NV X (compareOp .Eq) rEq:=by
 intro pins s σ H x y v u Q I rx ry h;obtain⟨hs,q⟩:=h;cases x with
 |non=>
  cases rx;cases y with
  |non=>cases ry;exact PySem.EqNone.eq_none_none (gO I q (by simp))
  |bl j=>cases ry;exact PySem.EqNone.eq_none_bool (gO I q (by simp))
  |int j=>obtain⟨t',rfl⟩:=ry;exact PySem.EqNone.eq_none_int (gO I q (by simp))
  |str j=>obtain⟨t',rfl⟩:=ry;exact PySem.EqNone.eq_none_str (gO I q (by simp))
  |_=>exact bM (show false=true from hs) bK
 |bl i=>
  cases rx;cases y with
  |non=>cases ry;exact PySem.EqNone.eq_bool_none (gO I q (by simp))
  |bl j=>cases ry;exact eq_bool (gO I q Yv)
  |str j=>obtain⟨t',rfl⟩:=ry;exact PySem.EqMixed.eq_bool_str (gO I q (by simp))
  |_=>exact bM (show false=true from hs) bK
 |int i=>
  obtain⟨t,rfl⟩:=rx;cases y with
  |non=>cases ry;exact PySem.EqNone.eq_int_none (gO I q (by simp))
  |int j=>obtain⟨t',rfl⟩:=ry;exact eq_int (gO I q UT)
  |str j=>obtain⟨t',rfl⟩:=ry;exact PySem.EqMixed.eq_int_str (gO I q (by simp))
  |_=>exact bM (show false=true from hs) bK
 |str i=>
  obtain⟨t,rfl⟩:=rx;cases y with
  |non=>cases ry;exact PySem.EqNone.eq_str_none (gO I q (by simp))
  |bl j=>cases ry;exact PySem.EqMixed.eq_str_bool (gO I q (by simp))
  |int j=>obtain⟨t',rfl⟩:=ry;exact PySem.EqMixed.eq_str_int (gO I q (by simp))
  |str j=>obtain⟨t',rfl⟩:=ry;exact eq_str (gO I q UU)
  |_=>exact bM (show false=true from hs) bK
 |Sn i=>
  obtain⟨t,rfl⟩:=rx;cases y with
  |Sn j=>obtain⟨t',rfl⟩:=ry;exact PySem.W.eq_bytes (gO I q UW)
  |_=>exact bM (show false=true from hs) bK
 |_=>cases y<;>exact bM (show false=true from hs) bK
theorem r6:NV X (compareOp .NotEq) rNe:=by
 intro pins s σ H x y v u Q I rx ry h;obtain⟨hs,q⟩:=h;cases x with
 |non=>
  cases rx;cases y with
  |non=>cases ry;exact PySem.EqNone.ne_none_none (gO I q (by simp))
  |bl j=>cases ry;exact PySem.EqNone.ne_none_bool (gO I q (by simp))
  |int j=>obtain⟨t',rfl⟩:=ry;exact PySem.EqNone.ne_none_int (gO I q (by simp))
  |str j=>obtain⟨t',rfl⟩:=ry;exact PySem.EqNone.ne_none_str (gO I q (by simp))
  |_=>exact bM (show false=true from hs) bK
 |bl i=>
  cases rx;cases y with
  |non=>cases ry;exact PySem.EqNone.ne_bool_none (gO I q (by simp))
  |bl j=>cases ry;exact ne_bool (gO I q (da not Yv))
  |str j=>obtain⟨t',rfl⟩:=ry;exact PySem.EqMixed.ne_bool_str (gO I q (by simp))
  |_=>exact bM (show false=true from hs) bK
 |int i=>
  obtain⟨t,rfl⟩:=rx;cases y with
  |non=>cases ry;exact PySem.EqNone.ne_int_none (gO I q (by simp))
  |int j=>obtain⟨t',rfl⟩:=ry;exact ne_int (gO I q (da not UT))
  |str j=>obtain⟨t',rfl⟩:=ry;exact PySem.EqMixed.ne_int_str (gO I q (by simp))
  |_=>exact bM (show false=true from hs) bK
 |str i=>
  obtain⟨t,rfl⟩:=rx;cases y with
  |non=>cases ry;exact PySem.EqNone.ne_str_none (gO I q (by simp))
  |bl j=>cases ry;exact PySem.EqMixed.ne_str_bool (gO I q (by simp))
  |int j=>obtain⟨t',rfl⟩:=ry;exact PySem.EqMixed.ne_str_int (gO I q (by simp))
  |str j=>obtain⟨t',rfl⟩:=ry;exact ne_str (gO I q (da not UU))
  |_=>exact bM (show false=true from hs) bK
 |Sn i=>
  obtain⟨t,rfl⟩:=rx;cases y with
  |Sn j=>obtain⟨t',rfl⟩:=ry;exact PySem.W.ne_bytes (gO I q (da not UW))
  |_=>exact bM (show false=true from hs) bK
 |_=>cases y<;>exact bM (show false=true from hs) bK
theorem P9:NV X (compareOp .Lt) (rI0 λi j=> .bl (decide (i<j))):=abe λ_ _ _ _ _ _ _ q=>lt_int q
theorem vh:NV X (compareOp .LtE) (rI0 λi j=> .bl (decide (i<=j))):=abe λ_ _ _ _ _ _ _ q=>le_int q
theorem FR:NV X (compareOp .Gt) (rI0 λi j=> .bl (decide (j<i))):=abe λ_ _ _ _ _ _ _ q=>gt_int q
theorem acA:NV X (compareOp .GtE) (rI0 λi j=> .bl (decide (j<=i))):=abe λ_ _ _ _ _ _ _ q=>ge_int q
theorem ck(b:eJ){op:X5}(h:op≠ .In:=by decide)(h2:op≠ .NotIn:=by decide):behindInMarks op b=false:=by
 have e1:(op==CmpOp.In)=false:=by cases op<;>first|rfl|exact bM rfl h
 have e2:(op==CmpOp.NotIn)=false:=by cases op<;>first|rfl|exact bM rfl h2
 cases b<;>simp[behindInMarks,e1,e2]
theorem jS{op:X5}{r:R2}(ho:NV X (compareOp op) r)(ha:PE X a ta)(hb:PE X b tb)(hm:behindInMarks op b=false):PE X (.Compare a [op] [b] pos) (tOp r ta tb):=by
 intro pins s σ H Q I h;exact wpAny_Compare1 (adw ha hb I h λv u s2 x y H2 I2 rx ry q=>ho pins s2 σ H2 x y v u Q I2 rx ry q) hm
def Yw(t:TE):TT:=λσ H Q=>t σ H λx H'=>∃k,x= .bl k/\Q k H'
theorem b_{op:X5}{r:R2}(ho:NV X (compareOp op) r)(ha:PE X a ta)(hb:PE X b tb)(hm:behindInMarks op b=false):PT X (.Compare a [op] [b] pos) (Yw (tOp r ta tb)):=by
 intro pins s σ H Q I h;refine aaE (iU (ha pins s σ H _ I h) λv s1 ⟨x,H1,I1,r1,q1⟩=>iU (hb pins s1 σ H1 _ I1 q1) λu s2 ⟨y,H2,I2,r2,q2⟩=>
  iU (ho pins s2 σ H2 x y v u _ I2 r1 r2 q2) λc s3 ⟨z,H3,I3,r3,k,e,q3⟩=>?_) hm
 subst e;cases r3;exact i7 ⟨H3,I3,q3⟩
def Yx(r r':R2)(ta tb tc:TE):TE:=λσ H Q=>ta σ H λx H1=>tb σ H1 λy H2=>r x y H2 λz H3=>∃k,z= .bl k/\(if k=true then tc σ H3 λw' H4=>r' y w' H4 Q else Q (.bl false) H3)
theorem yD{op op':X5}{r r':R2}(ho:NV X (compareOp op) r)(P4:NV X (compareOp op') r')(ha:PE X a ta)(hb:PE X b tb)(hc:PE X c tc)(hm:lastMarks [op,op'] [b,c]=false:=by with_unfolding_all rfl):PE X (.Compare a [op,op'] [b,c] pos) (Yx r r' ta tb tc):=by
 intro pins s σ H Q I h;refine Compare_chain (iU (ha pins s σ H _ I h) λv s1 ⟨x,H1,I1,r1,q1⟩=>chain_link (iU (hb pins s1 σ H1 _ I1 q1) λu s2 ⟨y,H2,I2,r2,q2⟩=>
  iU (ho pins s2 σ H2 x y v u _ I2 r1 r2 q2) λd s3 ⟨z,H3,I3,r3,k,e,q3⟩=>?_)) hm
 subst e;cases r3;refine i7 ?_;cases k with
 |false=>exact ite_ff ⟨.bl false,H3,I3,rfl,q3⟩
 |true=>exact ite_tt (chain_last (iU (hc pins s3 σ H3 _ I3 q3) λw' s4 ⟨z',H4,I4,r4,q4⟩=>P4 pins s4 σ H4 y z' u w' Q I4 r2 r4 q4))
theorem Yy{op op':X5}{r r':R2}(ho:NV X (compareOp op) r)(P4:NV X (compareOp op') r')(ha:PE X a ta)(hb:PE X b tb)(hc:PE X c tc)(hm:lastMarks [op,op'] [b,c]=false:=by with_unfolding_all rfl):PT X (.Compare a [op,op'] [b,c] pos) (Yw (Yx r r' ta tb tc)):=by
 intro pins s σ H Q I h;refine isTrue_chain (iU (ha pins s σ H _ I h) λv s1 ⟨x,H1,I1,r1,q1⟩=>test_link (iU (hb pins s1 σ H1 _ I1 q1) λu s2 ⟨y,H2,I2,r2,q2⟩=>
  iU (ho pins s2 σ H2 x y v u _ I2 r1 r2 q2) λd s3 ⟨z,H3,I3,r3,k,e,q3⟩=>?_)) hm
 subst e;cases r3;refine i7 ?_;cases k with
 |false=>
  obtain⟨k',e',q'⟩:=q3;cases e';exact ite_ff ⟨H3,I3,q'⟩
 |true=>
  refine ite_tt (test_last (iU (hc pins s3 σ H3 _ I3 q3) λw' s4 ⟨z',H4,I4,r4,q4⟩=>iU (P4 pins s4 σ H4 y z' u w' _ I4 r2 r4 q4) λd' s5 ⟨z2,H5,I5,r5,k2,e2,q5⟩=>?_));subst e2;cases r5;exact i7 ⟨H5,I5,q5⟩
theorem Tf:(aM:Nat)<2^63:=by rw[Pw];decide
theorem vals1{x:V}{us:List ax}(r:fj [x] us):∃u,us=[u]/\RelV x u:=by
 cases r with
 |cons r1 r2=>cases r2;exact⟨_,rfl,r1⟩
theorem vals2{x y:V}{us:List ax}(r:fj [x,y] us):∃u w',us=[u,w']/\RelV x u/\RelV y w':=by
 cases r with
 |cons r1 r2=>
  cases r2 with
  |cons r3 r4=>cases r4;exact⟨_,_,rfl,r1,r3⟩
end
end L2
namespace L2
open PySem PySem.Spec PyProof.Rows
structure Tg(h:df)(x dx C:aj)(mA:Str->Option ax):Prop where
 obj:h.get? x=ae (js C dx)
 ns:h.Ns1 dx mA
 ne:dx≠x
theorem Wi{h:df}{dx:aj}{mA:Str->Option ax}(n:h.Ns1 dx mA):∃od,h.get? dx=ae od/\∀name,yy name od=ae (mA name):=by
 obtain⟨o,es,ep,ho,hd,hk,_,hm⟩:=n;refine⟨o,ho,λname=>?_⟩;have e:=hm name;unfold nsFind findBy at e;rw[<-Array.find?_toList] at e;unfold yy;rw[hd];dsimp only;split;rename_i y q;rw[q] at e;exact congrArg ae e
 ·rename_i q;rw[q] at e;have a:es.toList.any (·.refKey)=false:=by
   rw[List.any_eq_false];intro y hy;obtain⟨z,t,EJ⟩:=hk y (Array.mem_toList_iff.mp hy);simp[DictEntry.refKey,EJ]
  have a':¬es.toList.any (·.refKey)=true:=by rw[a];exact bK
  rw[aX a'];exact da ae e
theorem Tg.look{h:df}{x dx C:aj}{mA:Str->Option ax}(I:Tg h x dx C mA):∃od,PySem.W.InstAt h x (js C dx) C (ae od)/\∀name,yy name od=ae (mA name):=let ⟨od,ho,hl⟩:=Wi I.ns
 ⟨od,⟨I.obj,rfl,rfl,ho⟩,hl⟩
section
variable{prog:bg}{w:cn}{A:Around}{E:ax->aE->Prop}{s:aE}{K:au}{x dx C f:aj}{mA:Str->Option ax}{name:Str}{v:ax}
theorem get_map{expr:Bool}{Q:ax->aE->Prop}(X:K.In s.heap)(I:Tg s.heap x dx C mA)(hg:v9 K C name=true)(hh:C1 K C=true)(ha:i9 K (.ref C) name=ae ay)(hv:mA name=ae v)(Yz:V3 v=true)(h:Q v {s with toks:=s.toks+1}):bR (cG prog w) A (getAttr (.ref x) name expr) Q E s:=by
 obtain⟨od,J,hl⟩:=I.look;exact PySem.W.get_value X J (AK hg).1 (PySem.W.findObj_own hh ha rfl (by rw[hl,hv])) Yz h
theorem YB{pl:Sem Bool}{Q:ax×List ax->aE->Prop}(X:K.In s.heap)(I:Tg s.heap x dx C mA)(hg:v9 K C name=true)(hf:i9 K (.ref C) name=ae (ae (.ref f)))(ht:NA K (.ref f)=true)(hv:mA name=ay)(h:Q (.ref f,[.ref x]) s):bR (cG prog w) A (getMethod (.ref x) name pl) Q E s:=by
 obtain⟨od,J,hl⟩:=I.look;exact PySem.W.method_fn X J (AK hg).1 (AK hg).2 hf (beq_iff_eq.mp ht) (by show(yy name od).map (·.isSome)=ae false;rw[hl,hv];rfl) h
theorem abf{ns:List Str}{Q:Unit->aE->Prop}(X:K.In s.heap)(I:Tg s.heap x dx C mA)(hs:i9 K (.ref C) "__setattr__"=ae (ae (.builtin "object.__setattr__")))(hp:UG K C=true)(ht:Gy K C name=ae ay)(hh:C1 K C=true)(hw:PN mA ns)(hsz:ns.length<=aM)(h:∀h',Tg h' x dx C (λy=>if y=name then ae v else mA y)->nU dx s.heap h'->Q () {s with heap:=h',toks:=s.toks+2}):bR (cG prog w) A (setAttr (.ref x) name v) Q E s:=by
 obtain⟨od,J,hl⟩:=I.look;refine PySem.W.set_plain X J hs (PySem.W.osa_open (s:={s with toks:=s.toks+1}) (r:=ay) X J hp ht λb=>?_);obtain⟨cd,hc,Wb⟩:=PySem.W.any_some hh;have hx:s.heap.get? x=ae ⟨.ref C,ae dx,.plain,#[]⟩:=I.obj;refine ak (aS (ak (ak (wpAny_loadPart hx (ak (PySem.W.Looks.here (s:={s with toks:=s.toks+1}) (PySem.W.looks_clsIn X hc) ?_))))));rw[Wb];refine aS (a:=ae dx) (ak (aS (ak ?_)));refine wpAny_nsSet1 (s:={s with toks:=s.toks+1}) I.ns λh' hn2 hs2=>?_;obtain⟨oD,esD,epD,hoD,hdD,hcD⟩:=hn2.count (PySem.Within.cons name v hw);refine ak (wpAny_lookBehind hoD (by rw[hdD];exact pastItsLine_dict (bX hcD (by rw[aL];omega))) ?_);exact aS (h _ ⟨(hs2.2 _ (gA I.ne)).trans I.obj,hn2,I.ne⟩ hs2)
theorem YC{R:Result->aE->Prop}{vs:List ax}{kw:List (Str×ax)}(X:K.In s.heap)(hm:X6 K C=true)(hi:i9 K (.ref C) "__init__"=ae (ae (.ref f)))(hf:PySem.W.typeIn K (.ref f)=ae (.type "function"))(h:codeAny (cG prog w) (A.under (.builtin "type.__call__" ⟨.ref C::vs,kw⟩)) (.call (.ref f) ⟨.ref (s.heap.objs.size+1)::vs,kw⟩) (PySem.W.InitBack (s.heap.objs.size+1) R) {s with heap:=(s.heap.push gS).push (js C s.heap.objs.size)}):codeAny (cG prog w) A (.call (.ref C) ⟨vs,kw⟩) R s:=by
 obtain⟨hh,g,d,t,os⟩:=s;exact PySem.W.make_core (PySem.W.makes_of X hm) (PySem.W.looks_findIn X hi) (λself=>PySem.W.bind_fn X self hf) (.inl rfl) h
end
def putF(f:Str)(v:V):List (Str×V)->List (Str×V)
 |[]=>[(f,v)]
 |(g,x)::r=>if g=f then(g,v)::r else(g,x)::putF f v r
theorem FT(f g:Str)(v:V):∀fs:List (Str×V),(putF f v fs).lookup g=if g=f then ae v else fs.lookup g
 |[]=>by
  show qa g [(f,v)]=_;by_cases h:g=f;have hb:(g==f)=true:=beq_iff_eq.mpr h;simp only[qa,hb,if_pos h];have hb:(g==f)=false:=beq_eq_false_iff_ne.mpr h;simp only[qa,hb,if_neg h]
 |(k,x)::r=>by
  have ih:=FT f g v r;rw[show putF f v ((k,x)::r)=(if k=f then(k,v)::r else(k,x)::putF f v r) from rfl];by_cases hk:k=f
  ·rw[if_pos hk];by_cases h:g=k;have hb:(g==k)=true:=beq_iff_eq.mpr h;simp only[qa,hb,if_pos (h.trans hk)];have hb:(g==k)=false:=beq_eq_false_iff_ne.mpr h;simp only[qa,hb,if_neg (λe:g=f=>h (e.trans hk.symm))]
  ·rw[if_neg hk];by_cases h:g=k;have hb:(g==k)=true:=beq_iff_eq.mpr h;simp only[qa,hb,if_neg (λe:g=f=>hk (h.symm.trans e))];have hb:(g==k)=false:=beq_eq_false_iff_ne.mpr h;simp only[qa,hb];exact ih
theorem EK(f:Str)(v:V):∀fs:List (Str×V),f∈(putF f v fs).map (·.1)/\∀g,g∈fs.map (·.1)->g∈(putF f v fs).map (·.1)
 |[]=>⟨by simp[putF],λg h=>by simp at h⟩
 |(k,x)::r=>by
  obtain⟨i1,i2⟩:=EK f v r;rw[show putF f v ((k,x)::r)=(if k=f then(k,v)::r else(k,x)::putF f v r) from rfl];by_cases hk:k=f;rw[if_pos hk];subst hk;exact⟨by simp,λg h=>by simpa using h⟩
  ·rw[aX hk];refine⟨?_,λg h=>?_⟩;rw[aU];exact aC _ i1
   ·rw[aU] at h⊢;obtain e|e:=aF.mp h
    exact aF.mpr (.inl e);exact aC _ (i2 g e)
theorem FU(f:Str)(v:V):∀fs:List (Str×V),(putF f v fs).length<=fs.length+1
 |[]=>by simp[putF]
 |(k,x)::r=>by
  have ih:=FU f v r;rw[show putF f v ((k,x)::r)=(if k=f then(k,v)::r else(k,x)::putF f v r) from rfl];by_cases hk:k=f;rw[bw hk,aL,aL];omega;rw[aX hk,aL,aL];omega
theorem wm.some_of{v:V}{o:Option ax}(r:wm (ae v) o):∃u,o=ae u/\RelV v u:=by
 cases o with
 |none=>exact(show False from r).elim
 |some u=>exact⟨u,rfl,r⟩
theorem wm.none_of{o:Option ax}(r:wm ay o):o=ay:=by
 cases o with
 |none=>rfl
 |some u=>exact(show False from r).elim
theorem Wj{v:V}{u:ax}(r:RelV v u):V3 u=true:=by
 cases v with
 |non=>cases (show u=iL from r);rfl
 |bl b=>cases (show u=V2 b from r);rfl
 |int i=>obtain⟨t,e⟩:=(show∃t,u=rT i t from r);cases e;rfl
 |str x=>obtain⟨t,e⟩:=(show∃t,u=Gw x t from r);cases e;rfl
 |Sn b=>obtain⟨t,e⟩:=(show∃t,u=Value.bytes b t from r);cases e;rfl
 |flt b=>obtain⟨t,e⟩:=(show∃t,u=Value.float b t from r);cases e;rfl
 |ref a=>cases (show u=de a from r);rfl
 |ty n=>cases (show u=u6 n from r);rfl
section
variable{P:bg}{w:cn}{H H':Hp}{h h':df}{a C dx:aj}{fs S_:List (Str×V)}
theorem NW(gB:xl P w H h)(e:H a=ae (.ins C dx fs)):∃mA,Tg h a dx C mA/\(∀f,wm (fs.lookup f) (mA f))/\PN mA (fs.map (·.1))/\fs.length<=1000/\H dx=ae (.own a):=by
 obtain⟨d,z,ne,ob,mA,n,r,q⟩:=(show jv P w H h a (.ins C dx fs) from gB a _ e);exact⟨mA,⟨ob,n,ne⟩,r,q,z,d⟩
end
structure Ss(K:au)(C:aj):Prop where
 pg:v9 K C Str.empty=true
 hd:C1 K C=true
 po:UG K C=true
 sa:i9 K (.ref C) "__setattr__"=ae (ae (.builtin "object.__setattr__"))
theorem Ss.get{K:au}{C:aj}(c:Ss K C)(f:Str):v9 K C f=true:=c.pg
def iI(K:au)(C:aj)(f:Str):Prop:=i9 K (.ref C) f=ae ay
theorem iI.afp{K:au}{C:aj}{f:Str}(n:iI K C f):Gy K C f=ae ay:=by
 unfold Gy;rw[show i9 K (.ref C) f=ae ay from n];rfl
structure wt(K:au)(C:aj)(m:Str)(f:aj):Prop where
 at_:i9 K (.ref C) m=ae (ae (.ref f))
 fn:NA K (.ref f)=true
 kp:t9 K (.ref f)=true
section
variable{X:Cx}{pins:List (aj×Obj)}{σ:St}{H:Hp}{s:aE}{a C dx:aj}{fs:List (Str×V)}{f:Str}{v:V}{A:Around}{E:ax->aE->Prop}
theorem Ti{b:Bool}{Q:ax->aE->Prop}(I:Inv X pins σ H s)(e:H a=ae (.ins C dx fs))(c:Ss X.K C)(n:iI X.K C f)(l:fs.lookup f=ae v)(h:∀u s',Inv X pins σ H s'->RelV v u->Q u s'):bR (cG X.prog X.w) A (getAttr (.ref a) f b) Q E s:=by
 obtain⟨mA,O,r,_,_,_⟩:=NW I.gB e;obtain⟨u,hu,ru⟩:=wm.some_of (v:=v) (o:=mA f) (by rw[<-l];exact r f);exact get_map I.P2 O (c.get f) c.hd n hu (Wj ru) (h u _ (I.tok _) ru)
theorem IP{m:Str}{g:aj}{pl:Sem Bool}{Q:ax×List ax->aE->Prop}(I:Inv X pins σ H s)(e:H a=ae (.ins C dx fs))(c:Ss X.K C)(k:wt X.K C m g)(l:fs.lookup m=ay)(h:Q (.ref g,[.ref a]) s):bR (cG X.prog X.w) A (getMethod (.ref a) m pl) Q E s:=by
 obtain⟨mA,O,r,_,_,_⟩:=NW I.gB e;have hn:mA m=ay:=wm.none_of (by rw[<-l];exact r m);exact YB I.P2 O (c.get m) k.at_ k.fn hn h
theorem Tj{y:V}{u:ax}{Q:Unit->aE->Prop}(I:Inv X pins σ H s)(e:H a=ae (.ins C dx fs))(c:Ss X.K C)(n:iI X.K C f)(hl:fs.length<1000)(ry:RelV y u)(h:∀s',Inv X pins σ (upd H a (.ins C dx (putF f y fs))) s'->Q () s'):bR (cG X.prog X.w) A (setAttr (.ref a) f u) Q E s:=by
 obtain⟨mA,O,r,wi,_,ho⟩:=NW I.gB e;have hz:(fs.map (·.1)).length<=aM:=by rw[ag,Pw];omega
 refine abf I.P2 O c.sa c.po n.afp c.hd wi hz λh' O' sb=>h _ ?_;have hd:∃o,h'.get? dx=ae o:=let ⟨o,_,_,e',_⟩:=O'.ns;⟨o,e'⟩;refine I.write (x:=a) (e:=dx) (by rw[e];exact sT) (.inr ho) (λb q hb z=>(sb.2 b hb).trans z) hd ?_;refine⟨by rw[cZ O.ne];exact ho,?_,O.ne,O'.obj,_,O'.ns,λg=>?_,λg hg=>?_⟩;have:=FU f y fs;omega
 ·show wm ((putF f y fs).lookup g) (if g=f then ae u else mA g);rw[FT];by_cases q:g=f;rw[bw q,bw q];exact ry;rw[aX q,aX q];exact r g
 ·by_cases q:g=f;rw[q];exact(EK f y fs).1;refine(EK f y fs).2 g (wi g λz=>hg ?_);show(if g=f then ae u else mA g)=ay;rw[aX q];exact z
theorem Inv.made(I:Inv X pins σ H s):Inv X pins σ (upd (upd H s.heap.objs.size (.own (s.heap.objs.size+1))) (s.heap.objs.size+1) (.ins C s.heap.objs.size [])) {s with heap:=(s.heap.push gS).push (js C s.heap.objs.size)}:=by
 have e1:(s.heap.push gS).get? s.heap.objs.size=ae gS:=bA s.heap rfl;have e2:((s.heap.push gS).push (js C s.heap.objs.size)).get? (s.heap.objs.size+1)=ae (js C s.heap.objs.size):=by
  have:=bA (s.heap.push gS) (o:=js C s.heap.objs.size) rfl;rwa [eU] at this
 have e3:(s.heap.push gS).Ns s.heap.objs.size (λ_=>ay):=⟨gS,#[],_,e1,rfl,(λe he=>absurd he (by simp)),λ_=>rfl⟩;have I1:=I.laid (a:=s.heap.objs.size) (o:= .own (s.heap.objs.size+1)) (h':=s.heap.push gS) (t':=s.toks) (λb u q=>aG _ q) (aJ _) ⟨_,e1⟩;refine I1.laid (a:=s.heap.objs.size+1) (o:= .ins C s.heap.objs.size []) (t':=s.toks) (λb u q=>aG _ q) (yz (eU _ _)) ?_;have ne:s.heap.objs.size≠s.heap.objs.size+1:=dR (nY _);refine⟨by rw[cZ ne,aq],cI _,ne,e2,λ_=>ay,(Heap.Ns1.of_empty e3).at λo q=>aG _ q,λ_=>sT,λy hy=>absurd rfl hy⟩
theorem abg{prog:bg}{w:cn}{env:Env}{e:eJ}{f:Str}{pos:Pos}{s:aE}{Q:ax->aE->Prop}(hb:attributeBase e f env (eval e env)=eval e env)(h:bR (cG prog w) A (eval e env) (λo s₁=>bR (cG prog w) A (getAttr o f true) Q E s₁) E s):bR (cG prog w) A (eval (.Attribute e f pos) env) Q E s:=Attribute_any_ h (by rw[arm_eval_Attribute,hb])
end
def afq(K:au)(ta:TE)(f:Str):TE:=λσ H Q=>ta σ H λx H1=>∃a C dx fs v,x= .ref a/\H1 a=ae (.ins C dx fs)/\Ss K C/\iI K C f/\fs.lookup f=ae v/\Q v H1
def aip(K:au)(ta tv:TE)(f:Str):TS:=λD σ H=>tv σ H λy H1=>ta σ H1 λx H2=>∃a C dx fs,x= .ref a/\H2 a=ae (.ins C dx fs)/\Ss K C/\iI K C f/\fs.length<1000/\D.nx σ (upd H2 a (.ins C dx (putF f y fs)))
section
variable{X:Cx}{o e value:eJ}{f:Str}{pos pos' Lr:Pos}{ta tv:TE}
theorem aT(he:PE X e ta)(hb:attributeBase e f X.env (eval e X.env)=eval e X.env):PE X (.Attribute e f pos) (afq X.K ta f):=by
 intro pins s σ H Q I h;refine abg hb (iU (he pins s σ H _ I h) λu s1 ⟨x,H1,I1,rx,a,C,dx,fs,v,ex,ea,c,n,l,q⟩=>?_);subst ex;obtain rfl:u=de a:=rx;exact Ti I1 ea c n l λu' s2 I2 ru=>⟨v,H1,I2,ru,q⟩
theorem gP(ha:PE X o ta)(hv:PE X value tv)(hs:swapsWith value (ae (.Attribute o f pos')) pos.line X.env=pure false):PS X (.Assign [.Attribute o f pos'] value pos) (aip X.K ta tv f):=by
 intro pins s σ H D I h;refine plainObj_wpAny_Assign_Attribute (iU (hv pins s σ H _ I h) λu s1 ⟨y,H1,I1,ry,q⟩=>iU (ha pins s1 σ H1 _ I1 q) λov s2 ⟨x,H2,I2,rx,a,C,dx,fs,ex,ea,c,n,l,q2⟩=>?_) hs;subst ex;obtain rfl:ov=de a:=rx;exact Tj I2 ea c n l ry λs3 I3=>⟨σ,_,I3,q2⟩
end
section
variable{X:Cx}{pins:List (aj×Obj)}{σ:St}{H:Hp}{s:aE}{A:Around}{E:ax->aE->Prop}{Q:ax->aE->Prop}{c:ax}{b:Bool}
end
end L2
namespace L2
open PySem PySem.Spec PyProof.Rows
structure pH(k:Nat)(A:Around):Prop where
 hd:A.handled=ay
 dp:A.depth+3*k+5<recursionLimit
 un:A.units+16*k+200<cLine
theorem pH.mono{j k:Nat}{A:Around}(r:pH k A)(h:j<=k):pH j A:=⟨r.hd,by have:=r.dp;omega,by have:=r.un;omega⟩
theorem pH.deeper{k:Nat}{A:Around}(r:pH (k+1) A)(env:Env):pH k (A.deeper env):=⟨r.hd,by have:=r.dp;show A.depth+1+3*k+5<_;omega,by have:=r.un;show A.units+3+16*k+200<_;omega⟩
theorem Tn{A:Around}{C:aj}{us:List ax}{kw:List (Str×ax)}:(A.under (.builtin "type.__call__" ⟨.ref C::us,kw⟩)).depth=A.depth+1:=by
 first|rfl|simp[Px,Code.weight,Code.isCreation,Code.isGuard,Code.isCaller,Code.frames,Sb,guardIds]
theorem To{A:Around}{C:aj}{us:List ax}{kw:List (Str×ax)}:(A.under (.builtin "type.__call__" ⟨.ref C::us,kw⟩)).units=A.units+1:=by
 first|rfl|simp[Px,Code.cUnits,Code.frames,Sb]
theorem pH.make{k:Nat}{A:Around}(r:pH (k+1) A)(C:aj)(us:List ax)(kw:List (Str×ax)):pH k (A.under (.builtin "type.__call__" ⟨.ref C::us,kw⟩)):=⟨r.hd,by have:=r.dp;rw[Tn];omega,by have:=r.un;rw[To];omega⟩
theorem pH.depth{k:Nat}{A:Around}(r:pH k A):A.depth<recursionLimit:=by have:=r.dp;omega
theorem pH.units{k:Nat}{A:Around}(r:pH k A):A.units+64<cLine:=by have:=r.un;omega
def EL:TA:=λ_ H Q=>Q [] H
def r9(ta:TE)(tr:TA):TA:=λσ H Q=>ta σ H λx H1=>tr σ H1 λxs H2=>Q (x::xs) H2
section
variable{X:Cx}{e:eJ}{es:List eJ}{te:TE}{t:TA}{pos:Pos}
theorem aw:PA X [] EL:=λ_ _ _ _ H Q I h=>qW ⟨[],H,I,.nil,h⟩
theorem ah(ha:PE X e te)(hr:PA X es t)(hs:starEach (e::es) X.env=(false,eval e X.env)::starEach es X.env:=by rfl):PA X (e::es) (r9 te t):=by
 intro pos pins s σ H Q I h;rw[hs];show bR _ _ (spliced ((false,eval e X.env)::backTo pos (starEach es X.env))) _ _ s;refine ji (iU (ha pins s σ H _ I h) λu s1 ⟨x,H1,I1,r1,q1⟩=>?_);exact iU (hr pos pins s1 σ H1 _ I1 q1) λus s2 ⟨xs,H2,I2,r2,q2⟩=>⟨x::xs,H2,I2,.cons r1 r2,q2⟩
def aiq(t:TA):TE:=λσ H Q=>t σ H λxs H1=>xs.length<=aM/\∀p,H1 p=ay->Q (.ref p) (upd H1 p (.tup xs))
def YD(t:TA):TE:=λσ H Q=>t σ H λxs H1=>xs.length<=aM/\∀p,H1 p=ay->Q (.ref p) (upd H1 p (.lst xs))
theorem NX{x1}(h:PA X es t):PE X (.Tuple es x1 pos) (aiq t):=by
 intro pins s σ H Q I hq;refine wpAny_Tuple_spliced (iU (h pos pins s σ H _ I hq) λus s1 ⟨xs,H1,I1,r,z,q⟩=>⟨by rw[<-r.length];exact z,?_⟩);have hf:H1 s1.heap.objs.size=ay:=I1.gB.fresh (aJ _);refine⟨.ref s1.heap.objs.size,upd H1 s1.heap.objs.size (.tup xs),I1.laid (t':=s1.toks) (λb u e=>aG _ e) (aJ _) ?_,rfl,q _ hf⟩;exact⟨z,us,r,⟨_,bA _ rfl,rfl,_,rfl⟩⟩
theorem cv(h:PA X es t):PE X (.List es pos) (YD t):=by
 intro pins s σ H Q I hq;refine wpAny_List_spliced (iU (h pos pins s σ H _ I hq) λus s1 ⟨xs,H1,I1,r,z,q⟩=>⟨by rw[<-r.length];exact z,?_⟩);have hf:H1 s1.heap.objs.size=ay:=I1.gB.fresh (aJ _);refine⟨.ref s1.heap.objs.size,upd H1 s1.heap.objs.size (.lst xs),I1.laid (t':=s1.toks) (λb u e=>aG _ e) (aJ _) ?_,rfl,q _ hf⟩;exact⟨z,us,0,r,bA _ rfl⟩
end
abbrev Sp:=List V->Hp->VK->XK->Prop
abbrev Sv:=List Env->Hp->aE->XK->ax->aE->Prop
structure Tq(P:bg)(w:cn)(K:au)(mg:Str->Option ax)(base:df)(A:Around)(outer:List Env)(s:aE)(H:Hp):Prop where
 frames:A.frames=ae outer
 mod:Mod K mg base
 bs:∀b o,base.get? b=ae o->s.heap.get? b=ae o/\H b=ay
 Yq:base.objs.size<=s.heap.objs.size
 C3:s.heap.FunFrames base outer
 frf:∀b∈Ey outer,H b=ay
 gB:xl P w H s.heap
 bare:yj s.gens
def CE(outer:List Env)(P:bg)(w:cn)(H:Hp)(s:aE)(Q:VK)(u:ax)(s':aE):Prop:=∃v H',s'.os=s.os/\yj s'.gens/\Un (Ey outer) [] H H' s.heap s'.heap/\xl P w H' s'.heap/\RelV v u/\Q v H'
def CR(CX:Sv)(outer:List Env)(P:bg)(w:cn)(H:Hp)(s:aE)(Q:VK)(E:XK)(r:Result)(s':aE):Prop:=match r with
 | .ok (.ret u)=>CE outer P w H s Q u s'
 | .ok _=>False
 | .error e=>CX outer H s E e s'
structure dU(P:bg)(w:cn)(K:au)(mg:Str->Option ax)(base:df)(CX:Sv)(k:Nat)(f:aj)(fd:bq)(ps:List Str)(sp:Sp):Prop where
 len:∀vs H Q E,sp vs H Q E->vs.length=ps.length
 run:∀(A:Around) (outer:List Env) (s:aE) (H:Hp) (args:Args) (us:List ax) (vs:List V) (Q:VK) (E:XK),pH k A->Tq P w K mg base A outer s H->Sd s fd args (ps.zip us)->fj vs us->sp vs H Q E->codeAny (cG P w) A (.call (.ref f) args) (CR CX outer P w H s Q E) s
theorem dU.imp{P:bg}{w:cn}{K:au}{mg:Str->Option ax}{base:df}{CX:Sv}{k:Nat}{f:aj}{fd:bq}{ps:List Str}{sp sp':Sp}(F:dU P w K mg base CX k f fd ps sp)(h:∀vs H Q E,sp' vs H Q E->sp vs H Q E):dU P w K mg base CX k f fd ps sp':=⟨λvs H Q E q=>F.len vs H Q E (h _ _ _ _ q),λA outer s H args us vs Q E hr he hb hv hs=>F.run A outer s H args us vs Q E hr he hb hv (h _ _ _ _ hs)⟩
theorem Tq.make{P:bg}{w:cn}{K:au}{mg:Str->Option ax}{base:df}{A:Around}{outer:List Env}{s:aE}{H:Hp}(e:Tq P w K mg base A outer s H)(C:aj)(us:List ax)(kw:List (Str×ax)):Tq P w K mg base (A.under (.builtin "type.__call__" ⟨.ref C::us,kw⟩)) outer s H:=⟨by first|exact e.frames|(simpa [Px,Code.envs,Sb,pushEnvs] using e.frames),e.mod,e.bs,e.Yq,e.C3,e.frf,e.gB,e.bare⟩
section
variable{X:Cx}{pins:List (aj×Obj)}{σ:St}{H:Hp}{s s':aE}
theorem Inv.afr(I:Inv X pins σ H s):Tq X.prog X.w X.K X.mg X.base X.A X.stack s H:=⟨I.ok.frames,I.ok.mod,I.bs,bX I.ok.Yq I.sz,I.stack,I.HY,I.gB,I.bare⟩
theorem Inv.after{Q:VK}{u:ax}(I:Inv X pins σ H s)(h:CE X.stack X.prog X.w H s Q u s'):EP X pins σ Q u s':=by
 obtain⟨v,H',os,bare,un,gB,r,q⟩:=h;obtain⟨hh,g,d,t,os'⟩:=s';obtain rfl:os'=s.os:=os;exact⟨v,H',I.call (h':=hh) (g':=g) (d':=d) (t':=t) (ch:=[]) un gB bare (λb z=>absurd z (by simp)),r,q⟩
end
def P_(sp:Sp)(IQ:List V)(E:XK)(t:TA):TE:=λσ H Q=>t σ H λvs H1=>sp (vs++IQ) H1 Q E
def acB(C:aj)(m:Str)(sp:Sp)(IQ:List V)(E:XK)(ta:TE)(t:TA):TE:=λσ H Q=>ta σ H λx H1=>∃a dx fs,x= .ref a/\H1 a=ae (.ins C dx fs)/\fs.lookup m=ay/\t σ H1 λvs H2=>sp (x::(vs++IQ)) H2 Q E
def acC(C:aj)(sp:Sp)(IQ:List V)(E:XK)(t:TA):TE:=λσ H Q=>t σ H λvs H1=>∀x dx,H1 x=ay->H1 dx=ay->dx≠x->sp (.ref x::(vs++IQ)) (upd (upd H1 dx (.own x)) x (.ins C dx [])) (λv H2=>v= .non/\Q (.ref x) H2) E
def Binds(K:au)(fd:bq)(ps:List Str)(ds:List ax):Prop:=∀(s:aE) (us:List ax),K.In s.heap->(us++ds).length=ps.length->Sd s fd ⟨us,[]⟩ (ps.zip (us++ds))
theorem Binds.all{K:au}{fd:bq}{ps:List Str}(h:∀us:List ax,us.length=ps.length->bindArgs fd ⟨us,[]⟩=pure (ps.zip us)):Binds K fd ps []:=λs us _ hl=>by
 rw[cD] at hl⊢;exact .of_eq (h us hl)
def vP(CX:Sv)(X:Cx)(E:XK):Prop:=∀(pins:List (aj×Obj)) (σ:St) (H:Hp) (s:aE) (e:ax) (s':aE),Inv X pins σ H s->CX X.stack H s E e s'->X.xe e s'
section
variable{X:Cx}{CX:Sv}{k:Nat}{f C:aj}{fd:bq}{ps:List Str}{sp:Sp}{IQ:List V}{ds:List ax}{E:XK}{x m:Str}{p pos apos:Pos}{e o:eJ}{es:List eJ}{ta:TE}{t:TA}
theorem Tr{pins:List (aj×Obj)}{σ:St}{H:Hp}{s:aE}{Q:VK}{us:List ax}{vs:List V}(F:dU X.prog X.w X.K X.mg X.base CX k f fd ps sp)(hr:pH k X.A)(hb:Binds X.K fd ps ds)(hd:fj IQ ds)(hx:vP CX X E)(I:Inv X pins σ H s)(r:fj vs us)(h:sp (vs++IQ) H Q E):bR (cG X.prog X.w) X.A (call (.ref f) us) (EP X pins σ Q) X.xe s:=by
 have r2:fj (vs++IQ) (us++ds):=r.append hd;have hl:(us++ds).length=ps.length:=by rw[<-r2.length];exact F.len _ _ _ _ h
 refine wpAny_call (Lh (F.run X.A X.stack s H ⟨us,[]⟩ (us++ds) (vs++IQ) Q E hr I.afr (hb s us I.P2 hl) r2 h) λr s' hq=>?_);cases r with
 |error e=>exact hx pins σ H s e s' I hq
 |ok fl=>
  cases fl with
  |ret u=>exact I.after hq
  |next=>exact gk hq
  |brk=>exact gk hq
  |cont=>exact gk hq
theorem bI(F:dU X.prog X.w X.K X.mg X.base CX k f fd ps sp)(hr:pH k X.A)(hg:Gl X x)(hm:X.mg x=ae (.ref f))(hk:t9 X.K (.ref f)=true)(hb:Binds X.K fd ps ds)(hd:fj IQ ds)(hx:vP CX X E)(ha:PA X (e::es) t)(Ts:(x==("__debug__":Str))=false:=by decide)(he:starEach (e::es) X.env=(false,eval e X.env)::starEach es X.env:=by rfl)(C5:(backTo pos (starEach es X.env)).any (·.1)=false:=by rfl):PE X (.Call (.Name x p) (e::es) [] pos) (P_ sp IQ E t):=by
 intro pins s σ H Q I h;refine jH (Aj I hg hm ?_ Ts);refine B8 (h₀:=X.base) I.ok.mod.kin hk (iU (ha pos pins s σ H _ I h) λus s1 ⟨vs,H1,I1,r,q⟩=>⟨I1.P2,?_⟩) he C5;exact Tr F hr hb hd hx I1 r q
theorem cX{pl:Sem Bool}(he:PE X o ta)(c:Ss X.K C)(hm:wt X.K C m f)(F:dU X.prog X.w X.K X.mg X.base CX k f fd ps sp)(hr:pH k X.A)(hb:Binds X.K fd ps ds)(hd:fj IQ ds)(hx:vP CX X E)(ha:PA X (e::es) t)(X':starEach (e::es) X.env=(false,eval e X.env)::starEach es X.env:=by rfl)(C5:(backTo pos (starEach es X.env)).any (·.1)=false:=by rfl)(ht:eval (.Call (.Attribute o m apos) (e::es) [] pos) X.env=(do
   let ov<-eval o X.env
   standAt apos.atName
   let (f,first)<-holding [ov] (getMethod ov m pl)
   callWith pos f first (backTo pos (starEach (e::es) X.env)) (backToKw pos (keywordEach [] X.env))):=by rfl):
  PE X (.Call (.Attribute o m apos) (e::es) [] pos) (acB C m sp IQ E ta t):=by
 intro pins s σ H Q I h;refine Py (pl:=pl) (iU (he pins s σ H _ I h) λu s1 ⟨x,H1,I1,rx,a,dx,fs,ex,ea,l,q⟩=>?_) ht;subst ex;obtain rfl:u=de a:=rx;refine IP I1 ea c hm l ?_;refine B8 (first:=[.ref a]) (h₀:=X.base) I.ok.mod.kin hm.kp (iU (ha pos pins s1 σ H1 _ I1 q) λus s2 ⟨vs,H2,I2,r,q2⟩=>⟨I2.P2,?_⟩) X' C5;exact Tr (us:= .ref a::us) (vs:= .ref a::vs) F hr hb hd hx I2 (.cons rfl r) q2
theorem sd{pl:Sem Bool}(he:PE X o ta)(c:Ss X.K C)(hm:wt X.K C m f)(F:dU X.prog X.w X.K X.mg X.base CX k f fd ps sp)(hr:pH k X.A)(hb:Binds X.K fd ps ds)(hd:fj IQ ds)(hx:vP CX X E)(ht:eval (.Call (.Attribute o m apos) [] [] pos) X.env=(do
   let ov<-eval o X.env
   standAt apos.atName
   let (f,first)<-holding [ov] (getMethod ov m pl)
   callWith pos f first (backTo pos (starEach [] X.env)) (backToKw pos (keywordEach [] X.env))):=by rfl):
  PE X (.Call (.Attribute o m apos) [] [] pos) (acB C m sp IQ E ta EL):=by
 intro pins s σ H Q I h;refine Py (pl:=pl) (iU (he pins s σ H _ I h) λu s1 ⟨x,H1,I1,rx,a,dx,fs,ex,ea,l,q⟩=>?_) ht;subst ex;obtain rfl:u=de a:=rx;refine IP I1 ea c hm l ?_;exact Se (first:=[.ref a]) I1.P2 hm.kp (Tr (us:=[.ref a]) (vs:=[.ref a]) F hr hb hd hx I1 (.cons rfl .nil) q)
structure Mk(K:au)(C f:aj):Prop where
 makes:X6 K C=true
 init:i9 K (.ref C) "__init__"=ae (ae (.ref f))
 fn:NA K (.ref f)=true
 kp:t9 K (.ref C)=true
theorem Qa{pins:List (aj×Obj)}{σ:St}{H:Hp}{s:aE}{Q:VK}{us:List ax}{vs:List V}(M:Mk X.K C f)(F:dU X.prog X.w X.K X.mg X.base CX k f fd ps sp)(hr:pH (k+1) X.A)(hb:Binds X.K fd ps ds)(hd:fj IQ ds)(hx:vP CX X E)(I:Inv X pins σ H s)(r:fj vs us)(h:∀x dx,H x=ay->H dx=ay->dx≠x->sp (.ref x::(vs++IQ)) (upd (upd H dx (.own x)) x (.ins C dx [])) (λv H2=>v= .non/\Q (.ref x) H2) E):bR (cG X.prog X.w) X.A (call (.ref C) us) (EP X pins σ Q) X.xe s:=by
 have hq:=h (s.heap.objs.size+1) s.heap.objs.size (I.gB.fresh (nJ _)) (I.gB.fresh (aJ _)) (dR (nY _));have I2:=Inv.made (C:=C) I;have r2:fj (V.ref (s.heap.objs.size+1)::(vs++IQ)) (de (s.heap.objs.size+1)::(us++ds)):= .cons rfl (r.append hd);have hl:(de (s.heap.objs.size+1)::us++ds).length=ps.length:=by
  have e:=r2.length;rw[F.len _ _ _ _ hq] at e;exact e.symm
 refine wpAny_call (YC (f:=f) I.P2 M.makes M.init (beq_iff_eq.mp M.fn) (Lh (F.run _ X.stack _ _ ⟨de (s.heap.objs.size+1)::us,[]⟩ (de (s.heap.objs.size+1)::(us++ds)) _ _ E (hr.make C us []) (I2.afr.make C us []) (hb _ (de (s.heap.objs.size+1)::us) I2.P2 hl) r2 hq) λr s' YF=>?_));cases r with
 |error e=>exact hx pins σ _ _ e s' I2 YF
 |ok fl=>
  cases fl with
  |ret u=>
   obtain⟨v,H',I3,rv,ev,q3⟩:=I2.after YF;subst ev;exact⟨rv,⟨V.ref (s.heap.objs.size+1),H',I3,rfl,q3⟩⟩
  |next=>exact gk YF
  |brk=>exact gk YF
  |cont=>exact gk YF
theorem xn(M:Mk X.K C f)(F:dU X.prog X.w X.K X.mg X.base CX k f fd ps sp)(hr:pH (k+1) X.A)(hg:Gl X x)(hm:X.mg x=ae (.ref C))(hb:Binds X.K fd ps ds)(hd:fj IQ ds)(hx:vP CX X E)(ha:PA X (e::es) t)(Ts:(x==("__debug__":Str))=false:=by decide)(he:starEach (e::es) X.env=(false,eval e X.env)::starEach es X.env:=by rfl)(C5:(backTo pos (starEach es X.env)).any (·.1)=false:=by rfl):PE X (.Call (.Name x p) (e::es) [] pos) (acC C sp IQ E t):=by
 intro pins s σ H Q I h;refine jH (Aj I hg hm ?_ Ts);refine B8 (h₀:=X.base) I.ok.mod.kin M.kp (iU (ha pos pins s σ H _ I h) λus s1 ⟨vs,H1,I1,r,q⟩=>⟨I1.P2,?_⟩) he C5;exact Qa M F hr hb hd hx I1 r q
theorem IU(M:Mk X.K C f)(F:dU X.prog X.w X.K X.mg X.base CX k f fd ps sp)(hr:pH (k+1) X.A)(hg:Gl X x)(hm:X.mg x=ae (.ref C))(hb:Binds X.K fd ps ds)(hd:fj IQ ds)(hx:vP CX X E)(Ts:(x==("__debug__":Str))=false:=by decide):PE X (.Call (.Name x p) [] [] pos) (acC C sp IQ E EL):=by
 intro pins s σ H Q I h;refine jH (Aj I hg hm ?_ Ts);exact Se I.P2 M.kp (Qa (us:=[]) M F hr hb hd hx I .nil h)
end
def PK(X:Cx)(kws:List B9)(t:TA):Prop:=∀(pos:Pos) (pins:List (aj×Obj)) (s:aE) (σ:St) (H:Hp) (Q:List V->Hp->Prop),Inv X pins σ H s->t σ H Q->bR (cG X.prog X.w) X.A (evalAll ((backToKw pos (keywordEach kws X.env)).map (·.2))) (AP X pins σ Q) X.xe s
section
variable{X:Cx}{CX:Sv}{k:Nat}{f C:aj}{fd:bq}{ps ks:List Str}{sp:Sp}{E:XK}{x m:Str}{p pos apos air:Pos}{e o:eJ}{es:List eJ}{kws:List B9}{te ta:TE}{t tk:TA}{nm:Option Str}
theorem YG:PK X [] EL:=λ_ _ _ _ H Q I h=>wpAny_evalAll_nil ⟨[],H,I,.nil,h⟩
theorem UX(ha:PE X e te)(hr:PK X kws t):PK X (⟨nm,e,air⟩::kws) (r9 te t):=by
 intro pos pins s σ H Q I h;show bR _ _ (evalAll ((do let v<-eval e X.env;standAt pos;pure v)::(backToKw pos (keywordEach kws X.env)).map (·.2))) _ _ s;refine wpAny_evalAll_cons (ak (iU (ha pins s σ H _ I h) λu s1 ⟨x,H1,I1,r1,q1⟩=>ak (V4 (aS ?_))));exact iU (hr pos pins s1 σ H1 _ I1 q1) λus s2 ⟨xs,H2,I2,r2,q2⟩=>⟨x::xs,H2,I2,.cons r1 r2,q2⟩
variable{g:List ax->List ax->List ax}{gV:List V->List V->List V}
end
structure bS(N P:List Str)(sc:m_):Prop where
 kind:sc.kind= .function
 co:sc.isCoroutine=false
 gen:sc.isGenerator=false
 nd:N.Nodup
 pre:N.take P.length=P
 par:∀x∈P,sc.names.lookup x=ae .local\/sc.names.lookup x=ae .cell
 ady:∀y∈sc.names,y.2≠ .free
theorem MG{kindOf:Str->Option kz}{x:Str}:∀{binds:List (Str×ax)} {m:Str->Option ax},(∀v,(x,v)∉binds)->bindL kindOf binds m x=m x
 |[],_,_=>rfl
 |(n,v)::r,m,h=>by
  unfold bindL;rw[MG λw hw=>h w (aC _ hw)];split
  ·have:x≠n:=by rintro rfl;exact h v aB
   simp[this]
  rfl
theorem MH{kindOf:Str->Option kz}{x:Str}:∀{binds:List (Str×ax)} {m:Str->Option ax},(∀v,(x,v)∉binds)->bindC kindOf binds m x=m x
 |[],_,_=>rfl
 |(n,v)::r,m,h=>by
  unfold bindC;rw[MH λw hw=>h w (aC _ hw)];split;rfl
  ·have:x≠n:=by rintro rfl;exact h v aB
   simp[this]
theorem MJ{kindOf:Str->Option kz}{x:Str}{v:ax}:∀{P:List Str} {vs:List ax} {i:Nat} {m:Str->Option ax},P.Nodup->P[i]? =ae x->vs[i]? =ae v->kindOf x=ae .local->bindL kindOf (P.zip vs) m x=ae v
 |[],_,_,_,_,h,_,_=>by simp at h
 |_::_,[],_,_,_,_,h,_=>by simp at h
 |p::P,w::vs,0,m,nd,h1,h2,hk=>by
  simp at h1 h2;subst h1;subst h2;show bindL kindOf ((p,w)::P.zip vs) m p=_;unfold bindL;rw[MG λv hv=>(cU.mp nd).1 (K6 hv).1,if_pos hk];simp
 |p::P,w::vs,i+1,m,nd,h1,h2,hk=>by
  show bindL kindOf ((p,w)::P.zip vs) m x=_;unfold bindL;exact MJ (i:=i) (cU.mp nd).2 (by simpa using h1) (by simpa using h2) hk
theorem MK{kindOf:Str->Option kz}{x:Str}{v:ax}:∀{P:List Str} {vs:List ax} {i:Nat} {m:Str->Option ax},P.Nodup->P[i]? =ae x->vs[i]? =ae v->kindOf x≠ae .local->bindC kindOf (P.zip vs) m x=ae v
 |[],_,_,_,_,h,_,_=>by simp at h
 |_::_,[],_,_,_,_,h,_=>by simp at h
 |p::P,w::vs,0,m,nd,h1,h2,hk=>by
  simp at h1 h2;subst h1;subst h2;show bindC kindOf ((p,w)::P.zip vs) m p=_;unfold bindC;rw[MH λv hv=>(cU.mp nd).1 (K6 hv).1,if_neg hk];simp
 |p::P,w::vs,i+1,m,nd,h1,h2,hk=>by
  show bindC kindOf ((p,w)::P.zip vs) m x=_;unfold bindC;exact MK (i:=i) (cU.mp nd).2 (by simpa using h1) (by simpa using h2) hk
def start(N:List Str)(vs:List V):St:=vs.map ae++List.replicate (N.length -vs.length) ay
def xo(CX:Sv)(P:bg)(w:cn)(K:au)(mg:Str->Option ax)(base:df)(N:List Str)(qual:Str)(scope:m_)(f:aj)(cd:ax)(A:Around)(outer:List Env)(s:aE)(H:Hp)(E:XK):Cx where
 prog:=P
 w:=w
 K:=K
 mg:=mg
 base:=base
 A:=A.deeper (envOfC qual scope s.heap.objs.size f cd)
 N:=N
 MC:=s
 H_0:=H
 env:=envOfC qual scope s.heap.objs.size f cd
 outer:=outer
 stack:=envOfC qual scope s.heap.objs.size f cd::outer
 ex:=[]
 calm:=true
 fn:=λ_=>true
 pn:=[]
 xe:=λe s'=>bR (cG P w) (A.deeper (envOfC qual scope s.heap.objs.size f cd)) (leaving (envOfC qual scope s.heap.objs.size f cd) e) (λ_ s''=>CX outer H s E e s'') (λe' s''=>CX outer H s E e' s'') s'
theorem Qb{sc:m_}{n:Nat}{x:Str}(h:sc.names.lookup x=ae .cell):∃c,(cellsFrom n sc.names []).lookup x=ae c:=by
 have q:=NB sc.names n [] (.inl h);exact Mv.mp q
theorem Wk{CX:Sv}{P:bg}{w:cn}{K:au}{mg:Str->Option ax}{base:df}{N ps:List Str}{qual:Str}{scope:m_}{f:aj}{cd:ax}{A:Around}{outer:List Env}{s s1:aE}{H:Hp}{E:XK}{us:List ax}{vs:List V}(S:bS N ps scope)(hd:A.handled=ay)(e0:Tq P w K mg base A outer s H)(hl:vs.length=ps.length)(r:fj vs us)(x:InCallC s s.heap.objs.size (bindL (envOfC qual scope s.heap.objs.size f cd).kindOf (ps.zip us) λ_=>ay) (cellsFrom (s.heap.objs.size+1) scope.names []) (bindC (envOfC qual scope s.heap.objs.size f cd).kindOf (ps.zip us) λ_=>ay) s1):Inv (xo CX P w K mg base N qual scope f cd A outer s H E) [] (start N vs) H s1:=by
 have C5:ps.length<=N.length:=by have:=da gE S.pre;rw[d6] at this;omega
 obtain⟨h1,tk,rfl,hk⟩:=x.done;have noA:∀b:aj,b∉(xo CX P w K mg base N qual scope f cd A outer s H E).ex:=λb z=>absurd (show b∈([]:List aj) from z) (by simp);refine⟨⟨e0.mod,S.kind,rfl,rfl,aJ _,λy z c h1 h2=>?_,λy hy=>?_,λy c _ h=>?_,λ_=>hd,Around.frames_deeper e0.frames,.inr ⟨rfl,rfl⟩,λb z=>absurd z (noA b),e0.bs,e0.Yq,λb _ _=>noA b,λb z=>absurd z (noA b),e0.C3,e0.frf⟩,rfl,e0.bare,Un.kept hk,⟨_,x.toInCall.ns,λi y v h1 h2 h3=>?_⟩,λy c h=>⟨_,x.cell y c h⟩,e0.gB.fresh (aJ _),λy c h=>?_,λp hp=>absurd (show p∈([]:List (aj×Obj)) from hp) (by simp),e0.gB.kept hk,?_⟩;exact name_of_addr x.apart (dD h1) (dD h2)
 ·have hy:scope.names.lookup y=ae .cell\/scope.names.lookup y=ae .free:=hy;obtain hy|hy:=hy
  exact Qb hy;exact bM rfl (S.ady _ (dD hy))
 exact SW (x.above y c (dD h))
 ·have hi:i<vs.length:=by
   unfold start at h2;by_cases hi:i<vs.length;exact hi;rw[List.getElem?_append_right (by simpa using hi)] at h2;rw[List.getElem?_replicate] at h2;split at h2<;>cases h2
  have ha:vs[i]? =ae v:=by
   unfold start at h2;rw[List.getElem?_append_left (by simpa using hi),dh] at h2;cases e:vs[i]? with
   |none=>rw[e] at h2;cases h2
   |some a=>rw[e] at h2;cases h2;rfl
  obtain⟨u,hu,rv⟩:=r.get ha;have hp:ps[i]? =ae y:=by
   rw[<-S.pre,List.getElem?_take_of_lt (by omega)];exact h1
  have yE:ps.Nodup:=by rw[<-S.pre];exact S.nd.sublist (List.take_sublist _ _)
  refine⟨u,rv,?_⟩;obtain k|k:=S.par y (bW hp)
  exact .inl ⟨k,MJ yE hp hu k⟩;obtain⟨c,e⟩:=Qb (n:=s.heap.objs.size+1) k;refine .inr ⟨.inl k,c,e,?_⟩;have q:=x.cell y c e;rw[MK yE hp hu (by show scope.names.lookup y≠_;rw[k];decide)] at q;exact q
 exact e0.gB.fresh (SW (x.above y c (dD h)));unfold start;show _=N.length;rw[aK,ag,List.length_replicate];omega
theorem acD{CX:Sv}{P:bg}{w:cn}{K:au}{mg:Str->Option ax}{base:df}{k:Nat}{f:aj}{name qual:Str}{params:Arguments}{body:List dX}{scope:m_}{dV kV doc pm iq ct oc:ax}{an od:Option aj}{osl:Array (Option ax)}{N ps:List Str}{sp:Sp}(lk:K.lookup f=ae ⟨oc,od,.func (xj name qual params body scope dV kV doc pm an iq ct),osl⟩)(hcd:Iy K iq qual=true)(S:bS N ps scope)(len:∀vs H Q E,sp vs H Q E->vs.length=ps.length)(Qc:∀(A:Around) (outer:List Env) (s:aE) (H:Hp) (vs:List V) (Q:VK) (E:XK),pH k (A.deeper (envOfC qual scope s.heap.objs.size f iq))->sp vs H Q E->∃t,Sr (xo CX P w K mg base N qual scope f iq A outer s H E) body t/\t {nx:=λ_ H'=>Q .non H',rt:=Q} (start N vs) H):dU P w K mg base CX (k+1) f (xj name qual params body scope dV kV doc pm an iq ct) ps sp:=by
 refine⟨len,λA outer s H args us vs Q E hr e0 hb r Ya=>?_⟩;have hl:=len _ _ _ _ Ya;have KX:K.In s.heap:=e0.mod.kin.keeps λb o e=>(e0.bs b o e).1;have lim:s.heap.NoLimit:=e0.mod.nolimit.keeps λb o e=>(e0.bs b o e).1;have afs:∀y∈ps.zip us,scope.names.lookup y.1=ae .local\/(scope.names.lookup y.1=ae .cell/\((cellsFrom (s.heap.objs.size+1) scope.names []).lookup y.1).isSome=true):=λ⟨n,v⟩ hy=>by
  obtain q|q:=S.par n (K6 hy).1
  exact .inl q;exact .inr ⟨q,NB _ _ _ (.inl q)⟩
 refine codeAny_call_function hr.depth (KX _ _ lk) rfl S.co S.gen rfl (PySem.W.codeRec_of KX hcd) (hb _ _ _ _ ?_);refine wpAny_newFunctionEnv_cells S.kind afs λenv he s1 x=>?_;subst he;refine⟨lim.keeps x.toInCall.keep,codeAny_func ?_⟩;obtain⟨t,ht,hq⟩:=Qc A outer s H vs Q E (hr.deeper _) Ya;have I:Inv (xo CX P w K mg base N qual scope f iq A outer s H E) [] (start N vs) H s1:=Wk S hr.hd e0 hl r x;refine iG (ht [] s1 (start N vs) H _ I hq) (λfl s' hs=>?_) λe s' hs=>hs;have fin:∀{σ':St} {H':Hp} {v:V} {u:ax},Inv (xo CX P w K mg base N qual scope f iq A outer s H E) [] σ' H' s'->RelV v u->Q v H'->CE outer P w H s Q u s':=λ{σ' H' v u} J rv q=>⟨v,H',J.os,J.bare,J.base,J.gB,rv,q⟩;cases fl with
 |ret u=>
  obtain⟨v,σ',H',J,rv,q⟩:=hs;exact fin J rv q
 |next=>
  obtain⟨σ',H',J,q⟩:=hs;exact fin (v:=V.non) (u:=iL) J rfl q
 |brk=>
  obtain⟨_,_,_,q⟩:=hs;exact gk q
 |cont=>
  obtain⟨_,_,_,q⟩:=hs;exact gk q
end L2
namespace L2
open PySem PySem.Spec PyProof.Rows
section
variable{X:Cx}{x:Str}{p pos:Pos}{e:eJ}{es:List eJ}{t:TA}{id T:String}{r:List V->Hp->VK->Prop}
def tCB(r:List V->Hp->VK->Prop)(t:TA):TE:=λσ H Q=>t σ H λvs H1=>r vs H1 Q
theorem cM(hc:Bm X (.builtin id) r)(hg:Gl X x)(hm:X.mg x=ay)(hv:bootBuiltins x=ae (.builtin id))(ha:PA X (e::es) t)(hn:x≠"__name__":=by decide)(Ts:(x==("__debug__":Str))=false:=by decide)(he:starEach (e::es) X.env=(false,eval e X.env)::starEach es X.env:=by rfl)(C5:(backTo pos (starEach es X.env)).any (·.1)=false:=by rfl):PE X (.Call (.Name x p) (e::es) [] pos) (tCB r t):=by
 intro pins s σ H Q I h;refine jH (EG I hg hm hv ?_ hn Ts);exact PyProof.Rows.callWith_builtin1 (iU (ha pos pins s σ H _ I h) λus s1 ⟨vs,H1,I1,r1,q1⟩=>hc pins s1 σ H1 vs us Q I1 r1 q1) he C5
theorem ER(hc:Bm X (.type T) r)(hg:Gl X x)(hm:X.mg x=ay)(hv:bootBuiltins x=ae (.type T))(ha:PA X (e::es) t)(hn:x≠"__name__":=by decide)(Ts:(x==("__debug__":Str))=false:=by decide)(he:starEach (e::es) X.env=(false,eval e X.env)::starEach es X.env:=by rfl)(C5:(backTo pos (starEach es X.env)).any (·.1)=false:=by rfl):PE X (.Call (.Name x p) (e::es) [] pos) (tCB r t):=by
 intro pins s σ H Q I h;refine jH (EG I hg hm hv ?_ hn Ts);exact rM (iU (ha pos pins s σ H _ I h) λus s1 ⟨vs,H1,I1,r1,q1⟩=>hc pins s1 σ H1 vs us Q I1 r1 q1) he C5
end
end L2
namespace HT
open PySem PyProof.Rows
section
open PySem.SeqAt
open PySem.AutoSeq1 (wpAny_loadPart')
open PySem.MeetsSeq PySem.MeetsSeq2 PySem.MeetsSeq3
end
section
variable{prog:bg}{w:cn}{A:Around}{E:ax->aE->Prop}{s:aE}
def Sw(n d:Nat):Option Int->Nat
 |none=>d
 |some v=>if v<0 then(v+(n:Int)).toNat else min v.toNat n
theorem UY(n d k:Nat):Sw n d (ae (k:Int))=min k n:=by
 show(if(k:Int)<0 then((k:Int)+(n:Int)).toNat else min (k:Int).toNat n)=min k n;rw[aX (by omega),rm]
end
end HT
namespace L2
open PySem PySem.Spec PyProof.Rows
abbrev TO:=St->Hp->(Option Int->Hp->Prop)->Prop
def PO(X:Cx)(e:Option eJ)(t:TO):Prop:=∀(pins:List (aj×Obj)) (s:aE) (σ:St) (H:Hp) (Q:Option Int->Hp->Prop),Inv X pins σ H s->t σ H Q->bR (cG X.prog X.w) X.A (evalPart e X.env) (λu s'=>∃o H',Inv X pins σ H' s'/\IsPart u o/\Q o H') X.xe s
def aft(t:TE):TO:=λσ H Q=>t σ H λx H1=>∃i,x= .int i/\Q (ae i) H1
theorem intsAre_of{ns:List Int}:∀{us:List ax},fj (ns.map V.int) us->B_ us ns:=by
 induction ns with
 |nil=>intro us r;rw[FL] at r;cases r;exact .nil
 |cons n ns ih=>
  intro us r;rw[aU] at r;cases r with
  |cons r1 r2=>
   obtain⟨t,e⟩:=r1;subst e;exact .cons n t (ih r2)
section
variable{X:Cx}{e:eJ}{te:TE}{lo hi:Option eJ}{tl th:TO}{pos p2:Pos}
theorem HZ(h:PE X e te):PO X (ae e) (aft te):=by
 intro pins s σ H Q I hw;rw[evalPart_some];refine iU (h pins s σ H _ I hw) λu s1 ⟨x,H1,I1,r1,q1⟩=>?_;obtain⟨i,rfl,q⟩:=q1;obtain⟨t,rfl⟩:=r1;exact⟨ae i,H1,I1,.int i t,q⟩
def SlR(X:Cx)(r:V->Option Int->Option Int->Hp->VK->Prop):Prop:=∀(pins:List (aj×Obj)) (s:aE) (σ:St) (H:Hp) (x:V) (v vl vu:ax) (lo hi:Option Int) (sl:aj) (Q:VK),Inv X pins σ H s->RelV x v->s.heap.IsSliceOf sl vl vu .none->IsPart vl lo->IsPart vu hi->r x lo hi H Q->∃T id,typeLookup (.type T) "__getitem__"=pure (ae (.builtin id))/\s.TypeIs v T/\bR (cG X.prog X.w) X.A (getItem v (.ref sl)) (EP X pins σ Q) X.xe s
def tSl(r:V->Option Int->Option Int->Hp->VK->Prop)(te:TE)(tl th:TO):TE:=λσ H Q=>te σ H λx H1=>tl σ H1 λl H2=>th σ H2 λu H3=>r x l u H3 Q
theorem Qe{r:V->Option Int->Option Int->Hp->VK->Prop}(hr:SlR X r)(he:PE X e te)(hl:PO X lo tl)(hu:PO X hi th):PE X (.Subscript e (.Slice lo hi ay p2) pos) (tSl r te tl th):=by
 intro pins s σ H Q I h;refine SX (iU (he pins s σ H _ I h) λv s1 ⟨x,H1,I1,r1,q1⟩=>?_);refine wpAny_Slice (iU (hl pins s1 σ H1 _ I1 q1) λvl s2 ⟨l,H2,I2,pl,q2⟩=>iU (hu pins s2 σ H2 _ I2 q2) λvu s3 ⟨u,H3,I3,pu,q3⟩=>?_);rw[evalPart_none];refine aS ?_;have I4:Inv X pins σ H3 {s3 with heap:=s3.heap.push {cls:= .type "slice",data:= .fields #[vl,vu,.none]}}:=I3.kept (t':=s3.toks) λb ob q=>aG _ q;obtain⟨T,id,hT,ht,hg⟩:=hr pins {s3 with heap:=s3.heap.push {cls:= .type "slice",data:= .fields #[vl,vu,.none]}} σ H3 x v vl vu l u s3.heap.objs.size Q I4 r1 (K7 ..) pl pu q3;show bR (cG X.prog X.w) X.A (subscriptTail e (.Slice lo hi ay p2) v (.ref s3.heap.objs.size)) (EP X pins σ Q) X.xe {s3 with heap:=s3.heap.push {cls:= .type "slice",data:= .fields #[vl,vu,.none]}};exact tail_any (ops:=[.ref s3.heap.objs.size,v]) ht hT hg (by with_unfolding_all rfl)
def Wl(xs:List V)(lo hi:Option Int):List V:=(xs.drop (HT.Sw xs.length 0 lo)).take (HT.Sw xs.length xs.length hi -HT.Sw xs.length 0 lo)
theorem Qg(xs:List V)(lo hi:Option Int):(Wl xs lo hi).length<=xs.length:=by
 unfold Wl;rw[d6,ik];omega
end
end L2
namespace L2
open PySem PySem.Spec PyProof.Rows
def ixN(n:Nat)(i:Int):Option Nat:=if 0<=i then(if i<n then ae i.toNat else ay) else if -(n:Int)<=i then ae (i+n).toNat else ay
def Tt{α:Type}(xs:List α)(i:Int):Option α:=(ixN xs.length i).bind λj=>xs[j]?
theorem abi{n:Nat}{i:Int}{j:Nat}(h:ixN n i=ae j):seqIndex? i n=ae j/\j<n/\ -(n:Int)<=i/\i<n:=by
 unfold ixN at h;by_cases h0:0<=i
 ·rw[bw h0] at h;by_cases h1:i<n;rw[bw h1] at h;have e:i.toNat=j:=bF h;exact⟨by rw[seqIndex_of h0 h1,e],by omega,by omega,h1⟩;rw[aX h1] at h;cases h
 ·rw[aX h0] at h;by_cases h1: -(n:Int)<=i;rw[bw h1] at h;have e:(i+n).toNat=j:=bF h;exact⟨by rw[seqIndex_neg (by omega) h1,e],by omega,h1,by omega⟩;rw[aX h1] at h;cases h
theorem UZ{α:Type}{xs:List α}{i:Int}{v:α}(h:Tt xs i=ae v):∃j,seqIndex? i xs.length=ae j/\xs[j]? =ae v/\j<xs.length/\ -(xs.length:Int)<=i/\i<xs.length:=by
 unfold Tt at h;cases e:ixN xs.length i with
 |none=>rw[e] at h;cases h
 |some j=>
  rw[e] at h;obtain⟨h1,h2,h3,h4⟩:=abi e;exact⟨j,h1,h,h2,h3,h4⟩
theorem cQ{α:Type}{xs:List α}{j:Nat}{v:α}(h:xs[j]? =ae v):Tt xs (j:Int)=ae v:=by
 have hj:j<xs.length:=(dj.mp h).1;have e:ixN xs.length (j:Int)=ae j:=by
  unfold ixN;rw[if_pos (by omega),if_pos (by omega)];simp
 unfold Tt;rw[e];exact h
theorem Qh{α:Type}(xs:List α)(v:α):Tt (xs++[v]) (-1)=ae v:=by
 have hl:(xs++[v]).length=xs.length+1:=by simp
 have e:ixN (xs++[v]).length (-1)=ae xs.length:=by
  unfold ixN;rw[hl,if_neg (by decide),if_pos (by omega)];congr 1;omega
 unfold Tt;rw[e];show(xs++[v])[xs.length]? =ae v;simp
def abj(b:eJ):Prop:=∀o i,subscripted b false o i=operate [o,i] (getItem o i)
def IxR(X:Cx)(r:R2):Prop:=∀(value slice:eJ) (pins:List (aj×Obj)) (s:aE) (σ:St) (H:Hp) (x y:V) (v u:ax) (Q:VK),Inv X pins σ H s->RelV x v->RelV y u->r x y H Q->subscripted slice false v u=operate [v,u] (getItem v u)->bR (cG X.prog X.w) X.A (subscriptTail value slice v u) (EP X pins σ Q) X.xe s
def MtR(X:Cx)(id:String)(r:V->List V->Hp->VK->Prop):Prop:=∀(pins:List (aj×Obj)) (s:aE) (σ:St) (H:Hp) (x:V) (xs:List V) (v:ax) (us:List ax) (Q:VK),Inv X pins σ H s->RelV x v->fj xs us->r x xs H Q->bR (cG X.prog X.w) X.A (call (.builtin id) (v::us)) (EP X pins σ Q) X.xe s
section
variable{X:Cx}{a b:eJ}{ta tb:TE}{pos:Pos}
theorem eX{r:R2}(hr:IxR X r)(ha:PE X a ta)(hb:PE X b tb)(hs:abj b):PE X (.Subscript a b pos) (tOp r ta tb):=by
 intro pins s σ H Q I h;exact SX (adw ha hb I h λv u s2 x y H2 I2 rx ry q=>hr a b pins s2 σ H2 x y v u Q I2 rx ry q (hs _ _))
def aiu(K:au):R2:=λx y H Q=>∃p xs i v,x= .ref p/\y= .int i/\dS K H p xs/\Tt xs i=ae v/\Q v H
def afu(K:au):R2:=λx y H Q=>∃p xs i v,x= .ref p/\y= .int i/\n9 K H p xs/\Tt xs i=ae v/\Q v H
theorem dH:IxR X (aiu X.K):=by
 intro value slice pins s σ H x y v u Q I rx ry h hs;obtain⟨p,xs,i,z,rfl,rfl,hq,he,q⟩:=h;cases rx;obtain⟨t,rfl⟩:=ry;obtain⟨its,r,pl,hz⟩:=I.list hq;obtain⟨j,h1,h2,h3,h4,h5⟩:=UZ he;obtain⟨w,ew,Tv⟩:=r.get h2;have hl:=r.length;have hn:=Tf;have fin:EP X pins σ Q w s:=⟨z,H,I,Tv,q⟩;by_cases h0:0<=i
 ·have hj:i.toNat=j:=by
   rw[seqIndex_of h0 h5] at h1;exact bF h1
  exact item_listR pl.isList h0 (by omega) (by rw[hj];simpa using ew) fin hs
 ·have hj:(i+(its.toArray.size:Int)).toNat=j:=by
   rw[seqIndex_neg (by omega) h4] at h1;rw[cg,<-hl];exact bF h1
  exact Yh (x:=w) pl.isList.typeIs Li.lookup (wpAny_getItem_list_neg (Q:=λr s'=>r=w/\EP X pins σ Q r s') pl.isList (by omega) (by rw[cg]<;>omega) (by omega) (by rw[hj];simpa using ew) ⟨rfl,fin⟩) hs
theorem vQ:IxR X (afu X.K):=by
 intro value slice pins s σ H x y v u Q I rx ry h hs;obtain⟨p,xs,i,z,rfl,rfl,hq,he,q⟩:=h;cases rx;obtain⟨t,rfl⟩:=ry;obtain⟨its,r,pl,hz⟩:=I.tuple hq;obtain⟨j,h1,h2,h3,h4,h5⟩:=UZ he;obtain⟨w,ew,Tv⟩:=r.get h2;have hl:=r.length;have hn:=Tf;have fin:EP X pins σ Q w s:=⟨z,H,I,Tv,q⟩;exact Yh (x:=w) pl.typeIs slot_tuple_getitem.lookup (getItem_tuple (j:=j) (Q:=λr s'=>r=w/\EP X pins σ Q r s') pl (by omega) (by omega) (by rw[cg,<-hl];exact h1) (by simpa using ew) ⟨rfl,fin⟩) hs
theorem NZ(lo hi:Option Int)(n:Nat):(sliceBounds lo hi ay n).1=((HT.Sw n 0 lo:Nat):Int)/\(sliceBounds lo hi ay n).2.1=((HT.Sw n n hi:Nat):Int)/\(sliceBounds lo hi ay n).2.2=1:=by
 refine⟨?_,?_,rfl⟩
 ·cases lo with
  |none=>simp[sliceBounds,HT.Sw]
  |some i=>
   simp only[sliceBounds,HT.Sw,X7,show(1:Int)>0 by decide,if_true];by_cases h:i<0;simp only[h,if_true]<;>omega;simp only[h,if_false]<;>omega
 ·cases hi with
  |none=>simp[sliceBounds,HT.Sw]
  |some i=>
   simp only[sliceBounds,HT.Sw,X7,show(1:Int)>0 by decide,if_true];by_cases h:i<0;simp only[h,if_true]<;>omega;simp only[h,if_false]<;>omega
theorem Ls(its:List ax)(lo hi:Option Int):slicePick its.toArray lo hi ay=((its.drop (HT.Sw its.length 0 lo)).take (HT.Sw its.length its.length hi -HT.Sw its.length 0 lo)).toArray:=by
 obtain⟨h1,h2,h3⟩:=NZ lo hi its.toArray.size;unfold slicePick;rw[h1,h2,h3];simp only[sliceRange_one,pick_run,cg]<;>rfl
def aiv(K:au):V->Option Int->Option Int->Hp->VK->Prop:=λx lo hi H Q=>∃a xs,x= .ref a/\dS K H a xs/\∀p,H p=ay->Q (.ref p) (upd H p (.lst (Wl xs lo hi)))
theorem U0:SlR X (aiv X.K):=by
 intro pins s σ H x v vl vu lo hi sl Q I rx hs pl pu h;obtain⟨a,xs,rfl,hx,q⟩:=h;cases rx;obtain⟨its,r,ht,hz⟩:=I.list hx;have hlen:=r.length;refine⟨"list",_,Li.lookup,ht.isList.typeIs,?_⟩;refine V5 ht.isList hs pl pu .none (by simp) ?_ (by rw[cg]<;>omega);rw[Ls,<-hlen];refine⟨.ref s.heap.objs.size,_,I.laid (t':=s.toks) (o:= .lst (Wl xs lo hi)) (λb ob q=>aG _ q) (aJ _) ?_,rfl,q _ (I.gB.fresh (aJ _))⟩;exact⟨bX (Qg xs lo hi) hz,_,0,(r.drop (HT.Sw xs.length 0 lo)).take (HT.Sw xs.length xs.length hi -HT.Sw xs.length 0 lo),bA _ rfl⟩
def C6:V->Bool
 | .non=>true
 | .bl _=>true
 | .int _=>true
 | .str _=>true
 |_=>false
def eqV:V->V->Bool
 | .non,.non=>true
 | .bl a,.bl b=>a==b
 | .bl a,.int b=>(if a then 1 else 0)==b
 | .int a,.bl b=>a==(if b then 1 else 0)
 | .int a,.int b=>a==b
 | .str a,.str b=>a==b
 |_,_=>false
theorem adz{A:Around}{s:aE}{y x:V}{u v:ax}(ry:RelV y u)(rx:RelV x v)(fy:C6 y=true)(fx:C6 x=true):SeqAt.EqAt A s u v (eqV y x):=by
 cases y with
 |non=>
  cases ry;cases x with
  |non=>cases rx;exact SeqAt.EqAt.same _
  |bl b=>cases rx;exact SeqAt.EqAt.none_bool b
  |int b=>obtain⟨t,rfl⟩:=rx;exact SeqAt.EqAt.none_int b t
  |str b=>obtain⟨t,rfl⟩:=rx;exact SeqAt.EqAt.none_str b t
  |_=>exact bM (show false=true from fx) bK
 |bl a=>
  cases ry;cases x with
  |non=>cases rx;exact SeqAt.EqAt.bool_none a
  |bl b=>cases rx;exact SeqAt.EqAt.bool_bool a b
  |int b=>obtain⟨t,rfl⟩:=rx;exact SeqAt.EqAt.bool_int a b t
  |str b=>obtain⟨t,rfl⟩:=rx;exact SeqAt.EqAt.bool_str a b t
  |_=>exact bM (show false=true from fx) bK
 |int a=>
  obtain⟨t',rfl⟩:=ry;cases x with
  |non=>cases rx;exact SeqAt.EqAt.int_none a t'
  |bl b=>cases rx;exact SeqAt.EqAt.int_bool a t' b
  |int b=>obtain⟨t,rfl⟩:=rx;exact SeqAt.EqAt.int_int a t' b t
  |str b=>obtain⟨t,rfl⟩:=rx;exact Pt a t' b t
  |_=>exact bM (show false=true from fx) bK
 |str a=>
  obtain⟨t',rfl⟩:=ry;cases x with
  |non=>cases rx;exact SeqAt.EqAt.str_none a t'
  |bl b=>cases rx;exact SeqAt.EqAt.str_bool a t' b
  |int b=>obtain⟨t,rfl⟩:=rx;exact Pu a t' b t
  |str b=>obtain⟨t,rfl⟩:=rx;exact SeqAt.EqAt.str_str a t' b t
  |_=>exact bM (show false=true from fx) bK
 |_=>exact bM (show false=true from fy) bK
def eqU(x:V)(u:ax):Bool:=match u with
 | .none=>eqV .non x
 | .bool b=>eqV (.bl b) x
 | .int i _=>eqV (.int i) x
 | .str z _=>eqV (.str z) x
 |_=>false
theorem YH{x y:V}{u:ax}(r:RelV y u)(f:C6 y=true):eqU x u=eqV y x:=by
 cases y with
 |non=>cases r;rfl
 |bl b=>cases r;rfl
 |int i=>obtain⟨t,rfl⟩:=r;rfl
 |str z=>obtain⟨t,rfl⟩:=r;rfl
 |_=>exact bM (show false=true from f) bK
theorem N0{x:V}:∀{xs:List V} {us:List ax},fj xs us->xs.all C6=true->us.any (eqU x)=xs.any λy=>eqV y x
 |_,_,.nil,_=>rfl
 |y::xs,u::us,.cons r t,f=>by
  rw[List.all_cons,aH] at f;rw[sX,sX,YH r f.1,N0 t f.2]
theorem IV{A:Around}{s:aE}{x:V}{v:ax}(rx:RelV x v)(fx:C6 x=true):∀{xs:List V} {us:List ax},fj xs us->xs.all C6=true->∀u∈us,SeqAt.EqAt A s u v (eqU x u)
 |_,_,.nil,_=>λu hu=>by cases hu
 |y::xs,u::us,.cons r t,f=>λu' hu=>by
  rw[List.all_cons,aH] at f;obtain rfl|hu:=aF.mp hu
  rw[YH r f.1];exact adz r rx f.1 fx;exact IV rx fx t f.2 u' hu
def inV(x:V)(xs:List V):Bool:=xs.any λy=>eqV y x
def rIn(K:au)(neg:Bool):R2:=λx y H Q=>∃p xs,y= .ref p/\(dS K H p xs\/n9 K H p xs)/\C6 x=true/\xs.all C6=true/\Q (.bl (if neg then !inV x xs else inV x xs)) H
theorem Wm:NV X (compareOp .In) (rIn X.K false):=by
 intro pins s σ H x y v u Q I rx ry h;obtain⟨p,xs,rfl,hq,fx,fs,q⟩:=h;cases ry;obtain hq|hq:=hq
 obtain⟨its,r,pl,hz⟩:=I.list hq;refine SeqAt.in_listAt (eqU x) pl.isList (λw hw=>IV rx fx r fs w (by simpa using hw)) ⟨.bl _,H,I,rfl,?_⟩;rw[show its.toArray.any (eqU x)=its.any (eqU x) by simp,N0 r fs];exact q;obtain⟨its,r,pl,hz⟩:=I.tuple hq;refine SeqAt.in_tupleAt (eqU x) pl (λw hw=>IV rx fx r fs w (by simpa using hw)) ⟨.bl _,H,I,rfl,?_⟩;rw[show its.toArray.any (eqU x)=its.any (eqU x) by simp,N0 r fs];exact q
theorem cq:Bm X (.builtin "len") (λxs H Q=>∃p ys,xs=[.ref p]/\(dS X.K H p ys\/n9 X.K H p ys)/\Q (.int ys.length) H):=by
 intro pins s σ H xs us Q I r h;obtain⟨p,ys,rfl,hq,q⟩:=h;obtain⟨u,rfl,rx⟩:=vals1 r;cases rx;have hn:=Tf;obtain hq|hq:=hq
 obtain⟨its,r',pl,hz⟩:=I.list hq;have hlen:=r'.length;exact Calls.call_len_list pl.isList (by simp only[cg]<;>omega) ⟨.int ys.length,H,I.tok _,⟨s.toks+1,by rw[cg,hlen]⟩,q⟩;obtain⟨its,r',pl,hz⟩:=I.tuple hq;have hlen:=r'.length;exact len_tuple pl (by simp only[cg]<;>omega) ⟨.int ys.length,H,I.tok _,⟨s.toks+1,by rw[cg,hlen]⟩,q⟩
theorem Lv:Bm X (.type "tuple") (λxs H Q=>∃p ys,xs=[.ref p]/\((dS X.K H p ys/\∀l,H l=ay->Q (.ref l) (upd H l (.tup ys)))\/(n9 X.K H p ys/\Q (.ref p) H))):=by
 intro pins s σ H xs us Q I r h;obtain⟨p,ys,rfl,h⟩:=h;obtain⟨u,rfl,rx⟩:=vals1 r;cases rx;obtain⟨hq,q⟩|⟨hq,q⟩:=h
 obtain⟨its,r',pl,hz⟩:=I.list hq;have hlen:=r'.length;refine call_tuple_list pl.isList (λh' kp=>?_) (by simp only[cg]<;>omega);have I1:Inv X pins σ H {s with heap:=h'}:=I.kept (t':=s.toks) kp;have I2:Inv X pins σ (upd H h'.objs.size (.tup ys)) {s with heap:=h'.push {cls:= .type "tuple",data:= .seq its.toArray}}:=I1.laid (t':=s.toks) (λb o e=>aG _ e) (aJ _) (show jv X.prog X.w _ _ _ (.tup ys) from⟨hz,its,r',IsTup.new _ _⟩);exact⟨.ref h'.objs.size,_,I2,rfl,q _ (I1.gB.fresh (aJ _))⟩;obtain⟨its,r',pl,hz⟩:=I.tuple hq;exact call_tuple_same pl ⟨.ref p,H,I,rfl,q⟩
def tyV(K:au)(T:String)(x:V)(H:Hp):Prop:=match x with
 | .str _=>T="str"
 | .int _=>T="int"
 | .ref p=>(T="list"/\∃xs,dS K H p xs)\/(T="tuple"/\∃o,K.lookup p=ae o/\o.cls= .type "tuple"/\o.dict=ay)\/(T="dict"/\((∃kvs,H p=ae (.dK kvs))\/∃kvs,H p=ae (.dT kvs)))\/(T="set"/\∃S n,H p=ae (.set S n))
 |_=>False
theorem YJ{pins:List (aj×Obj)}{σ:St}{H:Hp}{s:aE}{T:String}{x:V}{v:ax}(I:Inv X pins σ H s)(r:RelV x v)(ty:tyV X.K T x H):s.TypeIs v T/\∀a,v= .ref a->∃ob,s.heap.get? a=ae ob/\ob.dict=ay:=by
 cases x with
 |str z=>
  obtain⟨t,rfl⟩:=r;cases (show T="str" from ty);exact⟨typeIs_str s z t,λ_ e=>nomatch e⟩
 |int i=>
  obtain⟨t,rfl⟩:=r;cases (show T="int" from ty);exact⟨typeIs_int s i t,λ_ e=>nomatch e⟩
 |ref p=>
  cases r;obtain⟨rfl,xs,hq⟩|⟨rfl,o,hk,hc,hd⟩|⟨rfl,hk⟩|⟨rfl,S,n,hk⟩:=ty
  obtain⟨its,_,pl,_⟩:=I.list hq;refine⟨pl.isList.typeIs,λa e=>?_⟩;cases e;obtain⟨o,n,e,c,hd,_⟩:=pl;exact⟨o,e,hd⟩;refine⟨⟨o,I.P2 p o hk,hc⟩,λa e=>?_⟩;cases e;exact⟨o,I.P2 _ o hk,hd⟩
  ·have z:∃o,s.heap.get? p=ae o/\o.ExactDict:=by
    obtain⟨kvs,hk⟩|⟨kvs,hk⟩:=hk
    obtain⟨_,_,_,_,o,_,_,e,ex,_⟩:=I.gB p _ hk;exact⟨o,e,ex⟩;obtain⟨_,_,_,_,o,_,_,e,ex,_⟩:=I.gB p _ hk;exact⟨o,e,ex⟩
   obtain⟨o,e,ex⟩:=z;refine⟨⟨o,e,ex.1⟩,λa e2=>?_⟩;cases e2;exact⟨o,e,ex.2.1⟩
  obtain⟨o,_,_,_,e,ex,_⟩:=I.gB p _ hk;refine⟨⟨o,e,ex.1⟩,λa e2=>?_⟩;cases e2;exact⟨o,e,ex.2.1⟩
 |_=>exact gk ty
def aix(K:au)(T:String)(r:V->List V->Hp->VK->Prop)(to:TE):TE:=λσ H Q=>to σ H λx H1=>tyV K T x H1/\r x [] H1 Q
def tBM(K:au)(T:String)(r:V->List V->Hp->VK->Prop)(to:TE)(t:TA):TE:=λσ H Q=>to σ H λx H1=>tyV K T x H1/\t σ H1 λxs H2=>r x xs H2 Q
variable{o e:eJ}{es:List eJ}{to:TE}{t:TA}{name:Str}{apos kD:Pos}{T id:String}{r:V->List V->Hp->VK->Prop}
theorem Tw(pa:PlainAttrs T)(slot:Slot T name id)(hty:typeOf (.builtin id)=pure (.type "method_descriptor"))(hm:MtR X id r)(ho:PE X o to)(yF:attributeBase o name X.env (eval o X.env)=eval o X.env:=by rfl)(hline:(apos.endLine==kD.line)=true:=by rfl):PE X (.Call (.Attribute o name apos) [] [] kD) (aix X.K T r to):=by
 intro pins s σ H Q I h;refine wpAny_Call_method0_late yF hline (iU (ho pins s σ H _ I h) λv s1 ⟨x,H1,I1,r1,ty,q1⟩=>?_);obtain⟨h1,h2⟩:=YJ I1 r1 ty;exact⟨T,id,pa,slot,hty,h1,h2,kU rfl (tV (hm pins s1 σ H1 x [] v [] Q I1 r1 .nil q1))⟩
theorem tH(pa:PlainAttrs T)(slot:Slot T name id)(hty:typeOf (.builtin id)=pure (.type "method_descriptor"))(hm:MtR X id r)(ho:PE X o to)(ha:PA X (e::es) t)(yF:attributeBase o name X.env (eval o X.env)=eval o X.env:=by rfl)(aiz:((backTo kD (starEach (e::es) X.env)).all (λx=> !x.1)&&(backToKw kD (keywordEach [] X.env)).all (λx=>x.1.isSome)&&decide ((e::es).length+([]:List B9).length+(if([]:List B9).isEmpty then 0 else 1)<30))=true:=by rfl)(hline:(apos.endLine==kD.line)=true:=by rfl)(hs:starEach (e::es) X.env=(false,eval e X.env)::starEach es X.env:=by rfl)(adA:(backTo kD (starEach es X.env)).any (·.1)=false:=by rfl):PE X (.Call (.Attribute o name apos) (e::es) [] kD) (tBM X.K T r to t):=by
 intro pins s σ H Q I h;refine wpAny_Call_method_late yF aiz hline rfl (iU (ho pins s σ H _ I h) λv s1 ⟨x,H1,I1,r1,ty,q1⟩=>?_);obtain⟨h1,h2⟩:=YJ I1 r1 ty;refine⟨T,id,pa,slot,hty,h1,h2,?_⟩;have hA:=ha kD pins s1 σ H1 _ I1 q1;rw[hs] at hA⊢;refine kU (by show(false||(backTo kD (starEach es X.env)).any (·.1))=false;rw[adA]<;>rfl) (nj ?_);exact iU hA λus s2 ⟨vs,H2,I2,r2,q2⟩=>hm pins s2 σ H2 x vs v us Q I2 r1 r2 q2
end
end L2
namespace L2
open PySem PySem.Spec PyProof.Rows
def MtM(X:Cx)(id:String)(r:V->List V->Hp->VK->Prop):Prop:=∀(pins:List (aj×Obj)) (s:aE) (σ:St) (H:Hp) (x:V) (xs:List V) (v:ax) (us:List ax) (Q:VK),Inv X pins σ H s->RelV x v->fj xs us->r x xs H Q->bR (cG X.prog X.w) X.A (call (.builtin id) (v::us)) (EP X pins σ Q) X.xe s
theorem fj.one:∀{x:V} {us:List ax},fj [x] us->∃u,us=[u]/\RelV x u
 |_,_,.cons r .nil=>⟨_,rfl,r⟩
theorem fj.zero:∀{us:List ax},fj [] us->us=[]
 |_,.nil=>rfl
theorem fj.dropLast{xs:List V}{us:List ax}(h:fj xs us):fj xs.dropLast us.dropLast:=by
 induction h with
 |nil=>exact .nil
 |cons r t ih=>
  cases t with
  |nil=>exact .nil
  |cons q t'=>exact .cons r ih
theorem fj.reverse{xs:List V}{us:List ax}(h:fj xs us):fj xs.reverse us.reverse:=by
 induction h with
 |nil=>exact .nil
 |cons r t ih=>rw[iM,iM];exact fj.append ih (.cons r .nil)
theorem Tx{α:Type}(l:List α):l.eraseIdx (l.length -1)=l.dropLast:=by
 induction l with
 |nil=>rfl
 |cons a r ih=>
  cases r with
  |nil=>rfl
  |cons b r=>
   have e:(a::b::r).length -1=((b::r).length -1)+1:=by
    have h1:(a::b::r).length=r.length+2:=rfl;have h2:(b::r).length=r.length+1:=rfl;omega
   rw[e,List.eraseIdx_cons_succ,ih];all_goals rfl
section
variable{X:Cx}{pins:List (aj×Obj)}{σ:St}{H:Hp}{s:aE}{l b:aj}{xs ys zs:List V}
theorem Inv.abl{its its':List ax}{n:Nat}{f:Array ax->Array ax}{t':Nat}(I:Inv X pins σ H s)(hH:H l=ae (.lst xs))(e:s.heap.get? l=ae {cls:= .type "list",data:= .seq its.toArray n})(hf:f its.toArray=its'.toArray)(hv:fj ys its')(hz:ys.length<=aM):Inv X pins σ (upd H l (.lst ys)) {s with heap:=s.heap.update l (NC f),toks:=t'}:=by
 have q:=PySem.IsL.update e f;rw[hf] at q;refine I.write (x:=l) (e:=l) (by rw[hH];exact trivial) (.inl rfl) (λb' u hb hu=>(lI s.heap (NC f) (gA hb)).trans hu) ⟨_,q⟩ ?_;exact⟨hz,its',_,hv,q⟩
theorem Inv.aiA{its:List ax}{t':Nat}(I:Inv X pins σ H s)(hv:fj ys its)(hz:ys.length<=aM):Inv X pins σ (upd H s.heap.objs.size (.lst ys)) {s with heap:=s.heap.push {cls:= .type "list",data:= .seq its.toArray},toks:=t'}:=I.laid (λ_ _ q=>aG _ q) (aJ _) ⟨hz,its,0,hv,bA _ rfl⟩
theorem Inv.fresh(I:Inv X pins σ H s):H s.heap.objs.size=ay:=I.gB.fresh (aJ _)
theorem Inv.Tz(I:Inv X pins σ H s)(hH:H l=ae (.lst xs)):xs.length<=aM/\∃(its:List ax) (n:Nat),fj xs its/\xs.length=its.length/\s.heap.get? l=ae {cls:= .type "list",data:= .seq its.toArray n}:=by
 obtain⟨z,its,n,r,e⟩:=I.gB l _ hH;exact⟨z,its,n,r,r.length,e⟩
theorem Qi{n:Nat}(h:n<=aM):jk n=false:=by
 unfold jk;exact decide_eq_false (by omega)
end
section
variable{X:Cx}
def abm:V->List V->Hp->VK->Prop:=λx vs H Q=>∃l xs y,x= .ref l/\vs=[y]/\H l=ae (.lst xs)/\xs.length<aM/\Q .non (upd H l (.lst (xs++[y])))
theorem rA:MtM X "list.append" abm:=by
 intro pins s σ H x vs v us Q I rx rv h;obtain⟨l,xs,y,rfl,rfl,hH,hz,q⟩:=h;cases rx;obtain⟨u,rfl,ru⟩:=rv.one;obtain⟨z,its,n,r,hl,e⟩:=I.Tz hH;refine SY gb ⟨_,e,rfl⟩ F.entry_list_append (F.args_list_append_2 _ _) (PySem.list_append l its.toArray n u (by rw[cg];omega)) ⟨e,?_⟩;refine⟨.non,_,I.abl (its':=its++[u]) hH e (by simp) (r.append (.cons ru .nil)) ?_,rfl,q⟩;rw[aK,Ag];omega
def abn:V->List V->Hp->VK->Prop:=λx vs H Q=>∃l b xs zs,x= .ref l/\vs=[.ref b]/\H l=ae (.lst xs)/\H b=ae (.lst zs)/\xs.length+zs.length<=aM/\Q .non (upd H l (.lst (xs++zs)))
theorem rC:MtM X "list.extend" abn:=by
 intro pins s σ H x vs v us Q I rx rv h;obtain⟨l,b,xs,zs,rfl,rfl,hH,hB,hz,q⟩:=h;cases rx;obtain⟨u,rfl,ru⟩:=rv.one;cases ru;obtain⟨z,its,n,r,hl,e⟩:=I.Tz hH;obtain⟨z2,AU,n2,r2,qZ,e2⟩:=I.Tz hB;have hsz:its.toArray.size+AU.toArray.size<=aM:=by rw[cg,cg];omega
 have YK:¬(!its.toArray.isEmpty&&jk (its.toArray.size+AU.toArray.size))=true:=by
  rw[Qi hsz,jl];exact bK
 refine SY dQ ⟨_,e,rfl⟩ aaF (Yi _ _) (AutoSeq1.list_extend_list_list_0 l its.toArray n b AU.toArray n2 YK (by rw[cg];omega) (by omega)) ⟨e,e2,?_⟩;refine⟨.non,_,I.abl (its':=its++AU) hH e (by simp) (r.append r2) ?_,rfl,q⟩;rw[aK];omega
def aiB:V->List V->Hp->VK->Prop:=λx vs H Q=>∃l xs y,x= .ref l/\vs=[]/\H l=ae (.lst xs)/\xs[xs.length -1]? =ae y/\Q y (upd H l (.lst xs.dropLast))
theorem TB:MtM X "list.pop" aiB:=by
 intro pins s σ H x vs v us Q I rx rv h;obtain⟨l,xs,y,rfl,rfl,hH,hy,q⟩:=h;cases rx;have hus:=rv.zero;subst hus;obtain⟨z,its,n,r,hl,e⟩:=I.Tz hH;obtain⟨u,hu,ru⟩:=r.get hy;have hy':its.toArray[its.toArray.size -1]? =ae u:=by
  show its.toArray[its.length -1]? =ae u;rw[<-rN,<-hl];exact hu
 refine SY tD ⟨_,e,rfl⟩ F.entry_list_pop (F.args_list_pop_1 _) (MeetsSeq.list_pop_last l its.toArray n u hy' (by rw[cg];omega)) ⟨e,?_⟩;refine⟨y,_,I.abl (its':=its.dropLast) hH e ?_ r.dropLast ?_,ru,q⟩;show its.toArray.eraseIdxIfInBounds (its.toArray.size -1)=its.dropLast.toArray;rw[cg,List.eraseIdxIfInBounds_toArray,Tx];rw[List.length_dropLast];omega
def abo:R2:=λx y H Q=>∃l b xs zs,x= .ref l/\y= .ref b/\H l=ae (.lst xs)/\H b=ae (.lst zs)/\xs.length+zs.length<=aM/\∀p,H p=ay->Q (.ref p) (upd H p (.lst (xs++zs)))
theorem lS:NV X (binaryOp .Add) abo:=by
 intro pins s σ H x y v u Q I rx ry h;obtain⟨l,b,xs,zs,rfl,rfl,hH,hB,hz,q⟩:=h;cases rx;cases ry;obtain⟨z,its,n,r,hl,e⟩:=I.Tz hH;obtain⟨z2,AU,n2,r2,qZ,e2⟩:=I.Tz hB;refine PySem.P.add_list e e2 ?_ (by rw[cg,cg];omega);have ea:its.toArray++AU.toArray=(its++AU).toArray:=by simp
 rw[ea];exact⟨.ref _,_,I.aiA (t':=s.toks) (r.append r2) (by rw[aK];omega),rfl,q _ I.fresh⟩
end
section
variable{prog:bg}{w:cn}{A:Around}{E:ax->aE->Prop}{s:aE}
end
section
variable{X:Cx}
end
end L2
namespace L2
open PySem PySem.Spec PyProof.Rows
theorem fj.ints:∀{ns:List Int} {us:List ax},fj (ns.map V.int) us->B_ us ns
 |[],us,h=>by
  rw[FL] at h;cases h;exact IntsAre.nil
 |n::ns,us,h=>by
  rw[aU] at h;cases h with
  |cons r t=>
   obtain⟨k,rfl⟩:=r;exact IntsAre.cons n k (fj.ints t)
theorem tN:∀{us:List ax} {ns:List Int},B_ us ns->fj (ns.map V.int) us
 |_,_,.nil=>by rw[FL];exact Paired.nil
 |_,_,.cons n t h=>by rw[aU];exact Paired.cons (show RelV (V.int n) (rT n t) from⟨t,rfl⟩) (tN h)
theorem fj.YL{a:aj}{us:List ax}(r:fj [V.ref a] us):us=[de a]:=by
 cases r with
 |cons r t=>
  cases t;cases r;rfl
section
variable{prog:bg}{w:cn}{A:Around}{E:ax->aE->Prop}{s:aE}{l:aj}{its:List ax}{ns:List Int}{Q:ax->aE->Prop}
end
section
variable{X:Cx}
end
section
variable{X:Cx}
end
section
variable{X:Cx}
end
section
variable{X:Cx}
end
section
variable{X:Cx}{pins:List (aj×Obj)}{σ:St}{H:Hp}{s:aE}
end
section
variable{X:Cx}
end
end L2
namespace L2
open PySem PySem.Spec PyProof.Rows
abbrev YM(h:df)(c:aj)(v:Option ax):Prop:=h.IsCell c v
def aiC(scope sc:m_):m_:={scope with names:=scope.names.map λ(n,k)=>if(k== .free&&sc.kind== .function&&sc.names.lookup n==ae .cell) then(n,.cell) else(n,k)}
def ie(cells:List (Str×aj)):List (Str×kz)->List (Str×aj)->List (Str×aj)
 |[],acc=>acc
 |(n,k)::r,acc=>if k== .free then ie cells r ((n,(cells.lookup n).getD 0)::acc) else ie cells r acc
theorem C7(env:Env)(f:Str×kz->List (Str×aj)->Sem (ForInStep (List (Str×aj))))(hf:∀n k c,f (n,k) c=if k== .free then(do let a<-cellOf env n;pure (.yield ((n,a)::c))) else pure (.yield c)):
  ∀(names:List (Str×kz)) (acc:List (Str×aj)),(∀y∈names,y.2= .free->∃c,env.cells.lookup y.1=ae c)->forIn names acc f=pure (ie env.cells names acc)
 |[],acc,_=>by rw[Bh];rfl
 |(n,k)::r,acc,h=>by
  rw[K8,hf];have ih:=λacc=>C7 env f hf r acc λy hy=>h y (aC _ hy);unfold ie;by_cases hk:(k==rn)=true
  ·rw[if_pos hk,if_pos hk];obtain⟨c,hc⟩:=h (n,k) aB (by simpa using hk);have e:cellOf env n=pure c:=by unfold cellOf;rw[hc]
   rw[e];have e2:(env.cells.lookup n).getD 0=c:=by rw[hc];rfl
   rw[e2];exact ih _
  rw[aX hk,aX hk];exact ih _
theorem TC{scope:m_}{env:Env}(h:∀y∈scope.names,y.2= .free->∃c,env.cells.lookup y.1=ae c):closureFor scope env=pure (ie env.cells scope.names []):=by
 simp only[closureFor];rw[C7 env _ (λn k c=>rfl) scope.names [] h];rfl
theorem mem_lookup{α:Type}:∀{l:List (Str×α)} {n:Str} {c:α},(n,c)∈l->∃c',l.lookup n=ae c'
 |(k,v)::r,n,c,h=>by
  rw[kE];cases hb:n==k with
  |true=>exact⟨_,rfl⟩
  |false=>
   obtain e|h:=aF.mp h
   cases e;simp at hb;exact mem_lookup h
theorem vi{cells:List (Str×aj)}:∀{names:List (Str×kz)} {acc:List (Str×aj)} {n:Str} {c:aj},(n,c)∈ie cells names acc->(n,c)∈acc\/((n,.free)∈names/\c=(cells.lookup n).getD 0)
 |[],_,_,_,h=> .inl h
 |(m,k)::r,acc,n,c,h=>by
  unfold ie at h;split at h
  ·rename_i hk;have hk:k= .free:=by simpa using hk
   obtain h|⟨h1,h2⟩:=vi h
   ·obtain e|h:=aF.mp h
    cases e;exact .inr ⟨hk▸aB,rfl⟩;exact .inl h
   exact .inr ⟨aC _ h1,h2⟩
  ·obtain h|⟨h1,h2⟩:=vi h
   exact .inl h;exact .inr ⟨aC _ h1,h2⟩
theorem yG{cells:List (Str×aj)}:∀{names:List (Str×kz)} {acc:List (Str×aj)} {p:Str×aj},p∈acc->p∈ie cells names acc
 |[],_,_,h=>h
 |(m,k)::r,acc,p,h=>by
  unfold ie;split;exact yG (aC _ h);exact yG h
theorem yH{cells:List (Str×aj)}:∀{names:List (Str×kz)} {acc:List (Str×aj)} {n:Str},(n,.free)∈names->(n,(cells.lookup n).getD 0)∈ie cells names acc
 |(m,k)::r,acc,n,h=>by
  unfold ie;obtain e|h:=aF.mp h
  cases e;exact yG aB
  ·split;exact yH h;exact yH h
theorem wu:∀{names:List (Str×kz)} {h:df} {acc:List (Str×aj)} {x:Str} {c:aj},(x,c)∈cellsFrom h.objs.size names acc->(x,c)∈acc\/((x,.cell)∈names/\h.objs.size<=c/\YM (pushCells h names) c ay)
 |[],_,_,_,_,h=> .inl h
 |(n,k)::r,h,acc,x,c,hm=>by
  unfold cellsFrom at hm;unfold pushCells;split at hm
  ·rename_i hk;rw[if_pos hk];have hk:k= .cell:=by simpa using hk
   rw[<-eU h {cls:= .type "cell",data:= .cell ay}] at hm;obtain hm|⟨h1,h2,h3⟩:=wu hm
   ·obtain e|hm:=aF.mp hm
    cases e;exact .inr ⟨hk▸aB,aJ _,_,CV r _ _ _ (bA _ rfl),rfl⟩;exact .inl hm
   rw[eU] at h2;exact .inr ⟨aC _ h1,xg h2,h3⟩
  ·rename_i hk;rw[aX hk];obtain hm|⟨h1,h2,h3⟩:=wu hm
   exact .inl hm;exact .inr ⟨aC _ h1,h2,h3⟩
theorem Al:∀{names:List (Str×kz)} {n:Nat} {acc:List (Str×aj)} {p:Str×aj},p∈acc->p∈cellsFrom n names acc
 |[],_,_,_,h=>h
 |(m,k)::r,n,acc,p,h=>by
  unfold cellsFrom;split;exact Al (aC _ h);exact Al h
theorem EV:∀{names:List (Str×kz)} {n:Nat} {acc:List (Str×aj)} {x:Str},(x,.cell)∈names->∃c,(x,c)∈cellsFrom n names acc
 |(m,k)::r,n,acc,x,h=>by
  unfold cellsFrom;obtain e|h:=aF.mp h
  cases e;exact⟨n,Al aB⟩
  ·split;exact EV h;exact EV h
theorem EW:∀{names:List (Str×kz)} {h:df} {acc:List (Str×aj)} {x y:Str} {c:aj},(∀p∈acc,p.2<h.objs.size)->(∀x y c,(x,c)∈acc->(y,c)∈acc->x=y)->(x,c)∈cellsFrom h.objs.size names acc->(y,c)∈cellsFrom h.objs.size names acc->x=y
 |[],_,_,_,_,_,_,hi,h1,h2=>hi _ _ _ h1 h2
 |(n,k)::r,h,acc,x,y,c,hl,hi,h1,h2=>by
  unfold cellsFrom at h1 h2;split at h1
  ·rename_i hk;rw[bw hk] at h2;rw[<-eU h {cls:= .type "cell",data:= .cell ay}] at h1 h2;refine EW (h:=h.push _) (λp hp=>?_) (λx y c a b=>?_) h1 h2
   ·rw[eU];obtain rfl|hp:=aF.mp hp
    exact nY _;exact Gz (hl p hp)
   ·obtain e|a:=aF.mp a<;>obtain e'|b:=aF.mp b
    cases e;cases e';rfl;cases e;exact bM (hl _ b) (fX _);cases e';exact bM (hl _ a) (fX _);exact hi _ _ _ a b
  rename_i hk;rw[aX hk] at h2;exact EW hl hi h1 h2
theorem Qj{M:Model}{A:Around}{E:ax->aE->Prop}{s:aE}{scope:m_}{globals:aj}{closure:List (Str×aj)}{qual:Str}{func:Option aj}{code:ax}{around:Env}{builtins:aj}{Q:Env->aE->Prop}(h:Q (newEnv scope s.heap.objs.size globals (cellsFrom (s.heap.objs.size+1) scope.names closure) qual func code (ae around) builtins) {s with heap:=pushCells (s.heap.push {cls:= .type "dict",data:= .dict #[]}) scope.names}):bR M A (newFunctionEnv scope globals closure [] qual func code (ae around) builtins) Q E s:=by
 simp only[newFunctionEnv,UH,if_true];refine ak (wpAny_alloc ?_);refine ak (wpAny_layCells _ (λn k c=>rfl) scope.names closure _ _ ?_);rw[show({s with heap:=s.heap.push {cls:= .type "dict",data:= .dict #[]}}:aE).heap.objs.size=s.heap.objs.size+1 from eU ..];rw[Bh];exact ak (aS (aS h))
theorem yI{sc:m_}:∀{names:List (Str×kz)} {x:Str} {k:kz},(names.map λ(n,k)=>if(k==rn&&sc.kind== .function&&sc.names.lookup n==ae .cell) then(n,K9) else(n,k)).lookup x=ae k->∃k',names.lookup x=ae k'/\(k=k'\/(k'= .free/\k= .cell))
 |[],_,_,h=>by simp at h
 |(n,k₀)::r,x,k,h=>by
  have ih:= @yI sc r x k;have h':qa x ((if(k₀==rn&&sc.kind== .function&&sc.names.lookup n==ae .cell)=true then(n,K9) else(n,k₀))::(r.map _))=ae k:=h;cases hx:x==n with
  |true=>
   simp only[kE,hx];by_cases hc:(k₀==rn&&sc.kind== .function&&sc.names.lookup n==ae .cell)=true;rw[if_pos hc] at h';simp only[kE,hx] at h';cases h';simp only[aH,beq_iff_eq] at hc;exact⟨k₀,rfl,.inr ⟨hc.1.1,rfl⟩⟩;rw[if_neg hc] at h';simp only[kE,hx] at h';cases h';exact⟨_,rfl,.inl rfl⟩
  |false=>
   simp only[kE,hx];by_cases hc:(k₀==rn&&sc.kind== .function&&sc.names.lookup n==ae .cell)=true;rw[if_pos hc] at h';simp only[kE,hx] at h';exact ih h';rw[if_neg hc] at h';simp only[kE,hx] at h';exact ih h'
structure Qk(N:List Str)(sc scope:m_)(own:List (Str×Nat)):Prop where
 kind:scope.kind= .function
 uniq:∀y∈scope.names,scope.names.lookup y.1=ae y.2
 ix:∀p∈own,N[p.2]? =ae p.1
 free:∀y∈scope.names,y.2= .free->sc.names.lookup y.1=ae .cell\/sc.names.lookup y.1=ae .free
 own:∀y∈scope.names,y.2= .local\/y.2= .cell->y.1∈own.map (·.1)\/y.1∉N
def wipe(σ:St):List Nat->St
 |[]=>σ
 |v::vs=>(wipe σ vs).set v ay
theorem yJ(σ:St):∀vs:List Nat,(wipe σ vs).length=σ.length
 |[]=>rfl
 |v::vs=>by unfold wipe;rw[List.length_set,yJ σ vs]
theorem EX{σ:St}{i:Nat}{x:V}:∀{vs:List Nat},(wipe σ vs)[i]? =ae (ae x)->σ[i]? =ae (ae x)/\i∉vs
 |[],h=>⟨h,by simp⟩
 |v::vs,h=>by
  unfold wipe at h;by_cases hi:v=i
  ·subst hi;by_cases hv:v<(wipe σ vs).length;rw[yk hv] at h;cases h;rw[rV (by simpa using hv)] at h;cases h
  rw[Bg hi] at h;obtain⟨h1,h2⟩:=EX h;exact⟨h1,by simp only[aF,not_or];exact⟨λe=>hi e.symm,h2⟩⟩
abbrev Cx.N1(X:Cx)(s:aE)(H:Hp)(scope:m_)(p6:Env)(fp:List aj):Cx:={X with MC:=s,H_0:=H,env:=p6,outer:=X.stack,ex:=fp,fn:=λx=>scope.names.lookup x==ae .cell,pn:=[],xe:=λ_ _=>False}
section
variable{X:Cx}{pins:List (aj×Obj)}{σ:St}{H:Hp}{s:aE}
theorem Ql{scope:m_}{own:List (Str×Nat)}{fp:List aj}(I:Inv X pins σ H s)(ok:Qk X.N X.env.scope scope own)(hN:X.N.Nodup)(hfp:∀b∈fp,GL X pins H b/\b<s.heap.objs.size):Inv (X.N1 s H scope (compEnvC scope (cellsFrom (s.heap.objs.size+1) scope.names (ie X.env.cells scope.names [])) s.heap.objs.size X.env) fp) [] (wipe σ (own.map (·.2))) H {s with heap:=pushCells (s.heap.push {cls:= .type "dict",data:= .dict #[]}) scope.names}:=by
 have MF:∀y∈scope.names,y.2= .free->∃c,X.env.cells.lookup y.1=ae c:=λy hy e=>by
  obtain k|k:=ok.free y hy e
  exact I.ok.has _ (.inl k);exact I.ok.has _ (.inr k)
 generalize Qm:compEnvC scope (cellsFrom (s.heap.objs.size+1) scope.names (ie X.env.cells scope.names [])) s.heap.objs.size X.env=p6;have kp:∀b o,s.heap.get? b=ae o->(pushCells (s.heap.push {cls:= .type "dict",data:= .dict #[]}) scope.names).get? b=ae o:=λb o e=>CV _ _ _ _ (aG _ e);have hL:p6.locals=s.heap.objs.size:=by rw[<-Qm];rfl
 have hcl:p6.cells=cellsFrom (s.heap.objs.size+1) scope.names (ie X.env.cells scope.names []):=by rw[<-Qm];rfl
 have hsc:p6.scope=aiC scope X.env.scope:=by rw[<-Qm];rfl
 rw[<-eU s.heap {cls:= .type "dict",data:= .dict #[]}] at hcl;have cm:∀{y c},(y,c)∈ie X.env.cells scope.names []->X.env.cells.lookup y=ae c/\c<s.heap.objs.size:=λ{y c} hm=>by
  obtain hm|⟨h1,rfl⟩:=vi hm
  cases hm;obtain⟨c,hc⟩:=MF _ h1 rfl;rw[hc];obtain⟨w,z⟩:=I.cell _ _ hc;exact⟨rfl,z.lt⟩
 have mem:∀{y c},p6.cells.lookup y=ae c->(X.env.cells.lookup y=ae c/\c<s.heap.objs.size)\/(s.heap.objs.size+1<=c/\YM (pushCells (s.heap.push {cls:= .type "dict",data:= .dict #[]}) scope.names) c ay):=λ{y c} e=>by
  rw[hcl] at e;obtain hm|⟨_,h2,h3⟩:=wu (dD e)
  exact .inl (cm hm);rw[eU] at h2;exact .inr ⟨h2,h3⟩
 have look:∀{y},scope.names.lookup y=ae .free->∃c,p6.cells.lookup y=ae c/\X.env.cells.lookup y=ae c:=λ{y} hl=>by
  have hy:(y,rn)∈scope.names:=dD hl;obtain⟨c',e'⟩:=mem_lookup (Al (names:=scope.names) (n:=(s.heap.push {cls:= .type "dict",data:= .dict #[]}).objs.size) (yH (cells:=X.env.cells) (acc:=[]) hy));rw[<-hcl] at e';refine⟨c',e',?_⟩;rw[hcl] at e';obtain hm|⟨h1,_,_⟩:=wu (dD e')
  exact(cm hm).1;have:=ok.uniq _ h1;rw[hl] at this;cases this
 have okB:(X.N1 s H scope p6 fp).Ok:=by
  refine⟨I.ok.mod,by show p6.scope.kind=_;rw[hsc];exact ok.kind,by show p6.globals=_;rw[<-Qm];exact I.ok.glob,by show p6.builtins=_;rw[<-Qm];exact I.ok.blt,by show s.heap.objs.size<=p6.locals;rw[hL];exact aJ _,λy z c e1 e2=>?_,λy hy=>?_,λy c z e=>?_,I.ok.hd,I.ok.frames,.inl rfl,λb hb=>⟨?_,λy c e z=>?_⟩,I.bs,bX I.ok.Yq I.sz,λb o e hb=>?_,λb hb z=>?_,I.stack,I.HY⟩;have e1:p6.cells.lookup y=ae c:=e1;have e2:p6.cells.lookup z=ae c:=e2;rw[hcl] at e1 e2;refine EW (λp hp=>?_) (λy z c a b=>I.ok.inj y z c (cm a).1 (cm b).1) (dD e1) (dD e2);rw[eU];exact Gz (cm (y:=p.1) (c:=p.2) hp).2
  ·show∃c,p6.cells.lookup y=ae c;have key:∀k,p6.kindOf y=ae k->(k= .cell\/k= .free)->∃c,p6.cells.lookup y=ae c:=λk hk Qn=>by
    unfold Env.kindOf at hk;rw[hsc] at hk;obtain⟨k',e,r⟩:=yI hk;have:k'= .cell\/k'= .free:=by
     obtain rfl|⟨rfl,_⟩:=r
     exact Qn;exact .inr rfl
    obtain rfl|rfl:=this
    obtain⟨c,hm⟩:=EV (n:=(s.heap.push {cls:= .type "dict",data:= .dict #[]}).objs.size) (acc:=ie X.env.cells scope.names []) (dD e);obtain⟨c',e'⟩:=mem_lookup hm;exact⟨c',by rw[hcl];exact e'⟩;obtain⟨c,h1,_⟩:=look e;exact⟨c,h1⟩
   obtain hy|hy:=hy
   exact key _ hy (.inl rfl);exact key _ hy (.inr rfl)
  ·have z:(scope.names.lookup y==ae K9)=true:=z;have z:scope.names.lookup y=ae .cell:=by simpa using z
   have e:p6.cells.lookup y=ae c:=e;rw[hcl] at e;obtain hm|⟨_,h2,_⟩:=wu (dD e)
   ·obtain hm|⟨h1,_⟩:=vi hm
    cases hm;have q:=ok.uniq _ h1;rw[z] at q;cases q
   rw[eU] at h2;exact xg h2
  show b≠p6.locals;rw[hL];exact dR (hfp b hb).2
  ·have e:p6.cells.lookup y=ae c:=e;obtain⟨h1,_⟩|⟨h1,_⟩:=mem e
   exact(hfp b hb).1.2.2.2.2.1 y c h1 z
   ·have h2:s.heap.objs.size+1<=b:=by rw[<-z];exact h1
    exact bM (cS (hfp b hb).2 (xg h2)) (fX _)
  ·obtain z|z:=(hfp b hb).1.2.2.2.1
   exact I.ok.S' b o e z;exact bM (cS (bN e) (bX I.ok.Yq z)) (fX _)
  ·obtain z|z:=aF.mp (I.NP b z)
   exact(hfp b hb).1.2.1 z;exact(hfp b hb).1.2.2.1 z
 refine⟨okB,rfl,I.bare,Un.kept kp,⟨λ_=>ay,?_,λi y av e1 e2 e3=>?_⟩,λy c e=>?_,?_,λy c e=>?_,λp hp=>?_,I.gB.kept kp,by rw[yJ];exact I.len⟩;show Heap.Ns _ p6.locals _;rw[hL];exact Heap.Ns.keeps (Heap.Ns.new ..) λb o e=>CV _ _ _ _ e
 ·obtain⟨e2,hne⟩:=EX e2;have hfr:scope.names.lookup y=ae .free/\(p6.kindOf y=ae .cell\/p6.kindOf y=ae .free):=by
   have key:∀k,p6.scope.names.lookup y=ae k->k= .local\/k= .cell\/k= .free->scope.names.lookup y=ae .free/\(p6.kindOf y=ae .cell\/p6.kindOf y=ae .free):=λk hk Qn=>by
    have hk0:=hk;rw[hsc] at hk;obtain⟨k',e,r⟩:=yI hk;have no:¬(k'= .local\/k'= .cell):=λhh=>by
     obtain e'|e':=ok.own _ (dD e) hh
     obtain⟨p,hp,hpy⟩:=aA.mp e';have e3:=ok.ix p hp;have:p.1=y:=hpy;rw[this] at e3;exact hne (aA.mpr ⟨p,hp,IG hN e3 e1⟩);exact e' (bW e1)
    obtain rfl|⟨rfl,rfl⟩:=r
    ·obtain rfl|rfl|rfl:=Qn
     exact bM (.inl rfl) no;exact bM (.inr rfl) no;exact⟨e,.inr hk0⟩
    exact⟨e,.inl hk0⟩
   have e3:Vis p6.scope y:=e3;obtain e3|e3|e3:=e3
   exact key _ e3 (.inl rfl);exact key _ e3 (.inr (.inl rfl));exact key _ e3 (.inr (.inr rfl))
  obtain⟨m,hn,hl⟩:=I.loc;have aiE:Vis X.env.scope y:=(ok.free _ (dD hfr.1) rfl).elim (λk=> .inr (.inl k)) (λk=> .inr (.inr k));obtain⟨w,r,q⟩:=hl i y av e1 e2 aiE;refine⟨w,r,.inr ⟨hfr.2,?_⟩⟩;obtain⟨c,h1,h2⟩:=look hfr.1;obtain⟨k,_⟩|⟨_,c',e',z⟩:=q
  ·have k:X.env.scope.names.lookup y=ae .local:=k;obtain k'|k':=ok.free _ (dD hfr.1) rfl<;>rw[show X.env.scope.names.lookup y=_ from k'] at k<;>cases k
  rw[h2] at e';cases e';exact⟨c,h1,z.keeps kp⟩
 ·have e:p6.cells.lookup y=ae c:=e;obtain⟨h1,_⟩|⟨_,z⟩:=mem e
  obtain⟨w,z⟩:=I.cell y c h1;exact⟨w,z.keeps kp⟩;exact⟨_,z⟩
 show H p6.locals=ay;rw[hL];exact I.gB.fresh (aJ _)
 ·have e:p6.cells.lookup y=ae c:=e;obtain⟨h1,_⟩|⟨h1,_⟩:=mem e
  exact I.rX y c h1;exact I.gB.fresh (xg h1)
 exact absurd (show p∈([]:List (aj×Obj))++[] from hp) (by simp)
theorem adC{E:ax->aE->Prop}{D:aj}{xs:List V}{y:V}{v:ax}{Q:ax->aE->Prop}(I:Inv X pins σ H s)(hD:H D=ae (.lst xs))(hz:xs.length<aM)(r:RelV y v)(h:∀s',Inv X pins σ (upd H D (.lst (xs++[y]))) s'->Q .none s'):bR (cG X.prog X.w) X.A (call (.builtin "list.append") [.ref D,v]) Q E s:=by
 obtain⟨hz',its,n,ri,e⟩:=I.gB D _ hD;have hl:=ri.length;refine append_at (hsz:=by rw[cg];omega) e λh' sb P4=>?_;refine h {s with heap:=h'} (I.write (t':=s.toks) (by rw[hD];trivial) (.inl rfl) (λb u hb q=>(sb.2 b hb).trans q) ⟨_,P4⟩ ⟨by rw[aK];exact hz,its++[v],n+1,ri.append (.cons r .nil),?_⟩);rw[P4];simp
def PTs(X:Cx)(ifs:List eJ)(t:TT):Prop:=∀(pins:List (aj×Obj)) (s:aE) (σ:St) (H:Hp) (Q:Bool->Hp->Prop),Inv X pins σ H s->t σ H Q->bR (cG X.prog X.w) X.A (forIn ifs true λc r=>if r=true then do let ok<-isTrue c X.env (eval c X.env);pure (xh ok) else pure (xh r)) (TP X pins σ Q) X.xe s
def aiF:TT:=λ_ H Q=>Q true H
theorem U2:PTs X [] aiF:=λ_ _ _ H _ I h=>wpAny_tests_nil ⟨H,I,h⟩
theorem vj{c:eJ}{t:TT}(h:PT X c t):PTs X [c] t:=λpins s σ H Q I hw=>wpAny_tests_one (h pins s σ H Q I hw)
end
theorem Wn{α:Type}{t:Sem α}{Q Q':α->aE->Prop}{M:Model}{A:Around}{E:ax->aE->Prop}{s:aE}(h:bR M A t Q (λ_ _=>False) s)(hQ:∀a s,Q a s->Q' a s):bR M A t Q' E s:=iG h hQ λ_ _ z=>gk z
theorem N2{prog:bg}{w:cn}{A:Around}{R:Result->aE->Prop}{s:aE}{elt target iter:eJ}{ifs:List eJ}{scope:m_}{pos:Pos}{it acc:ax}{env:Env}(I:Nat->aE->Prop)(turn:∀n s,I n s->bR (cG prog w) A (pyNext it) (λr s₁=>match r with
   |none=>R (.ok .next) s₁
   |some v=>bR (cG prog w) A (letOwnedTupleGo target it v) (λ_ s₁'=>bR (cG prog w) A (assign target env v) (λ_ s₂=>
     bR (cG prog w) A (forIn ifs true λc r=>if r=true then do let ok<-isTrue c env (eval c env);pure (xh ok) else pure (xh r)) (λok s₃=>
      if ok=true then bR (cG prog w) A (eval elt env) (λx s₄=>
       bR (cG prog w) A (call (.builtin "list.append") [acc,x]) (λ_ s₅=>∃m,m<n/\I m s₅) (notedBy (cG prog w) A env λe s'=>R (.error e) s') s₄) (notedBy (cG prog w) A env λe s'=>R (.error e) s') s₃
      else∃m,m<n/\I m s₃) (notedBy (cG prog w) A env λe s'=>R (.error e) s') s₂) (notedBy (cG prog w) A env λe s'=>R (.error e) s') s₁') (notedBy (cG prog w) A env λe s'=>R (.error e) s') s₁) (notedBy (cG prog w) A env λe s'=>R (.error e) s') s)
  (n:Nat) (h:I n s):
  codeAny (cG prog w) A (.compLoop (.ListComp elt [⟨target,iter,ifs,0⟩] scope pos) 0 it acc env) R s:=by
 refine codeAny_loop rfl I (λn s hI=>?_) n h;show bR _ A ((compTurn (.ListComp elt [⟨target,iter,ifs,0⟩] scope pos) 0 it acc env).onRaise (λx=>do noteFrame x env;theTreesLotGoes x)) _ _ s;refine wpAny_noted ?_;rw[compTurn_list];refine ak (V4 (ak (iG (turn n s hI) (λr s₁ h₁=>?_) λ_ _ h'=>h')));cases r with
 |none=>exact aS h₁
 |some v=>
  refine ak (iG h₁ (λ_ s₁' h₁'=>?_) λ_ _ h'=>h');refine ak (iG h₁' (λ_ s₂ h₂=>ak (iG h₂ (λok s₃ h₃=>?_) λ_ _ h'=>h')) λ_ _ h'=>h');cases ok with
  |false=>exact aS ⟨rfl,h₃⟩
  |true=>
   exact ak (ak (iG h₃ (λx s₄ h₄=>ak (iG h₄ (λ_ s₅ h₅=>aS (aS ⟨rfl,h₅⟩)) λ_ _ h'=>h')) λ_ _ h'=>h'))
section
variable{X:Cx}
def tLc(wi:TI)(g:TG)(tt:TT)(te:TE)(vs:List Nat):TE:=λσ H Q=>wi σ H λJ H1=>∀D,H1 D=ay->∃W:Nat->Nat->Hp->Prop,(∃m,W 0 m (upd H1 D (.lst [])))/\∀i m H,W i m H->(J.stop i H/\Q (.ref D) H)\/(J.go i H/\∃Nx:Hp->Prop,(∀H',Nx H'->∃m',m'<m/\W (i+1) m' H')/\∀x H',J.yld i H x H'->g x (wipe σ vs) H' λσ2 H2=>wipe σ2 vs=wipe σ vs/\tt σ2 H2 λb H3=>
  if b=true then te σ2 H3 λy H4=>∃acc,H4 D=ae (.lst acc)/\acc.length<aM/\Nx (upd H4 D (.lst (acc++[y]))) else Nx H3)
theorem U3{pins:List (aj×Obj)}{s:aE}{σ:St}{H:Hp}{Q:VK}{elt tg iter:eJ}{ifs:List eJ}{scope:m_}{own:List (Str×Nat)}{pos pos':Pos}{wi:TI}{g:TG}{tt:TT}{te:TE}{use:Option (ax->Sem Unit)}{Qf:ax->aE->Prop}(hc:X.calm=true)(hN:X.N.Nodup)(I:Inv X pins σ H s)(hi:PI X tg iter wi)(ok:Qk X.N X.env.scope scope own)(hg:∀(s:aE) (H:Hp) (C:aj) (cl:List (Str×aj)) (fp:List aj),PG (X.N1 s H scope (compEnvC scope cl C X.env) fp) tg g)(ht:∀(s:aE) (H:Hp) (C:aj) (cl:List (Str×aj)) (fp:List aj),PTs (X.N1 s H scope (compEnvC scope cl C X.env) fp) ifs tt)(he:∀(s:aE) (H:Hp) (C:aj) (cl:List (Str×aj)) (fp:List aj),PE (X.N1 s H scope (compEnvC scope cl C X.env) fp) elt te)(hs:∀x,foldedSetIterable iter X.env x=pure x)(h:tLc wi g tt te (own.map (·.2)) σ H Q)(hRR:∀D C s' m H',Inv X pins σ H' s'->Q (.ref D) H'->s'.heap.Ns C m->GL X pins H' C->compPost (cG X.prog X.w) X.A X.xe use Qf (.ref D) C (.ok .next) s'):bR (cG X.prog X.w) X.A (comprehension (.ListComp elt [⟨tg,iter,ifs,0⟩] scope pos) scope X.env pos' (newList []) false (eval iter X.env) use) Qf X.xe s:=by
 have MF:∀y∈scope.names,y.2= .free->∃c,X.env.cells.lookup y.1=ae c:=λy hy e=>by
  obtain k|k:=ok.free y hy e
  exact I.ok.has _ (.inl k);exact I.ok.has _ (.inr k)
 refine wpAny_comprehension_free (use:=use) rfl hs (TC MF) ok.kind (λy hy e=>by rw[ok.uniq y hy,e]) (iU (hi pins s σ H _ I h) λxv s1 hx=>iU hx λitv s2 h2=>?_);obtain⟨it,fp,tn,J,H2,e,I2,T,st2,f2,q⟩:=h2;subst e;refine nV (Qj ?_) (by show 0<=aM;decide);generalize hD:s2.heap.objs.size=D;have hDn:H2 D=ay:=I2.gB.fresh (yz hD);obtain⟨W,⟨m0,w0⟩,turn⟩:=q D hDn;generalize hs3:({s2 with heap:=s2.heap.push {cls:= .type "list",data:= .seq ([]:List ax).toArray}}:aE)=s3;have I3:Inv X pins σ (upd H2 D (.lst [])) s3:=by
  rw[<-hs3];refine I2.laid (t':=s2.toks) (λb o e=>aG _ e) (yz hD) ⟨cI _,[],0,.nil,?_⟩;rw[<-hD];exact bA _ rfl
 have h3:s3.heap=s2.heap.push {cls:= .type "list",data:= .seq ([]:List ax).toArray}:=by rw[<-hs3]
 have sz:∀b∈fp,b<s2.heap.objs.size:=λb hb=>by
  obtain⟨o,e,_⟩:=T.obj _ _ st2 b hb;exact bN e
 have f3:∀b∈fp,GL X pins (upd H2 D (.lst [])) b/\b<s3.heap.objs.size:=λb hb=>by
  have Ak:=sz b hb;refine⟨⟨?_,(f2 b hb).2⟩,by rw[h3,eU];exact Gz Ak⟩;rw[cZ (by rw[<-hD];exact dR Ak)];exact(f2 b hb).1
 have st3:tn 0 s3.heap:=T.keep _ _ _ st2 λb _ o e=>by rw[h3];exact aG _ e
 have I4:=Ql I3 ok hN f3;have pg:=hg s3 (upd H2 D (.lst [])) s3.heap.objs.size (cellsFrom (s3.heap.objs.size+1) scope.names (ie X.env.cells scope.names [])) fp;have pt:=ht s3 (upd H2 D (.lst [])) s3.heap.objs.size (cellsFrom (s3.heap.objs.size+1) scope.names (ie X.env.cells scope.names [])) fp;have pe:=he s3 (upd H2 D (.lst [])) s3.heap.objs.size (cellsFrom (s3.heap.objs.size+1) scope.names (ie X.env.cells scope.names [])) fp;show codeAny _ _ (.compStart (.ListComp elt [⟨tg,iter,ifs,0⟩] scope pos) 0 (.ref it) (.ref D) (compEnvC scope (cellsFrom (s3.heap.objs.size+1) scope.names (ie X.env.cells scope.names [])) s3.heap.objs.size X.env)) (compPost (cG X.prog X.w) X.A X.xe use Qf (.ref D) s3.heap.objs.size) {s3 with heap:=pushCells (s3.heap.push {cls:= .type "dict",data:= .dict #[]}) scope.names};have nfp:∀b∈fp,(upd H2 D (.lst [])) b=ay:=λb hb=>(f3 b hb).1.1;generalize hce:compEnvC scope (cellsFrom (s3.heap.objs.size+1) scope.names (ie X.env.cells scope.names [])) s3.heap.objs.size X.env=ce at I4 pg pt pe⊢;have cL:ce.locals=s3.heap.objs.size:=by subst hce;rfl
 generalize hH3:upd H2 D (.lst [])=H3 at I3 I4 pg pt pe w0 nfp f3;generalize hs4:({s3 with heap:=pushCells (s3.heap.push {cls:= .type "dict",data:= .dict #[]}) scope.names}:aE)=s4 at I4⊢;have st4:tn 0 s4.heap:=T.keep _ _ _ st3 λb _ o e=>by rw[<-hs4];exact CV _ _ _ _ (aG _ e)
 have stat:∀{σ':St} {H':Hp} {s':aE},Inv (X.N1 s3 H3 scope ce fp) [] σ' H' s'->(∀b∈fp,H' b=ay)->∀b∈fp,GL (X.N1 s3 H3 scope ce fp) [] H' b:=λ{σ' H' s'} I' hn b hb=>
  ⟨hn b hb,(I'.ok.exf b hb).1,I'.ok.Ta b hb,.inl hb,λx c e=>(I'.ok.exf b hb).2 x c e,λp hp=>absurd (show p∈([]:List (aj×Obj))++[] from hp) (by simp)⟩
 have loop:codeAny (cG X.prog X.w) X.A (.compLoop (.ListComp elt [⟨tg,iter,ifs,0⟩] scope pos) 0 (.ref it) (.ref D) ce) (compPost (cG X.prog X.w) X.A X.xe use Qf (.ref D) s3.heap.objs.size) s4:=by
  refine N2 (λn s'=>∃i H',Inv (X.N1 s3 H3 scope ce fp) [] (wipe σ (own.map (·.2))) H' s'/\tn i s'.heap/\(∀b∈fp,H' b=ay)/\W i n H') ?_ m0 ⟨0,H3,I4,st4,nfp,w0⟩;rintro n s5 ⟨i,H5,I5,st5,n5,w5⟩;obtain⟨stop,qq⟩|⟨go,Nx,hNx,step⟩:=turn i n H5 w5
  ·have td:=T.done (X.N1 s3 H3 scope ce fp) rfl rfl rfl hc i [] s5 _ H5 (λ_ _=>False) I5 (stat I5 n5) st5 stop;refine Wn td λr s6 ⟨hr,I6⟩=>?_;subst hr;have I7:Inv X pins σ H5 s6:=I3.acv (ch:=fp) I6.os I6.base I6.gB I6.bare λb hb=>⟨(f3 b hb).1.2.2.2.1,(f3 b hb).1.2.1,(f3 b hb).1.2.2.2.2.1,(f3 b hb).1.2.2.2.2.2⟩;have nC:H5 s3.heap.objs.size=ay:=by
    have z:H5 ce.locals=ay:=I6.free;rw[cL] at z;exact z
   obtain⟨m,hn,_⟩:=I6.loc;have hn:s6.heap.Ns ce.locals m:=hn;rw[cL] at hn;exact hRR D s3.heap.objs.size s6 m H5 I7 qq hn (I3.Yt (aJ _) nC)
  ·have ti:=T.item (X.N1 s3 H3 scope ce fp) rfl rfl rfl hc i [] s5 _ H5 (λ_ _=>False) I5 (stat I5 n5) st5 go;refine Wn ti λr s6 ⟨u,hr,h6⟩=>?_;subst hr;refine Wn h6 λ_ s7 ⟨x,H7,I7,r7,y7,st7,n7⟩=>?_;have I7':=I7.pinned (stat I7 n7) (T.obj _ _ st7);refine Wn (pg _ s7 _ H7 x u _ I7' r7 (step x H7 y7)) λ_ s8 ⟨σ8,H8,I8,hw8,q8⟩=>?_;refine Wn (pt _ s8 σ8 H8 _ I8 q8) λb s9 ⟨H9,I9,q9⟩=>?_;have fin:∀{s':aE} {H':Hp},Inv (X.N1 s3 H3 scope ce fp) ([]++IK fp s7.heap) σ8 H' s'->Nx H'->∃m,m<n/\∃i H',Inv (X.N1 s3 H3 scope ce fp) [] (wipe σ (own.map (·.2))) H' s'/\tn i s'.heap/\(∀b∈fp,H' b=ay)/\W i m H':=λ{s' H'} I' nx=>by
    obtain⟨m',hm,w'⟩:=hNx H' nx;have afw:∀b∈fp,∀o,s7.heap.get? b=ae o->s'.heap.get? b=ae o/\H' b=ay:=λb hb o e=>
     let z:=I'.pin (b,o) (bc _ (bc _ (Ce hb e)))
     ⟨z.1,z.2.1⟩
    have hl:(wipe σ (own.map (·.2))).length=σ8.length:=by rw[<-hw8,yJ]
    refine⟨m',hm,i+1,H',(I'.C4 (pins:=[])).weak hl (λj v e=>?_),T.keep _ _ _ st7 λb hb o e=>(afw b hb o e).1,λb hb=>?_,w'⟩;rw[<-hw8] at e;exact(EX e).1;obtain⟨o,e,_⟩:=T.obj _ _ st7 b hb;exact(afw b hb o e).2
   cases b with
   |false=>
    simp only[u_,if_false] at q9⊢;exact fin I9 q9
   |true=>
    simp only[if_true] at q9⊢;refine Wn (pe _ s9 σ8 H9 _ I9 q9) λz s10 ⟨yv,H10,I10,r10,acc,aiH,aiI,nx⟩=>?_;exact adC (X:=X.N1 s3 H3 scope ce fp) I10 aiH aiI r10 λs11 I11=>fin I11 nx
 exact codeAny_compStart_list loop (T.self X.A 0 _ _ _ st4 loop)
theorem ML{elt tg iter:eJ}{ifs:List eJ}{scope:m_}{own:List (Str×Nat)}{pos:Pos}{wi:TI}{g:TG}{tt:TT}{te:TE}(hc:X.calm=true)(hN:X.N.Nodup)(hi:PI X tg iter wi)(ok:Qk X.N X.env.scope scope own)(hg:∀(s:aE) (H:Hp) (C:aj) (cl:List (Str×aj)) (fp:List aj),PG (X.N1 s H scope (compEnvC scope cl C X.env) fp) tg g)(ht:∀(s:aE) (H:Hp) (C:aj) (cl:List (Str×aj)) (fp:List aj),PTs (X.N1 s H scope (compEnvC scope cl C X.env) fp) ifs tt)(he:∀(s:aE) (H:Hp) (C:aj) (cl:List (Str×aj)) (fp:List aj),PE (X.N1 s H scope (compEnvC scope cl C X.env) fp) elt te)(hs:∀x,foldedSetIterable iter X.env x=pure x:=by intro _;rfl):PE X (.ListComp elt [⟨tg,iter,ifs,0⟩] scope pos) (tLc wi g tt te (own.map (·.2))):=by
 intro pins s σ H Q I h;rw[eval_ListComp];refine U3 hc hN I hi ok hg ht he hs h λD C s' m H' I' q hn f=>⟨m,hn,λh'' sb=>?_⟩;obtain⟨f0,f1,f2,f3,f4,f5⟩:=f;exact⟨.ref D,H',I'.turned (t':=s'.toks) (λb o hb e=>(sb.2 b hb).trans e) f0 f1 f3 f4 f5,rfl,q⟩
theorem C8{i:Nat}{y:Str}{py:Pos}{elt tg iter:eJ}{ifs:List eJ}{scope:m_}{own:List (Str×Nat)}{pos afx:Pos}{wi:TI}{g:TG}{tt:TT}{te:TE}(hc:X.calm=true)(hN:X.N.Nodup)(hy:X.N[i]? =ae y)(hyl:X.env.scope.names.lookup y=ae .local)(hsw:swapsWith (.ListComp elt [⟨tg,iter,ifs,0⟩] scope pos) (ae (.Name y py)) afx.line X.env=pure true)(hi:PI X tg iter wi)(ok:Qk X.N X.env.scope scope own)(hg:∀(s:aE) (H:Hp) (C:aj) (cl:List (Str×aj)) (fp:List aj),PG (X.N1 s H scope (compEnvC scope cl C X.env) fp) tg g)(ht:∀(s:aE) (H:Hp) (C:aj) (cl:List (Str×aj)) (fp:List aj),PTs (X.N1 s H scope (compEnvC scope cl C X.env) fp) ifs tt)(he:∀(s:aE) (H:Hp) (C:aj) (cl:List (Str×aj)) (fp:List aj),PE (X.N1 s H scope (compEnvC scope cl C X.env) fp) elt te)(hs:∀x,foldedSetIterable iter X.env x=pure x:=by intro _;rfl):PS X (.Assign [.Name y py] (.ListComp elt [⟨tg,iter,ifs,0⟩] scope pos) afx) (afj (tLc wi g tt te (own.map (·.2))) (UQ i)):=by
 intro pins s σ H D I h;rw[exec_Assign_Name_used _ _ _ _ hsw];refine ak (V4 (ak ?_));show bR _ X.A (do let _<-comprehension (.ListComp elt [⟨tg,iter,ifs,0⟩] scope pos) scope X.env (firstIterPos [⟨tg,iter,ifs,0⟩] pos) (newList []) false (eval iter X.env) (ae (assign (.Name y py) X.env))) _ _ s;have h:tLc wi g tt te (own.map (·.2)) σ H (λx H1=>UQ i x σ H1 D.nx):=h;refine ak (iU (U3 (Qf:=λ_ s'=>SP X pins D .next s') hc hN I hi ok hg ht he hs h λL C s' m H' I' q hn f=>?_) λ_ s' hq=>aS (aS hq));show bR _ _ (assign (.Name y py) X.env (.ref L)) _ _ _;refine wpAny_assign_Name (MD (v:=V.ref L) I' hN hy (.inl hyl) rfl (λs2 I2 ⟨a,sb,ha⟩=>?_) (.inr hyl));obtain⟨f0,f1,f2,f3,f4,f5⟩:=f;have haC:C≠a:=by
  obtain z|z:=ha
  rw[z];exact f1;exact λe=>f4 y a z e.symm
 refine⟨m,hn.sameBut sb haC,λh3 sb3=>?_⟩;exact⟨_,H',I2.turned (t':=s2.toks) (λb o hb e=>(sb3.2 b hb).trans e) f0 f1 f3 f4 f5,q⟩
theorem H_{elt:eJ}{gs:List Comprehension}{scope:m_}{pos py:Pos}{y:Str}{l:Nat}{env:Env}(hk:env.scope.kind= .function)(hy:env.scope.names.lookup y=ae .local)(hl:(py.line==pos.line)=true)(ha:(scope.names.any λ(n,k)=>n==y&&(k== .local||k== .cell))=false):swapsWith (.ListComp elt gs scope pos) (ae (.Name y py)) l env=pure true:=by
 have ky:env.kindOf y=ae .local:=hy;have hb:env.blockKind= .function:=by unfold Env.blockKind;rw[hk];rfl
 unfold swapsWith;simp only[hb,ky,ha,Expr.pos,hl];rfl
end
theorem Am{K:au}{a:aj}{xs:List V}{g:TG}{tt:TT}{te:TE}{vs:List Nat}{σ:St}{H1:Hp}{D:aj}{Qd:Hp->Prop}(Pv:Nat->Hp->Prop)(h0:Pv 0 (upd H1 D (.lst [])))(hl:∀i H,i<=xs.length->Pv i H->dS K H a xs)(hs:∀i x H,xs[i]? =ae x->Pv i H->g x (wipe σ vs) H λσ2 H2=>wipe σ2 vs=wipe σ vs/\tt σ2 H2 λb H3=>
   if b=true then te σ2 H3 λy H4=>∃acc,H4 D=ae (.lst acc)/\acc.length<aM/\Pv (i+1) (upd H4 D (.lst (acc++[y]))) else Pv (i+1) H3) (hd:∀H,Pv xs.length H->Qd H):
  ∃W:Nat->Nat->Hp->Prop,(∃m,W 0 m (upd H1 D (.lst [])))/\∀i m H,W i m H->((Itl K a).stop i H/\Qd H)\/((Itl K a).go i H/\∃Nx:Hp->Prop,(∀H',Nx H'->∃m',m'<m/\W (i+1) m' H')/\∀x H',(Itl K a).yld i H x H'->g x (wipe σ vs) H' λσ2 H2=>wipe σ2 vs=wipe σ vs/\tt σ2 H2 λb H3=>
    if b=true then te σ2 H3 λy H4=>∃acc,H4 D=ae (.lst acc)/\acc.length<aM/\Nx (upd H4 D (.lst (acc++[y]))) else Nx H3):=by
 refine⟨λi m H=>m=xs.length -i/\i<=xs.length/\Pv i H,⟨xs.length,by simp,cI _,h0⟩,?_⟩;rintro i m H ⟨rfl,hi,p⟩;have q:=hl i H hi p;by_cases Ak:i<xs.length;refine .inr ⟨⟨xs,xs[i],q,by simp[Ak]⟩,Pv (i+1),λH' p'=>⟨xs.length -(i+1),by omega,rfl,Ak,p'⟩,λx H' y=>?_⟩;obtain⟨e,y⟩:=y;subst e;exact hs i x _ (y xs q) p
 ·have e:i=xs.length:=by omega
  subst e;exact .inl ⟨⟨xs,q,aJ _⟩,hd H p⟩
def afy(N:List Str)(sc scope:m_)(own:List (Str×Nat)):Bool:=(match scope.kind with| .function=>true|_=>false)&&(scope.names.all λy=>decide (scope.names.lookup y.1=ae y.2))&&(own.all λp=>decide (N[p.2]? =ae p.1))&&(scope.names.all λy=>match y.2 with
   | .free=>(match sc.names.lookup y.1 with|some .cell=>true|some .free=>true|_=>false)
   | .local=>decide (y.1∈own.map (·.1))||decide (y.1∉N)
   | .cell=>decide (y.1∈own.map (·.1))||decide (y.1∉N)
   |_=>true)
theorem n_{N:List Str}{sc scope:m_}{own:List (Str×Nat)}(h:afy N sc scope own=true):Qk N sc scope own:=by
 unfold afy at h;simp only[aH,cz,decide_eq_true_eq] at h;obtain⟨⟨⟨h1,h2⟩,h3⟩,h4⟩:=h;refine⟨?_,h2,h3,λy hy e=>?_,λy hy e=>?_⟩
 ·split at h1;assumption;cases h1
 ·have q:=h4 y hy;simp only[e] at q;split at q<;>first|exact .inl (by assumption)|exact .inr (by assumption)|cases q
 ·have q:=h4 y hy;obtain e|e:=e<;>(simp only[e,Bool.or_eq_true,decide_eq_true_eq] at q;exact q)
end L2
namespace L2
open PySem PySem.Spec PyProof.Rows
section
variable{prog:bg}{w:cn}{A:Around}{R:Result->aE->Prop}{s:aE}{elt t0 i0 t1 i1:eJ}{anl anm:List eJ}{scope:m_}{pos:Pos}{it acc:ax}{env:Env}
end
section
variable{X:Cx}
end
end L2
namespace L2
open PySem PySem.Spec PyProof.Rows
section
variable{κ:Type}[DecidableEq κ]
def h8(kvs:List (κ×V))(k:κ):Option V:=(kvs.find? λkv=>decide (kv.1=k)).map (·.2)
def putK(kvs:List (κ×V))(k:κ)(v:V):List (κ×V):=if(kvs.any λkv=>decide (kv.1=k))=true then kvs.map (λkv=>if kv.1=k then(kv.1,v) else kv) else kvs++[(k,v)]
def IW(kvs:List (κ×V))(k:κ):List (κ×V):=kvs.filter λkv=>decide (kv.1≠k)
theorem mq{p:κ×V}{r:List (κ×V)}{k:κ}(e:p.1=k):h8 (p::r) k=ae p.2:=by simp[h8,gI,e]
theorem jX{p:κ×V}{r:List (κ×V)}{k:κ}(e:¬p.1=k):h8 (p::r) k=h8 r k:=by simp[h8,gI,e]
theorem yK(k:κ):∀kvs:List (κ×V),(kvs.any λkv=>decide (kv.1=k))=(h8 kvs k).isSome
 |[]=>rfl
 |p::r=>by
  rw[sX];by_cases e:p.1=k;simp only[mq e,decide_eq_true e,Bool.true_or,UH];rw[jX e,decide_eq_false e,Bool.false_or];exact yK k r
theorem Qo(k j:κ)(y:V):∀kvs:List (κ×V),h8 (kvs.map λkv=>if kv.1=k then(kv.1,y) else kv) j=(h8 kvs j).map λx=>if j=k then y else x
 |[]=>rfl
 |p::r=>by
  have ih:=Qo k j y r;rw[aU];by_cases h:p.1=k
  ·rw[bw h];by_cases e:p.1=j;rw[mq (p:=(p.1,y)) e,mq e,ye,bw (e.symm.trans h)];rw[jX (p:=(p.1,y)) e,jX e,ih]
  ·rw[aX h];by_cases e:p.1=j;rw[mq (p:=p) e,mq e,ye,aX (λz=>h (e.trans z))];rw[jX (p:=p) e,jX e,ih]
theorem MN(k j:κ)(y:V):∀kvs:List (κ×V),h8 kvs k=ay->h8 (kvs++[(k,y)]) j=if j=k then ae y else h8 kvs j
 |[],_=>by
  by_cases e:k=j;rw[bw e.symm];exact mq (p:=(k,y)) e;rw[aX (λz=>e z.symm)];exact jX (p:=(k,y)) e
 |p::r,hn=>by
  rw[sU];have hk:¬p.1=k:=λz=>by rw[mq z] at hn;cases hn
  rw[jX hk] at hn;have ih:=MN k j y r hn;by_cases e:p.1=j;rw[mq e,mq e,aX (λz=>hk (e.trans z))];rw[jX e,jX e,ih]
theorem C9(kvs:List (κ×V))(k j:κ)(y:V):h8 (putK kvs k y) j=if j=k then ae y else h8 kvs j:=by
 unfold putK;by_cases a:(kvs.any λkv=>decide (kv.1=k))=true
 ·rw[bw a,Qo];rw[yK] at a;by_cases e:j=k;obtain⟨x,hx⟩:=Mv.mp a;rw[bw e,e,hx,ye,bw rfl]
  ·rw[aX e];cases h8 kvs j with
   |none=>rfl
   |some x=>rw[ye,aX e]
 ·rw[aX a];refine MN k j y kvs ?_;rw[yK] at a;cases q:h8 kvs k with
  |none=>rfl
  |some x=>rw[q] at a;exact(a rfl).elim
theorem se(kvs:List (κ×V))(k:κ)(v:V):(putK kvs k v).length<=kvs.length+1:=by
 unfold putK;split;rw[ag];omega;rw[aK,aL,K_];omega
theorem Qp{kvs:List (κ×V)}{k:κ}(v:V)(h:h8 kvs k=ay):putK kvs k v=kvs++[(k,v)]:=by
 unfold putK;rw[yK,h];exact if_neg (by decide)
theorem wm.wx{o:Option V}{u:Option ax}(r:wm o u):o.isSome=u.isSome:=by
 cases o with
 |none=>cases u with
  |none=>rfl
  |some _=>exact(show False from r).elim
 |some _=>cases u with
  |none=>exact(show False from r).elim
  |some _=>rfl
theorem wm.getD{o:Option V}{u:Option ax}{d:V}{d':ax}(r:wm o u)(rd:RelV d d'):RelV (o.getD d) (u.getD d'):=by
 cases o with
 |none=>cases u with
  |none=>exact rd
  |some _=>exact(show False from r).elim
 |some _=>cases u with
  |none=>exact(show False from r).elim
  |some _=>exact r
theorem KV.val{kvs:List (κ×V)}{vs:List (κ×ax)}(r:KV kvs vs)(k:κ):wm (h8 kvs k) (valueAt vs k):=by
 unfold KV at r;induction r with
 |nil=>exact sT
 | @cons p q ps qs h t ih=>
  obtain⟨h1,h2⟩:=h;by_cases e:p.1=k
  ·have e':q.1=k:=h1.symm.trans e;have b:valueAt (q::qs) k=ae q.2:=by simp[valueAt,gI,e']
   rw[mq e,b];exact h2
  ·have e':¬q.1=k:=λz=>e (h1.trans z);have b:valueAt (q::qs) k=valueAt qs k:=by simp[valueAt,gI,e']
   rw[jX e,b];exact ih
theorem KV.any{kvs:List (κ×V)}{vs:List (κ×ax)}(r:KV kvs vs)(k:κ):(kvs.any λkv=>decide (kv.1=k))=vs.any λkv=>decide (kv.1=k):=by
 unfold KV at r;induction r with
 |nil=>rfl
 |cons h t ih=>rw[sX,sX,ih,h.1]
theorem KV.repl{kvs:List (κ×V)}{vs:List (κ×ax)}(r:KV kvs vs)(k:κ){y:V}{u:ax}(ry:RelV y u):KV (kvs.map λkv=>if kv.1=k then(kv.1,y) else kv) (vs.map λkv=>if kv.1=k then(kv.1,u) else kv):=by
 unfold KV at r⊢;induction r with
 |nil=>exact .nil
 | @cons p q ps qs h t ih=>
  rw[aU,aU];refine .cons ?_ ih;obtain⟨h1,h2⟩:=h;by_cases e:p.1=k;rw[bw e,bw (h1.symm.trans e)];exact⟨h1,ry⟩;rw[aX e,aX (λz=>e (h1.trans z))];exact⟨h1,h2⟩
theorem KV.put{kvs:List (κ×V)}{vs:List (κ×ax)}(r:KV kvs vs)(k:κ){y:V}{u:ax}(ry:RelV y u):KV (putK kvs k y) (stored vs k u):=by
 unfold putK stored;rw[r.any k];by_cases e:(vs.any λkv=>decide (kv.1=k))=true;rw[if_pos e,if_pos e];exact r.repl k ry;rw[if_neg e,if_neg e];exact Paired.snoc r ⟨rfl,ry⟩
theorem KV.drop{kvs:List (κ×V)}{vs:List (κ×ax)}(r:KV kvs vs)(k:κ):KV (IW kvs k) (without vs k):=by
 unfold KV at r⊢;unfold IW without;induction r with
 |nil=>exact .nil
 | @cons p q ps qs h t ih=>
  obtain⟨h1,h2⟩:=h;rw[b9,b9];by_cases e:p.1=k
  ·have a:¬decide (p.1≠k)=true:=by simp[e]
   have b:¬decide (q.1≠k)=true:=by simp[h1.symm.trans e]
   rw[aX a,aX b];exact ih
  ·have e':¬q.1=k:=λz=>e (h1.trans z);have a:decide (p.1≠k)=true:=by simp[e]
   have b:decide (q.1≠k)=true:=by simp[e']
   rw[bw a,bw b];exact .cons ⟨h1,h2⟩ ih
theorem KV.keys{kvs:List (κ×V)}{vs:List (κ×ax)}(r:KV kvs vs):kvs.map (·.1)=vs.map (·.1):=by
 unfold KV at r;induction r with
 |nil=>rfl
 |cons h t ih=>rw[aU,aU,ih,h.1]
theorem KV.length{kvs:List (κ×V)}{vs:List (κ×ax)}(r:KV kvs vs):kvs.length=vs.length:=gj r
theorem YN(kvs:List (κ×V))(k:κ):(IW kvs k).length<=kvs.length:=bf _ _
end
theorem FV{P:bg}{w:cn}{k:Key}{u:ax}(r:RelV (kV k) u):(fK P w).is k u=true:=by
 cases k with
 |inl i=>obtain⟨t,e⟩:=(show∃t,u=rT i t from r);subst e;exact P0 P w i t
 |inr x=>obtain⟨t,e⟩:=(show∃t,u=Gw x t from r);subst e;exact P1 P w x t
theorem MP{P:bg}{w:cn}:∀{ks:List Key} {us:List ax},fj (ks.map kV) us->ItemsAre (fK P w) ks us
 |[],_,r=>by rw[FL] at r;cases r;exact .nil
 |k::ks,_,r=>by
  rw[aU] at r;cases r with
  |cons h t=>exact .cons (FV h) (MP t)
abbrev KT(H:Hp):List (List Key×V)->List (List Key×aj×ax)->Prop:=B7 λp q=>p.1=q.1/\H q.2.1=ae (.tup (p.1.map kV))/\RelV p.2 q.2.2
theorem KT.val{H:Hp}{kvs:List (List Key×V)}{xs:List (List Key×aj×ax)}(r:KT H kvs xs)(k:List Key):wm (h8 kvs k) ((atKey xs k).map (·.2)):=by
 induction r with
 |nil=>exact sT
 | @cons p q ps qs h t ih=>
  obtain⟨h1,_,h2⟩:=h;by_cases e:p.1=k
  ·have e':q.1=k:=h1.symm.trans e;have b:atKey (q::qs) k=ae q.2:=by simp[atKey,gI,e']
   rw[mq e,b];exact h2
  ·have e':¬q.1=k:=λz=>e (h1.trans z);have b:atKey (q::qs) k=atKey qs k:=by simp[atKey,gI,e']
   rw[jX e,b];exact ih
theorem KT.repl{H:Hp}{kvs:List (List Key×V)}{xs:List (List Key×aj×ax)}(r:KT H kvs xs)(k:List Key){y:V}{u:ax}(ry:RelV y u):KT H (kvs.map λkv=>if kv.1=k then(kv.1,y) else kv) (xs.map (putAt k u)):=by
 induction r with
 |nil=>exact .nil
 | @cons p q ps qs h t ih=>
  rw[aU,aU];refine .cons ?_ ih;obtain⟨h1,h2,h3⟩:=h;unfold putAt;by_cases e:p.1=k;rw[if_pos e,if_pos (h1.symm.trans e)];exact⟨h1,h2,ry⟩;rw[if_neg e,if_neg (λz=>e (h1.trans z))];exact⟨h1,h2,h3⟩
theorem KT.put{H:Hp}{kvs:List (List Key×V)}{xs:List (List Key×aj×ax)}(r:KT H kvs xs)(k:List Key){b:aj}{y:V}{u:ax}(hb:H b=ae (.tup (k.map kV)))(ry:RelV y u):KT H (putK kvs k y) (storedH xs k b u):=by
 have e:(kvs.any λkv=>decide (kv.1=k))=(atKey xs k).isSome:=by
  rw[yK,(r.val k).wx,bZ]
 unfold putK storedH;rw[e];by_cases q:(atKey xs k).isSome=true;rw[if_pos q,if_pos q];exact r.repl k ry;rw[if_neg q,if_neg q];exact Paired.snoc r ⟨rfl,hb,ry⟩
theorem KT.keeps{H H':Hp}{kvs:List (List Key×V)}{xs:List (List Key×aj×ax)}(r:KT H kvs xs)(ht:∀b ys,H b=ae (.tup ys)->H' b=ae (.tup ys)):KT H' kvs xs:=B7.adn r λ_ _ z=>⟨z.1,ht _ _ z.2.1,z.2.2⟩
section
variable{P:bg}{w:cn}{H:Hp}{h:df}{a:aj}
theorem acH{u:HO}(ok:xl P w H h)(e:Rd H a u):jv P w H h a u:=e.ok ok
theorem Bo{kvs:List (Key×V)}(ok:xl P w H h)(e:Rd H a (.dK kvs)):kvs.length<=aM/\(a==d7)=false/\∃vs,KV kvs vs/\h.DictOf (fK P w) a vs:=show jv P w H h a (.dK kvs) from acH ok e
theorem acI{kvs:List (Key×V)}(ok:xl P w H h)(e:H a=ae (.dK kvs)):kvs.length<=aM/\(a==d7)=false/\∃vs,KV kvs vs/\h.DictOf (fK P w) a vs:=Bo ok (.inl e)
theorem EY{ks:List Key}(ok:xl P w H h)(e:H a=ae (.tup (ks.map kV))):(tupleKind (fK P w)).is h ks a:=by
 obtain⟨_,its,r,o,h1,h2,n,h3⟩:=(show jv P w H h a (.tup (ks.map kV)) from ok a _ e);exact⟨o,its.toArray,n,h1,h2,h3,by simpa using MP r⟩
theorem MQ{kvs:List (List Key×V)}(ok:xl P w H h)(e:Rd H a (.dT kvs)):kvs.length<=aM/\(a==d7)=false/\∃xs,KT H kvs xs/\h.DictOfH (tupleKind (fK P w)) a xs:=by
 obtain⟨z,y,xs,r,o,es,ep,h1,h2,h3,h4,h5⟩:=(show jv P w H h a (.dT kvs) from acH ok e);refine⟨z,y,xs,r,o,es,ep,h1,h2,h3,h4,λx hx=>?_,h5⟩;have all:∀{l:List (List Key×V)} {m:List (List Key×aj×ax)},KT H l m->∀x∈m,(tupleKind (fK P w)).is h x.1 x.2.1:=by
  intro l m q;induction q with
  |nil=>intro x hx;exact nomatch hx
  | @cons p q ps qs hq t ih=>
   intro x hx;obtain e|hx:=aF.mp hx
   subst e;exact EY ok (by rw[<-hq.1];exact hq.2.1);exact ih x hx
 exact all r x hx
theorem U4{kvs:List (List Key×V)}(ok:xl P w H h)(e:H a=ae (.dT kvs)):kvs.length<=aM/\(a==d7)=false/\∃xs,KT H kvs xs/\h.DictOfH (tupleKind (fK P w)) a xs:=MQ ok (.inl e)
end
def rD(H:Hp)(a:aj)(y:V)(r:Option V):Prop:=(∃kvs k,Rd H a (.dK kvs)/\y=kV k/\r=h8 kvs k)\/∃kvs k b,Rd H a (.dT kvs)/\y= .ref b/\H b=ae (.tup (k.map kV))/\r=h8 kvs k
def IX(H:Hp)(a:aj)(y v:V)(H':Hp):Prop:=(∃kvs k,H a=ae (.dK kvs)/\y=kV k/\kvs.length<aM/\H'=upd H a (.dK (putK kvs k v)))\/∃kvs k b,H a=ae (.dT kvs)/\y= .ref b/\H b=ae (.tup (k.map kV))/\kvs.length<aM/\H'=upd H a (.dT (putK kvs k v))
theorem IX.k{H:Hp}{a:aj}{kvs:List (Key×V)}{k:Key}{v:V}(e:H a=ae (.dK kvs))(hl:kvs.length<aM):IX H a (kV k) v (upd H a (.dK (putK kvs k v))):= .inl ⟨kvs,k,e,rfl,hl,rfl⟩
section
variable{X:Cx}{pins:List (aj×Obj)}{σ:St}{H:Hp}{s:aE}{a:aj}{y v:V}{u r:ax}{o:Option V}{A:Around}{E:ax->aE->Prop}
theorem Inv.big(I:Inv X pins σ H s):d7<s.heap.objs.size:=by
 have h:l_<s.heap.objs.size:=(I.mod.glob.keeps I.bk).lt;exact GA (by decide) h
theorem Wo{Q:ax->aE->Prop}(hu:A.units+1<cLine)(I:Inv X pins σ H s)(g:rD H a y (ae v))(ry:RelV y u)(h:∀w' s',Inv X pins σ H s'->RelV v w'->Q w' s'):bR (cG X.prog X.w) A (getItem (.ref a) u) Q E s:=by
 obtain⟨kvs,k,e,ey,l⟩|⟨kvs,k,b,e,ey,eb,l⟩:=g
 subst ey;obtain⟨z,hd,vs,rel,dd⟩:=Bo I.gB e;obtain⟨w',hw,Tv⟩:=wm.some_of (v:=v) (o:=valueAt vs k) (by rw[l];exact rel.val k);exact wpAny_getItem_of (FV ry) dd.mapOf hw (h w' _ (I.tok _) Tv);subst ey;cases (show u=de b from ry);obtain⟨z,hd,xs,rel,dd⟩:=MQ I.gB e;obtain⟨w',hw,Tv⟩:=wm.some_of (v:=v) (o:=(atKey xs k).map (·.2)) (by rw[l];exact rel.val k);obtain⟨p,hp,hp2⟩:=Option.map_eq_some_iff.mp hw;refine wpAny_getItem_heap (rq hu) (EY I.gB eb) dd hp ?_;rw[hp2];exact h w' _ (I.tok _) Tv
theorem aiJ{Q:ax->aE->Prop}(hu:A.units+1<cLine)(I:Inv X pins σ H s)(g:rD H a y o)(ry:RelV y u)(h:∀s',Inv X pins σ H s'->Q (.bool o.isSome) s'):bR (cG X.prog X.w) A (compareOp .In u (.ref a)) Q E s:=by
 obtain⟨kvs,k,e,ey,l⟩|⟨kvs,k,b,e,ey,eb,l⟩:=g
 subst ey;obtain⟨z,hd,vs,rel,dd⟩:=Bo I.gB e;refine wpAny_in_of (FV ry) hd dd.mapOf ?_;rw[<-(rel.val k).wx,<-l];exact h _ (I.tok _);subst ey;cases (show u=de b from ry);obtain⟨z,hd,xs,rel,dd⟩:=MQ I.gB e;refine wpAny_in_heap (rq hu) (EY I.gB eb) hd dd ?_;have q:=(rel.val k).wx;rw[bZ] at q;rw[<-q,<-l];exact h _ (I.tok _)
theorem abp{Q:ax->aE->Prop}(hu:A.units+1<cLine)(I:Inv X pins σ H s)(g:rD H a y o)(ry:RelV y u)(h:∀s',Inv X pins σ H s'->Q (.bool (!o.isSome)) s'):bR (cG X.prog X.w) A (compareOp .NotIn u (.ref a)) Q E s:=by
 obtain⟨kvs,k,e,ey,l⟩|⟨kvs,k,b,e,ey,eb,l⟩:=g
 subst ey;obtain⟨z,hd,vs,rel,dd⟩:=Bo I.gB e;refine wpAny_notIn_of (FV ry) hd dd.mapOf ?_;rw[<-(rel.val k).wx,<-l];exact h _ (I.tok _);subst ey;cases (show u=de b from ry);obtain⟨z,hd,xs,rel,dd⟩:=MQ I.gB e;refine wpAny_notIn_heap (rq hu) (EY I.gB eb) hd dd ?_;have q:=(rel.val k).wx;rw[bZ] at q;rw[<-q,<-l];exact h _ (I.tok _)
theorem Ia{h':df}{t':Nat}{ob:HO}(I:Inv X pins σ H s)(mu:Mut (H a))(hs:nU a s.heap h')(he:∃q,h'.get? a=ae q)(new:jv X.prog X.w (upd H a ob) h' a ob):Inv X pins σ (upd H a ob) {s with heap:=h',toks:=t'}:=I.write (x:=a) (e:=a) mu (.inl rfl) (λb q hb z=>(hs.2 b hb).trans z) he new
theorem YQ{P:bg}{w:cn}{H':Hp}{h':df}{kvs:List (Key×V)}{vs:List (Key×ax)}(z:kvs.length<=aM)(hd:(a==d7)=false)(rel:KV kvs vs)(dd:h'.DictOf (fK P w) a vs):jv P w H' h' a (.dK kvs):=⟨z,hd,vs,rel,dd⟩
theorem Wp{H':Hp}{Q:Unit->aE->Prop}(hu:A.units+1<cLine)(I:Inv X pins σ H s)(g:IX H a y v H')(ry:RelV y u)(rv:RelV v r)(h:∀s',Inv X pins σ H' s'->Q () s'):bR (cG X.prog X.w) A (setItem (.ref a) u r) Q E s:=by
 obtain⟨kvs,k,e,ey,l,eH⟩|⟨kvs,k,b,e,ey,eb,l,eH⟩:=g
 ·subst ey eH;obtain⟨z,hd,vs,rel,dd⟩:=acI I.gB e;have hz:vs.length<=aM:=by rw[<-rel.length];exact z
  have hl:(putK kvs k v).length<=aM:=by have:=se kvs k v;omega
  refine wpAny_setItem_pairs (hsz:=hz) (FV ry) dd λh' dd' hs=>h _ ?_;have he:∃q,h'.get? a=ae q:=let ⟨q,_,_,hq,_⟩:=dd';⟨q,hq⟩;exact Ia I (by rw[e];exact sT) hs he (YQ hl hd (rel.put k rv) dd')
 ·subst ey eH;cases (show u=de b from ry);obtain⟨z,hd,xs,rel,dd⟩:=U4 I.gB e;have hz:xs.length<=aM:=by rw[<-gj rel];exact z
  have hl:(putK kvs k v).length<=aM:=by have:=se kvs k v;omega
  refine wpAny_setItem_heap (hsz:=hz) (rq hu) (EY I.gB eb) dd λh' dd' hs=>h _ ?_;obtain⟨q,es,ep,hq,h2,h3,h4,_,h5⟩:=dd';refine Ia I (by rw[e];exact sT) hs ⟨q,hq⟩ ⟨hl,hd,_,(rel.put k eb rv).keeps λc ys ec=>?_,q,es,ep,hq,h2,h3,h4,h5⟩;rw[cZ (gg ec e (λz=>nomatch z))];exact ec
end
section
variable{X:Cx}{pins:List (aj×Obj)}{σ:St}{H:Hp}{s:aE}{a:aj}{kvs:List (Key×V)}{k:Key}{u:ax}{A:Around}{E:ax->aE->Prop}
theorem afz{v:V}{more:List ax}{Q:ax->aE->Prop}(I:Inv X pins σ H s)(e:H a=ae (.dK kvs))(ry:RelV (kV k) u)(l:h8 kvs k=ae v)(hm:more=[]\/∃x,more=[x])(h:∀w' s',Inv X pins σ (upd H a (.dK (IW kvs k))) s'->RelV v w'->Q w' s'):bR (cG X.prog X.w) A (call (.builtin "dict.pop") (.ref a::u::more)) Q E s:=by
 obtain⟨z,hd,vs,rel,dd⟩:=acI I.gB e;obtain⟨w',hw,Tv⟩:=wm.some_of (v:=v) (o:=valueAt vs k) (by rw[<-l];exact rel.val k);have hp:(keyPart u).isSome=true:=by
  cases k with
  |inl i=>obtain⟨t,q⟩:=(show∃t,u=rT i t from ry);subst q;rfl
  |inr x=>obtain⟨t,q⟩:=(show∃t,u=Gw x t from ry);subst q;rfl
 have ha:argsOk "dict.pop" ⟨.ref a::u::more,[]⟩:=by
  obtain q|⟨x,q⟩:=hm
  subst q;exact PySem.F.args_dict_pop_2 _ _;subst q;exact PySem.F.args_dict_pop_3 _ _ _
 refine Lj Pz dd.typeIs PySem.F.entry_dict_pop ha (meets_dict_pop_there (fK X.prog X.w) a (FV ry) more hm hp) ⟨vs,w',dd,by rw[<-rel.length];exact z,hw,λh' dd' hs=>h w' _ ?_ Tv⟩;have he:∃q,h'.get? a=ae q:=let ⟨q,_,_,hq,_⟩:=dd';⟨q,hq⟩;exact Ia I (by rw[e];exact sT) hs he (YQ (bX (YN kvs k) z) hd (rel.drop k) dd')
theorem afA{Q:ax->aE->Prop}(I:Inv X pins σ H s)(e:Rd H a (.dK kvs))(h:∀t s',Inv X pins σ H s'->Q (.int kvs.length t) s'):bR (cG X.prog X.w) A (call (.builtin "len") [.ref a]) Q E s:=by
 obtain⟨z,hd,vs,rel,dd⟩:=Bo I.gB e;refine call_len_dict hd dd (by rw[<-rel.length];rw[Pw] at z;omega) ?_;rw[<-rel.length];exact h _ _ (I.tok _)
end
def adE(i:eJ):Prop:=∀ov iv,subscripted i false ov iv=operate [ov,iv] (getItem ov iv)
theorem U5{prog:bg}{w:cn}{A:Around}{E:ax->aE->Prop}{s:aE}{env:Env}{value slice:eJ}{pos:Pos}{T id:String}{Q:ax->aE->Prop}(hl:typeLookup (.type T) "__getitem__"=pure (ae (.builtin id)))(hs:adE slice)(h:bR (cG prog w) A (eval value env) (λo s₁=>bR (cG prog w) A (eval slice env) (λi s₂=>s₂.TypeIs o T/\bR (cG prog w) A (getItem o i) Q E s₂) E s₁) E s):bR (cG prog w) A (eval (.Subscript value slice pos) env) Q E s:=by
 refine SX (iG h (λo s₁ h₁=>iG h₁ (λi s₂ h₂=>?_) λ_ _ x=>x) λ_ _ x=>x);obtain⟨hT,h₂⟩:=h₂;unfold subscriptTail;refine ak ?_;rw[getitemInPython_of_ne hT.not_modules];refine ak (wpAny_specialOf hT hl ?_);have fin:bR (cG prog w) A (subscripted slice false o i) (λr s₃=>bR (cG prog w) A (letTemporaryGo value o r>>=λ_=>pure r) Q E s₃) E s₂:=by
  rw[hs o i];exact wpAny_operating (iG h₂ (λr s₃ h₃=>ak (wpAny_letTemporaryGo (aS h₃))) λ_ _ x=>x)
 first
  |exact aS (ak fin)
  |exact ak (aS (ak fin))
  |exact ak fin
theorem Qq{X:Cx}{pins:List (aj×Obj)}{σ:St}{H:Hp}{s:aE}{a:aj}{y:V}{o:Option V}(I:Inv X pins σ H s)(g:rD H a y o):s.TypeIs (.ref a) "dict":=by
 obtain⟨kvs,k,e,_,_⟩|⟨kvs,k,b,e,_,_,_⟩:=g
 obtain⟨_,_,vs,_,dd⟩:=Bo I.gB e;exact dd.typeIs;obtain⟨_,_,xs,_,dd⟩:=MQ I.gB e;exact dd.typeIs
def afB(td ty:TE):TE:=λσ H Q=>td σ H λx H1=>ty σ H1 λy H2=>∃a v,x= .ref a/\rD H2 a y (ae v)/\Q v H2
def aiK(ty td:TE):TE:=λσ H Q=>ty σ H λy H1=>td σ H1 λx H2=>∃a o,x= .ref a/\rD H2 a y o/\Q (.bl o.isSome) H2
def abr(ty td:TE):TE:=λσ H Q=>ty σ H λy H1=>td σ H1 λx H2=>∃a o,x= .ref a/\rD H2 a y o/\Q (.bl (!o.isSome)) H2
def afC(td ty tv:TE):TS:=λD σ H=>tv σ H λv H1=>td σ H1 λx H2=>ty σ H2 λy H3=>∃a H4,x= .ref a/\IX H3 a y v H4/\D.nx σ H4
section
variable{X:Cx}{o i e value:eJ}{pos pos' Lr:Pos}{td ty tv:TE}
theorem fq(hu:X.A.units+1<cLine)(ho:PE X o td)(hi:PE X i ty)(hs:adE i):PE X (.Subscript o i pos) (afB td ty):=by
 intro pins s σ H Q I h;refine U5 K'.lookup hs (iU (ho pins s σ H _ I h) λu s1 ⟨x,H1,I1,rx,q1⟩=>iU (hi pins s1 σ H1 _ I1 q1) λiv s2 ⟨y,H2,I2,ry,a,v,ex,g,q2⟩=>?_);subst ex;obtain rfl:u=de a:=rx;exact⟨Qq I2 g,Wo hu I2 g ry λw' s3 I3 Tv=>⟨v,H2,I3,Tv,q2⟩⟩
theorem IY(hu:X.A.units+1<cLine)(hi:PE X i ty)(ho:PE X o td):PC X .In i o (aiK ty td):=by
 intro pins s σ H Q I h;refine iU (hi pins s σ H _ I h) λiv s1 ⟨y,H1,I1,ry,q1⟩=>iU (ho pins s1 σ H1 _ I1 q1) λu s2 ⟨x,H2,I2,rx,a,ov,ex,g,q2⟩=>?_;subst ex;obtain rfl:u=de a:=rx;exact aiJ hu I2 g ry λs3 I3=>⟨.bl ov.isSome,H2,I3,rfl,q2⟩
theorem gC(hu:X.A.units+1<cLine)(hi:PE X i ty)(ho:PE X o td):PC X .NotIn i o (abr ty td):=by
 intro pins s σ H Q I h;refine iU (hi pins s σ H _ I h) λiv s1 ⟨y,H1,I1,ry,q1⟩=>iU (ho pins s1 σ H1 _ I1 q1) λu s2 ⟨x,H2,I2,rx,a,ov,ex,g,q2⟩=>?_;subst ex;obtain rfl:u=de a:=rx;exact abp hu I2 g ry λs3 I3=>⟨.bl (!ov.isSome),H2,I3,rfl,q2⟩
theorem An(hu:X.A.units+1<cLine)(ho:PE X o td)(hi:PE X i ty)(hv:PE X value tv)(hs:swapsWith value (ae (.Subscript o i pos')) pos.line X.env=pure false):PS X (.Assign [.Subscript o i pos'] value pos) (afC td ty tv):=by
 intro pins s σ H D I h;refine wpAny_Assign_Subscript (iU (hv pins s σ H _ I h) λr s1 ⟨v,H1,I1,rv,q1⟩=>iU (ho pins s1 σ H1 _ I1 q1) λu s2 ⟨x,H2,I2,rx,q2⟩=>iU (hi pins s2 σ H2 _ I2 q2) λiv s3 ⟨y,H3,I3,ry,a,H4,ex,g,q3⟩=>?_) hs;subst ex;obtain rfl:u=de a:=rx;exact Wp hu I3 g ry rv λs4 I4=>⟨σ,H4,I4,q3⟩
end
theorem YR{P:bg}{w:cn}{H:Hp}(h:df)(hb:d7<h.objs.size):jv P w H (h.push {cls:= .type "dict",data:= .dict #[]}) h.objs.size (.dK []):=⟨cI _,beq_eq_false_iff_ne.mpr (gA (dR hb)),[],.nil,Heap.DictOf.new h⟩
theorem YS{P:bg}{w:cn}{H:Hp}(h:df)(hb:d7<h.objs.size):jv P w H (h.push {cls:= .type "dict",data:= .dict #[]}) h.objs.size (.dT []):=⟨cI _,beq_eq_false_iff_ne.mpr (gA (dR hb)),[],.nil,_,#[],0,bA _ rfl,⟨rfl,rfl,rfl⟩,rfl,rfl,List.nodup_nil⟩
def adF:TE:=λ_ H Q=>∀p,H p=ay->Q (.ref p) (upd H p (.dK []))
def adH:TE:=λ_ H Q=>∀p,H p=ay->Q (.ref p) (upd H p (.dT []))
section
variable{X:Cx}{pos:Pos}
theorem yL:PE X (.Dict [] [] pos) adF:=λpins s σ H Q I h=>
 wpAny_Dict_empty ⟨.ref s.heap.objs.size,_,I.laid (a:=s.heap.objs.size) (o:= .dK []) (t':=s.toks) (λ_ _ q=>aG _ q) (aJ _) (YR s.heap I.big),rfl,h _ (I.gB.fresh (aJ _))⟩
theorem YT:PE X (.Dict [] [] pos) adH:=λpins s σ H Q I h=>
 wpAny_Dict_empty ⟨.ref s.heap.objs.size,_,I.laid (a:=s.heap.objs.size) (o:= .dT []) (t':=s.toks) (λ_ _ q=>aG _ q) (aJ _) (YS s.heap I.big),rfl,h _ (I.gB.fresh (aJ _))⟩
end
structure M1(X:Cx)(o:eJ)(m:Str)(apos:Pos)(e:eJ)(kD:Pos):Prop where
 base:attributeBase o m X.env (eval o X.env)=eval o X.env
 few:((backTo kD (starEach [e] X.env)).all (λx=> !x.1)&&(backToKw kD (keywordEach [] X.env)).all (λx=>x.1.isSome)&&decide (([e]:List eJ).length+([]:List B9).length+(if([]:List B9).isEmpty then 0 else 1)<30))=true
 line:(apos.endLine==kD.line)=true
 trees:backTo kD (starEach [e] X.env)=[(false,eval e X.env)]
structure M2(X:Cx)(o:eJ)(m:Str)(apos:Pos)(e f:eJ)(kD:Pos):Prop where
 base:attributeBase o m X.env (eval o X.env)=eval o X.env
 few:((backTo kD (starEach [e,f] X.env)).all (λx=> !x.1)&&(backToKw kD (keywordEach [] X.env)).all (λx=>x.1.isSome)&&decide (([e,f]:List eJ).length+([]:List B9).length+(if([]:List B9).isEmpty then 0 else 1)<30))=true
 line:(apos.endLine==kD.line)=true
 trees:backTo kD (starEach [e,f] X.env)=[(false,eval e X.env),(false,eval f X.env)]
def IsD(H:Hp)(a:aj):Prop:=(∃kvs,Rd H a (.dK kvs))\/∃kvs,Rd H a (.dT kvs)
theorem adI{X:Cx}{pins:List (aj×Obj)}{σ:St}{H:Hp}{s:aE}{a:aj}(I:Inv X pins σ H s)(d:IsD H a):s.TypeIs (.ref a) "dict"/\(∀b,de a= .ref b->∃ob,s.heap.get? b=ae ob/\ob.dict=ay)/\(a==d7)=false:=by
 obtain⟨kvs,e⟩|⟨kvs,e⟩:=d
 obtain⟨_,hd,vs,_,dd⟩:=Bo I.gB e;refine⟨dd.typeIs,λb q=>?_,hd⟩;cases q;obtain⟨ob,_,_,h1,h2,_⟩:=dd;exact⟨ob,h1,h2.2.1⟩;obtain⟨_,hd,xs,_,dd⟩:=MQ I.gB e;refine⟨dd.typeIs,λb q=>?_,hd⟩;cases q;obtain⟨ob,_,_,h1,h2,_⟩:=dd;exact⟨ob,h1,h2.2.1⟩
section
variable{X:Cx}{pins:List (aj×Obj)}{σ:St}{H:Hp}{s:aE}{a:aj}{y d:V}{u r:ax}{o:Option V}{A:Around}{E:ax->aE->Prop}
end
def adJ(td ty:TE):TE:=λσ H Q=>td σ H λx H1=>∃a,x= .ref a/\IsD H1 a/\ty σ H1 λy H2=>∃kvs k v,H2 a=ae (.dK kvs)/\y=kV k/\h8 kvs k=ae v/\Q v (upd H2 a (.dK (IW kvs k)))
section
variable{X:Cx}{o e f:eJ}{apos kD:Pos}{td ty tx:TE}
theorem ue(ho:PE X o td)(he:PE X e ty)(m:M1 X o "pop" apos e kD):PE X (.Call (.Attribute o "pop" apos) [e] [] kD) (adJ td ty):=by
 intro pins s σ H Q I h;refine nW m.base m.few m.line jL Pz PySem.F.type_dict_pop (iU (ho pins s σ H _ I h) λu s1 ⟨x,H1,I1,rx,a,ex,d,q1⟩=>?_);subst ex;obtain rfl:u=de a:=rx;obtain⟨t1,t2,_⟩:=adI I1 d;refine⟨t1,t2,?_⟩;rw[m.trees];refine kU rfl (nj (ji (iU (he pins s1 σ H1 _ I1 q1) λiv s2 ⟨y,H2,I2,ry,kvs,k,v,ea,ey,l,q2⟩=>qW ?_)));subst ey;exact afz I2 ea ry l (.inl rfl) λw' s3 I3 Tv=>⟨v,_,I3,Tv,q2⟩
end
section
variable{X:Cx}{pins:List (aj×Obj)}{σ:St}{H:Hp}{s:aE}{a:aj}{kvs:List (Key×V)}{A:Around}{E:ax->aE->Prop}
end
section
variable{X:Cx}{pins:List (aj×Obj)}{σ:St}{H:Hp}{s:aE}{a:aj}{y:V}{u:ax}{A:Around}{E:ax->aE->Prop}
end
end L2
namespace L2
open PySem PySem.Spec PyProof.Rows
section
variable{prog:bg}{w:cn}{A:Around}{E:ax->aE->Prop}
end
section
variable{X:Cx}
end
end L2
namespace L2
open PySem PySem.Spec PyProof.Rows
section
variable{X:Cx}{pins:List (aj×Obj)}{σ:St}{H:Hp}{s:aE}{h':df}
theorem Inv.abt{t':Nat}{ch:List aj}(I:Inv X pins σ H s)(k:∀b o,b∉ch->s.heap.get? b=ae o->h'.get? b=ae o)(hf:∀b∈ch,GL X pins H b):Inv X pins σ H {s with heap:=h',toks:=t'}:=by
 have nit:∀b u,H b=ae u->b∉ch:=λb u e z=>by
  have q:=(hf b z).1;rw[q] at e;cases e
 refine I.step (g':=s.gens) (d':=s.drawn) (ch:=ch) (λb hb=>⟨(hf b hb).2.2.2.1,(hf b hb).2.1,(hf b hb).2.2.2.2.1,(hf b hb).2.2.2.2.2⟩) (λb o _ _ hc e _=>k b o hc e) (λb o _ _ hc e _=>⟨o.slots,k b o hc e⟩) (λ_ _ _ _ n=>n) (λb o hc e=>⟨o,k b o hc e⟩) (λ_ _ e=>e) (λ_ _ _ e=>e) (λb ps e=>⟨#[],by rw[e];simp⟩) (λm hm=>?_) (λb u e=>?_) I.bare;obtain⟨o,es,ep,ho,r⟩:=hm;exact⟨o,es,ep,k _ o (λz=>(hf _ z).2.1 rfl) ho,r⟩
 ·refine(I.gB b u e).yi (λc v hc q=>k c v ?_ q) (λ_ q=>q) λ_ _ q=>q;obtain z|z:=hc
  rw[z];exact nit b u e;exact nit c _ z
theorem Inv.MR{t':Nat}{ch:List aj}{T:aj}{ob:HO}(I:Inv X pins σ H s)(k:∀b o,b∉ch->s.heap.get? b=ae o->h'.get? b=ae o)(hf:∀b∈ch,GL X pins H b)(hT:s.heap.objs.size<=T)(new:jv X.prog X.w (upd H T ob) h' T ob):Inv X pins σ (upd H T ob) {s with heap:=h',toks:=t'}:=by
 have hn:H T=ay:=I.gB.fresh hT;have nit:∀b u,H b=ae u->b∉ch:=λb u e z=>by
  have q:=(hf b z).1;rw[q] at e;cases e
 refine I.step (g':=s.gens) (d':=s.drawn) (ch:=ch) (λb hb=>⟨(hf b hb).2.2.2.1,(hf b hb).2.1,(hf b hb).2.2.2.2.1,(hf b hb).2.2.2.2.2⟩) (λb o _ _ hc e _=>k b o hc e) (λb o _ _ hc e _=>⟨o.slots,k b o hc e⟩) (λb o _ e n=>?_) (λb o hc e=>⟨o,k b o hc e⟩) (λb xs e=>?_) (λb o u e=>?_) (λb ps e=>⟨#[],?_⟩) (λm hm=>?_) (λb u e=>?_) I.bare;rw[cZ (dR (cS (bN e) hT))];exact n;rw[cZ (aI e hn)];exact e;rw[cZ (aI e hn)];exact e;rw[cZ (aI e hn),e];simp;obtain⟨o,es,ep,ho,r⟩:=hm;exact⟨o,es,ep,k _ o (λz=>(hf _ z).2.1 rfl) ho,r⟩
 ·by_cases hb:b=T;subst hb;rw[aq] at e;cases e;exact new
  ·rw[cZ hb] at e;refine(I.gB b u e).yi (λc v hc q=>k c v ?_ q) (λc q=>by rw[cZ (aI q hn)];exact q) λc xs q=>by rw[cZ (aI q hn)];exact q
   obtain z|z:=hc
   rw[z];exact nit b u e;exact nit c _ z
theorem Inv.lock{d:aj}{u:HO}(I:Inv X pins σ H s)(h:H d=ae u)(mu:Mut (ae u)):∃od,Inv X pins σ (upd H d (.jq od u)) s:=by
 have x:=I.gB d u h;have ex:∃od,s.heap.get? d=ae od:=by
  cases u with
  |lst xs=>obtain⟨_,_,_,_,e⟩:=x;exact⟨_,e⟩
  |dK kvs=>obtain⟨_,_,_,_,o,_,_,e,_⟩:=x;exact⟨o,e⟩
  |dT kvs=>obtain⟨_,_,_,_,o,_,_,e,_⟩:=x;exact⟨o,e⟩
  |set S n=>obtain⟨o,_,_,_,e,_⟩:=x;exact⟨o,e⟩
  |ins C dx fs=>obtain⟨_,_,_,e,_⟩:=x;exact⟨_,e⟩
  |ext φ=>obtain⟨_,⟨_,e⟩,_⟩:=x;exact⟨_,e⟩
  |_=>exact gk mu
 obtain⟨od,e⟩:=ex;have new:jv X.prog X.w (upd H d (.jq od u)) s.heap d (.jq od u):=by
  refine⟨e,x.yi (λb v _ q=>q) (λb q=>?_) λb xs q=>?_⟩;rw[cZ (λz=>by rw[z,h] at q;cases q;exact mu)];exact q;rw[cZ (λz=>by rw[z,h] at q;cases q;exact mu)];exact q
 exact⟨od,I.write (x:=d) (e:=d) (t':=s.toks) (h':=s.heap) (by rw[h];exact mu) (.inl rfl) (λb v _ q=>q) ⟨od,e⟩ new⟩
theorem Inv.Qr{d:aj}{u:HO}(I:Inv X pins σ H s)(h:H d=ae u)(mu:Mut (ae u)):∀o' u',X.H_0 d≠ae (.jq o' u'):=λo' u' e=>by
 have q:=I.base.GK d o' u' e;rw[h] at q;cases q;exact mu
theorem Inv.unlock{d:aj}{od:Obj}{u:HO}(I:Inv X pins σ H s)(h:H d=ae (.jq od u))(hn:∀o' u',X.H_0 d≠ae (.jq o' u')):Inv X pins σ (upd H d u) s:=by
 have neH:∀b o,H b=ae o->(∀o' u',o≠ .jq o' u')->b≠d:=λb o e hne z=>by
  rw[z,h] at e;cases e;exact hne _ _ rfl
 have neN:∀b,H b=ay->b≠d:=λb e z=>by rw[z,h] at e;cases e
 refine⟨I.ok,I.os,I.bare,⟨I.base.keep,I.base.slot,λb o e n hx=>?_,I.base.there,λb xs e=>?_,λb o x e=>?_,λb ps e=>?_⟩,I.loc,I.cell,?_,λx c e=>?_,λp hp=>?_,λb o e=>?_,I.len⟩;rw[cZ (neN b (I.base.free b o e n hx))];exact I.base.free b o e n hx;have q:=I.base.Lp b xs e;rw[cZ (neH b _ q (λ_ _ z=>nomatch z))];exact q;have q:=I.base.GK b o x e;rw[cZ (λz=>by rw[z] at e;exact hn _ _ e)];exact q;obtain⟨m,q⟩:=I.base.Lq b ps e;exact⟨m,by rw[cZ (neH b _ q (λ_ _ z=>nomatch z))];exact q⟩;rw[cZ (neN _ I.free)];exact I.free;rw[cZ (neN c (I.rX x c e))];exact I.rX x c e;obtain⟨e,n,r⟩:=I.pin p hp;exact⟨e,by rw[cZ (neN _ n)];exact n,r⟩
 ·by_cases hb:b=d
  ·rw[hb,aq] at e;cases e;rw[hb];obtain⟨_,x⟩:=I.gB d _ h;exact x.yi (λc v _ q=>q) (λc q=>by rw[cZ (neH c _ q (λ_ _ z=>nomatch z))];exact q) λc xs q=>by rw[cZ (neH c _ q (λ_ _ z=>nomatch z))];exact q
  ·rw[cZ hb] at e;exact(I.gB b o e).yi (λc v _ q=>q) (λc q=>by rw[cZ (neH c _ q (λ_ _ z=>nomatch z))];exact q) λc xs q=>by rw[cZ (neH c _ q (λ_ _ z=>nomatch z))];exact q
end
def afD(t:TS):TS:=λD σ H=>∃d u,H d=ae u/\Mut (ae u)/\∀od,t ⟨λσ' H'=>H' d=ae (.jq od u)/\D.nx σ' (upd H' d u),λv H'=>H' d=ae (.jq od u)/\D.rt v (upd H' d u),λσ' H'=>H' d=ae (.jq od u)/\D.bk σ' (upd H' d u),λσ' H'=>H' d=ae (.jq od u)/\D.ct σ' (upd H' d u)⟩ σ (upd H d (.jq od u))
def YV(t:TE):TE:=λσ H Q=>∃d u,H d=ae u/\Mut (ae u)/\∀od,t σ (upd H d (.jq od u)) λv H'=>H' d=ae (.jq od u)/\Q v (upd H' d u)
section
variable{X:Cx}
theorem Ao{st:dX}{t:TS}(h:PS X st t):PS X st (afD t):=by
 intro pins s σ H D I hw;obtain⟨d,u,hd,mu,hw⟩:=hw;obtain⟨od,I1⟩:=I.lock hd mu;refine iU (h pins s σ _ _ I1 (hw od)) λf s1 q=>?_;cases f with
 |next=>obtain⟨σ',H',I2,e,q⟩:=q;exact⟨σ',_,I2.unlock e (I.Qr hd mu),q⟩
 |brk=>obtain⟨σ',H',I2,e,q⟩:=q;exact⟨σ',_,I2.unlock e (I.Qr hd mu),q⟩
 |cont=>obtain⟨σ',H',I2,e,q⟩:=q;exact⟨σ',_,I2.unlock e (I.Qr hd mu),q⟩
 |ret v=>obtain⟨x,σ',H',I2,r,e,q⟩:=q;exact⟨x,σ',_,I2.unlock e (I.Qr hd mu),r,q⟩
theorem N3{e:eJ}{t:TE}(h:PE X e t):PE X e (YV t):=by
 intro pins s σ H Q I hw;obtain⟨d,u,hd,mu,hw⟩:=hw;obtain⟨od,I1⟩:=I.lock hd mu;refine iU (h pins s σ _ _ I1 (hw od)) λv s1 ⟨x,H1,I2,r,e2,q⟩=>?_;exact⟨x,_,I2.unlock e2 (I.Qr hd mu),r,q⟩
theorem N4{tg:eJ}{pins:List (aj×Obj)}{σ:St}{H:Hp}{s:aE}{R:It->Hp->Prop}{J:It}{tn:Nat->df->Prop}{tk:Nat}(I:Inv X pins σ H s)(o:Obj)(T:Turn X.prog X.w X.K tg J [s.heap.objs.size] s.heap.objs.size tn)(st:tn 0 (s.heap.push o))(q:R J H):PIE X pins σ tg R (.ref s.heap.objs.size) {s with heap:=s.heap.push o,toks:=tk}:=by
 refine⟨s.heap.objs.size,[s.heap.objs.size],tn,J,H,rfl,I.kept λb ob e=>aG _ e,T,st,λb hb=>?_,q⟩;have e:b=s.heap.objs.size:=by simpa using hb
 subst e;exact I.Yt (aJ _) (I.gB.fresh (aJ _))
end
section
variable{X:Cx}{tg:eJ}
end
section
variable{X:Cx}{tg:eJ}
end
section
variable{prog:bg}{w:cn}{A:Around}{E:ax->aE->Prop}{s:aE}
theorem MS{d:aj}{o:Obj}{es:Array ko}{ep:Nat}{Q:ax->aE->Prop}(hd:(d==d7)=false)(ho:s.heap.get? d=ae o)(hc:o.ExactDict)(Wq:o.data= .dict es ep)(hQ:Q (.ref s.heap.objs.size) {s with heap:=s.heap.push {cls:= .type "dict_keyiterator",data:= .fields #[.ref d,.int 0 0,.int es.size 0,.int ep 0]}}):bR (cG prog w) A (pyIter (.ref d)) Q E s:=by
 have hT:s.TypeIs (.ref d) "dict":=⟨o,ho,hc.1⟩;refine wpAny_pyIter_slot hT F.slot_dict_iter (iH F.slot_dict_iter hT F.entry_dict_iter ?_ (F.args_dict_iter_1 _));unfold Builtin.«dict.__iter__»;refine ak ?_;unfold Builtin.Dict.dictSlotNone;refine ak (aaG hT ?_);show bR _ _ (pure (de d)) _ _ s;refine aS ?_;show bR _ _ (Iz d>>=_) _ _ s;unfold Iz;rw[if_neg (by rw[hd];exact bK)];refine ak (aS ?_);refine ak (sY ho Wq ?_);refine ak (PV ho Wq ?_);refine ak (nV (aS ⟨_,rfl,"dict_keyiterator",_,⟨_,bA _ rfl,rfl⟩,gN.lookup,?_⟩));simpa [rawInt] using hQ
theorem Lw{it d:aj}{i n ep:Nat}{od:Obj}{es:Array ko}{en:ko}{Q:Option ax->aE->Prop}(hit:s.heap.IsKeyIter it d i n ep)(Qs:s.heap.get? d=ae od)(YW:od.data= .dict es ep)(hsz:es.size=n)(hx:es[i]? =ae en)(hQ:∀h',h'.IsKeyIter it d (i+1) n ep->nU it s.heap h'->Q (ae en.key) {s with heap:=h'}):bR (cG prog w) A (pyNext (.ref it)) Q E s:=by
 obtain⟨o,ho,hc,hd⟩:=id hit;unfold pyNext;refine ak (HM (gY (name:=gJ "__next__") hit.typeIs gN (iH gN hit.typeIs Mw ?_ (Ln _))));refine ak (aS ?_);refine ak ?_;refine ak ?_;first|refine ak (mh hit.typeIs (aS ?_))|refine ak (qX hit.typeIs (aS ?_))
 refine ak (wpAny_fieldsOf ho hd ?_);have adK:yl "dict_keyiterator"=false:=by decide
 simp only[adK,u_,if_false];show bR _ _ (if(de d==iL)=true then _ else _) _ _ s;rw[if_neg (show ¬((de d==iL)=true) from bK)];refine ak (aS ?_);refine ak (sY Qs YW ?_);rw[if_neg (by rw[hsz];simp)];refine ak (aS ?_);refine ak (PV Qs YW ?_);rw[if_neg (by simp)];refine aS ?_;obtain⟨aiL,hen⟩:=Array.getElem?_eq_some_iff.mp hx;simp only[show ¬((i:Int)<0) from by omega,if_false,rm,Array.getElem?_eq_getElem aiL];refine ak ?_;first|refine ak (mh hit.typeIs (aS ?_))|refine ak (qX hit.typeIs (aS ?_))
 refine ak (aaH hit.typeIs ?_);show bR _ _ (setField (.ref it) 1 (rawInt ((i:Int)+1))>>=_) _ _ s;refine ak (EB ho hd (by simp) ?_);have afE:(s.heap.update it (Obj.mapFields (·.setIfInBounds 1 (rawInt ((i:Int)+1))))).IsKeyIter it d (i+1) n ep:=⟨_,mj _ ho (UI (vI hd _)),(aaI ..).trans hc,by rw[vI hd];simp[rawInt]⟩;refine ak (qY ?_);refine ak (aaH (s:={s with heap:=s.heap.update it (Obj.mapFields (·.setIfInBounds 1 (rawInt ((i:Int)+1))))}) afE.typeIs ?_);show bR _ _ (pure es[i].key) _ _ _;rw[hen];exact aS (aS ⟨_,rfl,aS (hQ _ afE (iy ..))⟩)
theorem C_{it d:aj}{i n ep:Nat}{od:Obj}{es:Array ko}{Q:Option ax->aE->Prop}(hh:A.handled=ay)(hit:s.heap.IsKeyIter it d i n ep)(Qs:s.heap.get? d=ae od)(YW:od.data= .dict es ep)(hsz:es.size=n)(hge:n<=i)(hQ:∀h',Heap.ExtBut it s.heap h'->Q ay {s with heap:=h'}):bR (cG prog w) A (pyNext (.ref it)) Q E s:=by
 obtain⟨o,ho,hc,hd⟩:=id hit;unfold pyNext;refine ak (HM (gY (name:=gJ "__next__") hit.typeIs gN (iH gN hit.typeIs Mw ?_ (Ln _))));refine ak (aS ?_);refine ak ?_;refine ak ?_;first|refine ak (mh hit.typeIs (aS ?_))|refine ak (qX hit.typeIs (aS ?_))
 refine ak (wpAny_fieldsOf ho hd ?_);have adK:yl "dict_keyiterator"=false:=by decide
 simp only[adK,u_,if_false];show bR _ _ (if(de d==iL)=true then _ else _) _ _ s;rw[if_neg (show ¬((de d==iL)=true) from bK)];refine ak (aS ?_);refine ak (sY Qs YW ?_);rw[if_neg (by rw[hsz];simp)];refine ak (aS ?_);refine ak (PV Qs YW ?_);rw[if_neg (by simp)];refine aS ?_;have aiN:es.size<=i:=by rw[hsz];exact hge
 simp only[show ¬((i:Int)<0) from by omega,if_false,rm,Array.getElem?_eq_none aiN];refine ak ?_;first|refine ak (mh hit.typeIs (aS ?_))|refine ak (qX hit.typeIs (aS ?_))
 show bR _ _ (setField (.ref it) 0 .none>>=_) _ _ s;refine ak (EB ho hd (by simp) ?_);show bR _ _ (newExc (.type "StopIteration") []>>=_) _ _ _;refine ak ?_;simp only[newExc,newTuple];refine ak (nV ?_ (by size_fits));refine ak (m:=firstArgMember _ _) (wpAny_of_eq (a:=iL) (by first|rfl|(simp only[firstArgMember];rfl)) ?_);refine nV ?_ (by size_fits);simp only[raiseNew];refine ak (wpAny_handled ?_);rw[show A.in1.handled=ay from hh];refine ak (aS (wpAny_throw ?_));refine ak (wpAny_isInstance (T:="StopIteration") (b:=true) ⟨_,bA _ rfl,rfl⟩ isSubtype_stop ?_);exact aS (hQ _ (((iy ..).extBut.push _).push _))
end
theorem TF{κ:Type}{kvs:List (κ×V)}{vs:List (κ×ax)}(h:KV kvs vs):∀{i:Nat} {k:κ} {v:V},kvs[i]? =ae (k,v)->∃u,vs[i]? =ae (k,u)/\RelV v u:=by
 unfold KV at h;induction h with
 |nil=>intro i k v e;simp at e
 | @cons a b l₁ l₂ r t ih=>
  intro i k v e;cases i with
  |zero=>
   simp only[xK,PB] at e;subst e;refine⟨b.2,?_,r.2⟩;simp only[xK];exact congrArg ae (Prod.ext r.1.symm rfl)
  |succ j=>
   simp only[PX] at e⊢;exact ih e
theorem TH{α β:Type}{G:α->β->Prop}{l₁:List α}{l₂:List β}(h:B7 G l₁ l₂):∀{i:Nat} {a:α},l₁[i]? =ae a->∃b,l₂[i]? =ae b/\G a b:=by
 induction h with
 |nil=>intro i a e;simp at e
 | @cons a b l₁ l₂ r t ih=>
  intro i a' e;cases i with
  |zero=>
   simp only[xK,PB] at e;subst e;exact⟨b,rfl,r⟩
  |succ j=>
   simp only[PX] at e⊢;exact ih e
theorem IZ{k:Key}{u:ax}(h:Bl k u=true):RelV (kV k) u:=by
 obtain⟨i,t,rfl,rfl⟩|⟨x,t,rfl,rfl⟩:=iX h
 exact⟨t,rfl⟩;exact⟨t,rfl⟩
section
variable{X:Cx}{pins:List (aj×Obj)}{σ:St}{H:Hp}{s:aE}{d:aj}{o:Obj}
theorem Inv.N5{kvs:List (Key×V)}(I:Inv X pins σ H s)(h:H d=ae (.jq o (.dK kvs))):(d==d7)=false/\s.heap.get? d=ae o/\o.ExactDict/\∃(es:Array ko) (ep:Nat) (vs:List (Key×ax)),o.data= .dict es ep/\es.size=kvs.length/\KV kvs vs/\s.heap.DictAt (fK X.prog X.w) d vs ep:=by
 obtain⟨hd,z,hs,vs,kv,o',es,ep,ho,hx,xQ,r⟩:=I.gB d _ h;rw[hd] at ho;cases ho;refine⟨hs,hd,hx,es,ep,vs,xQ,?_,kv,o,es,hd,hx,xQ,r⟩;have l1:=r.2.1.length;have l2:kvs.length=vs.length:=gj kv;rw[g_] at l1;omega
theorem Inv.adL{kvs:List (List Key×V)}(I:Inv X pins σ H s)(h:H d=ae (.jq o (.dT kvs))):(d==d7)=false/\s.heap.get? d=ae o/\o.ExactDict/\∃(es:Array ko) (ep:Nat),o.data= .dict es ep/\es.size=kvs.length/\∀(i:Nat) (k:List Key) (v:V),kvs[i]? =ae (k,v)->∃(en:ko) (q:aj),es[i]? =ae en/\en.key= .ref q/\H q=ae (.tup (k.map kV)):=by
 obtain⟨hd,z,hs,xs,pr,o',es,ep,ho,hx,xQ,he,_⟩:=I.gB d _ h;rw[hd] at ho;cases ho;refine⟨hs,hd,hx,es,ep,xQ,?_,λi k v e=>?_⟩;have l1:es.size=xs.length:=PY he;have l2:kvs.length=xs.length:=gj pr;omega;obtain⟨b,hb,e1,e2,_⟩:=TH pr e;have q:=entry_at he i;rw[hb] at q;exact⟨_,b.2.1,q,rfl,e2⟩
end
def Itk(d:aj)(o:Obj)(kvs:List (Key×V)):It:=⟨λi H=>H d=ae (.jq o (.dK kvs))/\i<kvs.length,λi H x H'=>H'=H/\∃k v,kvs[i]? =ae (k,v)/\x=kV k,λi H=>H d=ae (.jq o (.dK kvs))/\kvs.length<=i⟩
def afF(d:aj)(o:Obj)(kvs:List (List Key×V)):It:=⟨λi H=>H d=ae (.jq o (.dT kvs))/\i<kvs.length,λi H x H'=>H'=H/\∃(k:List Key) (v:V) (q:aj),kvs[i]? =ae (k,v)/\x= .ref q/\H q=ae (.tup (k.map kV)),λi H=>H d=ae (.jq o (.dT kvs))/\kvs.length<=i⟩
def Itd(d:aj)(o:Obj)(kvs:List (Key×V)):It:=⟨λi H=>H d=ae (.jq o (.dK kvs))/\i<kvs.length,λi H x H'=>H'=H/\∃k,kvs[i]? =ae (k,x),λi H=>H d=ae (.jq o (.dK kvs))/\kvs.length<=i⟩
def Iti(d:aj)(o:Obj)(kvs:List (Key×V)):It:=⟨λi H=>H d=ae (.jq o (.dK kvs))/\i<kvs.length,λi H x H'=>∃T k v,kvs[i]? =ae (k,v)/\x= .ref T/\H T=ay/\H'=upd H T (.tup [kV k,v]),λi H=>H d=ae (.jq o (.dK kvs))/\kvs.length<=i⟩
theorem vm{o:Obj}{es NQ:Array ko}{ep Sq:Nat}(h:o.data= .dict es ep)(h':o.data= .dict NQ Sq):NQ=es/\Sq=ep:=by
 rw[h] at h';cases h';exact⟨rfl,rfl⟩
section
variable{P:bg}{w:cn}{K:au}{tg:eJ}{d:aj}{o:Obj}{es:Array ko}{ep:Nat}
theorem Wr{kvs:List (Key×V)}(it:aj)(Qs:o.data= .dict es ep):Turn P w K tg (Itk d o kvs) [it] it (λi h=>h.IsKeyIter it d i kvs.length ep) where
 mem:=by simp
 obj:=λi h st b hb=>by
  have e:b=it:=by simpa using hb
  subst e;obtain⟨oi,e,c,dd⟩:=st;exact⟨oi,e,λv z=>by rw[dd] at z;cases z⟩
 keep:=λi h h' st k=>st.at λoi e=>k it (by simp) oi e
 item:=by
  intro X hP hw hK hc i pins s σ H E I hf st hg;subst hP hw hK;obtain⟨hd,hi⟩:=hg;obtain⟨f0,f1,f2,f3,f4,f5⟩:=hf it (by simp);obtain⟨hs,Sx,hx,NQ,Sq,vs,xQ,hsz,kv,hm⟩:=I.N5 hd;obtain⟨rfl,rfl⟩:=vm Qs xQ;obtain⟨⟨k,v⟩,Aq⟩:∃p,kvs[i]? =ae p:=⟨kvs[i],dz hi⟩;obtain⟨u,hu,ru⟩:=TF kv Aq;have hl:kvs.length=vs.length:=gj kv;rw[hl] at st;refine wpAny_pyNext_dict_item st hm hu λkey h' EJ UR sb=>?_;have I1:Inv X pins σ H {s with heap:=h'}:=I.turned (t':=s.toks) (λb ob hb e=>(sb.2 b hb).trans e) f0 f1 f3 f4 f5;obtain⟨oi,e,c,dd⟩:=id UR;refine⟨key,rfl,P7 (s:={s with heap:=h'}) e c dd (by decide) ⟨kV k,H,I1,IZ (show Bl k key=true from EJ),⟨rfl,k,v,Aq,rfl⟩,?_,λb hb=>(hf b hb).1⟩⟩;show h'.IsKeyIter it d (i+1) kvs.length _;rw[hl];exact UR
 done:=by
  intro X hP hw hK hc i pins s σ H E I hf st hg;subst hP hw hK;obtain⟨hd,hi⟩:=hg;obtain⟨f0,f1,f2,f3,f4,f5⟩:=hf it (by simp);obtain⟨hs,Sx,hx,NQ,Sq,vs,xQ,hsz,kv,hm⟩:=I.N5 hd;obtain⟨rfl,rfl⟩:=vm Qs xQ;exact C_ (I.ok.hd hc) st Sx xQ hsz hi λh' eb=>⟨rfl,I.turned (t':=s.toks) (λb ob hb e=>eb b ob hb e) f0 f1 f3 f4 f5⟩
 self:=λA i s Q E st h=>wpAny_pyIter_keyiter st h
theorem TJ{kvs:List (List Key×V)}(it:aj)(Qs:o.data= .dict es ep):Turn P w K tg (afF d o kvs) [it] it (λi h=>h.IsKeyIter it d i kvs.length ep) where
 mem:=by simp
 obj:=λi h st b hb=>by
  have e:b=it:=by simpa using hb
  subst e;obtain⟨oi,e,c,dd⟩:=st;exact⟨oi,e,λv z=>by rw[dd] at z;cases z⟩
 keep:=λi h h' st k=>st.at λoi e=>k it (by simp) oi e
 item:=by
  intro X hP hw hK hc i pins s σ H E I hf st hg;subst hP hw hK;obtain⟨hd,hi⟩:=hg;obtain⟨f0,f1,f2,f3,f4,f5⟩:=hf it (by simp);obtain⟨hs,Sx,hx,NQ,Sq,xQ,hsz,ent⟩:=I.adL hd;obtain⟨rfl,rfl⟩:=vm Qs xQ;obtain⟨⟨k,v⟩,Aq⟩:∃p,kvs[i]? =ae p:=⟨kvs[i],dz hi⟩;obtain⟨en,q,hen,EJ,hq⟩:=ent i k v Aq;refine Lw st Sx xQ hsz hen λh' UR sb=>?_;have I1:Inv X pins σ H {s with heap:=h'}:=I.turned (t':=s.toks) (λb ob hb e=>(sb.2 b hb).trans e) f0 f1 f3 f4 f5;obtain⟨oi,e,c,dd⟩:=id UR;exact⟨en.key,rfl,P7 (s:={s with heap:=h'}) e c dd (by decide) ⟨.ref q,H,I1,EJ,⟨rfl,k,v,q,Aq,rfl,hq⟩,UR,λb hb=>(hf b hb).1⟩⟩
 done:=by
  intro X hP hw hK hc i pins s σ H E I hf st hg;subst hP hw hK;obtain⟨hd,hi⟩:=hg;obtain⟨f0,f1,f2,f3,f4,f5⟩:=hf it (by simp);obtain⟨hs,Sx,hx,NQ,Sq,xQ,hsz,ent⟩:=I.adL hd;obtain⟨rfl,rfl⟩:=vm Qs xQ;exact C_ (I.ok.hd hc) st Sx xQ hsz hi λh' eb=>⟨rfl,I.turned (t':=s.toks) (λb ob hb e=>eb b ob hb e) f0 f1 f3 f4 f5⟩
 self:=λA i s Q E st h=>by
  refine wpAny_pyIter_slot st.typeIs ND (iH ND st.typeIs F.entry_dict_keyiterator_iter ?_ (F.args_dict_keyiterator_iter_1 _));show bR _ _ (ret (.ref it)) _ _ s;exact aS ⟨_,rfl,"dict_keyiterator",_,st.typeIs,gN.lookup,h⟩
theorem Ws{kvs:List (Key×V)}(it:aj)(Qs:o.data= .dict es ep):Turn P w K tg (Itd d o kvs) [it] it (λi h=>h.IsValIter it d i kvs.length ep) where
 mem:=by simp
 obj:=λi h st b hb=>by
  have e:b=it:=by simpa using hb
  subst e;obtain⟨oi,e,c,dd⟩:=st;exact⟨oi,e,λv z=>by rw[dd] at z;cases z⟩
 keep:=λi h h' st k=>st.at λoi e=>k it (by simp) oi e
 item:=by
  intro X hP hw hK hc i pins s σ H E I hf st hg;subst hP hw hK;obtain⟨hd,hi⟩:=hg;obtain⟨f0,f1,f2,f3,f4,f5⟩:=hf it (by simp);obtain⟨hs,Sx,hx,NQ,Sq,vs,xQ,hsz,kv,hm⟩:=I.N5 hd;obtain⟨rfl,rfl⟩:=vm Qs xQ;obtain⟨⟨k,v⟩,Aq⟩:∃p,kvs[i]? =ae p:=⟨kvs[i],dz hi⟩;obtain⟨u,hu,ru⟩:=TF kv Aq;have hl:kvs.length=vs.length:=gj kv;rw[hl] at st;refine wpAny_pyNext_values_item st hm hu λh' UR sb=>?_;have I1:Inv X pins σ H {s with heap:=h'}:=I.turned (t':=s.toks) (λb ob hb e=>(sb.2 b hb).trans e) f0 f1 f3 f4 f5;obtain⟨oi,e,c,dd⟩:=id UR;refine⟨u,rfl,P7 (s:={s with heap:=h'}) e c dd (by decide) ⟨v,H,I1,ru,⟨rfl,k,Aq⟩,?_,λb hb=>(hf b hb).1⟩⟩;show h'.IsValIter it d (i+1) kvs.length _;rw[hl];exact UR
 done:=by
  intro X hP hw hK hc i pins s σ H E I hf st hg;subst hP hw hK;obtain⟨hd,hi⟩:=hg;obtain⟨f0,f1,f2,f3,f4,f5⟩:=hf it (by simp);obtain⟨hs,Sx,hx,NQ,Sq,vs,xQ,hsz,kv,hm⟩:=I.N5 hd;obtain⟨rfl,rfl⟩:=vm Qs xQ;have hl:kvs.length=vs.length:=gj kv;rw[hl] at st;exact wpAny_pyNext_values_end (I.ok.hd hc) st hm (rV (by omega)) λh' eb=>⟨rfl,I.turned (t':=s.toks) (λb ob hb e=>eb b ob hb e) f0 f1 f3 f4 f5⟩
 self:=λA i s Q E st h=>wpAny_pyIter_valiter st h
theorem TK{kvs:List (Key×V)}{elts:List eJ}{kk:Nat}{Lr:Pos}(it:aj)(Qs:o.data= .dict es ep):Turn P w K (.Tuple elts kk Lr) (Iti d o kvs) [it] it (λi h=>∃ok ov,IsItemIter h it d i kvs.length ep ok ov) where
 mem:=by simp
 obj:=λi h st b hb=>by
  have e:b=it:=by simpa using hb
  subst e;obtain⟨ok,ov,e⟩:=st;exact⟨_,e,λv z=>nomatch z⟩
 keep:=λi h h' st k=>let ⟨ok,ov,e⟩:=st;⟨ok,ov,k it (by simp) _ e⟩
 item:=by
  intro X hP hw hK hc i pins s σ H E I hf st hg;subst hP hw hK;obtain⟨hd,hi⟩:=hg;obtain⟨hs,Sx,hx,NQ,Sq,vs,xQ,hsz,kv,hm⟩:=I.N5 hd;obtain⟨rfl,rfl⟩:=vm Qs xQ;obtain⟨⟨k,v⟩,Aq⟩:∃p,kvs[i]? =ae p:=⟨kvs[i],dz hi⟩;obtain⟨u,hu,ru⟩:=TF kv Aq;have hl:kvs.length=vs.length:=gj kv;obtain⟨ok,ov,he⟩:=st;rw[hl] at he;have Ak:it<s.heap.objs.size:=bN he;refine wpAny_pyNext_items_item he hm hu λkey h' EJ ho hT hz hk=>?_;refine⟨_,rfl,wpAny_letOwnedTupleGo_items (s:={s with heap:=h'}) ho λh'' he' sb=>?_⟩;have hT2:h''.get? s.heap.objs.size=ae {cls:= .type "tuple",data:= .seq #[key,u]}:=(sb.2 _ (yx Ak)).trans hT;have new:jv X.prog X.w (upd H s.heap.objs.size (.tup [kV k,v])) h'' s.heap.objs.size (.tup [kV k,v]):=⟨by show 2<=aM;decide,[key,u],.cons (IZ (show Bl k key=true from EJ)) (.cons ru .nil),⟨_,hT2,rfl,_,rfl⟩⟩;have I1:Inv X pins σ (upd H s.heap.objs.size (.tup [kV k,v])) {s with heap:=h''}:=I.MR (t':=s.toks) (ch:=[it]) (λb ob hb e=>(sb.2 b (by simpa using hb)).trans (hk b ob (by simpa using hb) e)) hf (aJ _) new;refine⟨.ref s.heap.objs.size,_,I1,rfl,⟨_,k,v,Aq,rfl,I.gB.fresh (aJ _),rfl⟩,⟨key,u,?_⟩,λb hb=>?_⟩;rw[hl];exact he'
  ·have e:b=it:=by simpa using hb
   rw[e,cZ (dR Ak)];exact(hf it (by simp)).1
 done:=by
  intro X hP hw hK hc i pins s σ H E I hf st hg;subst hP hw hK;obtain⟨hd,hi⟩:=hg;obtain⟨f0,f1,f2,f3,f4,f5⟩:=hf it (by simp);obtain⟨hs,Sx,hx,NQ,Sq,vs,xQ,hsz,kv,hm⟩:=I.N5 hd;obtain⟨rfl,rfl⟩:=vm Qs xQ;have hl:kvs.length=vs.length:=gj kv;obtain⟨ok,ov,he⟩:=st;rw[hl] at he;exact wpAny_pyNext_items_end (I.ok.hd hc) he hm (rV (by omega)) λh' eb=>⟨rfl,I.turned (t':=s.toks) (λb ob hb e=>eb b ob hb e) f0 f1 f3 f4 f5⟩
 self:=λA i s Q E st h=>let ⟨_,_,e⟩:=st;PySem.W.kcp_self e h
end
def afG(td:TE):TI:=λσ H R=>td σ H λx H1=>∃d o,x= .ref d/\((∃kvs,H1 d=ae (.jq o (.dK kvs))/\R (Itk d o kvs) H1)\/∃kvs,H1 d=ae (.jq o (.dT kvs))/\R (afF d o kvs) H1)
def afH(td:TE):TI:=λσ H R=>td σ H λx H1=>∃d o kvs,x= .ref d/\H1 d=ae (.jq o (.dK kvs))/\R (Itd d o kvs) H1
def adM(td:TE):TI:=λσ H R=>td σ H λx H1=>∃d o kvs,x= .ref d/\H1 d=ae (.jq o (.dK kvs))/\R (Iti d o kvs) H1
section
variable{X:Cx}{tg e:eJ}{td:TE}{apos kD:Pos}
theorem Dc(he:PE X e td):PI X tg e (afG td):=by
 intro pins s σ H R I h;refine iU (he pins s σ H _ I h) λu s1 ⟨x,H1,I1,rx,d,o,ex,q⟩=>?_;subst ex;obtain rfl:u=de d:=rx;obtain⟨kvs,hd,q⟩|⟨kvs,hd,q⟩:=q
 obtain⟨hs,Sx,hx,es,ep,vs,xQ,hsz,kv,hm⟩:=I1.N5 hd;refine MS hs Sx hx xQ (N4 (tk:=s1.toks) I1 _ (Wr _ xQ) ⟨_,bA _ rfl,rfl,?_⟩ q);rw[hsz]<;>rfl;obtain⟨hs,Sx,hx,es,ep,xQ,hsz,ent⟩:=I1.adL hd;refine MS hs Sx hx xQ (N4 (tk:=s1.toks) I1 _ (TJ _ xQ) ⟨_,bA _ rfl,rfl,?_⟩ q);rw[hsz]<;>rfl
theorem MT(he:PE X e td)(yF:attributeBase e "values" X.env (eval e X.env)=eval e X.env:=by rfl)(hline:(apos.endLine==kD.line)=true:=by rfl):PI X tg (.Call (.Attribute e "values" apos) [] [] kD) (afH td):=by
 intro pins s σ H R I h;refine nW (T:="dict") (id:="dict.values") yF rfl hline jL v_ F.type_dict_values (iU (he pins s σ H _ I h) λu s1 ⟨x,H1,I1,rx,d,o,kvs,ex,hd,q⟩=>?_);subst ex;obtain rfl:u=de d:=rx;obtain⟨hs,Sx,hx,es,ep,vs,xQ,hsz,kv,hm⟩:=I1.N5 hd;have hl:kvs.length=vs.length:=gj kv;refine⟨hm.dictOf.typeIs,hm.dictOf.mapOf.noDict,?_⟩;have I2:Inv X pins σ H1 {s1 with heap:=s1.heap.push {cls:= .type "dict_values",data:= .fields #[.ref d]}}:=I1.kept (t':=s1.toks) λb ob q=>aG _ q;have fin:bR (cG X.prog X.w) X.A (pyIter (.ref s1.heap.objs.size)) (PIE X pins σ tg R) X.xe {s1 with heap:=s1.heap.push {cls:= .type "dict_values",data:= .fields #[.ref d]}}:=by
  refine wpAny_pyIter_values (d:=d) (knd:=fK X.prog X.w) ⟨_,bA _ rfl,rfl,rfl⟩ (hm.push _) (N4 (tk:=s1.toks) I2 _ (Ws _ xQ) ⟨_,bA _ rfl,rfl,?_⟩ q);rw[hl]<;>rfl
 show bR _ _ (callWith kD (.builtin "dict.values") [.ref d] [] []) _ X.xe s1;exact S6 v_ aaJ rfl (tV ⟨rfl,hm.dictOf.typeIs,Yj _,_,meets_dict_values (fK X.prog X.w) d hs,⟨vs,hm.dictOf⟩,fin⟩)
theorem Qt{elts:List eJ}{kk:Nat}{Lr:Pos}(he:PE X e td)(yF:attributeBase e "items" X.env (eval e X.env)=eval e X.env:=by rfl)(hline:(apos.endLine==kD.line)=true:=by rfl):PI X (.Tuple elts kk Lr) (.Call (.Attribute e "items" apos) [] [] kD) (adM td):=by
 intro pins s σ H R I h;refine nW (T:="dict") (id:="dict.items") yF rfl hline jL F.slot_dict_items F.type_dict_items (iU (he pins s σ H _ I h) λu s1 ⟨x,H1,I1,rx,d,o,kvs,ex,hd,q⟩=>?_);subst ex;obtain rfl:u=de d:=rx;obtain⟨hs,Sx,hx,es,ep,vs,xQ,hsz,kv,hm⟩:=I1.N5 hd;have hl:kvs.length=vs.length:=gj kv;refine⟨hm.dictOf.typeIs,hm.dictOf.mapOf.noDict,?_⟩;have I2:Inv X pins σ H1 {s1 with heap:=s1.heap.push {cls:= .type "dict_items",data:= .fields #[.ref d]}}:=I1.kept (t':=s1.toks) λb ob q=>aG _ q;have fin:bR (cG X.prog X.w) X.A (pyIter (.ref s1.heap.objs.size)) (PIE X pins σ (.Tuple elts kk Lr) R) X.xe {s1 with heap:=s1.heap.push {cls:= .type "dict_items",data:= .fields #[.ref d]}}:=by
  refine wpAny_pyIter_items (d:=d) (knd:=fK X.prog X.w) ⟨_,bA _ rfl,rfl,rfl⟩ (hm.push _) (N4 (tk:=s1.toks) I2 _ (TK _ xQ) ⟨.none,.none,?_⟩ q);rw[hl];exact bA _ rfl
 show bR _ _ (callWith kD (.builtin "dict.items") [.ref d] [] []) _ X.xe s1;exact S6 F.slot_dict_items F.entry_dict_items rfl (tV ⟨rfl,hm.dictOf.typeIs,F.args_dict_items_1 _,_,meets_dict_items (fK X.prog X.w) d hs,⟨vs,hm.dictOf⟩,fin⟩)
end
theorem Wt:bootBuiltins "zip"=ae (.type "zip"):=by decide+kernel
end L2
section
namespace aiQ
open PySem PyProof.Rows
end aiQ
end
section
namespace TL
open PySem PySem.Builtin PySem.Builtin.Str PySem.StrLaws
end TL
end
namespace L2
open PySem PySem.Spec PyProof.Rows
section
variable{X:Cx}{pins:List (aj×Obj)}{σ:St}{H:Hp}{s:aE}{Q:VK}
end
section
variable{X:Cx}
end
section
variable{X:Cx}{o e:eJ}{to te:TE}
end
end L2
namespace L2
open PySem PySem.Spec PyProof.Rows
section
variable{X:Cx}
end
end L2
namespace Att
open PySem PySem.W PySem.Calls PyProof.Rows
section
variable{prog:bg}{w:cn}{A:Around}{E:ax->aE->Prop}{s:aE}{K:au}
end
end Att
namespace L2
open PySem PySem.Spec PyProof.Rows
end L2
namespace L2
open PySem PySem.Spec PyProof.Rows
end L2
namespace L2
open PySem PySem.Spec PyProof.Rows
def inClass(s:dX)(j:Nat):dX:=match s with
 | .ClassDef _ _ _ body _ _ _ _ _ _ _=>body.getD j (.Pass ⟨0,0,0,0⟩)
 |_=> .Pass ⟨0,0,0,0⟩
def N6(s:dX):Arguments:=match s with
 | .FunctionDef _ a _ _ _ _ _ _ _ _=>a
 |_=>{posonlyargs:=[],args:=[],vararg:=ay,kwonlyargs:=[],kw_defaults:=[],kwarg:=ay,defaults:=[]}
def Dd(s:dX):List dX:=match s with
 | .FunctionDef _ _ b _ _ _ _ _ _ _=>b
 |_=>[]
def a_(s:dX):m_:=match s with
 | .FunctionDef _ _ _ _ _ _ sc _ _ _=>sc
 |_=>{kind:= .function,names:=[],isGenerator:=false,isCoroutine:=false}
abbrev kI:Sv:=λ_ _ _ _ _ _=>False
abbrev E0:XK:=λ_ _ _=>False
theorem bQ{X:Cx}:vP kI X E0:=λ_ _ _ _ _ _ _ h=>h.elim
structure jn(K:au)(x qual:Str)(st:dX)(f:aj)(fd:bq):Prop where
 ex:∃(oc:ax) (od:Option aj) (kV doc pm:ax) (an:Option aj) (iq ct:ax) (osl:Array (Option ax)),fd=xj x qual (N6 st) (Dd st) (a_ st) .none kV doc pm an iq ct/\K.lookup f=ae ⟨oc,od,.func fd,osl⟩/\Iy K iq qual=true
 kp:t9 K (.ref f)=true
section
variable{P:bg}{w:cn}{K:au}{mg:Str->Option ax}{base:df}
theorem jn.ok{x qual:Str}{st:dX}{f:aj}{fd:bq}{N ps:List Str}{k:Nat}{sp:Sp}(F:jn K x qual st f fd)(S:bS N ps (a_ st))(len:∀vs H Q E,sp vs H Q E->vs.length=ps.length)(Qc:∀(iq:ax) (A:Around) (outer:List Env) (s:aE) (H:Hp) (vs:List V) (Q:VK) (E:XK),pH k (A.deeper (envOfC qual (a_ st) s.heap.objs.size f iq))->sp vs H Q E->∃t,Sr (xo kI P w K mg base N qual (a_ st) f iq A outer s H E).nox (Dd st) t/\t {nx:=λ_ H'=>Q .non H',rt:=Q} (start N vs) H):dU P w K mg base kI (k+1) f fd ps sp:=by
 obtain⟨oc,od,kV,doc,pm,an,iq,ct,osl,rfl,lk,hcd⟩:=F.ex;refine acD lk hcd S len λA outer s H vs Q E hr Ya=>?_;obtain⟨t,h,q⟩:=Qc iq A outer s H vs Q E hr Ya;exact⟨t,h.nox,q⟩
theorem adN{x qual:Str}{st:dX}{f:aj}{oc:ax}{od an:Option aj}{osl:Array (Option ax)}{kV doc pm iq ct:ax}(l:K.lookup f=ae ⟨oc,od,.func (xj x qual (N6 st) (Dd st) (a_ st) .none kV doc pm an iq ct),osl⟩)(c:Iy K iq qual=true)(k:t9 K (.ref f)=true):jn K x qual st f (xj x qual (N6 st) (Dd st) (a_ st) .none kV doc pm an iq ct):=⟨⟨oc,od,kV,doc,pm,an,iq,ct,osl,rfl,l,c⟩,k⟩
end
theorem d9{A:Around}{k:Nat}(hr:pH k A):A.units+1<cLine:=EC (Nat.add_le_add_left (by decide:1<=64) _) hr.units
section
variable{X:Cx}
theorem pv(i:Nat){x:Str}{pos:Pos}(hN:X.N[i]? =ae x:=by rfl)(hv:Vis X.env.scope x:=by first|exact bE rfl|exact PD (bE rfl)|exact PD (PD rfl))(hd:(x==("__debug__":Str))=false:=by decide)(hcd:(x==("__classdict__":Str))=false:=by decide):PE X (.Name x pos) (EF i):=adt hN hv hd hcd
end
theorem TN{A B:Prop}(h:B):if false=true then A else B:=by
 rw[aX bK];exact h
theorem N7{A B:Prop}(h:A):if true=true then A else B:=by
 rw[bw rfl];exact h
theorem cN{c A B:Prop}[Decidable c](h1:c->A)(h2:¬c->B):if c then A else B:=by
 by_cases h:c;rw[bw h];exact h1 h;rw[aX h];exact h2 h
def bC(H H':Hp):Prop:=∀b o,H b=ae o->H' b=ae o
theorem bC.refl(H:Hp):bC H H:=λ_ _ h=>h
theorem bC.trans{H H1 H2:Hp}(a:bC H H1)(b:bC H1 H2):bC H H2:=λc o h=>b c o (a c o h)
theorem bC.seq{K:au}{H H':Hp}{a:aj}{xs:List V}(e:bC H H')(h:dS K H a xs):dS K H' a xs:=by
 obtain(h|⟨o,h⟩)|h:=h
 exact .inl (.inl (e _ _ h));exact .inl (.inr ⟨o,e _ _ h⟩);exact .inr h
section
variable{κ:Type}[DecidableEq κ]
theorem jT:∀{l:List κ} {k:κ},l.Nodup->¬k∈l->(l++[k]).Nodup
 |[],k,_,_=>by simp
 |a::r,k,h,hk=>by
  obtain⟨h1,h2⟩:=cU.mp h;show(a::(r++[k])).Nodup;refine cU.mpr ⟨λm=>?_,jT h2 λm=>hk (aF.mpr (PD m))⟩;obtain q|q:=aP.mp m
  exact h1 q;exact hk (aF.mpr (bE (ai.mp q).symm))
end
end L2
section
namespace L2
open PySem PySem.Spec PyProof.Rows
open PySem.W (WData Codec OpenSpec Well WellAll ReadsW ReadsAllW)
mutual
inductive Dw(K:au)(H:Hp):V->nX->Prop
 |non:Dw K H .non .none
 |bl (b:Bool):Dw K H (.bl b) (.bool b)
 |int (i:Int):Dw K H (.int i) (.int i)
 |str (x:Str):Dw K H (.str x) (.str x)
 |Sn (b:Array UInt8):Dw K H (.Sn b) (.bytes b.toList)
 |lst {a:aj} {xs:List V} {ds:List nX}:dS K H a xs->xR K H xs ds->Dw K H (.ref a) (.list ds)
 |tup {a:aj} {xs:List V} {ds:List nX}:n9 K H a xs->xR K H xs ds->Dw K H (.ref a) (.tuple ds)
inductive xR(K:au)(H:Hp):List V->List nX->Prop
 |nil:xR K H [] []
 |cons {v:V} {vs:List V} {d:nX} {ds:List nX}:Dw K H v d->xR K H vs ds->xR K H (v::vs) (d::ds)
end
theorem U6{K:au}{H:Hp}:∀ns:List Int,xR K H (ns.map V.int) (ns.map WData.int)
 |[]=> .nil
 |n::r=> .cons (.int n) (U6 r)
theorem U7{K:au}{H:Hp}:∀(ns:List Int) (xs:List V),xR K H xs (ns.map WData.int)->xs=ns.map V.int
 |[],xs,h=>by
  cases h;rfl
 |n::r,xs,h=>by
  cases h with
  |cons h1 h2=>
   cases h1;rw[U7 r _ h2]<;>rfl
section
variable{P:bg}{w:cn}{K:au}{H:Hp}{h:df}{R:V6}{cl:Str->Option aj}
theorem adO{a:aj}{xs:List V}(gB:xl P w H h)(KX:K.In h)(q:dS K H a xs):∃(its:List ax) (o:Obj) (n:Nat),fj xs its/\h.get? a=ae o/\o.cls= .type "list"/\o.data= .seq its.toArray n:=by
 obtain q|⟨o,its,n,e,hc,_,hd,_,hv⟩:=q
 obtain⟨_,its,n,hv,e⟩:=(show jv P w H h a (.lst xs) from q.ok gB);exact⟨its,_,n,hv,e,rfl,rfl⟩;exact⟨its.toList,o,n,hv,KX _ _ e,hc,by simp[hd]⟩
theorem adP{a:aj}{xs:List V}(gB:xl P w H h)(KX:K.In h)(q:n9 K H a xs):∃(its:List ax) (o:Obj) (n:Nat),fj xs its/\h.get? a=ae o/\o.cls= .type "tuple"/\o.data= .seq its.toArray n:=by
 obtain q|⟨o,its,n,e,hc,hd,_,hv⟩:=q
 obtain⟨_,its,hv,o,e,hc,n,hd⟩:=(show jv P w H h a (.tup xs) from q.ok gB);exact⟨its,o,n,hv,e,hc,hd⟩;exact⟨its.toList,o,n,hv,KX _ _ e,hc,by simp[hd]⟩
mutual
theorem Dw.reads(gB:xl P w H h)(KX:K.In h):∀(d:nX) (v:V) (u:ax),Dw K H v d->RelV v u->∃as,ReadsW R cl h u d as
 | .none,_,_,x,r=>by
  cases x;cases r;exact⟨_,ReadsW.none⟩
 | .bool b,_,_,x,r=>by
  cases x;cases r;exact⟨_,ReadsW.bool b⟩
 | .int i,_,_,x,r=>by
  cases x;obtain⟨t,rfl⟩:=r;exact⟨_,ReadsW.int i t⟩
 | .str s,_,_,x,r=>by
  cases x;obtain⟨t,rfl⟩:=r;exact⟨_,ReadsW.str s t⟩
 | .bytes b,_,_,x,r=>by
  cases x;obtain⟨t,rfl⟩:=r;exact⟨_,ReadsW.bytes _ t⟩
 | .list ds,_,_,x,r=>by
  cases x with
  |lst hs ha=>
   cases r;obtain⟨its,o,n,rv,ho,hc,hd⟩:=adO gB KX hs;obtain⟨as,hr⟩:=Dw.readsAll gB KX ds _ its ha rv;exact⟨_,ReadsW.list ho hc hd hr⟩
 | .tuple ds,_,_,x,r=>by
  cases x with
  |tup hs ha=>
   cases r;obtain⟨its,o,n,rv,ho,hc,hd⟩:=adP gB KX hs;obtain⟨as,hr⟩:=Dw.readsAll gB KX ds _ its ha rv;exact⟨_,ReadsW.tuple ho hc hd hr⟩
 | .float _,_,_,x,_=>by cases x
 | .dict _,_,_,x,_=>by cases x
 | .bytearray _,_,_,x,_=>by cases x
 | .set _,_,_,x,_=>by cases x
 | .frozenset _,_,_,x,_=>by cases x
 | .obj _ _,_,_,x,_=>by cases x
theorem Dw.readsAll(gB:xl P w H h)(KX:K.In h):∀(ds:List nX) (vs:List V) (us:List ax),xR K H vs ds->fj vs us->∃as,ReadsAllW R cl h us ds as
 |[],_,_,x,r=>by
  cases x;cases r;exact⟨_,ReadsAllW.nil⟩
 |d::ds,_,_,x,r=>by
  cases x with
  |cons h1 h2=>
   cases r with
   |cons r1 r2=>
    obtain⟨as,q1⟩:=Dw.reads gB KX d _ _ h1 r1;obtain⟨bs,q2⟩:=Dw.readsAll gB KX ds _ _ h2 r2;exact⟨_,ReadsAllW.cons q1 q2⟩
end
end
mutual
def U8:nX->Bool
 | .none=>true
 | .bool _=>true
 | .int _=>true
 | .str _=>true
 | .bytes _=>true
 | .list xs=>GN xs
 | .tuple xs=>GN xs
 |_=>false
def GN:List nX->Bool
 |[]=>true
 |x::r=>U8 x&&GN r
end
theorem Qu{α:Type}{f:α->nX}(h:∀a,U8 (f a)=true):∀l:List α,GN (l.map f)=true
 |[]=>rfl
 |x::r=>by
  show(U8 (f x)&&GN (r.map f))=true;rw[h x,Qu h r]<;>rfl
theorem yM:∀(c:Codec) (a:c.denote),U8 (c.enc a)=true
 | .unit,_=>rfl
 | .bool,_=>rfl
 | .int _ _,_=>rfl
 | .nat _ _,_=>rfl
 | .u8,_=>rfl
 | .bytes _ _,_=>rfl
 | .text _ _ _ _,_=>rfl
 | .list _ _ c,a=>Qu (λx=>yM c x) a
 | .pair c d,a=>by
  show(U8 (c.enc a.1)&&(U8 (d.enc a.2)&&true))=true;rw[yM c a.1,yM d a.2]<;>rfl
 | .triple c d e,a=>by
  show(U8 (c.enc a.1)&&(U8 (d.enc a.2.1)&&(U8 (e.enc a.2.2)&&true)))=true;rw[yM c a.1,yM d a.2.1,yM e a.2.2]<;>rfl
 | .option c,ay=>rfl
 | .option c,ae x=>yM c x
theorem MV:∀(cs:List Codec) (a:ym cs),GN (t_ cs a)=true
 |[],_=>rfl
 |c::cs,a=>by
  show(U8 (c.enc a.1)&&GN (t_ cs a.2))=true;rw[yM c a.1,MV cs a.2]<;>rfl
theorem Ci:∀{xs:List nX} {d:nX},d∈xs->d.weight<=yn xs
 |[],d,h=>absurd h (by simp)
 |x::r,d,h=>by
  show d.weight<=x.weight+1+yn r;obtain e|m:=aF.mp h
  rw[e];omega;have z:=Ci m;omega
def toV:ax->V
 | .none=> .non
 | .bool b=> .bl b
 | .int i _=> .int i
 | .str x _=> .str x
 | .bytes b _=> .Sn b
 | .ref a=> .ref a
 |_=> .non
def Wu(A:List aj):ax->Prop
 | .none=>True
 | .bool _=>True
 | .int _ _=>True
 | .str _ _=>True
 | .bytes _ _=>True
 | .ref a=>a∈A
 |_=>False
theorem Wu.mono{A B:List aj}(h:∀a∈A,a∈B):∀{u:ax},Wu A u->Wu B u:=λ{u} x=>by
 cases u with
 |ref a=>exact h a x
 |none=>trivial
 |bool b=>trivial
 |int i t=>trivial
 |str s t=>trivial
 |bytes b t=>trivial
 |_=>exact gk x
theorem YX{A:List aj}{u:ax}(x:Wu A u):RelV (toV u) u:=by
 cases u with
 |ref a=>rfl
 |none=>rfl
 |bool b=>rfl
 |int i t=>exact⟨t,rfl⟩
 |str s t=>exact⟨t,rfl⟩
 |bytes b t=>exact⟨t,rfl⟩
 |_=>exact gk x
theorem wy{A:List aj}:∀{vs:List ax},(∀u∈vs,Wu A u)->fj (vs.map toV) vs
 |[],_=> .nil
 |u::r,h=> .cons (YX (h u (aB ..))) (wy λx hx=>h x (aC _ hx))
def xS(h:df)(A:List aj)(a:aj):Prop:=∃vs:List ax,vs.length<=aM/\(∀u∈vs,Wu A u)/\(h.get? a=ae {cls:= .type "list",data:= .seq vs.toArray}\/h.get? a=ae {cls:= .type "tuple",data:= .seq vs.toArray})
theorem xS.mono{h:df}{A B:List aj}{a:aj}(k:∀a∈A,a∈B)(x:xS h A a):xS h B a:=by
 obtain⟨vs,h1,h2,h3⟩:=x;exact⟨vs,h1,λu hu=>(h2 u hu).mono k,h3⟩
theorem vn{P:IB}{h:df}:∀{vs:List ax} {ds:List nX},B' P h vs ds->vs.length=ds.length
 |_,_,.nil=>rfl
 |_,_,.cons _ b=>by
  show _+1=_+1;rw[vn b]
theorem MX{P:IB}{h:df}{v:ax}{ds:List nX}(x:Well P h v (.list ds)):∃(a:aj) (vs:List ax),v= .ref a/\h.get? a=ae {cls:= .type "list",data:= .seq vs.toArray}/\B' P h vs ds:=by
 cases x with
 |list ho p8=>exact⟨_,_,rfl,ho,p8⟩
theorem I_{P:IB}{h:df}{v:ax}{ds:List nX}(x:Well P h v (.tuple ds)):∃(a:aj) (vs:List ax),v= .ref a/\h.get? a=ae {cls:= .type "tuple",data:= .seq vs.toArray}/\B' P h vs ds:=by
 cases x with
 |tuple ho p8=>exact⟨_,_,rfl,ho,p8⟩
theorem MY{P:IB}{h:df}{us:List ax}{d:nX}{ds:List nX}(x:B' P h us (d::ds)):∃(v:ax) (vs:List ax),us=v::vs/\Well P h v d/\B' P h vs ds:=by
 cases x with
 |cons a b=>exact⟨_,_,rfl,a,b⟩
theorem U9{n:Nat}(h:n<=1048576):n<=aM:=bX h (by decide)
section
variable{P:IB}{h:df}
mutual
theorem YY:∀(d:nX) (v:ax),Well P h v d->U8 d=true->d.weight<=1048576->∃A:List aj,Wu A v/\∀a∈A,xS h A a
 | .none,_,x,_,_=>by
  cases x;exact⟨[],trivial,λa m=>absurd m (by simp)⟩
 | .bool b,_,x,_,_=>by
  cases x;exact⟨[],trivial,λa m=>absurd m (by simp)⟩
 | .int i,_,x,_,_=>by
  cases x;exact⟨[],trivial,λa m=>absurd m (by simp)⟩
 | .str s,_,x,_,_=>by
  cases x;exact⟨[],trivial,λa m=>absurd m (by simp)⟩
 | .bytes b,_,x,_,_=>by
  cases x;exact⟨[],trivial,λa m=>absurd m (by simp)⟩
 | .list ds,_,x,p,z=>by
  obtain⟨a,vs,rfl,ho,p8⟩:=MX x;have z2:yn ds<=1048576:=z;obtain⟨A,h1,h2⟩:=De ds _ p8 p λd hd=>bX (Ci hd) z2;have k:∀b∈A,b∈a::A:=λb hb=>aC _ hb;refine⟨a::A,aB ..,λb hb=>?_⟩;obtain e|m:=aF.mp hb
  rw[e];exact⟨vs,U9 (by rw[vn p8];exact bX (GB ds) z2),λu hu=>(h1 u hu).mono k,.inl ho⟩;exact(h2 b m).mono k
 | .tuple ds,_,x,p,z=>by
  obtain⟨a,vs,rfl,ho,p8⟩:=I_ x;have z2:yn ds<=1048576:=z;obtain⟨A,h1,h2⟩:=De ds _ p8 p λd hd=>bX (Ci hd) z2;have k:∀b∈A,b∈a::A:=λb hb=>aC _ hb;refine⟨a::A,aB ..,λb hb=>?_⟩;obtain e|m:=aF.mp hb
  rw[e];exact⟨vs,U9 (by rw[vn p8];exact bX (GB ds) z2),λu hu=>(h1 u hu).mono k,.inr ho⟩;exact(h2 b m).mono k
 | .float _,_,_,p,_=>fJ (show false=true from p)
 | .dict _,_,_,p,_=>fJ (show false=true from p)
 | .bytearray _,_,_,p,_=>fJ (show false=true from p)
 | .set _,_,_,p,_=>fJ (show false=true from p)
 | .frozenset _,_,_,p,_=>fJ (show false=true from p)
 | .obj _ _,_,_,p,_=>fJ (show false=true from p)
theorem De:∀(ds:List nX) (vs:List ax),B' P h vs ds->GN ds=true->(∀d∈ds,d.weight<=1048576)->∃A:List aj,(∀u∈vs,Wu A u)/\∀a∈A,xS h A a
 |[],_,x,_,_=>by
  cases x;exact⟨[],λu m=>absurd m (by simp),λa m=>absurd m (by simp)⟩
 |d::ds,_,x,p,z=>by
  obtain⟨v,vs,rfl,x1,x2⟩:=MY x;have q:U8 d=true/\GN ds=true:=tE.mp p;obtain⟨A,a1,a2⟩:=YY d v x1 q.1 (z d (aB ..));obtain⟨B,b1,b2⟩:=De ds vs x2 q.2 λe he=>z e (aC _ he);have kA:∀b∈A,b∈A++B:=λb hb=>aP.mpr (.inl hb);have kB:∀b∈B,b∈A++B:=λb hb=>aP.mpr (.inr hb);refine⟨A++B,λu hu=>?_,λb hb=>?_⟩
  ·obtain e|m:=aF.mp hu
   rw[e];exact a1.mono kA;exact(b1 u m).mono kB
  ·obtain m|m:=aP.mp hb
   exact(a2 b m).mono kA;exact(b2 b m).mono kB
end
end
def abu(o:Obj):Option HO:=match o.data with
 | .seq vs _=>if(o.cls==u6 "list")=true then ae (.jq o (.lst (vs.toList.map toV))) else ae (.jq o (.tup (vs.toList.map toV)))
 |_=>ay
def xq(K:au)(h:df)(A:List aj):Hp:=λb=>if b∈A then(if(K.lookup b).isNone=true then(h.get? b).bind abu else ay) else ay
def Qv(H:Hp):Prop:=∀b,H b=ay\/∃o u,H b=ae (.jq o u)
theorem Qw(vs:List ax):abu {cls:= .type "list",data:= .seq vs.toArray}=ae (.jq {cls:= .type "list",data:= .seq vs.toArray} (.lst (vs.map toV))):=by
 show(if(u6 "list"==u6 "list")=true then ae (HO.jq {cls:= .type "list",data:= .seq vs.toArray} (.lst (vs.toArray.toList.map toV))) else ae (HO.jq {cls:= .type "list",data:= .seq vs.toArray} (.tup (vs.toArray.toList.map toV))))=_;rw[bw (beq_self_eq_true _)]
theorem Qx(vs:List ax):abu {cls:= .type "tuple",data:= .seq vs.toArray}=ae (.jq {cls:= .type "tuple",data:= .seq vs.toArray} (.tup (vs.map toV))):=by
 show(if(u6 "tuple"==u6 "list")=true then ae (HO.jq {cls:= .type "tuple",data:= .seq vs.toArray} (.lst (vs.toArray.toList.map toV))) else ae (HO.jq {cls:= .type "tuple",data:= .seq vs.toArray} (.tup (vs.toArray.toList.map toV))))=_;rw[aX (by decide)]
section
variable{P:bg}{w:cn}{K:au}{h:df}{A:List aj}
theorem Ib{b:aj}{o:Obj}(hb:b∈A)(hk:K.lookup b=ay)(e:h.get? b=ae o):xq K h A b=abu o:=by
 unfold xq;rw[if_pos hb,hk,if_pos (show(ay:Option Obj).isNone=true from rfl),e]<;>rfl
theorem abv{b:aj}{u:HO}(q:xq K h A b=ae u):b∈A/\K.lookup b=ay:=by
 unfold xq at q;by_cases hb:b∈A
 ·rw[bw hb] at q;cases hk:K.lookup b with
  |none=>exact⟨hb,rfl⟩
  |some o=>
   rw[hk,if_neg (by simp)] at q;cases q
 rw[aX hb] at q;cases q
theorem Ic(ar:∀a∈A,xS h A a){b:aj}{u:HO}(q:xq K h A b=ae u):K.lookup b=ay/\∃vs:List ax,vs.length<=aM/\(∀u∈vs,Wu A u)/\((h.get? b=ae {cls:= .type "list",data:= .seq vs.toArray}/\u= .jq {cls:= .type "list",data:= .seq vs.toArray} (.lst (vs.map toV)))\/(h.get? b=ae {cls:= .type "tuple",data:= .seq vs.toArray}/\u= .jq {cls:= .type "tuple",data:= .seq vs.toArray} (.tup (vs.map toV)))):=by
 obtain⟨hb,hk⟩:=abv q;obtain⟨vs,h1,h2,h3⟩:=ar b hb;refine⟨hk,vs,h1,h2,?_⟩;obtain e|e:=h3
 rw[Ib hb hk e,Qw] at q;exact .inl ⟨e,(bF q).symm⟩;rw[Ib hb hk e,Qx] at q;exact .inr ⟨e,(bF q).symm⟩
theorem Wv(ar:∀a∈A,xS h A a):Qv (xq K h A):=λb=>by
 cases q:xq K h A b with
 |none=>exact .inl rfl
 |some u=>
  obtain⟨_,vs,_,_,⟨_,e⟩|⟨_,e⟩⟩:=Ic ar q;exact .inr ⟨_,_,by rw[e]⟩;exact .inr ⟨_,_,by rw[e]⟩
theorem abw(ar:∀a∈A,xS h A a):xl P w (xq K h A) h:=λb u q=>by
 obtain⟨_,vs,h1,h2,⟨e,rfl⟩|⟨e,rfl⟩⟩:=Ic ar q;exact⟨e,by rw[ag];exact h1,vs,_,wy h2,e⟩;exact⟨e,by rw[ag];exact h1,vs,wy h2,_,e,rfl,_,rfl⟩
theorem Ie{c c':ax}{vs us:List ax}(e:(ae {cls:=c,data:= .seq vs.toArray}:Option Obj)=ae {cls:=c',data:= .seq us.toArray}):c=c'/\vs=us:=by
 have e1:=bF e;have e2:c=c':=da Obj.cls e1;have e3:UJ vs.toArray=UJ us.toArray:=da Obj.data e1;injection e3 with e4
 refine⟨e2,?_⟩;have e5:=congrArg PQ e4;simpa using e5
theorem aiR(KX:K.In h)(ar:∀a∈A,xS h A a){a:aj}{vs:List ax}(ha:a∈A)(e:h.get? a=ae {cls:= .type "list",data:= .seq vs.toArray}):(∀u∈vs,Wu A u)/\dS K (xq K h A) a (vs.map toV):=by
 obtain⟨us,h1,h2,h3⟩:=ar a ha;have hu:us=vs:=by
  obtain q|q:=h3
  rw[e] at q;exact(Ie q).2.symm;rw[e] at q;exact bM (UK (Ie q).1) (by decide)
 subst hu;refine⟨h2,?_⟩;cases hk:K.lookup a with
 |none=>exact .inl (.inr ⟨_,by rw[Ib ha hk e,Qw]⟩)
 |some o=>
  have e2:=KX a o hk;rw[e] at e2;obtain rfl:=bF e2;exact .inr ⟨_,us.toArray,_,hk,rfl,rfl,rfl,by rw[cg];exact h1,by simpa using wy h2⟩
theorem aiS(KX:K.In h)(ar:∀a∈A,xS h A a){a:aj}{vs:List ax}(ha:a∈A)(e:h.get? a=ae {cls:= .type "tuple",data:= .seq vs.toArray}):(∀u∈vs,Wu A u)/\n9 K (xq K h A) a (vs.map toV):=by
 obtain⟨us,h1,h2,h3⟩:=ar a ha;have hu:us=vs:=by
  obtain q|q:=h3
  rw[e] at q;exact bM (UK (Ie q).1) (by decide);rw[e] at q;exact(Ie q).2.symm
 subst hu;refine⟨h2,?_⟩;cases hk:K.lookup a with
 |none=>exact .inl (.inr ⟨_,by rw[Ib ha hk e,Qx]⟩)
 |some o=>
  have e2:=KX a o hk;rw[e] at e2;obtain rfl:=bF e2;exact .inr ⟨_,us.toArray,_,hk,rfl,rfl,by rw[cg];exact h1,by simpa using wy h2⟩
mutual
theorem adQ{Pm:IB}(KX:K.In h)(ar:∀a∈A,xS h A a):∀(d:nX) (v:ax),Well Pm h v d->U8 d=true->Wu A v->Dw K (xq K h A) (toV v) d
 | .none,_,x,_,_=>by
  cases x;exact .non
 | .bool b,_,x,_,_=>by
  cases x;exact .bl b
 | .int i,_,x,_,_=>by
  cases x;exact .int i
 | .str s,_,x,_,_=>by
  cases x;exact .str s
 | .bytes b,_,x,_,_=>by
  cases x;have z:=Dw.Sn (K:=K) (H:=xq K h A) b.toArray;exact z
 | .list ds,_,x,p,hu=>by
  obtain⟨a,vs,rfl,ho,p8⟩:=MX x;obtain⟨h2,hs⟩:=aiR KX ar hu ho;exact .lst hs (N8 KX ar ds _ p8 p h2)
 | .tuple ds,_,x,p,hu=>by
  obtain⟨a,vs,rfl,ho,p8⟩:=I_ x;obtain⟨h2,hs⟩:=aiS KX ar hu ho;exact .tup hs (N8 KX ar ds _ p8 p h2)
 | .float _,_,_,p,_=>fJ (show false=true from p)
 | .dict _,_,_,p,_=>fJ (show false=true from p)
 | .bytearray _,_,_,p,_=>fJ (show false=true from p)
 | .set _,_,_,p,_=>fJ (show false=true from p)
 | .frozenset _,_,_,p,_=>fJ (show false=true from p)
 | .obj _ _,_,_,p,_=>fJ (show false=true from p)
theorem N8{Pm:IB}(KX:K.In h)(ar:∀a∈A,xS h A a):∀(ds:List nX) (vs:List ax),B' Pm h vs ds->GN ds=true->(∀u∈vs,Wu A u)->xR K (xq K h A) (vs.map toV) ds
 |[],_,x,_,_=>by
  cases x;exact .nil
 |d::ds,_,x,p,hu=>by
  obtain⟨v,vs,rfl,x1,x2⟩:=MY x;have q:U8 d=true/\GN ds=true:=tE.mp p;exact .cons (adQ KX ar d v x1 q.1 (hu _ (aB ..))) (N8 KX ar ds vs x2 q.2 λu m=>hu u (aC _ m))
end
end
theorem Ww{P:bg}{w:cn}{K:au}{mg mb:Str->Option ax}{CX:Sv}{k:Nat}{fa:aj}{fd:bq}{ps:List Str}{sp:Sp}{s₁:aE}{vals:List ax}{ds:List nX}{R:V6}{cl:Str->Option aj}{d0:nX}(KX:K.In s₁.heap)(hns:s₁.heap.Ns l_ mg)(hb:s₁.heap.Ns builtinsNs mb)(hbb:∀x:Str,x≠"__name__"->mb x=bootBuiltins x)(aiT:s₁.heap.NoLimit)(hg:s₁.gens= #[])(hwl:B' w.params s₁.heap vals ds)(C5:GN ds=true)(hwt:∀d∈ds,d.weight<=1048576)(hr:pH k callerA)(F:∀base:df,K.In base->base.Ns l_ mg->dU P w K mg base CX k fa fd ps sp)(afJ:∀(s:aE) (us:List ax),us.length=ps.length->Sd s fd ⟨us,[]⟩ (ps.zip us))(hlen:ds.length=ps.length)(Ya:∀(H:Hp) (xs:List V),Qv H->xR K H xs ds->sp xs H (λv H'=>Dw K H' v d0) λ_ _ _=>False)(hCX:∀H e s',CX [] H s₁ (λ_ _ _=>False) e s'->False):codeAny (cG P w) callerA (.call (.ref fa) ⟨vals,[]⟩) (λr s'=>∃u as,r= .ok (.ret u)/\ReadsW R cl s'.heap u d0 as/\OldK s₁.heap s'.heap/\s'.os=s₁.os/\yj s'.gens) s₁:=by
 obtain⟨A,ho,ar⟩:=De ds vals hwl C5 hwt;have hO:Qv (xq K s₁.heap A):=Wv ar;have gB:xl P w (xq K s₁.heap A) s₁.heap:=abw ar;have hS:=N8 KX ar ds vals hwl C5 ho;have hV:=wy ho;have hK:∀b u,xq K s₁.heap A b=ae u->K.lookup b=ay:=λb u q=>(Ic ar q).1;have noA:∀{b:aj} {o:Obj} {es:Array ko} {ep:Nat},s₁.heap.get? b=ae o->o.data= .dict es ep->xq K s₁.heap A b=ay:=λ{b o es ep} e d=>by
  cases q:xq K s₁.heap A b with
  |none=>rfl
  |some u=>
   obtain⟨_,vs,_,_,⟨e2,_⟩|⟨e2,_⟩⟩:=Ic ar q;rw[e2] at e;cases e;have d':UJ vs.toArray _=Data.dict es ep:=d;cases d';rw[e2] at e;cases e;have d':UJ vs.toArray _=Data.dict es ep:=d;cases d'
 generalize xq K s₁.heap A=H at hO gB hS hK noA;have U_:∀{b:aj} {o:Obj},s₁.heap.get? b=ae o->H b=ay->(NM s₁.heap H).get? b=ae o:=λe n=>Yp e n;have nsK:∀{b:aj} {m:Str->Option ax},s₁.heap.Ns b m->(NM s₁.heap H).Ns b m:=λ{b m} ⟨o,es,ep,e,d,r⟩=>⟨o,es,ep,U_ e (noA e d),d,r⟩;have nK:∀b o,K.lookup b=ae o->H b=ay:=λb o e=>by
  cases q:H b with
  |none=>rfl
  |some u=>
   rw[hK b u q] at e;cases e
 have hKb:K.In (NM s₁.heap H):=λb o e=>U_ (KX b o e) (nK b o e);have hM:Mod K mg (NM s₁.heap H):=⟨hKb,nsK hns,⟨mb,nsK hb,hbb⟩,let ⟨mc,h1,h2⟩:=aiT;⟨mc,nsK h1,h2⟩⟩;have e0:Tq P w K mg (NM s₁.heap H) callerA [] s₁ H:=⟨rfl,hM,λb o e=>aa5 e,yz (Wa _ _),trivial,λb hb=>absurd (show b∈([]:List aj) from hb) (by simp),gB,.of_eq hg⟩;have hl:vals.length=ps.length:=by rw[vn hwl];exact hlen
 refine Lh ((F _ hKb (nsK hns)).run callerA [] s₁ H ⟨vals,[]⟩ vals (vals.map toV) _ _ hr e0 (afJ s₁ vals hl) hV (Ya H _ hO hS)) λr s' x=>?_;cases r with
 |error e=>exact(hCX H e s' x).elim
 |ok fl=>
  cases fl with
  |next=>exact gk x
  |brk=>exact gk x
  |cont=>exact gk x
  |ret u=>
   obtain⟨v,H',os,bare,un,afL,r',q⟩:=x;have kept:∀b o,s₁.heap.get? b=ae o->s'.heap.get? b=ae o:=λb o e=>by
    cases q2:H b with
    |none=>exact un.keep b o e q2 (by intro z;exact absurd (show b∈([]:List aj) from z) (by simp)) (by simp)
    |some u2=>
     obtain z|⟨ob,u3,z⟩:=hO b
     rw[q2] at z;cases z;have z2:=un.GK b ob _ z;obtain⟨e1,_⟩:=gB b _ z;obtain⟨e2,_⟩:=afL b _ z2;rw[e] at e1;cases e1;exact e2
   have KX':K.In s'.heap:=λb o e=>kept b o (KX b o e);obtain⟨as,hrd⟩:=Dw.reads (R:=R) (cl:=cl) afL KX' d0 v u q r';exact⟨u,as,rfl,hrd,OldK.of_keep kept,os,bare⟩
theorem Ja{ds:List nX}(h:WData.layableAll ds=true):∀d∈ds,d.weight<=1048576:=λd hd=>
 (PySem.W.layableW_iff.mp (cz.mp h d hd)).2.2
theorem Jb:∀(cs:List Codec) (a:ym cs),(t_ cs a).length=cs.length
 |[],_=>rfl
 |c::cs,a=>by
  show(t_ cs a.2).length+1=cs.length+1;rw[Jb cs a.2]
theorem Wx{r:OpenSpec}{k:Nat}{q:bg}{loose:List Str}{XP:(Str->Option ax)->df->Prop}{YP:cn->df->Prop}{d:DefRec}{K:IB->au}{CX:cn->Sv}{ps:List Str}{sp:cn->Sp}(YZ:r.wellSaid=true)(hdf:d.params.defaults=[])(hlen:r.args.length=ps.length)(hr:pH k callerA)(hY:∀(w:cn) (h:df),YP w h->(K w.params).In h)(F:∀(w:cn) (mg:Str->Option ax) (fa:aj) (h:df),YP w h->(K w.params).In h->h.Ns l_ mg->mg d.name=ae (.ref fa)->∃fd:bq,(∀(s:aE) (us:List ax),us.length=ps.length->Sd s fd ⟨us,[]⟩ (ps.zip us))/\∀base:df,(K w.params).In base->base.Ns l_ mg->dU r.prog w (K w.params) mg base (CX w) k fa fd ps (sp w))(Ya:∀(w:cn) (H:Hp) (xs:List V) (a:ym r.args),Qv H->aaK r.args a=true->GD r.args r.asked a=true->xR (K w.params) H xs (t_ r.args a)->sp w xs H (λv H'=>Dw (K w.params) H' v (r.ret.enc (GD r.args r.f a))) λ_ _ _=>False)(hCX:∀(w:cn) (H:Hp) (s:aE) (e:ax) (s':aE),CX w [] H s (λ_ _ _=>False) e s'->False):Yk q loose XP YP r d [] (λf vs=>PySem.call f vs):=by
 intro w MC s₁ mg mb G Y fa o pm cd doc dV kV ho hd hcd hD hmg hg args vals as aiU hlay hrd hwl hlo;obtain⟨a,e1,e2⟩:=PySem.W.os_pre_some aiU;obtain⟨e3,hwi⟩:=Codec.encAll_of_decAll r.args args a e1;subst e3;have KX:=hY w _ Y;obtain⟨fd,hb,hF⟩:=F w mg fa _ Y KX G.T.g hmg;refine PySem.W.enter_call (Lh (Ww (R:=[]) (cl:=classAt MC.heap) (d0:=r.ret.enc (GD r.args r.f a)) KX G.T.g G.T.b G.T.builtins G.T.nolimit hg hwl (MV _ _) (Ja hlay) hr hF hb (by rw[Jb];exact hlen) (λH xs hO hS=>Ya w H xs a hO hwi e2 hS) λH e s'=>hCX w H s₁ e s') λr' s' hq=>?_);obtain⟨u,as',rfl,h1,h2,h3,h4⟩:=hq;exact⟨.inl ⟨u,_,as',rfl,λ_=>rfl,h1,(OpenSpec.post_iff YZ hwi _ _).mpr rfl,λz=>fJ (show false=true from z)⟩,h2,h3,h4⟩
theorem TQ{r:OpenSpec}{k:Nat}{q:bg}{loose:List Str}{XP:(Str->Option ax)->df->Prop}{YP:cn->df->Prop}{d:DefRec}{K:IB->au}{CX:Sv}{ps:List Str}{sp:au->Sp}(YZ:r.wellSaid=true)(hdf:d.params.defaults=[])(hlen:r.args.length=ps.length)(hr:pH k callerA)(hY:∀(w:cn) (h:df),YP w h->(K w.params).In h)(F:∀(w:cn) (mg:Str->Option ax) (fa:aj) (h:df),YP w h->(K w.params).In h->h.Ns l_ mg->mg d.name=ae (.ref fa)->∃fd:bq,(∀(s:aE) (us:List ax),us.length=ps.length->Sd s fd ⟨us,[]⟩ (ps.zip us))/\∀base:df,(K w.params).In base->base.Ns l_ mg->dU r.prog w (K w.params) mg base CX k fa fd ps (sp (K w.params)))(Ya:∀(K:au) (H:Hp) (xs:List V) (a:ym r.args),Qv H->aaK r.args a=true->GD r.args r.asked a=true->xR K H xs (t_ r.args a)->sp K xs H (λv H'=>Dw K H' v (r.ret.enc (GD r.args r.f a))) λ_ _ _=>False)(hCX:∀(H:Hp) (s:aE) (e:ax) (s':aE),CX [] H s (λ_ _ _=>False) e s'->False):Yk q loose XP YP r d [] (λf vs=>PySem.call f vs):=Wx (K:=K) (CX:=λ_=>CX) (sp:=λw=>sp (K w.params)) YZ hdf hlen hr hY F (λw H xs a h1 h2 h3 h4=>Ya (K w.params) H xs a h1 h2 h3 h4) λ_ H s e s'=>hCX H s e s'
end L2
end
namespace wz
open PySem PySem.Spec PyProof.Rows L2
section
variable{X:Cx}
theorem dE{x:Str}{i:Int}{pos:Pos}(hg:Gl X x)(h:∃tk,X.mg x=ae (.int i tk))(hd:(x==("__debug__":Str))=false:=by decide):PE X (.Name x pos) (tC (.int i)):=by
 obtain⟨tk,h⟩:=h;exact UM (v:= .int i) hg h ⟨tk,rfl⟩ hd
theorem Df{K:au}(h:X.K=K):IxR X (afu K):=by
 subst h;exact vQ
theorem tO{K:au}{e:eJ}{f:Str}{ta:TE}{pos:Pos}(h:X.K=K)(he:PE X e ta)(hb:attributeBase e f X.env (eval e X.env)=eval e X.env):PE X (.Attribute e f pos) (afq K ta f):=by
 subst h;exact aT he hb
def qd(ns:List Int):List Int:=ns.foldl lQ []
theorem range_getD:∀(ns:List Int),((List.range ns.length).map λi=>ns.getD i 0)=ns:=λns=>by
 refine List.ext_getElem (by simp) λi h1 h2=>?_;simp[List.getD_eq_getElem?_getD,h2]
theorem MZ(hc:X.calm=true):Bm X (.type "set") (λxs H Q=>∃(a:aj) (ns:List Int),xs=[.ref a]/\dS X.K H a (ns.map V.int)/\ns.length+1<4096/\∀p S,H p=ay->Q (.ref p) (upd H p (.set S (qd ns).length))):=by
 intro pins s σ H xs us Q I r h;obtain⟨a,ns,rfl,ha,hl,q⟩:=h;obtain⟨u,rfl,ru⟩:=vals1 r;cases ru;obtain⟨its,rv,pl,_⟩:=I.list ha;have el:its.toArray.size=ns.length:=by rw[cg,<-rv.length,ag]
 refine call_set_list (I.ok.hd hc) pl.isList (ns:=ns) (by simpa using intsAre_of rv) (by rw[el];exact hl) λh' tk hS hk=>?_;have ed:firstMet (λi=>ns.getD i 0) its.toArray.size=qd ns:=by
  unfold firstMet qd;rw[el,range_getD]
 rw[ed] at hS;exact⟨.ref s.heap.objs.size,_,I.laid (t':=tk) (o:= .set _ (qd ns).length) (λb u e=>hk b u (bN e) e) (aJ _) hS,rfl,q _ _ (I.gB.fresh (aJ _))⟩
theorem M0:Bm X (.builtin "len") (λxs H Q=>∃(a:aj) (S:Int->Bool) (n:Nat),xs=[.ref a]/\H a=ae (.set S n)/\Q (.int n) H):=by
 intro pins s σ H xs us Q I r h;obtain⟨a,S,n,rfl,ha,q⟩:=h;obtain⟨u,rfl,ru⟩:=vals1 r;cases ru;obtain⟨o,es,ep,t,h1,h2,h3,_,_,h4,h5,h6⟩:=(show s.heap.SetOf (intKind X.prog X.w) a S n from I.gB a _ ha);refine call_len_set h1 h2 h3 h5 (by have:scanBound=4096:=rfl;omega) ?_;exact⟨.int n,H,I.tok _,⟨_,by rw[h6]⟩,q⟩
theorem pR:Bm X (.builtin "len") (λxs H Q=>∃a kvs,xs=[V.ref a]/\Rd H a (.dK kvs)/\Q (.int kvs.length) H):=by
 intro pins s σ H xs us Q I r h;obtain⟨a,kvs,rfl,ha,q⟩:=h;obtain⟨u,rfl,ru⟩:=vals1 r;cases ru;exact afA I ha λt s' I'=>⟨.int kvs.length,H,I',⟨t,rfl⟩,q⟩
structure KD(P:bg)(w:cn)(K:au)(a:aj)(kvs:List (Key×V)):Prop where
 ex:∃(es:Array ko) (ep:Nat) (vs:List (Key×ax)),K.lookup a=ae ⟨.type "dict",ay,.dict es ep,#[]⟩/\KeysOf (fK P w) es/\Pairs (fK P w) es.toList vs/\(vs.map (·.1)).Nodup/\KV kvs vs
 sm:(a==d7)=false
def adR(w:cn)(l:List (Key×ax×ax)):List ko:=l.map λx=>⟨afc w x.1,x.2.1,x.2.2⟩
theorem U'{P:bg}{w:cn}{K:au}{a:aj}{l:List (Key×ax×ax)}{kvs:List (Key×V)}{ep:Nat}(h:K.lookup a=ae ⟨.type "dict",ay,.dict (adR w l).toArray ep,#[]⟩)(hk:∀x∈l,Bl x.1 x.2.1=true)(nd:(l.map (·.1)).Nodup)(kv:KV kvs (l.map λx=>(x.1,x.2.2)))(sm:(a==d7)=false):KD P w K a kvs:=by
 refine⟨⟨_,_,l.map λx=>(x.1,x.2.2),h,λe he=>?_,?_,?_,kv⟩,sm⟩
 ·have he':e∈adR w l:=by simpa using he
  obtain⟨x,hx,rfl⟩:=aA.mp he';exact⟨x.1,hk x hx,rfl⟩
 ·show Pairs (fK P w) (adR w l) _
  clear h nd kv
  induction l with
  |nil=>exact .nil
  |cons x r ih=>exact .cons (hk x (aB ..)) rfl (ih λy hy=>hk y (aC _ hy))
 rw[bx];exact nd
theorem adS{K:au}{H:Hp}{a:aj}{od:Option aj}{its:Array ax}{n:Nat}{sl:Array (Option ax)}{xs:List V}(h:K.lookup a=ae ⟨.type "tuple",od,.seq its n,sl⟩)(hs:its.size<=aM)(hv:fj xs its.toList):n9 K H a xs:= .inr ⟨_,its,n,h,rfl,rfl,hs,hv⟩
def afN(P:bg)(w:cn)(K:au)(td ty:TE):TE:=λσ H Q=>td σ H λx H1=>ty σ H1 λy H2=>∃a kvs k v,x= .ref a/\KD P w K a kvs/\y=kV k/\h8 kvs k=ae v/\Q v H2
theorem KD.dictOf{pins:List (aj×Obj)}{σ:L2.St}{H:Hp}{s:aE}{a:aj}{kvs:List (Key×V)}(d:KD X.prog X.w X.K a kvs)(I:Inv X pins σ H s):∃vs,KV kvs vs/\s.heap.DictOf (fK X.prog X.w) a vs:=by
 obtain⟨es,ep,vs,h1,h2,h3,h4,h5⟩:=d.ex;exact⟨vs,h5,_,es,ep,I.P2 a _ h1,⟨rfl,rfl,rfl⟩,rfl,h2,h3,h4⟩
theorem Ig{o i:eJ}{td ty:TE}{pos:Pos}(ho:PE X o td)(hi:PE X i ty)(hs:adE i):PE X (.Subscript o i pos) (afN X.prog X.w X.K td ty):=by
 intro pins s σ H Q I h;refine U5 K'.lookup hs (iU (ho pins s σ H _ I h) λu s1 ⟨x,H1,I1,rx,q1⟩=>iU (hi pins s1 σ H1 _ I1 q1) λiv s2 ⟨y,H2,I2,ry,a,kvs,k,v,ex,g,ey,l,q2⟩=>?_);subst ex ey;obtain rfl:u=de a:=rx;obtain⟨vs,rel,dd⟩:=g.dictOf I2;obtain⟨w',hw,Tv⟩:=wm.some_of (v:=v) (o:=valueAt vs k) (by rw[<-l];exact rel.val k);exact⟨dd.typeIs,wpAny_getItem_of (FV ry) dd.mapOf hw ⟨v,H2,I2.tok _,Tv,q2⟩⟩
def adT(P:bg)(w:cn)(K:au)(td ty tx:TE):TE:=λσ H Q=>td σ H λx H1=>∃a kvs,x= .ref a/\KD P w K a kvs/\ty σ H1 λy H2=>tx σ H2 λz H3=>∃k,y=kV k/\Q ((h8 kvs k).getD z) H3
theorem Y0{o e f:eJ}{td ty tx:TE}{apos kD:Pos}(ho:PE X o td)(he:PE X e ty)(hf:PE X f tx)(m:M2 X o "get" apos e f kD):PE X (.Call (.Attribute o "get" apos) [e,f] [] kD) (adT X.prog X.w X.K td ty tx):=by
 intro pins s σ H Q I h;refine nW m.base m.few m.line jL PF PySem.F.type_dict_get (iU (ho pins s σ H _ I h) λu s1 ⟨x,H1,I1,rx,a,kvs,ex,d,q1⟩=>?_);subst ex;obtain rfl:u=de a:=rx;obtain⟨vs1,_,dd1⟩:=d.dictOf I1;refine⟨dd1.typeIs,λb q=>by cases q;obtain⟨ob,_,_,h1,h2,_⟩:=dd1;exact⟨ob,h1,h2.2.1⟩,?_⟩;rw[m.trees];refine kU rfl (nj (ji (iU (he pins s1 σ H1 _ I1 q1) λiv s2 ⟨y,H2,I2,ry,q2⟩=>
  ji (iU (hf pins s2 σ H2 _ I2 q2) λfv s3 ⟨z,H3,I3,rz,k,ey,q3⟩=>qW ?_))))
 subst ey;obtain⟨vs,rel,dd⟩:=d.dictOf I3;refine Lj PF dd.typeIs PySem.F.entry_dict_get (PySem.F.args_dict_get_3 _ _ _) (meets_dict_get_default (fK X.prog X.w) a (FV ry) d.sm fv) ⟨_,dd.mapOf,?_⟩;exact⟨_,H3,I3.tok _,(rel.val k).getD rz,q3⟩
theorem As{J:It}{g:TG}{tb:TS}{D:Ends}{σ:L2.St}{H:Hp}(n:Nat)(Pv:Nat->L2.St->Hp->Prop)(h0:Pv 0 σ H)(hd:∀σ H,Pv n σ H->J.stop n H/\D.nx σ H)(hs:∀i σ H,i<n->Pv i σ H->J.go i H/\∀x H',J.yld i H x H'->g x σ H' λσ2 H2=>tb {D with nx:=Pv (i+1),ct:=Pv (i+1),bk:=D.nx} σ2 H2):∃W:Nat->Nat->L2.St->Hp->Prop,(∃m,W 0 m σ H)/\∀i m σ H,W i m σ H->(J.stop i H/\D.nx σ H)\/(J.go i H/\∃N:L2.St->Hp->Prop,(∀σ' H',N σ' H'->∃m',m'<m/\W (i+1) m' σ' H')/\∀x H',J.yld i H x H'->g x σ H' λσ2 H2=>tb {D with nx:=N,ct:=N,bk:=D.nx} σ2 H2):=by
 refine⟨λi m σ H=>i+m=n/\Pv i σ H,⟨n,by omega,h0⟩,λi m σ H ⟨e,p⟩=>?_⟩;by_cases hi:i<n;obtain⟨g1,g2⟩:=hs i σ H hi p;exact .inr ⟨g1,Pv (i+1),λσ' H' z=>⟨m -1,by omega,by omega,z⟩,g2⟩
 ·have ei:i=n:=by omega
  subst ei;exact .inl (hd σ H p)
theorem N9{J:It}{g:TG}{tt:TT}{te:TE}{vs:List Nat}{σ:L2.St}{H1:Hp}{D:aj}{R:Hp->Prop}(n:Nat)(Pv:Nat->Hp->Prop)(h0:Pv 0 (upd H1 D (.lst [])))(hd:∀H,Pv n H->J.stop n H/\R H)(hs:∀i H,i<n->Pv i H->J.go i H/\∀x H',J.yld i H x H'->g x (wipe σ vs) H' λσ2 H2=>wipe σ2 vs=wipe σ vs/\tt σ2 H2 λb H3=>
   if b=true then te σ2 H3 λy H4=>∃acc,H4 D=ae (.lst acc)/\acc.length<aM/\Pv (i+1) (upd H4 D (.lst (acc++[y]))) else Pv (i+1) H3):
  ∃W:Nat->Nat->Hp->Prop,(∃m,W 0 m (upd H1 D (.lst [])))/\∀i m H,W i m H->(J.stop i H/\R H)\/(J.go i H/\∃Nx:Hp->Prop,(∀H',Nx H'->∃m',m'<m/\W (i+1) m' H')/\∀x H',J.yld i H x H'->g x (wipe σ vs) H' λσ2 H2=>wipe σ2 vs=wipe σ vs/\tt σ2 H2 λb H3=>
    if b=true then te σ2 H3 λy H4=>∃acc,H4 D=ae (.lst acc)/\acc.length<aM/\Nx (upd H4 D (.lst (acc++[y]))) else Nx H3):=by
 refine⟨λi m H=>i+m=n/\Pv i H,⟨n,by omega,h0⟩,λi m H ⟨e,p⟩=>?_⟩;by_cases hi:i<n;obtain⟨g1,g2⟩:=hs i H hi p;exact .inr ⟨g1,Pv (i+1),λH' z=>⟨m -1,by omega,by omega,z⟩,g2⟩
 ·have ei:i=n:=by omega
  subst ei;exact .inl (hd H p)
end
theorem EZ{P:bg}{w:cn}{H:Hp}{h:df}{a:aj}:∀{o:HO},jv P w H h a o->∃u,h.get? a=ae u
 | .lst _,⟨_,_,_,_,e⟩=>⟨_,e⟩
 | .tup _,⟨_,_,_,o,e,_⟩=>⟨_,e⟩
 | .dK _,⟨_,_,_,_,o,_,_,e,_⟩=>⟨_,e⟩
 | .dT _,⟨_,_,_,_,o,_,_,e,_⟩=>⟨_,e⟩
 | .set _ _,⟨o,_,_,_,e,_⟩=>⟨_,e⟩
 | .ins _ _ _,⟨_,_,_,e,_⟩=>⟨_,e⟩
 | .own _,⟨_,e⟩=>⟨_,e⟩
 | .xd _,⟨_,⟨_,_,_,e,_⟩,_⟩=>⟨_,e⟩
 | .rng _ _,⟨_,_,_,e⟩=>⟨_,e⟩
 | .jq _ _,⟨e,_⟩=>⟨_,e⟩
 | .tbl _,e=>⟨_,e⟩
 | .met _ _,e=>⟨_,e⟩
 | .ext _,⟨_,⟨_,e⟩,_⟩=>⟨_,e⟩
def Ih(P:bg)(w:cn)(C:aj):Sv:=λouter H s E e s'=>∃(ea:aj) (a0:ax) (H':Hp) (B:df),e= .ref ea/\s'.os=s.os/\yj s'.gens/\Un (Ey outer) [] H H' s.heap s'.heap/\xl P w H' s'.heap/\Sf B outer ea (.ref C) a0 s'.heap/\(∀b o,s'.heap.get? b=ae o->H' b≠ay->B.get? b=ae o)/\(∀b o,s.heap.get? b=ae o->H b=ay->b∉Ey outer->B.get? b=ae o)/\(∀b o,s.heap.get? b=ae o->b∉Ey outer->∃o',B.get? b=ae o')/\E (.ref C) ay H'
section
variable{X:Cx}{pins:List (aj×Obj)}{σ:L2.St}{H H':Hp}{s s':aE}{B h2:df}
theorem Y1(I:Inv X pins σ H s)(os:s'.os=s.os)(bare:yj s'.gens)(un:Un (Ey X.stack) [] H H' s.heap s'.heap)(gB:xl X.prog X.w H' s'.heap)(k1:∀b o,s'.heap.get? b=ae o->H' b≠ay->B.get? b=ae o)(k2:∀b o,s.heap.get? b=ae o->H b=ay->b∉Ey X.stack->B.get? b=ae o)(k3:∀b o,s.heap.get? b=ae o->b∉Ey X.stack->∃o',B.get? b=ae o')(st:B.StaysIn h2)(up:s'.heap.UpToSlots h2):Inv X pins σ H' {s' with heap:=h2}:=by
 have aiX:xl X.prog X.w H' h2:=λa o e=>(gB a o e).yi (λb u hb q=>st b u (k1 b u q (by
  obtain rfl|hb:=hb
  rw[e];simp;rw[hb];simp))) (λ_ q=>q) λ_ _ q=>q
 have slot:∀b o,s.heap.get? b=ae o->H b=ay->b∈Ey X.stack->∃sl,h2.get? b=ae {o with slots:=sl}:=λb o q n hb=>by
  obtain⟨sl,e1⟩:=un.slot b o q n hb (by simp);obtain⟨_,o',P4,hd⟩:=I.stack.mem hb;rw[q] at P4;cases P4;obtain⟨sl',e2⟩:=up b _ e1 hd;exact⟨sl',e2⟩
 have un2:Un (Ey X.stack) [] H H' s.heap h2:=⟨λb o q n hb _=>st b o (k2 b o q n hb),λb o q n hb _=>slot b o q n hb,un.free,λb o q _=>by
  by_cases hb:b∈Ey X.stack;obtain⟨sl,e⟩:=slot b o q (I.HY b hb) hb;exact⟨_,e⟩;obtain⟨o',e⟩:=k3 b o q hb;exact⟨o',st _ _ e⟩,un.Lp,un.GK,un.Lq⟩
 exact I.acv (s':={s' with heap:=h2}) (ch:=[]) os un2 aiX bare λb z=>absurd z (by simp)
end
section
variable{P:bg}{w:cn}{K:au}{mg:Str->Option ax}{base:df}{N:List Str}{qual:Str}{scope:m_}{f C:aj}{cd:ax}{A:Around}{outer:List Env}{s0:aE}{H0:Hp}{E:XK}
theorem Y2{CX:Sv}{xe:ax->aE->Prop}{pins:List (aj×Obj)}{σ:L2.St}{H H':Hp}{s s':aE}{B h2:df}{ea:aj}{a0:ax}(I:Inv ((xo CX P w K mg base N qual scope f cd A outer s0 H0 E).EH xe) pins σ H s)(os:s'.os=s.os)(bare:yj s'.gens)(un:Un (Ey (envOfC qual scope s0.heap.objs.size f cd::outer)) [] H H' s.heap s'.heap)(gB:xl P w H' s'.heap)(k1:∀b o,s'.heap.get? b=ae o->H' b≠ay->B.get? b=ae o)(k2:∀b o,s.heap.get? b=ae o->H b=ay->b∉Ey (envOfC qual scope s0.heap.objs.size f cd::outer)->B.get? b=ae o)(k3:∀b o,s.heap.get? b=ae o->b∉Ey (envOfC qual scope s0.heap.objs.size f cd::outer)->∃o',B.get? b=ae o')(fl:Sf B outer ea (.ref C) a0 h2)(up:s'.heap.UpToSlots h2)(hE:E (.ref C) ay H'):Ih P w C outer H0 s0 E (.ref ea) {s' with heap:=h2}:=by
 have J:=Y1 I os bare un gB k1 k2 k3 fl.1 up;have ns:∀b o,s0.heap.get? b=ae o->b∉Ey outer->b∉Ey (envOfC qual scope s0.heap.objs.size f cd::outer):=λb o q hb z=>by
  obtain e|e:=aF.mp (I.NP b z)
  exact bM (bN q) (by rw[e];exact fX _);exact hb e
 refine⟨ea,a0,H',B,rfl,J.os,J.bare,J.base,J.gB,fl,λb o q n=>?_,λb o q n hb=>?_,λb o q hb=>?_,hE⟩
 ·cases hu:H' b with
  |none=>exact bM hu n
  |some u=>
   obtain⟨o',e⟩:=EZ (gB b u hu);have eb:=k1 b o' e n;have e2:=fl.1 b o' eb;have q':h2.get? b=ae o:=q;rw[q'] at e2;cases e2;exact eb
 exact k2 b o (I.base.keep b o q n hb (by intro z;cases z)) (I.base.free b o q n (by intro z;cases z)) (ns b o q hb);obtain⟨o1,e1⟩:=I.base.there b o q (by intro z;cases z);exact k3 b o1 e1 (ns b o q hb)
theorem oa:vP (Ih P w C) (xo (Ih P w C) P w K mg base N qual scope f cd A outer s0 H0 E) E:=by
 intro pins σ H s e s' I h;obtain⟨ea,a0,H',B,rfl,os,bare,un,gB,fl,k1,k2,k3,hE⟩:=h;refine wpAny_leaves_onW (base:=B) (L:=s0.heap.objs.size) I.ok.frames rfl fl λh2 fl2 up=>?_;exact Y2 (CX:=Ih P w C) (I.EH (xo (Ih P w C) P w K mg base N qual scope f cd A outer s0 H0 E).xe) os bare un gB k1 k2 k3 fl2 up hE
end
theorem Y3{K:au}{h:df}{C:aj}{bmB:List ax}{newId:String}(X:K.In h)(q:vJ K C bmB newId=true):∃bm N nm qn bs hd sn sub ab col dd k0 k1 k2 k3 k5 mN,h.get? C=ae (excClassObj nm qn C N bs bm hd sn sub ab col dd k0 k1 k2 k3 k5 newId)/\h.Ns N mN/\mN "__init__"=ay/\OwnTail h bmB bm:=by
 unfold vJ at q;split at q
 ·rename_i dd cl slots look;split at q
  ·rename_i Cm tl s0 s1 s2 s3 nid s5 em es;rw[aH,aH,aH,aH,aH] at q;obtain⟨⟨⟨⟨⟨q1,q2⟩,q3⟩,q4⟩,q5⟩,q6⟩:=q;have e1:Cm=C:=by simpa using q1
   have e2:nid=newId:=by simpa using q2
   have e3:cl.hasDel=false:=by simpa using q3
   have e6:PySem.W.nsIn K cl.ns "__init__"=ae ay:=by simpa using q6
   subst e1 e2;have esl:slots= #[s0,s1,s2,s3,ae (.builtin nid),s5]:=by
    cases slots;exact da Array.mk es
   cases cl;dsimp only at em e3 q5 e6;subst em e3 esl;exact⟨_,_,_,_,_,_,_,_,_,_,_,_,_,_,_,_,_,X _ _ look,.of_isNs (PySem.W.isNs_of_in X q5),PySem.W.nsMap_none_of_in X q5 e6,PySem.W.tail_of_in X q4⟩
  cases q
 cases q
def adU(C:aj)(E:XK)(t:TA):TS:=λ_ σ H=>t σ H λvs H1=>vs.length<=aM/\E (.ref C) ay H1
section
variable{P:bg}{w:cn}{K:au}{mg:Str->Option ax}{base:df}{N:List Str}{qual:Str}{scope:m_}{f C:aj}{cd:ax}{A:Around}{outer:List Env}{s0:aE}{H0:Hp}{E:XK}
theorem Y4{x:Str}{np kD pos:Pos}{e0:eJ}{rest:List eJ}{t:TA}{bmB:List ax}{Bn newId adV:String}(q:vJ K C bmB newId=true)(FB:ExcBaseFacts Bn newId adV bmB)(hg:Gl (xo (Ih P w C) P w K mg base N qual scope f cd A outer s0 H0 E) x)(hm:mg x=ae (.ref C))(ha:PA (xo (Ih P w C) P w K mg base N qual scope f cd A outer s0 H0 E) (e0::rest) t)(Ts:(x==("__debug__":Str))=false:=by decide)(he:starEach (e0::rest) (xo (Ih P w C) P w K mg base N qual scope f cd A outer s0 H0 E).env=(false,eval e0 (xo (Ih P w C) P w K mg base N qual scope f cd A outer s0 H0 E).env)::starEach rest (xo (Ih P w C) P w K mg base N qual scope f cd A outer s0 H0 E).env:=by rfl)(C5:(backTo kD (starEach rest (xo (Ih P w C) P w K mg base N qual scope f cd A outer s0 H0 E).env)).any (·.1)=false:=by rfl):PS (xo (Ih P w C) P w K mg base N qual scope f cd A outer s0 H0 E) (.Raise (ae (.Call (.Name x np) (e0::rest) [] kD)) ay pos) (adU C E t):=by
 intro pins s σ H D I h;obtain⟨bm,Nn,nm,qn,bs,hd,sn,sub,ab,col,dd,k0,k1,k2,k3,k5,mN,hC,hN,hni,T⟩:=Y3 I.mod.kin q;have aiY:(backTo kD (starEach (e0::rest) (xo (Ih P w C) P w K mg base N qual scope f cd A outer s0 H0 E).env)).any (·.1)=false:=by
  rw[he];exact(Bool.or_eq_false_iff.mpr ⟨rfl,C5⟩)
 refine wpAny_Raise_call_subT (C:=C) (nm:=nm) (q:=qn) (N:=Nn) (bs:=bs) (bm:=bm) (hdct:=hd) (sn:=sn) (sub:=sub) (ab:=ab) (col:=col) (dd:=dd) (k0:=k0) (k1:=k1) (k2:=k2) (k3:=k3) (k5:=k5) FB (mN:=mN) (T.hasType FB.hasBase) (I.ok.hd rfl) aiY hni (Aj I hg hm ⟨rfl,?_⟩ Ts);have h1:=ha kD pins s σ H _ I h;rw[he] at h1⊢;refine nj (iU h1 λus s2 ⟨vs,H2,I2,r,hl,hE⟩=>⟨rfl,by rw[<-r.length];exact hl,I2.bk _ _ hC,hN.keeps I2.bk,T.keeps I2.bk,λh' ea hm2=>?_⟩);have nf:∀b o,s2.heap.get? b=ae o->b∉Ey (envOfC qual scope s0.heap.objs.size f cd::outer)->(Gx s2.heap (Ey (envOfC qual scope s0.heap.objs.size f cd::outer))).get? b=ae o:=λb o e n=>R_ _ e n;refine wpAny_leaves_madeW (base:=Gx s2.heap (Ey (envOfC qual scope s0.heap.objs.size f cd::outer))) (h:=s2.heap) (L:=s0.heap.objs.size) I2.ok.frames rfl (λb o e=>SV _ e) (PySem.W.funFrames_hide I2.stack λenv he b hb=>Ep.mpr ⟨env,he,hb⟩) hm2 λh3 ta fl _ _ up=>?_;refine Y2 (CX:=Ih P w C) (s':={s2 with heap:=h'}) (H':=H2) (I2.EH (xo (Ih P w C) P w K mg base N qual scope f cd A outer s0 H0 E).xe) rfl I2.bare (Un.kept hm2.keeps) (I2.gB.kept hm2.keeps) (λb o e n=>?_) (λb o e _ n=>nf b o e n) (λb o e n=>⟨o,nf b o e n⟩) fl up hE;cases hu:H2 b with
 |none=>exact bM hu n
 |some u=>
  obtain⟨o',e'⟩:=EZ (I2.gB b u hu);have e2:=hm2.keeps b o' e';have q':h'.get? b=ae o:=e;rw[q'] at e2;cases e2;exact nf b o e' λz=>by rw[I2.HY b z] at hu;cases hu
end
def aiZ(tb:XK->TS)(th:TS):TS:=λD σ H=>tb (λ_ _ H'=>∀σ':L2.St,σ'.length=σ.length->th D σ' H') D σ H
section
variable{X:Cx}{C:aj}{x:Str}{np TR pos:Pos}{body:List dX}{b0:dX}{acL:List dX}{tb:XK->TS}{th:TS}{bmB:List ax}{newId:String}
theorem adW(hs:X.stack=X.env::X.outer)(hf:X.env.frame=ae X.env.locals)(q:vJ X.K C bmB newId=true)(yF:bmB.contains (.type "BaseException")=true)(hg:Gl X x)(hm:X.mg x=ae (.ref C))(hb:∀(E:XK) (pn:List (aj×Obj)) (xe:ax->aE->Prop),vP (Ih X.prog X.w C) {X with pn:=pn,xe:=xe} E->Sr {X with pn:=pn,xe:=xe} body (tb E))(hh:∀A':Around,Sr {X with A:=A',calm:=false,xe:=λ_ _=>False} (b0::acL) th)(Ts:(x==("__debug__":Str))=false:=by decide):PS X (.Try body [.ExceptHandler (ae (.Name x np)) ay (b0::acL) TR] [] [] pos) (aiZ tb th):=by
 intro pins s σ H D I h;refine wpAny_Try_except ?_;have toX:∀{xe:ax->aE->Prop} {pn:List (aj×Obj)} {pp:List (aj×Obj)} {σ':L2.St} {H':Hp} {s':aE},Inv {X with pn:=X.pn++pins,xe:=xe} pp σ' H' s'->Inv X pins σ' H' s':=λ{xe pn pp σ' H' s'} J=>
  ⟨I.ok,J.os,J.bare,J.base,J.loc,J.cell,J.free,J.rX,λp hp=>J.pin p (bO _ hp),J.gB,J.len⟩
 refine iG (hb (λ_ _ H'=>∀σ':L2.St,σ'.length=σ.length->th D σ' H') (X.pn++pins) _ ?_ [] s σ H D ⟨⟨I.ok.mod,I.ok.kind,I.ok.glob,I.ok.blt,I.ok.above,I.ok.inj,I.ok.has,I.ok.cab,I.ok.hd,I.ok.frames,I.ok.xP,I.ok.exf,I.ok.bs,I.ok.Yq,I.ok.S',I.ok.Ta,I.ok.C3,I.ok.frf⟩,I.os,I.bare,I.base,I.loc,I.cell,I.free,I.rX,λp hp=>I.pin p (by rw[cD] at hp;exact hp),I.gB,I.len⟩ h) (λfl s1 z=>?_) λe s1 z=>z
 ·intro ak8 σ2 H2 s2 e s3 I2 hc;obtain⟨ea,a0,H',B,rfl,os,bare,un,gB,fl,k1,k2,k3,hE⟩:=hc;have fl0:Sf B (X.env::X.outer) ea (.ref C) a0 s3.heap:=by rw[<-hs];exact fl
  have len:σ2.length=σ.length:=I2.len.trans I.len.symm;have toY:∀{h5:df},B.StaysIn h5->s3.heap.UpToSlots h5->Inv {X with A:=X.A.mark (ae (.ref ea)),calm:=false,xe:=λ_ _=>False} pins σ2 H' {s3 with heap:=h5}:=λ{h5} st up=>by
   have J:=toX (pn:=[]) (Y1 I2 os bare un gB k1 k2 k3 st up);exact⟨⟨J.ok.mod,J.ok.kind,J.ok.glob,J.ok.blt,J.ok.above,J.ok.inj,J.ok.has,J.ok.cab,(λz=>by cases z),J.ok.frames,J.ok.xP,J.ok.exf,J.ok.bs,J.ok.Yq,J.ok.S',J.ok.Ta,J.ok.C3,J.ok.frf⟩,J.os,J.bare,J.base,J.loc,J.cell,J.free,J.rX,J.pin,J.gB,J.len⟩
  show bR (cG X.prog X.w) X.A (noteFrame (.ref ea) X.env) _ _ s3;refine wpAny_looks_onW (base:=B) (env:=X.env) (outer:=X.outer) (L:=X.env.locals) (by rw[I.ok.frames,hs]) hf fl0 λh4 held up4=>?_;refine wpAny_landsW held λh5 fl5 up5=>?_;have J5:=toY fl5.1 (up4.trans up5);obtain⟨bm,Nn,nm,qn,bs,hd,sn,sub,ab,col,dd,j0,j1,j2,j3,j5,mN,hC,hN,hni,T⟩:=Y3 J5.P2 q;obtain⟨ob,hob,ai1⟩:=fl5.there;refine wpAny_handleBy_cons (codeAny_handlers_test (Aj (X:={X with A:=X.A.mark (ae (.ref ea)),calm:=false,xe:=λ_ _=>False}) J5 hg hm ?_ Ts)) (by intro z;cases z);refine wpAny_excMatches_sub_self hC hob ai1 (T.hasType yF) (codeAny_handlers_suite ?_);refine lands_againW fl5 λh6 fl6 up6=>?_;have J6:=toY fl6.1 ((up4.trans up5).trans up6);refine iG (hh (X.A.mark (ae (.ref ea))) pins _ σ2 H' D J6 (hE σ2 len)) (λfl s7 z=>?_) λ_ _ z=>z.elim;have back:∀{σ':L2.St} {N_:Hp} {s':aE},Inv {X with A:=X.A.mark (ae (.ref ea)),calm:=false,xe:=λ_ _=>False} pins σ' N_ s'->Inv X pins σ' N_ s':=λ{σ' N_ s'} J=>
   ⟨I.ok,J.os,J.bare,J.base,J.loc,J.cell,J.free,J.rX,J.pin,J.gB,J.len⟩
  show SP X pins D fl s7;cases fl with
  |next=>obtain⟨σ',N_,J,z⟩:=z;exact⟨σ',N_,back J,z⟩
  |brk=>obtain⟨σ',N_,J,z⟩:=z;exact⟨σ',N_,back J,z⟩
  |cont=>obtain⟨σ',N_,J,z⟩:=z;exact⟨σ',N_,back J,z⟩
  |ret u=>obtain⟨v,σ',N_,J,r,z⟩:=z;exact⟨v,σ',N_,back J,r,z⟩
 ·cases fl with
  |next=>obtain⟨σ',N_,J,z⟩:=z;exact vH ⟨σ',N_,toX (pn:=[]) J,z⟩
  |brk=>obtain⟨σ',N_,J,z⟩:=z;exact⟨σ',N_,toX (pn:=[]) J,z⟩
  |cont=>obtain⟨σ',N_,J,z⟩:=z;exact⟨σ',N_,toX (pn:=[]) J,z⟩
  |ret u=>obtain⟨v,σ',N_,J,r,z⟩:=z;exact⟨v,σ',N_,toX (pn:=[]) J,r,z⟩
end
theorem jn.okX{P:bg}{w:cn}{K:au}{mg:Str->Option ax}{base:df}{CX:Sv}{x qual:Str}{st:dX}{f:aj}{fd:bq}{N ps:List Str}{k:Nat}{sp:Sp}(F:L2.jn K x qual st f fd)(S:bS N ps (a_ st))(len:∀vs H Q E,sp vs H Q E->vs.length=ps.length)(Qc:∀(iq:ax) (A:Around) (outer:List Env) (s:aE) (H:Hp) (vs:List V) (Q:VK) (E:XK),pH k (A.deeper (envOfC qual (a_ st) s.heap.objs.size f iq))->sp vs H Q E->∃t,Sr (xo CX P w K mg base N qual (a_ st) f iq A outer s H E) (Dd st) t/\t {nx:=λ_ H'=>Q .non H',rt:=Q} (start N vs) H):dU P w K mg base CX (k+1) f fd ps sp:=by
 obtain⟨oc,od,kV,doc,pm,an,iq,ct,osl,rfl,lk,hcd⟩:=F.ex;exact acD lk hcd S len λA outer s H vs Q E hr Ya=>Qc iq A outer s H vs Q E hr Ya
section
variable{X:Cx}{pins:List (aj×Obj)}{σ:L2.St}{H:Hp}{s:aE}
theorem acM{a:aj}{o:HO}{t':Nat}{h':df}(I:Inv X pins σ H s)(k:∀b u,s.heap.get? b=ae u->h'.get? b=ae u)(hg:s.heap.get? a=ay)(new:jv X.prog X.w (upd H a o) h' a o):H a=ay/\Inv X pins σ (upd H a o) {s with heap:=h',toks:=t'}:=by
 have hn:H a=ay:=by
  cases q:H a with
  |none=>rfl
  |some u=>
   obtain⟨v,e⟩:=EZ (I.gB a u q);rw[hg] at e;cases e
 refine⟨hn,I.un ⟨λb u q _ _ _=>k b u q,λb u q _ _ _=>⟨u.slots,k b u q⟩,λb u q n _=>?_,λb u q _=>⟨u,k b u q⟩,λb xs q=>?_,λb u xs q=>?_,λb ps q=>?_⟩ λb u e=>?_⟩;rw[cZ (λz=>by rw[z,hg] at q;cases q)];exact n;rw[cZ (aI q hn)];exact q;rw[cZ (aI q hn)];exact q;exact⟨#[],by rw[cZ (aI q hn),q];simp⟩
 ·by_cases hb:b=a;subst hb;rw[aq] at e;cases e;exact new
  ·rw[cZ hb] at e;exact(I.gB b u e).yi (λc v _ q=>k c v q) (λc q=>by rw[cZ (aI q hn)];exact q) λc xs q=>by rw[cZ (aI q hn)];exact q
def adX(K:au):List V->Hp->VK->Prop:=λvs H Q=>∃(a:aj) (ns:List Int),vs=[V.ref a]/\dS K H a (ns.map V.int)/\∀(yN:List Int) (p:aj),yN.Perm ns->yN.Pairwise (·<=·)->H p=ay->Q (.ref p) (upd H p (.lst (yN.map V.int)))
theorem Y5:Bm X (.builtin "sorted") (adX X.K):=by
 intro pins s σ H vs us Q I r h;obtain⟨a,ns,rfl,hs,q⟩:=h;obtain⟨its,rv,hl,hz⟩:=I.list hs;rw[fj.YL r];have hlen:=rv.length;rw[ag] at hlen hz;refine sorted_intsAny hl.isList rv.ints (by rw[<-hlen];exact hz) λout yN h1 h2 h3=>?_;obtain⟨ep,e⟩:=sortedAll_at s.heap its out;exact⟨.ref _,upd H (s.heap.objs.size+1) (.lst (yN.map V.int)),I.laid (t':=s.toks) (λ_ _=>sortedAll_old) (nJ _) ⟨by rw[ag,h2.length_eq];exact hz,out.toList,ep,tN h1,e⟩,rfl,q yN _ h2 h3 (I.gB.fresh (nJ _))⟩
end
section
variable{prog:bg}{w:cn}{A:Around}{E:ax->aE->Prop}{s:aE}{d:aj}{ns:List Int}{vs:List (Key×ax)}{Q:ax->aE->Prop}
theorem xr{P:bg}{w:cn}:∀{vs:List (Key×ax)} {ns:List Int} {us:List ax},vs.map (·.1)=ns.map cO->us.length=vs.length->(∀(j:Nat) (v:ax),us[j]? =ae v->∃k x,vs[j]? =ae (k,x)/\(fK P w).is k v=true)->B_ us ns
 |[],[],[],_,_,_=> .nil
 |[],_::_,_,e,_,_=>by simp at e
 |_::_,[],_,e,_,_=>by simp at e
 |[],[],_::_,_,l,_=>by simp at l
 |_::_,_::_,[],_,l,_=>by simp at l
 |p::r,n::m,u::us,e,l,h=>by
  rw[aU,aU] at e;injection e with e1 e2
  obtain⟨k,x,hx,hk⟩:=h 0 u rfl;have ep:p=(k,x):=by simpa using hx
  subst ep;have Y6:k=cO n:=e1;subst Y6;obtain⟨t,rfl⟩:=(show∃t,u=rT n t from IZ (k:=cO n) hk);exact .cons n t (xr e2 (by simpa using l) λj v hj=>by
   obtain⟨k',x',hx',Qn⟩:=h (j+1) v (by simpa using hj);exact⟨k',x',by simpa using hx',Qn⟩)
theorem Wy(hh:A.handled=ay)(hD:s.heap.DictOf (fK prog w) d vs)(lo:(d==d7)=false)(hz:vs.length<=aM)(hk:vs.map (·.1)=ns.map cO)(h:∀(h':df) (tk:Nat) (D:aj) (its:List ax) (yN:List Int) (c:Nat),(∀b o,s.heap.get? b=ae o->h'.get? b=ae o)->s.heap.get? D=ay->h'.get? D=ae {cls:= .type "list",data:= .seq its.toArray c}->B_ its yN->yN.Perm ns->yN.Pairwise (·<=·)->Q (.ref D) {s with heap:=h',toks:=tk}):bR (cG prog w) A (call (.builtin "sorted") [.ref d]) Q E s:=by
 obtain⟨ep,Wz⟩:=hD.dictAt;refine Mx kind_sorted plain_sorted entry_sorted (args_sorted1 _) (by
  unfold IA.«sorted»;refine ak (m:=checkCount "sorted" 1 1 _) (aS (ak (Sg (A:=A.in1) (V7 (knd:=fK prog w) (kvs:=vs) (ep:=ep) lo) hh Wz hz λh' tk acc WB Qy=>?_)));have hl:acc.toList.length=vs.length:=by rw[g_];exact Qy.1
  have hI:B_ acc.toList ns:=xr (P:=prog) (w:=w) hk hl λj v e=>Qy.2 j v (by rw[<-rN];exact e);refine ak (V8 ?_ (by rw[hl];exact hz));have hoL:(h'.push {cls:= .type "list",data:= .seq acc.toList.toArray}).get? h'.objs.size=ae (seqObj "list" acc.toList.toArray 0):=bA _ rfl;refine ak (qY (iH slot_list_sort ⟨_,hoL,rfl⟩ entry_list_sort (list_sort_treeAny hoL hI (by rw[hl];exact hz) λout yN a1 a2 a3=>⟨_,rfl,?_⟩) (args_list_sort _)));refine aS ⟨_,rfl,?_⟩;obtain⟨c,hc⟩:=sortedHeap_at (out:=out) hoL;exact h _ tk h'.objs.size out.toList yN c (λb o e=>by
   rw[sortedHeap_old (dR (bN (WB b o e))) (cS (bN (WB b o e)) (by rw[size_push'];exact nJ _))];exact aG _ (WB b o e)) (by
    cases q:s.heap.get? h'.objs.size with
    |none=>rfl
    |some o=>exact bM (bN (WB _ o q)) (fX _)) hc a1 a2 a3)
theorem TV(hh:A.handled=ay)(hD:s.heap.DictOf (fK prog w) d vs)(lo:(d==d7)=false)(hz:vs.length<=aM)(hk:vs.map (·.1)=ns.map cO)(h:∀(h':df) (tk:Nat) (D:aj) (its:List ax) (yN:List Int) (c:Nat),(∀b o,s.heap.get? b=ae o->h'.get? b=ae o)->s.heap.get? D=ay->h'.get? D=ae {cls:= .type "list",data:= .seq its.toArray c}->B_ its yN->yN.Perm ns->yN.Pairwise (·>=·)->Q (.ref D) {s with heap:=h',toks:=tk}):bR (cG prog w) A (call (.builtin "sorted") [.ref d] [(gJ "reverse",.bool true)]) Q E s:=by
 obtain⟨ep,Wz⟩:=hD.dictAt;refine call_function_entry_kw kind_sorted plain_sorted entry_sorted (args_sorted_rev _ _) (by
  unfold IA.«sorted»;refine ak (m:=checkCount "sorted" 1 1 _) (aS (ak (Sg (A:=A.in1) (V7 (knd:=fK prog w) (kvs:=vs) (ep:=ep) lo) hh Wz hz λh' tk acc WB Qy=>?_)));have hl:acc.toList.length=vs.length:=by rw[g_];exact Qy.1
  have hI:B_ acc.toList ns:=xr (P:=prog) (w:=w) hk hl λj v e=>Qy.2 j v (by rw[<-rN];exact e);refine ak (V8 ?_ (by rw[hl];exact hz));have hoL:(h'.push {cls:= .type "list",data:= .seq acc.toList.toArray}).get? h'.objs.size=ae (seqObj "list" acc.toList.toArray 0):=bA _ rfl;refine ak (qY (wpAny_call_entry_kw slot_list_sort ⟨_,hoL,rfl⟩ entry_list_sort (list_sort_tree_revAny (b:=true) hoL hI (by rw[hl];exact hz) λout yN a1 a2 a3=>⟨_,rfl,?_⟩) (args_list_sort_rev _ _)));refine aS ⟨_,rfl,?_⟩;obtain⟨c,hc⟩:=sortedHeap_at (out:=out) hoL;exact h _ tk h'.objs.size out.toList yN c (λb o e=>by
   rw[sortedHeap_old (dR (bN (WB b o e))) (cS (bN (WB b o e)) (by rw[size_push'];exact nJ _))];exact aG _ (WB b o e)) (by
    cases q:s.heap.get? h'.objs.size with
    |none=>rfl
    |some o=>exact bM (bN (WB _ o q)) (fX _)) hc a1 a2 a3)
end
section
variable{X:Cx}
def adY:List V->Hp->VK->Prop:=λvs H Q=>∃(a:aj) (kvs:List (Key×V)) (ns:List Int),vs=[V.ref a]/\Rd H a (.dK kvs)/\kvs.map (·.1)=ns.map cO/\∀(yN:List Int) (p:aj),yN.Perm ns->yN.Pairwise (·<=·)->H p=ay->Q (.ref p) (upd H p (.lst (yN.map V.int)))
theorem Qz(hc:X.calm=true):Bm X (.builtin "sorted") adY:=by
 intro pins s σ H vs us Q I r h;obtain⟨a,kvs,ns,rfl,ha,hk,q⟩:=h;rw[fj.YL r];obtain⟨z,hd,ws,rel,dd⟩:=Bo I.gB ha;have hlen:=da gE hk;rw[ag,ag] at hlen;refine Wy (I.ok.hd hc) dd hd (by rw[<-rel.length];exact z) (by rw[<-rel.keys];exact hk) λh' tk D its yN c WB hD hl hI hp hs=>?_;obtain⟨n1,I1⟩:=acM (t':=tk) (o:= .lst (yN.map V.int)) I WB hD ⟨by rw[ag,hp.length_eq,<-hlen];exact z,its,c,tN hI,hl⟩;exact⟨.ref D,_,I1,rfl,q yN D hp hs n1⟩
def TX(X:Cx)(f:ax)(ks:List Str)(r:List V->List V->Hp->VK->Prop):Prop:=∀(pins:List (aj×Obj)) (s:aE) (σ:L2.St) (H:Hp) (vs:List V) (us:List ax) (zs:List V) (ws:List ax) (Q:VK),Inv X pins σ H s->fj vs us->fj zs ws->r vs zs H Q->bR (cG X.prog X.w) X.A (call f us (ks.zip ws)) (EP X pins σ Q) X.xe s
def ai2(r:List V->List V->Hp->VK->Prop)(t tk:TA):TE:=λσ H Q=>t σ H λvs H1=>tk σ H1 λzs H2=>r vs zs H2 Q
theorem M3{id:String}{x:Str}{ks:List Str}{r:List V->List V->Hp->VK->Prop}{t tk:TA}{e:eJ}{es:List eJ}{kws:List B9}{p pos:Pos}(hc:TX X (.builtin id) ks r)(hg:Gl X x)(hm:X.mg x=ay)(hv:bootBuiltins x=ae (.builtin id))(ha:PA X (e::es) t)(hkw:PK X kws tk)(hks:(backToKw pos (keywordEach kws X.env)).filterMap (·.1)=ks:=by rfl)(hn:x≠"__name__":=by decide)(Ts:(x==("__debug__":Str))=false:=by decide)(he:backTo pos (starEach (e::es) X.env)=(false,eval e X.env)::backTo pos (starEach es X.env):=by rfl)(C5:(backTo pos (starEach (e::es) X.env)).any (·.1)=false:=by rfl)(p8:(backToKw pos (keywordEach kws X.env)).all (·.1.isSome)=true:=by rfl)(hno:(backToKw pos (keywordEach kws X.env)).any (·.1.isNone)=false:=by rfl):PE X (.Call (.Name x p) (e::es) kws pos) (ai2 r t tk):=by
 intro pins s σ H Q I h;refine jH (EG I hg hm hv (callWith_kw (iU (ha pos pins s σ H _ I h) λus s1 ⟨vs,H1,I1,r1,q1⟩=>iU (hkw pos pins s1 σ H1 _ I1 q1) λws s2 ⟨zs,H2,I2,r2,q2⟩=>?_) he C5 p8 hno) hn Ts);rw[hks];exact hc pins s2 σ H2 vs us zs ws Q I2 r1 r2 q2
def abx:List V->List V->Hp->VK->Prop:=λvs zs H Q=>zs=[V.bl true]/\∃(a:aj) (kvs:List (Key×V)) (ns:List Int),vs=[V.ref a]/\Rd H a (.dK kvs)/\kvs.map (·.1)=ns.map cO/\∀(yN:List Int) (p:aj),yN.Perm ns->yN.Pairwise (·>=·)->H p=ay->Q (.ref p) (upd H p (.lst (yN.map V.int)))
theorem WC(hc:X.calm=true):TX X (.builtin "sorted") ["reverse"] abx:=by
 intro pins s σ H vs us zs ws Q I r rz h;obtain⟨rfl,a,kvs,ns,rfl,ha,hk,q⟩:=h;rw[fj.YL r];obtain⟨u,rfl,ru⟩:=vals1 rz;cases (show u=V2 true from ru);obtain⟨z,hd,ws,rel,dd⟩:=Bo I.gB ha;have hlen:=da gE hk;rw[ag,ag] at hlen;refine TV (I.ok.hd hc) dd hd (by rw[<-rel.length];exact z) (by rw[<-rel.keys];exact hk) λh' tk D its yN c WB hD hl hI hp hs=>?_;obtain⟨n1,I1⟩:=acM (t':=tk) (o:= .lst (yN.map V.int)) I WB hD ⟨by rw[ag,hp.length_eq,<-hlen];exact z,its,c,tN hI,hl⟩;exact⟨.ref D,_,I1,rfl,q yN D hp hs n1⟩
end
section
variable{prog:bg}{w:cn}{A:Around}{R:Result->aE->Prop}{I:aj}{fp wr:List aj}{n:Nat}{P:Nat->ax->Prop}{St:Nat->df->Prop}
def adZ(P:Nat->ax->Prop)(bt:Nat->Nat->Bool)(j:Nat)(arr:Array ax):Prop:=(j=0/\arr= #[])\/∃vb,0<j/\arr= #[vb,vb]/\P (argBest bt (j -1)) vb
theorem WD(W:Walks prog w A.in1 I fp wr n P St)(bt:Nat->Nat->Bool)(ai3:CmpOf prog w A.in1 .Gt P bt)(S:aj)(hSf:S∉fp)(dv:ax):∀(k j:Nat) (s:aE) (arr:Array ax) (c:Nat),n -j=k->j<=n->St j s.heap->adZ P bt j arr->s.heap.get? S=ae {cls:= .type "list",dict:=ay,data:= .seq arr c,slots:= #[]}->(∀v h' tk,((n=0/\v=dv)\/(0<n/\P (argBest bt (n -1)) v))->(∀b o,b∉wr->b≠S->s.heap.get? b=ae o->h'.get? b=ae o)->R (.ok (.ret v)) {s with heap:=h',toks:=tk})->codeAny (cG prog w) A (.builtin "max.loop" ⟨[.ref I,.none,.ref S],[(gJ "default",dv)]⟩) R s:=by
 have hSw:S∉wr:=λh=>hSf (W.sub _ h);have QB:(toString "max"++toString ".loop":String)="max.loop":=by decide
 intro k;induction k with
 |zero=>
  intro j s arr c hk hj X' hB hS hR;have Va:j=n:=by omega
  subst Va;refine codeAny_builtin F.entry_max_loop (by
   rw[Sh pG _];show bR _ A.in1 (seqItems? (.ref S)>>=_) _ _ s;refine ak (iV hS rfl (ak (S7 (W.done s _ _ X' λh' tk Qn=>?_))));have hS':=Qn S _ hSw hS;obtain⟨e0,ea⟩|⟨vb,h0,ea,hP⟩:=hB
   subst ea;refine ak (Ca (aS (hR dv _ tk (.inl ⟨e0,rfl⟩) λb o Yb hbS e=>Qn b o Yb e)));subst ea;refine ak (m:=updateSeq S (λ_=> #[])) (CW hS' rfl (ak (rO (aS ?_))));exact hR vb _ tk (.inr ⟨h0,hP⟩) λb o Yb hbS e=>(lI _ _ (gA hbS)).trans (Qn b o Yb e))
 |succ k ih=>
  intro j s arr c hk hj X' hB hS hR;have Ak:j<n:=by omega
  refine codeAny_builtin F.entry_max_loop (by
   rw[Sh pG _];show bR _ A.in1 (seqItems? (.ref S)>>=_) _ _ s;refine ak (iV hS rfl (ak (S7 (W.item j s _ _ Ak X' λv h' tk hP ad1 Qn=>?_))));have hS':=Qn S _ hSw hS;have other:∀(f:Array ax->Array ax) b,b∈fp->∀o,h'.get? b=ae o->(h'.update S (NC f)).get? b=ae o:=λf b hbf o e=>(lI _ _ (λh:S=b=>hSf (by rw[h];exact hbf))).trans e;obtain⟨e0,ea⟩|⟨vb,h0,ea,hPb⟩:=hB
   subst ea e0;refine ak (m:=updateSeq S (λ_=> #[v,v])) (CW hS' rfl ?_);rw[QB];refine aS ⟨HN pG _,ih 1 _ #[v,v] _ (by omega) Ak (W.frame _ _ _ ad1 (other _)) (.inr ⟨v,Nat.one_pos,rfl,hP⟩) (mj _ hS' rfl) λv' h2 tk2 hP' hk2=>?_⟩;exact hR v' h2 tk2 hP' λb o Yb hbS e=>hk2 b o Yb hbS ((lI _ _ (gA hbS)).trans (Qn b o Yb e))
   ·subst ea;obtain⟨i,rfl⟩:∃i,j=i+1:=⟨j -1,by omega⟩;show bR _ A.in1 (tryCatch (holding [v,v] (richCompare .Gt v vb>>=_)) _>>=_) _ _ _;refine ak (S7 (qY (ak (ai3 (i+1) (argBest bt i) v vb _ _ _ hP hPb (ak (qY (i7 (ak (rO (aS ?_))))))))));cases hb:bt (i+1) (argBest bt i) with
    |true=>
     rw[if_pos rfl];refine ak (m:=updateSeq S (λ_=> #[v,v])) (CW hS' rfl (ak (rO ?_)));rw[QB];refine aS ⟨HN pG _,ih (i+1+1) _ #[v,v] _ (by omega) Ak (W.frame _ _ _ ad1 (other _)) (.inr ⟨v,Nat.succ_pos _,rfl,by show P (argBest bt (i+1)) v;simp only[argBest,hb,if_true];exact hP⟩) (mj _ hS' rfl) λv' h2 tk2 hP' hk2=>?_⟩;exact hR v' h2 tk2 hP' λb o Yb hbS e=>hk2 b o Yb hbS ((lI _ _ (gA hbS)).trans (Qn b o Yb e))
    |false=>
     rw[if_neg bK];refine ak (rO ?_);rw[QB];refine aS ⟨HN pG _,ih (i+1+1) _ #[vb,vb] c (by omega) Ak ad1 (.inr ⟨vb,Nat.succ_pos _,rfl,by show P (argBest bt (i+1)) vb;simp only[argBest,hb,u_,if_false];exact hPb⟩) hS' λv' h2 tk2 hP' hk2=>?_⟩;exact hR v' h2 tk2 hP' λb o Yb hbS e=>hk2 b o Yb hbS (Qn b o Yb e))
end
section
variable{prog:bg}{w:cn}{A:Around}{E:ax->aE->Prop}{s:aE}{l:aj}{its:List ax}{ns:List Int}{Q:ax->aE->Prop}
theorem WG(a v:ax):argsOk "max" ⟨[a],[(gJ "default",v)]⟩:=by unfold argsOk;kernel_rfl
theorem Y7{dv:ax}(hh:A.handled=ay)(hl:s.heap.IsList l its.toArray)(hi:B_ its ns)(h:∀h' tk v,(∀b o,s.heap.get? b=ae o->h'.get? b=ae o)->((ns=[]/\v=dv)\/∃m t,v= .int m t/\m∈ns/\∀a,a∈ns->a<=m)->Q v {s with heap:=h',toks:=tk}):bR (cG prog w) A (call (.builtin "max") [.ref l] [(gJ "default",dv)]) Q E s:=by
 have QB:(toString "max"++toString ".loop":String)="max.loop":=by decide
 obtain⟨xs,e⟩:=hi.allInts.items;have hn:numsOf (intItems xs).toList=ns:=by rw[<-e];exact hi.numsOf
 rw[nums_intItems] at hn;subst hn;rw[e] at hl;obtain⟨ol,hol,_⟩:=id hl;have hll:l<s.heap.objs.size:=bN hol;refine kmk_tree F.kind_max F.plain_max F.entry_max (WG _ _) ?_;show bR _ A.in1 (AQ "max" ["key","default"] 0 ⟨[],[(gJ "default",dv)]⟩>>=_) _ _ s;refine ak (wpAny_of_eq (show AQ "max" ["key","default"] 0 ⟨[],[(gJ "default",dv)]⟩=pure [ay,ae dv] from rfl) (ak (aS (ak (Lg hl (ak (V8 ?_ (cI _))))))));rw[QB];have hS:(s.heap.push {cls:= .type "list_iterator",data:= .fields #[.ref l,.int 0 0]}).objs.size=s.heap.objs.size+1:=size_push' ..;have hlI:l≠s.heap.objs.size:=dR hll;have W:=Walks.list (prog:=prog) (w:=w) (A:=A.in1) hh s.heap.objs.size l hlI (intItems xs);refine aS ⟨HN pG _,WD W (λi j=>decide (numAt xs i>numAt xs j)) (CmpOf.ints_gt (numAt xs) (λ_ _=>intItems_at)) (s.heap.push {cls:= .type "list_iterator",data:= .fields #[.ref l,.int 0 0]}).objs.size ?_ dv (intItems xs).size 0 _ #[] 0 (by omega) (cI _) ⟨⟨_,aG _ (bA _ rfl),rfl,rfl⟩,(hl.push _).push _⟩ (.inl ⟨rfl,rfl⟩) (bA _ rfl) λv h' tk hv hk=>?_⟩
 ·rw[hS];intro z;obtain z|z:=aF.mp z
  exact Nat.succ_ne_self _ z;have e1:s.heap.objs.size+1=l:=ai.mp z;rw[<-e1] at hll;exact V9 hll
 ·refine h h' tk v (λb o q=>hk b o (λz=>?_) (λz=>?_) (aG _ (aG _ q))) ?_;have:=ai.mp z;rw[this] at q;exact bM (bN q) (fX _);rw[z,hS] at q;exact V9 (bN q)
  ·have hsz:(intItems xs).size=xs.size:=by simp[intItems]
   obtain⟨h0,rfl⟩|⟨h0,hP⟩:=hv
   refine .inl ⟨?_,rfl⟩;have:xs= #[]:=Array.eq_empty_of_size_eq_zero (by omega);subst this;rfl
   ·rw[hsz] at h0 hP;obtain⟨t,rfl⟩:=intItems_at hP;obtain⟨h1,h2⟩:=argBest_gt (numAt xs) (xs.size -1);refine .inr ⟨_,t,rfl,?_,λa ha=>?_⟩;rw[numAt_eq];exact PySem.getD_mem (by rw[ag,g_];omega);obtain⟨j,hj,rfl⟩:=mem_getD ha;rw[ag,g_] at hj;rw[<-numAt_eq];exact h2 j (by omega)
end
section
variable{X:Cx}
def afV(K:au):List V->List V->Hp->VK->Prop:=λvs zs H Q=>∃(a:aj) (ns:List Int) (i:Int),vs=[V.ref a]/\zs=[V.int i]/\dS K H a (ns.map V.int)/\∀m:Int,((ns=[]/\m=i)\/(m∈ns/\∀y,y∈ns->y<=m))->Q (.int m) H
theorem aby(hc:X.calm=true):TX X (.builtin "max") ["default"] (afV X.K):=by
 intro pins s σ H vs us zs ws Q I r rz h;obtain⟨a,ns,i,rfl,rfl,hs,q⟩:=h;rw[fj.YL r];obtain⟨u,rfl,ru⟩:=vals1 rz;obtain⟨t,rfl⟩:=(show∃t,u=rT i t from ru);obtain⟨its,rv,hl,_⟩:=I.list hs;refine Y7 (I.ok.hd hc) hl.isList rv.ints λh' tk v hk hv=>?_;obtain⟨e,rfl⟩|⟨m,t',rfl,h1,h2⟩:=hv
 exact⟨.int i,H,I.kept hk,⟨_,rfl⟩,q i (.inl ⟨e,rfl⟩)⟩;exact⟨.int m,H,I.kept hk,⟨_,rfl⟩,q m (.inr ⟨h1,h2⟩)⟩
def ai5(K:au)(te:TE):TE:=λσ H Q=>te σ H λx H1=>∃a xs,x= .ref a/\dS K H1 a xs/\∀p,H1 p=ay->Q (.ref p) (upd H1 p (.lst xs.reverse))
theorem TY{e k:eJ}{te tk:TE}{pos p2:Pos}(he:PE X e te)(hk:PE X k tk)(h1:∀σ H Q,Q (.int (-1)) H->tk σ H Q):PE X (.Subscript e (.Slice ay ay (ae k) p2) pos) (ai5 X.K te):=by
 intro pins s σ H Q I h;refine SX (iU (he pins s σ H _ I h) λv s1 ⟨x,H1,I1,r1,a,xs,ex,hx,q⟩=>?_);subst ex;cases r1;refine wpAny_Slice ?_;rw[evalPart_none];refine aS (aS ?_);rw[evalPart_some];refine iU (hk pins s1 σ H1 (λy H2=>y= .int (-1)/\H2=H1) I1 (h1 σ H1 _ ⟨rfl,rfl⟩)) λvk s3 ⟨y,H3,I3,r3,ey,eH⟩=>?_;subst ey eH;obtain⟨t,rfl⟩:=(show∃t,vk=rT (-1) t from r3);have I4:Inv X pins σ H3 {s3 with heap:=s3.heap.push {cls:= .type "slice",data:= .fields #[.none,.none,.int (-1) t]}}:=I3.kept (t':=s3.toks) λb ob q=>aG _ q;obtain⟨its,r,ht,hz⟩:=I4.list hx;have hlen:=r.length;refine tail_any (ops:=[.ref a,.ref s3.heap.objs.size]) ht.isList.typeIs Li.lookup (V5 (lo:=ay) (hi:=ay) (st:=ae (-1)) ht.isList (K7 ..) .none .none (.int (-1) t) (by simp) ?_ (by rw[cg,<-hlen];exact hz)) (by with_unfolding_all rfl);rw[PySem.W.krv_pick];refine⟨.ref _,_,I4.laid (t':=s3.toks) (o:= .lst xs.reverse) (λb ob q=>aG _ q) (aJ _) ?_,rfl,q _ (I4.gB.fresh (aJ _))⟩;exact⟨by rw[oS];exact hz,its.reverse,0,r.reverse,bA _ rfl⟩
end
theorem T2(l:aj)(items:Array ax)(n:Nat)(b:aj)(Jc:Array ax)(n2:Nat)(od:Option aj)(sl:Array (Option ax))(hs0:¬(!items.isEmpty&&jk (items.size+Jc.size))=true)(hs1:items.size<=aM)(hs2:items.size+Jc.size<=aM+1):Meets (Builtin.«list.extend» ⟨[.ref l,.ref b],[]⟩) (λ_ R s=>s.heap.get? l=ae {cls:= .type "list",dict:=ay,data:= .seq items n,slots:= #[]}/\s.heap.get? b=ae {cls:= .type "tuple",dict:=od,data:= .seq Jc n2,slots:=sl}/\R (.ok (.ret iL)) {s with heap:=s.heap.update l (NC λx=>x++Jc),toks:=s.toks}):= .of_wp λprog w A R s h=>by
  obtain⟨hp,g,d,tk,os⟩:=s;obtain⟨hl,hb,h⟩:=h;have f2:=sub_tuple_tuple;have f3:=sub_list_list;have f4:=sub_tuple_list;have f5:=sub_list_tuple;have hz':(items++Jc).size<=aM+1:=(by rw[Array.size_append];exact hs2)
  wp_walk using (CW hl rfl (hz:=hs1) (_hz':=hz')),PR hl,PR hb
  exact⟨_,rfl,h⟩
section
variable{X:Cx}
def afW(K:au):V->List V->Hp->VK->Prop:=λx vs H Q=>∃l b xs zs,x= .ref l/\vs=[.ref b]/\H l=ae (.lst xs)/\n9 K H b zs/\xs.length+zs.length<=aM/\Q .non (upd H l (.lst (xs++zs)))
theorem Vb:MtM X "list.extend" (afW X.K):=by
 intro pins s σ H x vs v us Q I rx rv h;obtain⟨l,b,xs,zs,rfl,rfl,hH,hB,hz,q⟩:=h;cases rx;obtain⟨u,rfl,ru⟩:=rv.one;cases ru;obtain⟨z,its,n,r,hl,e⟩:=I.Tz hH;obtain⟨AU,r2,⟨⟨oc,od,dt,sl⟩,e2,hc2,n2,hd2⟩,z2⟩:=I.tuple hB;have qZ:=r2.length;dsimp only at hc2 hd2;subst hc2 hd2;have hsz:its.toArray.size+AU.toArray.size<=aM:=by rw[cg,cg];omega
 have YK:¬(!its.toArray.isEmpty&&jk (its.toArray.size+AU.toArray.size))=true:=by rw[Qi hsz,jl];exact bK
 refine SY dQ ⟨_,e,rfl⟩ aaF (Yi _ _) (T2 l its.toArray n b AU.toArray n2 od sl YK (by rw[cg];omega) (by omega)) ⟨e,e2,.non,_,I.abl (its':=its++AU) hH e (by simp) (r.append r2) ?_,rfl,q⟩;rw[aK];omega
end
section
variable{prog:bg}{w:cn}{K:Type}[DecidableEq K]{knd:HeapKind prog w K}{A:Around}{E:ax->aE->Prop}{s:aE}{d a:aj}{k:K}{xs:List (K×aj×ax)}{dv:ax}{Q:ax->aE->Prop}
theorem abz(hu:knd.room A)(EJ:knd.is s.heap k a)(hm:s.heap.DictOfH knd d xs)(hsz:xs.length<=aM)(h1:∀p,atKey xs k=ae p->Q p.2 {s with toks:=s.toks+knd.draws k})(h2:atKey xs k=ay->∀h',h'.DictOfH knd d (storedH xs k a dv)->nU d s.heap h'->Q dv {s with heap:=h',toks:=s.toks+knd.draws k}):bR (cG prog w) A (dictSetDefault d (.ref a) dv) Q E s:=by
 obtain⟨o,es,ep,ho,hc,hd,he,his,hn⟩:=hm;unfold dictSetDefault;try with_reducible refine qY ?_
 refine ak (knd.pyHash hu EJ (ak (wpAny_dictFind_heap (s:={s with toks:=s.toks+knd.draws k}) hu EJ ho hd he his hn (λhno=>?_) λj p hj=>?_)))
 ·have hnk:=atKey_none_of_get hno;have st:=storedH_new hnk a dv;refine ak (Ca (ak (wpAny_updateDictKeys (hz:=by have e:=PY he;omega) (s:={s with toks:=s.toks+knd.draws k}) ho hd (aS (h2 hnk _ ⟨_,_,ep+1,mj _ ho (Obj.isFreed_of_dict (V_ hd _)),hc.mapDictKeys _,V_ hd _,by rw[st];simp[he,entryOfKey],λx hx=>?_,?_⟩ (iy ..))))))
  ·rw[st] at hx;obtain hx|hx:=aP.mp hx
   exact knd.keeps (his x hx) ho hd (iy ..);obtain rfl:=ai.mp hx;exact knd.keeps EJ ho hd (iy ..)
  rw[st,az,X8];exact jT hn (not_mem_keys_of_get hno)
 refine ak (sY (s:={s with toks:=s.toks+knd.draws k}) ho hd ?_);rw[entry_at he j,hj];exact ak (Ca (aS (h1 p (atKey_of_get hn hj))))
theorem Lx(knd:HeapKind prog w K)(d a:aj)(hd:(d==d7)=false)(dv:ax):MeetsIn prog w (Builtin.«dict.setdefault» ⟨[.ref d,.ref a,dv],[]⟩) (λA R s=>knd.room A.in1/\∃k xs,knd.is s.heap k a/\s.heap.DictOfH knd d xs/\xs.length<=aM/\(∀p,atKey xs k=ae p->R (.ok (.ret p.2)) {s with toks:=s.toks+knd.draws k})/\(atKey xs k=ay->∀h',h'.DictOfH knd d (storedH xs k a dv)->nU d s.heap h'->R (.ok (.ret dv)) {s with heap:=h',toks:=s.toks+knd.draws k})):= .of_wp λA R s ⟨hu,k,xs,EJ,hm,hz,h1,h2⟩=>by
  unfold Builtin.«dict.setdefault»;refine ak (by
   unfold Builtin.Dict.keyAndDefault;refine ak (aaG hm.typeIs (by
    show bR _ _ (pure (d,de a,ae dv)) _ _ s;refine aS ?_;show bR _ _ (if(d==d7)=true then _ else(dictSetDefault d (.ref a) dv>>=_)) _ _ s;rw[aX (by rw[hd];exact bK)];exact ak (abz hu EJ hm hz (λp hp=>aS ⟨_,rfl,h1 p hp⟩) λhn h' a1 a2=>aS ⟨_,rfl,h2 hn h' a1 a2⟩))))
end
def ad2(td ty tx:TE):TE:=λσ H Q=>td σ H λx H1=>∃a kvs,x= .ref a/\H1 a=ae (.dT kvs)/\ty σ H1 λy H2=>tx σ H2 λz H3=>∃b k,y= .ref b/\H3 a=ae (.dT kvs)/\H3 b=ae (.tup (k.map kV))/\kvs.length<aM/\(∀v,h8 kvs k=ae v->Q v H3)/\(h8 kvs k=ay->Q z (upd H3 a (.dT (putK kvs k z))))
section
variable{X:Cx}{o e f:eJ}{apos kD:Pos}{td ty tx:TE}
theorem Y8(hu:X.A.units+1<cLine)(ho:PE X o td)(he:PE X e ty)(hf:PE X f tx)(m:M2 X o "setdefault" apos e f kD):PE X (.Call (.Attribute o "setdefault" apos) [e,f] [] kD) (ad2 td ty tx):=by
 intro pins s σ H Q I h;refine nW m.base m.few m.line jL GH PySem.F.type_dict_setdefault (iU (ho pins s σ H _ I h) λu s1 ⟨x,H1,I1,rx,a,kvs,ex,ha,q1⟩=>?_);subst ex;obtain rfl:u=de a:=rx;obtain⟨_,_,xs1,_,dd1⟩:=U4 I1.gB ha;refine⟨dd1.typeIs,λb q=>by cases q;obtain⟨ob,_,_,h1,h2,_⟩:=dd1;exact⟨ob,h1,h2.2.1⟩,?_⟩;rw[m.trees];refine kU rfl (nj (ji (iU (he pins s1 σ H1 _ I1 q1) λiv s2 ⟨y,H2,I2,ry,q2⟩=>
  ji (iU (hf pins s2 σ H2 _ I2 q2) λfv s3 ⟨z,H3,I3,rz,b,k,ey,ha3,hb,hl,qs,qn⟩=>qW ?_))))
 subst ey;cases (show iv=de b from ry);obtain⟨zz,hd,xs,rel,dd⟩:=U4 I3.gB ha3;have hz:xs.length<=aM:=by rw[<-gj rel];exact zz
 have hv:=rel.val k;refine Lj GH dd.typeIs PySem.F.entry_dict_setdefault (PySem.F.args_dict_setdefault_3 _ _ _) (Lx (tupleKind (fK X.prog X.w)) a b hd fv) ⟨rq hu,k,xs,EY I3.gB hb,dd,hz,λp hp=>?_,λhn h' dd' hs=>?_⟩
 ·rw[hp] at hv;cases e1:h8 kvs k with
  |none=>rw[e1] at hv;exact gk hv
  |some v=>
   rw[e1] at hv;exact⟨v,H3,I3.tok _,hv,qs v e1⟩
 ·rw[hn] at hv;have e1:h8 kvs k=ay:=by
   cases e1:h8 kvs k with
   |none=>rfl
   |some v=>rw[e1] at hv;exact gk hv
  have qZ:(putK kvs k z).length<=aM:=by have:=se kvs k z;omega
  obtain⟨q,es,ep,hq,h2,h3,h4,_,h5⟩:=dd';refine⟨z,upd H3 a (.dT (putK kvs k z)),Ia (ob:= .dT (putK kvs k z)) I3 (by rw[ha3];exact sT) hs ⟨q,hq⟩ ⟨qZ,hd,_,(rel.put k hb rz).keeps λc ys ec=>?_,q,es,ep,hq,h2,h3,h4,h5⟩,rz,qn e1⟩;rw[cZ (gg ec ha3 (λz=>nomatch z))];exact ec
def ad3(td:TE):TE:=λσ H Q=>td σ H λx H1=>∃d kvs,x= .ref d/\Rd H1 d (.dK kvs)/\∀p,H1 p=ay->Q (.ref p) (upd H1 p (.lst (kvs.map (·.2))))
theorem Ly{kvs:List (Key×V)}{vs:List (Key×ax)}(r:KV kvs vs):fj (kvs.map (·.2)) (vs.map (·.2)):=by
 unfold KV at r;induction r with
 |nil=>exact .nil
 |cons h t ih=>rw[aU,aU];exact .cons h.2 ih
theorem Y9{e:eJ}{p apos Y_ pos:Pos}{td:TE}(hc:X.calm=true)(hg:Gl X "list")(hm:X.mg "list"=ay)(hv:bootBuiltins "list"=ae (.type "list"))(he:PE X e td)(yF:attributeBase e "values" X.env (eval e X.env)=eval e X.env:=by rfl)(hline:(apos.endLine==Y_.line)=true:=by rfl)(X':starEach [(.Call (.Attribute e "values" apos) [] [] Y_:eJ)] X.env=[(false,eval (.Call (.Attribute e "values" apos) [] [] Y_) X.env)]:=by rfl):PE X (.Call (.Name "list" p) [.Call (.Attribute e "values" apos) [] [] Y_] [] pos) (ad3 td):=by
 intro pins s σ H Q I h;refine jH (EG I hg hm hv ?_);refine callWith_type1 ?_ X' rfl;rw[X'];refine ji (nW (T:="dict") (id:="dict.values") yF rfl hline jL v_ F.type_dict_values (iU (he pins s σ H _ I h) λu s1 ⟨x,H1,I1,rx,d,kvs,ex,hd,q⟩=>?_));subst ex;obtain rfl:u=de d:=rx;obtain⟨z,hs,vs,rel,dd⟩:=Bo I1.gB hd;refine⟨dd.typeIs,dd.mapOf.noDict,?_⟩;show bR _ _ (callWith Y_ (.builtin "dict.values") [.ref d] [] []) _ X.xe s1;refine S6 v_ aaJ rfl (tV ⟨rfl,dd.typeIs,Yj _,_,meets_dict_values (fK X.prog X.w) d hs,⟨vs,dd⟩,?_⟩);refine qW ?_;obtain⟨ep,Wz⟩:=dd.dictAt;have hz:vs.length<=aM:=by rw[<-rel.length];exact z
 refine PySem.W.kdl_call (PySem.W.kdl_values (knd:=fK X.prog X.w) (kvs:=vs) (ep:=ep)) (I.ok.hd hc) ⟨⟨_,bA _ rfl,rfl,rfl⟩,Wz.push _⟩ hz λh' tk acc c hk hD Qy=>?_;have I2:Inv X pins σ H1 {s1 with heap:=s1.heap.push {cls:= .type "dict_values",data:= .fields #[.ref d]}}:=I1.kept (t':=s1.toks) λb ob q=>aG _ q;have ev:acc.toList=vs.map (·.2):=PySem.W.kdl_vals_eq (kvs:=vs) acc.toList (by rw[g_];exact Qy.1) λj v e=>Qy.2 j v (by rw[<-rN];exact e);refine⟨.ref _,_,I2.laid (t':=tk) (o:= .lst (kvs.map (·.2))) hk (aJ _) ⟨by rw[ag];exact z,acc.toList,c,by rw[ev];exact Ly rel,by rw[Array.toArray_toList];exact hD⟩,rfl,q _ (I2.gB.fresh (aJ _))⟩
end
section
variable{prog:bg}{w:cn}{A:Around}{E:ax->aE->Prop}{s:aE}
theorem Jd{it t:aj}{i:Nat}{items:Array ax}{x:ax}{Q:ax->aE->Prop}(hit:s.heap.IsTupleIter it t i)(ht:s.heap.IsTuple t items)(hx:items[i]? =ae x)(hQ:∀h',h'.IsTupleIter it t (i+1)->nU it s.heap h'->Q x {s with heap:=h'}):bR (cG prog w) A (fh (.ref it)) Q E s:=by
 obtain⟨o,ho,hc,hd⟩:=id hit;obtain⟨ol,hol,_,nl,hdl⟩:=ht;unfold fh;refine ak (gY (name:=gJ "__next__") hit.typeIs nZ (iH nZ hit.typeIs PH (by
  show bR _ _ (field (.ref it) 0>>=_) _ _ s;refine ak (jt ho hd (x:= .ref t) rfl (by
   show bR _ _ (if(de t==iL)=true then _ else _) _ _ s;rw[aX (show ¬((de t==iL)=true) from bK)];show bR _ _ (field (.ref it) 1>>=_) _ _ s;refine ak (jt ho hd (x:= .int i 0) rfl (by
    show bR _ _ (seqItems? (.ref t)>>=_) _ _ s;refine ak (iV hol hdl ?_);simp only[rm,hx];refine ak (EB ho hd (by simp) (aS ⟨x,rfl,aS (hQ _ ⟨_,mj _ ho (UI (vI hd _)),(aaI ..).trans hc,by rw[vI hd];simp[rawInt]⟩ (iy ..))⟩))))))) (NF _)))
theorem WH{it t:aj}{i:Nat}{items:Array ax}{Q:ax->aE->Prop}(hh:A.handled=ay)(hit:s.heap.IsTupleIter it t i)(ht:s.heap.IsTuple t items)(hx:items[i]? =ay)(hE:∀h' e,Heap.ExtBut it s.heap h'->(∃o,h'.get? e=ae o/\o.cls= .type "StopIteration")->E (.ref e) {s with heap:=h'}):bR (cG prog w) A (fh (.ref it)) Q E s:=by
 obtain⟨o,ho,hc,hd⟩:=id hit;obtain⟨ol,hol,_,nl,hdl⟩:=ht;unfold fh;refine ak (gY (name:=gJ "__next__") hit.typeIs nZ (iH nZ hit.typeIs PH (by
  show bR _ _ (field (.ref it) 0>>=_) _ _ s;refine ak (jt ho hd (x:= .ref t) rfl (by
   show bR _ _ (if(de t==iL)=true then _ else _) _ _ s;rw[aX (show ¬((de t==iL)=true) from bK)];show bR _ _ (field (.ref it) 1>>=_) _ _ s;refine ak (jt ho hd (x:= .int i 0) rfl (by
    show bR _ _ (seqItems? (.ref t)>>=_) _ _ s;refine ak (iV hol hdl ?_);simp only[rm,hx];refine ak (Ca (ak (EB ho hd (by simp) (by
     show bR _ _ (newExc (.type "StopIteration") []>>=_) _ _ _;refine ak (by
      simp only[newExc,newTuple];refine ak (nV (ak (m:=firstArgMember _ _) (wpAny_of_eq (a:=iL) (by first|rfl|(simp only[firstArgMember];rfl)) (nV (by
       simp only[raiseNew];refine ak (wpAny_handled (by
        first|rw[show A.in1.handled=ay from hh]|rw[hh]
        exact ak (aS (wpAny_throw (hE _ _ (((iy ..).extBut.push _).push _) ⟨_,bA _ rfl,rfl⟩)))))) (by size_fits)))) (by size_fits)))))))))))) (NF _)))
theorem WK{z TI TO i1 i2 l1 l2:aj}{k1 k2:Nat}{xs ys:Array ax}{x y a b:ax}{Q:ax->aE->Prop}(D:S8 z TI TO i1 i2 l1 l2)(hz:yo s.heap z TI TO .none)(N':lR s.heap TI (.ref i1) (.ref i2))(PJ:lR s.heap TO a b)(h1:s.heap.IsTupleIter i1 l1 k1)(h2:s.heap.IsListIter i2 l2 k2)(Ii:s.heap.IsTuple l1 xs)(qZ:s.heap.IsList l2 ys)(hx:xs[k1]? =ae x)(hy:ys[k2]? =ae y)(hQ:∀h',yo h' z TI TO (rawInt s.heap.objs.size)->lR h' TO x y->h'.IsTupleIter i1 l1 (k1+1)->h'.IsListIter i2 l2 (k2+1)->lR h' s.heap.objs.size x y->(∀c o,c≠z->c≠TO->c≠i1->c≠i2->s.heap.get? c=ae o->h'.get? c=ae o)->Q (.ref s.heap.objs.size) {s with heap:=h'}):bR (cG prog w) A (Builtin.«zip.__next__» ⟨[.ref z],[]⟩) (λfin s'=>∃v,fin= .done (.ret v)/\Q v s') E s:=by
 show bR _ _ (field (.ref z) 2>>=_) _ _ _;refine ak (jt hz rfl (x:= .bool false) rfl (show bR _ _ (field (.ref z) 3>>=_) _ _ _ from ak (jt hz rfl (x:= .ref TI) rfl (ak (iV N' rfl ?_)))));show bR _ _ (ic (.ref z)>>=_) _ _ _;refine ak (by
  unfold ic;refine ak (jt hz rfl (x:= .none) rfl (aS ?_));simp only[if_true];refine ak (Ca (ak (jt hz rfl (x:= .ref TO) rfl (ak (mn hz (by simp) λg1 zz1 s1=>?_)))))
  replace zz1:yo g1 z TI TO .ellipsis:=zz1
  refine ak (by
   simp only[aaL,List.zipIdx_nil,K8,Bh];refine ak (ak (HP (by
    show bR _ _ (fh (.ref i1)>>=_) _ _ _;refine ak (Jd (h1.extBut s1.extBut D.i1z) (Ii.extBut s1.extBut D.l1z) hx λg2 it2 s2=>aS ?_);have o2:lR g2 TO a b:=s2.extBut _ _ D.TOi1 (s1.extBut _ _ D.TOz PJ);refine ak (iV o2 rfl (ak (ED o2 λg3 o3 s3=>ak (rO (aS ?_)))))
    replace o3:lR g3 TO x b:=o3
    refine ak (ak (HP (by
     show bR _ _ (fh (.ref i2)>>=_) _ _ _;refine ak (wpAny_nextOf_list_item (((h2.extBut s1.extBut D.i2z).extBut s2.extBut D.i12.symm).extBut s3.extBut D.TOi2.symm) (((qZ.extBut s1.extBut D.l2z).extBut s2.extBut D.l2i1).extBut s3.extBut D.l2TO) hy λg4 it4 s4=>aS ?_);have o4:lR g4 TO x b:=s4.extBut _ _ D.TOi2 o3;refine ak (iV o4 rfl (ak (ED o4 λg5 o5 s5=>ak (rO (aS (aS ?_))))))
     replace o5:lR g5 TO x y:=o5
     refine ak (iV o5 rfl (ak (wpAny_newTuple ?_)));have hsz:g5.objs.size=s.heap.objs.size:=by rw[s5.1,s4.1,s3.1,s2.1,s1.1]
     have z5:yo g5 z TI TO .ellipsis:=s5.extBut _ _ D.TOz.symm (s4.extBut _ _ D.i2z.symm (s3.extBut _ _ D.TOz.symm (s2.extBut _ _ D.i1z.symm zz1)));have k5:∀c o,c≠z->c≠TO->c≠i1->c≠i2->s.heap.get? c=ae o->g5.get? c=ae o:=λc o c1 c2 c3 c4 e=>s5.extBut _ _ c2 (s4.extBut _ _ c4 (s3.extBut _ _ c2 (s2.extBut _ _ c3 (s1.extBut _ _ c1 e))));have i15:g5.IsTupleIter i1 l1 (k1+1):=((it2.extBut s3.extBut D.TOi1.symm).extBut s4.extBut D.i12).extBut s5.extBut D.TOi1.symm;have i25:g5.IsListIter i2 l2 (k2+1):=it4.extBut s5.extBut D.TOi2.symm;have zlt:z<g5.objs.size:=bN z5;show bR _ _ (va (.ref z) (.ref g5.objs.size)>>=_) _ _ _;refine ak (by
      unfold va;have z6:yo (g5.push {cls:= .type "tuple",data:= .seq #[x,y]}) z TI TO .ellipsis:=aG _ z5;refine ak (mn z6 (by simp) λg7 z7 s7=>?_)
      replace z7:yo g7 z TI TO (rawInt g5.objs.size):=z7
      refine mn z7 (by simp) λg8 z8 s8=>?_
      replace z8:yo g8 z TI TO (rawInt g5.objs.size):=z8
      have up:∀c o,c≠z->g5.get? c=ae o->g8.get? c=ae o:=λc o c1 e=>s8.extBut _ _ c1 (s7.extBut _ _ c1 (aG _ e));have t8:lR g8 g5.objs.size x y:=s8.extBut _ _ (yx zlt) (s7.extBut _ _ (yx zlt) (bA _ rfl));rw[hsz] at z8 t8;refine aS ⟨_,rfl,?_⟩;show Q (.ref g5.objs.size) _;rw[hsz];exact hQ g8 z8 (up _ _ D.TOz o5) (i15.at λo e=>up _ o D.i1z e) (i25.at λo e=>up _ o D.i2z e) t8 λc o c1 c2 c3 c4 e=>up c o c1 (k5 c o c1 c2 c3 c4 e))))))))))
theorem Y'{z TI TO i1 i2 l1 l2:aj}{k1 k2:Nat}{xs ys:Array ax}{a b:ax}{Q:Fin->aE->Prop}(hh:A.handled=ay)(D:S8 z TI TO i1 i2 l1 l2)(hz:yo s.heap z TI TO .none)(N':lR s.heap TI (.ref i1) (.ref i2))(PJ:lR s.heap TO a b)(h1:s.heap.IsTupleIter i1 l1 k1)(h2:s.heap.IsListIter i2 l2 k2)(Ii:s.heap.IsTuple l1 xs)(qZ:s.heap.IsList l2 ys)(wA:xs[k1]? =ay\/ys[k2]? =ay)(hE:∀h' e,(∀c o,c≠z->c≠TO->c≠i1->c≠i2->s.heap.get? c=ae o->h'.get? c=ae o)->(∃o,h'.get? e=ae o/\o.cls= .type "StopIteration")->E (.ref e) {s with heap:=h'}):bR (cG prog w) A (Builtin.«zip.__next__» ⟨[.ref z],[]⟩) Q E s:=by
 show bR _ _ (field (.ref z) 2>>=_) _ _ _;refine ak (jt hz rfl (x:= .bool false) rfl (show bR _ _ (field (.ref z) 3>>=_) _ _ _ from ak (jt hz rfl (x:= .ref TI) rfl (ak (iV N' rfl ?_)))));show bR _ _ (ic (.ref z)>>=_) _ _ _;refine ak (by
  unfold ic;refine ak (jt hz rfl (x:= .none) rfl (aS ?_));simp only[if_true];refine ak (Ca (ak (jt hz rfl (x:= .ref TO) rfl (ak (mn hz (by simp) λg1 zz1 s1=>?_)))))
  replace zz1:yo g1 z TI TO .ellipsis:=zz1
  refine ak (by
   simp only[aaL,List.zipIdx_nil,K8,Bh];refine ak (ak (HP (by
    show bR _ _ (fh (.ref i1)>>=_) _ _ _;cases hx:xs[k1]? with
    |none=>
     refine ak (WH hh (h1.extBut s1.extBut D.i1z) (Ii.extBut s1.extBut D.l1z) hx λg2 e s2 he=>?_);obtain⟨oe,hoe,hce⟩:=he;have z2:yo g2 z TI TO .ellipsis:=s2 _ _ D.i1z.symm zz1;have ez:e≠z:=λx=>by subst x;rw[z2] at hoe;cases hoe;simp at hce
     exact mn z2 (by simp) λg3 _ s3=>hE g3 e (λc o c1 _ c3 _ x=>s3.extBut _ _ c1 (s2 _ _ c3 (s1.extBut _ _ c1 x))) ⟨oe,s3.extBut _ _ ez hoe,hce⟩
    |some x=>
     have hy:ys[k2]? =ay:=by
      obtain h|h:=wA
      rw[hx] at h;cases h;exact h
     refine ak (Jd (h1.extBut s1.extBut D.i1z) (Ii.extBut s1.extBut D.l1z) hx λg2 it2 s2=>aS ?_);have o2:lR g2 TO a b:=s2.extBut _ _ D.TOi1 (s1.extBut _ _ D.TOz PJ);refine ak (iV o2 rfl (ak (ED o2 λg3 o3 s3=>ak (rO (aS (ak (ak (HP ?_))))))));show bR _ _ (fh (.ref i2)>>=_) _ _ _;refine ak (wpAny_nextOf_list_end hh (((h2.extBut s1.extBut D.i2z).extBut s2.extBut D.i12.symm).extBut s3.extBut D.TOi2.symm) (((qZ.extBut s1.extBut D.l2z).extBut s2.extBut D.l2i1).extBut s3.extBut D.l2TO) hy λg4 e s4 he=>?_);obtain⟨oe,hoe,hce⟩:=he;have z4:yo g4 z TI TO .ellipsis:=s4 _ _ D.i2z.symm (s3.extBut _ _ D.TOz.symm (s2.extBut _ _ D.i1z.symm zz1));have ez:e≠z:=λx=>by subst x;rw[z4] at hoe;cases hoe;simp at hce
     exact mn z4 (by simp) λg5 _ s5=>hE g5 e (λc o c1 c2 c3 c4 x=>s5.extBut _ _ c1 (s4 _ _ c4 (s3.extBut _ _ c2 (s2.extBut _ _ c3 (s1.extBut _ _ c1 x))))) ⟨oe,s5.extBut _ _ ez hoe,hce⟩)))))
theorem WM{z TI TO i1 i2 l1 l2:aj}{k1 k2:Nat}{xs ys:Array ax}{x y a b:ax}{Q:Option ax->aE->Prop}(D:S8 z TI TO i1 i2 l1 l2)(hz:yo s.heap z TI TO .none)(N':lR s.heap TI (.ref i1) (.ref i2))(PJ:lR s.heap TO a b)(h1:s.heap.IsTupleIter i1 l1 k1)(h2:s.heap.IsListIter i2 l2 k2)(Ii:s.heap.IsTuple l1 xs)(qZ:s.heap.IsList l2 ys)(hx:xs[k1]? =ae x)(hy:ys[k2]? =ae y)(hQ:∀h',yo h' z TI TO (rawInt s.heap.objs.size)->lR h' TO x y->h'.IsTupleIter i1 l1 (k1+1)->h'.IsListIter i2 l2 (k2+1)->lR h' s.heap.objs.size x y->(∀c o,c≠z->c≠TO->c≠i1->c≠i2->s.heap.get? c=ae o->h'.get? c=ae o)->Q (ae (.ref s.heap.objs.size)) {s with heap:=h'}):bR (cG prog w) A (pyNext (.ref z)) Q E s:=by
 have hT:s.TypeIs (.ref z) "zip":=⟨_,hz,rfl⟩;unfold pyNext;exact ak (HM (gY (name:=gJ "__next__") hT Bi (iH Bi hT F.entry_zip_next (WK D hz N' PJ h1 h2 Ii qZ hx hy λh' a1 a2 a3 a4 a5 a6=>aS (hQ h' a1 a2 a3 a4 a5 a6)) (F.args_zip_next_1 _))))
theorem WN{z TI TO i1 i2 l1 l2:aj}{k1 k2:Nat}{xs ys:Array ax}{a b:ax}{Q:Option ax->aE->Prop}(hh:A.handled=ay)(D:S8 z TI TO i1 i2 l1 l2)(hz:yo s.heap z TI TO .none)(N':lR s.heap TI (.ref i1) (.ref i2))(PJ:lR s.heap TO a b)(h1:s.heap.IsTupleIter i1 l1 k1)(h2:s.heap.IsListIter i2 l2 k2)(Ii:s.heap.IsTuple l1 xs)(qZ:s.heap.IsList l2 ys)(wA:xs[k1]? =ay\/ys[k2]? =ay)(hQ:∀h',(∀c o,c≠z->c≠TO->c≠i1->c≠i2->s.heap.get? c=ae o->h'.get? c=ae o)->Q ay {s with heap:=h'}):bR (cG prog w) A (pyNext (.ref z)) Q E s:=by
 have hT:s.TypeIs (.ref z) "zip":=⟨_,hz,rfl⟩;unfold pyNext;refine ak (HM (gY (name:=gJ "__next__") hT Bi (iH Bi hT F.entry_zip_next (Y' hh D hz N' PJ h1 h2 Ii qZ wA λh' e hk he=>?_) (F.args_zip_next_1 _))));obtain⟨o,ho,hc⟩:=he;exact ak (wpAny_isInstance (T:="StopIteration") (b:=true) ⟨o,ho,hc⟩ isSubtype_stop (aS (hQ _ hk)))
def zT1(h:df)(l1:aj):df:=h.push {cls:= .type "tuple_iterator",data:= .fields #[.ref l1,.int 0 0]}
def zT2(h:df)(l1 l2:aj):df:=(zT1 h l1).push {cls:= .type "list_iterator",data:= .fields #[.ref l2,.int 0 0]}
def zT3(h:df)(l1 l2:aj):df:=(zT2 h l1 l2).push {cls:= .type "tuple",data:= .seq #[.ref h.objs.size,.ref (zT1 h l1).objs.size]}
def zT4(h:df)(l1 l2:aj):df:=(zT3 h l1 l2).push {cls:= .type "tuple",data:= .seq #[.none,.none]}
def zT5(h:df)(l1 l2:aj):df:=(zT4 h l1 l2).push {cls:= .type "zip",data:= .fields #[.none,.bool false,.bool false,.ref (zT2 h l1 l2).objs.size,.ref (zT3 h l1 l2).objs.size]}
theorem Za(l1 l2:aj)(xs ys:Array ax):Meets (Builtin.«zip.__new__» ⟨[.type "zip",.ref l1,.ref l2],[]⟩) (λ_ R s=>s.heap.IsTuple l1 xs/\s.heap.IsList l2 ys/\R (.ok (.ret (.ref (zT4 s.heap l1 l2).objs.size))) {s with heap:=zT5 s.heap l1 l2}):= .of_wp λprog w A R s h=>by
  obtain⟨hp,g,d,tk,os⟩:=s;obtain⟨Ii,qZ,h⟩:=h;have abA:=sub_zip;have hL1:Heap.IsTuple (Shared.heap ⟨hp,g,d,tk,os⟩) l1 xs:=Ii;have hL2:Heap.IsList (Shared.heap ⟨hp.push {cls:= .type "tuple_iterator",data:= .fields #[.ref l1,.int 0 0]},g,d,tk,os⟩) l2 ys:=Heap.IsList.push qZ _
  wp_walk using wpAny_pyIter_tuple hL1,Lg hL2
  exact⟨_,rfl,h⟩
theorem WQ{l1 l2:aj}{xs ys:Array ax}{Q:ax->aE->Prop}(Ii:s.heap.IsTuple l1 xs)(qZ:s.heap.IsList l2 ys)(h:∀h',yo h' (s.heap.objs.size+4) (s.heap.objs.size+2) (s.heap.objs.size+3) .none->lR h' (s.heap.objs.size+2) (.ref s.heap.objs.size) (.ref (s.heap.objs.size+1))->lR h' (s.heap.objs.size+3) .none .none->h'.IsTupleIter s.heap.objs.size l1 0->h'.IsListIter (s.heap.objs.size+1) l2 0->(∀c o,s.heap.get? c=ae o->h'.get? c=ae o)->Q (.ref (s.heap.objs.size+4)) {s with heap:=h'}):bR (cG prog w) A (call (.type "zip") [.ref l1,.ref l2]) Q E s:=by
 refine callType_new F.called_zip (by decide) (F.typeCall_zip_2 _ _) (F.newCall_zip_2 _ _) (λobj=>F.args_object_init_3 obj _ _) F.entry_zip_new (Za l1 l2 xs ys) ⟨Ii,qZ,?_⟩;have z1:(zT1 s.heap l1).objs.size=s.heap.objs.size+1:=eU ..;have z2:(zT2 s.heap l1 l2).objs.size=s.heap.objs.size+2:=(eU ..).trans (by rw[z1]);have z3:(zT3 s.heap l1 l2).objs.size=s.heap.objs.size+3:=(eU ..).trans (by rw[z2]);have z4:(zT4 s.heap l1 l2).objs.size=s.heap.objs.size+4:=(eU ..).trans (by rw[z3]);have g5:(zT5 s.heap l1 l2).get? (zT4 s.heap l1 l2).objs.size=ae _:=bA _ rfl;have g4:(zT5 s.heap l1 l2).get? (zT3 s.heap l1 l2).objs.size=ae _:=aG _ (bA _ rfl);have g3:(zT5 s.heap l1 l2).get? (zT2 s.heap l1 l2).objs.size=ae _:=aG _ (aG _ (bA _ rfl));have g2:(zT5 s.heap l1 l2).get? (zT1 s.heap l1).objs.size=ae _:=aG _ (aG _ (aG _ (bA _ rfl)));have g1:(zT5 s.heap l1 l2).get? s.heap.objs.size=ae _:=aG _ (aG _ (aG _ (aG _ (bA _ rfl))));show _/\_;rw[z2,z3,z4] at g5;rw[z1,z2] at g3;rw[z3] at g4;rw[z1] at g2;rw[z4];exact⟨⟨_,g5,rfl⟩,h _ g5 g3 g4 ⟨_,g1,rfl,rfl⟩ ⟨_,g2,rfl,rfl⟩ λc o x=>aG _ (aG _ (aG _ (aG _ (aG _ x))))⟩
end
def afX(K:au)(a b:aj):It:=⟨λi H=>∃(xs ys:List V) (x y:V),n9 K H a xs/\dS K H b ys/\xs[i]? =ae x/\ys[i]? =ae y,λi H v H'=>∃T x y,v= .ref T/\H T=ay/\H'=upd H T (.tup [x,y])/\(∀xs,n9 K H a xs->xs[i]? =ae x)/\∀ys,dS K H b ys->ys[i]? =ae y,λi H=>∃xs ys:List V,n9 K H a xs/\dS K H b ys/\(xs.length<=i\/ys.length<=i)⟩
theorem WR{P:bg}{w:cn}{K:au}{elts:List eJ}{kk:Nat}{Lr:Pos}{a b z TI TO i1 i2:aj}(D:S8 z TI TO i1 i2 a b):Turn P w K (.Tuple elts kk Lr) (afX K a b) [z,TI,TO,i1,i2] z (λi h=>yo h z TI TO .none/\lR h TI (.ref i1) (.ref i2)/\(∃x y,lR h TO x y)/\h.IsTupleIter i1 a i/\h.IsListIter i2 b i) where
 mem:=by simp
 obj:=λi h st c hc=>by
  obtain⟨hz,N',⟨x,y,PJ⟩,⟨o1,e1,_,d1⟩,⟨o2,e2,_,d2⟩⟩:=st;obtain q|q|q|q|q:=(show c=z\/c=TI\/c=TO\/c=i1\/c=i2 by simpa using hc)
  rw[q];exact⟨_,hz,λv q=>nomatch q⟩;rw[q];exact⟨_,N',λv q=>nomatch q⟩;rw[q];exact⟨_,PJ,λv q=>nomatch q⟩;rw[q];exact⟨o1,e1,λv q=>by rw[d1] at q;cases q⟩;rw[q];exact⟨o2,e2,λv q=>by rw[d2] at q;cases q⟩
 keep:=λi h h' st k=>by
  obtain⟨hz,N',⟨x,y,PJ⟩,h1,h2⟩:=st;exact⟨k z (by simp) _ hz,k TI (by simp) _ N',⟨x,y,k TO (by simp) _ PJ⟩,h1.at λo q=>k i1 (by simp) o q,h2.at λo q=>k i2 (by simp) o q⟩
 item:=by
  intro X hP hw hK hc i pins s σ H E I hf st hg;subst hP hw hK;obtain⟨hz,N',⟨x0,y0,PJ⟩,h1,h2⟩:=st;obtain⟨xs,ys,x,y,hqx,hqy,hx,hy⟩:=hg;obtain⟨its,rv,p,_⟩:=I.tuple hqx;obtain⟨AU,rv2,p2,_⟩:=I.list hqy;obtain⟨u,hu,ru⟩:=rv.get hx;obtain⟨u2,hu2,ru2⟩:=rv2.get hy;have hzl:z<s.heap.objs.size:=bN hz;refine WM D hz N' PJ h1 h2 (show s.heap.IsTuple a its.toArray from p) p2.isList (x:=u) (y:=u2) (by simpa using hu) (by simpa using hu2) λh' z' TO' h1' h2' hT hk=>?_;refine⟨_,rfl,wpAny_letOwnedTupleGo_zip (s:={s with heap:=h'}) z' λh3 z3 sb=>?_⟩;have hT2:h3.get? s.heap.objs.size=ae {cls:= .type "tuple",data:= .seq #[u,u2]}:=(sb.2 _ (yx hzl)).trans hT;have I1:Inv X pins σ (upd H s.heap.objs.size (.tup [x,y])) {s with heap:=h3}:=I.MR (t':=s.toks) (ch:=[z,TI,TO,i1,i2]) (λc o hb q=>(sb.2 c (λq'=>hb (by simp[q']))).trans (hk c o (λq'=>hb (by simp[q'])) (λq'=>hb (by simp[q'])) (λq'=>hb (by simp[q'])) (λq'=>hb (by simp[q'])) q)) hf (aJ _) ⟨by show 2<=aM;decide,[u,u2],.cons ru (.cons ru2 .nil),⟨_,hT2,rfl,_,rfl⟩⟩;refine⟨.ref s.heap.objs.size,_,I1,rfl,⟨_,x,y,rfl,I.gB.fresh (aJ _),rfl,λl hl=>by rw[I.Wc hl hqx];exact hx,λl hl=>by rw[I.P6 hl hqy];exact hy⟩,⟨z3,(sb.2 _ D.TIz).trans (hk _ _ D.TIz D.TITO D.TIi1 D.TIi2 N'),⟨u,u2,(sb.2 _ D.TOz).trans TO'⟩,h1'.at λo q=>(sb.2 _ D.i1z).trans q,h2'.at λo q=>(sb.2 _ D.i2z).trans q⟩,λc Oa=>?_⟩;have Ak:c<s.heap.objs.size:=by
   obtain q|q|q|q|q:=(show c=z\/c=TI\/c=TO\/c=i1\/c=i2 by simpa using Oa)
   rw[q];exact hzl;rw[q];exact bN N';rw[q];exact bN PJ;rw[q];obtain⟨_,e1,_⟩:=h1;exact bN e1;rw[q];obtain⟨_,e2,_⟩:=h2;exact bN e2
  rw[cZ (dR Ak)];exact(hf c Oa).1
 done:=by
  intro X hP hw hK hc i pins s σ H E I hf st hg;subst hP hw hK;obtain⟨hz,N',⟨x0,y0,PJ⟩,h1,h2⟩:=st;obtain⟨xs,ys,hqx,hqy,wA⟩:=hg;obtain⟨its,rv,p,_⟩:=I.tuple hqx;obtain⟨AU,rv2,p2,_⟩:=I.list hqy;have l1:=rv.length;have l2:=rv2.length;have he:its.toArray[i]? =ay\/AU.toArray[i]? =ay:=by
   obtain q|q:=wA
   exact .inl (by simp;omega);exact .inr (by simp;omega)
  exact WN (I.ok.hd hc) D hz N' PJ h1 h2 (show s.heap.IsTuple a its.toArray from p) p2.isList he λh' hk=>⟨rfl,I.abt (t':=s.toks) (ch:=[z,TI,TO,i1,i2]) (λc o hb q=>hk c o (λq'=>hb (by simp[q'])) (λq'=>hb (by simp[q'])) (λq'=>hb (by simp[q'])) (λq'=>hb (by simp[q'])) q) hf⟩
 self:=λA i s Q E st h=>wpAny_pyIter_zip st.1 h
def afZ(K:au)(ta:TA):TI:=λσ H R=>ta σ H λvs H1=>∃a b xs ys,vs=[.ref a,.ref b]/\n9 K H1 a xs/\dS K H1 b ys/\R (afX K a b) H1
theorem abB{X:Cx}{e e2:eJ}{ta:TA}{p pos Lr:Pos}{elts:List eJ}{kk:Nat}(hg:Gl X "zip")(hm:X.mg "zip"=ay)(ha:PA X [e,e2] ta)(hs:starEach [e,e2] X.env=(false,eval e X.env)::starEach [e2] X.env:=by rfl)(C5:(backTo pos (starEach [e2] X.env)).any (·.1)=false:=by rfl):PI X (.Tuple elts kk Lr) (.Call (.Name "zip" p) [e,e2] [] pos) (afZ X.K ta):=by
 intro pins s σ H R I h;refine Call_ (EG I hg hm Wt (rM (iU (ha pos pins s σ H _ I h) λus s1 ⟨vs,H1,I1,r1,q1⟩=>?_) hs C5));obtain⟨a,b,xs,ys,ex,hqx,hqy,q⟩:=q1;subst ex;obtain⟨u,u2,rfl,ru,ru2⟩:=vals2 r1;cases ru;cases ru2;obtain⟨its,rv,p1,_⟩:=I1.tuple hqx;obtain⟨AU,rv2,p2,_⟩:=I1.list hqy;have la:a<s1.heap.objs.size:=p1.lt;have lb:b<s1.heap.objs.size:=p2.lt;refine WQ (show s1.heap.IsTuple a its.toArray from p1) p2.isList λh' hz N' PJ h1 h2 hk=>wpAny_pyIter_zip hz ?_;have I2:Inv X pins σ H1 {s1 with heap:=h'}:=I1.kept (t':=s1.toks) hk;refine⟨s1.heap.objs.size+4,[s1.heap.objs.size+4,s1.heap.objs.size+2,s1.heap.objs.size+3,s1.heap.objs.size,s1.heap.objs.size+1],_,_,H1,rfl,I2,WR (PySem.W.ktu_apart s1.heap.objs.size a b la lb),⟨hz,N',⟨_,_,PJ⟩,h1,h2⟩,λc Oa=>?_,q⟩;have hle:s1.heap.objs.size<=c:=by
  obtain z|z|z|z|z:=(show c=s1.heap.objs.size+4\/c=s1.heap.objs.size+2\/c=s1.heap.objs.size+3\/c=s1.heap.objs.size\/c=s1.heap.objs.size+1 by simpa using Oa)
  all_goals (rw[z];first|exact Nat.le_add_right _ _|exact aJ _)
 exact I1.Yt hle (I1.gB.fresh hle)
theorem boot_sorted:bootBuiltins "sorted"=ae (.builtin "sorted"):=by decide+kernel
theorem boot_max:bootBuiltins "max"=ae (.builtin "max"):=by decide+kernel
theorem boot_list:bootBuiltins "list"=ae (.type "list"):=by decide+kernel
theorem boot_tuple:bootBuiltins "tuple"=ae (.type "tuple"):=by decide+kernel
theorem T4{prog:bg}{w:cn}(d:aj)(hd:(d==d7)=false):MeetsIn prog w (Builtin.«dict.__len__» ⟨[.ref d],[]⟩) (λ_ R s=>∃(o:Obj) (es:Array ko) (ep:Nat),s.heap.get? d=ae o/\o.data= .dict es ep/\R (.ok (.ret (.int es.size s.toks))) {s with toks:=s.toks+1}):= .of_wp λA R s ⟨o,es,ep,ho,Wq,h⟩=>by
  show bR _ _ (dictSize d>>=_) _ _ s;unfold dictSize;refine ak (ak (sY ho Wq (aS ?_)));show bR _ _ (Builtin.Dict.pendingCount d>>=_) _ _ s;refine ak (wpAny_pendingCount_other hd (wpAny_ret_mkInt ?_));rw[Nat.add_zero];exact h
theorem WT{prog:bg}{w:cn}{A:Around}{E:ax->aE->Prop}{s:aE}{d:aj}{o:Obj}{es:Array ko}{ep:Nat}{Q:ax->aE->Prop}(hd:(d==d7)=false)(ho:s.heap.get? d=ae o)(hT:o.cls= .type "dict")(Wq:o.data= .dict es ep)(anO:(es.size:Int)<2^63)(h:∀t1 t2,Q (.int es.size t1) {s with toks:=t2}):bR (cG prog w) A (call (.builtin "len") [.ref d]) Q E s:=Mx kind_len plain_len entry_len (args_len1 _) (by
  have ty:s.TypeIs (.ref d) "dict":=⟨o,ho,hT⟩;unfold IA.«len»;refine ak (m:=oneArg "len" _) (aS (ak (m:=callSpecial? (.ref d) (gJ "__len__")) (gY (name:=gJ "__len__") ty F.slot_dict_len (Lj F.slot_dict_len ty F.entry_dict_len (F.args_dict_len_1 _) (T4 d hd) ⟨o,es,ep,ho,Wq,?_⟩))));show bR _ _ _ _ _ {s with toks:=s.toks+1};refine ak (qY (aS (ak (rO ?_))));show bR _ _ (if((es.size:Nat):Int)<0 then _ else _) _ _ _;rw[if_neg (by omega)];show bR _ _ (if((es.size:Nat):Int)>=2^63 then _ else _) _ _ _;rw[if_neg (by omega)];exact ak (wpAny_mkInt (aS ⟨_,rfl,h _ _⟩)))
theorem WU{X:Cx}:Bm X (.builtin "len") (λxs H Q=>∃a kvs,xs=[V.ref a]/\H a=ae (.dT kvs)/\Q (.int kvs.length) H):=by
 intro pins s σ H xs us Q I r h;obtain⟨a,kvs,rfl,ha,q⟩:=h;rw[fj.YL r];obtain⟨z,hd,ws,rel,o,es,ep,ho,hx,xQ,he,_⟩:=U4 I.gB ha;have hl:es.size=kvs.length:=(PY he).trans (gj rel).symm;rw[Pw] at z;refine WT hd ho hx.1 xQ (by omega) λt1 t2=>?_;rw[hl];exact⟨.int kvs.length,H,I.tok _,⟨_,rfl⟩,q⟩
def abC(t:TS):TS:=λD σ H=>∃a kvs,Rd H a (.dK kvs)/\∀(H2:Hp) (od:Obj) (r:Hp->Hp),H2 a=ae (.jq od (.dK kvs))->(∀b,b≠a->H2 b=H b)->(∀o,H a=ae o->o= .dK kvs\/H2 a=ae o)->(∀H',H' a=ae (.jq od (.dK kvs))->r H' a=H a/\∀b,b≠a->r H' b=H' b)->t ⟨λσ' H'=>H' a=ae (.jq od (.dK kvs))/\D.nx σ' (r H'),λv H'=>H' a=ae (.jq od (.dK kvs))/\D.rt v (r H'),λσ' H'=>H' a=ae (.jq od (.dK kvs))/\D.bk σ' (r H'),λσ' H'=>H' a=ae (.jq od (.dK kvs))/\D.ct σ' (r H')⟩ σ H2
theorem WV{X:Cx}{st:dX}{t:TS}(h:PS X st t):PS X st (abC t):=by
 intro pins s σ H D I hw;obtain⟨a,kvs,ra,hw⟩:=hw;obtain e|⟨od,e⟩:=ra
 refine Ao h pins s σ H D I ⟨a,_,e,trivial,λod=>hw _ od (λH'=>upd H' a (.dK kvs)) aq (λb hb=>cZ hb) (λo z=> .inl (by rw[e] at z;cases z;rfl)) λH' _=>⟨aq.trans e.symm,λb hb=>cZ hb⟩⟩
 ·refine iU (h pins s σ H _ I (hw H od id e (λ_ _=>rfl) (λo z=> .inr z) λH' e'=>⟨e'.trans e.symm,λ_ _=>rfl⟩)) λfl s1 z=>?_;cases fl with
  |next=>obtain⟨σ',H',J,z⟩:=z;exact⟨σ',H',J,z.2⟩
  |brk=>obtain⟨σ',H',J,z⟩:=z;exact⟨σ',H',J,z.2⟩
  |cont=>obtain⟨σ',H',J,z⟩:=z;exact⟨σ',H',J,z.2⟩
  |ret u=>obtain⟨v,σ',H',J,r,z⟩:=z;exact⟨v,σ',H',J,r,z.2⟩
theorem _root_.L2.pH.mo{j k:Nat}{A:Around}(r:pH k A)(h:j<=k:=by decide):pH j A:=r.mono h
theorem hX{p q:Prop}[Decidable p](h:¬p:=by decide):p->q:=λc=>bM c h
theorem AV:1<=aM:=by decide
theorem Yc:2<=aM:=by decide
section
open PySem.W (Codec)
def top(i:Nat):dX:=PySem.Challenge.pw_kinfolds_s01_answers.main.body.getD i (.Pass ⟨0,0,0,0⟩)
theorem kJ{N P:List Str}{sc:m_}(a:sc.kind= .function:=by rfl)(b:sc.isCoroutine=false:=by rfl)(c:sc.isGenerator=false:=by rfl)(d:N.Nodup:=by decide+kernel)(e:N.take P.length=P:=by rfl)(f:∀x∈P,sc.names.lookup x=ae .local\/sc.names.lookup x=ae .cell:=by decide+kernel)(g:∀y∈sc.names,y.2≠ .free:=by decide+kernel):bS N P sc:=⟨a,b,c,d,e,f,g⟩
abbrev uf:dX:=top 5
abbrev wB:dX:=top 6
abbrev Je:dX:=top 7
abbrev yO:dX:=top 8
abbrev Bp:dX:=inClass (top 22) 0
abbrev Bq:dX:=inClass (top 23) 0
abbrev FW:dX:=inClass (top 24) 0
abbrev FX:dX:=inClass (top 25) 0
abbrev Br:dX:=inClass (top 25) 1
abbrev wC:dX:=inClass (top 25) 2
abbrev tI:dX:=inClass (top 25) 3
abbrev vo:dX:=inClass (top 25) 4
abbrev Dg:dX:=inClass (top 25) 5
abbrev Jf:dX:=inClass (top 25) 6
abbrev xT:dX:=inClass (top 25) 7
abbrev Bs:dX:=inClass (top 25) 8
abbrev pI:dX:=inClass (top 25) 9
abbrev qg:dX:=inClass (top 25) 10
abbrev Dh:dX:=inClass (top 25) 11
abbrev wD:dX:=inClass (top 25) 12
abbrev yP:dX:=top 31
abbrev M4:dX:=top 32
abbrev QC:dX:=top 33
abbrev Jg:dX:=top 34
abbrev QD:dX:=top 35
abbrev QE:dX:=top 36
abbrev Di:dX:=top 37
abbrev Cj:dX:=top 38
abbrev QF:dX:=top 39
abbrev ug:dX:=top 40
abbrev yQ:dX:=top 41
abbrev QG:dX:=top 42
abbrev Zb:dX:=top 45
abbrev wF:dX:=top 46
abbrev FY:dX:=top 47
abbrev yR:dX:=top 48
abbrev yS:dX:=top 49
abbrev Vc:dX:=top 50
abbrev Vd:dX:=top 51
abbrev QH:dX:=top 54
abbrev Bt:dX:=inClass (top 55) 0
abbrev uh:dX:=inClass (top 55) 1
abbrev vp:dX:=inClass (top 55) 2
abbrev vq:dX:=inClass (top 55) 3
abbrev tJ:dX:=inClass (top 55) 4
abbrev Bu:dX:=inClass (top 57) 0
abbrev FZ:dX:=top 58
abbrev s_load:dX:=top 59
abbrev Bv:dX:=top 60
abbrev Bw:dX:=top 61
abbrev xU:dX:=top 62
abbrev Dj:dX:=top 63
abbrev Dk:dX:=top 64
abbrev rP:dX:=top 65
abbrev yT:dX:=top 67
abbrev yU:dX:=top 68
abbrev E1:dX:=top 69
abbrev Dl:dX:=top 70
abbrev ui:dX:=top 71
abbrev Jh:dX:=top 72
abbrev xV:dX:=top 73
abbrev vt:dX:=top 74
abbrev vR:dX:=top 75
abbrev Bx:dX:=top 77
abbrev vS:dX:=top 78
abbrev yV:dX:=top 79
abbrev F4:dX:=top 80
abbrev Ji:dX:=top 81
abbrev F6:dX:=top 82
abbrev By:dX:=top 83
abbrev Dm:dX:=top 84
abbrev Dn:dX:=top 85
abbrev yW:dX:=top 86
abbrev M5:dX:=top 88
abbrev Bz:dX:=top 89
abbrev QI:dX:=top 90
abbrev Zc:dX:=top 91
abbrev acO:dX:=top 92
abbrev Dq:dX:=top 93
theorem AX:bS ["place"] ["place"] (a_ uf):=kJ
theorem Dr:bS ["place"] ["place"] (a_ wB):=kJ
theorem QJ:bS ["word","number"] ["word","number"] (a_ Je):=kJ
theorem tf:bS ["place","numbers","word","number"] ["place","numbers"] (a_ yO):=kJ
theorem Jj:bS ["self","family","serial"] ["self","family","serial"] (a_ Bp):=kJ
theorem Jk:bS ["self","parent","serial","next_serial"] ["self","parent","serial","next_serial"] (a_ Bq):=kJ
theorem Ob:bS ["self","kind","place","number"] ["self","kind","place","number"] (a_ FW):=kJ
theorem Oc:bS ["self"] ["self"] (a_ FX):=kJ
theorem Jl:bS ["self","other"] ["self","other"] (a_ Br):=kJ
theorem Ds:bS ["self","x"] ["self","x"] (a_ wC):=kJ
theorem sg:bS ["self","parent","serial","number"] ["self","parent","serial"] (a_ tI):=kJ
theorem Ck:bS ["self","number","parent","serial","next_serial"] ["self","number","parent","serial","next_serial"] (a_ vo):=kJ
theorem vT:bS ["self","x","number","family","serial"] ["self","x","number"] (a_ Dg):=kJ
theorem QK:bS ["self","x","number","serial"] ["self","x","number","serial"] (a_ Jf):=kJ
theorem wG:bS ["self","x","person"] ["self","x"] (a_ xT):=kJ
theorem uj:bS ["self","number","family"] ["self","number"] (a_ Bs):=kJ
theorem jU:bS ["self","number","children","serial"] ["self","number"] (a_ pI):=kJ
theorem jY:bS ["self","number","around"] ["self","number"] (a_ qg):=kJ
theorem Lz:bS ["self","number"] ["self","number"] (a_ Dh):=kJ
theorem Dt:bS ["self","x"] ["self","x"] (a_ wD):=kJ
theorem GO:bS ["kept","x","kind","place","number"] ["kept","x","kind","place","number"] (a_ yP):=kJ
theorem Jm:bS ["kept","ids","x"] ["kept","ids"] (a_ M4):=kJ
theorem wH:bS ["kept","x","kind","place","number","kin","y","wait"] ["kept","x","kind","place"] (a_ QC):=kJ
theorem yX:bS ["kept","x","place","count","refusal","firsts"] ["kept","x","place","count"] (a_ Jg):=kJ
theorem M6:bS ["kept","x","first","wait"] ["kept","x","first"] (a_ QD):=kJ
theorem wI:bS ["kept","x","place","count","refusal","group","need"] ["kept","x","place","count"] (a_ QE):=kJ
theorem vU:bS ["kept","x","place","other_place","refusal","fitting"] ["kept","x","place","other_place"] (a_ Di):=kJ
theorem yZ:bS ["kept","x","place","other_place","y"] ["kept","x","place","other_place"] (a_ Cj):=kJ
theorem E2:bS ["kept","x","place","refusal","mustered"] ["kept","x","place"] (a_ QF):=kJ
theorem oU:bS ["kept","number","x"] ["kept"] (a_ ug):=kJ
theorem oV:bS ["kept","number","places","child","wait"] ["kept","number"] (a_ yQ):=kJ
theorem WW:bS ["kept","x"] ["kept","x"] (a_ QG):=kJ
theorem abD:bS ["kept","x"] ["kept","x"] (a_ Zb):=kJ
theorem vw:bS ["ids","y"] ["ids"] (a_ wF):=kJ
theorem tP:bS ["kept","x","ids","refusal","y"] ["kept","x","ids"] (a_ FY):=kJ
theorem tj:bS ["kept","x","refusal","outer"] ["kept","x"] (a_ yR):=kJ
theorem oW:bS ["kept","x","refusal","number","family"] ["kept","x"] (a_ yS):=kJ
theorem Jn:bS ["kept","x","number","refusal","old"] ["kept","x","number"] (a_ Vc):=kJ
theorem Jo:bS ["kept","x","refusal","old"] ["kept","x"] (a_ Vd):=kJ
theorem M7:bS ["holds"] ["holds"] (a_ QH):=kJ
theorem Jp:bS ["self","numbers"] ["self","numbers"] (a_ Bt):=kJ
theorem AY:bS ["self"] ["self"] (a_ uh):=kJ
theorem uk:bS ["self"] ["self"] (a_ vp):=kJ
theorem kM:bS ["self","length","row"] ["self","length"] (a_ vq):=kJ
theorem mr:bS ["self","how_many","lists","turn"] ["self","how_many"] (a_ tJ):=kJ
theorem Jq:bS ["self","number","to_come"] ["self","number","to_come"] (a_ Bu):=kJ
theorem Od:bS ["kept"] ["kept"] (a_ FZ):=kJ
theorem Ve:bS ["kept","next_number","forest","waits","fresh"] ["kept","next_number","forest","waits"] (a_ s_load):=kJ
theorem mv:bS ["fresh","forest","reader","last_root","opened"] ["fresh","forest"] (a_ Bv):=kJ
theorem um:bS ["fresh","reader","parent","serial","head","number"] ["fresh","reader","parent","serial"] (a_ Bw):=kJ
theorem wJ:bS ["fresh","reader","opened","outer"] ["fresh","reader","opened"] (a_ xU):=kJ
theorem og:bS ["fresh","reader","opened","outer","serial","mark","x"] ["fresh","reader","opened"] (a_ Dj):=kJ
theorem rQ:bS ["fresh","waits","reader","row","x"] ["fresh","waits"] (a_ Dk):=kJ
theorem i_:bS ["fresh","x","wait","kin","unlike","others","y"] ["fresh","x"] (a_ rP):=kJ
theorem GQ:bS ["kept"] ["kept"] (a_ yT):=kJ
theorem oX:bS ["kept","row","x","wait"] ["kept"] (a_ yU):=kJ
theorem uo:bS ["kept","place","x","there","answer"] ["kept","place"] (a_ E1):=kJ
theorem BD:bS ["kept","numbers"] ["kept"] (a_ Dl):=kJ
theorem tm:bS ["kept","number"] ["kept"] (a_ ui):=kJ
theorem vx:bS ["kept","forest","number","waits"] ["kept"] (a_ Jh):=kJ
theorem nu:bS ["kept","number","row","to_tell","child"] ["kept","number"] (a_ xV):=kJ
theorem uq:bS ["kept","number","family"] ["kept","number"] (a_ vt):=kJ
theorem qh:bS ["kept","deepest","number"] ["kept"] (a_ vR):=kJ
theorem ur:bS ["kept","x","person","wait"] ["kept","x"] (a_ Bx):=kJ
theorem jZ:bS ["kept","number","family","people","within","child"] ["kept","number"] (a_ vS):=kJ
theorem oY:bS ["kept","number","children","answer","child"] ["kept","number"] (a_ yV):=kJ
theorem Du:bS ["kept","x","around"] ["kept","x"] (a_ F4):=kJ
theorem y6:bS ["kept","x","y","around","number"] ["kept","x","y"] (a_ Ji):=kJ
theorem Dv:bS ["kept","number","people"] ["kept","number"] (a_ F6):=kJ
theorem qi:bS ["kept","number","people","to_do","child"] ["kept","number"] (a_ By):=kJ
theorem BE:bS ["kept","number","other","shapes"] ["kept","number","other"] (a_ Dm):=kJ
theorem oh:bS ["kept","shapes","known","number","makeup"] ["kept"] (a_ Dn):=kJ
theorem tQ:bS ["kept","number","shapes","children","within","child"] ["kept","number","shapes"] (a_ yW):=kJ
theorem uv:bS ["calls","kept","reader","told","answer"] ["calls"] (a_ M5):=kJ
theorem qj:bS ["kept","reader","place","numbers","lists"] ["kept","reader"] (a_ Bz):=kJ
theorem M8:bS ["kept","place","numbers","lists","x"] ["kept","place","numbers","lists"] (a_ QI):=kJ
theorem Vf:bS ["kept","place","numbers","x"] ["kept","place","numbers"] (a_ Zc):=kJ
theorem ad6:bS ["kept","place","numbers"] ["kept","place","numbers"] (a_ acO):=kJ
theorem LB:bS ["kept","place","numbers"] ["kept","place","numbers"] (a_ Dq):=kJ
structure fO where
 fb:aj
 dw:aj
 fU:aj
 dW:aj
 du:aj
 eL:aj
 fD:aj
 ja:aj
 iP:bq
 j4:aj
 jw:bq
 uw:aj
 sh:bq
 mw:aj
 kX:bq
 oj:aj
 mx:bq
 om:aj
 my:bq
 si:aj
 qk:bq
 sj:aj
 ql:bq
 oo:aj
 mz:bq
 j6:aj
 jx:bq
 iQ:aj
 iu:bq
 jy:aj
 jb:bq
 qm:aj
 oq:bq
 ux:aj
 sk:bq
 kY:aj
 j7:bq
 ou:aj
 mB:bq
 jc:aj
 iR:bq
 gU:aj
 gL:bq
 qo:aj
 ox:bq
 j8:aj
 jz:bq
 mC:aj
 kZ:bq
 wK:aj
 uy:bq
 y8:aj
 wL:bq
 uz:aj
 sq:bq
 y9:aj
 wM:bq
 y_:aj
 wN:bq
 qp:aj
 oy:bq
 uA:aj
 su:bq
 za:aj
 wO:bq
 mD:aj
 k_:bq
 mE:aj
 lg:bq
 zb:aj
 wQ:bq
 Jr:aj
 Dx:bq
 j9:aj
 jA:bq
 sv:aj
 qt:bq
 mG:aj
 lh:bq
 mH:aj
 lj:bq
 Dy:aj
 zc:bq
 Dz:aj
 zg:bq
 wR:aj
 tZ:bq
 oz:aj
 mI:bq
 jd:aj
 iS:bq
 iA:aj
 h9:bq
 iB:aj
 h_:bq
 iT:aj
 iw:bq
 oA:aj
 mJ:bq
 sx:aj
 qu:bq
 Js:aj
 DB:bq
 oB:aj
 mK:bq
 oC:aj
 mL:bq
 ll:aj
 j_:bq
 qv:aj
 oE:bq
 qw:aj
 oF:bq
 oG:aj
 mM:bq
 mO:aj
 lu:bq
 mQ:aj
 lx:bq
 wU:aj
 uB:bq
 qx:aj
 oH:bq
 mR:aj
 ly:bq
 uC:aj
 sy:bq
 lA:aj
 j':bq
 jB:aj
 je:bq
 oI:aj
 mS:bq
 oJ:aj
 mU:bq
 oK:aj
 mV:bq
 mW:aj
 lB:bq
 sA:aj
 qy:bq
 uD:aj
 sC:bq
 sD:aj
 qz:bq
 oM:aj
 mX:bq
 qA:aj
 oN:bq
 qB:aj
 oO:bq
 sE:aj
 qC:bq
 wV:aj
 rE:bq
 oP:aj
 mY:bq
 zh:aj
 wW:bq
 Jt:aj
 DC:bq
 QL:aj
 Ju:bq
 qD:aj
 oQ:bq
 tR:aj
 qE:aj
 qF:aj
 qG:aj
 qH:aj
 qI:aj
 qJ:aj
 qK:aj
 qL:aj
 qM:aj
 qN:aj
 oZ:aj
 o6:aj
 o7:aj
 o8:aj
 o9:aj
 o_:aj
 pd:aj
 ph:aj
 pj:aj
 pq:aj
 px:aj
 pA:aj
 pB:aj
 pC:aj
 pD:aj
 Ij:aj
 DE:aj
 Au:aj
def zi(t:fO):List (Key×V):=[(.inl 0,.ref t.qE),(.inl 1,.ref t.qF),(.inl 2,.ref t.qG),(.inl 3,.ref t.qH),(.inl 4,.ref t.qI),(.inl 5,.ref t.qJ),(.inl 6,.ref t.qK),(.inl 7,.ref t.qL),(.inl 8,.ref t.qM),(.inl 9,.ref t.qN),(.inl 10,.ref t.oZ),(.inl 11,.ref t.o6),(.inl 12,.ref t.o7),(.inl 13,.ref t.o8),(.inl 14,.ref t.o9),(.inl 15,.ref t.o_),(.inl 16,.ref t.pd),(.inl 17,.ref t.ph),(.inl 18,.ref t.pj),(.inl 19,.ref t.pq),(.inl 20,.ref t.px),(.inl 21,.ref t.pA),(.inl 22,.ref t.pB),(.inl 23,.ref t.pC),(.inl 24,.ref t.pD)]
def E3(t:fO):List (Key×V):=[(.inl 1,.int 1),(.inl 22,.int 2)]
def Cp(t:fO):List (Key×V):=[(.inr "person",.int 1),(.inr "family",.int 1),(.inr "place",.int 0),(.inr "count",.int 1)]
def zj(t:fO):List (Key×V):=[(.inr "person",.int 1000000000),(.inr "family",.int 1000000000000000000),(.inr "place",.int 999),(.inr "count",.int 1000)]
structure Txt(w:cn)(K:au)(mg:Str->Option ax)(t:fO):Prop where
 WX:mg "Person"=ae (.ref t.fb)
 lN:Ss K t.fb
 WY:Mk K t.fb t.oj
 kb:iI K t.fb "family"
 kc:iI K t.fb "serial"
 WZ:mg "Family"=ae (.ref t.dw)
 dB:Ss K t.dw
 W1:Mk K t.dw t.om
 fS:iI K t.dw "parent"
 ny:iI K t.dw "serial"
 gD:iI K t.dw "next_serial"
 dI:iI K t.dw "children"
 abE:mg "Wait"=ae (.ref t.fU)
 eE:Ss K t.fU
 abF:Mk K t.fU t.si
 gW:iI K t.fU "kind"
 iY:iI K t.fU "place"
 dM:iI K t.fU "number"
 Oe:mg "Kept"=ae (.ref t.dW)
 aR:Ss K t.dW
 Of:Mk K t.dW t.sj
 dy:iI K t.dW "people"
 bH:iI K t.dW "families"
 cA:iI K t.dW "waits"
 ft:iI K t.dW "next_number"
 E4:mg "Reader"=ae (.ref t.du)
 dC:Ss K t.du
 E5:Mk K t.du t.oz
 iC:iI K t.du "numbers"
 fP:iI K t.du "spot"
 W2:mg "Opened"=ae (.ref t.eL)
 i5:Ss K t.eL
 W3:Mk K t.eL t.oA
 i6:iI K t.eL "number"
 lV:iI K t.eL "to_come"
 ke:iI K t.eL "lowest_serial"
 AZ:mg "count_of_numbers"=ae (.ref t.ja)
 uE:jn K "count_of_numbers" "count_of_numbers" uf t.ja t.iP
 Cq:Binds K t.iP ["place"] []
 DF:mg "count_of_lists"=ae (.ref t.j4)
 wX:jn K "count_of_lists" "count_of_lists" wB t.j4 t.jw
 E6:Binds K t.jw ["place"] []
 sG:mg "in_range"=ae (.ref t.uw)
 rF:jn K "in_range" "in_range" Je t.uw t.sh
 uF:Binds K t.sh ["word","number"] []
 GR:mg "all_in_range"=ae (.ref t.mw)
 zk:jn K "all_in_range" "all_in_range" yO t.mw t.kX
 Jv:Binds K t.kX ["place","numbers"] []
 LC:jn K "__init__" "Person.__init__" Bp t.oj t.mx
 LD:Binds K t.mx ["self","family","serial"] []
 LG:jn K "__init__" "Family.__init__" Bq t.om t.my
 LH:Binds K t.my ["self","parent","serial","next_serial"] []
 QM:jn K "__init__" "Wait.__init__" FW t.si t.qk
 QN:Binds K t.qk ["self","kind","place","number"] []
 QO:jn K "__init__" "Kept.__init__" FX t.sj t.ql
 zl:Binds K t.ql ["self"] []
 zm:wt K t.dW "become" t.oo
 LJ:jn K "become" "Kept.become" Br t.oo t.mz
 BF:Binds K t.mz ["self","other"] []
 eM:wt K t.dW "family_of" t.j6
 E7:jn K "family_of" "Kept.family_of" wC t.j6 t.jx
 fE:Binds K t.jx ["self","x"] []
 sH:wt K t.dW "begin_family" t.iQ
 A5:jn K "begin_family" "Kept.begin_family" tI t.iQ t.iu
 tK:Binds K t.iu ["self","parent","serial"] []
 uG:wt K t.dW "put_family" t.jy
 DG:jn K "put_family" "Kept.put_family" vo t.jy t.jb
 vy:Binds K t.jb ["self","number","parent","serial","next_serial"] []
 rR:wt K t.dW "enter" t.qm
 Og:jn K "enter" "Kept.enter" Dg t.qm t.oq
 tS:Binds K t.oq ["self","x","number"] []
 zo:wt K t.dW "put" t.ux
 T5:jn K "put" "Kept.put" Jf t.ux t.sk
 Cr:Binds K t.sk ["self","x","number","serial"] []
 rG:wt K t.dW "take_out" t.kY
 GU:jn K "take_out" "Kept.take_out" xT t.kY t.j7
 tq:Binds K t.j7 ["self","x"] []
 zq:wt K t.dW "let_go" t.ou
 LK:jn K "let_go" "Kept.let_go" Bs t.ou t.mB
 BG:Binds K t.mB ["self","number"] []
 jV:wt K t.dW "children_of" t.jc
 Ct:jn K "children_of" "Kept.children_of" pI t.jc t.iR
 kN:Binds K t.iR ["self","number"] []
 iD:wt K t.dW "families_around" t.gU
 xt:jn K "families_around" "Kept.families_around" qg t.gU t.gL
 iW:Binds K t.gL ["self","number"] []
 BH:wt K t.dW "depth" t.qo
 Oh:jn K "depth" "Kept.depth" Dh t.qo t.ox
 DH:Binds K t.ox ["self","number"] []
 f7:wt K t.dW "hindrance" t.j8
 E8:jn K "hindrance" "Kept.hindrance" wD t.j8 t.jz
 gn:Binds K t.jz ["self","x"] []
 lC:mg "come_to_wait"=ae (.ref t.mC)
 kf:jn K "come_to_wait" "come_to_wait" yP t.mC t.kZ
 mZ:Binds K t.kZ ["kept","x","kind","place","number"] []
 m5:mg "set_off"=ae (.ref t.wK)
 nA:jn K "set_off" "set_off" M4 t.wK t.uy
 pS:Binds K t.uy ["kept","ids"] []
 Av:mg "kin_at"=ae (.ref t.y8)
 zr:jn K "kin_at" "kin_at" QC t.y8 t.wL
 DI:Binds K t.wL ["kept","x","kind","place"] []
 QP:mg "assemble"=ae (.ref t.uz)
 Jw:jn K "assemble" "assemble" Jg t.uz t.sq
 T6:Binds K t.sq ["kept","x","place","count"] []
 W5:mg "absorb"=ae (.ref t.y9)
 QQ:jn K "absorb" "absorb" QD t.y9 t.wM
 Zd:Binds K t.wM ["kept","x","first"] []
 W6:mg "gather"=ae (.ref t.y_)
 QR:jn K "gather" "gather" QE t.y_ t.wN
 Ze:Binds K t.wN ["kept","x","place","count"] []
 LM:mg "match_pair"=ae (.ref t.qp)
 DJ:jn K "match_pair" "match_pair" Di t.qp t.oy
 Oi:Binds K t.oy ["kept","x","place","other_place"] []
 F7:mg "partners"=ae (.ref t.uA)
 Cu:jn K "partners" "partners" Cj t.uA t.su
 Jx:Binds K t.su ["kept","x","place","other_place"] []
 W7:mg "muster"=ae (.ref t.za)
 QS:jn K "muster" "muster" QF t.za t.wO
 Zf:Binds K t.wO ["kept","x","place"] []
 pE:mg "all_mustered"=ae (.ref t.mD)
 m6:jn K "all_mustered" "all_mustered" ug t.mD t.k_
 qO:Binds K t.k_ ["kept"] []
 GV:mg "is_all_there"=ae (.ref t.mE)
 zt:jn K "is_all_there" "is_all_there" yQ t.mE t.lg
 Jy:Binds K t.lg ["kept","number"] []
 W8:mg "recall"=ae (.ref t.zb)
 QT:jn K "recall" "recall" QG t.zb t.wQ
 Zg:Binds K t.wQ ["kept","x"] []
 abG:mg "born"=ae (.ref t.Jr)
 Zh:jn K "born" "born" Zb t.Jr t.Dx
 ad7:Binds K t.Dx ["kept","x"] []
 DK:mg "is_list_of_ids"=ae (.ref t.j9)
 wY:jn K "is_list_of_ids" "is_list_of_ids" wF t.j9 t.jA
 E9:Binds K t.jA ["ids"] []
 Oj:mg "split_off"=ae (.ref t.sv)
 F8:jn K "split_off" "split_off" FY t.sv t.qt
 QU:Binds K t.qt ["kept","x","ids"] []
 GX:mg "found_within"=ae (.ref t.mG)
 zu:jn K "found_within" "found_within" yR t.mG t.lh
 Jz:Binds K t.lh ["kept","x"] []
 GY:mg "close_family"=ae (.ref t.mH)
 zx:jn K "close_family" "close_family" yS t.mH t.lj
 JA:Binds K t.lj ["kept","x"] []
 Zi:mg "adopt"=ae (.ref t.Dy)
 Vg:jn K "adopt" "adopt" Vc t.Dy t.zc
 abH:Binds K t.zc ["kept","x","number"] []
 Zj:mg "leave"=ae (.ref t.Dz)
 Vh:jn K "leave" "leave" Vd t.Dz t.zg
 abI:Binds K t.zg ["kept","x"] []
 ju:mg "demand"=ae (.ref t.wR)
 jC:jn K "demand" "demand" QH t.wR t.tZ
 lD:Binds K t.tZ ["holds"] []
 LN:jn K "__init__" "Reader.__init__" Bt t.oz t.mI
 vV:Binds K t.mI ["self","numbers"] []
 nO:wt K t.du "is_at_end" t.jd
 Cv:jn K "is_at_end" "Reader.is_at_end" uh t.jd t.iS
 pJ:Binds K t.iS ["self"] []
 jf:wt K t.du "take_one" t.iA
 vz:jn K "take_one" "Reader.take_one" vp t.iA t.h9
 jD:Binds K t.h9 ["self"] []
 ia:wt K t.du "take_row" t.iB
 vA:jn K "take_row" "Reader.take_row" vq t.iB t.h_
 iE:Binds K t.h_ ["self","length"] []
 zy:wt K t.du "take_lists" t.iT
 A6:jn K "take_lists" "Reader.take_lists" tJ t.iT t.iw
 A7:Binds K t.iw ["self","how_many"] []
 LP:jn K "__init__" "Opened.__init__" Bu t.oA t.mJ
 LQ:Binds K t.mJ ["self","number","to_come"] []
 Ol:mg "clear_all"=ae (.ref t.sx)
 F9:jn K "clear_all" "clear_all" FZ t.sx t.qu
 QV:Binds K t.qu ["kept"] []
 abJ:mg "load"=ae (.ref t.Js)
 Zk:jn K "load" "load" s_load t.Js t.DB
 ad8:Binds K t.DB ["kept","next_number","forest","waits"] []
 JB:mg "read_forest"=ae (.ref t.oB)
 BI:jn K "read_forest" "read_forest" Bv t.oB t.mK
 LR:Binds K t.mK ["fresh","forest"] []
 zA:mg "read_family"=ae (.ref t.oC)
 vW:jn K "read_family" "read_family" Bw t.oC t.mL
 BJ:Binds K t.mL ["fresh","reader","parent","serial"] []
 E_:mg "read_children"=ae (.ref t.ll)
 xX:jn K "read_children" "read_children" xU t.ll t.j_
 GZ:Binds K t.j_ ["fresh","reader","opened"] []
 LS:mg "read_child"=ae (.ref t.qv)
 DL:jn K "read_child" "read_child" Dj t.qv t.oE
 Om:Binds K t.oE ["fresh","reader","opened"] []
 LV:mg "read_waits"=ae (.ref t.qw)
 DM:jn K "read_waits" "read_waits" Dk t.qw t.oF
 Oo:Binds K t.oF ["fresh","waits"] []
 JC:mg "may_wait_so"=ae (.ref t.oG)
 BK:jn K "may_wait_so" "may_wait_so" rP t.oG t.mM
 LW:Binds K t.mM ["fresh","x"] []
 G0:mg "tell_waiting"=ae (.ref t.mO)
 zB:jn K "tell_waiting" "tell_waiting" yT t.mO t.lu
 JD:Binds K t.lu ["kept"] []
 xY:mg "row_of_waits"=ae (.ref t.mQ)
 uH:jn K "row_of_waits" "row_of_waits" yU t.mQ t.lx
 zC:Binds K t.lx ["kept"] []
 T7:mg "tell_at"=ae (.ref t.wU)
 M9:jn K "tell_at" "tell_at" E1 t.wU t.uB
 W9:Binds K t.uB ["kept","place"] []
 LX:mg "tell_roots"=ae (.ref t.qx)
 DN:jn K "tell_roots" "tell_roots" Dl t.qx t.oH
 Oq:Binds K t.oH ["kept"] []
 xZ:mg "root_numbers"=ae (.ref t.mR)
 uI:jn K "root_numbers" "root_numbers" ui t.mR t.ly
 zD:Binds K t.ly ["kept"] []
 QW:mg "tell_all"=ae (.ref t.uC)
 JF:jn K "tell_all" "tell_all" Jh t.uC t.sy
 T8:Binds K t.sy ["kept"] []
 E':mg "row_of_family"=ae (.ref t.lA)
 x4:jn K "row_of_family" "row_of_family" xV t.lA t.j'
 G3:Binds K t.j' ["kept","number"] []
 uJ:mg "sizes_of_family"=ae (.ref t.jB)
 qP:jn K "sizes_of_family" "sizes_of_family" vt t.jB t.je
 vB:Binds K t.je ["kept","number"] []
 JG:mg "tell_counts"=ae (.ref t.oI)
 BL:jn K "tell_counts" "tell_counts" vR t.oI t.mS
 LY:Binds K t.mS ["kept"] []
 JH:mg "tell_person"=ae (.ref t.oJ)
 BM:jn K "tell_person" "tell_person" Bx t.oJ t.mU
 LZ:Binds K t.mU ["kept","x"] []
 JJ:mg "tell_family"=ae (.ref t.oK)
 BO:jn K "tell_family" "tell_family" vS t.oK t.mV
 L0:Binds K t.mV ["kept","number"] []
 G4:mg "tell_members"=ae (.ref t.mW)
 zE:jn K "tell_members" "tell_members" yV t.mW t.lB
 JK:Binds K t.lB ["kept","number"] []
 Ot:mg "tell_path"=ae (.ref t.sA)
 F_:jn K "tell_path" "tell_path" F4 t.sA t.qy
 QX:Binds K t.qy ["kept","x"] []
 QY:mg "tell_kin"=ae (.ref t.uD)
 JL:jn K "tell_kin" "tell_kin" Ji t.uD t.sC
 T9:Binds K t.sC ["kept","x","y"] []
 Ou:mg "tell_line"=ae (.ref t.sD)
 Ga:jn K "tell_line" "tell_line" F6 t.sD t.qz
 QZ:Binds K t.qz ["kept","number"] []
 zF:mg "people_held"=ae (.ref t.oM)
 vX:jn K "people_held" "people_held" By t.oM t.mX
 BP:Binds K t.mX ["kept","number"] []
 L4:mg "tell_alike"=ae (.ref t.qA)
 DP:jn K "tell_alike" "tell_alike" Dm t.qA t.oN
 Ov:Binds K t.oN ["kept","number","other"] []
 L5:mg "all_shapes"=ae (.ref t.qB)
 DQ:jn K "all_shapes" "all_shapes" Dn t.qB t.oO
 Ow:Binds K t.oO ["kept"] []
 Ox:mg "makeup_of"=ae (.ref t.sE)
 Gb:jn K "makeup_of" "makeup_of" yW t.sE t.qC
 Q0:Binds K t.qC ["kept","number","shapes"] []
 T_:mg "answers"=ae (.ref t.wV)
 M_:jn K "answers" "answers" M5 t.wV t.rE
 ae0:Binds K t.rE ["calls"] []
 JM:mg "answer_next"=ae (.ref t.oP)
 BQ:jn K "answer_next" "answer_next" Bz t.oP t.mY
 L6:Binds K t.mY ["kept","reader"] []
 W_:mg "change"=ae (.ref t.zh)
 Q5:jn K "change" "change" QI t.zh t.wW
 Zm:Binds K t.wW ["kept","place","numbers","lists"] []
 abK:mg "meet"=ae (.ref t.Jt)
 Zn:jn K "meet" "meet" Zc t.Jt t.DC
 ad9:Binds K t.DC ["kept","place","numbers"] []
 aea:mg "ask"=ae (.ref t.QL)
 acP:jn K "ask" "ask" acO t.QL t.Ju
 af0:Binds K t.Ju ["kept","place","numbers"] []
 L7:mg "ask_of_all"=ae (.ref t.qD)
 DR:jn K "ask_of_all" "ask_of_all" Dq t.qD t.oQ
 Oy:Binds K t.oQ ["kept","place","numbers"] []
 JN:mg "BadForm"=ae (.ref t.fD)
 M':vJ K t.fD [.type "Exception",.type "BaseException",.type "object"] "Exception.__new__"=true
 JP:∃tk,mg "OUT_OF_RANGE"=ae (.int (-1) tk)
 JQ:∃tk,mg "BAD_LIST"=ae (.int (-2) tk)
 x5:∃tk,mg "LIVES_ALREADY"=ae (.int (-3) tk)
 Oz:∃tk,mg "OWN_FAMILY"=ae (.int (-4) tk)
 T':∃tk,mg "TOO_DEEP"=ae (.int (-5) tk)
 kh:∃tk,mg "NO_SUCH_FAMILY"=ae (.int (-6) tk)
 abL:∃tk,mg "WAITS"=ae (.int (-7) tk)
 zG:∃tk,mg "NOT_AS_IT_IS"=ae (.int (-8) tk)
 sI:∃tk,mg "LIVES_NOT"=ae (.int (-10) tk)
 zH:∃tk,mg "PERSON"=ae (.int 0 tk)
 zI:∃tk,mg "FAMILY"=ae (.int 1 tk)
 Nb:∃tk,mg "DEEPEST"=ae (.int 40 tk)
 Cw:∃tk,mg "ASSEMBLE"=ae (.int 1 tk)
 JR:∃tk,mg "GATHER"=ae (.int 2 tk)
 OB:∃tk,mg "MATCH"=ae (.int 3 tk)
 JS:∃tk,mg "MUSTER"=ae (.int 4 tk)
 Ua:∃tk,mg "MOST_IDS"=ae (.int 100 tk)
 BR:mg "FIRST_ROWS"=ae (.ref t.tR)
 BU:∀P:bg,KD P w K t.tR (zi t)
 G5:∀H:Hp,n9 K H t.qE [.str "person"]
 G6:∀H:Hp,n9 K H t.qF [.str "person"]
 G7:∀H:Hp,n9 K H t.qG [.str "person"]
 G8:∀H:Hp,n9 K H t.qH [.str "person"]
 G9:∀H:Hp,n9 K H t.qI [.str "person",.str "family"]
 G_:∀H:Hp,n9 K H t.qJ [.str "person"]
 G':∀H:Hp,n9 K H t.qK [.str "person",.str "place",.str "count"]
 Hc:∀H:Hp,n9 K H t.qL [.str "person",.str "place",.str "count"]
 Hd:∀H:Hp,n9 K H t.qM [.str "person",.str "place",.str "place"]
 He:∀H:Hp,n9 K H t.qN [.str "person",.str "place"]
 Fb:∀H:Hp,n9 K H t.oZ [.str "person"]
 Fc:∀H:Hp,n9 K H t.o6 [.str "person"]
 Fd:∀H:Hp,n9 K H t.o7 [.str "family"]
 Fe:∀H:Hp,n9 K H t.o8 [.str "family"]
 Ff:∀H:Hp,n9 K H t.o9 [.str "person"]
 Fg:∀H:Hp,n9 K H t.o_ [.str "person",.str "person"]
 Fh:∀H:Hp,n9 K H t.pd [.str "family"]
 Fi:∀H:Hp,n9 K H t.ph [.str "family",.str "family"]
 Fj:∀H:Hp,n9 K H t.pj []
 Fk:∀H:Hp,n9 K H t.pq [.str "place"]
 Fm:∀H:Hp,n9 K H t.px []
 Fn:∀H:Hp,n9 K H t.pA []
 Fo:∀H:Hp,n9 K H t.pB [.str "family"]
 Fp:∀H:Hp,n9 K H t.pC []
 Fq:∀H:Hp,n9 K H t.pD []
 Zo:mg "LISTS"=ae (.ref t.Ij)
 Zq:∀P:bg,KD P w K t.Ij (E3 t)
 Xa:mg "LOWEST"=ae (.ref t.DE)
 Xb:∀P:bg,KD P w K t.DE (Cp t)
 Ub:mg "HIGHEST"=ae (.ref t.Au)
 Uc:∀P:bg,KD P w K t.Au (zj t)
 eG:mg "len"=ay
 abM:mg "list"=ay
 aeb:mg "max"=ay
 Zr:mg "range"=ay
 Zt:mg "set"=ay
 Aw:mg "sorted"=ay
 Zu:mg "tuple"=ay
 aec:mg "zip"=ay
theorem JT{w:cn}{K:au}{g g0 g1 g2 g3 g4 g5 g6 g7 g8 g9 g10 g11 g12 g13 g14 g15 g16 g17 g18 g19 g20 g21 g22 g23 g24:aj}{ep:Nat}{k0 k1 k2 k3 k4 k5 k6 k7 k8 k9 k10 k11 k12 k13 k14 k15 k16 k17 k18 k19 k20 k21 k22 k23 k24:Tok}(dl:K.lookup g=ae ⟨.type "dict",ay,.dict #[⟨0,.int 0 k0,.ref g0⟩,⟨1,.int 1 k1,.ref g1⟩,⟨2,.int 2 k2,.ref g2⟩,⟨3,.int 3 k3,.ref g3⟩,⟨4,.int 4 k4,.ref g4⟩,⟨5,.int 5 k5,.ref g5⟩,⟨6,.int 6 k6,.ref g6⟩,⟨7,.int 7 k7,.ref g7⟩,⟨8,.int 8 k8,.ref g8⟩,⟨9,.int 9 k9,.ref g9⟩,⟨10,.int 10 k10,.ref g10⟩,⟨11,.int 11 k11,.ref g11⟩,⟨12,.int 12 k12,.ref g12⟩,⟨13,.int 13 k13,.ref g13⟩,⟨14,.int 14 k14,.ref g14⟩,⟨15,.int 15 k15,.ref g15⟩,⟨16,.int 16 k16,.ref g16⟩,⟨17,.int 17 k17,.ref g17⟩,⟨18,.int 18 k18,.ref g18⟩,⟨19,.int 19 k19,.ref g19⟩,⟨20,.int 20 k20,.ref g20⟩,⟨21,.int 21 k21,.ref g21⟩,⟨22,.int 22 k22,.ref g22⟩,⟨23,.int 23 k23,.ref g23⟩,⟨24,.int 24 k24,.ref g24⟩] ep,#[]⟩)(sm:(g==d7)=false)(P:bg):KD P w K g [(.inl 0,.ref g0),(.inl 1,.ref g1),(.inl 2,.ref g2),(.inl 3,.ref g3),(.inl 4,.ref g4),(.inl 5,.ref g5),(.inl 6,.ref g6),(.inl 7,.ref g7),(.inl 8,.ref g8),(.inl 9,.ref g9),(.inl 10,.ref g10),(.inl 11,.ref g11),(.inl 12,.ref g12),(.inl 13,.ref g13),(.inl 14,.ref g14),(.inl 15,.ref g15),(.inl 16,.ref g16),(.inl 17,.ref g17),(.inl 18,.ref g18),(.inl 19,.ref g19),(.inl 20,.ref g20),(.inl 21,.ref g21),(.inl 22,.ref g22),(.inl 23,.ref g23),(.inl 24,.ref g24)]:=U' (l:=[(.inl 0,.int 0 k0,.ref g0),(.inl 1,.int 1 k1,.ref g1),(.inl 2,.int 2 k2,.ref g2),(.inl 3,.int 3 k3,.ref g3),(.inl 4,.int 4 k4,.ref g4),(.inl 5,.int 5 k5,.ref g5),(.inl 6,.int 6 k6,.ref g6),(.inl 7,.int 7 k7,.ref g7),(.inl 8,.int 8 k8,.ref g8),(.inl 9,.int 9 k9,.ref g9),(.inl 10,.int 10 k10,.ref g10),(.inl 11,.int 11 k11,.ref g11),(.inl 12,.int 12 k12,.ref g12),(.inl 13,.int 13 k13,.ref g13),(.inl 14,.int 14 k14,.ref g14),(.inl 15,.int 15 k15,.ref g15),(.inl 16,.int 16 k16,.ref g16),(.inl 17,.int 17 k17,.ref g17),(.inl 18,.int 18 k18,.ref g18),(.inl 19,.int 19 k19,.ref g19),(.inl 20,.int 20 k20,.ref g20),(.inl 21,.int 21 k21,.ref g21),(.inl 22,.int 22 k22,.ref g22),(.inl 23,.int 23 k23,.ref g23),(.inl 24,.int 24 k24,.ref g24)]) dl (by repeat first|exact ub _|refine tF.mpr ⟨by first|exact wg _ _|exact wj _ _,?_⟩) (by show([.inl 0,.inl 1,.inl 2,.inl 3,.inl 4,.inl 5,.inl 6,.inl 7,.inl 8,.inl 9,.inl 10,.inl 11,.inl 12,.inl 13,.inl 14,.inl 15,.inl 16,.inl 17,.inl 18,.inl 19,.inl 20,.inl 21,.inl 22,.inl 23,.inl 24]:List Key).Nodup;decide+kernel) (.cons ⟨rfl,rfl⟩ (.cons ⟨rfl,rfl⟩ (.cons ⟨rfl,rfl⟩ (.cons ⟨rfl,rfl⟩ (.cons ⟨rfl,rfl⟩ (.cons ⟨rfl,rfl⟩ (.cons ⟨rfl,rfl⟩ (.cons ⟨rfl,rfl⟩ (.cons ⟨rfl,rfl⟩ (.cons ⟨rfl,rfl⟩ (.cons ⟨rfl,rfl⟩ (.cons ⟨rfl,rfl⟩ (.cons ⟨rfl,rfl⟩ (.cons ⟨rfl,rfl⟩ (.cons ⟨rfl,rfl⟩ (.cons ⟨rfl,rfl⟩ (.cons ⟨rfl,rfl⟩ (.cons ⟨rfl,rfl⟩ (.cons ⟨rfl,rfl⟩ (.cons ⟨rfl,rfl⟩ (.cons ⟨rfl,rfl⟩ (.cons ⟨rfl,rfl⟩ (.cons ⟨rfl,rfl⟩ (.cons ⟨rfl,rfl⟩ (.cons ⟨rfl,rfl⟩ .nil))))))))))))))))))))))))) sm
theorem Xc{w:cn}{K:au}{g:aj}{ep:Nat}{k0 v0 k1 v1:Tok}(dl:K.lookup g=ae ⟨.type "dict",ay,.dict #[⟨1,.int 1 k0,.int 1 v0⟩,⟨22,.int 22 k1,.int 2 v1⟩] ep,#[]⟩)(sm:(g==d7)=false)(P:bg):KD P w K g [(.inl 1,.int 1),(.inl 22,.int 2)]:=U' (l:=[(.inl 1,.int 1 k0,.int 1 v0),(.inl 22,.int 22 k1,.int 2 v1)]) dl (by repeat first|exact ub _|refine tF.mpr ⟨by first|exact wg _ _|exact wj _ _,?_⟩) (by show([.inl 1,.inl 22]:List Key).Nodup;decide+kernel) (.cons ⟨rfl,⟨_,rfl⟩⟩ (.cons ⟨rfl,⟨_,rfl⟩⟩ .nil)) sm
theorem Ud{w:cn}{K:au}{g:aj}{ep:Nat}{k0 v0 k1 v1 k2 v2 k3 v3:Tok}(dl:K.lookup g=ae ⟨.type "dict",ay,.dict #[⟨kr w.params "person",.str "person" k0,.int 1 v0⟩,⟨kr w.params "family",.str "family" k1,.int 1 v1⟩,⟨kr w.params "place",.str "place" k2,.int 0 v2⟩,⟨kr w.params "count",.str "count" k3,.int 1 v3⟩] ep,#[]⟩)(sm:(g==d7)=false)(P:bg):KD P w K g [(.inr "person",.int 1),(.inr "family",.int 1),(.inr "place",.int 0),(.inr "count",.int 1)]:=U' (l:=[(.inr "person",.str "person" k0,.int 1 v0),(.inr "family",.str "family" k1,.int 1 v1),(.inr "place",.str "place" k2,.int 0 v2),(.inr "count",.str "count" k3,.int 1 v3)]) dl (by repeat first|exact ub _|refine tF.mpr ⟨by first|exact wg _ _|exact wj _ _,?_⟩) (by show([.inr "person",.inr "family",.inr "place",.inr "count"]:List Key).Nodup;decide+kernel) (.cons ⟨rfl,⟨_,rfl⟩⟩ (.cons ⟨rfl,⟨_,rfl⟩⟩ (.cons ⟨rfl,⟨_,rfl⟩⟩ (.cons ⟨rfl,⟨_,rfl⟩⟩ .nil)))) sm
theorem Q6{w:cn}{K:au}{g:aj}{ep:Nat}{k0 v0 k1 v1 k2 v2 k3 v3:Tok}(dl:K.lookup g=ae ⟨.type "dict",ay,.dict #[⟨kr w.params "person",.str "person" k0,.int 1000000000 v0⟩,⟨kr w.params "family",.str "family" k1,.int 1000000000000000000 v1⟩,⟨kr w.params "place",.str "place" k2,.int 999 v2⟩,⟨kr w.params "count",.str "count" k3,.int 1000 v3⟩] ep,#[]⟩)(sm:(g==d7)=false)(P:bg):KD P w K g [(.inr "person",.int 1000000000),(.inr "family",.int 1000000000000000000),(.inr "place",.int 999),(.inr "count",.int 1000)]:=U' (l:=[(.inr "person",.str "person" k0,.int 1000000000 v0),(.inr "family",.str "family" k1,.int 1000000000000000000 v1),(.inr "place",.str "place" k2,.int 999 v2),(.inr "count",.str "count" k3,.int 1000 v3)]) dl (by repeat first|exact ub _|refine tF.mpr ⟨by first|exact wg _ _|exact wj _ _,?_⟩) (by show([.inr "person",.inr "family",.inr "place",.inr "count"]:List Key).Nodup;decide+kernel) (.cons ⟨rfl,⟨_,rfl⟩⟩ (.cons ⟨rfl,⟨_,rfl⟩⟩ (.cons ⟨rfl,⟨_,rfl⟩⟩ (.cons ⟨rfl,⟨_,rfl⟩⟩ .nil)))) sm
theorem mkA{p:fO->Prop}{fb dw fU dW du eL fD ja j4 uw mw oj om si sj oo j6 iQ jy qm ux kY ou jc gU qo j8 mC wK y8 uz y9 y_ qp uA za mD mE zb Jr j9 sv mG mH Dy Dz wR oz jd iA iB iT oA sx Js oB oC ll qv qw oG mO mQ wU qx mR uC lA jB oI oJ oK mW sA uD sD oM qA qB sE wV oP zh Jt QL qD tR qE qF qG qH qI qJ qK qL qM qN oZ o6 o7 o8 o9 o_ pd ph pj pq px pA pB pC pD Ij DE Au:aj}{iP jw sh kX mx my qk ql mz jx iu jb oq sk j7 mB iR gL ox jz kZ uy wL sq wM wN oy su wO k_ lg wQ Dx jA qt lh lj zc zg tZ mI iS h9 h_ iw mJ qu DB mK mL j_ oE oF mM lu lx uB oH ly sy j' je mS mU mV lB qy sC qz mX oN oO qC rE mY wW DC Ju oQ:bq}(h:p ⟨fb,dw,fU,dW,du,eL,fD,ja,iP,j4,jw,uw,sh,mw,kX,oj,mx,om,my,si,qk,sj,ql,oo,mz,j6,jx,iQ,iu,jy,jb,qm,oq,ux,sk,kY,j7,ou,mB,jc,iR,gU,gL,qo,ox,j8,jz,mC,kZ,wK,uy,y8,wL,uz,sq,y9,wM,y_,wN,qp,oy,uA,su,za,wO,mD,k_,mE,lg,zb,wQ,Jr,Dx,j9,jA,sv,qt,mG,lh,mH,lj,Dy,zc,Dz,zg,wR,tZ,oz,mI,jd,iS,iA,h9,iB,h_,iT,iw,oA,mJ,sx,qu,Js,DB,oB,mK,oC,mL,ll,j_,qv,oE,qw,oF,oG,mM,mO,lu,mQ,lx,wU,uB,qx,oH,mR,ly,uC,sy,lA,j',jB,je,oI,mS,oJ,mU,oK,mV,mW,lB,sA,qy,uD,sC,sD,qz,oM,mX,qA,oN,qB,oO,sE,qC,wV,rE,oP,mY,zh,wW,Jt,DC,QL,Ju,qD,oQ,tR,qE,qF,qG,qH,qI,qJ,qK,qL,qM,qN,oZ,o6,o7,o8,o9,o_,pd,ph,pj,pq,px,pA,pB,pC,pD,Ij,DE,Au⟩):∃t,p t:=⟨_,h⟩
theorem exi{α:Type}{p:α->Prop}{a:α}(h:p a):∃x,p x:=⟨a,h⟩
end
structure GP where
 id:Int
 o:aj
 d:aj
 fam:Int
 cf:Int
structure GC where
 cf:Int
 tp:aj
 sort:Int
 id:Int
structure GF where
 num:Int
 o:aj
 d:aj
 par:Int
 cf:Int
 fN:Int
 ch:aj
 kids:List GC
structure GW where
 id:Int
 o:aj
 d:aj
 kind:Int
 place:Int
 num:Int
structure G where
 dk:aj
 pa:aj
 fa:aj
 wa:aj
 P:List GP
 F:List GF
 W:List GW
 nx:Int
def DS(f s:Int):List (Str×V):=[("family",.int f),("serial",.int s)]
def JV(p s n:Int)(ch:aj):List (Str×V):=[("parent",.int p),("serial",.int s),("next_serial",.int n),("children",.ref ch)]
def vC(k p n:Int):List (Str×V):=[("kind",.int k),("place",.int p),("number",.int n)]
def zJ(pa fa wa:aj)(n:Int):List (Str×V):=[("people",.ref pa),("families",.ref fa),("waits",.ref wa),("next_number",.int n)]
def Zv(p:GP):Key×V:=(.inl p.id,.ref p.o)
def uX(c:GC):Key×V:=(.inl c.cf,.ref c.tp)
def BV(f:GF):Key×V:=(.inl f.num,.ref f.o)
def BW(w:GW):Key×V:=(.inl w.id,.ref w.o)
structure Ue(t:fO)(H:Hp)(f:GF):Prop where
 obj:H f.o=ae (.ins t.dw f.d (JV f.par f.cf f.fN f.ch))
 yt:H f.ch=ae (.dK (f.kids.map uX))
 tup:∀c∈f.kids,H c.tp=ae (.tup [.int c.sort,.int c.id])
 nd:(f.kids.map (·.cf)).Nodup
structure cW(t:fO)(H:Hp)(k:aj)(g:G):Prop where
 kept:H k=ae (.ins t.dW g.dk (zJ g.pa g.fa g.wa g.nx))
 people:H g.pa=ae (.dK (g.P.map Zv))
 fams:H g.fa=ae (.dK (g.F.map BV))
 waits:H g.wa=ae (.dK (g.W.map BW))
 qQ:∀p∈g.P,H p.o=ae (.ins t.fb p.d (DS p.fam p.cf))
 fam:∀f∈g.F,Ue t H f
 wait:∀w∈g.W,H w.o=ae (.ins t.fU w.d (vC w.kind w.place w.num))
 Sy:(g.F.map (·.o)).Nodup
 Vi:(g.F.map (·.ch)).Nodup
 Yd:g.pa≠g.fa
 Ye:g.pa≠g.wa
 SD:g.fa≠g.wa
 Nc:∀f∈g.F,f.ch≠g.pa/\f.ch≠g.fa/\f.ch≠g.wa
 DT:(g.W.map (·.o)).Nodup
 Ik:(g.P.map (·.id)).Nodup
 xu:(g.F.map (·.num)).Nodup
 Il:(g.W.map (·.id)).Nodup
structure Apart(t:fO):Prop where
 pf:t.fb≠t.dw
 pw:t.fb≠t.fU
 pk:t.fb≠t.dW
 fw:t.dw≠t.fU
 fk:t.dw≠t.dW
 wk:t.fU≠t.dW
 rp:t.fb≠t.du
 rf:t.dw≠t.du
 rw:t.fU≠t.du
 rk:t.dW≠t.du
 op:t.fb≠t.eL
 of:t.dw≠t.eL
 ow:t.fU≠t.eL
 ok:t.dW≠t.eL
 or:t.du≠t.eL
def L8(k:aj)(g:G)(b:aj):Prop:=b=k\/b=g.pa\/b=g.fa\/b=g.wa\/(∃f∈g.F,b=f.o\/b=f.ch)\/∃w∈g.W,b=w.o
structure Step(k:aj)(g g':G)(H H':Hp):Prop where
 keep:∀b o,H b=ae o->¬L8 k g b->H' b=ae o
 foot:∀b,L8 k g' b->L8 k g b\/H b=ay
 live:∀b,H' b=ay->H b=ay
theorem dY{H:Hp}{a b:aj}{o:HO}(h:upd H a o b=ay):H b=ay:=by
 by_cases e:b=a;rw[e,aq] at h;cases h;rw[cZ e] at h;exact h
theorem cY{H H':Hp}(s:bC H H'){b:aj}(h:H' b=ay):H b=ay:=by
 cases e:H b with
 |none=>rfl
 |some o=>rw[s b o e] at h;cases h
theorem Step.trans{k:aj}{g g1 g2:G}{H H1 H2:Hp}(a:Step k g g1 H H1)(b:Step k g1 g2 H1 H2):Step k g g2 H H2 where
 keep:=λc o h n=>b.keep c o (a.keep c o h n) λz=>(a.foot c z).elim n λq=>by rw[q] at h;cases h
 foot:=λc z=>by
  obtain q|q:=b.foot c z
  exact a.foot c q
  ·by_cases n:L8 k g c;exact .inl n
   ·cases e:H c with
    |none=>exact .inr rfl
    |some o=>rw[a.keep c o e n] at q;cases q
 live:=λc h=>a.live c (b.live c h)
theorem Step.refl{k:aj}{g:G}{H:Hp}:Step k g g H H:=⟨λ_ _ h _=>h,λ_ h=> .inl h,λ_ h=>h⟩
theorem Step.same{k:aj}{g:G}{H H':Hp}(s:bC H H'):Step k g g H H':=⟨λb o h _=>s b o h,λ_ h=> .inl h,λ_ h=>cY s h⟩
theorem bC.new{H:Hp}{p:aj}{o:HO}(h:H p=ay):bC H (upd H p o):=λb u e=>by rw[cZ (aI e h)];exact e
theorem hJ{H:Hp}{a:aj}{o u:HO}:upd (upd H a o) a u=upd H a u:=by
 funext b;unfold upd;split<;>rfl
theorem bh{α β:Type}{f:α->β}:∀{l:List α} {a b:α},(l.map f).Nodup->a∈l->b∈l->f a=f b->a=b
 |[],_,_,_,h,_,_=>by cases h
 |x::r,a,b,nd,ha,hb,e=>by
  obtain⟨h1,h2⟩:=cU.mp nd;obtain rfl|ha':=aF.mp ha<;>obtain rfl|hb':=aF.mp hb
  rfl;exact bM (aA.mpr ⟨b,hb',e.symm⟩) h1;exact bM (aA.mpr ⟨a,ha',e⟩) h1;exact bh h2 ha' hb' e
section
variable{α:Type}(key:α->Int)
def fQ(a:α)(l:List α):List α:=if(l.any λb=>decide (key b=key a))=true then l.map (λb=>if key b=key a then a else b) else l++[a]
def cF(x:Int)(l:List α):List α:=l.filter λb=>decide (key b≠x)
def bj(x:Int)(l:List α):Option α:=l.find? λb=>decide (key b=x)
variable{key}{kv:α->Key×V}
theorem aed(h:∀a,(kv a).1= .inl (key a))(x:Int)(l:List α):((l.map kv).any λp=>decide (p.1=(cO x:Key)))=l.any λb=>decide (key b=x):=by
 rw[Sj];congr 1
 funext b
 show decide ((kv b).1=cO x)=_;rw[h b];exact decide_eq_decide.mpr ⟨λe=>ml e,λe=>by rw[e]⟩
theorem wZ(h:∀a,(kv a).1= .inl (key a))(a:α)(l:List α):(fQ key a l).map kv=putK (l.map kv) (.inl (key a)) (kv a).2:=by
 unfold fQ putK;rw[aed h];split
 ·rw[bx,bx];refine cu λb _=>?_;show kv (if key b=key a then a else b)=if(kv b).1= .inl (key a) then((kv b).1,(kv a).2) else kv b
  by_cases e:key b=key a;rw[bw e,bw (by rw[h b,e]),h b,e,<-h a];rw[aX e,aX (by rw[h b];exact λq=>e (ml q))]
 rw[az,X8,<-h a]
theorem pK(h:∀a,(kv a).1= .inl (key a))(x:Int)(l:List α):(cF key x l).map kv=IW (l.map kv) (.inl x):=by
 unfold cF IW;rw[hU];congr 1;refine d8 λb _=>?_;show decide (key b≠x)=decide ((kv b).1≠ .inl x);rw[h b];exact decide_eq_decide.mpr ⟨λe q=>e (ml q),λe q=>e (by rw[q])⟩
theorem jg(h:∀a,(kv a).1= .inl (key a))(x:Int)(l:List α):h8 (l.map kv) (.inl x)=(bj key x l).map λa=>(kv a).2:=by
 unfold h8 bj;rw[vc];have e:((λp:Key×V=>decide (p.1=(cO x:Key)))∘kv)=λb=>decide (key b=x):=by
  funext b
  show decide ((kv b).1= .inl x)=_;rw[h b];exact decide_eq_decide.mpr ⟨λe=>ml e,λe=>by rw[e]⟩
 rw[e,aaM];rfl
theorem bD{x:Int}{l:List α}{a:α}(h:bj key x l=ae a):a∈l/\key a=x:=⟨fM h,aY (lU (p:=λb=>decide (key b=x)) h)⟩
theorem cB{x:Int}{l:List α}{a:α}(nd:(l.map key).Nodup)(h:a∈l)(e:key a=x):bj key x l=ae a:=by
 cases q:bj key x l with
 |none=>
  have:=fg.mp q a h;exact bM (bG e) this
 |some b=>
  obtain⟨h1,h2⟩:=bD q;rw[bh nd h1 h (h2.trans e.symm)]
theorem fV{x:Int}{l:List α}(h:bj key x l=ay):∀a∈l,key a≠x:=λa ha e=>fg.mp h a ha (bG e)
theorem Ax{a b:α}{l:List α}(h:b∈fQ key a l):b=a\/(b∈l/\key b≠key a):=by
 unfold fQ at h;split at h
 ·obtain⟨c,hc,e⟩:=aA.mp h;by_cases q:key c=key a;rw[bw q] at e;exact .inl e.symm;rw[aX q] at e;subst e;exact .inr ⟨hc,q⟩
 ·rename_i n;obtain z|z:=aP.mp h
  exact .inr ⟨z,λe=>n (gu.mpr ⟨b,z,bG e⟩)⟩;exact .inl (ai.mp z)
theorem cw{x:Int}{b:α}{l:List α}:b∈cF key x l↔b∈l/\key b≠x:=by
 unfold cF;rw[aW,decide_eq_true_iff]
theorem Nf(a:α)(l:List α):(fQ key a l).map key=if(l.any λb=>decide (key b=key a))=true then l.map key else l.map key++[key a]:=by
 unfold fQ;split
 ·rw[bx];refine cu λb _=>?_;show key (if key b=key a then a else b)=key b;split;exact(‹key b=key a›).symm;rfl
 rw[az];rfl
theorem zK{a:α}{l:List α}(nd:(l.map key).Nodup):((fQ key a l).map key).Nodup:=by
 rw[Nf];split;exact nd;rename_i n;refine jT nd λm=>?_;obtain⟨b,hb,e⟩:=aA.mp m;exact n (gu.mpr ⟨b,hb,bG e⟩)
theorem Fs{x:Int}{l:List α}(f:α->Int)(nd:(l.map f).Nodup):((cF key x l).map f).Nodup:=nd.sublist ((fF).map f)
theorem jJ{β:Type}{x:Int}{l:List α}(f:α->β)(nd:(l.map f).Nodup):((cF key x l).map f).Nodup:=nd.sublist ((fF).map f)
theorem Ng(a:α)(l:List α):(fQ key a l).length<=l.length+1:=by
 unfold fQ;split;rw[ag];omega;rw[aK];exact aJ _
end
section
variable{t:fO}{H H':Hp}{k:aj}{g:G}
theorem Ue.same{f:GF}(x:Ue t H f)(s:bC H H'):Ue t H' f:=⟨s _ _ x.obj,s _ _ x.yt,λc hc=>s _ _ (x.tup c hc),x.nd⟩
theorem cW.same(x:cW t H k g)(s:bC H H'):cW t H' k g:=⟨s _ _ x.kept,s _ _ x.people,s _ _ x.fams,s _ _ x.waits,λp hp=>s _ _ (x.qQ p hp),λf hf=>(x.fam f hf).same s,λw hw=>s _ _ (x.wait w hw),x.Sy,x.Vi,x.Yd,x.Ye,x.SD,x.Nc,x.DT,x.Ik,x.xu,x.Il⟩
theorem aO{a b:aj}{o u:HO}(h:H b=ae o)(n:b≠a):upd H a u b=ae o:=by rw[cZ n];exact h
theorem cW.af1(x:cW t H k g){P':List GP}(hp:∀p∈P',H p.o=ae (.ins t.fb p.d (DS p.fam p.cf)))(nd:(P'.map (·.id)).Nodup):cW t (upd H g.pa (.dK (P'.map Zv))) k {g with P:=P'}:=by
 have nk:∀{b:aj} {C d fs},H b=ae (.ins C d fs)->b≠g.pa:=λh=>gg h x.people nofun;refine⟨aO x.kept (nk x.kept),aq,aO x.fams x.Yd.symm,aO x.waits x.Ye.symm,λp h=>aO (hp p h) (nk (hp p h)),λf hf=>?_,λw hw=>aO (x.wait w hw) (nk (x.wait w hw)),x.Sy,x.Vi,x.Yd,x.Ye,x.SD,x.Nc,x.DT,nd,x.xu,x.Il⟩;have z:=x.fam f hf;exact⟨aO z.obj (nk z.obj),aO z.yt (x.Nc f hf).1,λc hc=>aO (z.tup c hc) (gg (z.tup c hc) x.people nofun),z.nd⟩
theorem cW.af2(x:cW t H k g){F':List GF}(hf:∀f∈F',Ue t H f)(nd:(F'.map (·.num)).Nodup)(Sy:(F'.map (·.o)).Nodup)(Vi:(F'.map (·.ch)).Nodup)(Nc:∀f∈F',f.ch≠g.pa/\f.ch≠g.fa/\f.ch≠g.wa):cW t (upd H g.fa (.dK (F'.map BV))) k {g with F:=F'}:=by
 have nk:∀{b:aj} {C d fs},H b=ae (.ins C d fs)->b≠g.fa:=λh=>gg h x.fams nofun;refine⟨aO x.kept (nk x.kept),aO x.people x.Yd,aq,aO x.waits x.SD.symm,λp h=>aO (x.qQ p h) (nk (x.qQ p h)),λf h=>?_,λw hw=>aO (x.wait w hw) (nk (x.wait w hw)),Sy,Vi,x.Yd,x.Ye,x.SD,Nc,x.DT,x.Ik,nd,x.Il⟩;have z:=hf f h;exact⟨aO z.obj (nk z.obj),aO z.yt (Nc f h).2.1,λc hc=>aO (z.tup c hc) (gg (z.tup c hc) x.fams nofun),z.nd⟩
theorem cW.Q7(x:cW t H k g){W':List GW}(hw:∀w∈W',H w.o=ae (.ins t.fU w.d (vC w.kind w.place w.num)))(nd:(W'.map (·.id)).Nodup)(Sy:(W'.map (·.o)).Nodup):cW t (upd H g.wa (.dK (W'.map BW))) k {g with W:=W'}:=by
 have nk:∀{b:aj} {C d fs},H b=ae (.ins C d fs)->b≠g.wa:=λh=>gg h x.waits nofun;refine⟨aO x.kept (nk x.kept),aO x.people x.Ye,aO x.fams x.SD,aq,λp h=>aO (x.qQ p h) (nk (x.qQ p h)),λf h=>?_,λw h=>aO (hw w h) (nk (hw w h)),x.Sy,x.Vi,x.Yd,x.Ye,x.SD,x.Nc,Sy,x.Ik,x.xu,nd⟩;have z:=x.fam f h;exact⟨aO z.obj (nk z.obj),aO z.yt (x.Nc f h).2.2,λc hc=>aO (z.tup c hc) (gg (z.tup c hc) x.waits nofun),z.nd⟩
theorem cW.af3(x:cW t H k g)(A:Apart t){n:Int}:cW t (upd H k (.ins t.dW g.dk (zJ g.pa g.fa g.wa n))) k {g with nx:=n}:=by
 have nd:∀{b:aj} {kv},H b=ae (.dK kv)->b≠k:=λh=>gg h x.kept nofun;have ni:∀{b:aj} {C d fs},H b=ae (.ins C d fs)->C≠t.dW->b≠k:=λh n=>gg h x.kept (by intro z;cases z;exact n rfl);refine⟨aq,aO x.people (nd x.people),aO x.fams (nd x.fams),aO x.waits (nd x.waits),λp h=>aO (x.qQ p h) (ni (x.qQ p h) A.pk),λf h=>?_,λw h=>aO (x.wait w h) (ni (x.wait w h) A.wk),x.Sy,x.Vi,x.Yd,x.Ye,x.SD,x.Nc,x.DT,x.Ik,x.xu,x.Il⟩;have z:=x.fam f h;exact⟨aO z.obj (ni z.obj A.fk),aO z.yt (nd z.yt),λc hc=>aO (z.tup c hc) (gg (z.tup c hc) x.kept nofun),z.nd⟩
def setAt(n:Int)(u:GF->GF)(F:List GF):List GF:=F.map λh=>if h.num=n then u h else h
theorem ki{β:Type}(q:GF->β){n:Int}{u:GF->GF}{F:List GF}(h:∀f∈F,f.num=n->q (u f)=q f):(setAt n u F).map q=F.map q:=by
 unfold setAt;rw[bx];refine cu λf hf=>?_;show q (if f.num=n then u f else f)=q f;split;exact h f hf ‹_›;rfl
theorem e_{n:Int}{u:GF->GF}{F:List GF}{f:GF}(h:f∈setAt n u F):(∃f0∈F,f0.num=n/\f=u f0)\/(f∈F/\f.num≠n):=by
 obtain⟨f0,h0,e⟩:=aA.mp h;by_cases c:f0.num=n;rw[bw c] at e;exact .inl ⟨f0,h0,c,e.symm⟩;rw[aX c] at e;subst e;exact .inr ⟨h0,c⟩
theorem cW.Ug(x:cW t H k g)(A:Apart t){f:GF}(hf:f∈g.F){n:Int}:cW t (upd H f.o (.ins t.dw f.d (JV f.par f.cf n f.ch))) k {g with F:=setAt f.num (λh=>{h with fN:=n}) g.F}:=by
 have zf:=x.fam f hf;have nd:∀{b:aj} {kv},H b=ae (.dK kv)->b≠f.o:=λh=>gg h zf.obj nofun;have ni:∀{b:aj} {C d fs},H b=ae (.ins C d fs)->C≠t.dw->b≠f.o:=λh n=>gg h zf.obj (by intro z;cases z;exact n rfl);refine⟨aO x.kept (ni x.kept A.fk.symm),aO x.people (nd x.people),?_,aO x.waits (nd x.waits),λp h=>aO (x.qQ p h) (ni (x.qQ p h) A.pf),λf' h=>?_,λw h=>aO (x.wait w h) (ni (x.wait w h) A.fw.symm),?_,?_,x.Yd,x.Ye,x.SD,λf' h=>?_,x.DT,x.Ik,?_,x.Il⟩
 ·show upd H f.o _ g.fa=ae (.dK ((setAt f.num (λh=>{h with fN:=n}) g.F).map BV));rw[ki BV];exact aO x.fams (nd x.fams);intro _ _ _;rfl
 ·obtain⟨f0,h0,e,rfl⟩|⟨h0,ne⟩:=e_ h
  obtain rfl:=bh x.xu h0 hf e;exact⟨aq,aO zf.yt (nd zf.yt),λc hc=>aO (zf.tup c hc) (gg (zf.tup c hc) zf.obj nofun),zf.nd⟩;have z:=x.fam f' h0;have no:f'.o≠f.o:=λe=>ne (da GF.num (bh x.Sy h0 hf e));exact⟨aO z.obj no,aO z.yt (nd z.yt),λc hc=>aO (z.tup c hc) (gg (z.tup c hc) zf.obj nofun),z.nd⟩
 ·show((setAt f.num (λh=>{h with fN:=n}) g.F).map (·.o)).Nodup;rw[ki];exact x.Sy;intro _ _ _;rfl
 ·show((setAt f.num (λh=>{h with fN:=n}) g.F).map (·.ch)).Nodup;rw[ki];exact x.Vi;intro _ _ _;rfl
 ·obtain⟨f0,h0,e,rfl⟩|⟨h0,ne⟩:=e_ h
  exact x.Nc f0 h0;exact x.Nc f' h0
 ·show((setAt f.num (λh=>{h with fN:=n}) g.F).map (·.num)).Nodup;rw[ki];exact x.xu;intro _ _ _;rfl
theorem cW.xx(x:cW t H k g){f:GF}(hf:f∈g.F){cs:List GC}(hc:∀c∈cs,H c.tp=ae (.tup [.int c.sort,.int c.id]))(nds:(cs.map (·.cf)).Nodup):cW t (upd H f.ch (.dK (cs.map uX))) k {g with F:=setAt f.num (λh=>{h with kids:=cs}) g.F}:=by
 have zf:=x.fam f hf;have nc:=x.Nc f hf;have ni:∀{b:aj} {C d fs},H b=ae (.ins C d fs)->b≠f.ch:=λh=>gg h zf.yt nofun;have nt:∀{b:aj} {xs},H b=ae (.tup xs)->b≠f.ch:=λh=>gg h zf.yt nofun;refine⟨aO x.kept (ni x.kept),aO x.people nc.1.symm,?_,aO x.waits nc.2.2.symm,λp h=>aO (x.qQ p h) (ni (x.qQ p h)),λf' h=>?_,λw h=>aO (x.wait w h) (ni (x.wait w h)),?_,?_,x.Yd,x.Ye,x.SD,λf' h=>?_,x.DT,x.Ik,?_,x.Il⟩
 ·show upd H f.ch _ g.fa=ae (.dK ((setAt f.num (λh=>{h with kids:=cs}) g.F).map BV));rw[ki BV];exact aO x.fams nc.2.1.symm;intro _ _ _;rfl
 ·obtain⟨f0,h0,e,rfl⟩|⟨h0,ne⟩:=e_ h
  obtain rfl:=bh x.xu h0 hf e;exact⟨aO zf.obj (ni zf.obj),aq,λc h=>aO (hc c h) (nt (hc c h)),nds⟩;have z:=x.fam f' h0;have no:f'.ch≠f.ch:=λe=>ne (da GF.num (bh x.Vi h0 hf e));exact⟨aO z.obj (ni z.obj),aO z.yt no,λc hc=>aO (z.tup c hc) (nt (z.tup c hc)),z.nd⟩
 ·show((setAt f.num (λh=>{h with kids:=cs}) g.F).map (·.o)).Nodup;rw[ki];exact x.Sy;intro _ _ _;rfl
 ·show((setAt f.num (λh=>{h with kids:=cs}) g.F).map (·.ch)).Nodup;rw[ki];exact x.Vi;intro _ _ _;rfl
 ·obtain⟨f0,h0,e,rfl⟩|⟨h0,ne⟩:=e_ h
  exact x.Nc f0 h0;exact x.Nc f' h0
 ·show((setAt f.num (λh=>{h with kids:=cs}) g.F).map (·.num)).Nodup;rw[ki];exact x.xu;intro _ _ _;rfl
end
section
variable{P:bg}{w:cn}{K:au}{mg:Str->Option ax}{base:df}{t:fO}
def JW(t:fO):Sp:=λvs H Q _=>∃(p dx:aj) (f s:Int),vs=[.ref p,.int f,.int s]/\H p=ae (.ins t.fb dx [])/\Q .non (upd H p (.ins t.fb dx (DS f s)))
theorem JX(T:Txt w K mg t):dU P w K mg base kI 1 t.oj t.mx ["self","family","serial"] (JW t):=by
 refine T.LC.ok Jj (λvs H Q E h=>?_) (λiq Ar outer s H vs Q E hr h=>?_);obtain⟨p,dx,f,s,rfl,_⟩:=h;rfl;obtain⟨p,dx,f,s,rfl,hp,k⟩:=h;refine⟨_,(ao (gP (pv 0) (pv 1) rfl) (aD (gP (pv 0) (pv 2) rfl))),?_⟩;refine⟨_,rfl,_,rfl,_,_,_,_,rfl,hp,T.lN,T.kb,(by show 0<1000;decide),?_⟩;refine⟨_,rfl,_,rfl,_,_,_,_,rfl,aq,T.lN,T.kc,(by show 1<1000;decide),?_⟩;rw[hJ];exact k
def OD(t:fO):Sp:=λvs H Q _=>∃(p dx:aj) (k pl n:Int),vs=[.ref p,.int k,.int pl,.int n]/\H p=ae (.ins t.fU dx [])/\Q .non (upd H p (.ins t.fU dx (vC k pl n)))
theorem OG(T:Txt w K mg t):dU P w K mg base kI 1 t.si t.qk ["self","kind","place","number"] (OD t):=by
 refine T.QM.ok Ob (λvs H Q E h=>?_) (λiq Ar outer s H vs Q E hr h=>?_);obtain⟨p,dx,f,s,n,rfl,_⟩:=h;rfl;obtain⟨p,dx,f,s,n,rfl,hp,k⟩:=h;refine⟨_,(ao (gP (pv 0) (pv 1) rfl) (ao (gP (pv 0) (pv 2) rfl) (aD (gP (pv 0) (pv 3) rfl)))),?_⟩;refine⟨_,rfl,_,rfl,_,_,_,_,rfl,hp,T.eE,T.gW,(by show 0<1000;decide),?_⟩;refine⟨_,rfl,_,rfl,_,_,_,_,rfl,aq,T.eE,T.iY,(by show 1<1000;decide),?_⟩;rw[hJ];refine⟨_,rfl,_,rfl,_,_,_,_,rfl,aq,T.eE,T.dM,(by show 2<1000;decide),?_⟩;rw[hJ];exact k
def JY(t:fO):Sp:=λvs H Q _=>∃(p dx:aj) (f s n:Int),vs=[.ref p,.int f,.int s,.int n]/\H p=ae (.ins t.dw dx [])/\∀c,H c=ay->Q .non (upd (upd H c (.dK [])) p (.ins t.dw dx (JV f s n c)))
theorem JZ{H:Hp}{a b:aj}{o u:HO}(h:a≠b):upd (upd H a o) b u=upd (upd H b u) a o:=by
 funext c;unfold upd
 by_cases e:c=a;subst e;rw[if_neg h,if_pos rfl];simp
 ·by_cases e':c=b;subst e';simp[e];simp[e,e']
theorem J0(T:Txt w K mg t):dU P w K mg base kI 1 t.om t.my ["self","parent","serial","next_serial"] (JY t):=by
 refine T.LG.ok Jk (λvs H Q E h=>?_) (λiq Ar outer s H vs Q E hr h=>?_);obtain⟨p,dx,f,s,n,rfl,_⟩:=h;rfl
 ·obtain⟨p,dx,f,s,n,rfl,hp,k⟩:=h;refine⟨_,(ao (gP (pv 0) (pv 1) rfl) (ao (gP (pv 0) (pv 2) rfl) (ao (gP (pv 0) (pv 3) rfl) (aD (gP (pv 0) yL rfl))))),?_⟩;refine⟨_,rfl,_,rfl,_,_,_,_,rfl,hp,T.dB,T.fS,(by show 0<1000;decide),?_⟩;refine⟨_,rfl,_,rfl,_,_,_,_,rfl,aq,T.dB,T.ny,(by show 1<1000;decide),?_⟩;rw[hJ];refine⟨_,rfl,_,rfl,_,_,_,_,rfl,aq,T.dB,T.gD,(by show 2<1000;decide),?_⟩;rw[hJ];intro c hc;have hcp:c≠p:=λe=>by rw[e,aq] at hc;cases hc
  rw[cZ hcp] at hc;refine⟨_,rfl,_,_,_,_,rfl,aO aq (gA hcp),T.dB,T.dI,(by show 3<1000;decide),?_⟩;rw[JZ (gA hcp),hJ];exact k c hc
def OI(t:fO):Sp:=λvs H Q _=>∃(p dx:aj),vs=[.ref p]/\H p=ae (.ins t.dW dx [])/\∀H' pa fa wa,cW t H' p ⟨dx,pa,fa,wa,[],[],[],1⟩->(∀b o,H b=ae o->b≠p->H' b=ae o)->H pa=ay->H fa=ay->H wa=ay->Q .non H'
theorem xA(T:Txt w K mg t):dU P w K mg base kI 1 t.sj t.ql ["self"] (OI t):=by
 refine T.QO.ok Oc (λvs H Q E h=>?_) (λiq Ar outer s H vs Q E hr h=>?_);obtain⟨p,dx,rfl,_⟩:=h;rfl
 ·obtain⟨p,dx,rfl,hp,k⟩:=h;refine⟨_,(ao (gP (pv 0) yL rfl) (ao (gP (pv 0) yL rfl) (ao (gP (pv 0) yL rfl) (aD (gP (pv 0) aQ rfl))))),?_⟩;intro pa SG;have n1:p≠pa:=aI hp SG;refine⟨_,rfl,_,_,_,_,rfl,aO hp n1,T.aR,T.dy,(by show 0<1000;decide),?_⟩;intro fa Vj;have n2:fa≠p:=λe=>by rw[e,aq] at Vj;cases Vj
  rw[cZ n2] at Vj;have n3:fa≠pa:=λe=>by rw[e,aq] at Vj;cases Vj
  rw[cZ n3] at Vj;refine⟨_,rfl,_,_,_,_,rfl,aO aq n2.symm,T.aR,T.bH,(by show 1<1000;decide),?_⟩;rw[JZ n2.symm,hJ];intro wa Q8;have n4:wa≠p:=λe=>by rw[e,aq] at Q8;cases Q8
  rw[cZ n4] at Q8;have n5:wa≠fa:=λe=>by rw[e,aq] at Q8;cases Q8
  rw[cZ n5] at Q8;have n6:wa≠pa:=λe=>by rw[e,aq] at Q8;cases Q8
  rw[cZ n6] at Q8;refine⟨_,rfl,_,_,_,_,rfl,aO aq n4.symm,T.aR,T.cA,(by show 2<1000;decide),?_⟩;rw[JZ n4.symm,hJ];refine⟨_,rfl,_,_,_,_,rfl,aq,T.aR,T.ft,(by show 3<1000;decide),?_⟩;rw[hJ];refine k _ pa fa wa ⟨aq,?_,?_,?_,by simp,by simp,by simp,by simp,by simp,n3.symm,n6.symm,n5.symm,by simp,by simp,by simp,by simp,by simp⟩ (λb o e nb=>?_) SG Vj Q8;exact aO (aO (aO aq n3.symm) n6.symm) n1.symm;exact aO (aO aq n5.symm) n2;exact aO aq n4;exact aO (aO (aO (aO e (aI e SG)) (aI e Vj)) (aI e Q8)) nb
end
section
variable{P:bg}{w:cn}{K:au}{mg:Str->Option ax}{base:df}{t:fO}
theorem kP:∀a:GP,(Zv a).1= .inl a.id:=λ_=>rfl
theorem kC:∀a:GC,(uX a).1= .inl a.cf:=λ_=>rfl
theorem kF:∀a:GF,(BV a).1= .inl a.num:=λ_=>rfl
theorem kW:∀a:GW,(BW a).1= .inl a.id:=λ_=>rfl
structure af4(t:fO)(H:Hp)(f:GF):Prop where
 obj:H f.o=ae (.ins t.dw f.d (JV f.par f.cf f.fN f.ch))
 yt:Rd H f.ch (.dK (f.kids.map uX))
 tup:∀c∈f.kids,H c.tp=ae (.tup [.int c.sort,.int c.id])
 nd:(f.kids.map (·.cf)).Nodup
structure eI(t:fO)(H:Hp)(k:aj)(g:G):Prop where
 kept:H k=ae (.ins t.dW g.dk (zJ g.pa g.fa g.wa g.nx))
 people:Rd H g.pa (.dK (g.P.map Zv))
 fams:Rd H g.fa (.dK (g.F.map BV))
 waits:Rd H g.wa (.dK (g.W.map BW))
 qQ:∀p∈g.P,H p.o=ae (.ins t.fb p.d (DS p.fam p.cf))
 fam:∀f∈g.F,af4 t H f
 wait:∀w∈g.W,H w.o=ae (.ins t.fU w.d (vC w.kind w.place w.num))
 Ik:(g.P.map (·.id)).Nodup
 xu:(g.F.map (·.num)).Nodup
 Il:(g.W.map (·.id)).Nodup
section
variable{H H':Hp}{k:aj}{g:G}
theorem Ue.r{f:GF}(x:Ue t H f):af4 t H f:=⟨x.obj,.inl x.yt,x.tup,x.nd⟩
theorem cW.r(x:cW t H k g):eI t H k g:=⟨x.kept,.inl x.people,.inl x.fams,.inl x.waits,x.qQ,λf hf=>(x.fam f hf).r,x.wait,x.Ik,x.xu,x.Il⟩
def NoL:HO->Prop
 | .lst _=>False
 |_=>True
def ib(H H':Hp):Prop:=∀b o,H b=ae o->NoL o->H' b=ae o\/∃kvs od,o= .dK kvs/\H' b=ae (.jq od o)
theorem ib.rd(s:ib H H'){a:aj}{kvs:List (Key×V)}(h:Rd H a (.dK kvs)):Rd H' a (.dK kvs):=by
 obtain h|⟨o,h⟩:=h
 ·obtain z|⟨_,od,_,z⟩:=s a _ h trivial
  exact .inl z;exact .inr ⟨od,z⟩
 ·obtain z|⟨_,od,e,z⟩:=s a _ h trivial
  exact .inr ⟨o,z⟩;cases e
theorem ib.at(s:ib H H'){a:aj}{o:HO}(h:H a=ae o)(n:NoL o)(d:∀kvs,o≠ .dK kvs):H' a=ae o:=by
 obtain z|⟨kvs,_,e,_⟩:=s a o h n
 exact z;exact bM e (d kvs)
theorem eI.lE(x:eI t H k g)(s:ib H H'):eI t H' k g:=⟨s.at x.kept trivial (by intro _ z;cases z),s.rd x.people,s.rd x.fams,s.rd x.waits,λp hp=>s.at (x.qQ p hp) trivial (by intro _ z;cases z),λf hf=>⟨s.at (x.fam f hf).obj trivial (by intro _ z;cases z),s.rd (x.fam f hf).yt,λc hc=>s.at ((x.fam f hf).tup c hc) trivial (by intro _ z;cases z),(x.fam f hf).nd⟩,λw hw=>s.at (x.wait w hw) trivial (by intro _ z;cases z),x.Ik,x.xu,x.Il⟩
theorem ib.same(s:bC H H'):ib H H':=λb o h _=> .inl (s b o h)
theorem ib.lock{a:aj}{kvs:List (Key×V)}{od:Obj}(h:H a=ae (.dK kvs)):ib H (upd H a (.jq od (.dK kvs))):=λb u e n=>by
 by_cases z:b=a;subst z;rw[h] at e;cases e;exact .inr ⟨kvs,od,rfl,aq⟩;exact .inl (aO e z)
theorem rD.rd{a:aj}{kvs:List (Key×V)}{k:Key}(e:Rd H a (.dK kvs)):rD H a (kV k) (h8 kvs k):= .inl ⟨kvs,k,e,rfl,rfl⟩
theorem eI.J1(x:eI t H k g){i:Int}:rD H g.pa (.int i) ((bj GP.id i g.P).map λp=>V.ref p.o):=by
 have e:=rD.rd (k:= .inl i) x.people;rw[jg kP] at e;exact e
theorem eI.Q9(x:eI t H k g){i:Int}:rD H g.fa (.int i) ((bj GF.num i g.F).map λp=>V.ref p.o):=by
 have e:=rD.rd (k:= .inl i) x.fams;rw[jg kF] at e;exact e
theorem eI.Uh(x:eI t H k g){i:Int}:rD H g.wa (.int i) ((bj GW.id i g.W).map λp=>V.ref p.o):=by
 have e:=rD.rd (k:= .inl i) x.waits;rw[jg kW] at e;exact e
theorem eI.Q_(x:eI t H k g){i:Int}{p:GP}(h:bj GP.id i g.P=ae p):rD H g.pa (.int i) (ae (V.ref p.o)):=by
 have e:=x.J1 (i:=i);rw[h] at e;exact e
theorem eI.sJ(x:eI t H k g){i:Int}{p:GF}(h:bj GF.num i g.F=ae p):rD H g.fa (.int i) (ae (V.ref p.o)):=by
 have e:=x.Q9 (i:=i);rw[h] at e;exact e
theorem eI.zL(x:eI t H k g){i:Int}{p:GW}(h:bj GW.id i g.W=ae p):rD H g.wa (.int i) (ae (V.ref p.o)):=by
 have e:=x.Uh (i:=i);rw[h] at e;exact e
theorem cW.Q_(x:cW t H k g){i:Int}{p:GP}(h:bj GP.id i g.P=ae p):rD H g.pa (.int i) (ae (V.ref p.o)):=x.r.Q_ h
theorem cW.sJ(x:cW t H k g){i:Int}{p:GF}(h:bj GF.num i g.F=ae p):rD H g.fa (.int i) (ae (V.ref p.o)):=x.r.sJ h
theorem cW.zL(x:cW t H k g){i:Int}{p:GW}(h:bj GW.id i g.W=ae p):rD H g.wa (.int i) (ae (V.ref p.o)):=x.r.zL h
end
def DU(t:fO):Sp:=λvs H Q _=>∃(k:aj) (g:G) (x:Int) (p:GP),vs=[.ref k,.int x]/\eI t H k g/\bj GP.id x g.P=ae p/\Q (.int p.fam) H
theorem eO(T:Txt w K mg t):dU P w K mg base kI 1 t.j6 t.jx ["self","x"] (DU t):=by
 refine T.E7.ok Ds (λvs H Q E h=>?_) (λiq Ar outer s H vs Q E hr h=>?_);obtain⟨k,g,x,p,rfl,_⟩:=h;rfl;obtain⟨k,g,x,p,rfl,KG,hp,q⟩:=h;refine⟨_,(aD (bu (aT (fq (d9 hr) (aT (pv 0) rfl) (pv 1) (λ_ _=>rfl)) rfl))),?_⟩;exact⟨_,rfl,_,_,_,_,_,rfl,KG.kept,T.aR,T.dy,rfl,_,rfl,_,_,rfl,KG.Q_ hp,_,_,_,_,_,rfl,KG.qQ p (bD hp).1,T.lN,T.kb,rfl,q⟩
def DV(t:fO):Sp:=λvs H Q _=>∃(k:aj) (g:G) (x:Int),vs=[.ref k,.int x]/\eI t H k g/\Q (.int (if(bj GP.id x g.P).isSome=false then -10 else if(bj GW.id x g.W).isSome=true then -7 else 0)) H
theorem f9(T:Txt w K mg t):dU P w K mg base kI 1 t.j8 t.jz ["self","x"] (DV t):=by
 refine T.E8.ok Dt (λvs H Q E h=>?_) (λiq Ar outer s H vs Q E hr h=>?_);obtain⟨k,g,x,rfl,_⟩:=h;rfl
 ·obtain⟨k,g,x,rfl,KG,q⟩:=h;refine⟨_,(ao (dr (kG (gC (d9 hr) (pv 1) (aT (pv 0) rfl))) (aD (bu (dE rfl T.sI))) bY) (ao (dr (kG (IY (d9 hr) (pv 1) (aT (pv 0) rfl))) (aD (bu (dE rfl T.abL))) bY) (aD (bu aQ)))),?_⟩;refine⟨_,rfl,_,rfl,_,_,_,_,_,rfl,KG.kept,T.aR,T.dy,rfl,_,_,rfl,KG.J1,_,rfl,?_⟩;rw[bZ];cases e1:(bj GP.id x g.P).isSome with
  |false=>
   rw[e1,bw rfl] at q;exact q
  |true=>
   rw[e1,aX (by decide)] at q;refine⟨_,rfl,_,rfl,_,_,_,_,_,rfl,KG.kept,T.aR,T.cA,rfl,_,_,rfl,KG.Uh,_,rfl,?_⟩;rw[bZ];cases e2:(bj GW.id x g.W).isSome with
   |true=>
    rw[e2,bw rfl] at q;exact q
   |false=>
    rw[e2,aX (by decide)] at q;exact q
end
theorem pT{α:Type}{key:α->Int}{a:α}{l:List α}(h:∀b∈l,key b≠key a):fQ key a l=l++[a]:=by
 unfold fQ;rw[if_neg];intro q;obtain⟨b,hb,e⟩:=gu.mp q;exact h b hb (of_decide_eq_true e)
section
variable{P:bg}{w:cn}{K:au}{mg:Str->Option ax}{base:df}{t:fO}
def putKid(n:Int)(c:GC)(F:List GF):List GF:=setAt n (λh=>{h with kids:=fQ GC.cf c h.kids}) F
theorem pU{n:Int}{u v:GF->GF}{F:List GF}(h:∀f∈F,f.num=n->u f=v f):setAt n u F=setAt n v F:=by
 unfold setAt;refine cu λf hf=>?_;show(if f.num=n then u f else f)=if f.num=n then v f else f
 split;exact h f hf ‹_›;rfl
def Ra(t:fO):Sp:=λvs H Q _=>∃(k:aj) (g:G) (x n s:Int) (f:GF),vs=[.ref k,.int x,.int n,.int s]/\cW t H k g/\bj GF.num n g.F=ae f/\f.kids.length<aM/\g.P.length<aM/\∀H' o d tp,cW t H' k {g with F:=putKid n ⟨s,tp,0,x⟩ g.F,P:=fQ GP.id ⟨x,o,d,n,s⟩ g.P}->Step k g {g with F:=putKid n ⟨s,tp,0,x⟩ g.F,P:=fQ GP.id ⟨x,o,d,n,s⟩ g.P} H H'->Q .non H'
theorem xB{k:aj}{g:G}{n:Int}{u:GF->GF}{P':List GP}(h1:∀f,(u f).o=f.o)(h2:∀f,(u f).ch=f.ch){b:aj}(z:L8 k {g with F:=setAt n u g.F,P:=P'} b):L8 k g b:=by
 obtain z|z|z|z|⟨f,hf,z⟩|z:=z
 exact .inl z;exact .inr (.inl z);exact .inr (.inr (.inl z));exact .inr (.inr (.inr (.inl z)))
 ·obtain⟨f0,h0,_,rfl⟩|⟨h0,_⟩:=e_ hf
  rw[h1,h2] at z;exact .inr (.inr (.inr (.inr (.inl ⟨f0,h0,z⟩))));exact .inr (.inr (.inr (.inr (.inl ⟨f,h0,z⟩))))
 exact .inr (.inr (.inr (.inr (.inr z))))
section
variable{H:Hp}{k:aj}{g:G}
theorem Step.xx{f:GF}(hf:f∈g.F){u:GF->GF}{o:HO}(h1:∀f,(u f).o=f.o)(h2:∀f,(u f).ch=f.ch):Step k g {g with F:=setAt f.num u g.F} H (upd H f.ch o):=⟨λb u e nf=>aO e λz=>nf (.inr (.inr (.inr (.inr (.inl ⟨f,hf,.inr z⟩))))),λb z=> .inl (xB (P':=g.P) h1 h2 z),λ_ h=>dY h⟩
end
def gh(n p s nx:Int)(o d ch tp:aj)(F:List GF):List GF:=if p=0 then F++[⟨n,o,d,p,s,nx,ch,[]⟩] else putKid p ⟨s,tp,1,n⟩ (F++[⟨n,o,d,p,s,nx,ch,[]⟩])
def Cy(t:fO):Sp:=λvs H Q _=>∃(k:aj) (g:G) (n p s nx:Int),vs=[.ref k,.int n,.int p,.int s,.int nx]/\cW t H k g/\(∀f∈g.F,f.num≠n)/\g.F.length<aM/\(p=0\/∃f,bj GF.num p g.F=ae f/\f.kids.length<aM)/\∀H' o d ch tp,cW t H' k {g with F:=gh n p s nx o d ch tp g.F}->Step k g {g with F:=gh n p s nx o d ch tp g.F} H H'->Q .non H'
theorem uK(T:Txt w K mg t):dU P w K mg base kI 3 t.jy t.jb ["self","number","parent","serial","next_serial"] (Cy t):=by
 refine T.DG.ok Ck (λvs H Q E h=>?_) (λiq Ar outer s H vs Q E hr h=>?_);obtain⟨k,g,n,p,s,nx,rfl,_⟩:=h;rfl
 ·obtain⟨k,g,n,p,s,nx,rfl,KG,nw,sz,aef,q⟩:=h;refine⟨_,(ao (An (d9 hr) (aT (pv 0) rfl) (pv 1) (xn T.W1 (J0 T) hr.mo rfl T.WZ T.LH .nil bQ (ah (pv 2) (ah (pv 3) (ah (pv 4) aw)))) rfl) (aD (dr (b_ r6 (pv 2) aQ (ck _)) (aD (An (d9 hr) (aT (fq (d9 hr) (aT (pv 0) rfl) (pv 2) (λ_ _=>rfl)) rfl) (pv 3) (NX (ah (dE rfl T.zI) (ah (pv 1) aw))) rfl)) bY))),?_⟩;refine⟨_,rfl,_,rfl,_,rfl,?_⟩;intro o d ho hd ndo;refine⟨o,d,p,s,nx,rfl,aq,λch hc=>⟨rfl,?_⟩⟩;have nco:ch≠o:=λe=>by rw[e,aq] at hc;cases hc
  rw[cZ nco] at hc;have ncd:ch≠d:=λe=>by rw[e,aq] at hc;cases hc
  rw[cZ ncd] at hc;have sm:bC H (upd (upd (upd (upd H d (.own o)) o (.ins t.dw d [])) ch (.dK [])) o (.ins t.dw d (JV p s nx ch))):=λb u e=>
   aO (aO (aO (aO e (aI e hd)) (aI e ho)) (aI e hc)) (aI e ho)
  have fo:upd (upd (upd (upd H d (.own o)) o (.ins t.dw d [])) ch (.dK [])) o (.ins t.dw d (JV p s nx ch)) o=ae (.ins t.dw d (JV p s nx ch)):=aq;have fc:upd (upd (upd (upd H d (.own o)) o (.ins t.dw d [])) ch (.dK [])) o (.ins t.dw d (JV p s nx ch)) ch=ae (.dK []):=aO aq nco;generalize upd (upd (upd (upd H d (.own o)) o (.ins t.dw d [])) ch (.dK [])) o (.ins t.dw d (JV p s nx ch))=H1 at sm fo fc;have fW:=KG.same sm;refine⟨_,rfl,_,_,_,_,_,rfl,fW.kept,T.aR,T.bH,rfl,_,rfl,_,_,rfl,IX.k (k:=cO n) fW.fams (by rw[ag];exact sz),?_⟩;have e1:putK (g.F.map BV) (.inl n) (.ref o)=(g.F++[(⟨n,o,d,p,s,nx,ch,[]⟩:GF)]).map BV:=by
   rw[<-pT (key:=GF.num) (a:=⟨n,o,d,p,s,nx,ch,[]⟩) nw,wZ kF];rfl
  rw[e1];have gG:cW t (upd H1 g.fa (.dK ((g.F++[(⟨n,o,d,p,s,nx,ch,[]⟩:GF)]).map BV))) k {g with F:=g.F++[⟨n,o,d,p,s,nx,ch,[]⟩]}:=by
   refine fW.af2 (λf hf=>?_) ?_ ?_ ?_ (λf hf=>?_)
   ·obtain z|z:=aP.mp hf
    exact fW.fam f z;obtain rfl:=ai.mp z;exact⟨fo,fc,by simp,by simp⟩
   ·rw[az];exact jT KG.xu λm=>by obtain⟨f,hf,e⟩:=aA.mp m;exact nw f hf e
   ·rw[az];exact jT KG.Sy λm=>by obtain⟨f,hf,e⟩:=aA.mp m;exact aI (KG.fam f hf).obj ho e
   ·rw[az];exact jT KG.Vi λm=>by obtain⟨f,hf,e⟩:=aA.mp m;exact aI (KG.fam f hf).yt hc e
   ·obtain z|z:=aP.mp hf
    exact KG.Nc f z;obtain rfl:=ai.mp z;exact⟨(aI KG.people hc).symm,(aI KG.fams hc).symm,(aI KG.waits hc).symm⟩
  have S2:Step k g {g with F:=g.F++[⟨n,o,d,p,s,nx,ch,[]⟩]} H (upd H1 g.fa (.dK ((g.F++[(⟨n,o,d,p,s,nx,ch,[]⟩:GF)]).map BV))):=by
   refine⟨λb u e nf=>aO (sm b u e) λz=>nf (.inr (.inr (.inl z))),λb z=>?_,λb h=>cY sm (dY h)⟩;obtain z|z|z|z|⟨f,hf,z⟩|z:=z
   exact .inl (.inl z);exact .inl (.inr (.inl z));exact .inl (.inr (.inr (.inl z)));exact .inl (.inr (.inr (.inr (.inl z))))
   ·obtain y|y:=aP.mp hf
    exact .inl (.inr (.inr (.inr (.inr (.inl ⟨f,y,z⟩)))))
    ·obtain rfl:=ai.mp y;obtain z|z:=z
     rw[z];exact .inr ho;rw[z];exact .inr hc
   exact .inl (.inr (.inr (.inr (.inr (.inr z)))))
  generalize upd H1 g.fa (.dK ((g.F++[(⟨n,o,d,p,s,nx,ch,[]⟩:GF)]).map BV))=H2 at gG S2;refine⟨_,rfl,rfl,_,rfl,?_⟩;refine cN (λc=>?_) (λc=>?_)
  ·have hp0:p≠0:=by simpa using c
   obtain⟨f,hf,Zw⟩:=aef.resolve_left hp0;obtain⟨uY,efn⟩:=bD hf;refine⟨_,rfl,Yc,λtp OJ=>?_⟩;have s3:bC H2 (upd H2 tp (.tup [.int 1,.int n])):=bC.new OJ;have pL:=gG.same s3;have etp:upd H2 tp (.tup [.int 1,.int n]) tp=ae (.tup [.int 1,.int n]):=aq;generalize upd H2 tp (.tup [.int 1,.int n])=H3 at s3 pL etp;have Gc:f∈g.F++[(⟨n,o,d,p,s,nx,ch,[]⟩:GF)]:=bO _ uY;refine⟨_,rfl,_,_,_,_,_,rfl,pL.kept,T.aR,T.bH,rfl,_,rfl,_,_,rfl,pL.sJ (cB pL.xu Gc efn),_,_,_,_,_,rfl,(pL.fam f Gc).obj,T.dB,T.dI,rfl,_,rfl,_,_,rfl,IX.k (k:=cO s) (pL.fam f Gc).yt (by rw[ag];exact Zw),?_⟩;have e2:putK (f.kids.map uX) (.inl s) (.ref tp)=(fQ GC.cf ⟨s,tp,1,n⟩ f.kids).map uX:=by rw[wZ kC];rfl
   rw[e2];have BX:=pL.xx Gc (cs:=fQ GC.cf ⟨s,tp,1,n⟩ f.kids) (λc hc=>by
    obtain rfl|⟨z,_⟩:=Ax hc
    exact etp;exact(pL.fam f Gc).tup c z) (zK (pL.fam f Gc).nd)
   have S4:Step k g _ H _:=S2.trans ((Step.same s3).trans (Step.xx (k:=k) (g:={g with F:=g.F++[⟨n,o,d,p,s,nx,ch,[]⟩]}) (H:=H3) Gc (u:=λh=>{h with kids:=fQ GC.cf ⟨s,tp,1,n⟩ f.kids}) (o:= .dK ((fQ GC.cf ⟨s,tp,1,n⟩ f.kids).map uX)) (λ_=>rfl) (λ_=>rfl)));have eF:setAt f.num (λh=>{h with kids:=fQ GC.cf ⟨s,tp,1,n⟩ f.kids}) (g.F++[(⟨n,o,d,p,s,nx,ch,[]⟩:GF)])=gh n p s nx o d ch tp g.F:=by
    unfold gh putKid;rw[if_neg hp0,efn];exact pU λh hh e=>by rw[bh gG.xu hh Gc (e.trans efn.symm)]
   dsimp only at BX S4;rw[eF] at BX S4;exact q _ o d ch tp BX S4
  ·have hp0:p=0:=by simpa using c
   have eF:g.F++[(⟨n,o,d,p,s,nx,ch,[]⟩:GF)]=gh n p s nx o d ch o g.F:=by
    unfold gh;rw[if_pos hp0]
   rw[eF] at gG S2;exact q _ o d ch o gG S2
def zM(t:fO):Sp:=λvs H Q _=>∃(k:aj) (g:G) (p s:Int),vs=[.ref k,.int p,.int s]/\cW t H k g/\Apart t/\(∀f∈g.F,f.num≠g.nx)/\g.F.length<aM/\(p=0\/∃f,bj GF.num p g.F=ae f/\f.kids.length<aM)/\∀H' o d ch tp,cW t H' k {g with F:=gh g.nx p s 0 o d ch tp g.F,nx:=g.nx+1}->Step k g {g with F:=gh g.nx p s 0 o d ch tp g.F,nx:=g.nx+1} H H'->Q (.int g.nx) H'
theorem sL(T:Txt w K mg t):dU P w K mg base kI 4 t.iQ t.iu ["self","parent","serial"] (zM t):=by
 refine T.A5.ok sg (λvs H Q E h=>?_) (λiq Ar outer s H vs Q E hr h=>?_);obtain⟨k,g,p,s,rfl,_⟩:=h;rfl;obtain⟨k,g,p,s,rfl,KG,A,nw,sz,aef,q⟩:=h;refine⟨_,(ao (cj (i:=3) sg.nd rfl (bE rfl) (aT (pv 0) rfl)) (ao (cJ (cX (pv 0) T.aR T.uG (uK T) hr.mo T.vy .nil bQ (ah (pv 3) (ah (pv 1) (ah (pv 2) (ah aQ aw)))))) (ao (gP (pv 0) (iO yC (pv 3) aQ) rfl) (aD (bu (pv 3)))))),?_⟩;refine⟨_,rfl,_,_,_,_,_,rfl,KG.kept,T.aR,T.ft,rfl,?_⟩;refine⟨_,rfl,_,_,_,rfl,KG.kept,rfl,_,rfl,_,rfl,_,rfl,k,g,g.nx,p,s,0,rfl,KG,nw,sz,aef,λH1 o d ch tp fW S1=>?_⟩;refine⟨_,rfl,_,_,rfl,rfl,_,rfl,_,_,_,_,rfl,fW.kept,T.aR,T.ft,(by show 4<1000;decide),?_⟩;have gG:=fW.af3 A (n:=g.nx+1);exact⟨_,rfl,q _ o d ch tp gG (S1.trans ⟨λb u e nf=>aO e λz=>nf (.inl z),λb z=> .inl z,λb h=>dY h⟩)⟩
theorem zN(T:Txt w K mg t):dU P w K mg base kI 3 t.ux t.sk ["self","x","number","serial"] (Ra t):=by
 refine T.T5.ok QK (λvs H Q E h=>?_) (λiq Ar outer s H vs Q E hr h=>?_);obtain⟨k,g,x,n,s,f,rfl,_⟩:=h;rfl
 ·obtain⟨k,g,x,n,s,f,rfl,KG,hf,Nh,J2,q⟩:=h;obtain⟨uY,rfl⟩:=bD hf;refine⟨_,(ao (An (d9 hr) (aT (fq (d9 hr) (aT (pv 0) rfl) (pv 2) (λ_ _=>rfl)) rfl) (pv 3) (NX (ah (dE rfl T.zH) (ah (pv 1) aw))) rfl) (aD (An (d9 hr) (aT (pv 0) rfl) (pv 1) (xn T.WY (JX T) hr.mo rfl T.WX T.LD .nil bQ (ah (pv 2) (ah (pv 3) aw))) rfl))),?_⟩;refine⟨_,rfl,Yc,λtp OJ=>?_⟩;have s1:bC H (upd H tp (.tup [.int 0,.int x])):=bC.new OJ;have fW:=KG.same s1;have etp:upd H tp (.tup [.int 0,.int x]) tp=ae (.tup [.int 0,.int x]):=aq;generalize upd H tp (.tup [.int 0,.int x])=H1 at s1 fW etp;refine⟨_,rfl,_,_,_,_,_,rfl,fW.kept,T.aR,T.bH,rfl,_,rfl,_,_,rfl,fW.sJ hf,_,_,_,_,_,rfl,(fW.fam f uY).obj,T.dB,T.dI,rfl,_,rfl,_,_,rfl,IX.k (k:=cO s) (fW.fam f uY).yt (by rw[ag];exact Nh),?_⟩;have e1:putK (f.kids.map uX) (.inl s) (.ref tp)=(fQ GC.cf ⟨s,tp,0,x⟩ f.kids).map uX:=by rw[wZ kC];rfl
  rw[e1];have gG:=fW.xx uY (cs:=fQ GC.cf ⟨s,tp,0,x⟩ f.kids) (λc hc=>by
   obtain rfl|⟨z,_⟩:=Ax hc
   exact etp;exact(fW.fam f uY).tup c z) (zK (fW.fam f uY).nd)
  have eF:setAt f.num (λh=>{h with kids:=fQ GC.cf ⟨s,tp,0,x⟩ f.kids}) g.F=putKid f.num ⟨s,tp,0,x⟩ g.F:=
   pU λh hh e=>by rw[bh KG.xu hh uY e]
  rw[eF] at gG;have k2:∀b o,H b=ae o->b≠f.ch->upd H1 f.ch (.dK ((fQ GC.cf ⟨s,tp,0,x⟩ f.kids).map uX)) b=ae o:=λb o e nb=>aO (s1 b o e) nb;have kn:∀b,upd H1 f.ch (.dK ((fQ GC.cf ⟨s,tp,0,x⟩ f.kids).map uX)) b=ay->H1 b=ay:=λb h=>dY h;generalize upd H1 f.ch (.dK ((fQ GC.cf ⟨s,tp,0,x⟩ f.kids).map uX))=H2 at gG k2 kn;refine⟨_,rfl,_,rfl,?_⟩;intro o d ho hd ndo;refine⟨o,d,f.num,s,rfl,aq,rfl,?_⟩;rw[hJ];have s3:bC H2 (upd (upd H2 d (.own o)) o (.ins t.fb d (DS f.num s))):=λb u e=>aO (aO e (aI e hd)) (aI e ho);have pL:=gG.same s3;have eo:upd (upd H2 d (.own o)) o (.ins t.fb d (DS f.num s)) o=ae (.ins t.fb d (DS f.num s)):=aq;generalize upd (upd H2 d (.own o)) o (.ins t.fb d (DS f.num s))=H3 at s3 pL eo;refine⟨_,rfl,_,_,_,_,_,rfl,pL.kept,T.aR,T.dy,rfl,_,rfl,_,_,rfl,IX.k (k:=cO x) pL.people (by rw[ag];exact J2),?_⟩;have e2:putK (g.P.map Zv) (.inl x) (.ref o)=(fQ GP.id ⟨x,o,d,f.num,s⟩ g.P).map Zv:=by rw[wZ kP];rfl
  rw[e2];have BX:=pL.af1 (P':=fQ GP.id ⟨x,o,d,f.num,s⟩ g.P) (λp hp=>by
   obtain rfl|⟨z,_⟩:=Ax hp
   exact eo;exact pL.qQ p z) (zK KG.Ik)
  refine q _ o d tp BX ⟨λb u e nf=>?_,λb z=> .inl (xB (u:=λh=>{h with kids:=fQ GC.cf ⟨s,tp,0,x⟩ h.kids}) (λ_=>rfl) (λ_=>rfl) z),λb h=>cY s1 (kn b (cY s3 (dY h)))⟩;exact aO (s3 b u (k2 b u e λz=>nf (.inr (.inr (.inr (.inr (.inl ⟨f,uY,.inr z⟩))))))) λz=>nf (.inr (.inl z))
end
theorem Rb{n:Int}{u v:GF->GF}{F:List GF}(h:∀f,(u f).num=f.num):setAt n v (setAt n u F)=setAt n (λf=>v (u f)) F:=by
 unfold setAt;rw[bx];refine cu λf _=>?_;show(if(if f.num=n then u f else f).num=n then v (if f.num=n then u f else f) else(if f.num=n then u f else f))=if f.num=n then v (u f) else f
 by_cases e:f.num=n;rw[bw e,bw (by rw[h];exact e),bw e];rw[aX e,aX e,aX e]
theorem Rc{n:Int}{u:GF->GF}{F:List GF}{f:GF}(h:∀f,(u f).num=f.num)(nd:(F.map (·.num)).Nodup)(hf:bj GF.num n F=ae f):bj GF.num n (setAt n u F)=ae (u f):=by
 obtain⟨h1,h2⟩:=bD hf;refine cB ?_ (aA.mpr ⟨f,h1,bw h2⟩) (by rw[h,h2]);have e:(setAt n u F).map GF.num=F.map GF.num:=ki GF.num λf _ _=>h f;rw[e];exact nd
section
variable{P:bg}{w:cn}{K:au}{mg:Str->Option ax}{base:df}{t:fO}
def lT(n x:Int)(tp:aj)(F:List GF):List GF:=setAt n (λh=>{h with fN:=h.fN+1,kids:=fQ GC.cf ⟨h.fN,tp,0,x⟩ h.kids}) F
def L9(t:fO):Sp:=λvs H Q _=>∃(k:aj) (g:G) (x n:Int) (f:GF),vs=[.ref k,.int x,.int n]/\cW t H k g/\Apart t/\bj GF.num n g.F=ae f/\f.kids.length<aM/\g.P.length<aM/\∀H' o d tp,cW t H' k {g with F:=lT n x tp g.F,P:=fQ GP.id ⟨x,o,d,n,f.fN⟩ g.P}->Step k g {g with F:=lT n x tp g.F,P:=fQ GP.id ⟨x,o,d,n,f.fN⟩ g.P} H H'->Q .non H'
theorem Step.Ug{H:Hp}{k:aj}{g:G}{f:GF}(hf:f∈g.F){n:Int}{o:HO}:Step k g {g with F:=setAt f.num (λh=>{h with fN:=n}) g.F} H (upd H f.o o):=⟨λb u e nf=>aO e λz=>nf (.inr (.inr (.inr (.inr (.inl ⟨f,hf,.inl z⟩))))),λb z=> .inl (xB (P':=g.P) (u:=λh=>{h with fN:=n}) (λ_=>rfl) (λ_=>rfl) z),λ_ h=>dY h⟩
theorem rS(T:Txt w K mg t):dU P w K mg base kI 4 t.qm t.oq ["self","x","number"] (L9 t):=by
 refine T.Og.ok vT (λvs H Q E h=>?_) (λiq Ar outer s H vs Q E hr h=>?_);obtain⟨k,g,x,n,f,rfl,_⟩:=h;rfl
 ·obtain⟨k,g,x,n,f,rfl,KG,A,hf,Nh,J2,q⟩:=h;obtain⟨uY,rfl⟩:=bD hf;refine⟨_,(ao (cj (i:=3) vT.nd rfl (bE rfl) (fq (d9 hr) (aT (pv 0) rfl) (pv 2) (λ_ _=>rfl))) (ao (cj (i:=4) vT.nd rfl (bE rfl) (aT (pv 3) rfl)) (ao (gP (pv 3) (iO yC (pv 4) aQ) rfl) (aD (cJ (cX (pv 0) T.aR T.zo (zN T) hr.mo T.Cr .nil bQ (ah (pv 1) (ah (pv 2) (ah (pv 4) aw))))))))),?_⟩;refine⟨_,rfl,_,_,_,_,_,rfl,KG.kept,T.aR,T.bH,rfl,_,rfl,_,_,rfl,KG.sJ hf,?_⟩;refine⟨_,rfl,_,_,_,_,_,rfl,(KG.fam f uY).obj,T.dB,T.gD,rfl,?_⟩;refine⟨_,rfl,_,_,rfl,rfl,_,rfl,_,_,_,_,rfl,(KG.fam f uY).obj,T.dB,T.gD,(by show 4<1000;decide),?_⟩;have fW:=KG.Ug A uY (n:=f.fN+1);refine⟨_,rfl,_,_,_,rfl,fW.kept,rfl,_,rfl,_,rfl,_,rfl,?_⟩;refine⟨k,_,x,f.num,f.fN,_,rfl,fW,Rc (λ_=>rfl) KG.xu hf,Nh,J2,λH' o d tp gG S2=>?_⟩;have eF:putKid f.num ⟨f.fN,tp,0,x⟩ (setAt f.num (λh=>{h with fN:=f.fN+1}) g.F)=lT f.num x tp g.F:=by
   unfold putKid lT;rw[Rb (u:=λh=>{h with fN:=f.fN+1}) (λ_=>rfl)];exact pU λh hh e=>by rw[bh KG.xu hh uY e]
  have S:=(Step.Ug uY).trans S2;dsimp only at gG S;rw[eF] at gG S;exact q H' o d tp gG S
def Ft(t:fO):Sp:=λvs H Q _=>∃(k:aj) (g:G) (x:Int) (p:GP) (f:GF) (c:GC),vs=[.ref k,.int x]/\cW t H k g/\bj GP.id x g.P=ae p/\bj GF.num p.fam g.F=ae f/\bj GC.cf p.cf f.kids=ae c/\∀H',cW t H' k {g with F:=setAt p.fam (λh=>{h with kids:=cF GC.cf p.cf h.kids}) g.F,P:=cF GP.id x g.P}->Step k g {g with F:=setAt p.fam (λh=>{h with kids:=cF GC.cf p.cf h.kids}) g.F,P:=cF GP.id x g.P} H H'->Q .non H'
theorem rH(T:Txt w K mg t):dU P w K mg base kI 1 t.kY t.j7 ["self","x"] (Ft t):=by
 refine T.GU.ok wG (λvs H Q E h=>?_) (λiq Ar outer s H vs Q E hr h=>?_);obtain⟨k,g,x,p,f,c,rfl,_⟩:=h;rfl
 ·obtain⟨k,g,x,p,f,c,rfl,KG,hp,hf,hc,q⟩:=h;obtain⟨uY,ef⟩:=bD hf;obtain⟨nH,ep⟩:=bD hp;refine⟨_,(ao (cj (i:=2) wG.nd rfl (bE rfl) (ue (aT (pv 0) rfl) (pv 1) ⟨rfl,rfl,rfl,rfl⟩)) (aD (cJ (ue (aT (fq (d9 hr) (aT (pv 0) rfl) (aT (pv 2) rfl) (λ_ _=>rfl)) rfl) (aT (pv 2) rfl) ⟨rfl,rfl,rfl,rfl⟩)))),?_⟩;have hv:h8 (g.P.map Zv) (.inl x)=ae (.ref p.o):=by rw[jg kP,hp];rfl
  refine⟨_,rfl,_,_,_,_,_,rfl,KG.kept,T.aR,T.dy,rfl,_,rfl,bE ⟨_,.inl KG.people⟩,_,rfl,_,cO x,_,KG.people,rfl,hv,?_⟩;rw[<-pK kP];have fW:=KG.af1 (P':=cF GP.id x g.P) (λp' h'=>KG.qQ p' (cw.mp h').1) (Fs _ KG.Ik);have hpo:upd H g.pa (.dK ((cF GP.id x g.P).map Zv)) p.o=ae (.ins t.fb p.d (DS p.fam p.cf)):=aO (KG.qQ p nH) (gg (KG.qQ p nH) KG.people nofun);have k1:∀b o,H b=ae o->b≠g.pa->upd H g.pa (.dK ((cF GP.id x g.P).map Zv)) b=ae o:=λb o e nb=>aO e nb;have kn:∀b,upd H g.pa (.dK ((cF GP.id x g.P).map Zv)) b=ay->H b=ay:=λb h=>dY h;generalize upd H g.pa (.dK ((cF GP.id x g.P).map Zv))=H1 at fW hpo k1 kn;have FQ:=(fW.fam f uY).yt;have hv2:h8 (f.kids.map uX) (.inl p.cf)=ae (.ref c.tp):=by rw[jg kC,hc];rfl
  refine⟨_,rfl,_,_,_,_,_,rfl,fW.kept,T.aR,T.bH,rfl,_,rfl,_,_,_,_,_,rfl,hpo,T.lN,T.kb,rfl,_,_,rfl,fW.sJ hf,_,_,_,_,_,rfl,(fW.fam f uY).obj,T.dB,T.dI,rfl,_,rfl,bE ⟨_,.inl FQ⟩,_,rfl,_,_,_,_,_,rfl,hpo,T.lN,T.kc,rfl,_,cO p.cf,_,FQ,rfl,hv2,?_⟩;rw[<-pK kC];have gG:=fW.xx uY (cs:=cF GC.cf p.cf f.kids) (λc' h'=>(fW.fam f uY).tup c' (cw.mp h').1) (Fs _ (fW.fam f uY).nd);have eF:setAt f.num (λh=>{h with kids:=cF GC.cf p.cf f.kids}) g.F=setAt p.fam (λh=>{h with kids:=cF GC.cf p.cf h.kids}) g.F:=by
   rw[ef];exact pU λh hh e=>by rw[bh KG.xu hh uY (e.trans ef.symm)]
  dsimp only at gG;rw[eF] at gG;refine q _ gG ⟨λb o e nf=>?_,λb z=> .inl (xB (u:=λh=>{h with kids:=cF GC.cf p.cf h.kids}) (λ_=>rfl) (λ_=>rfl) z),λb h=>kn b (dY h)⟩;exact aO (k1 b o e λz=>nf (.inr (.inl z))) λz=>nf (.inr (.inr (.inr (.inr (.inl ⟨f,uY,.inr z⟩)))))
end
inductive Up(F:List GF):Int->Prop
 |root:Up F 0
 |top {f:GF}:f∈F->0<f.num->f.par=0->Up F f.num
 |nest {f p:GF} {c:GC}:f∈F->p∈F->f.par=p.num->0<p.num->p.num<f.num->bj GC.cf f.cf p.kids=ae c->Up F p.num->Up F f.num
inductive pV:List GF->Int->List GF->Prop
 |zero {F}:pV F 0 F
 |stop {F} {f:GF}:f∈F->0<f.num->f.kids≠[]->pV F f.num F
 |top {F} {f:GF}:f∈F->0<f.num->f.kids=[]->f.par=0->pV F f.num (cF GF.num f.num F)
 |nest {F F'} {f:GF}:f∈F->0<f.num->f.kids=[]->f.par≠0->pV (setAt f.par (λh=>{h with kids:=cF GC.cf f.cf h.kids}) (cF GF.num f.num F)) f.par F'->pV F f.num F'
inductive dF(F:List GF):Int->Nat->Prop
 |zero:dF F 0 0
 |succ {f:GF} {d:Nat}:f∈F->0<f.num->(f.par=0\/0<=f.par/\f.par<f.num)->dF F f.par d->dF F f.num (d+1)
theorem pV.at0{F F':List GF}{n:Int}(h:pV F n F')(e:n=0):F'=F:=by
 cases h with
 |zero=>rfl
 |stop _ h0 _=>omega
 |top _ h0 _ _=>omega
 |nest _ h0 _ _ _=>omega
theorem Up.inv{F:List GF}{m:Int}(u:Up F m)(h:m≠0):∃f∈F,f.num=m/\0<f.num/\(f.par=0\/∃p∈F,∃c,f.par=p.num/\0<p.num/\p.num<f.num/\bj GC.cf f.cf p.kids=ae c/\Up F p.num):=by
 cases u with
 |root=>exact bM rfl h
 | @top f hf h0 hp=>exact⟨f,hf,rfl,h0,.inl hp⟩
 | @nest f p c hf hp e h0 Ak hc up=>exact⟨f,hf,rfl,by omega,.inr ⟨p,hp,c,e,h0,Ak,hc,up⟩⟩
theorem Up.mono{F F1:List GF}{n:Int}(u:Up F n)(h:∀f∈F,f.num<=n->∃f'∈F1,f'.num=f.num/\f'.par=f.par/\f'.cf=f.cf/\(f.num<n->f'.kids=f.kids)):Up F1 n:=by
 induction u with
 |root=>exact .root
 | @top f hf h0 hp=>
  obtain⟨f',h1,e1,e2,e3,_⟩:=h f hf (lJ _);rw[<-e1];exact .top h1 (by rw[e1];exact h0) (e2.trans hp)
 | @nest f p c hf hp e h0 Ak hc up ih=>
  obtain⟨f',h1,e1,e2,e3,_⟩:=h f hf (lJ _);obtain⟨p',h1',Y6,e2',e3',e4'⟩:=h p hp (S9 Ak);rw[<-e1];refine .nest (p:=p') (c:=c) h1 h1' (by rw[e2,Y6,e]) (by rw[Y6];exact h0) (by rw[e1,Y6];exact Ak) ?_ ?_;rw[e3,e4' Ak];exact hc
  ·rw[Y6];exact ih λq hq hle=>by
    obtain⟨q',a,b,c,d,k⟩:=h q hq (Int.le_trans hle (S9 Ak));exact⟨q',a,b,c,d,λhl=>k (Int.lt_trans hl Ak)⟩
section
variable{P:bg}{w:cn}{K:au}{mg:Str->Option ax}{base:df}{t:fO}
structure WAt(Pv:L2.St->Hp->Prop)(μ:L2.St->Hp->Nat)(m:Nat)(σ:L2.St)(H:Hp):Prop where
 pv:Pv σ H
 eq:μ σ H=m
structure Nx(Pv:L2.St->Hp->Prop)(μ:L2.St->Hp->Nat)(m:Nat)(σ:L2.St)(H:Hp):Prop where
 pv:Pv σ H
 lt:μ σ H<m
theorem acR{Pv:L2.St->Hp->Prop}{μ:L2.St->Hp->Nat}{m:Nat}:∀σ H,Nx Pv μ m σ H->∃m',m'<m/\WAt Pv μ m' σ H:=λ_ _ z=>⟨_,z.lt,z.pv,rfl⟩
theorem Rf{c:TT}{tb:TS}{D:Ends}{σ:L2.St}{H:Hp}(Pv:L2.St->Hp->Prop)(μ:L2.St->Hp->Nat)(h0:Pv σ H)(hs:∀σ H,Pv σ H->c σ H λb H1=>if b=true then∃N:L2.St->Hp->Prop,(∀σ' H',N σ' H'->∃m',m'<μ σ H/\WAt Pv μ m' σ' H')/\tb {D with nx:=N,ct:=N,bk:=D.nx} σ H1 else D.nx σ H1):EI c tb D σ H:=⟨WAt Pv μ,⟨_,h0,rfl⟩,λm σ H ⟨h,e⟩=>by subst e;exact hs σ H h⟩
def intAt(i:Nat)(σ:L2.St):Nat:=match σ[i]? with
 |some (ae (.int n))=>n.toNat
 |_=>0
inductive Around(F:List GF):Int->List Int->Prop
 |zero:Around F 0 []
 |succ {f:GF} {l:List Int}:f∈F->0<f.num->(f.par=0\/0<=f.par/\f.par<f.num)->Around F f.par l->Around F f.num (f.num::l)
theorem dF.around{F:List GF}{n:Int}{d:Nat}(h:dF F n d):∃l,Around F n l/\l.length=d:=by
 induction h with
 |zero=>exact⟨[],.zero,rfl⟩
 | @succ f d hf h0 hp _ ih=>
  obtain⟨l,hl,e⟩:=ih;exact⟨f.num::l,.succ hf h0 hp hl,by rw[aL,e]⟩
def w6(t:fO):Sp:=λvs H Q _=>∃(k:aj) (g:G) (n:Int) (l:List Int),vs=[.ref k,.int n]/\eI t H k g/\Around g.F n l/\l.length<=1000/\∀H' a,H a=ay->H' a=ae (.lst (l.map V.int))->bC H H'->Q (.ref a) H'
theorem iF(T:Txt w K mg t):dU P w K mg base kI 1 t.gU t.gL ["self","number"] (w6 t):=by
 refine T.xt.ok jY (λvs H Q E h=>?_) (λiq Ar outer s H vs Q E hr h=>?_);obtain⟨k,g,n,l,rfl,_⟩:=h;rfl
 ·obtain⟨k,g,n,l,rfl,KG,D,sz,q⟩:=h;refine⟨_,(ao (cj (i:=2) jY.nd rfl (bE rfl) (cv aw)) (ao (rZ dm (b_ r6 (pv 1) aQ (ck _)) (ao (cJ (tH b8 gb gF rA (pv 2) (ah (pv 1) aw))) (aD (cj (i:=1) jY.nd rfl (bE rfl) (aT (fq (d9 hr) (aT (pv 0) rfl) (pv 1) (λ_ _=>rfl)) rfl))))) (aD (bu (pv 2))))),?_⟩;refine⟨cI _,λa ha=>?_⟩;show EI _ _ _ _ _;refine Rf (λσ H'=>∃(m:Int) (l1 l2:List Int),σ=[ae (.ref k),ae (.int m),ae (.ref a)]/\Around g.F m l2/\l1++l2=l/\H' a=ae (.lst (l1.map V.int))/\bC H H') (λσ _=>intAt 1 σ) ⟨n,[],l,rfl,D,rfl,aq,bC.new ha⟩ ?_
  ·rintro σ H' ⟨m,l1,l2,rfl,D',e,el,sm⟩;have Yf:eI t H' k g:=KG.lE (ib.same sm);refine⟨_,rfl,rfl,_,rfl,?_⟩;refine cN (λhm=>?_) (λhm=>?_)
   ·have Rg:m≠0:=by simpa using hm
    cases D' with
    |zero=>exact bM rfl Rg
    | @succ f l2' hf h0 hp D2=>
     have hlen:=da gE e;rw[aK,aL] at hlen;refine⟨_,acR,_,rfl,.inl ⟨rfl,_,dS.of el⟩,_,rfl,a,_,_,rfl,rfl,el,(by rw[ag];have:aM=16777216:=rfl;omega),?_⟩;have sm2:bC H (upd H' a (.lst (l1.map V.int++[V.int f.num]))):=λb o eb=>aO (sm b o eb) (aI eb ha);have gG:eI t (upd H' a (.lst (l1.map V.int++[V.int f.num]))) k g:=KG.lE (ib.same sm2);refine⟨_,rfl,_,_,_,_,_,rfl,gG.kept,T.aR,T.bH,rfl,_,rfl,_,_,rfl,gG.sJ (cB KG.xu hf rfl),_,_,_,_,_,rfl,(gG.fam f hf).obj,T.dB,T.fS,rfl,?_⟩;refine⟨⟨f.par,l1++[f.num],l2',rfl,D2,by rw[dJ];exact e,by rw[aq,az];rfl,sm2⟩,?_⟩;show f.par.toNat<f.num.toNat;obtain z|z:=hp
     rw[z];omega;omega
   ·have Rg:m=0:=by simpa using hm
    subst Rg;have ej:l2=[]:=by
     generalize hz:(0:Int)=z at D';cases D' with
     |zero=>rfl
     |succ hf h0 _ _=>omega
    subst ej;rw[cD] at e;subst e;exact⟨_,rfl,q _ a ha el sm⟩
def L_(t:fO):Sp:=λvs H Q _=>∃(k:aj) (g:G) (n:Int) (d:Nat),vs=[.ref k,.int n]/\eI t H k g/\dF g.F n d/\d<=1000/\∀H',bC H H'->Q (.int d) H'
theorem BZ(T:Txt w K mg t):dU P w K mg base kI 2 t.qo t.ox ["self","number"] (L_ t):=by
 refine T.Oh.ok Lz (λvs H Q E h=>?_) (λiq Ar outer s H vs Q E hr h=>?_);obtain⟨k,g,n,d,rfl,_⟩:=h;rfl;obtain⟨k,g,n,d,rfl,KG,D,hd,q⟩:=h;obtain⟨l,hl,rfl⟩:=D.around;refine⟨_,(aD (bu (cM cq (by rfl) T.eG bz (ah (cX (pv 0) T.aR T.iD (iF T) hr.mo T.iW .nil bQ (ah (pv 1) aw)) aw)))),?_⟩;refine⟨_,rfl,_,_,_,rfl,KG.kept,rfl,_,rfl,k,g,n,l,rfl,KG,hl,hd,λH' a ha ea sm=>?_⟩;refine⟨_,_,rfl,.inl (dS.of ea),?_⟩;rw[ag];exact q H' sm
end
section
variable{H:Hp}{k:aj}{g:G}{t:fO}
theorem cW.Rh(x:cW t H k g)(n:Int):cW t (upd H g.fa (.dK ((cF GF.num n g.F).map BV))) k {g with F:=cF GF.num n g.F}:=x.af2 (λf hf=>x.fam f (cw.mp hf).1) (jJ _ x.xu) (jJ _ x.Sy) (jJ _ x.Vi) λf hf=>x.Nc f (cw.mp hf).1
theorem Step.Rh(n:Int){o:HO}:Step k g {g with F:=cF GF.num n g.F} H (upd H g.fa o):=⟨λb u e nf=>aO e λz=>nf (.inr (.inr (.inl z))),λb z=>by
  obtain z|z|z|z|⟨f,hf,z⟩|z:=z
  exact .inl (.inl z);exact .inl (.inr (.inl z));exact .inl (.inr (.inr (.inl z)));exact .inl (.inr (.inr (.inr (.inl z))));exact .inl (.inr (.inr (.inr (.inr (.inl ⟨f,(cw.mp hf).1,z⟩)))));exact .inl (.inr (.inr (.inr (.inr (.inr z))))),λ_ h=>dY h⟩
end
section
variable{P:bg}{w:cn}{K:au}{mg:Str->Option ax}{base:df}{t:fO}
theorem Up.step{F:List GF}{f p:GF}(hf:f∈F)(hp:p∈F)(Ak:p.num<f.num)(nd:(F.map (·.num)).Nodup)(u:Up F p.num):Up (setAt p.num (λh=>{h with kids:=cF GC.cf f.cf h.kids}) (cF GF.num f.num F)) p.num:=by
 refine u.mono λq hq hle=>?_;have hd:q∈cF GF.num f.num F:=cw.mpr ⟨hq,by omega⟩;by_cases e:q.num=p.num;exact⟨_,aA.mpr ⟨q,hd,bw e⟩,rfl,rfl,rfl,λh=>by omega⟩;exact⟨_,aA.mpr ⟨q,hd,aX e⟩,rfl,rfl,rfl,λh=>rfl⟩
def J3(t:fO):Sp:=λvs H Q _=>∃(k:aj) (g:G) (n:Int),vs=[.ref k,.int n]/\cW t H k g/\Up g.F n/\∀H' F',pV g.F n F'->cW t H' k {g with F:=F'}->Step k g {g with F:=F'} H H'->Q .non H'
theorem zO(T:Txt w K mg t):dU P w K mg base kI 1 t.ou t.mB ["self","number"] (J3 t):=by
 refine T.LK.ok uj (λvs H Q E h=>?_) (λiq Ar outer s H vs Q E hr h=>?_);obtain⟨k,g,n,rfl,_⟩:=h;rfl
 ·obtain⟨k,g,n,rfl,KG,U,q⟩:=h;refine⟨_,(aD (rZ dm (PW.pt (Tc (b_ r6 (pv 1) aQ (ck _)) (UN (b_ fC (cM pR (by rfl) T.eG bz (ah (aT (fq (d9 hr) (aT (pv 0) rfl) (pv 1) (λ_ _=>rfl)) rfl) aw)) aQ (ck _))))) (ao (cj (i:=2) uj.nd rfl (bE rfl) (ue (aT (pv 0) rfl) (pv 1) ⟨rfl,rfl,rfl,rfl⟩)) (ao (dr (b_ r6 (aT (pv 2) rfl) aQ (ck _)) (aD (cJ (ue (aT (fq (d9 hr) (aT (pv 0) rfl) (aT (pv 2) rfl) (λ_ _=>rfl)) rfl) (aT (pv 2) rfl) ⟨rfl,rfl,rfl,rfl⟩))) bY) (aD (cj (i:=1) uj.nd rfl (bE rfl) (aT (pv 2) rfl))))))),?_⟩;refine Rf (λσ H'=>∃(F1:List GF) (m:Int) (v:Option V),σ=[ae (.ref k),ae (.int m),v]/\cW t H' k {g with F:=F1}/\Step k g {g with F:=F1} H H'/\Up F1 m/\∀F',pV F1 m F'->pV g.F n F') (λσ _=>intAt 1 σ) ⟨g.F,n,ay,rfl,KG,Step.refl,U,λ_ z=>z⟩ ?_
  ·rintro σ H1 ⟨F1,m,v,rfl,fW,S1,U1,L1⟩;refine⟨_,rfl,rfl,_,rfl,?_⟩;refine cN (λhm=>?_) (λhm=>?_)
   ·have Rg:m≠0:=by simpa using hm
    obtain⟨f,hf,rfl,h0,hup⟩:=U1.inv Rg;have hg1:bj GF.num f.num F1=ae f:=cB fW.xu hf rfl;refine⟨_,rfl,_,_,_,_,_,rfl,fW.kept,T.aR,T.bH,rfl,_,rfl,_,_,rfl,fW.sJ hg1,_,_,_,_,_,rfl,(fW.fam f hf).obj,T.dB,T.dI,rfl,_,_,rfl,.inl (fW.fam f hf).yt,rfl,_,rfl,?_⟩;refine cN (λhk=>?_) (λhk=>?_)
    ·have Qn:f.kids=[]:=by
      have z:(V.int ((f.kids.map uX).length:Nat))=V.int 0:=aY hk;have z1:(((f.kids.map uX).length:Nat):Int)=0:=V.int.inj z;rw[ag] at z1;exact aV.mp (by omega)
     have hv:h8 (F1.map BV) (.inl f.num)=ae (.ref f.o):=by rw[jg kF,hg1];rfl
     refine⟨_,acR,_,rfl,_,_,_,_,_,rfl,fW.kept,T.aR,T.bH,rfl,_,rfl,bE ⟨_,.inl fW.fams⟩,_,rfl,_,cO f.num,_,fW.fams,rfl,hv,?_⟩;rw[<-pK kF];have gG:=fW.Rh f.num;have S2:=S1.trans (Step.Rh f.num (o:= .dK ((cF GF.num f.num F1).map BV)));have ho:upd H1 g.fa (.dK ((cF GF.num f.num F1).map BV)) f.o=ae (.ins t.dw f.d (JV f.par f.cf f.fN f.ch)):=aO (fW.fam f hf).obj (gg (fW.fam f hf).obj fW.fams nofun);dsimp only at gG S2;generalize upd H1 g.fa (.dK ((cF GF.num f.num F1).map BV))=H2 at gG S2 ho;refine⟨_,rfl,_,_,_,_,_,rfl,ho,T.dB,T.fS,rfl,rfl,_,rfl,?_⟩;refine cN (λhp=>?_) (λhp=>?_)
     ·have J4:f.par≠0:=by simpa using hp
      obtain⟨p,nH,c,ep,hp0,Ak,hc,up⟩:∃p∈F1,∃c,f.par=p.num/\0<p.num/\p.num<f.num/\bj GC.cf f.cf p.kids=ae c/\Up F1 p.num:=by
       obtain z|z:=hup
       exact bM z J4;exact z
      have hpd:p∈cF GF.num f.num F1:=cw.mpr ⟨nH,by omega⟩;have hg2:bj GF.num f.par (cF GF.num f.num F1)=ae p:=cB gG.xu hpd ep.symm;have FQ:=(gG.fam p hpd).yt;have hv2:h8 (p.kids.map uX) (.inl f.cf)=ae (.ref c.tp):=by rw[jg kC,hc];rfl
      refine⟨_,rfl,_,_,_,_,_,rfl,gG.kept,T.aR,T.bH,rfl,_,rfl,_,_,_,_,_,rfl,ho,T.dB,T.fS,rfl,_,_,rfl,gG.sJ hg2,_,_,_,_,_,rfl,(gG.fam p hpd).obj,T.dB,T.dI,rfl,_,rfl,bE ⟨_,.inl FQ⟩,_,rfl,_,_,_,_,_,rfl,ho,T.dB,T.ny,rfl,_,cO f.cf,_,FQ,rfl,hv2,?_⟩;rw[<-pK kC];have pL:=gG.xx hpd (cs:=cF GC.cf f.cf p.kids) (λc' h'=>(gG.fam p hpd).tup c' (cw.mp h').1) (Fs _ (gG.fam p hpd).nd);have S3:=S2.trans (Step.xx (k:=k) (g:={g with F:=cF GF.num f.num F1}) (H:=H2) hpd (u:=λh=>{h with kids:=cF GC.cf f.cf p.kids}) (o:= .dK ((cF GC.cf f.cf p.kids).map uX)) (λ_=>rfl) (λ_=>rfl));have eF:setAt p.num (λh=>{h with kids:=cF GC.cf f.cf p.kids}) (cF GF.num f.num F1)=setAt p.num (λh=>{h with kids:=cF GC.cf f.cf h.kids}) (cF GF.num f.num F1):=pU λh hh e=>by rw[bh gG.xu hh hpd e]
      dsimp only at pL S3;rw[eF] at pL S3;have ho3:upd H2 p.ch (.dK ((cF GC.cf f.cf p.kids).map uX)) f.o=ae (.ins t.dw f.d (JV f.par f.cf f.fN f.ch)):=aO ho (gg ho FQ nofun);generalize upd H2 p.ch (.dK ((cF GC.cf f.cf p.kids).map uX))=H3 at pL S3 ho3;refine⟨_,rfl,_,_,_,_,_,rfl,ho3,T.dB,T.fS,rfl,?_⟩;refine⟨⟨_,p.num,_,by rw[ep];rfl,pL,S3,Up.step hf nH Ak fW.xu up,λF' z=>L1 F' (.nest hf h0 Qn J4 (by rw[ep];exact z))⟩,?_⟩;show f.par.toNat<f.num.toNat;omega
     ·have J4:f.par=0:=by simpa using hp
      refine⟨_,rfl,_,_,_,_,_,rfl,ho,T.dB,T.fS,rfl,?_⟩;refine⟨⟨_,0,_,by rw[J4];rfl,gG,S2,.root,λF' z=>L1 F' ?_⟩,?_⟩;have e:=z.at0 rfl;rw[e];exact .top hf h0 Qn J4;show f.par.toNat<f.num.toNat;omega
    refine q H1 F1 (L1 F1 (.stop hf h0 λz=>hk ?_)) fW S1;rw[z];rfl
   ·have Rg:m=0:=by simpa using hm
    subst Rg;refine TN ?_;exact q H1 F1 (L1 F1 .zero) fW S1
end
section
variable{P:bg}{w:cn}{K:au}{mg:Str->Option ax}{base:df}{t:fO}
theorem cW.Zx{H:Hp}{k b:aj}{g:G}(x:cW t H k g)(h:L8 k g b):(∃kvs,H b=ae (.dK kvs))\/∃C d fs,H b=ae (.ins C d fs)/\(C=t.dW\/C=t.dw\/C=t.fU):=by
 obtain rfl|rfl|rfl|rfl|⟨f,hf,rfl|rfl⟩|⟨w,hw,rfl⟩:=h
 exact .inr ⟨_,_,_,x.kept,.inl rfl⟩;exact .inl ⟨_,x.people⟩;exact .inl ⟨_,x.fams⟩;exact .inl ⟨_,x.waits⟩;exact .inr ⟨_,_,_,(x.fam f hf).obj,.inr (.inl rfl)⟩;exact .inl ⟨_,(x.fam f hf).yt⟩;exact .inr ⟨_,_,_,x.wait w hw,.inr (.inr rfl)⟩
theorem cW.tT{H:Hp}{k b:aj}{g:G}{xs:List V}(x:cW t H k g)(h:H b=ae (.lst xs)):¬L8 k g b:=λz=>by
 obtain⟨_,e⟩|⟨_,_,_,e,_⟩:=x.Zx z<;>rw[h] at e<;>cases e
def x6(t:fO):Sp:=λvs H Q _=>∃(k:aj) (g:G) (x kd pl n:Int),vs=[.ref k,.int x,.int kd,.int pl,.int n]/\cW t H k g/\bj GW.id x g.W=ay/\g.W.length<aM/\∀H' o d,cW t H' k {g with W:=g.W++[⟨x,o,d,kd,pl,n⟩]}->Step k g {g with W:=g.W++[⟨x,o,d,kd,pl,n⟩]} H H'->Q .non H'
theorem lG(T:Txt w K mg t):dU P w K mg base kI 3 t.mC t.kZ ["kept","x","kind","place","number"] (x6 t):=by
 refine T.kf.ok GO (λvs H Q E h=>?_) (λiq Ar outer s H vs Q E hr h=>?_);obtain⟨k,g,x,kd,pl,n,rfl,_⟩:=h;rfl
 ·obtain⟨k,g,x,kd,pl,n,rfl,KG,hw,sz,q⟩:=h;refine⟨_,(aD (An (d9 hr) (aT (pv 0) rfl) (pv 1) (xn T.abF (OG T) hr.mo rfl T.abE T.QN .nil bQ (ah (pv 2) (ah (pv 3) (ah (pv 4) aw)))) rfl)),?_⟩;refine⟨_,rfl,_,rfl,_,rfl,?_⟩;intro o d ho hd ndo;refine⟨o,d,kd,pl,n,rfl,aq,rfl,?_⟩;rw[hJ];have s1:bC H (upd (upd H d (.own o)) o (.ins t.fU d (vC kd pl n))):=λb u e=>aO (aO e (aI e hd)) (aI e ho);have fW:=KG.same s1;have eo:upd (upd H d (.own o)) o (.ins t.fU d (vC kd pl n)) o=ae (.ins t.fU d (vC kd pl n)):=aq;generalize upd (upd H d (.own o)) o (.ins t.fU d (vC kd pl n))=H1 at s1 fW eo;refine⟨_,rfl,_,_,_,_,_,rfl,fW.kept,T.aR,T.cA,rfl,_,rfl,_,_,rfl,IX.k (k:=cO x) fW.waits (by rw[ag];exact sz),?_⟩;have e2:putK (g.W.map BW) (.inl x) (.ref o)=(g.W++[(⟨x,o,d,kd,pl,n⟩:GW)]).map BW:=by
   rw[<-pT (key:=GW.id) (a:=⟨x,o,d,kd,pl,n⟩) (fV hw),wZ kW];rfl
  rw[e2];have gG:=fW.Q7 (W':=g.W++[⟨x,o,d,kd,pl,n⟩]) (λw hw=>by
   obtain z|z:=aP.mp hw
   exact fW.wait w z
   ·obtain rfl:=ai.mp z;exact eo) (by
    rw[az];exact jT KG.Il λm=>by obtain⟨f,hf,e⟩:=aA.mp m;exact fV hw f hf e) (by
    rw[az];exact jT KG.DT λm=>by obtain⟨f,hf,e⟩:=aA.mp m;exact aI (KG.wait f hf) ho e)
  refine q _ o d gG ⟨λb u e nf=>aO (s1 b u e) λz=>nf (.inr (.inr (.inr (.inl z)))),λb z=>?_,λb h=>cY s1 (dY h)⟩;obtain z|z|z|z|z|⟨f,hf,z⟩:=z
  exact .inl (.inl z);exact .inl (.inr (.inl z));exact .inl (.inr (.inr (.inl z)));exact .inl (.inr (.inr (.inr (.inl z))));exact .inl (.inr (.inr (.inr (.inr (.inl z)))))
  ·obtain y|y:=aP.mp hf
   exact .inl (.inr (.inr (.inr (.inr (.inr ⟨f,y,z⟩)))));obtain rfl:=ai.mp y;rw[z];exact .inr ho
def gQ(ids:List Int)(W:List GW):List GW:=W.filter λw=> !ids.contains w.id
theorem uL(W:List GW):gQ [] W=W:=by
 unfold gQ;exact oT.mpr λw _=>rfl
theorem Ay(ids:List Int)(x:Int)(W:List GW):gQ (ids++[x]) W=cF GW.id x (gQ ids W):=by
 unfold gQ cF;rw[vd];refine d8 λw _=>?_;by_cases h1:ids.contains w.id<;>by_cases h2:w.id=x<;>simp_all
theorem Hf{x:Int}{ids:List Int}{W:List GW}(h:bj GW.id x (gQ ids W)=ay):cF GW.id x (gQ ids W)=gQ ids W:=by
 unfold cF;exact oT.mpr λw hw=>decide_eq_true (fV h w hw)
theorem abN{β:Type}{ids:List Int}{W:List GW}(f:GW->β)(h:(W.map f).Nodup):((gQ ids W).map f).Nodup:=h.sublist ((fF).map f)
theorem cW.Ri{H:Hp}{k:aj}{g:G}(x:cW t H k g)(n:Int):cW t (upd H g.wa (.dK ((cF GW.id n g.W).map BW))) k {g with W:=cF GW.id n g.W}:=x.Q7 (λw hw=>x.wait w (cw.mp hw).1) (jJ _ x.Il) (jJ _ x.DT)
theorem Step.Ri{H:Hp}{k:aj}{g:G}(n:Int){o:HO}:Step k g {g with W:=cF GW.id n g.W} H (upd H g.wa o):=⟨λb u e nf=>aO e λz=>nf (.inr (.inr (.inr (.inl z)))),λb z=>by
  obtain z|z|z|z|z|⟨f,hf,z⟩:=z
  exact .inl (.inl z);exact .inl (.inr (.inl z));exact .inl (.inr (.inr (.inl z)));exact .inl (.inr (.inr (.inr (.inl z))));exact .inl (.inr (.inr (.inr (.inr (.inl z)))));exact .inl (.inr (.inr (.inr (.inr (.inr ⟨f,(cw.mp hf).1,z⟩))))),λ_ h=>dY h⟩
def Cz(t:fO):Sp:=λvs H Q _=>∃(k l:aj) (g:G) (ids:List Int),vs=[.ref k,.ref l]/\cW t H k g/\H l=ae (.lst (ids.map V.int))/\ids.length<1000000/\∀H' p,cW t H' k {g with W:=gQ ids g.W}->Step k g {g with W:=gQ ids g.W} H H'->H p=ay->H' p=ae (.lst (V.int ids.length::ids.map V.int))->Q (.ref p) H'
theorem m7(T:Txt w K mg t):dU P w K mg base kI 1 t.wK t.uy ["kept","ids"] (Cz t):=by
 refine T.nA.ok Jm (λvs H Q E h=>?_) (λiq Ar outer s H vs Q E hr h=>?_);obtain⟨k,l,g,ids,rfl,_⟩:=h;rfl
 ·obtain⟨k,l,g,ids,rfl,KG,hl,sz,q⟩:=h;refine⟨_,(ao (nM dm rfl (kH (pv 1)) (f6 (i:=2) Jm.nd rfl (bE rfl)) (aD (dr (kG (IY (d9 hr) (pv 2) (aT (pv 0) rfl))) (aD (cJ (ue (aT (pv 0) rfl) (pv 2) ⟨rfl,rfl,rfl,rfl⟩))) bY))) (aD (bu (iO lS (cv (ah (cM cq (by rfl) T.eG bz (ah (pv 1) aw)) aw)) (pv 1))))),?_⟩;refine⟨_,rfl,l,rfl,⟨_,dS.of hl⟩,qc (K:=K) (a:=l) (xs:=ids.map V.int) (λi σ H'=>∃v:Option V,σ=[ae (.ref k),ae (.ref l),v]/\cW t H' k {g with W:=gQ (ids.take i) g.W}/\Step k g {g with W:=gQ (ids.take i) g.W} H H') ⟨ay,rfl,by rw[List.take_zero,uL];exact KG,by rw[List.take_zero,uL];exact Step.refl⟩ (λi σ H' _ ⟨_,_,_,S⟩=>dS.of (S.keep _ _ hl (KG.tT hl))) ?_ ?_⟩
  ·rintro i y σ H' hi ⟨v,rfl,fW,S1⟩;obtain⟨x,hx,rfl⟩:∃x,ids[i]? =ae x/\y=V.int x:=by
    rw[dh] at hi;cases e:ids[i]? with
    |none=>rw[e] at hi;cases hi
    |some z=>rw[e] at hi;exact⟨z,rfl,(bF hi).symm⟩
   have et:ids.take (i+1)=ids.take i++[x]:=by rw[Yl,hx];rfl
   refine⟨_,rfl,_,rfl,_,_,_,_,_,rfl,fW.kept,T.aR,T.cA,rfl,_,_,rfl,fW.r.Uh,_,rfl,?_⟩;rw[bZ];cases e1:bj GW.id x (gQ (ids.take i) g.W) with
   |none=>
    refine⟨_,rfl,?_⟩;rw[et,Ay,Hf e1];exact⟨fW,S1⟩
   |some w0=>
    have hv:h8 ((gQ (ids.take i) g.W).map BW) (.inl x)=ae (.ref w0.o):=by rw[jg kW,e1];rfl
    refine⟨_,rfl,_,_,_,_,_,rfl,fW.kept,T.aR,T.cA,rfl,_,rfl,bE ⟨_,.inl fW.waits⟩,_,rfl,_,cO x,_,fW.waits,rfl,hv,?_⟩;rw[<-pK kW];refine⟨_,rfl,?_⟩;rw[et,Ay];exact⟨fW.Ri x,S1.trans (Step.Ri x)⟩
  ·rintro σ H' ⟨v,rfl,fW,S1⟩;rw[ag,cE] at fW S1;have Ii:=S1.keep _ _ hl (KG.tT hl);refine⟨_,rfl,_,_,rfl,.inl (dS.of Ii),AV,λp1 h1=>?_⟩;refine⟨_,rfl,_,_,_,_,rfl,rfl,aq,aO Ii (aI Ii h1),?_,λp2 h2=>?_⟩;rw[ag];show 1+ids.length<=16777216;omega;have n12:p2≠p1:=λz=>by rw[z,aq] at h2;cases h2
   rw[cZ n12] at h2;have s2:bC H' (upd (upd H' p1 (.lst [.int ((ids.map V.int).length:Nat)])) p2 (.lst ([V.int ((ids.map V.int).length:Nat)]++ids.map V.int))):=λb o e=>aO (aO e (aI e h1)) (aI e h2);have h0:H p2=ay:=S1.live _ h2;refine q _ p2 (fW.same s2) (S1.trans (Step.same s2)) h0 ?_;rw[aq,ag];rfl
end
section
variable{P:bg}{w:cn}{K:au}{mg:Str->Option ax}{base:df}{t:fO}
def jQ(g:G)(y:Int):Int:=match bj GP.id y g.P with
 |some p=>p.fam
 |none=>0
theorem lX{g:G}{y:Int}{p:GP}(h:bj GP.id y g.P=ae p):jQ g y=p.fam:=by unfold jQ;rw[h]
def uM(g:G):Prop:=∀w∈g.W,∃p,bj GP.id w.id g.P=ae p
def gq(g:G)(fam kd pl:Int)(w:GW):Bool:=decide (jQ g w.id=fam)&&(decide (w.kind=kd)&&decide (w.place=pl))
def sM(g:G)(fam kd pl:Int)(W:List GW):List Int:=(W.filter (gq g fam kd pl)).map (·.id)
theorem J7(g:G)(fam kd pl:Int)(W:List GW)(w:GW):sM g fam kd pl (W++[w])=sM g fam kd pl W++(if gq g fam kd pl w=true then[w.id] else[]):=by
 unfold sM;rw[jm,az];congr 1;by_cases h:gq g fam kd pl w=true;rw[if_pos h,b9,if_pos h];rfl;rw[if_neg h,b9,if_neg h];rfl
theorem Xd(g:G)(fam kd pl:Int)(W:List GW):(sM g fam kd pl W).length<=W.length:=by
 unfold sM;rw[ag];exact bf _ _
theorem take_snoc{α:Type}{l:List α}{i:Nat}{x:α}(h:l[i]? =ae x):l.take (i+1)=l.take i++[x]:=by rw[Yl,h];rfl
theorem J8{H H':Hp}{l:aj}{xs:List V}(hl:H l=ae (.lst xs))(h:∀b o,H b=ae o->b≠l->H' b=ae o):ib H H':=λb o e n=> .inl (h b o e λz=>by rw[z,hl] at e;cases e;exact n)
def Xe(t:fO):Sp:=λvs H Q _=>∃(k:aj) (g:G) (x kd pl:Int) (p:GP),vs=[.ref k,.int x,.int kd,.int pl]/\eI t H k g/\bj GP.id x g.P=ae p/\uM g/\g.W.length<aM/\∀H' l,H l=ay->H' l=ae (.lst ((sM g p.fam kd pl g.W).map V.int))->bC H H'->Q (.ref l) H'
theorem Az(T:Txt w K mg t):dU P w K mg base kI 2 t.y8 t.wL ["kept","x","kind","place"] (Xe t):=by
 refine T.zr.ok wH (λvs H Q E h=>?_) (λiq Ar outer s H vs Q E hr h=>?_);obtain⟨k,g,x,kd,pl,p,rfl,_⟩:=h;rfl
 ·obtain⟨k,g,x,kd,pl,p,rfl,KG,hp,WL,sz,q⟩:=h;refine⟨_,(ao (cj (i:=4) wH.nd rfl (bE rfl) (cX (pv 0) T.aR T.eM (eO T) hr.mo T.fE .nil bQ (ah (pv 1) aw))) (ao (cj (i:=5) wH.nd rfl (bE rfl) (cv aw)) (ao (WV (nM dm rfl (Qt (aT (pv 0) rfl)) (Td rfl (wq (f6 (i:=6) wH.nd rfl (bE rfl)) (wq (f6 (i:=7) wH.nd rfl (bE rfl)) NT))) (aD (dr (PW.pt (Tc (b_ fC (cX (pv 0) T.aR T.eM (eO T) hr.mo T.fE .nil bQ (ah (pv 6) aw)) (pv 4) (ck _)) (Tc (b_ fC (aT (pv 7) rfl) (pv 2) (ck _)) (UN (b_ fC (aT (pv 7) rfl) (pv 3) (ck _)))))) (aD (cJ (tH b8 gb gF rA (pv 5) (ah (pv 6) aw)))) bY)))) (aD (bu (pv 5)))))),?_⟩;refine⟨_,rfl,_,_,_,rfl,KG.kept,rfl,_,rfl,?_⟩;refine⟨k,g,x,p,rfl,KG,hp,?_⟩;refine⟨cI _,λl hl=>?_⟩;have s1:bC H (upd H l (.lst [])):=bC.new hl;have fW:eI t (upd H l (.lst [])) k g:=KG.lE (ib.same s1);have el:upd H l (.lst []) l=ae (.lst []):=aq;have kl:∀b o,upd H l (.lst []) b=ae o->b≠l->H b=ae o:=λb o e n=>by rw[cZ n] at e;exact e
  generalize upd H l (.lst [])=H1 at s1 fW el kl;refine⟨g.wa,_,fW.waits,λH2 od r eF k2 X' hr2=>?_⟩;have Vk:l≠g.wa:=λz=>by rw[z] at el;obtain y|⟨_,y⟩:=fW.waits<;>(rw[el] at y;cases y)
  have kL:∀b o,H1 b=ae o->b≠g.wa->H2 b=ae o:=λb o e n=>by rw[k2 b n];exact e
  have R0:eI t H2 k g:=fW.lE λb o e n=>by
   by_cases hb:b=g.wa
   ·subst hb;obtain rfl|y:=X' o e
    exact .inr ⟨_,od,rfl,eF⟩;exact .inl y
   exact .inl (kL b o e hb)
  have elL:H2 l=ae (.lst []):=kL _ _ el Vk;refine⟨_,rfl,_,_,_,_,_,rfl,R0.kept,T.aR,T.cA,rfl,_,_,_,rfl,eF,?_⟩;refine As g.W.length (λi σ H'=>∃v1 v2:Option V,σ=[ae (.ref k),ae (.int x),ae (.int kd),ae (.int pl),ae (.int p.fam),ae (.ref l),v1,v2]/\H' l=ae (.lst ((sM g p.fam kd pl (g.W.take i)).map V.int))/\∀b o,H2 b=ae o->b≠l->H' b=ae o)
   ⟨ay,ay,rfl,elL,λb o e _=>e⟩ ?_ ?_
  ·rintro σ H' ⟨v1,v2,rfl,sZ,kp⟩;rw[cE] at sZ;have x8:H' g.wa=ae (.jq od (.dK (g.W.map BW))):=kp _ _ eF (gA Vk);refine⟨⟨x8,by rw[ag];exact aJ _⟩,x8,?_⟩;obtain⟨r1,r2⟩:=hr2 H' x8;refine⟨_,rfl,q _ l hl (by rw[r2 l Vk];exact sZ) λb o e=>?_⟩;by_cases hb:b=g.wa;subst hb;rw[r1];exact s1 _ _ e;rw[r2 b hb];exact kp b o (kL b o (s1 b o e) hb) (aI e hl)
  ·rintro i σ H' hi ⟨v1,v2,rfl,sZ,kp⟩;have x8:H' g.wa=ae (.jq od (.dK (g.W.map BW))):=kp _ _ eF (gA Vk);refine⟨⟨x8,by rw[ag];exact hi⟩,?_⟩;rintro y H3 ⟨Tp,kk,vv,Aq,rfl,hT,rfl⟩;obtain⟨w0,Ni⟩:∃w0,g.W[i]? =ae w0:=⟨_,dz hi⟩;rw[dh,Ni] at Aq;obtain⟨rfl,rfl⟩:cO w0.id=kk/\V.ref w0.o=vv:=by
    have z:(cO w0.id,V.ref w0.o)=(kk,vv):=bF Aq;exact⟨da ve z,da vf z⟩
   have CB:w0∈g.W:=bW Ni;obtain⟨pw,hpw⟩:=WL w0 CB;have R3:eI t (upd H' Tp (.tup [kV (.inl w0.id),.ref w0.o])) k g:=(R0.lE (J8 elL kp)).lE (ib.same (bC.new hT));have Ez:upd H' Tp (.tup [kV (.inl w0.id),.ref w0.o]) l=ae (.lst ((sM g p.fam kd pl (g.W.take i)).map V.int)):=aO sZ (aI sZ hT);have hT3:upd H' Tp (.tup [kV (.inl w0.id),.ref w0.o]) Tp=ae (.tup [kV (.inl w0.id),.ref w0.o]):=aq;have kp3:∀b o,H2 b=ae o->b≠l->upd H' Tp (.tup [kV (.inl w0.id),.ref w0.o]) b=ae o:=λb o e n=>aO (kp b o e n) (aI (kp b o e n) hT);generalize upd H' Tp (.tup [kV (.inl w0.id),.ref w0.o])=H4 at R3 Ez hT3 kp3;refine⟨_,_,rfl,n9.of hT3,rfl,_,_,rfl,_,_,rfl,rfl,?_⟩;have et:=take_snoc Ni;refine⟨_,rfl,_,_,_,rfl,R3.kept,rfl,_,rfl,k,g,w0.id,pw,rfl,R3,hpw,?_⟩;have Ma:jQ g w0.id=pw.fam:=lX hpw;refine⟨_,rfl,rfl,_,rfl,?_⟩;have fin:gq g p.fam kd pl w0=false->sM g p.fam kd pl (g.W.take (i+1))=sM g p.fam kd pl (g.W.take i):=λh=>by
    rw[et,J7,aX (by rw[h];decide),cD]
   refine cN (λc1=>?_) (λc1=>?_)
   ·have e1:pw.fam=p.fam:=V.int.inj (aY c1);refine⟨_,rfl,_,_,_,_,_,rfl,R3.wait w0 CB,T.eE,T.gW,rfl,_,rfl,rfl,_,rfl,?_⟩;refine cN (λc2=>?_) (λc2=>?_)
    ·have e2:w0.kind=kd:=V.int.inj (aY c2);refine⟨_,rfl,_,_,_,_,_,rfl,R3.wait w0 CB,T.eE,T.iY,rfl,_,rfl,rfl,_,rfl,?_⟩;refine cN (λc3=>?_) (λc3=>?_)
     ·have e3:w0.place=pl:=V.int.inj (of_decide_eq_true c3);have ek:gq g p.fam kd pl w0=true:=by unfold gq;rw[Ma,e1,e2,e3];simp
      refine⟨_,rfl,.inl ⟨rfl,_,dS.of Ez⟩,_,rfl,_,_,_,rfl,rfl,Ez,?_,?_⟩;rw[ag];exact EC (bX (Xd _ _ _ _ _) (by rw[d6];exact yf _ _)) sz;refine⟨_,_,rfl,?_,λb o e n=>aO (kp3 b o e n) n⟩;rw[aq,et,J7,bw ek,az];rfl
     ·refine⟨_,_,rfl,?_,kp3⟩;rw[fin];exact Ez;unfold gq;have:¬w0.place=pl:=λz=>c3 (by rw[z];simp);simp[this]
    ·refine TN ?_;refine⟨_,_,rfl,?_,kp3⟩;rw[fin];exact Ez;unfold gq;have:¬w0.kind=kd:=λz=>c2 (by rw[z];simp);simp[this]
   ·refine TN ?_;refine⟨_,_,rfl,?_,kp3⟩;rw[fin];exact Ez;unfold gq;have:¬jQ g w0.id=p.fam:=λz=>c1 (by rw[Ma] at z;rw[z];simp);simp[this]
end
section
variable{P:bg}{w:cn}{K:au}{mg:Str->Option ax}{base:df}{t:fO}
theorem at0{a b:V}:Tt [a,b] 0=ae a:=rfl
theorem at1{a b:V}:Tt [a,b] 1=ae b:=rfl
def jE(g:G)(c:GC):Bool:=decide (c.sort=0)&&(match bj GW.id c.id g.W with
 |some w=>decide (w.kind=4)
 |none=>false)
def jr(g:G)(c:GC):Int:=match bj GW.id c.id g.W with
 |some w=>w.place
 |none=>0
def dG(g:G)(f:GF):Bool:=f.kids.all (jE g)&&decide ((qd (f.kids.map (jr g))).length=1)
theorem B1{α:Type}{q:α->Bool}{l:List α}{i:Nat}{x:α}(h:l[i]? =ae x):(l.take (i+1)).all q=((l.take i).all q&&q x):=by
 rw[take_snoc h,La];simp
theorem DW{α:Type}{q:α->Bool}{l:List α}{x:α}(h:x∈l)(n:q x=false):l.all q=false:=by
 rw[bP];intro z;rw[cz.mp z x h] at n;cases n
def Hg(t:fO):Sp:=λvs H Q _=>∃(k:aj) (g:G) (n:Int) (f:GF),vs=[.ref k,.int n]/\eI t H k g/\bj GF.num n g.F=ae f/\H f.ch=ae (.dK (f.kids.map uX))/\f.kids.length+1<4096/\∀H',bC H H'->Q (.bl (dG g f)) H'
theorem Hh(T:Txt w K mg t):dU P w K mg base kI 1 t.mE t.lg ["kept","number"] (Hg t):=by
 refine T.zt.ok oV (λvs H Q E h=>?_) (λiq Ar outer s H vs Q E hr h=>?_);obtain⟨k,g,n,f,rfl,_⟩:=h;rfl
 ·obtain⟨k,g,n,f,rfl,R,hf,FQ,sz,q⟩:=h;obtain⟨uY,_⟩:=bD hf;refine⟨_,(ao (cj (i:=2) oV.nd rfl (bE rfl) (cv aw)) (ao (Ao (nM dm rfl (MT (aT (fq (d9 hr) (aT (pv 0) rfl) (pv 1) (λ_ _=>rfl)) rfl)) (f6 (i:=3) oV.nd rfl (bE rfl)) (ao (dr (PW.pt (UO (b_ r6 (eX vQ (pv 3) aQ (λ_ _=>rfl)) (dE rfl T.zH) (ck _)) (NS (kG (gC (d9 hr) (eX vQ (pv 3) aQ (λ_ _=>rfl)) (aT (pv 0) rfl)))))) (aD (bu II)) bY) (ao (cj (i:=4) oV.nd rfl (bE rfl) (fq (d9 hr) (aT (pv 0) rfl) (eX vQ (pv 3) aQ (λ_ _=>rfl)) (λ_ _=>rfl))) (ao (dr (b_ r6 (aT (pv 4) rfl) (dE rfl T.JS) (ck _)) (aD (bu II)) bY) (aD (cJ (tH b8 gb gF rA (pv 2) (ah (aT (pv 4) rfl) aw))))))))) (aD (bu (jS fC (cM M0 (by rfl) T.eG bz (ah (ER (MZ rfl) (by rfl) T.Zt boot_set (ah (pv 2) aw)) aw)) aQ (ck _)))))),?_⟩;refine⟨cI _,λl hl=>?_⟩;have s1:bC H (upd H l (.lst [])):=bC.new hl;have R1:=R.lE (ib.same s1);have abO:=s1 _ _ FQ;have el:upd H l (.lst []) l=ae (.lst []):=aq;generalize upd H l (.lst [])=H1 at s1 R1 el abO;refine⟨f.ch,_,abO,trivial,λod=>?_⟩;have R0:eI t (upd H1 f.ch (.jq od (.dK (f.kids.map uX)))) k g:=R1.lE (ib.lock abO);have Vk:l≠f.ch:=gg el abO nofun;have elL:upd H1 f.ch (.jq od (.dK (f.kids.map uX))) l=ae (.lst []):=aO el Vk;have eF:upd H1 f.ch (.jq od (.dK (f.kids.map uX))) f.ch=ae (.jq od (.dK (f.kids.map uX))):=aq;have kL:∀b o,H1 b=ae o->b≠f.ch->upd H1 f.ch (.jq od (.dK (f.kids.map uX))) b=ae o:=λb o e n=>aO e n;generalize upd H1 f.ch (.jq od (.dK (f.kids.map uX)))=H2 at R0 elL eF kL;have back:∀H',(∀b o,H2 b=ae o->b≠l->H' b=ae o)->bC H (upd H' f.ch (.dK (f.kids.map uX))):=λH' kp b o e=>by
   by_cases hb:b=f.ch;subst hb;rw[FQ] at e;cases e;exact aq;exact aO (kp b o (kL b o (s1 b o e) hb) (aI e hl)) hb
  refine⟨_,rfl,_,_,_,_,_,rfl,R0.kept,T.aR,T.bH,rfl,_,rfl,_,_,rfl,R0.sJ hf,_,_,_,_,_,rfl,(R0.fam f uY).obj,T.dB,T.dI,rfl,_,_,_,rfl,eF,?_⟩;refine As f.kids.length (λi σ H'=>∃v1 v2:Option V,σ=[ae (.ref k),ae (.int n),ae (.ref l),v1,v2]/\H' l=ae (.lst (((f.kids.take i).map (jr g)).map V.int))/\(f.kids.take i).all (jE g)=true/\∀b o,H2 b=ae o->b≠l->H' b=ae o) ⟨ay,ay,rfl,elL,rfl,λb o e _=>e⟩ ?_ ?_
  ·rintro σ H' ⟨v1,v2,rfl,sZ,ha,kp⟩;rw[cE] at sZ ha;have x8:H' f.ch=ae (.jq od (.dK (f.kids.map uX))):=kp _ _ eF (gA Vk);refine⟨⟨x8,by rw[ag];exact aJ _⟩,x8,?_⟩;have Ez:upd H' f.ch (.dK (f.kids.map uX)) l=ae (.lst ((f.kids.map (jr g)).map V.int)):=aO sZ Vk;have sb:=back H' kp;generalize upd H' f.ch (.dK (f.kids.map uX))=H3 at Ez sb;refine⟨_,rfl,_,_,rfl,dS.of Ez,(by rw[ag];exact sz),λp S hp=>?_⟩;refine⟨_,_,_,rfl,aq,rfl,?_⟩;have ev:decide (V.int (((qd (f.kids.map (jr g))).length:Nat):Int)=V.int 1)=dG g f:=by
    unfold dG;rw[ha,gZ];exact decide_eq_decide.mpr ⟨λz=>by have:=V.int.inj z;omega,λz=>by rw[z];rfl⟩
   rw[ev];exact q _ (sb.trans (bC.new hp))
  ·rintro i σ H' hi ⟨v1,v2,rfl,sZ,ha,kp⟩;have x8:H' f.ch=ae (.jq od (.dK (f.kids.map uX))):=kp _ _ eF (gA Vk);refine⟨⟨x8,by rw[ag];exact hi⟩,?_⟩;rintro y H3 ⟨e3,kk,Aq⟩;obtain rfl:=e3.symm;obtain⟨c,hc⟩:∃c,f.kids[i]? =ae c:=⟨_,dz hi⟩;rw[dh,hc] at Aq;obtain⟨_,rfl⟩:cO c.cf=kk/\V.ref c.tp=y:=by
    have z:(cO c.cf,V.ref c.tp)=(kk,y):=bF Aq;exact⟨da ve z,da vf z⟩
   have Oa:c∈f.kids:=bW hc;have R3:eI t H' k g:=R0.lE (J8 elL kp);have OJ:=(R3.fam f uY).tup c Oa;have no:jE g c=false->dG g f=false:=λz=>by unfold dG;rw[DW Oa z,jj]
   refine⟨_,rfl,_,_,_,_,rfl,rfl,n9.of OJ,at0,rfl,_,rfl,?_⟩;refine cN (λc1=>?_) (λc1=>?_)
   ·refine N7 ⟨x8,?_⟩;have e0:jE g c=false:=by
     unfold jE;have:¬c.sort=0:=λz=>by rw[z] at c1;exact absurd c1 (by decide)
     simp[this]
    rw[<-no e0];exact q _ (back H' kp)
   ·have e0:c.sort=0:=by
     by_cases z:c.sort=0;exact z;exact absurd (by simp[z]) c1
    refine⟨_,rfl,_,_,_,_,rfl,rfl,n9.of OJ,at1,_,rfl,_,_,_,_,_,rfl,R3.kept,T.aR,T.cA,rfl,_,_,rfl,R3.Uh,_,rfl,?_⟩;rw[bZ];cases ew:bj GW.id c.id g.W with
    |none=>
     refine N7 ⟨x8,?_⟩;rw[<-no (by unfold jE;rw[ew];simp)];exact q _ (back H' kp)
    |some w0=>
     obtain⟨CB,_⟩:=bD ew;refine TN ?_;refine⟨_,rfl,_,_,_,_,_,rfl,R3.kept,T.aR,T.cA,rfl,_,rfl,_,_,_,_,rfl,rfl,n9.of OJ,at1,_,_,rfl,R3.zL ew,?_⟩;refine⟨_,rfl,_,_,_,_,_,rfl,R3.wait w0 CB,T.eE,T.gW,rfl,rfl,_,rfl,?_⟩;refine cN (λc2=>?_) (λc2=>?_)
     ·refine⟨x8,?_⟩;rw[<-no (by
       unfold jE;rw[ew];have:¬w0.kind=4:=λz=>by rw[z] at c2;exact absurd c2 (by decide)
       simp[this])]
      exact q _ (back H' kp)
     ·have e4:w0.kind=4:=by
       by_cases z:w0.kind=4;exact z;exact absurd (by simp[z]) c2
      refine⟨_,rfl,.inl ⟨rfl,_,dS.of sZ⟩,_,rfl,_,_,_,_,_,rfl,R3.wait w0 CB,T.eE,T.iY,rfl,_,_,_,rfl,rfl,sZ,?_,?_⟩;rw[ag,ag,d6];have:aM=16777216:=rfl;omega;have ep:jr g c=w0.place:=by unfold jr;rw[ew]
      refine⟨_,_,rfl,?_,?_,λb o e n=>aO (kp b o e n) n⟩;rw[aq,take_snoc hc,az,az];simp[ep];rw[B1 hc,ha,gZ];unfold jE;rw[ew,e0];simp[e4]
end
section
variable{P:bg}{w:cn}{K:au}{mg:Str->Option ax}{base:df}{t:fO}
def m8(g:G)(n:Int)(W:List GW):List Int:=(W.filter λw=>decide (jQ g w.id=n)).map (·.id)
theorem Gd(g:G)(n:Int)(W:List GW)(w:GW):m8 g n (W++[w])=m8 g n W++(if jQ g w.id=n then[w.id] else[]):=by
 unfold m8;rw[jm,az];congr 1;by_cases h:jQ g w.id=n;rw[if_pos h,b9,if_pos (decide_eq_true h)];rfl;rw[if_neg h,b9,if_neg (by simp[h])];rfl
theorem J9(g:G)(n:Int)(W:List GW):(m8 g n W).length<=W.length:=by
 unfold m8;rw[ag];exact bf _ _
def dO(g:G):List Int:=match g.F.find? (dG g) with
 |some f=>m8 g f.num g.W
 |none=>[]
def x9(t:fO):Sp:=λvs H Q _=>∃(k:aj) (g:G),vs=[.ref k]/\cW t H k g/\uM g/\g.W.length<aM/\(∀f∈g.F,f.kids.length+1<4096)/\∀H' l,H l=ay->H' l=ae (.lst ((dO g).map V.int))->bC H H'->Q (.ref l) H'
theorem pF(T:Txt w K mg t):dU P w K mg base kI 2 t.mD t.k_ ["kept"] (x9 t):=by
 refine T.m6.ok oU (λvs H Q E h=>?_) (λiq Ar outer s H vs Q E hr h=>?_);obtain⟨k,g,rfl,_⟩:=h;rfl
 ·obtain⟨k,g,rfl,KG,WL,sz,Zw,q⟩:=h;refine⟨_,(ao (Ao (nM dm rfl (Dc (aT (pv 0) rfl)) (f6 (i:=1) oU.nd rfl (PD rfl)) (aD (dr (vN (bI (Hh T) hr.mo rfl T.GV T.zt.kp T.Jy .nil bQ (ah (pv 0) (ah (pv 1) aw)))) (aD (bu (N3 (ML rfl oU.nd (Dc (aT (pv 0) rfl)) (n_ (N:=["kept","number","x"]) (sc:=a_ ug) (own:=[("x",2)]) (by decide+kernel)) (λ_ _ _ _ _=>(f6 (i:=2) oU.nd rfl (bE rfl))) (λ_ _ _ _ _=>(vj (b_ fC (cX (pv 0) T.aR T.eM (eO T) hr.mo T.fE .nil bQ (ah (pv 2) aw)) (pv 1) (ck _)))) (λ_ _ _ _ _=>(pv 2)))))) bY)))) (aD (bu (cv aw)))),?_⟩;refine⟨g.fa,_,KG.fams,trivial,λod=>?_⟩;have R0:eI t (upd H g.fa (.jq od (.dK (g.F.map BV)))) k g:=KG.r.lE (ib.lock KG.fams);have eF:upd H g.fa (.jq od (.dK (g.F.map BV))) g.fa=ae (.jq od (.dK (g.F.map BV))):=aq;have kL:∀b o,H b=ae o->b≠g.fa->upd H g.fa (.jq od (.dK (g.F.map BV))) b=ae o:=λb o e n=>aO e n;have nL:∀b,upd H g.fa (.jq od (.dK (g.F.map BV))) b=ay->H b=ay:=λb h=>dY h;generalize upd H g.fa (.jq od (.dK (g.F.map BV)))=H2 at R0 eF kL nL;have back:∀H',bC H2 H'->bC H (upd H' g.fa (.dK (g.F.map BV))):=λH' kp b o e=>by
   by_cases hb:b=g.fa;subst hb;rw[KG.fams] at e;cases e;exact aq;exact aO (kp b o (kL b o e hb)) hb
  refine⟨_,rfl,_,_,_,_,_,rfl,R0.kept,T.aR,T.bH,rfl,_,_,rfl,.inl ⟨_,eF,?_⟩⟩;refine As g.F.length (λi σ H'=>∃v1 v2:Option V,σ=[ae (.ref k),v1,v2]/\(∀f∈g.F.take i,dG g f=false)/\bC H2 H') ⟨ay,ay,rfl,by simp,bC.refl _⟩ ?_ ?_
  ·rintro σ H' ⟨v1,v2,rfl,ha,kp⟩;rw[cE] at ha;have x8:=kp _ _ eF;refine⟨⟨x8,by rw[ag];exact aJ _⟩,x8,?_⟩;have em:dO g=[]:=by
    unfold dO;have:g.F.find? (dG g)=ay:=fg.mpr λf hf=>by rw[ha f hf];decide
    rw[this]
   refine⟨cI _,λl hl=>?_⟩;have sb:=back H' kp;refine q _ l (cY sb hl) ?_ (sb.trans (bC.new hl));rw[aq,em];rfl
  ·rintro i σ H' hi ⟨v1,v2,rfl,ha,kp⟩;have x8:=kp _ _ eF;refine⟨⟨x8,by rw[ag];exact hi⟩,?_⟩;rintro y H3 ⟨e3,kk,vv,Aq,ey⟩;obtain rfl:=e3.symm;obtain⟨f,hf⟩:∃f,g.F[i]? =ae f:=⟨_,dz hi⟩;rw[dh,hf] at Aq;obtain⟨rfl,_⟩:cO f.num=kk/\V.ref f.o=vv:=by
    have z:(cO f.num,V.ref f.o)=(kk,vv):=bF Aq;exact⟨da ve z,da vf z⟩
   subst ey;have uY:f∈g.F:=bW hf;have R3:eI t H' k g:=R0.lE (ib.same kp);have hgf:bj GF.num f.num g.F=ae f:=cB KG.xu uY rfl;have FQ:H' f.ch=ae (.dK (f.kids.map uX)):=kp _ _ (kL _ _ (KG.fam f uY).yt (KG.Nc f uY).2.1);refine⟨_,rfl,_,rfl,k,g,f.num,f,rfl,R3,hgf,FQ,Zw f uY,λH4 s4=>?_⟩;refine⟨_,rfl,?_⟩;cases ea:dG g f with
   |false=>
    refine⟨_,_,rfl,λf' dZ=>?_,kp.trans s4⟩;rw[take_snoc hf] at dZ;obtain z|z:=aP.mp dZ
    exact ha f' z;obtain rfl:=ai.mp z;exact ea
   |true=>
    have em:dO g=m8 g f.num g.W:=by
     unfold dO;have:g.F.find? (dG g)=ae f:=by
      refine HQ.mpr ⟨ea,i,hi,(dj.mp hf).2,λj hj=>?_⟩;have:g.F[j]∈g.F.take i:=by
       rw[n8];exact⟨j,by omega,rfl⟩
      simp[ha _ this]
     rw[this]
    have R4:eI t H4 k g:=R3.lE (ib.same s4);have SJ:=kp.trans s4;have hw4:H4 g.wa=ae (.dK (g.W.map BW)):=SJ _ _ (kL _ _ KG.waits (gA KG.SD));show YV _ _ _ _;refine⟨g.wa,_,hw4,trivial,λod2=>?_⟩;have R5:eI t (upd H4 g.wa (.jq od2 (.dK (g.W.map BW)))) k g:=R4.lE (ib.lock hw4);have eW:upd H4 g.wa (.jq od2 (.dK (g.W.map BW))) g.wa=ae (.jq od2 (.dK (g.W.map BW))):=aq;have k5:∀b o,H4 b=ae o->b≠g.wa->upd H4 g.wa (.jq od2 (.dK (g.W.map BW))) b=ae o:=λb o e n=>aO e n;have n5:∀b,upd H4 g.wa (.jq od2 (.dK (g.W.map BW))) b=ay->H4 b=ay:=λb h=>dY h;generalize upd H4 g.wa (.jq od2 (.dK (g.W.map BW)))=H5 at R5 eW k5 n5;refine⟨_,rfl,_,_,_,_,_,rfl,R5.kept,T.aR,T.cA,rfl,_,_,rfl,.inl ⟨_,eW,λD hD=>?_⟩⟩;refine N9 g.W.length (λj H'=>H' D=ae (.lst ((m8 g f.num (g.W.take j)).map V.int))/\∀b o,H5 b=ae o->H' b=ae o) ⟨aq,λb o e=>aO e (aI e hD)⟩ ?_ ?_
    ·rintro H' ⟨sZ,J_⟩;rw[cE,<-em] at sZ;have eW':=J_ _ _ eW;refine⟨⟨eW',by rw[ag];exact aJ _⟩,eW',?_⟩;have eF6:H' g.fa=ae (.jq od (.dK (g.F.map BV))):=J_ _ _ (k5 _ _ (SJ _ _ eF) KG.SD);have nDw:D≠g.wa:=λz=>by rw[z,eW] at hD;cases hD
     have nDf:D≠g.fa:=λz=>by rw[z,k5 _ _ (SJ _ _ eF) KG.SD] at hD;cases hD
     refine⟨aO eF6 KG.SD,?_⟩;refine q _ D ?_ (aO (aO sZ nDw) nDf) λb o e=>?_;exact nL _ (cY SJ (n5 _ hD))
     ·by_cases hb:b=g.fa;subst hb;rw[KG.fams] at e;cases e;exact aq
      ·refine aO ?_ hb;by_cases hb2:b=g.wa;subst hb2;rw[KG.waits] at e;cases e;exact aq;exact aO (J_ _ _ (k5 _ _ (SJ _ _ (kL _ _ e hb)) hb2)) hb2
    ·rintro j H' hj ⟨sZ,J_⟩;have eW':=J_ _ _ eW;refine⟨⟨eW',by rw[ag];exact hj⟩,?_⟩;rintro y H7 ⟨e7,kk,vv,Aq,ey⟩;obtain rfl:=e7.symm;obtain⟨w0,Ni⟩:∃w0,g.W[j]? =ae w0:=⟨_,dz hj⟩;rw[dh,Ni] at Aq;obtain⟨rfl,_⟩:cO w0.id=kk/\V.ref w0.o=vv:=by
      have z:(cO w0.id,V.ref w0.o)=(kk,vv):=bF Aq;exact⟨da ve z,da vf z⟩
     subst ey;have CB:w0∈g.W:=bW Ni;obtain⟨pw,hpw⟩:=WL w0 CB;have R7:eI t H' k g:=R5.lE (ib.same J_);refine⟨rfl,?_⟩;refine⟨_,rfl,_,_,_,rfl,R7.kept,rfl,_,rfl,k,g,w0.id,pw,rfl,R7,hpw,_,rfl,rfl,_,rfl,?_⟩;have Ma:=lX hpw;refine cN (λc1=>?_) (λc1=>?_)
     ·have e1:pw.fam=f.num:=V.int.inj (aY c1);refine⟨_,rfl,_,sZ,?_,?_,λb o e=>aO (J_ b o e) (aI e hD)⟩;rw[ag];exact EC (bX (J9 _ _ _) (by rw[d6];exact yf _ _)) sz;rw[aq,take_snoc Ni,Gd,bw (Ma.trans e1),az];rfl
     have n1:¬jQ g w0.id=f.num:=λz=>c1 (by rw[Ma] at z;rw[z];exact bG rfl);refine⟨?_,J_⟩;rw[take_snoc Ni,Gd,aX n1,cD];exact sZ
end
section
variable{P:bg}{w:cn}{K:au}{mg:Str->Option ax}{base:df}{t:fO}
def tL(pl:Int)(w:GW):Bool:=decide (w.num=pl)
theorem lH{α β:Type}{q:α->Bool}{f:α->β}{l:List α}{i:Nat}{x:α}(h:l[i]? =ae x):((l.take (i+1)).filter q).map f=((l.take i).filter q).map f++(if q x=true then[f x] else[]):=by
 rw[take_snoc h,jm,az];congr 1;by_cases c:q x=true;rw[bw c,b9,bw c];rfl;rw[aX c,b9,aX c];rfl
theorem AB{α β:Type}{q:α->Bool}{f:α->β}{l:List α}{i:Nat}:(((l.take i).filter q).map f).length<=l.length:=by
 rw[ag];exact bX (bf _ _) (by rw[d6];exact yf _ _)
def Rj(t:fO):Sp:=λvs H Q _=>∃(k:aj) (g:G) (x pl ot:Int) (p:GP),vs=[.ref k,.int x,.int pl,.int ot]/\eI t H k g/\bj GP.id x g.P=ae p/\uM g/\g.W.length<aM/\∀H' l,H l=ay->H' l=ae (.lst ((((g.W.filter (gq g p.fam 3 ot)).filter (tL pl)).map (·.id)).map V.int))->bC H H'->Q (.ref l) H'
theorem Ge(T:Txt w K mg t):dU P w K mg base kI 3 t.uA t.su ["kept","x","place","other_place"] (Rj t):=by
 refine T.Cu.ok yZ (λvs H Q E h=>?_) (λiq Ar outer s H vs Q E hr h=>?_);obtain⟨k,g,x,pl,n,p,rfl,_⟩:=h;rfl
 ·obtain⟨k,g,x,pl,ot,p,rfl,KG,hp,WL,sz,q⟩:=h;refine⟨_,(aD (bu (ML rfl yZ.nd (kH (bI (Az T) hr.mo rfl T.Av T.zr.kp T.DI .nil bQ (ah (pv 0) (ah (pv 1) (ah (dE rfl T.OB) (ah (pv 3) aw)))))) (n_ (N:=["kept","x","place","other_place","y"]) (sc:=a_ Cj) (own:=[("y",4)]) (by decide+kernel)) (λ_ _ _ _ _=>(f6 (i:=4) yZ.nd rfl (bE rfl))) (λ_ _ _ _ _=>(vj (b_ fC (tO (K:=K) rfl (fq (d9 hr) (tO (K:=K) rfl (pv 0) rfl) (pv 4) (λ_ _=>rfl)) rfl) (pv 2) (ck _)))) (λ_ _ _ _ _=>(pv 4))))),?_⟩;refine⟨_,rfl,_,rfl,_,rfl,k,g,x,3,ot,p,rfl,KG,hp,WL,sz,λH1 l hl el s1=>?_⟩;have fW:eI t H1 k g:=KG.lE (ib.same s1);have PL:H1 l=ae (.lst ((g.W.filter (gq g p.fam 3 ot)).map λw=>V.int w.id)):=by rw[el];unfold sM;rw[bx];rfl
  refine⟨l,rfl,⟨_,dS.of PL⟩,λD hD=>?_⟩;refine Am (K:=K) (a:=l) (xs:=(g.W.filter (gq g p.fam 3 ot)).map λw=>V.int w.id) (λi H'=>H' D=ae (.lst ((((g.W.filter (gq g p.fam 3 ot)).take i).filter (tL pl)).map λw=>V.int w.id))/\bC H1 H') ⟨aq,bC.new hD⟩ (λi H' _ ⟨_,s2⟩=>dS.of (s2 _ _ PL)) ?_ ?_
  ·rintro i y H' hi ⟨eD,s2⟩;rw[dh] at hi;obtain⟨v,hv,rfl⟩:∃v,(g.W.filter (gq g p.fam 3 ot))[i]? =ae v/\y=V.int v.id:=by
    cases e:(g.W.filter (gq g p.fam 3 ot))[i]? with
    |none=>rw[e] at hi;cases hi
    |some v=>rw[e] at hi;exact⟨v,rfl,(bF hi).symm⟩
   have B2:=(aW.mp (bW hv)).1;have gG:eI t H' k g:=fW.lE (ib.same s2);refine⟨rfl,?_⟩;refine⟨_,rfl,_,_,_,_,_,rfl,gG.kept,T.aR,T.cA,rfl,_,rfl,_,_,rfl,gG.zL (cB KG.Il B2 rfl),_,_,_,_,_,rfl,gG.wait v B2,T.eE,T.dM,rfl,_,rfl,rfl,_,rfl,?_⟩;refine cN (λc=>?_) (λc=>?_);have e1:v.num=pl:=V.int.inj (aY c);have l1:=AB (q:=tL pl) (f:=λw:GW=>V.int w.id) (l:=g.W.filter (gq g p.fam 3 ot)) (i:=i);have l2:=bf (gq g p.fam 3 ot) g.W;refine⟨_,rfl,_,eD,(by omega),?_,λb o e=>aO (s2 b o e) (aI e hD)⟩;rw[aq,lH hv,bw (show tL pl v=true from bG e1)];have n1:¬tL pl v=true:=λz=>c (by rw[aY z];exact bG rfl);refine⟨?_,s2⟩;rw[lH hv,aX n1,cD];exact eD
  rintro H' ⟨eD,s2⟩;rw[ag,cE] at eD;refine q _ D (cY s1 hD) ?_ (s1.trans s2);rw[eD,bx];rfl
end
theorem vD:∀{l m:List Int},l.Perm m->l.Pairwise (·<=·)->m.Pairwise (·<=·)->l=m
 |[],m,p,_,_=>by rw[List.nil_perm.mp p]
 |a::r,[],p,_,_=>by have:=p.length_eq;simp at this
 |a::r,c::s,p,h1,h2=>by
  obtain⟨a1,a2⟩:=b7.mp h1;obtain⟨c1,c2⟩:=b7.mp h2;have e:a=c:=by
   obtain z|z:=aF.mp (p.mem_iff.mp (aB ..))
   exact z
   ·obtain y|y:=aF.mp (p.mem_iff.mpr (aB ..))
    exact y.symm;have:=c1 a z;have:=a1 c y;omega
  subst e;rw[vD (PZ p) a2 c2]
def d_(c:GC):Int×Int×Int:=(c.cf,c.sort,c.id)
def rI(H:Hp)(c:GC):Prop:=H c.tp=ae (.tup [.int c.cf,.int c.sort,.int c.id])
section
variable{P:bg}{w:cn}{K:au}{mg:Str->Option ax}{base:df}{t:fO}
def A8(t:fO):Sp:=λvs H Q _=>∃(k:aj) (g:G) (n:Int) (f:GF),vs=[.ref k,.int n]/\eI t H k g/\bj GF.num n g.F=ae f/\f.kids.Pairwise (λa c=>a.cf<c.cf)/\f.kids.length<aM/\∀H' l (cs:List GC),H l=ay->H' l=ae (.lst (cs.map λc=>V.ref c.tp))->cs.map d_=f.kids.map d_->(∀c∈cs,rI H' c)->bC H H'->Q (.ref l) H'
theorem jW(T:Txt w K mg t):dU P w K mg base kI 1 t.jc t.iR ["self","number"] (A8 t):=by
 refine T.Ct.ok jU (λvs H Q E h=>?_) (λiq Ar outer s H vs Q E hr h=>?_);obtain⟨k,g,n,f,rfl,_⟩:=h;rfl
 ·obtain⟨k,g,n,f,rfl,KG,hf,A9,sz,q⟩:=h;obtain⟨uY,efn⟩:=bD hf;refine⟨_,(ao (cj (i:=2) jU.nd rfl (PD rfl) (aT (fq (d9 hr) (aT (pv 0) rfl) (pv 1) (λ_ _=>rfl)) rfl)) (aD (bu (ML rfl jU.nd (kH (cM (Qz rfl) (by rfl) T.Aw boot_sorted (ah (pv 2) aw))) (n_ (N:=["self","number","children","serial"]) (sc:=a_ pI) (own:=[("serial",3)]) (by decide+kernel)) (λ_ _ _ _ _=>(f6 (i:=3) jU.nd rfl (bE rfl))) (λ_ _ _ _ _=>U2) (λ_ _ _ _ _=>(NX (ah (pv 3) (ah (eX (Df (K:=K) rfl) (fq (d9 hr) (pv 2) (pv 3) (λ_ _=>rfl)) aQ (λ_ _=>rfl)) (ah (eX (Df (K:=K) rfl) (fq (d9 hr) (pv 2) (pv 3) (λ_ _=>rfl)) aQ (λ_ _=>rfl)) aw))))))))),?_⟩;refine⟨_,rfl,_,_,_,_,_,rfl,KG.kept,T.aR,T.bH,rfl,_,rfl,_,_,rfl,KG.sJ hf,_,_,_,_,_,rfl,(KG.fam f uY).obj,T.dB,T.dI,rfl,?_⟩;refine⟨_,rfl,f.ch,_,f.kids.map (·.cf),rfl,(KG.fam f uY).yt,(by rw[bx,bx];rfl),λyN l hp hs hl=>?_⟩;have ens:yN=f.kids.map (·.cf):=vD hp hs (by
   rw[eV];exact A9.imp λh=>S9 h)
  subst ens;have s1:bC H (upd H l (.lst ((f.kids.map (·.cf)).map V.int))):=bC.new hl;have el:upd H l (.lst ((f.kids.map (·.cf)).map V.int)) l=ae (.lst (f.kids.map λc=>V.int c.cf)):=by rw[aq,bx];rfl
  have kn:∀b,upd H l (.lst ((f.kids.map (·.cf)).map V.int)) b=ay->H b=ay:=λb h=>dY h;generalize upd H l (.lst ((f.kids.map (·.cf)).map V.int))=H1 at s1 el kn;have fW:eI t H1 k g:=KG.lE (ib.same s1);refine⟨l,rfl,⟨_,dS.of el⟩,λD hD=>?_⟩;refine Am (K:=K) (a:=l) (xs:=f.kids.map λc=>V.int c.cf) (λi H'=>∃cs:List GC,H' D=ae (.lst (cs.map λc=>V.ref c.tp))/\cs.map d_=(f.kids.take i).map d_/\(∀c∈cs,rI H' c)/\bC H1 H') ⟨[],aq,rfl,by simp,bC.new hD⟩ (λi H' _ ⟨_,_,_,_,s2⟩=>dS.of (s2 _ _ el)) ?_ ?_
  ·rintro i y H' hi ⟨cs,eD,SM,htr,s2⟩;rw[dh] at hi;obtain⟨c,hc,rfl⟩:∃c,f.kids[i]? =ae c/\y=V.int c.cf:=by
    cases e:f.kids[i]? with
    |none=>rw[e] at hi;cases hi
    |some v=>rw[e] at hi;exact⟨v,rfl,(bF hi).symm⟩
   have Oa:=bW hc;have gG:eI t H' k g:=fW.lE (ib.same s2);have F2:=gG.fam f uY;have dg:rD H' f.ch (.int c.cf) (ae (.ref c.tp)):=by
    have e:=rD.rd (k:= .inl c.cf) F2.yt;rw[jg kC,cB F2.nd Oa rfl] at e;exact e
   have OJ:=F2.tup c Oa;refine⟨rfl,?_⟩;refine⟨_,rfl,_,rfl,_,rfl,_,_,rfl,dg,_,_,_,_,rfl,rfl,n9.of OJ,at0,_,rfl,_,rfl,_,_,rfl,dg,_,_,_,_,rfl,rfl,n9.of OJ,at1,(by show 3<=aM;decide),λtp ht=>?_⟩;have hlen:=da gE SM;rw[ag,ag,d6] at hlen;have s3:bC H' (upd H' tp (.tup [.int c.cf,.int c.sort,.int c.id])):=bC.new ht;refine⟨_,s3 _ _ eD,(by rw[ag];omega),cs++[⟨c.cf,tp,c.sort,c.id⟩],?_,?_,?_,?_⟩;rw[aq,az];rfl;rw[az,SM,take_snoc hc,az];rfl
   ·intro d hd;have nD:∀b o,upd H' tp (.tup [.int c.cf,.int c.sort,.int c.id]) b=ae (.tup o)->b≠D:=λb o e z=>by
     rw[z,s3 _ _ eD] at e;cases e
    obtain z|z:=aP.mp hd
    have e:=s3 _ _ (htr d z);exact aO e (nD _ _ e);obtain rfl:=ai.mp z;have e:upd H' tp (.tup [.int c.cf,.int c.sort,.int c.id]) tp=ae (.tup [.int c.cf,.int c.sort,.int c.id]):=aq;exact aO e (nD _ _ e)
   exact λb o e=>aO (s3 _ _ (s2 b o e)) (aI e hD)
  rintro H' ⟨cs,eD,SM,htr,s2⟩;rw[ag,cE] at SM;exact q _ D cs (kn _ hD) eD SM htr (s1.trans s2)
end
end wz
namespace wz
section
open Vbdeah (Bank Person Fam Wait putP putF)
theorem w8{p q:fT}:∀{l:List fT},q∈putP p l↔q=p\/q∈l
 |[]=>by simp[putP]
 |a::r=>by
  unfold putP;split;simp
  ·rw[aF,w8 (l:=r),aF];constructor
   ·rintro (h|h|h);exact .inr (.inl h);exact .inl h;exact .inr (.inr h)
   ·rintro (h|h|h);exact .inr (.inl h);exact .inl h;exact .inr (.inr h)
theorem DX{p q:Fam}:∀{l:List Fam},q∈putF p l↔q=p\/q∈l
 |[]=>by simp[putF]
 |a::r=>by
  unfold putF;split;simp
  ·rw[aF,DX (l:=r),aF];constructor
   ·rintro (h|h|h);exact .inr (.inl h);exact .inl h;exact .inr (.inr h)
   ·rintro (h|h|h);exact .inr (.inl h);exact .inl h;exact .inr (.inr h)
abbrev SP(l:List fT):Prop:=l.Pairwise λa c=>a.id<c.id
abbrev SF(l:List Fam):Prop:=l.Pairwise λa c=>a.num<c.num
theorem Im{p:fT}:∀{l:List fT},SP l->(∀q∈l,q.id≠p.id)->SP (putP p l)
 |[],_,_=>by simp[putP,SP]
 |a::r,h,n=>by
  obtain⟨h1,h2⟩:=b7.mp h;unfold putP;split
  ·rename_i c;refine b7.mpr ⟨λq hq=>?_,h⟩;obtain rfl|hq:=aF.mp hq
   exact c;exact GA c (h1 q hq)
  ·rename_i c;refine b7.mpr ⟨λq hq=>?_,Im h2 λq hq=>n q (aC _ hq)⟩;have na:=n a (aB ..);obtain rfl|hq:=w8.mp hq
   omega;exact h1 q hq
theorem Vl{p:Fam}:∀{l:List Fam},SF l->(∀q∈l,q.num≠p.num)->SF (putF p l)
 |[],_,_=>by simp[putF,SF]
 |a::r,h,n=>by
  obtain⟨h1,h2⟩:=b7.mp h;unfold putF;split
  ·rename_i c;refine b7.mpr ⟨λq hq=>?_,h⟩;obtain rfl|hq:=aF.mp hq
   exact c;exact GA c (h1 q hq)
  ·rename_i c;refine b7.mpr ⟨λq hq=>?_,Vl h2 λq hq=>n q (aC _ hq)⟩;have na:=n a (aB ..);obtain rfl|hq:=DX.mp hq
   omega;exact h1 q hq
open Vbdeah (Kid putKid kids)
theorem xC{p q:Kid}:∀{l:List Kid},q∈eA p l↔q=p\/q∈l
 |[]=>by simp[eA]
 |a::r=>by
  unfold eA;split;simp
  ·rw[aF,xC (l:=r),aF];constructor
   ·rintro (h|h|h);exact .inr (.inl h);exact .inl h;exact .inr (.inr h)
   ·rintro (h|h|h);exact .inr (.inl h);exact .inl h;exact .inr (.inr h)
abbrev SK(l:List Kid):Prop:=l.Pairwise λa c=>a.1<c.1
theorem Nj{p:Kid}:∀{l:List Kid},SK l->(∀q∈l,q.1≠p.1)->SK (eA p l)
 |[],_,_=>by simp[eA,SK]
 |a::r,h,n=>by
  obtain⟨h1,h2⟩:=b7.mp h;unfold eA;split
  ·rename_i c;refine b7.mpr ⟨λq hq=>?_,h⟩;obtain rfl|hq:=aF.mp hq
   exact c;exact GA c (h1 q hq)
  ·rename_i c;refine b7.mpr ⟨λq hq=>?_,Nj h2 λq hq=>n q (aC _ hq)⟩;have na:=n a (aB ..);obtain rfl|hq:=xC.mp hq
   omega;exact h1 q hq
theorem zP{q:Kid}:∀{l acc:List Kid},q∈l.foldl (λl k=>eA k l) acc↔q∈l\/q∈acc
 |[],acc=>by simp
 |a::r,acc=>by
  rw[cV,zP (l:=r),xC,aF];constructor
  ·rintro (h|h|h);exact .inl (.inr h);exact .inl (.inl h);exact .inr h
  ·rintro ((h|h)|h);exact .inr (.inl h);exact .inl h;exact .inr (.inr h)
theorem J':∀{l acc:List Kid},SK acc->(l.map (·.1)).Nodup->(∀a∈l,∀q∈acc,q.1≠a.1)->SK (l.foldl (λl k=>eA k l) acc)
 |[],acc,h,_,_=>h
 |a::r,acc,h,nd,n=>by
  obtain⟨n1,n2⟩:=cU.mp nd;rw[cV];refine J' (Nj h (n a (aB ..))) n2 λx hx q hq=>?_;obtain rfl|hq:=xC.mp hq
  intro e;exact n1 (aA.mpr ⟨x,hx,e.symm⟩);exact n x (aC _ hx) q hq
theorem Ka{α:Type}{key:α->Nat}:∀{l m:List α},l.Pairwise (λa c=>key a<key c)->m.Pairwise (λa c=>key a<key c)->(∀x,x∈l↔x∈m)->l=m
 |[],[],_,_,_=>rfl
 |[],b::s,_,_,h=>absurd ((h b).mpr (aB ..)) (by simp)
 |a::r,[],_,_,h=>absurd ((h a).mp (aB ..)) (by simp)
 |a::r,b::s,hl,hm,h=>by
  obtain⟨l1,l2⟩:=b7.mp hl;obtain⟨m1,m2⟩:=b7.mp hm;have e:a=b:=by
   obtain e|ha:=aF.mp ((h a).mp (aB ..))
   exact e
   ·obtain e|hb:=aF.mp ((h b).mpr (aB ..))
    exact e.symm;have:=m1 a ha;have:=l1 b hb;omega
  subst e;congr 1;refine Ka l2 m2 λx=>⟨λhx=>?_,λhx=>?_⟩
  ·obtain e|z:=aF.mp ((h x).mp (aC _ hx))
   subst e;exact bM (l1 x hx) (by omega);exact z
  ·obtain e|z:=aF.mp ((h x).mpr (aC _ hx))
   subst e;exact bM (m1 x hx) (by omega);exact z
end
section
open Vbdeah (Bank Person Fam Wait)
def Vm(p:GP):fT:=⟨p.id.toNat,p.fam.toNat,p.cf.toNat⟩
def toF(f:GF):Fam:=⟨f.num.toNat,f.par.toNat,f.cf.toNat,f.fN.toNat⟩
def ig(w:GW):gd:=⟨w.id.toNat,w.kind.toNat,w.place.toNat,w.num.toNat⟩
def toK(c:GC):dN:=(c.cf.toNat,decide (c.sort=1),c.id.toNat)
def tU(g:G)(f:GF)(c:GC):Prop:=(c.sort=0/\∃p∈g.P,p.id=c.id/\p.fam=f.num/\p.cf=c.cf)\/(c.sort=1/\∃h∈g.F,h.num=c.id/\h.par=f.num/\h.cf=c.cf)
structure Zy(g:G)(f:GF):Prop where
 pos:0<f.num
 lt:f.num<g.nx
 cf:0<=f.cf
 fN:0<=f.fN
 A9:f.kids.Pairwise λa c=>a.cf<c.cf
 x_:∀c∈f.kids,0<=c.cf/\c.cf<f.fN/\tU g f c
 par:(f.par=0/\f.cf=0)\/(0<f.par/\f.par<f.num/\∃h∈g.F,h.num=f.par/\∃c∈h.kids,c.cf=f.cf/\c.sort=1/\c.id=f.num)
structure Vn(g:G)(p:GP):Prop where
 pos:0<p.id
 fam:∃f∈g.F,f.num=p.fam/\∃c∈f.kids,c.cf=p.cf/\c.sort=0/\c.id=p.id
structure CC(g:G)(w:GW):Prop where
 live:∃p∈g.P,p.id=w.id
 kind:1<=w.kind/\w.kind<=4
 place:0<=w.place/\w.place<=999
 num:0<=w.num/\w.num<=1000
 one:w.kind=1->1<=w.num
structure cK(g:G):Prop where
 yE:(g.P.map (·.id)).Nodup
 lO:(g.F.map (·.num)).Nodup
 DT:(g.W.map (·.id)).Nodup
 nx:0<g.nx
 qV:∀p∈g.P,Vn g p
 fam:∀f∈g.F,Zy g f
 t5:∀w∈g.W,CC g w
structure fz(g:G)(b:bB):Prop where
 sP:SP b.people
 mP:∀q,q∈b.people↔∃p∈g.P,Vm p=q
 sF:SF b.fams
 mF:∀q,q∈b.fams↔∃f∈g.F,toF f=q
 W:b.waits=g.W.map ig
 nx:(b.next:Int)=g.nx
section
variable{g:G}{b:bB}
theorem cK.jo(x:cK g){p:GP}(h:p∈g.P):0<p.id/\0<p.fam/\0<=p.cf:=by
 obtain⟨f,hf,e1,c,hc,e2,_,_⟩:=(x.qV p h).fam;have:=(x.fam f hf).pos;have:=((x.fam f hf).x_ c hc).1;exact⟨(x.qV p h).pos,by omega,by omega⟩
theorem cK.fe(x:cK g){f:GF}(h:f∈g.F):0<f.num/\0<=f.par/\0<=f.cf/\0<=f.fN/\f.par<f.num:=by
 have a:=x.fam f h;have:=a.pos;obtain⟨e,_⟩|⟨e,l,_⟩:=a.par
 exact⟨a.pos,by omega,a.cf,a.fN,by omega⟩;exact⟨a.pos,by omega,a.cf,a.fN,l⟩
theorem cK.rJ(x:cK g){w:GW}(h:w∈g.W):0<w.id:=by
 obtain⟨p,hp,e⟩:=(x.t5 w h).live;have:=(x.qV p hp).pos;omega
theorem fz.person(A:fz g b)(x:cK g){i:Int}(hi:0<=i):b.person i.toNat=(bj GP.id i g.P).map Vm:=by
 unfold NH;cases e:bj GP.id i g.P with
 |none=>
  refine fg.mpr λq hq=>?_;obtain⟨p,hp,rfl⟩:=(A.mP q).mp hq;have h1:=fV e p hp;have h2:=(x.jo hp).1;show ¬(p.id.toNat==i.toNat)=true;intro z;have:=eq_of_beq z;omega
 |some p=>
  obtain⟨hp,e1⟩:=bD e;cases e2:b.people.find? λq=>q.id==i.toNat with
  |none=>
   have:=fg.mp e2 (Vm p) ((A.mP _).mpr ⟨p,hp,rfl⟩);exact absurd (by show(p.id.toNat==i.toNat)=true;rw[e1];simp) this
  |some q=>
   have hq:=fM e2;have hq2:(q.id==i.toNat)=true:=lU (p:=λq:fT=>q.id==i.toNat) e2;obtain⟨p',J4,rfl⟩:=(A.mP q).mp hq;have z:p'.id.toNat=i.toNat:=eq_of_beq hq2;have h2:=(x.jo J4).1;rw[bh x.yE J4 hp (by omega)];rfl
theorem fz.fam(A:fz g b)(x:cK g){i:Int}(hi:0<=i):b.fam i.toNat=(bj GF.num i g.F).map toF:=by
 unfold C2;cases e:bj GF.num i g.F with
 |none=>
  refine fg.mpr λq hq=>?_;obtain⟨p,hp,rfl⟩:=(A.mF q).mp hq;have h1:=fV e p hp;have h2:=(x.fe hp).1;show ¬(p.num.toNat==i.toNat)=true;intro z;have:=eq_of_beq z;omega
 |some p=>
  obtain⟨hp,e1⟩:=bD e;cases e2:b.fams.find? λq=>q.num==i.toNat with
  |none=>
   have:=fg.mp e2 (toF p) ((A.mF _).mpr ⟨p,hp,rfl⟩);exact absurd (by show(p.num.toNat==i.toNat)=true;rw[e1];simp) this
  |some q=>
   have hq:=fM e2;have hq2:(q.num==i.toNat)=true:=lU (p:=λq:Fam=>q.num==i.toNat) e2;obtain⟨p',J4,rfl⟩:=(A.mF q).mp hq;have z:p'.num.toNat=i.toNat:=eq_of_beq hq2;have h2:=(x.fe J4).1;rw[bh x.lO J4 hp (by omega)];rfl
theorem Kb{α:Type}(p:α->Bool):∀l:List α,l.any p=(l.find? p).isSome
 |[]=>rfl
 |a::r=>by
  rw[sX,gI,Kb p r];cases p a<;>rfl
theorem fz.lives(A:fz g b)(x:cK g){i:Int}(hi:0<=i):il b i.toNat=(bj GP.id i g.P).isSome:=by
 have e:=A.person x hi;unfold NH at e;unfold il;rw[Kb,e,bZ]
theorem fz.waiting(A:fz g b)(x:cK g){i:Int}(hi:0<=i):aaN b i.toNat=(bj GW.id i g.W).isSome:=by
 unfold aaN bj;rw[A.W,Sj,<-Kb];rw[cT,gu,gu];constructor;rintro ⟨w,hw,e⟩;have z:w.id.toNat=i.toNat:=eq_of_beq e;have:=x.rJ hw;exact⟨w,hw,decide_eq_true (by omega)⟩;rintro ⟨w,hw,e⟩;have z:w.id=i:=of_decide_eq_true e;exact⟨w,hw,by show(w.id.toNat==i.toNat)=true;rw[z];simp⟩
theorem fz.famOf(A:fz g b)(x:cK g){i:Int}(hi:0<=i):bT b i.toNat=(jQ g i).toNat:=by
 unfold bT jQ;rw[A.person x hi];cases bj GP.id i g.P<;>rfl
theorem pW{q:fT}{n:Nat}:q∈cC b n↔q∈b.people/\q.fam=n:=by
 unfold cC;rw[aW,beq_iff_eq]
theorem sN{q:Fam}{n:Nat}:q∈cH b n↔q∈b.fams/\q.parent=n:=by
 unfold cH;rw[aW,beq_iff_eq]
theorem DY{q:dN}{n:Nat}:q∈d4 b n↔(∃p∈b.people,p.fam=n/\q=(p.serial,false,p.id))\/∃h∈b.fams,h.parent=n/\q=(h.serial,true,h.num):=by
 unfold d4;rw[zP,aP,aA,aA];constructor
 ·rintro ((⟨p,hp,e⟩|⟨p,hp,e⟩)|h);obtain⟨h1,h2⟩:=pW.mp hp;exact .inl ⟨p,h1,h2,e.symm⟩;obtain⟨h1,h2⟩:=sN.mp hp;exact .inr ⟨p,h1,h2,e.symm⟩;simp at h
 ·rintro (⟨p,h1,h2,e⟩|⟨p,h1,h2,e⟩);exact .inl (.inl ⟨p,pW.mpr ⟨h1,h2⟩,e.symm⟩);exact .inl (.inr ⟨p,sN.mpr ⟨h1,h2⟩,e.symm⟩)
theorem Io{f:GF}{c d:GC}(s:f.kids.Pairwise λa c=>a.cf<c.cf)(hc:c∈f.kids)(hd:d∈f.kids)(e:c.cf=d.cf):c=d:=by
 have nd:(f.kids.map (·.cf)).Nodup:=by
  unfold Er;rw[eV];exact s.imp λh=>by omega
 exact bh nd hc hd e
theorem fz.Vo(A:fz g b)(x:cK g){f:GF}(hf:f∈g.F){q:dN}:q∈d4 b f.num.toNat↔q∈f.kids.map toK:=by
 have F0:=x.fam f hf;rw[DY,aA];constructor
 ·rintro (⟨p,hp,e1,rfl⟩|⟨p,hp,e1,rfl⟩);obtain⟨p',J4,rfl⟩:=(A.mP p).mp hp;obtain⟨f',dZ,e2,c,hc,e3,e4,e5⟩:=(x.qV p' J4).fam;have Y6:p'.fam.toNat=f.num.toNat:=e1;have h1:=x.jo J4;have h2:=(x.fam f' dZ).pos;have:=F0.pos;obtain rfl:=bh x.lO dZ hf (by omega);refine⟨c,hc,?_⟩;unfold toK;rw[e3,e4,e5];rfl
  ·obtain⟨h,hh,rfl⟩:=(A.mF p).mp hp;have Y6:h.par.toNat=f.num.toNat:=e1;have n:=x.fe hh;have:=F0.pos;obtain⟨z,_⟩|⟨z,_,f',dZ,e2,c,hc,e3,e4,e5⟩:=(x.fam h hh).par
   omega;have h2:=(x.fam f' dZ).pos;obtain rfl:=bh x.lO dZ hf (by omega);refine⟨c,hc,?_⟩;unfold toK;rw[e3,e4,e5];rfl
 ·rintro ⟨c,hc,rfl⟩;obtain⟨h1,h2,k⟩:=F0.x_ c hc;obtain⟨e,p,hp,e1,e2,e3⟩|⟨e,h,hh,e1,e2,e3⟩:=k
  refine .inl ⟨Vm p,(A.mP _).mpr ⟨p,hp,rfl⟩,by show p.fam.toNat=_;rw[e2],?_⟩;unfold toK Vm;rw[e,e1,e3];rfl;refine .inr ⟨toF h,(A.mF _).mpr ⟨h,hh,rfl⟩,by show h.par.toNat=_;rw[e2],?_⟩;unfold toK toF;rw[e,e1,e3];rfl
theorem SP.nodup{l:List fT}(h:SP l):l.Nodup:=h.imp λ{a c} h e=>by rw[e] at h;exact fX _ h
theorem SF.nodup{l:List Fam}(h:SF l):l.Nodup:=h.imp λ{a c} h e=>by rw[e] at h;exact fX _ h
theorem kO{α β:Type}{f:α->β}:∀{l:List α},l.Nodup->(∀a∈l,∀c∈l,f a=f c->a=c)->(l.map f).Nodup
 |[],_,_=>by simp
 |a::r,nd,h=>by
  obtain⟨h1,h2⟩:=cU.mp nd;rw[aU];refine cU.mpr ⟨λm=>?_,kO h2 λx hx y hy=>h x (aC _ hx) y (aC _ hy)⟩;obtain⟨c,hc,e⟩:=aA.mp m;exact h1 (by rw[<-h c (aC _ hc) a (aB ..) e];exact hc)
theorem abQ{f:GF}(F0:Zy g f){c d:GC}(hc:c∈f.kids)(hd:d∈f.kids)(e:(toK c).1=(toK d).1):c=d:=by
 have e1:c.cf.toNat=d.cf.toNat:=e;have:=(F0.x_ c hc).1;have:=(F0.x_ d hd).1;exact Io F0.A9 hc hd (by omega)
theorem fz.kids(A:fz g b)(x:cK g){f:GF}(hf:f∈g.F):d4 b f.num.toNat=f.kids.map toK:=by
 have F0:=x.fam f hf;have s2:SK (f.kids.map toK):=by
  unfold SK;rw[eV];refine F0.A9.imp_of_mem λ{a c} ha hc h=>?_;have:=(F0.x_ a ha).1;have:=(F0.x_ c hc).1;show a.cf.toNat<c.cf.toNat;omega
 refine Ka (key:=λk=>k.1) ?_ s2 λq=>A.Vo x hf;unfold d4;refine J' (by simp[SK]) ?_ (by simp);have key:∀q,q∈(cC b f.num.toNat).map (λp=>((p.serial,false,p.id):dN))++(cH b f.num.toNat).map (λh=>((h.serial,true,h.num):dN))->∃c∈f.kids,toK c=q:=λq hq=>by
  have h:q∈d4 b f.num.toNat:=by
   unfold d4;exact zP.mpr (.inl hq)
  have:=(A.Vo x hf).mp h;exact aA.mp this
 refine kO ?_ λa ha c hc e=>?_
 ·refine iN.mpr ⟨?_,?_,λa ha c hc e=>?_⟩;refine kO ((SP.nodup A.sP).sublist fF) λa ha c hc e=>?_;have e1:a.serial=c.serial:=congrArg (λk:dN=>k.1) e;have e2:a.id=c.id:=congrArg (λk:dN=>k.2.2) e;have e3:=(pW.mp ha).2;have e4:=(pW.mp hc).2;cases a;cases c;simp_all;refine kO ((SF.nodup A.sF).sublist fF) λa ha c hc e=>?_;have e2:a.num=c.num:=congrArg (λk:dN=>k.2.2) e;obtain⟨a',ha',rfl⟩:=(A.mF a).mp (sN.mp ha).1;obtain⟨c',vM,rfl⟩:=(A.mF c).mp (sN.mp hc).1;have e3:a'.num.toNat=c'.num.toNat:=e2;have:=(x.fe ha').1;have:=(x.fe vM).1;rw[bh x.lO ha' vM (by omega)];subst e;obtain⟨p,_,e1⟩:=aA.mp ha;obtain⟨h,_,e2⟩:=aA.mp hc;rw[<-e1] at e2;exact absurd (congrArg (λk:dN=>k.2.1) e2) (by simp)
 obtain⟨a',ha',rfl⟩:=key a ha;obtain⟨c',vM,rfl⟩:=key c hc;rw[abQ F0 ha' vM e]
end
end
section
open Vbdeah (Bank Person Fam Wait)
section
variable{g:G}{b:bB}
theorem SP.filter{l:List fT}(h:SP l)(q:fT->Bool):SP (l.filter q):=HR fF h
theorem SF.filter{l:List Fam}(h:SF l)(q:Fam->Bool):SF (l.filter q):=HR fF h
def jR(g:G)(x:Int)(p:GP):G:={g with F:=setAt p.fam (λh=>{h with kids:=cF GC.cf p.cf h.kids}) g.F,P:=cF GP.id x g.P}
theorem eQ{n:Int}{u:GF->GF}{F:List GF}{f:GF}(h:f∈F):(if f.num=n then u f else f)∈setAt n u F:=aA.mpr ⟨f,h,rfl⟩
theorem w9{n:Int}{u:GF->GF}{F:List GF}(h:∀f,(u f).num=f.num):(setAt n u F).map (·.num)=F.map (·.num):=ki (λf=>f.num) λf _ _=>h f
theorem cK.DZ(x:cK g){f:GF}(hf:f∈g.F){c:GC}(hc:c∈f.kids){p:GP}(hp:p∈g.P)(e1:p.fam=f.num)(e2:p.cf=c.cf):c.sort=0/\c.id=p.id:=by
 obtain⟨f',dZ,e3,c',vM,e4,e5,e6⟩:=(x.qV p hp).fam;obtain rfl:=bh x.lO dZ hf (by omega);obtain rfl:=Io (x.fam f' hf).A9 vM hc (by omega);exact⟨e5,e6⟩
theorem cK.out(x:cK g){i:Int}{p:GP}(hp:bj GP.id i g.P=ae p)(hw:bj GW.id i g.W=ay):cK (jR g i p):=by
 obtain⟨nH,rfl⟩:=bD hp;have hF:∀f∈(jR g p.id p).F,∃f0∈g.F,f.num=f0.num/\f.par=f0.par/\f.cf=f0.cf/\f.fN=f0.fN/\(∀c,c∈f.kids↔c∈f0.kids/\(f0.num=p.fam->c.cf≠p.cf))/\f.kids.Pairwise λa c=>a.cf<c.cf:=λf hf=>by
  obtain⟨f0,h0,e,rfl⟩|⟨h0,e⟩:=e_ hf
  refine⟨f0,h0,rfl,rfl,rfl,rfl,λc=>?_,(x.fam f0 h0).A9.sublist fF⟩;show c∈cF GC.cf p.cf f0.kids↔_;rw[cw];exact⟨λh=>⟨h.1,λ_=>h.2⟩,λh=>⟨h.1,h.2 e⟩⟩;exact⟨f,h0,rfl,rfl,rfl,rfl,λc=>⟨λh=>⟨h,λz=>bM z e⟩,λh=>h.1⟩,(x.fam f h0).A9⟩
 have hF':∀f0∈g.F,∃f∈(jR g p.id p).F,f.num=f0.num/\f.par=f0.par/\f.cf=f0.cf/\(∀c,c∈f0.kids->(f0.num=p.fam->c.cf≠p.cf)->c∈f.kids):=λf0 h0=>by
  by_cases e:f0.num=p.fam;refine⟨_,eQ (n:=p.fam) (u:=λh=>{h with kids:=cF GC.cf p.cf h.kids}) h0,?_⟩;rw[bw e];exact⟨rfl,rfl,rfl,λc hc n=>cw.mpr ⟨hc,n e⟩⟩;refine⟨_,eQ (n:=p.fam) (u:=λh=>{h with kids:=cF GC.cf p.cf h.kids}) h0,?_⟩;rw[aX e];exact⟨rfl,rfl,rfl,λc hc _=>hc⟩
 refine⟨jJ _ x.yE,?_,x.DT,x.nx,λq hq=>?_,λf hf=>?_,λw Ip=>?_⟩;show((setAt p.fam _ g.F).map (·.num)).Nodup;rw[w9 (by intro _;rfl)];exact x.lO;obtain⟨Rk,nq⟩:=cw.mp hq;obtain⟨f0,h0,e1,c,hc,e2,e3,e4⟩:=(x.qV q Rk).fam;obtain⟨f,hf,a1,a2,a3,a4⟩:=hF' f0 h0;refine⟨(x.qV q Rk).pos,f,hf,by omega,c,a4 c hc λz w=>?_,e2,e3,e4⟩;have:=(x.DZ h0 hc nH z.symm w.symm).2;exact nq (by omega)
 ·obtain⟨f0,h0,e1,e2,e3,e4,e5,e6⟩:=hF f hf;have F0:=x.fam f0 h0;refine⟨by rw[e1];exact F0.pos,by rw[e1];exact F0.lt,by rw[e3];exact F0.cf,by rw[e4];exact F0.fN,e6,λc hc=>?_,?_⟩
  ·obtain⟨hc0,nc⟩:=(e5 c).mp hc;obtain⟨h1,h2,k⟩:=F0.x_ c hc0;refine⟨h1,by rw[e4];exact h2,?_⟩;obtain⟨z,q,hq,z1,z2,z3⟩|⟨z,h,hh,z1,z2,z3⟩:=k
   refine .inl ⟨z,q,cw.mpr ⟨hq,λw=>?_⟩,z1,by rw[e1];exact z2,z3⟩;obtain rfl:=bh x.yE hq nH w;exact nc z2.symm z3.symm;obtain⟨h',q_,y1,y2,y3,_⟩:=hF' h hh;exact .inr ⟨z,h',q_,by omega,by omega,by omega⟩
  ·obtain⟨z1,z2⟩|⟨z1,z2,h,hh,z3,c,hc,z4,z5,z6⟩:=F0.par
   exact .inl ⟨by omega,by omega⟩;obtain⟨h',q_,y1,y2,y3,y4⟩:=hF' h hh;refine .inr ⟨by omega,by omega,h',q_,by omega,c,y4 c hc λw v=>?_,by omega,z5,by omega⟩;have:=(x.DZ hh hc nH w.symm v.symm).1;omega
 have W0:=x.t5 w Ip;obtain⟨q,hq,e⟩:=W0.live;refine⟨⟨q,cw.mpr ⟨hq,λz=>fV hw w Ip (by omega)⟩,e⟩,W0.kind,W0.place,W0.num,W0.one⟩
theorem fz.out(A:fz g b)(x:cK g){i:Int}{p:GP}(hp:bj GP.id i g.P=ae p):fz (jR g i p) {b with people:=bp i.toNat b.people}:=by
 obtain⟨nH,rfl⟩:=bD hp;refine⟨SP.filter A.sP _,λq=>?_,A.sF,λq=>?_,A.W,A.nx⟩
 ·show q∈b.people.filter _↔∃p'∈cF GP.id p.id g.P,Vm p'=q;rw[aW,A.mP];constructor;rintro ⟨⟨p',J4,rfl⟩,n⟩;refine⟨p',cw.mpr ⟨J4,λz=>?_⟩,rfl⟩;have n':(p'.id.toNat !=p.id.toNat)=true:=n;rw[z] at n';simp at n';rintro ⟨p',J4,rfl⟩;obtain⟨h1,h2⟩:=cw.mp J4;refine⟨⟨p',h1,rfl⟩,?_⟩;have a1:=(x.jo h1).1;have a2:=(x.jo nH).1;show(p'.id.toNat !=p.id.toNat)=true;rw[bne_iff_ne];omega
 ·rw[A.mF];show _↔∃f∈setAt p.fam _ g.F,toF f=q;constructor;rintro ⟨f,hf,rfl⟩;refine⟨_,eQ hf,?_⟩;split<;>rfl
  ·rintro ⟨f,hf,rfl⟩;obtain⟨f0,h0,_,rfl⟩|⟨h0,_⟩:=e_ hf
   exact⟨f0,h0,rfl⟩;exact⟨f,h0,rfl⟩
theorem fz.Nk(A:fz g b)(x:cK g){f:GF}(hf:f∈g.F):((cC b f.num.toNat).isEmpty=true/\(cH b f.num.toNat).isEmpty=true)↔f.kids=[]:=by
 have e:=A.kids x hf;have e2:f.kids=[]↔d4 b f.num.toNat=[]:=by rw[e,uc]
 rw[e2];constructor;rintro ⟨h1,h2⟩;unfold d4;rw[ip.mp h1,ip.mp h2];rfl
 ·intro h;have n:∀q,q∉d4 b f.num.toNat:=λq hq=>by rw[h] at hq;cases hq
  constructor;refine ip.mpr (sV.mpr λp hp=>?_);obtain⟨h1,h2⟩:=pW.mp hp;exact n _ (DY.mpr (.inl ⟨p,h1,h2,rfl⟩));refine ip.mpr (sV.mpr λp hp=>?_);obtain⟨h1,h2⟩:=sN.mp hp;exact n _ (DY.mpr (.inr ⟨p,h1,h2,rfl⟩))
def vE(g:G)(f:GF):G:={g with F:=if f.par=0 then cF GF.num f.num g.F else setAt f.par (λh=>{h with kids:=cF GC.cf f.cf h.kids}) (cF GF.num f.num g.F)}
theorem Fu{f f':GF}(h:f'∈(vE g f).F):∃f0∈g.F,f0.num≠f.num/\f'.num=f0.num/\f'.par=f0.par/\f'.cf=f0.cf/\f'.fN=f0.fN/\(∀c,c∈f'.kids↔c∈f0.kids/\(f.par≠0->f0.num=f.par->c.cf≠f.cf))/\(f0.kids.Pairwise (λa c=>a.cf<c.cf)->f'.kids.Pairwise λa c=>a.cf<c.cf)/\(f0.num≠f.par->f'.kids=f0.kids):=by
 unfold vE at h;dsimp only at h;split at h;rename_i e;obtain⟨h1,h2⟩:=cw.mp h;exact⟨f',h1,h2,rfl,rfl,rfl,rfl,λc=>⟨λz=>⟨z,λn=>absurd e n⟩,λz=>z.1⟩,λz=>z,λ_=>rfl⟩
 ·rename_i e;obtain⟨f0,h0,e1,rfl⟩|⟨h0,e1⟩:=e_ h
  obtain⟨h1,h2⟩:=cw.mp h0;refine⟨f0,h1,h2,rfl,rfl,rfl,rfl,λc=>?_,λz=>z.sublist fF,λz=>bM e1 z⟩;show c∈cF GC.cf f.cf f0.kids↔_;rw[cw];exact⟨λz=>⟨z.1,λ_ _=>z.2⟩,λz=>⟨z.1,z.2 e e1⟩⟩;obtain⟨h1,h2⟩:=cw.mp h0;exact⟨f',h1,h2,rfl,rfl,rfl,rfl,λc=>⟨λz=>⟨z,λ_ n=>bM n e1⟩,λz=>z.1⟩,λz=>z,λ_=>rfl⟩
theorem D0{f f0:GF}(h:f0∈g.F)(n:f0.num≠f.num):∃f'∈(vE g f).F,f'.num=f0.num/\f'.par=f0.par/\f'.cf=f0.cf/\f'.fN=f0.fN/\(∀c,c∈f0.kids->(f.par≠0->f0.num=f.par->c.cf≠f.cf)->c∈f'.kids):=by
 unfold vE;dsimp only;have hd:f0∈cF GF.num f.num g.F:=cw.mpr ⟨h,n⟩;split;exact⟨f0,hd,rfl,rfl,rfl,rfl,λc hc _=>hc⟩
 ·rename_i e;refine⟨_,eQ hd,?_⟩;by_cases e1:f0.num=f.par;rw[bw e1];exact⟨rfl,rfl,rfl,rfl,λc hc k=>cw.mpr ⟨hc,k e e1⟩⟩;rw[aX e1];exact⟨rfl,rfl,rfl,rfl,λc hc _=>hc⟩
theorem Zz{f:GF}(nd:(g.F.map (·.num)).Nodup):((vE g f).F.map (·.num)).Nodup:=by
 unfold vE;dsimp only;split;exact jJ _ nd;rw[w9 (by intro _;rfl)];exact jJ _ nd
theorem cK.D3(x:cK g){h f:GF}(hh:h∈g.F){c:GC}(hc:c∈h.kids)(hf:f∈g.F)(e0:f.par≠0)(e1:h.num=f.par)(e2:c.cf=f.cf):c.sort=1/\c.id=f.num:=by
 obtain⟨z,_⟩|⟨_,_,h',q_,z1,c',vM,z2,z3,z4⟩:=(x.fam f hf).par
 exact bM z e0;obtain rfl:=bh x.lO q_ hh (by omega);obtain rfl:=Io (x.fam h' hh).A9 vM hc (by omega);exact⟨z3,z4⟩
theorem cK.gone(x:cK g){f:GF}(hf:f∈g.F)(he:f.kids=[]):cK (vE g f):=by
 have noP:∀p∈g.P,p.fam≠f.num:=λp hp e=>by
  obtain⟨f',dZ,e1,c,hc,_⟩:=(x.qV p hp).fam;obtain rfl:=bh x.lO dZ hf (by omega);rw[he] at hc;cases hc
 have noF:∀h∈g.F,h.par≠f.num:=λh hh e=>by
  have:=(x.fam f hf).pos;obtain⟨z,_⟩|⟨_,_,f',dZ,e1,c,hc,_⟩:=(x.fam h hh).par
  omega;obtain rfl:=bh x.lO dZ hf (by omega);rw[he] at hc;cases hc
 refine⟨x.yE,Zz x.lO,x.DT,x.nx,λp hp=>?_,λf' dZ=>?_,λw hw=>⟨(x.t5 w hw).live,(x.t5 w hw).kind,(x.t5 w hw).place,(x.t5 w hw).num,(x.t5 w hw).one⟩⟩;obtain⟨f0,h0,e1,c,hc,e2,e3,e4⟩:=(x.qV p hp).fam;obtain⟨f',dZ,a1,a2,a3,a4,a5⟩:=D0 (f:=f) h0 (by rw[e1];exact noP p hp);refine⟨(x.qV p hp).pos,f',dZ,by omega,c,a5 c hc λn z w=>?_,e2,e3,e4⟩;have:=(x.D3 h0 hc hf n z w).1;omega
 ·obtain⟨f0,h0,n0,e1,e2,e3,e4,e5,e6,_⟩:=Fu dZ;have F0:=x.fam f0 h0;refine⟨by rw[e1];exact F0.pos,by rw[e1];exact F0.lt,by rw[e3];exact F0.cf,by rw[e4];exact F0.fN,e6 F0.A9,λc hc=>?_,?_⟩
  ·obtain⟨hc0,nc⟩:=(e5 c).mp hc;obtain⟨h1,h2,k⟩:=F0.x_ c hc0;refine⟨h1,by rw[e4];exact h2,?_⟩;obtain⟨z,q,hq,z1,z2,z3⟩|⟨z,h,hh,z1,z2,z3⟩:=k
   exact .inl ⟨z,q,hq,z1,by rw[e1];exact z2,z3⟩
   ·have nh:h.num≠f.num:=λw=>by
     obtain rfl:=bh x.lO hh hf w;have:h.par≠0:=by have:=F0.pos;omega
     exact nc this (by omega) (by omega)
    obtain⟨h',q_,y1,y2,y3,_⟩:=D0 (f:=f) hh nh;exact .inr ⟨z,h',q_,by omega,by omega,by omega⟩
  ·obtain⟨z1,z2⟩|⟨z1,z2,h,hh,z3,c,hc,z4,z5,z6⟩:=F0.par
   exact .inl ⟨by omega,by omega⟩;obtain⟨h',q_,y1,y2,y3,_,y4⟩:=D0 (f:=f) hh (by rw[z3];exact noF f0 h0);refine .inr ⟨by omega,by omega,h',q_,by omega,c,y4 c hc λn w v=>?_,by omega,z5,by omega⟩;have:=(x.D3 hh hc hf n w v).2;exact n0 (by omega)
theorem fz.gone(A:fz g b)(x:cK g){f:GF}(hf:f∈g.F):fz (vE g f) {b with fams:=b.fams.filter λh=>h.num !=f.num.toNat}:=by
 refine⟨A.sP,A.mP,SF.filter A.sF _,λq=>?_,A.W,A.nx⟩;rw[aW,A.mF];constructor
 ·rintro ⟨⟨f0,h0,rfl⟩,n⟩;have n':(f0.num.toNat !=f.num.toNat)=true:=n;obtain⟨f',dZ,a1,a2,a3,a4,_⟩:=D0 (f:=f) h0 λz=>by rw[z] at n';simp at n'
  exact⟨f',dZ,by unfold toF;rw[a1,a2,a3,a4]⟩
 rintro ⟨f',dZ,rfl⟩;obtain⟨f0,h0,n0,a1,a2,a3,a4,_⟩:=Fu dZ;refine⟨⟨f0,h0,by unfold toF;rw[a1,a2,a3,a4]⟩,?_⟩;have:=(x.fe h0).1;have:=(x.fe hf).1;show(f'.num.toNat !=f.num.toNat)=true;rw[bne_iff_ne];omega
end
end
section
open Vbdeah (Bank Person Fam Wait)
section
variable{g:G}{b:bB}
theorem pV.gone{F F':List GF}{n:Int}(L:pV F n F'):∀{g:G},g.F=F->cK g->n=0\/∃f∈F,f.num=n/\(f.kids≠[]/\F'=F\/f.kids=[]/\pV (vE g f).F f.par F'):=by
 intro g eg x;cases L with
 |zero=>exact .inl rfl
 | @stop _ f hf h0 hk=>exact .inr ⟨f,hf,rfl,.inl ⟨hk,rfl⟩⟩
 | @top _ f hf h0 hk hp=>
  refine .inr ⟨f,hf,rfl,.inr ⟨hk,?_⟩⟩;unfold vE;dsimp only;rw[if_pos hp,hp,eg];exact .zero
 | @nest _ _ f hf h0 hk hp L2=>
  refine .inr ⟨f,hf,rfl,.inr ⟨hk,?_⟩⟩;unfold vE;dsimp only;rw[if_neg hp,eg];exact L2
theorem Vp:∀(k:Nat) {g:G} {b:bB} {n:Int} {F':List GF},pV g.F n F'->cK g->fz g b->0<=n->n.toNat<=k\/g.F.length<=k->(∀f∈g.F,f.num≠n->f.kids≠[])->cK {g with F:=F'}/\fz {g with F:=F'} (d5 k b n.toNat)/\(∀f∈F',f.kids≠[]):=by
 intro k;induction k with
 |zero=>
  intro g b n F' L x A hn hk ne;obtain rfl|⟨f,hf,rfl,_⟩:=L.gone rfl x
  obtain rfl:=L.at0 rfl;refine⟨x,A,λf hf=>ne f hf ?_⟩;have:=(x.fe hf).1;omega
  ·have:=(x.fe hf).1;obtain z|z:=hk
   omega;have:g.F=[]:=aV.mp (by omega);rw[this] at hf;cases hf
 |succ k ih=>
  intro g b n F' L x A hn hk ne;obtain rfl|⟨f,hf,rfl,⟨hne,rfl⟩|⟨he,L2⟩⟩:=L.gone rfl x
  ·obtain rfl:=L.at0 rfl;have nf:bj GF.num 0 g.F=ay:=by
    cases e:bj GF.num 0 g.F with
    |none=>rfl
    |some f=>
     obtain⟨h1,h2⟩:=bD e;have:=(x.fe h1).1;omega
   have e0:d5 (k+1) b (0:Int).toNat=b:=by
    unfold d5;rw[A.fam x (lJ 0),nf];split<;>rfl
   rw[e0];refine⟨x,A,λf hf=>ne f hf ?_⟩;have:=(x.fe hf).1;omega
  ·have e0:d5 (k+1) b f.num.toNat=b:=by
    unfold d5;rw[if_neg];intro z;exact hne ((A.Nk x hf).mp z)
   rw[e0];refine⟨x,A,λf' dZ=>?_⟩;by_cases e:f'.num=f.num;rw[bh x.lO dZ hf e];exact hne;exact ne f' dZ e
  ·have gx:=x.gone hf he;have ga:=A.gone x hf;have e0:d5 (k+1) b f.num.toNat=d5 k {b with fams:=b.fams.filter λh=>h.num !=f.num.toNat} f.par.toNat:=by
    rw[d5,bw ((A.Nk x hf).mpr he),A.fam x hn,cB x.lO hf rfl];rfl
   rw[e0];have nn:=x.fe hf;have r:=ih (g:=vE g f) L2 gx ga nn.2.1 ?_ ?_;exact r
   ·obtain z|z:=hk
    left;omega
    ·right;have h1:(cF GF.num f.num g.F).length<g.F.length:=by
      unfold cF;exact AR.mpr ⟨f,hf,by simp⟩
     have h2:(vE g f).F.length=(cF GF.num f.num g.F).length:=by
      unfold vE;dsimp only;split;rfl;unfold setAt;rw[ag]
     omega
   intro f' dZ n';obtain⟨f0,h0,n0,e1,_,_,_,_,_,e2⟩:=Fu dZ;rw[e2 (by rw[<-e1];exact n')];exact ne f0 h0 n0
theorem cK.depth(x:cK g):∀(k:Nat) {f:GF},f∈g.F->f.num.toNat<=k->∃d,dF g.F f.num d
 |0,f,hf,h=>by have:=(x.fe hf).1;omega
 |k+1,f,hf,h=>by
  have nn:=x.fe hf;obtain⟨z,_⟩|⟨z1,z2,h',q_,e,_⟩:=(x.fam f hf).par
  exact⟨1,.succ hf nn.1 (.inl z) (by rw[z];exact .zero)⟩;obtain⟨d,hd⟩:=cK.depth x k q_ (by omega);rw[e] at hd;exact⟨d+1,.succ hf nn.1 (.inr ⟨by omega,z2⟩) hd⟩
theorem dF.uniq{F:List GF}(nd:(F.map (·.num)).Nodup){n:Int}{d:Nat}(h:dF F n d):∀{e:Nat},dF F n e->d=e:=by
 induction h with
 |zero=>
  intro e h;generalize hz:(0:Int)=z at h;cases h with
  |zero=>rfl
  |succ _ h0 _ _=>omega
 | @succ f d hf h0 hp _ ih=>
  intro e h;generalize hz:f.num=z at h;cases h with
  |zero=>omega
  | @succ f' e' dZ h0' J4 D'=>
   obtain rfl:=bh nd hf dZ hz;rw[ih D']
theorem cK.up(x:cK g):∀(k:Nat) {f:GF},f∈g.F->f.num.toNat<=k->Up g.F f.num
 |0,f,hf,h=>by have:=(x.fe hf).1;omega
 |k+1,f,hf,h=>by
  have nn:=x.fe hf;obtain⟨z,_⟩|⟨z1,z2,h',q_,e,c,hc,e1,e2,e3⟩:=(x.fam f hf).par
  exact .top hf nn.1 z
  ·have nd:(h'.kids.map (·.cf)).Nodup:=by
    unfold Er;rw[eV];exact(x.fam h' q_).A9.imp λh=>by omega
   exact .nest hf q_ e.symm (by omega) (by omega) (cB nd hc e1) (cK.up x k q_ (by omega))
theorem nB{α:Type}[DecidableEq α]{l m:List α}(hl:l.Nodup)(hm:m.Nodup)(h:∀x,x∈l↔x∈m):l.length=m.length:=by
 have p:l.Perm m:=(My hl hm).mpr h;exact p.length_eq
theorem abR(x:cK g){f h:GF}(hf:f∈g.F)(hh:h∈g.F)(e:toF f=toF h):f=h:=by
 have e1:f.num.toNat=h.num.toNat:=da Fam.num e;have:=(x.fe hf).1;have:=(x.fe hh).1;exact bh x.lO hf hh (by omega)
theorem abS(x:cK g){f h:GP}(hf:f∈g.P)(hh:h∈g.P)(e:Vm f=Vm h):f=h:=by
 have e1:f.id.toNat=h.id.toNat:=da Person.id e;have:=(x.jo hf).1;have:=(x.jo hh).1;exact bh x.yE hf hh (by omega)
theorem pM{α β:Type}{f:α->β}{l:List α}(h:(l.map f).Nodup):l.Nodup:=by
 unfold Er at h⊢;rw[eV] at h;exact h.imp λh e=>h (by rw[e])
theorem fz.Hi(A:fz g b)(x:cK g):b.fams.length=g.F.length:=by
 have e:b.fams.length=(g.F.map toF).length:=nB (SF.nodup A.sF) (kO (pM x.lO) λa ha c hc=>abR x ha hc) λq=>by
  rw[A.mF,aA]
 rw[e,ag]
theorem fz.zQ(A:fz g b)(x:cK g):b.people.length=g.P.length:=by
 have e:b.people.length=(g.P.map Vm).length:=nB (SP.nodup A.sP) (kO (pM x.yE) λa ha c hc=>abS x ha hc) λq=>by
  rw[A.mP,aA]
 rw[e,ag]
theorem dF.le{F:List GF}(nd:(F.map (·.num)).Nodup){n:Int}{d:Nat}(h:dF F n d):d<=(F.filter λf=>decide (f.num<=n)).length:=by
 induction h with
 |zero=>exact cI _
 | @succ f d hf h0 hp _ ih=>
  have Ak:f.par<f.num:=by obtain z|z:=hp<;>omega
  have:(F.filter λh=>decide (h.num<=f.par)).length<(F.filter λh=>decide (h.num<=f.num)).length:=by
   have e:(F.filter λh=>decide (h.num<=f.par))=(F.filter λh=>decide (h.num<=f.num)).filter λh=>decide (h.num<=f.par):=by
    rw[vd];refine d8 λh _=>?_;by_cases z:h.num<=f.par
    ·have:h.num<=f.num:=by omega
     simp[z,this]
    simp[z]
   rw[e];exact AR.mpr ⟨f,aW.mpr ⟨hf,by simp⟩,by simp;omega⟩
  omega
theorem fz.upFrom(A:fz g b)(x:cK g):∀(k:Nat) {n:Int} {d:Nat},dF g.F n d->0<=n->d<=k->(jM b.fams k n.toNat).length=d:=by
 intro k;induction k with
 |zero=>
  intro n d h hn hd;have:d=0:=by omega
  rw[this];rfl
 |succ k ih=>
  intro n d h hn hd;have ef:=A.fam x hn;unfold C2 at ef;rw[jM,ef];cases h with
  |zero=>
   have nf:bj GF.num 0 g.F=ay:=by
    cases e:bj GF.num 0 g.F with
    |none=>rfl
    |some f=>
     obtain⟨h1,h2⟩:=bD e;have:=(x.fe h1).1;omega
   rw[nf];rfl
  | @succ f d hf h0 hp D=>
   rw[cB x.lO hf rfl];show(f.num.toNat::jM b.fams k f.par.toNat).length=d+1;rw[aL,ih D (by have:=x.fe hf;omega) (by omega)]
theorem fz.Vq(A:fz g b)(x:cK g){n:Int}{d:Nat}(h:dF g.F n d)(hn:0<=n):(gT b n.toNat).length=d:=by
 refine A.upFrom x _ h hn ?_;rw[A.Hi x];exact bX (h.le x.lO) (bf _ _)
end
end
section
open Vbdeah (Bank Person Fam Wait)
section
variable{g:G}{b:bB}
theorem cK.perm(x:cK g){P':List GP}(h:∀p,p∈P'↔p∈g.P)(nd:(P'.map (·.id)).Nodup):cK {g with P:=P'}:=by
 refine⟨nd,x.lO,x.DT,x.nx,λp hp=>⟨(x.qV p ((h p).mp hp)).pos,(x.qV p ((h p).mp hp)).fam⟩,λf hf=>?_,λw hw=>?_⟩
 ·have F0:=x.fam f hf;refine⟨F0.pos,F0.lt,F0.cf,F0.fN,F0.A9,λc hc=>?_,F0.par⟩;obtain⟨h1,h2,k⟩:=F0.x_ c hc;refine⟨h1,h2,?_⟩;obtain⟨z,p,hp,z1⟩|z:=k
  exact .inl ⟨z,p,(h p).mpr hp,z1⟩;exact .inr z
 have W0:=x.t5 w hw;obtain⟨p,hp,e⟩:=W0.live;exact⟨⟨p,(h p).mpr hp,e⟩,W0.kind,W0.place,W0.num,W0.one⟩
theorem fz.perm(A:fz g b){P':List GP}(h:∀p,p∈P'↔p∈g.P):fz {g with P:=P'} b:=⟨A.sP,λq=>by rw[A.mP];exact⟨λ⟨p,hp,e⟩=>⟨p,(h p).mpr hp,e⟩,λ⟨p,hp,e⟩=>⟨p,(h p).mp hp,e⟩⟩,A.sF,A.mF,A.W,A.nx⟩
theorem cK.Ui(x:cK g){o d ch:aj}:cK {g with F:=g.F++[⟨g.nx,o,d,0,0,0,ch,[]⟩],nx:=g.nx+1}:=by
 refine⟨x.yE,?_,x.DT,by have:=x.nx;show 0<g.nx+1;omega,λp hp=>?_,λf hf=>?_,λw hw=>⟨(x.t5 w hw).live,(x.t5 w hw).kind,(x.t5 w hw).place,(x.t5 w hw).num,(x.t5 w hw).one⟩⟩
 ·rw[az];exact L2.jT x.lO λm=>by
   obtain⟨f,hf,e⟩:=aA.mp m;have:=(x.fam f hf).lt;have e':f.num=g.nx:=e;omega
 obtain⟨f,hf,r⟩:=(x.qV p hp).fam;exact⟨(x.qV p hp).pos,f,bO _ hf,r⟩
 ·obtain hf|hf:=aP.mp hf
  ·have F0:=x.fam f hf;refine⟨F0.pos,by show f.num<g.nx+1;have:=F0.lt;omega,F0.cf,F0.fN,F0.A9,λc hc=>?_,?_⟩
   ·obtain⟨h1,h2,k⟩:=F0.x_ c hc;refine⟨h1,h2,?_⟩;obtain z|⟨z,h,hh,z1⟩:=k
    exact .inl z;exact .inr ⟨z,h,bO _ hh,z1⟩
   ·obtain z|⟨z1,z2,h,hh,z3⟩:=F0.par
    exact .inl z;exact .inr ⟨z1,z2,h,bO _ hh,z3⟩
  obtain rfl:=ai.mp hf;exact⟨x.nx,by show g.nx<g.nx+1;omega,lJ _,lJ _,gK,λc hc=>(by cases hc),.inl ⟨rfl,rfl⟩⟩
theorem SF.snoc{l:List Fam}(h:SF l){f:Fam}(n:∀q∈l,q.num<f.num):SF (l++[f]):=by
 unfold SF;rw[jN];exact⟨h,qb _ _,λa ha c hc=>by obtain rfl:=ai.mp hc;exact n a ha⟩
theorem fz.Ui(A:fz g b)(x:cK g){o d ch:aj}:fz {g with F:=g.F++[⟨g.nx,o,d,0,0,0,ch,[]⟩],nx:=g.nx+1} {b with fams:=b.fams++[⟨b.next,0,0,0⟩],next:=b.next+1}:=by
 have en:=A.nx;refine⟨A.sP,A.mP,A.sF.snoc λq hq=>?_,λq=>?_,A.W,?_⟩;obtain⟨f,hf,rfl⟩:=(A.mF q).mp hq;have:=(x.fam f hf).lt;have:=(x.fam f hf).pos;show f.num.toNat<b.next;omega
 ·have e:toF ⟨g.nx,o,d,0,0,0,ch,[]⟩=⟨b.next,0,0,0⟩:=by
   show(⟨g.nx.toNat,_,_,_⟩:Fam)=_;have:g.nx.toNat=b.next:=by omega
   rw[this];rfl
  rw[aP,A.mF,ai];constructor
  ·rintro (⟨f,hf,rfl⟩|rfl);exact⟨f,bO _ hf,rfl⟩;exact⟨_,bc _ (ai.mpr rfl),e⟩
  ·rintro ⟨f,hf,rfl⟩;obtain z|z:=aP.mp hf
   exact .inl ⟨f,z,rfl⟩;obtain rfl:=ai.mp z;exact .inr e
 show((b.next+1:Nat):Int)=g.nx+1;omega
theorem CD{f:GF}(F0:Zy g f){tp:aj}{x:Int}:fQ GC.cf ⟨f.fN,tp,0,x⟩ f.kids=f.kids++[⟨f.fN,tp,0,x⟩]:=by
 refine pT λc hc=>?_;have:=(F0.x_ c hc).2.1;show c.cf≠f.fN;omega
theorem iJ{n x:Int}{tp:aj}{f':GF}(X:cK g)(h:f'∈lT n x tp g.F):∃f0∈g.F,f'.num=f0.num/\f'.par=f0.par/\f'.cf=f0.cf/\((f0.num=n/\f'.fN=f0.fN+1/\f'.kids=f0.kids++[⟨f0.fN,tp,0,x⟩])\/(f0.num≠n/\f'=f0)):=by
 obtain⟨f0,h0,e,rfl⟩|⟨h0,e⟩:=e_ h
 exact⟨f0,h0,rfl,rfl,rfl,.inl ⟨e,rfl,CD (X.fam f0 h0)⟩⟩;exact⟨f',h0,rfl,rfl,rfl,.inr ⟨e,rfl⟩⟩
theorem t6{n x:Int}{tp:aj}{f0:GF}(X:cK g)(h:f0∈g.F):∃f'∈lT n x tp g.F,f'.num=f0.num/\f'.par=f0.par/\f'.cf=f0.cf/\(∀c∈f0.kids,c∈f'.kids)/\(f0.num=n->(⟨f0.fN,tp,0,x⟩:GC)∈f'.kids):=by
 refine⟨_,eQ h,?_⟩;by_cases e:f0.num=n
 ·rw[bw e];refine⟨rfl,rfl,rfl,λc hc=>?_,λ_=>?_⟩;show c∈fQ GC.cf ⟨f0.fN,tp,0,x⟩ f0.kids;rw[CD (X.fam f0 h)];exact bO _ hc;show _∈fQ GC.cf ⟨f0.fN,tp,0,x⟩ f0.kids;rw[CD (X.fam f0 h)];exact bc _ (ai.mpr rfl)
 rw[aX e];exact⟨rfl,rfl,rfl,λc hc=>hc,λz=>bM z e⟩
theorem cK.enter(X:cK g){n x:Int}{tp o d:aj}{f:GF}(hf:f∈g.F)(en:f.num=n)(hx:0<x)(nx:bj GP.id x g.P=ay):cK {g with F:=lT n x tp g.F,P:=g.P++[⟨x,o,d,n,f.fN⟩]}:=by
 refine⟨?_,?_,X.DT,X.nx,λp hp=>?_,λf' dZ=>?_,λw hw=>?_⟩
 ·rw[az];exact L2.jT X.yE λm=>by obtain⟨p,hp,e⟩:=aA.mp m;exact fV nx p hp e
 show((setAt n _ g.F).map (·.num)).Nodup;rw[w9 (by intro _;rfl)];exact X.lO
 ·obtain hp|hp:=aP.mp hp
  obtain⟨f0,h0,e1,c,hc,r⟩:=(X.qV p hp).fam;obtain⟨f',dZ,a1,_,_,a4,_⟩:=t6 (n:=n) (x:=x) (tp:=tp) X h0;exact⟨(X.qV p hp).pos,f',dZ,by omega,c,a4 c hc,r⟩;obtain rfl:=ai.mp hp;obtain⟨f',dZ,a1,_,_,_,a5⟩:=t6 (n:=n) (x:=x) (tp:=tp) X hf;exact⟨hx,f',dZ,by show f'.num=n;omega,_,a5 en,rfl,rfl,rfl⟩
 ·obtain⟨f0,h0,e1,e2,e3,k⟩:=iJ X dZ;have F0:=X.fam f0 h0;have zR:∀c∈f0.kids,tU {g with F:=lT n x tp g.F,P:=g.P++[⟨x,o,d,n,f.fN⟩]} f' c:=λc hc=>by
   obtain⟨z,p,hp,z1,z2,z3⟩|⟨z,h,hh,z1,z2,z3⟩:=(F0.x_ c hc).2.2
   exact .inl ⟨z,p,bO _ hp,z1,by omega,z3⟩;obtain⟨h',q_,y1,y2,y3,_⟩:=t6 (n:=n) (x:=x) (tp:=tp) X hh;exact .inr ⟨z,h',q_,by omega,by omega,by omega⟩
  have par':(f'.par=0/\f'.cf=0)\/(0<f'.par/\f'.par<f'.num/\∃h∈lT n x tp g.F,h.num=f'.par/\∃c∈h.kids,c.cf=f'.cf/\c.sort=1/\c.id=f'.num):=by
   obtain⟨z1,z2⟩|⟨z1,z2,h,hh,z3,c,hc,z4,z5,z6⟩:=F0.par
   exact .inl ⟨by omega,by omega⟩;obtain⟨h',q_,y1,y2,y3,y4,_⟩:=t6 (n:=n) (x:=x) (tp:=tp) X hh;exact .inr ⟨by omega,by omega,h',q_,by omega,c,y4 c hc,by omega,z5,by omega⟩
  obtain⟨k1,k2,k3⟩|⟨k1,rfl⟩:=k
  ·have efn:f0=f:=bh X.lO h0 hf (by omega);refine⟨by rw[e1];exact F0.pos,by rw[e1];exact F0.lt,by rw[e3];exact F0.cf,by have:=F0.fN;omega,?_,λc hc=>?_,par'⟩;rw[k3,jN];exact⟨F0.A9,qb _ _,λa ha c hc=>by obtain rfl:=ai.mp hc;exact(F0.x_ a ha).2.1⟩
   ·rw[k3] at hc;obtain hc|hc:=aP.mp hc
    have:=(F0.x_ c hc).1;have:=(F0.x_ c hc).2.1;exact⟨by omega,by omega,zR c hc⟩;obtain rfl:=ai.mp hc;refine⟨F0.fN,by show f0.fN<f'.fN;omega,.inl ⟨rfl,_,bc _ (ai.mpr rfl),rfl,by show n=f'.num;omega,by show f.fN=f0.fN;rw[efn]⟩⟩
  exact⟨F0.pos,F0.lt,F0.cf,F0.fN,F0.A9,λc hc=>⟨(F0.x_ c hc).1,(F0.x_ c hc).2.1,zR c hc⟩,par'⟩
 have W0:=X.t5 w hw;obtain⟨p,hp,e⟩:=W0.live;exact⟨⟨p,bO _ hp,e⟩,W0.kind,W0.place,W0.num,W0.one⟩
theorem fz.enter(A:fz g b)(X:cK g){n x:Int}{tp o d:aj}{f:GF}(hf:f∈g.F)(en:f.num=n)(hx:0<x)(nx:bj GP.id x g.P=ay):fz {g with F:=lT n x tp g.F,P:=g.P++[⟨x,o,d,n,f.fN⟩]} (dq b n.toNat x.toNat):=by
 have hn:0<=n:=by have:=(X.fe hf).1;omega
 have e0:dq b n.toNat x.toNat={b with people:=er ⟨x.toNat,n.toNat,f.fN.toNat⟩ b.people,fams:=b.fams.map λh=>if h.num=n.toNat then{h with next:=h.next+1} else h}:=by
  unfold dq;rw[A.fam X hn,cB X.lO hf en];rfl
 rw[e0];refine⟨Im A.sP λq hq=>?_,λq=>?_,?_,λq=>?_,A.W,A.nx⟩;obtain⟨p,hp,rfl⟩:=(A.mP q).mp hq;have h1:=fV nx p hp;have:=(X.jo hp).1;show p.id.toNat≠x.toNat;omega
 ·rw[w8,A.mP];show _↔∃p∈g.P++[⟨x,o,d,n,f.fN⟩],Vm p=q;constructor
  ·rintro (rfl|⟨p,hp,rfl⟩);exact⟨_,bc _ (ai.mpr rfl),rfl⟩;exact⟨p,bO _ hp,rfl⟩
  ·rintro ⟨p,hp,rfl⟩;obtain z|z:=aP.mp hp
   exact .inr ⟨p,z,rfl⟩;obtain rfl:=ai.mp z;exact .inl rfl
 ·show(b.fams.map _).Pairwise _;rw[eV];refine A.sF.imp λ{a c} h=>?_;have e1:∀h:Fam,(if h.num=n.toNat then{h with next:=h.next+1} else h).num=h.num:=λh=>by split<;>rfl
  rw[e1,e1];exact h
 ·show q∈b.fams.map _↔∃f∈lT n x tp g.F,toF f=q;rw[aA];constructor
  ·rintro ⟨q0,Rk,rfl⟩;obtain⟨f0,h0,rfl⟩:=(A.mF q0).mp Rk;refine⟨_,eQ h0,?_⟩;have nn:=X.fe h0;by_cases e:f0.num=n
   ·rw[bw e,bw (show(toF f0).num=n.toNat by show f0.num.toNat=_;rw[e])];show(⟨_,_,_,(f0.fN+1).toNat⟩:Fam)=⟨_,_,_,f0.fN.toNat+1⟩;have:(f0.fN+1).toNat=f0.fN.toNat+1:=by omega
    rw[this];rfl
   rw[aX e,aX (show ¬(toF f0).num=n.toNat by show ¬f0.num.toNat=n.toNat;omega)]
  ·rintro ⟨f',dZ,rfl⟩;obtain⟨f0,h0,e⟩:=aA.mp dZ;subst e;refine⟨toF f0,(A.mF _).mpr ⟨f0,h0,rfl⟩,?_⟩;have nn:=X.fe h0;by_cases e:f0.num=n
   ·rw[bw e,bw (show(toF f0).num=n.toNat by show f0.num.toNat=_;rw[e])];show(⟨_,_,_,f0.fN.toNat+1⟩:Fam)=⟨_,_,_,(f0.fN+1).toNat⟩;have:(f0.fN+1).toNat=f0.fN.toNat+1:=by omega
    rw[this];rfl
   rw[aX e,aX (show ¬(toF f0).num=n.toNat by show ¬f0.num.toNat=n.toNat;omega)]
end
end
section
open Vbdeah (Bank Person Fam Wait)
theorem e8{α:Type}{key:α->Int}{a b:α}{l:List α}:b∈fQ key a l↔b=a\/(b∈l/\key b≠key a):=by
 refine⟨Ax,λh=>?_⟩;unfold fQ;split
 ·rename_i c;obtain rfl|⟨h,n⟩:=h
  obtain⟨e,he,k⟩:=gu.mp c;exact aA.mpr ⟨e,he,bw (aY k)⟩;exact aA.mpr ⟨b,h,aX n⟩
 ·obtain rfl|⟨h,n⟩:=h
  exact bc _ (ai.mpr rfl);exact bO _ h
theorem Nm{c c0:GC}{l:List GC}(h:l.Pairwise λa c=>a.cf<c.cf)(h0:c0∈l)(e:c0.cf=c.cf):(fQ GC.cf c l).Pairwise λa c=>a.cf<c.cf:=by
 have k:(fQ GC.cf c l).map GC.cf=l.map GC.cf:=by
  rw[Nf,bw (gu.mpr ⟨c0,h0,bG e⟩)]
 have h1:(l.map GC.cf).Pairwise (·<·):=by rw[eV];exact h
 rw[<-k,eV] at h1;exact h1
section
variable{g:G}{b:bB}
theorem pX{n:Int}{c:GC}{F:List GF}{f':GF}(h:f'∈putKid n c F):∃f0∈F,f'.num=f0.num/\f'.par=f0.par/\f'.cf=f0.cf/\f'.fN=f0.fN/\((f0.num=n/\f'.kids=fQ GC.cf c f0.kids)\/(f0.num≠n/\f'=f0)):=by
 obtain⟨f0,h0,e,rfl⟩|⟨h0,e⟩:=e_ h
 exact⟨f0,h0,rfl,rfl,rfl,rfl,.inl ⟨e,rfl⟩⟩;exact⟨f',h0,rfl,rfl,rfl,rfl,.inr ⟨e,rfl⟩⟩
theorem pN{n:Int}{c:GC}{F:List GF}{f0:GF}(h:f0∈F):∃f'∈putKid n c F,f'.num=f0.num/\f'.par=f0.par/\f'.cf=f0.cf/\f'.fN=f0.fN/\(∀c0∈f0.kids,(f0.num=n->c0.cf≠c.cf)->c0∈f'.kids)/\(f0.num=n->c∈f'.kids):=by
 refine⟨_,eQ h,?_⟩;by_cases e:f0.num=n;rw[bw e];exact⟨rfl,rfl,rfl,rfl,λc0 h0 k=>e8.mpr (.inr ⟨h0,k e⟩),λ_=>e8.mpr (.inl rfl)⟩;rw[aX e];exact⟨rfl,rfl,rfl,rfl,λc0 h0 _=>h0,λz=>bM z e⟩
theorem Gf{n:Int}{c:GC}{F:List GF}:(putKid n c F).map (·.num)=F.map (·.num):=w9 (by intro _;rfl)
def zS(g:G)(p:GP)(o d ch tp:aj):G:={g with P:=cF GP.id p.id g.P,F:=putKid p.fam ⟨p.cf,tp,1,g.nx⟩ (g.F++[⟨g.nx,o,d,p.fam,p.cf,0,ch,[]⟩]),nx:=g.nx+1}
theorem cK.found(x:cK g){p:GP}(hp:p∈g.P)(hw:bj GW.id p.id g.W=ay){o d ch tp:aj}:cK (zS g p o d ch tp):=by
 obtain⟨fo,Vr,Hj,cx,hcx,ex1,ex2,ex3⟩:=(x.qV p hp).fam;have Vs:=x.jo hp;have nnF:=x.fam fo Vr;have hold:∀f0∈g.F,∃f'∈(zS g p o d ch tp).F,f'.num=f0.num/\f'.par=f0.par/\f'.cf=f0.cf/\f'.fN=f0.fN/\(∀c0∈f0.kids,(f0.num=p.fam->c0.cf≠p.cf)->c0∈f'.kids)/\(f0.num=p.fam->(⟨p.cf,tp,1,g.nx⟩:GC)∈f'.kids):=λf0 h0=>pN (c:=⟨p.cf,tp,1,g.nx⟩) (bO _ h0);have ajv:∃f'∈(zS g p o d ch tp).F,f'.num=g.nx/\f'.par=p.fam/\f'.cf=p.cf:=by
  obtain⟨f',dZ,a1,a2,a3,_⟩:=pN (n:=p.fam) (c:=⟨p.cf,tp,1,g.nx⟩) (F:=g.F++[(⟨g.nx,o,d,p.fam,p.cf,0,ch,[]⟩:GF)]) (bc _ (ai.mpr rfl));exact⟨f',dZ,a1,a2,a3⟩
 refine⟨jJ _ x.yE,?_,x.DT,by have:=x.nx;show 0<g.nx+1;omega,λq hq=>?_,λf hf=>?_,λw Ip=>?_⟩
 ·show((putKid _ _ _).map (·.num)).Nodup;rw[Gf,az];exact L2.jT x.lO λm=>by
   obtain⟨f,hf,e⟩:=aA.mp m;have:=(x.fam f hf).lt;have e':f.num=g.nx:=e;omega
 obtain⟨Rk,nq⟩:=cw.mp hq;obtain⟨f0,h0,e1,c,hc,e2,e3,e4⟩:=(x.qV q Rk).fam;obtain⟨f',dZ,a1,a2,a3,a4,a5,_⟩:=hold f0 h0;refine⟨(x.qV q Rk).pos,f',dZ,by omega,c,a5 c hc λz v=>?_,e2,e3,e4⟩;have:=(x.DZ h0 hc hp z.symm v.symm).2;exact nq (by omega)
 ·obtain⟨f0,h0,e1,e2,e3,e4,k⟩:=pX hf;obtain h0|h0:=aP.mp h0
  ·have F0:=x.fam f0 h0;have zR:∀c∈f0.kids,(f0.num=p.fam->c.cf≠p.cf)->0<=c.cf/\c.cf<f.fN/\tU (zS g p o d ch tp) f c:=λc hc nc=>by
    obtain⟨h1,h2,kk⟩:=F0.x_ c hc;refine⟨h1,by omega,?_⟩;obtain⟨z,q,hq,z1,z2,z3⟩|⟨z,h,hh,z1,z2,z3⟩:=kk
    refine .inl ⟨z,q,cw.mpr ⟨hq,λv=>?_⟩,z1,by omega,z3⟩;obtain rfl:=bh x.yE hq hp v;exact nc z2.symm z3.symm;obtain⟨h',q_,y1,y2,y3,_⟩:=hold h hh;exact .inr ⟨z,h',q_,by omega,by omega,by omega⟩
   refine⟨by rw[e1];exact F0.pos,by have:=F0.lt;show f.num<g.nx+1;omega,by rw[e3];exact F0.cf,by rw[e4];exact F0.fN,?_,λc hc=>?_,?_⟩
   ·obtain⟨k1,k2⟩|⟨k1,rfl⟩:=k
    obtain rfl:=bh x.lO h0 Vr (by omega);rw[k2];exact Nm F0.A9 hcx (by show cx.cf=p.cf;omega);exact F0.A9
   ·obtain⟨k1,k2⟩|⟨k1,rfl⟩:=k
    ·rw[k2] at hc;obtain rfl|⟨hc,nc⟩:=e8.mp hc
     obtain rfl:=bh x.lO h0 Vr (by omega);have:=(F0.x_ cx hcx).2.1;obtain⟨h',q_,y1,y2,y3⟩:=ajv;exact⟨Vs.2.2,by show p.cf<f.fN;omega,.inr ⟨rfl,h',q_,y1,by omega,y3⟩⟩;exact zR c hc λ_=>nc
    exact zR c hc λz=>bM z k1
   ·obtain⟨z1,z2⟩|⟨z1,z2,h,hh,z3,c,hc,z4,z5,z6⟩:=F0.par
    exact .inl ⟨by omega,by omega⟩;obtain⟨h',q_,y1,y2,y3,_,y4,_⟩:=hold h hh;refine .inr ⟨by omega,by omega,h',q_,by omega,c,y4 c hc λv u=>?_,by omega,z5,by omega⟩;have:=(x.DZ hh hc hp v.symm u.symm).1;omega
  ·obtain rfl:=ai.mp h0;have flt:=nnF.lt;have nk:f.kids=[]:=by
    obtain⟨k1,k2⟩|⟨k1,rfl⟩:=k
    have k1':g.nx=p.fam:=k1;omega;rfl
   have Y6:f.num=g.nx:=e1;have e2':f.par=p.fam:=e2;have e3':f.cf=p.cf:=e3;have e4':f.fN=0:=e4;have:=x.nx;refine⟨by omega,by show f.num<g.nx+1;omega,by omega,by omega,by rw[nk];exact gK,λc hc=>(by rw[nk] at hc;cases hc),?_⟩;obtain⟨h',q_,y1,y2,y3,_,_,y5⟩:=hold fo Vr;exact .inr ⟨by omega,by omega,h',q_,by omega,_,y5 Hj,by show p.cf=f.cf;omega,rfl,by show g.nx=f.num;omega⟩
 have W0:=x.t5 w Ip;obtain⟨q,hq,e⟩:=W0.live;exact⟨⟨q,cw.mpr ⟨hq,λz=>fV hw w Ip (by omega)⟩,e⟩,W0.kind,W0.place,W0.num,W0.one⟩
theorem fz.noP(A:fz g b)(x:cK g){p:GP}(hp:p∈g.P):SP (bp p.id.toNat b.people)/\∀q,q∈bp p.id.toNat b.people↔∃p'∈cF GP.id p.id g.P,Vm p'=q:=by
 have e:=A.out x (cB x.yE hp rfl);exact⟨e.sP,e.mP⟩
theorem Uj{n:Int}{c:GC}{F:List GF}(q:Fam):(∃f∈putKid n c F,toF f=q)↔∃f∈F,toF f=q:=by
 constructor;rintro ⟨f,hf,rfl⟩;obtain⟨f0,h0,a1,a2,a3,a4,_⟩:=pX hf;exact⟨f0,h0,by unfold toF;rw[a1,a2,a3,a4]⟩;rintro ⟨f,hf,rfl⟩;obtain⟨f',h',a1,a2,a3,a4,_⟩:=pN (n:=n) (c:=c) hf;exact⟨f',h',by unfold toF;rw[a1,a2,a3,a4]⟩
theorem fz.found(A:fz g b)(x:cK g){p:GP}(hp:p∈g.P){o d ch tp:aj}:fz (zS g p o d ch tp) {b with people:=bp p.id.toNat b.people,fams:=b.fams++[⟨b.next,p.fam.toNat,p.cf.toNat,0⟩],next:=b.next+1}:=by
 have en:=A.nx;obtain⟨s1,m1⟩:=A.noP x hp;refine⟨s1,m1,A.sF.snoc λq hq=>?_,λq=>?_,A.W,?_⟩;obtain⟨f,hf,rfl⟩:=(A.mF q).mp hq;have:=(x.fam f hf).lt;have:=(x.fam f hf).pos;show f.num.toNat<b.next;omega
 ·have e:toF ⟨g.nx,o,d,p.fam,p.cf,0,ch,[]⟩=⟨b.next,p.fam.toNat,p.cf.toNat,0⟩:=by
   show(⟨g.nx.toNat,_,_,_⟩:Fam)=_;have:g.nx.toNat=b.next:=by omega
   rw[this];rfl
  show q∈b.fams++_↔∃f∈putKid _ _ _,toF f=q;rw[Uj,aP,A.mF,ai];constructor
  ·rintro (⟨f,hf,rfl⟩|rfl);exact⟨f,bO _ hf,rfl⟩;exact⟨_,bc _ (ai.mpr rfl),e⟩
  ·rintro ⟨f,hf,rfl⟩;obtain z|z:=aP.mp hf
   exact .inl ⟨f,z,rfl⟩;obtain rfl:=ai.mp z;exact .inr e
 show((b.next+1:Nat):Int)=g.nx+1;omega
def zT(g:G)(p:GP)(f:GF)(o d tp:aj):G:={g with P:=fQ GP.id ⟨p.id,o,d,f.par,f.cf⟩ g.P,F:=cF GF.num f.num (putKid f.par ⟨f.cf,tp,0,p.id⟩ g.F)}
theorem cK.close(x:cK g){p:GP}{f:GF}(hp:p∈g.P)(hf:f∈g.F)(ef:f.num=p.fam)(h0:f.par≠0)(h1:f.kids.length=1){o d tp:aj}:cK (zT g p f o d tp):=by
 obtain⟨fo,Vr,Hj,cx,hcx,ex1,ex2,ex3⟩:=(x.qV p hp).fam;obtain rfl:=bh x.lO Vr hf (by omega);have only:∀c∈fo.kids,c=cx:=λc hc=>by
  obtain⟨z,hz⟩:=Sl.mp h1;rw[hz] at hc hcx;rw[ai.mp hc,ai.mp hcx]
 have nnf:=x.fe hf;have F1:=x.fam fo hf;obtain⟨pa,SG,epa,cp,hcp,ep1,ep2,ep3⟩:∃h∈g.F,h.num=fo.par/\∃c∈h.kids,c.cf=fo.cf/\c.sort=1/\c.id=fo.num:=by
  obtain⟨z,_⟩|⟨_,_,z⟩:=F1.par
  exact bM z h0;exact z
 have noF:∀h∈g.F,h.par≠fo.num:=λh hh e=>by
  obtain⟨z,_⟩|⟨_,_,f',dZ,e1,c,hc,_,e3,_⟩:=(x.fam h hh).par
  omega;obtain rfl:=bh x.lO dZ hf (by omega);rw[only c hc] at e3;omega
 have hold:∀f0∈g.F,f0.num≠fo.num->∃f'∈(zT g p fo o d tp).F,f'.num=f0.num/\f'.par=f0.par/\f'.cf=f0.cf/\f'.fN=f0.fN/\(∀c0∈f0.kids,(f0.num=fo.par->c0.cf≠fo.cf)->c0∈f'.kids)/\(f0.num=fo.par->(⟨fo.cf,tp,0,p.id⟩:GC)∈f'.kids):=λf0 uZ nf=>by
  obtain⟨f',dZ,a1,r⟩:=pN (n:=fo.par) (c:=⟨fo.cf,tp,0,p.id⟩) uZ;exact⟨f',cw.mpr ⟨dZ,by omega⟩,a1,r⟩
 refine⟨zK x.yE,?_,x.DT,x.nx,λq hq=>?_,λf' dZ=>?_,λw hw=>?_⟩;refine jJ _ ?_;rw[Gf];exact x.lO
 ·obtain rfl|⟨Rk,nq⟩:=e8.mp hq
  obtain⟨f',dZ,a1,_,_,_,_,a6⟩:=hold pa SG (by omega);exact⟨(x.jo hp).1,f',dZ,by show f'.num=fo.par;omega,_,a6 epa,rfl,rfl,rfl⟩
  ·have nq':q.id≠p.id:=nq;obtain⟨f0,uZ,e1,c,hc,e2,e3,e4⟩:=(x.qV q Rk).fam;have nf0:f0.num≠fo.num:=λz=>by
    obtain rfl:=bh x.lO uZ hf z;have:=only c hc;subst this;omega
   obtain⟨f',dZ,a1,a2,a3,a4,a5,_⟩:=hold f0 uZ nf0;refine⟨(x.qV q Rk).pos,f',dZ,by omega,c,a5 c hc λz v=>?_,e2,e3,e4⟩;have:=(x.D3 uZ hc hf h0 z v).1;omega
 ·obtain⟨aei,nf'⟩:=cw.mp dZ;obtain⟨f0,uZ,e1,e2,e3,e4,k⟩:=pX aei;have nf0:f0.num≠fo.num:=by omega
  have F0:=x.fam f0 uZ;have zR:∀c∈f0.kids,(f0.num=fo.par->c.cf≠fo.cf)->0<=c.cf/\c.cf<f'.fN/\tU (zT g p fo o d tp) f' c:=λc hc nc=>by
   obtain⟨h1,h2,kk⟩:=F0.x_ c hc;refine⟨h1,by omega,?_⟩;obtain⟨z,q,hq,z1,z2,z3⟩|⟨z,h,hh,z1,z2,z3⟩:=kk
   refine .inl ⟨z,q,e8.mpr (.inr ⟨hq,λv=>?_⟩),z1,by omega,z3⟩;obtain rfl:=bh x.yE hq hp v;omega
   ·have nh:h.num≠fo.num:=λv=>by
     obtain rfl:=bh x.lO hh hf v;exact nc (by omega) (by omega)
    obtain⟨h',q_,y1,y2,y3,_⟩:=hold h hh nh;exact .inr ⟨z,h',q_,by omega,by omega,by omega⟩
  refine⟨by rw[e1];exact F0.pos,by rw[e1];exact F0.lt,by rw[e3];exact F0.cf,by rw[e4];exact F0.fN,?_,λc hc=>?_,?_⟩
  ·obtain⟨k1,k2⟩|⟨k1,rfl⟩:=k
   obtain rfl:=bh x.lO uZ SG (by omega);rw[k2];exact Nm F0.A9 hcp ep1;exact F0.A9
  ·obtain⟨k1,k2⟩|⟨k1,rfl⟩:=k
   ·rw[k2] at hc;obtain rfl|⟨hc,nc⟩:=e8.mp hc
    obtain rfl:=bh x.lO uZ SG (by omega);have:=(F0.x_ cp hcp).2.1;exact⟨nnf.2.2.1,by show fo.cf<f'.fN;omega,.inl ⟨rfl,_,e8.mpr (.inl rfl),rfl,by show fo.par=f'.num;omega,rfl⟩⟩;exact zR c hc λ_=>nc
   exact zR c hc λz=>bM z k1
  ·obtain⟨z1,z2⟩|⟨z1,z2,h,hh,z3,c,hc,z4,z5,z6⟩:=F0.par
   exact .inl ⟨by omega,by omega⟩;obtain⟨h',q_,y1,y2,y3,_,y4,_⟩:=hold h hh (by have:=noF f0 uZ;omega);refine .inr ⟨by omega,by omega,h',q_,by omega,c,y4 c hc λv u=>?_,by omega,z5,by omega⟩;have:=(x.D3 hh hc hf h0 v u).2;omega
 ·have W0:=x.t5 w hw;obtain⟨q,hq,e⟩:=W0.live;refine⟨?_,W0.kind,W0.place,W0.num,W0.one⟩;by_cases z:q.id=p.id;exact⟨_,e8.mpr (.inl rfl),by show p.id=w.id;omega⟩;exact⟨q,e8.mpr (.inr ⟨hq,z⟩),e⟩
theorem fz.close(A:fz g b)(x:cK g){p:GP}{f:GF}(hp:p∈g.P)(hf:f∈g.F){o d tp:aj}:fz (zT g p f o d tp) {b with people:=er ⟨p.id.toNat,f.par.toNat,f.cf.toNat⟩ (bp p.id.toNat b.people),fams:=b.fams.filter λh=>h.num !=f.num.toNat}:=by
 obtain⟨s1,m1⟩:=A.noP x hp;refine⟨Im s1 λq hq=>?_,λq=>?_,SF.filter A.sF _,λq=>?_,A.W,A.nx⟩;have:=(aW.mp hq).2;show q.id≠p.id.toNat;exact bne_iff_ne.mp this
 ·rw[w8,m1];show _↔∃p'∈fQ GP.id ⟨p.id,o,d,f.par,f.cf⟩ g.P,Vm p'=q;constructor
  ·rintro (rfl|⟨p',J4,rfl⟩);exact⟨_,e8.mpr (.inl rfl),rfl⟩;obtain⟨h1,h2⟩:=cw.mp J4;exact⟨p',e8.mpr (.inr ⟨h1,h2⟩),rfl⟩
  ·rintro ⟨p',J4,rfl⟩;obtain rfl|⟨h1,h2⟩:=e8.mp J4
   exact .inl rfl;exact .inr ⟨p',cw.mpr ⟨h1,h2⟩,rfl⟩
 ·rw[aW,A.mF];show _↔∃f'∈cF GF.num f.num (putKid _ _ _),toF f'=q;constructor;rintro ⟨⟨f0,h0,rfl⟩,n⟩;have n':(f0.num.toNat !=f.num.toNat)=true:=n;obtain⟨f',dZ,a1,a2,a3,a4,_⟩:=pN (n:=f.par) (c:=⟨f.cf,tp,0,p.id⟩) h0;refine⟨f',cw.mpr ⟨dZ,λz=>?_⟩,by unfold toF;rw[a1,a2,a3,a4]⟩;rw[<-a1,z] at n';simp at n';rintro ⟨f',dZ,rfl⟩;obtain⟨h1,h2⟩:=cw.mp dZ;obtain⟨f0,h0,a1,a2,a3,a4,_⟩:=pX h1;refine⟨⟨f0,h0,by unfold toF;rw[a1,a2,a3,a4]⟩,?_⟩;have:=(x.fe h0).1;have:=(x.fe hf).1;show(f'.num.toNat !=f.num.toNat)=true;rw[bne_iff_ne];omega
end
end
section
open Vbdeah (Bank Person Fam Wait)
theorem jK{α:Type}[DecidableEq α]:∀{l m:List α},l.Nodup->(∀x∈l,x∈m)->l.length<=m.length
 |[],m,_,_=>cI _
 |a::r,m,nd,h=>by
  obtain⟨h1,h2⟩:=cU.mp nd;have ih:=jK (l:=r) (m:=m.erase a) h2 λx hx=>by
   have hm:=h x (aC _ hx);exact(List.mem_erase_of_ne (λe:x=a=>h1 (by rw[<-e];exact hx))).mpr hm
  have hl:=List.length_erase_of_mem (h a (aB ..));have:0<m.length:=yp (h a (aB ..));rw[aL];omega
theorem OL{α:Type}[DecidableEq α]{l m:List α}(nd:l.Nodup)(h:∀x∈l,x∈m)(e:m.length<=l.length):∀x∈m,x∈l:=λx hx=>by
 by_cases z:x∈l;exact z
 ·have:=jK (l:=x::l) (m:=m) (cU.mpr ⟨z,nd⟩) λy hy=>by
   obtain rfl|hy:=aF.mp hy
   exact hx;exact h y hy
  rw[aL] at this;omega
theorem nE:∀(ns:List Int) (z:Int),z∈qd ns↔z∈ns:=by
 have key:∀(ns acc:List Int) (z:Int),z∈ns.foldl lQ acc↔z∈ns\/z∈acc:=by
  intro ns;induction ns with
  |nil=>intro acc z;simp
  |cons a r ih=>
   intro acc z;rw[cV,ih];unfold lQ;split
   ·rename_i c;rw[aF];constructor
    ·rintro (h|h);exact .inl (.inr h);exact .inr h
    ·rintro ((h|h)|h);obtain⟨q,hq,e⟩:=gu.mp c;have e':q=a:=eq_of_beq e;subst h e';exact .inr hq;exact .inl h;exact .inr h
   ·rw[aP,ai,aF];constructor
    ·rintro (h|h|h);exact .inl (.inr h);exact .inr h;exact .inl (.inl h)
    ·rintro ((h|h)|h);exact .inr (.inr h);exact .inl h;exact .inr (.inl h)
 intro ns z;unfold qd;rw[key];simp
theorem sO(ns:List Int):(qd ns).Nodup:=by
 have key:∀(ns acc:List Int),acc.Nodup->(ns.foldl lQ acc).Nodup:=by
  intro ns;induction ns with
  |nil=>intro acc h;exact h
  |cons a r ih=>
   intro acc h;rw[cV];refine ih _ ?_;unfold lQ;split;exact h;rename_i c;exact L2.jT h λm=>c (gu.mpr ⟨a,m,by simp⟩)
 exact key ns [] (by simp)
theorem Xf{ns:List Int}:(qd ns).length=1↔∃z∈ns,∀y∈ns,y=z:=by
 constructor;intro h;obtain⟨z,hz⟩:=Sl.mp h;refine⟨z,(nE ns z).mp (by rw[hz];simp),λy hy=>?_⟩;have:=(nE ns y).mpr hy;rw[hz] at this;exact ai.mp this
 ·rintro ⟨z,hz,h⟩;have h1:0<(qd ns).length:=yp ((nE ns z).mpr hz);have h2:(qd ns).length<=[z].length:=jK (sO ns) λy hy=>by rw[h y ((nE ns y).mp hy)];simp
  have:[z].length=1:=rfl;omega
theorem Kc{p:dN}:∀(l:List dN),(eA p l).length=l.length+1
 |[]=>rfl
 |a::r=>by
  unfold eA;split;rfl;rw[aL,Kc r];rfl
theorem Gg:∀(l acc:List dN),(l.foldl (λl k=>eA k l) acc).length=l.length+acc.length
 |[],acc=>by simp
 |a::r,acc=>by rw[cV,Gg r,Kc,aL];omega
theorem zU{b:bB}{n:Nat}:(d4 b n).length=(cC b n).length+(cH b n).length:=by
 unfold d4;rw[Gg,aK,ag,ag];rfl
section
variable{g:G}{b:bB}
theorem cK.Xg(x:cK g){f:GF}(hf:f∈g.F){c:GC}(hc:c∈f.kids)(h0:c.sort=0):∃p∈g.P,p.id=c.id/\p.fam=f.num/\p.cf=c.cf:=by
 obtain⟨_,z⟩|⟨z,_⟩:=((x.fam f hf).x_ c hc).2.2
 exact z;omega
theorem cK.Kd(x:cK g){f:GF}(hf:f∈g.F){p:GP}(hp:p∈g.P):p.fam=f.num↔∃c∈f.kids,c.sort=0/\c.id=p.id:=by
 constructor;intro e;obtain⟨f',dZ,e1,c,hc,e2,e3,e4⟩:=(x.qV p hp).fam;obtain rfl:=bh x.lO dZ hf (by omega);exact⟨c,hc,e3,e4⟩;rintro ⟨c,hc,h0,e⟩;obtain⟨q,hq,e1,e2,e3⟩:=x.Xg hf hc h0;obtain rfl:=bh x.yE hq hp (by omega);exact e2
theorem cK.aej(x:cK g){f:GF}(hf:f∈g.F)(h:∀c∈f.kids,c.sort=0):(f.kids.map (·.id)).Nodup:=by
 have nds:(f.kids.map (·.cf)).Nodup:=by
  unfold Er;rw[eV];exact(x.fam f hf).A9.imp λh=>by omega
 refine kO (pM nds) λa ha c hc e=>?_;obtain⟨p,hp,e1,e2,e3⟩:=x.Xg hf ha (h a ha);obtain⟨q,hq,y1,y2,y3⟩:=x.Xg hf hc (h c hc);obtain rfl:=bh x.yE hp hq (by have e':a.id=c.id:=e;omega);exact Io (x.fam f hf).A9 ha hc (by omega)
theorem cK.Uk(x:cK g){w:GW}(hw:w∈g.W):∃p∈g.P,p.id=w.id/\jQ g w.id=p.fam:=by
 obtain⟨p,hp,e⟩:=(x.t5 w hw).live;exact⟨p,hp,e,lX (cB x.yE hp e)⟩
def w4(g:G)(n:Int)(w:GW):Bool:=decide (w.kind=4)&&decide (jQ g w.id=n)
theorem fz.ws(A:fz g b)(x:cK g){f:GF}(hf:f∈g.F):(b.waits.filter λw=>w.kind==4&&bT b w.id==f.num.toNat)=(g.W.filter (w4 g f.num)).map ig:=by
 rw[A.W,hU];congr 1;refine d8 λw hw=>?_;have k:=(x.t5 w hw).kind;have nw:=x.rJ hw;obtain⟨p,hp,e1,e2⟩:=x.Uk hw;have Vs:=x.jo hp;have nnf:=x.fe hf;show((w.kind.toNat==4)&&(bT b w.id.toNat==f.num.toNat))=w4 g f.num w;rw[A.famOf x (by omega)];unfold w4;rw[cT,aH,aH,beq_iff_eq,beq_iff_eq,decide_eq_true_iff,decide_eq_true_iff,e2];constructor;rintro ⟨h1,h2⟩;exact⟨by omega,by omega⟩;rintro ⟨h1,h2⟩;exact⟨by omega,by omega⟩
theorem eT{f:GF}:dG g f=true↔(∀c∈f.kids,c.sort=0/\∃w,bj GW.id c.id g.W=ae w/\w.kind=4)/\∃c∈f.kids,∀d∈f.kids,jr g d=jr g c:=by
 unfold dG;rw[aH,cz,decide_eq_true_iff,Xf];constructor
 ·rintro ⟨h1,z,hz,h2⟩;refine⟨λc hc=>?_,?_⟩
  ·have:=h1 c hc;unfold jE at this;rw[aH,decide_eq_true_iff] at this;cases e:bj GW.id c.id g.W with
   |none=>rw[e] at this;exact bM this.2 (by decide)
   |some w=>rw[e] at this;exact⟨this.1,w,rfl,aY this.2⟩
  obtain⟨c,hc,rfl⟩:=aA.mp hz;exact⟨c,hc,λd hd=>h2 _ (aA.mpr ⟨d,hd,rfl⟩)⟩
 ·rintro ⟨h1,c,hc,h2⟩;refine⟨λc hc=>?_,jr g c,aA.mpr ⟨c,hc,rfl⟩,λy hy=>?_⟩;obtain⟨h0,w,e,k⟩:=h1 c hc;unfold jE;rw[e,h0];simp[k];obtain⟨d,hd,rfl⟩:=aA.mp hy;exact h2 d hd
theorem ZA(x:cK g){f:GF}(hf:f∈g.F){w:GW}(hw:w∈g.W):w4 g f.num w=true↔w.kind=4/\∃c∈f.kids,c.sort=0/\c.id=w.id:=by
 obtain⟨p,hp,e1,e2⟩:=x.Uk hw;unfold w4;rw[aH,decide_eq_true_iff,decide_eq_true_iff,e2,x.Kd hf hp,e1]
theorem fz.mustered(A:fz g b)(x:cK g){f:GF}(hf:f∈g.F):fB b f.num.toNat=if dG g f=true then(m8 g f.num g.W).map fY else[]:=by
 have ews:=A.ws x hf;have ek:=A.kids x hf;have lk:f.kids.length=(cC b f.num.toNat).length+(cH b f.num.toNat).length:=by
  have:=da gE ek;rw[zU,ag] at this;omega
 have agb:(cH b f.num.toNat).isEmpty=true↔∀c∈f.kids,c.sort=0:=by
  rw[ip];constructor
  ·intro h c hc;obtain⟨z,_⟩|⟨_,k,hk,_,z2,_⟩:=((x.fam f hf).x_ c hc).2.2
   exact z;have:toF k∈cH b f.num.toNat:=sN.mpr ⟨(A.mF _).mpr ⟨k,hk,rfl⟩,by show k.par.toNat=_;rw[z2]⟩;rw[h] at this;cases this
  intro h;refine sV.mpr λq hq=>?_;obtain⟨h1,h2⟩:=sN.mp hq;have:(q.serial,true,q.num)∈d4 b f.num.toNat:=DY.mpr (.inr ⟨q,h1,h2,rfl⟩);rw[ek] at this;obtain⟨c,hc,e⟩:=aA.mp this;have e2:decide (c.sort=1)=true:=da (λk:dN=>k.2.1) e;have:=aY e2;have:=h c hc;omega
 have ndw:((g.W.filter (w4 g f.num)).map (·.id)).Nodup:=x.DT.sublist ((fF).map _);have ZC:∀w∈g.W.filter (w4 g f.num),w.kind=4/\∃c∈f.kids,c.sort=0/\c.id=w.id:=λw hw=>by
  obtain⟨h1,h2⟩:=aW.mp hw;exact(ZA x hf h1).mp h2
 have abT:∀w∈g.W,bj GW.id w.id g.W=ae w:=λw hw=>cB x.DT hw rfl;unfold fB;dsimp only;rw[ews];by_cases ha:dG g f=true
 ·rw[bw ha];obtain⟨h1,c0,hc0,h2⟩:=eT.mp ha;have s0:∀c∈f.kids,c.sort=0:=λc hc=>(h1 c hc).1;have eW:g.W.filter (w4 g f.num)=g.W.filter λw=>decide (jQ g w.id=f.num):=by
   refine d8 λw hw=>?_;unfold w4;by_cases e:jQ g w.id=f.num;obtain⟨p,hp,e1,e2⟩:=x.Uk hw;obtain⟨c,hc,e3,e4⟩:=(x.Kd hf hp).mp (by omega);obtain⟨_,w',Ip,k'⟩:=h1 c hc;rw[e4,e1,abT w hw] at Ip;cases Ip;simp[e,k'];simp[e]
  have ZD:∀c∈f.kids,∃w∈g.W.filter (w4 g f.num),w.id=c.id/\jr g c=w.place:=λc hc=>by
   obtain⟨z,w,hw,k⟩:=h1 c hc;obtain⟨CB,e⟩:=bD hw;exact⟨w,aW.mpr ⟨CB,(ZA x hf CB).mpr ⟨k,c,hc,z,e.symm⟩⟩,e,by unfold jr;rw[hw]⟩
  have len:(g.W.filter (w4 g f.num)).length=f.kids.length:=by
   have e:((g.W.filter (w4 g f.num)).map (·.id)).length=(f.kids.map (·.id)).length:=nB ndw (x.aej hf s0) λz=>by
    rw[aA,aA];constructor;rintro ⟨w,hw,rfl⟩;obtain⟨_,c,hc,_,e⟩:=ZC w hw;exact⟨c,hc,e⟩;rintro ⟨c,hc,rfl⟩;obtain⟨w,hw,e,_⟩:=ZD c hc;exact⟨w,hw,e⟩
   rw[ag,ag] at e;exact e
  have plc:∀w∈g.W.filter (w4 g f.num),w.place=jr g c0:=λw hw=>by
   obtain⟨_,c,hc,_,e⟩:=ZC w hw;obtain⟨CB,_⟩:=aW.mp hw;rw[<-h2 c hc];unfold jr;rw[e,abT w CB]
  have emp:(cH b f.num.toNat).isEmpty=true:=agb.mpr s0;cases hW:g.W.filter (w4 g f.num) with
  |nil=>
   rw[hW] at len;obtain⟨w,hw,_⟩:=ZD c0 hc0;rw[hW] at hw;cases hw
  |cons w r=>
   rw[hW] at len plc;show(if _ then _ else _)=_;rw[if_pos];show((w::r).map ig).map (λv=>v.id)=_;unfold m8;rw[<-eW,hW,bx,bx];rfl
   ·refine⟨?_,emp,?_⟩
    ·have:(cH b f.num.toNat).length=0:=by rw[ip.mp emp];rfl
     show((w::r).map ig).length=_;rw[ag];omega
    show((w::r).map ig).all _=true;rw[cz];intro v hv;obtain⟨v0,hv0,rfl⟩:=aA.mp hv;show(v0.place.toNat==w.place.toNat)=true;rw[plc v0 hv0,plc w (aB ..)];simp
 ·rw[aX ha];cases hW:g.W.filter (w4 g f.num) with
  |nil=>rfl
  |cons w r=>
   show(if _ then _ else _)=_;rw[aX];rintro ⟨h1,h2,h3⟩;refine ha (eT.mpr ?_);have s0:=agb.mp h2;have hlen:(g.W.filter (w4 g f.num)).length=f.kids.length:=by
    have:(cH b f.num.toNat).length=0:=by rw[ip.mp h2];rfl
    have h1':((w::r).map ig).length=(cC b f.num.toNat).length:=h1;rw[ag,<-hW] at h1';omega
   have all:∀i∈f.kids.map (·.id),i∈(g.W.filter (w4 g f.num)).map (·.id):=OL ndw (λi hi=>by
    obtain⟨v,hv,rfl⟩:=aA.mp hi;obtain⟨_,c,hc,_,e⟩:=ZC v hv;exact aA.mpr ⟨c,hc,e⟩) (by rw[ag,ag];omega)
   have ZD:∀c∈f.kids,∃v∈g.W.filter (w4 g f.num),v.id=c.id:=λc hc=>by
    obtain⟨v,hv,e⟩:=aA.mp (all c.id (aA.mpr ⟨c,hc,rfl⟩));exact⟨v,hv,e⟩
   have plc:∀v∈g.W.filter (w4 g f.num),v.place=w.place:=λv hv=>by
    have h3':((w::r).map ig).all (λv=>v.place==(ig w).place)=true:=h3;rw[hW] at hv;have:=cz.mp h3' (ig v) (aA.mpr ⟨v,hv,rfl⟩);have e:v.place.toNat=w.place.toNat:=eq_of_beq this;have p1:=(x.t5 v (aW.mp (by rw[hW];exact hv)).1).place;have p2:=(x.t5 w (aW.mp (by rw[hW];exact aB ..)).1).place;omega
   refine⟨λc hc=>⟨s0 c hc,?_⟩,?_⟩;obtain⟨v,hv,e⟩:=ZD c hc;have B2:=(aW.mp hv).1;exact⟨v,by rw[<-e];exact abT v B2,(ZC v hv).1⟩
   ·have Ni:w∈g.W.filter (w4 g f.num):=by rw[hW];exact aB ..
    obtain⟨_,c,hc,_,e⟩:=ZC w Ni;have pk:∀d∈f.kids,jr g d=w.place:=λd hd=>by
     obtain⟨v,hv,e⟩:=ZD d hd;unfold jr;rw[<-e,abT v (aW.mp hv).1];exact plc v hv
    exact⟨c,hc,λd hd=>by rw[pk d hd,pk c hc]⟩
end
end
section
open Vbdeah (Bank Person Fam Wait)
theorem D4{α β:Type}{l:List α}{h:α->List β}(e:∀q∈l,h q=[]):l.flatMap h=[]:=by
 rw[List.flatMap_eq_nil_iff];exact e
theorem zV{α β:Type}:∀{l:List α} {h:α->List β} {q0:α},l.Nodup->q0∈l->(∀q∈l,q≠q0->h q=[])->l.flatMap h=h q0
 |[],_,_,_,m,_=>by cases m
 |a::r,h,q0,nd,m,e=>by
  obtain⟨n1,n2⟩:=cU.mp nd;rw[wc];by_cases z:a=q0;subst z;rw[D4 λq hq=>e q (aC _ hq) λw=>n1 (by rw[<-w];exact hq),cD]
  ·rw[e a (aB ..) z,Lb];obtain w|m:=aF.mp m
   exact bM w.symm z;exact zV n2 m λq hq=>e q (aC _ hq)
section
variable{g:G}{b:bB}
def uN(g:G):Prop:=∀f∈g.F,∀f'∈g.F,dG g f=true->dG g f'=true->f=f'
theorem Ke{n:Int}{W:List GW}{i:Int}(h:i∈m8 g n W):∃w∈W,w.id=i/\jQ g i=n:=by
 unfold m8 at h;obtain⟨w,hw,rfl⟩:=aA.mp h;obtain⟨h1,h2⟩:=aW.mp hw;exact⟨w,h1,rfl,of_decide_eq_true h2⟩
theorem vF(x:cK g){i:Int}(h:i∈dO g):0<i:=by
 unfold dO at h;split at h;obtain⟨w,hw,rfl,_⟩:=Ke h;exact x.rJ hw;cases h
theorem fz.off(A:fz g b)(x:cK g)(U:uN g):(b.fams.flatMap λh=>fB b h.num)=(dO g).map fY:=by
 unfold dO;cases e:g.F.find? (dG g) with
 |none=>
  refine D4 λq hq=>?_;obtain⟨f,hf,rfl⟩:=(A.mF q).mp hq;have n:=fg.mp e f hf;show fB b f.num.toNat=[];rw[A.mustered x hf,aX n]
 |some f=>
  have hf:=fM e;have ha:dG g f=true:=lU e;have e1:=zV (h:=λh:Fam=>fB b h.num) (SF.nodup A.sF) ((A.mF (toF f)).mpr ⟨f,hf,rfl⟩) λq hq n=>by
   obtain⟨f',dZ,rfl⟩:=(A.mF q).mp hq;show fB b f'.num.toNat=[];rw[A.mustered x dZ,aX];intro z;exact n (by rw[U f' dZ f hf z ha])
  rw[e1];show fB b f.num.toNat=_;rw[A.mustered x hf,bw ha]
theorem Kf{l:List Int}{i:Int}(hl:∀z∈l,0<z)(hi:0<i):(l.map fY).contains i.toNat=l.contains i:=by
 rw[cT,gH,gH,aA];constructor
 ·rintro ⟨z,hz,e⟩;have:=hl z hz;have:z=i:=by omega
  rw[<-this];exact hz
 intro h;exact⟨i,h,rfl⟩
theorem fz.gQ(A:fz g b)(x:cK g){ids:List Int}(hl:∀z∈ids,0<z):fz {g with W:=gQ ids g.W} {b with waits:=b.waits.filter λw=> !(ids.map fY).contains w.id}:=by
 refine⟨A.sP,A.mP,A.sF,A.mF,?_,A.nx⟩;show b.waits.filter _=(wz.gQ ids g.W).map ig;unfold wz.gQ;rw[A.W,hU];congr 1;refine d8 λw hw=>?_;show(!(ids.map fY).contains w.id.toNat)= !ids.contains w.id;rw[Kf hl (x.rJ hw)]
theorem cK.gQ(x:cK g)(ids:List Int):cK {g with W:=gQ ids g.W}:=⟨x.yE,x.lO,abN _ x.DT,x.nx,λp hp=>⟨(x.qV p hp).pos,(x.qV p hp).fam⟩,λf hf=>⟨(x.fam f hf).pos,(x.fam f hf).lt,(x.fam f hf).cf,(x.fam f hf).fN,(x.fam f hf).A9,(x.fam f hf).x_,(x.fam f hf).par⟩,λw hw=>⟨(x.t5 w (aW.mp hw).1).live,(x.t5 w (aW.mp hw).1).kind,(x.t5 w (aW.mp hw).1).place,(x.t5 w (aW.mp hw).1).num,(x.t5 w (aW.mp hw).1).one⟩⟩
theorem kj{g g':G}{f f':GF}(ek:f'.kids.map (λc=>(c.sort,c.id))=f.kids.map λc=>(c.sort,c.id))(h:∀c∈f.kids,bj GW.id c.id g'.W=bj GW.id c.id g.W):dG g' f'=dG g f:=by
 have k1:∀(u:Int×Int->Bool) (l:List GC),l.all (λc=>u (c.sort,c.id))=(l.map λc=>(c.sort,c.id)).all u:=λu l=>by rw[yq];rfl
 unfold dG;have a1:f'.kids.all (jE g')=f.kids.all (jE g):=by
  have e1:f'.kids.all (jE g')=(f'.kids.map λc=>(c.sort,c.id)).all (λq=>jE g' ⟨0,0,q.1,q.2⟩):=by rw[<-k1];rfl
  have e2:f.kids.all (jE g')=(f.kids.map λc=>(c.sort,c.id)).all (λq=>jE g' ⟨0,0,q.1,q.2⟩):=by rw[<-k1];rfl
  rw[e1,ek,<-e2];rw[cT,cz,cz];refine forall_congr' λc=>forall_congr' λhc=>?_;unfold jE;rw[h c hc]
 have a2:f'.kids.map (jr g')=f.kids.map (jr g):=by
  have e1:f'.kids.map (jr g')=(f'.kids.map λc=>(c.sort,c.id)).map (λq=>jr g' ⟨0,0,q.1,q.2⟩):=by rw[bx];rfl
  have e2:f.kids.map (jr g')=(f.kids.map λc=>(c.sort,c.id)).map (λq=>jr g' ⟨0,0,q.1,q.2⟩):=by rw[bx];rfl
  rw[e1,ek,<-e2];refine cu λc hc=>?_;unfold jr;rw[h c hc]
 rw[a1,a2]
theorem CF{ids:List Int}{W:List GW}{i:Int}(h:ids.contains i=false):bj GW.id i (gQ ids W)=bj GW.id i W:=by
 unfold bj gQ;rw[List.find?_filter];congr 1
 funext w
 by_cases e:w.id=i;rw[e,h];simp;simp[e]
theorem vY{ids:List Int}{W:List GW}{i:Int}(h:ids.contains i=true):bj GW.id i (gQ ids W)=ay:=by
 cases e:bj GW.id i (gQ ids W) with
 |none=>rfl
 |some w=>
  obtain⟨h1,h2⟩:=bD e;have:=(aW.mp h1).2;rw[h2,h] at this;exact bM this (by decide)
theorem abU(x:cK g)(U:uN g)(ne:∀f∈g.F,f.kids≠[]):∀f∈g.F,dG {g with W:=gQ (dO g) g.W} f=false:=by
 intro f hf;cases e:g.F.find? (dG g) with
 |none=>
  have em:dO g=[]:=by unfold dO;rw[e]
  rw[em,uL];have n:=fg.mp e f hf;show dG g f=false;rw[bP];exact n
 |some f0=>
  have h0:=fM e;have ha:dG g f0=true:=lU e;have em:dO g=m8 g f0.num g.W:=by unfold dO;rw[e]
  by_cases z:f=f0
  ·subst z;obtain⟨h1,c,hc,_⟩:=eT.mp ha;rw[bP];intro y;obtain⟨y1,_⟩:=eT.mp y;obtain⟨s0,w,hw,_⟩:=h1 c hc;obtain⟨_,w',Ip,_⟩:=y1 c hc;obtain⟨CB,ew⟩:=bD hw;have Va:(dO g).contains c.id=true:=by
    rw[gH,em];unfold m8;refine aA.mpr ⟨w,aW.mpr ⟨CB,decide_eq_true ?_⟩,ew⟩;obtain⟨p,hp,e1,e2⟩:=x.Uk CB;rw[e2];exact(x.Kd hf hp).mpr ⟨c,hc,s0,by omega⟩
   have:bj GW.id c.id (gQ (dO g) g.W)=ae w':=Ip;rw[vY Va] at this;cases this
  ·have old:dG g f=false:=by
    rw[bP];intro y;exact z (U f hf f0 h0 y ha)
   by_cases s0:∀c∈f.kids,c.sort=0;rw[<-old];refine kj rfl λc hc=>CF ?_;rw[bP];intro y;rw[gH,em] at y;obtain⟨w,hw,e1,e2⟩:=Ke y;obtain⟨p,hp,e3,e4,e5⟩:=x.Xg hf hc (s0 c hc);rw[lX (cB x.yE hp e3)] at e2;exact z (bh x.lO hf h0 (by omega));rw[bP];intro y;exact s0 λc hc=>((eT.mp y).1 c hc).1
structure nP(g:G):Prop where
 fit:cK g
 ne:∀f∈g.F,f.kids≠[]
 xD:∀f∈g.F,∀d,dF g.F f.num d->d<=40
 Xh:∀f∈g.F,dG g f=false
theorem Fv(A:fz g b)(x:cK g)(U:uN g)(ne:∀f∈g.F,f.kids≠[])(xD:∀f∈g.F,∀d,dF g.F f.num d->d<=40):(e9 b).2=(dO g).map fY/\fz {g with W:=gQ (dO g) g.W} (e9 b).1/\nP {g with W:=gQ (dO g) g.W}:=by
 have e:=A.off x U;unfold e9;dsimp only;rw[e];exact⟨rfl,A.gQ x λz hz=>vF x hz,⟨x.gQ _,ne,xD,abU x U ne⟩⟩
theorem dF.mono{F F':List GF}(h:∀f'∈F',∃f∈F,f.num=f'.num/\f.par=f'.par){n:Int}{d:Nat}(D:dF F' n d):dF F n d:=by
 induction D with
 |zero=>exact .zero
 | @succ f' d dZ h0 hp _ ih=>
  obtain⟨f,hf,e1,e2⟩:=h f' dZ;rw[<-e1];exact .succ hf (by omega) (by omega) (by rw[e2];exact ih)
end
end
section
open Vbdeah (Bank Person Fam Wait)
theorem m9{α β:Type}:∀{l:List α} {f h:α->List β},(∀a∈l,f a=h a)->l.flatMap f=l.flatMap h
 |[],_,_,_=>rfl
 |a::r,f,h,e=>by
  rw[wc,wc,e a (aB ..),m9 λx hx=>e x (aC _ hx)]
section
variable{g:G}{b:bB}
theorem cK.sub(x:cK g){f:GF}(hf:f∈g.F){c:GC}(hc:c∈f.kids)(h1:c.sort=1):∃h∈g.F,h.num=c.id/\h.par=f.num/\h.cf=c.cf:=by
 obtain⟨z,_⟩|⟨_,z⟩:=((x.fam f hf).x_ c hc).2.2
 omega;exact z
theorem cK.D5(x:cK g){f h:GF}(hf:f∈g.F)(hh:h∈g.F)(e:h.par=f.num){d:Nat}(D:dF g.F f.num d):dF g.F h.num (d+1):=by
 have n1:=x.fe hf;have n2:=x.fe hh;exact .succ hh n2.1 (.inr ⟨by omega,n2.2.2.2.2⟩) (by rw[e];exact D)
theorem gX(c:GC):(toK c).2.1=true↔c.sort=1:=by
 show decide (c.sort=1)=true↔_;rw[bJ]
theorem Gh(A:fz g b)(ok:nP g):∀(k:Nat) {f:GF} {d:Nat},f∈g.F->dF g.F f.num d->41<=d+k->iK b k f.num.toNat=iK b (k+1) f.num.toNat
 |0,f,d,hf,D,h=>by have:=ok.xD f hf d D;omega
 |k+1,f,d,hf,D,h=>by
  rw[iK,iK,A.kids ok.fit hf];rw[gR,gR];refine m9 λc hc=>?_;by_cases e:c.sort=1;rw[bw ((gX c).mpr e),bw ((gX c).mpr e)];obtain⟨h',q_,e1,e2,_⟩:=ok.fit.sub hf hc e;show iK b k c.id.toNat=iK b (k+1) c.id.toNat;rw[<-e1];exact Gh A ok k q_ (ok.fit.D5 hf q_ e2 D) (by omega);rw[aX λz=>e ((gX c).mp z),aX λz=>e ((gX c).mp z)]
theorem rK(x:cK g){f:GF}(hf:f∈g.F):∃d,dF g.F f.num (d+1):=by
 obtain⟨d,D⟩:=x.depth _ hf (aJ _);cases d with
 |zero=>
  have:=(x.fe hf).1;generalize hz:f.num=z at D;generalize hd:(0:Nat)=d at D;cases D with
  |zero=>omega
  |succ=>omega
 |succ d=>exact⟨d,D⟩
theorem Vt(A:fz g b)(ok:nP g){f:GF}(hf:f∈g.F):jF b f.num.toNat=f.kids.flatMap λc=>if c.sort=1 then jF b c.id.toNat else[c.id.toNat]:=by
 obtain⟨d,D⟩:=rK ok.fit hf;unfold jF;have e:iK b fA f.num.toNat=iK b (fA+1) f.num.toNat:=Gh A ok _ hf D (by show 41<=d+1+40;omega);rw[e,iK,A.kids ok.fit hf,gR];refine m9 λc _=>?_;by_cases e:c.sort=1;rw[if_pos ((gX c).mpr e),if_pos e];rfl;rw[if_neg λz=>e ((gX c).mp z),if_neg e];rfl
theorem D6(A:fz g b)(ok:nP g):∀(k:Nat) {f:GF} {d:Nat},f∈g.F->dF g.F f.num d->41<=d+k->fG b k f.num.toNat=fG b (k+1) f.num.toNat
 |0,f,d,hf,D,h=>by have:=ok.xD f hf d D;omega
 |k+1,f,d,hf,D,h=>by
  rw[fG,fG,A.kids ok.fit hf];have e:((f.kids.map toK).map λq=>if q.2.1=true then fG b k q.2.2 else[0])=(f.kids.map toK).map λq=>if q.2.1=true then fG b (k+1) q.2.2 else[0]:=by
   rw[bx,bx];refine cu λc hc=>?_;show(if(toK c).2.1=true then _ else _)=if(toK c).2.1=true then _ else _
   by_cases e:c.sort=1;rw[bw ((gX c).mpr e),bw ((gX c).mpr e)];obtain⟨h',q_,e1,e2,_⟩:=ok.fit.sub hf hc e;show fG b k c.id.toNat=fG b (k+1) c.id.toNat;rw[<-e1];exact D6 A ok k q_ (ok.fit.D5 hf q_ e2 D) (by omega);rw[aX λz=>e ((gX c).mp z),aX λz=>e ((gX c).mp z)]
  rw[e]
theorem ZE(A:fz g b)(ok:nP g){f:GF}(hf:f∈g.F):jG b f.num.toNat=1::(((f.kids.map λc=>if c.sort=1 then jG b c.id.toNat else[0]).foldl (λl s=>Vbdeah.putList s l) []).flatten++[2]):=by
 obtain⟨d,D⟩:=rK ok.fit hf;unfold jG;have e:fG b fA f.num.toNat=fG b (fA+1) f.num.toNat:=D6 A ok _ hf D (by show 41<=d+1+40;omega);rw[e,fG,A.kids ok.fit hf];have e2:((f.kids.map toK).map λq=>if q.2.1=true then fG b fA q.2.2 else[0])=f.kids.map λc=>if c.sort=1 then fG b fA c.id.toNat else[0]:=by
  rw[bx];refine cu λc _=>?_;show(if(toK c).2.1=true then _ else _)=_;by_cases e:c.sort=1;rw[bw ((gX c).mpr e),bw e];rfl;rw[aX λz=>e ((gX c).mp z),aX e]
 rw[e2];rfl
def vG(b:bB)(k:Nat)(c:GC):List Int:=(c.cf.toNat:Int)::(if c.sort=1 then(match b.fam c.id.toNat with
 |some h=>1::fH b k h
 |none=>[]) else[0,(c.id.toNat:Int)])
theorem CG(A:fz g b)(ok:nP g){f:GF}(hf:f∈g.F)(k:Nat):fH b (k+1) (toF f)=(f.num.toNat:Int)::(f.fN.toNat:Int)::(f.kids.length:Int)::f.kids.flatMap (vG b k):=by
 rw[fH];show(f.num.toNat:Int)::(f.fN.toNat:Int)::((d4 b f.num.toNat).length:Int)::(d4 b f.num.toNat).flatMap _=_;rw[A.kids ok.fit hf,ag,gR];congr 3;refine m9 λc _=>?_;unfold vG;show(c.cf.toNat:Int)::(if(toK c).2.1=true then _ else _)=_;by_cases e:c.sort=1;rw[if_pos ((gX c).mpr e),if_pos e];rfl;rw[if_neg λz=>e ((gX c).mp z),if_neg e];rfl
theorem D7(A:fz g b)(ok:nP g):∀(k:Nat) {f:GF} {d:Nat},f∈g.F->dF g.F f.num d->41<=d+k->fH b k (toF f)=fH b (k+1) (toF f)
 |0,f,d,hf,D,h=>by have:=ok.xD f hf d D;omega
 |k+1,f,d,hf,D,h=>by
  rw[CG A ok hf,CG A ok hf];congr 3;refine m9 λc hc=>?_;unfold vG;by_cases e:c.sort=1;rw[if_pos e,if_pos e];obtain⟨h',q_,e1,e2,_⟩:=ok.fit.sub hf hc e;have nn:=ok.fit.fe q_;rw[<-e1,A.fam ok.fit (by omega),cB ok.fit.lO q_ rfl];show _::1::fH b k (toF h')=_::1::fH b (k+1) (toF h');rw[D7 A ok k q_ (ok.fit.D5 hf q_ e2 D) (by omega)];rw[if_neg e,if_neg e]
theorem Rl(A:fz g b)(ok:nP g){f:GF}(hf:f∈g.F):fH b fA (toF f)=(f.num.toNat:Int)::(f.fN.toNat:Int)::(f.kids.length:Int)::f.kids.flatMap (vG b fA):=by
 obtain⟨d,D⟩:=rK ok.fit hf;rw[D7 A ok _ hf D (by show 41<=d+1+40;omega),CG A ok hf]
end
end
section
open Vbdeah (Bank Person Fam Wait)
def SH(b:bB)(q:Fam):Nat:=2+(fH b fA q).length
def Mb(b:bB)(n:Int):Nat:=match b.fam n.toNat with
 |some q=>SH b q
 |none=>0
theorem Gi{p:dN}:∀{l:List dN},(eA p l).Perm (p::l)
 |[]=> .refl _
 |a::r=>by
  unfold eA;split;exact .refl _;exact(tM a Gi).trans (V' p a r)
theorem D8:∀{l acc:List dN},(l.foldl (λl k=>eA k l) acc).Perm (l++acc)
 |[],acc=> .refl _
 |a::r,acc=>by
  rw[cV];refine D8.trans ?_;refine(xk r Gi).trans ?_;exact HS
section
variable{g:G}{b:bB}
def shK(b:bB)(c:GC):Nat:=if c.sort=1 then Mb b c.id else 3
theorem abV(A:fz g b)(ok:nP g){f:GF}(hf:f∈g.F){c:GC}(hc:c∈f.kids):(vG b fA c).length=shK b c:=by
 unfold vG shK;by_cases e:c.sort=1;rw[if_pos e,if_pos e];obtain⟨h',q_,e1,_⟩:=ok.fit.sub hf hc e;have nn:=ok.fit.fe q_;unfold Mb;rw[<-e1,A.fam ok.fit (by omega),cB ok.fit.lO q_ rfl];show(_::1::fH b _ (toF h')).length=SH b (toF h');unfold SH;rw[aL,aL];omega;rw[if_neg e,if_neg e];rfl
theorem OM(A:fz g b)(ok:nP g){f:GF}(hf:f∈g.F):SH b (toF f)=5+(f.kids.map (shK b)).sum:=by
 unfold SH;rw[Rl A ok hf,aL,aL,aL,hG];have:f.kids.map (λa=>(vG b fA a).length)=f.kids.map (shK b):=cu λc hc=>abV A ok hf hc;rw[this];omega
theorem CH(A:fz g b)(x:cK g){f:GF}(hf:f∈g.F):Mb b f.num=SH b (toF f):=by
 have nn:=x.fe hf;unfold Mb;rw[A.fam x (by omega),cB x.lO hf rfl];rfl
theorem agd(A:fz g b)(ok:nP g){f:GF}(hf:f∈g.F):SH b (toF f)=5+3*(cC b f.num.toNat).length+((cH b f.num.toNat).map (SH b)).sum:=by
 rw[OM A ok hf];have nf:=ok.fit.fe hf;let u:dN->Nat:=λq=>if q.2.1=true then Mb b (q.2.2:Int) else 3
 have e1:f.kids.map (shK b)=(f.kids.map toK).map u:=by
  rw[bx];refine cu λc hc=>?_;show shK b c=if(toK c).2.1=true then Mb b ((toK c).2.2:Int) else 3
  unfold shK;by_cases e:c.sort=1;obtain⟨h',q_,z1,_⟩:=ok.fit.sub hf hc e;have:=ok.fit.fe q_;rw[if_pos e,if_pos ((gX c).mpr e)];show Mb b c.id=Mb b ((c.id.toNat:Nat):Int);rw[uU (by omega)];rw[if_neg e,if_neg λz=>e ((gX c).mp z)]
 rw[e1,<-A.kids ok.fit hf];unfold d4;have hp:=(D8 (l:=(cC b f.num.toNat).map (λp=>(p.serial,false,p.id))++(cH b f.num.toNat).map λg=>(g.serial,true,g.num)) (acc:=[])).map u;rw[hp.sum_nat,cD,az,jI,bx,bx];have e2:((cC b f.num.toNat).map (u∘λp=>(p.serial,false,p.id))).sum=3*(cC b f.num.toNat).length:=by
  have:(u∘λp:fT=>((p.serial,false,p.id):dN))=λ_=>3:=by funext p;rfl
  rw[this,List.map_const',List.sum_replicate_nat,Nat.mul_comm]
 have e3:(cH b f.num.toNat).map (u∘λg=>(g.serial,true,g.num))=(cH b f.num.toNat).map (SH b):=by
  refine cu λq hq=>?_;obtain⟨hq1,_⟩:=sN.mp hq;obtain⟨h,hh,rfl⟩:=(A.mF q).mp hq1;have:=ok.fit.fe hh;show Mb b ((h.num.toNat:Nat):Int)=SH b (toF h);rw[uU (by omega),CH A ok.fit hh]
 rw[e2,e3];omega
def wgt(b:bB)(q:Fam):Nat:=5+3*(cC b q.num).length
theorem Vu(b:bB){m n:Nat}(h:m<n):∀l:List Fam,((l.filter λq=>q.parent==n).map (SH b)).sum+((l.filter λq=>decide (q.parent<=m)).map (SH b)).sum<=((l.filter λq=>decide (q.parent<=n)).map (SH b)).sum
 |[]=>by simp
 |q::r=>by
  have ih:=Vu b h r;rw[b9,b9,b9];by_cases e:q.parent=n;rw[if_pos (by rw[e];simp),if_neg (by rw[decide_eq_true_iff];omega),if_pos (by rw[decide_eq_true_iff];omega),aU,dc,aU,dc];omega
  ·rw[aX (by rw[Iw];exact e)];by_cases e2:q.parent<=m;rw[bw (bG e2),bw (by rw[bJ];omega),aU,dc,aU,dc];omega
   ·rw[aX (by rw[bJ];exact e2)];by_cases e3:q.parent<=n;rw[bw (bG e3),aU,dc];omega;rw[aX (by rw[bJ];exact e3)];exact ih
theorem OO(A:fz g b)(ok:nP g):∀(l pre:List Fam) (m:Nat),b.fams=pre++l->(∀q∈l,m<q.num)->((l.filter λq=>decide (q.parent<=m)).map (SH b)).sum<=(l.map (wgt b)).sum
 |[],_,_,_,_=>by simp
 |q::r,pre,m,e,h=>by
  have sF:=A.sF;rw[e] at sF;obtain⟨_,s2,s3⟩:=jN.mp sF;obtain⟨s4,s5⟩:=b7.mp s2;have hm:q∈b.fams:=by rw[e];simp
  have ih:=OO A ok r (pre++[q]) q.num (by rw[e,dJ];rfl) λh hh=>s4 h hh;obtain⟨f,hf,rfl⟩:=(A.mF q).mp hm;have e1:=agd A ok hf;have par:∀z∈b.fams,z.parent<z.num:=λz hz=>by
   obtain⟨h,hh,rfl⟩:=(A.mF z).mp hz;have:=ok.fit.fe hh;show h.par.toNat<h.num.toNat;omega
  have es:cH b f.num.toNat=r.filter λz=>z.parent==(toF f).num:=by
   unfold cH;rw[e,jm,b9];have p1:pre.filter (λg=>g.parent==f.num.toNat)=[]:=yr.mpr λz hz=>by
    have z1:=s3 z hz (toF f) (by simp);have z2:=par z (by rw[e];simp[hz]);have z3:z.num<f.num.toNat:=z1;rw[beq_iff_eq];omega
   rw[p1,aX (by
    have z2:=par _ hm;rw[Iw];have z3:(toF f).parent<f.num.toNat:=z2;omega)]
   rfl
  have two:=Vu b (h (toF f) (by simp)) r;rw[aU,dc,b9];have ew:wgt b (toF f)=5+3*(cC b f.num.toNat).length:=rfl;rw[es] at e1;split;rw[aU,dc];omega;omega
theorem Kg{α:Type}(key:α->Nat):∀(ns:List Nat),ns.Nodup->∀l:List α,(ns.map λn=>(l.filter λa=>key a==n).length).sum<=l.length
 |_,nd,[]=>by
  have:∀ns:List Nat,(ns.map λn=>(([]:List α).filter λa=>key a==n).length).sum=0:=by
   intro ns;induction ns with
   |nil=>rfl
   |cons n r ih=>rw[aU,dc,ih];rfl
  rw[this];exact cI _
 |ns,nd,a::l=>by
  have ih:=Kg key ns nd l;have step:∀ns:List Nat,ns.Nodup->(ns.map λn=>((a::l).filter λa=>key a==n).length).sum<=(ns.map λn=>(l.filter λa=>key a==n).length).sum+(if key a∈ns then 1 else 0):=by
   intro ns;induction ns with
   |nil=>intro _;simp
   |cons n r ih2=>
    intro nd;obtain⟨n1,n2⟩:=cU.mp nd;have:=ih2 n2;rw[aU,dc,aU,dc,b9];by_cases e:key a=n;rw[if_pos (beq_iff_eq.mpr e),aL,if_pos (by rw[e];simp)];rw[if_neg (by rw[e];exact n1)] at this;omega
    ·rw[aX (by rw[Iw];exact e)];by_cases e2:key a∈r;rw[bw e2] at this;rw[bw (aC _ e2)];omega;rw[aX e2] at this;rw[aX (by rw[aF];rintro (z|z);exact e z;exact e2 z)];omega
  have:=step ns nd;rw[aL];split at this<;>omega
theorem Vv(A:fz g b){l pre:List Fam}(e:b.fams=pre++l):(l.map (wgt b)).sum<=5*b.fams.length+3*b.people.length:=by
 have nd:(l.map (·.num)).Nodup:=by
  have sF:=A.sF;rw[e] at sF;have:=(jN.mp sF).2.1;unfold Er;rw[eV];exact this.imp λh=>dR h
 have h1:=Kg (λp:fT=>p.fam) (l.map (·.num)) nd b.people;rw[bx] at h1;have h2:∀l:List Fam,(l.map (wgt b)).sum=5*l.length+3*(l.map ((λn=>(b.people.filter λa=>a.fam==n).length)∘(·.num))).sum:=by
  intro l;induction l with
  |nil=>rfl
  |cons q r ih=>
   rw[aU,dc,ih,aU,dc,aL];show 5+3*(cC b q.num).length+_=_+3*((cC b q.num).length+_);omega
 rw[h2];have h3:l.length<=b.fams.length:=by rw[e,aK];omega
 omega
theorem Vw(A:fz g b)(ok:nP g):(lZ b).length<=5*b.fams.length+3*b.people.length:=by
 have h:=OO A ok b.fams [] 0 rfl λq hq=>by
  obtain⟨f,hf,rfl⟩:=(A.mF q).mp hq;have:=ok.fit.fe hf;show 0<f.num.toNat;omega
 refine bX ?_ (bX h (Vv A (pre:=[]) rfl));unfold lZ cH;rw[hG];have e:(b.fams.filter λq=>decide (q.parent<=0))=b.fams.filter λg=>g.parent==0:=d8 λq _=>by
  rw[cT,bJ,Iw];omega
 rw[e];generalize (b.fams.filter λg=>g.parent==0)=l;induction l with
 |nil=>exact aJ _
 |cons q r ih=>
  rw[aU,dc,aU,dc];have:(fH b fA q).length<=SH b q:=by unfold SH;omega
  omega
theorem ZF(A:fz g b)(ok:nP g){f:GF}(hf:f∈g.F):SH b (toF f)<=5*b.fams.length+3*b.people.length:=by
 have hm:toF f∈b.fams:=(A.mF _).mpr ⟨f,hf,rfl⟩;obtain⟨pre,r,e⟩:=List.append_of_mem hm;have nf:=ok.fit.fe hf;have h:=OO A ok (toF f::r) pre (f.num.toNat -1) e λq hq=>by
  obtain rfl|hq:=aF.mp hq
  show f.num.toNat -1<f.num.toNat;omega;have sF:=A.sF;rw[e] at sF;have:=(b7.mp (jN.mp sF).2.1).1 q hq;have z:f.num.toNat<q.num:=this;omega
 rw[b9,bw (by
  rw[bJ];show f.par.toNat<=f.num.toNat -1;omega),aU,dc] at h
 have:=Vv A e;omega
theorem OQ(A:fz g b)(ok:nP g):∀(k:Nat) {f:GF} {d:Nat},f∈g.F->dF g.F f.num d->41<=d+k->(jF b f.num.toNat).length<=SH b (toF f)
 |0,f,d,hf,D,h=>by have:=ok.xD f hf d D;omega
 |k+1,f,d,hf,D,h=>by
  rw[Vt A ok hf,OM A ok hf,hG];have:∀l:List GC,(∀c∈l,c∈f.kids)->(l.map λc=>(if c.sort=1 then jF b c.id.toNat else[c.id.toNat]).length).sum<=(l.map (shK b)).sum:=by
   intro l;induction l with
   |nil=>intro _;exact aJ _
   |cons c r ih=>
    intro hl;rw[aU,dc,aU,dc];have i1:=ih λx hx=>hl x (aC _ hx);have hc:=hl c (aB ..);have i2:(if c.sort=1 then jF b c.id.toNat else[c.id.toNat]).length<=shK b c:=by
     unfold shK;by_cases e:c.sort=1;rw[if_pos e,if_pos e];obtain⟨h',q_,e1,e2,_⟩:=ok.fit.sub hf hc e;rw[<-e1,CH A ok.fit q_];exact OQ A ok k q_ (ok.fit.D5 hf q_ e2 D) (by omega);rw[if_neg e,if_neg e];show 1<=3;omega
    omega
  have:=this f.kids λ_ h=>h;omega
end
end
end wz
namespace wz
open PySem PySem.Spec PyProof.Rows L2
section
open Vbdeah (Bank)
def ZG(t:fO):HO->Prop
 | .dK _=>False
 | .ins C _ _=>C≠t.dW/\C≠t.dw/\C≠t.fU
 |_=>True
structure xE(t:fO)(H H':Hp):Prop where
 keep:∀b o,H b=ae o->ZG t o->H' b=ae o
 live:∀b,H' b=ay->H b=ay
theorem xE.trans{t:fO}{H H1 H2:Hp}(a:xE t H H1)(b:xE t H1 H2):xE t H H2:=⟨λc o h s=>b.keep c o (a.keep c o h s) s,λc h=>a.live c (b.live c h)⟩
theorem xE.same{t:fO}{H H':Hp}(s:bC H H'):xE t H H':=⟨λb o h _=>s b o h,λb h=>cY s h⟩
theorem Step.frm{t:fO}{H H':Hp}{k:aj}{g g':G}(s:Step k g g' H H')(x:cW t H k g):xE t H H':=by
 refine⟨λb o h st=>s.keep b o h λz=>?_,s.live⟩;obtain⟨_,e⟩|⟨C,d,fs,e,c⟩:=x.Zx z
 rw[h] at e;cases e;exact st
 ·rw[h] at e;cases e;obtain c|c|c:=c
  exact st.1 c;exact st.2.1 c;exact st.2.2 c
structure Rm(t:fO)(H:Hp)(k:aj)(b:bB)(g:G):Prop where
 kg:cW t H k g
 abs:fz g b
 ok:nP g
def Kp(t:fO)(H:Hp)(k:aj)(b:bB):Prop:=∃g,Rm t H k b g
def Sz(b:bB):Prop:=b.people.length<=2000/\b.fams.length<=2000
theorem Kp.same{t:fO}{H H':Hp}{k:aj}{b:bB}(x:Kp t H k b)(s:bC H H'):Kp t H' k b:=by
 obtain⟨g,a,c,d⟩:=x;exact⟨g,a.same s,c,d⟩
def bV(t:fO)(H:Hp)(k:aj)(r:bB×List Int)(Q:VK):Prop:=∀H' l,Kp t H' k r.1->H l=ay->H' l=ae (.lst (r.2.map V.int))->xE t H H'->Q (.ref l) H'
section
variable{t:fO}{H:Hp}{k:aj}{g:G}{b:bB}
theorem bV.yi{r:bB×List Int}{Q:VK}(h:bV t H k r Q)(x:Kp t H k b)(e:r.1=b){xs:List V}(ex:r.2.map V.int=xs):∀p,H p=ay->Q (.ref p) (upd H p (.lst xs)):=λp hp=>
 h _ p (by rw[e];exact x.same (bC.new hp)) hp (by rw[aq,ex]) (xE.same (bC.new hp))
theorem bV.from{r:bB×List Int}{Q:VK}{H0:Hp}(h:bV t H k r Q)(s:bC H H0):bV t H0 k r Q:=λH' l a b c d=>h H' l a (cY s b) c ((xE.same s).trans d)
theorem Rm.zQ(x:Rm t H k b g):g.P.length=b.people.length:=(x.abs.zQ x.ok.fit).symm
theorem Rm.Hi(x:Rm t H k b g):g.F.length=b.fams.length:=(x.abs.Hi x.ok.fit).symm
theorem cK.Hk(x:cK g):g.W.length<=g.P.length:=by
 have:=jK (l:=g.W.map (·.id)) (m:=g.P.map (·.id)) x.DT λi hi=>by
  obtain⟨w,hw,rfl⟩:=aA.mp hi;obtain⟨p,hp,e⟩:=(x.t5 w hw).live;exact aA.mpr ⟨p,hp,e⟩
 rw[ag,ag] at this;exact this
theorem fz.A_(A:fz g b)(x:cK g){f:GF}(hf:f∈g.F):f.kids.length<=b.people.length+b.fams.length:=by
 have e:=da gE (A.kids x hf);rw[zU,ag] at e;have h1:(cC b f.num.toNat).length<=b.people.length:=bf _ _;have h2:(cH b f.num.toNat).length<=b.fams.length:=bf _ _;omega
end
theorem ZH{ids:List Int}(h:∀z∈ids,0<z):(di (ids.map fY)).map V.int=ids.map V.int:=by
 unfold di;rw[bx,bx];refine cu λz hz=>?_;have:=h z hz;show V.int (ir z.toNat)=V.int z;congr 1;show((z.toNat:Nat):Int)=z;omega
theorem Ul{g:G}(x:nP g){F':List GF}(h:∀f'∈F',(∃f∈g.F,f.num=f'.num/\f.par=f'.par)\/(f'.num=g.nx/\f'.par=0))(nd:(F'.map (·.num)).Nodup):∀f∈F',∀d,dF F' f.num d->d<=40:=by
 intro f hf d D;obtain⟨f0,h0,e1,e2⟩|⟨e1,e2⟩:=h f hf
 ·refine x.xD f0 h0 d ?_;have key:∀{n:Int} {d:Nat},dF F' n d->n<g.nx->dF g.F n d:=by
   intro n d D;induction D with
   |zero=>intro _;exact .zero
   | @succ f' d dZ h0 hp _ ih=>
    intro hn;obtain⟨f1,h1,a1,a2⟩|⟨a1,_⟩:=h f' dZ
    rw[<-a1];refine .succ h1 (by omega) (by omega) (by rw[a2];exact ih (by omega));omega
  rw[e1];exact key D (by have:=(x.fit.fam f0 h0).lt;omega)
 ·generalize hz:f.num=z at D;cases D with
  |zero=>exact cI _
  | @succ f1 d1 Gc h01 hp1 D1=>
   obtain rfl:=bh nd Gc hf hz.symm;rw[e2] at D1;have:=D1.uniq nd (.zero:dF F' 0 0);omega
section
variable{P:bg}{w:cn}{K:au}{mg:Str->Option ax}{base:df}{t:fO}
def abW(t:fO):Sp:=λvs H Q _=>∃(k:aj) (b:bB) (x:Int),vs=[.ref k,.int x]/\Apart t/\Kp t H k b/\Sz b/\0<x/\bV t H k (bL b (pY b x.toNat)) Q
theorem cK.acW{g:G}(x:cK g){i:Int}(h:bj GP.id i g.P=ay):bj GW.id i g.W=ay:=by
 cases e:bj GW.id i g.W with
 |none=>rfl
 |some w=>
  obtain⟨h1,h2⟩:=bD e;obtain⟨p,hp,e1⟩:=(x.t5 w h1).live;exact bM (by omega) (fV h p hp)
theorem abX{g:G}{b:bB}{x:Int}(ok:nP g)(A:fz g b)(hx:0<x)(hn:bj GP.id x g.P=ay){o d ch o2 d2 tp:aj}:nP {g with F:=lT g.nx x tp (g.F++[⟨g.nx,o,d,0,0,0,ch,[]⟩]),P:=g.P++[⟨x,o2,d2,g.nx,0⟩],nx:=g.nx+1}/\fz {g with F:=lT g.nx x tp (g.F++[⟨g.nx,o,d,0,0,0,ch,[]⟩]),P:=g.P++[⟨x,o2,d2,g.nx,0⟩],nx:=g.nx+1} {b with people:=er ⟨x.toNat,b.next,0⟩ b.people,fams:=b.fams++[⟨b.next,0,0,1⟩],next:=b.next+1}:=by
 have X0:=ok.fit.Ui (o:=o) (d:=d) (ch:=ch);have A0:=A.Ui ok.fit (o:=o) (d:=d) (ch:=ch);have hm:(⟨g.nx,o,d,0,0,0,ch,[]⟩:GF)∈g.F++[⟨g.nx,o,d,0,0,0,ch,[]⟩]:=bc _ (ai.mpr rfl);have X1:=X0.enter (n:=g.nx) (x:=x) (tp:=tp) (o:=o2) (d:=d2) hm rfl hx hn;have A1:=A0.enter X0 (n:=g.nx) (x:=x) (tp:=tp) (o:=o2) (d:=d2) hm rfl hx hn;have en:=A.nx;have hnn:g.nx.toNat=b.next:=by omega
 refine⟨⟨X1,λf hf=>?_,?_,λf hf=>?_⟩,?_⟩
 ·obtain⟨f0,h0,_,_,_,k⟩:=iJ X0 hf;obtain⟨_,_,k⟩|⟨k,rfl⟩:=k
  rw[k];simp
  ·obtain z|z:=aP.mp h0
   exact ok.ne f z;obtain rfl:=ai.mp z;exact bM rfl k
 ·refine Ul ok (λf' dZ=>?_) X1.lO;obtain⟨f0,h0,e1,e2,_⟩:=iJ X0 dZ;obtain z|z:=aP.mp h0
  exact .inl ⟨f0,z,e1.symm,e2.symm⟩;obtain rfl:=ai.mp z;exact .inr ⟨e1,e2⟩
 ·obtain⟨f0,h0,_,_,_,k⟩:=iJ X0 hf;obtain⟨_,_,k⟩|⟨k,rfl⟩:=k
  rw[bP];intro z;obtain⟨z1,_⟩:=eT.mp z;obtain⟨_,w,hw,_⟩:=z1 ⟨f0.fN,tp,0,x⟩ (by rw[k];simp);have Ip:bj GW.id x g.W=ae w:=hw;rw[ok.fit.acW hn] at Ip;cases Ip
  ·obtain z|z:=aP.mp h0
   exact ok.Xh f z;obtain rfl:=ai.mp z;exact bM rfl k
 ·have e:dq {b with fams:=b.fams++[⟨b.next,0,0,0⟩],next:=b.next+1} g.nx.toNat x.toNat={b with people:=er ⟨x.toNat,b.next,0⟩ b.people,fams:=b.fams++[⟨b.next,0,0,1⟩],next:=b.next+1}:=by
   unfold dq;rw[A0.fam X0 (by have:=ok.fit.nx;omega),cB X0.lO hm rfl,hnn];show({people:=_,fams:=_,waits:=_,next:=_}:bB)=_;congr 1;show(b.fams++[_]).map _=_;rw[az];congr 1
   ·have:(b.fams.map λh=>if h.num=b.next then{h with next:=h.next+1} else h)=b.fams.map id:=by
     refine cu λh hh=>?_;obtain⟨f,hf,rfl⟩:=(A.mF h).mp hh;have:=(ok.fit.fam f hf).lt;have:=(ok.fit.fam f hf).pos;rw[aX (by show ¬f.num.toNat=b.next;omega)];rfl
    rw[this,IC]
   simp
  rw[e] at A1;exact A1
theorem abY(T:Txt w K mg t):dU P w K mg base kI 5 t.Jr t.Dx ["kept","x"] (abW t):=by
 refine T.Zh.ok abD (λvs H Q E h=>?_) (λiq Ar outer s H vs Q E hr h=>?_);obtain⟨k,b,x,rfl,_⟩:=h;rfl
 ·obtain⟨k,b,x,rfl,Ap,kp,sz,hx,q⟩:=h;obtain⟨g,KG,A,ok⟩:=id kp;refine⟨_,(ao (dr (kG (IY (d9 hr) (pv 1) (aT (pv 0) rfl))) (aD (bu (cv (ah (dE rfl T.x5) aw)))) bY) (ao (cJ (cX (pv 0) T.aR T.rR (rS T) hr.mo T.tS .nil bQ (ah (pv 1) (ah (cX (pv 0) T.aR T.sH (sL T) hr.mo T.tK .nil bQ (ah aQ (ah aQ aw))) aw)))) (aD (bu (cv (ah aQ (ah aQ aw))))))),?_⟩;refine⟨_,rfl,_,rfl,_,_,_,_,_,rfl,KG.kept,T.aR,T.dy,rfl,_,_,rfl,KG.r.J1,_,rfl,?_⟩;rw[bZ];have el:=A.lives ok.fit (i:=x) (by omega);have KX:Rm t H k b g:=⟨KG,A,ok⟩;have lP:=KX.zQ;have lF:=KX.Hi;have s1:=sz.1;have s2:=sz.2;cases e1:bj GP.id x g.P with
  |some p=>
   have el:il b x.toNat=true:=by rw[el,e1];rfl
   refine⟨AV,q.yi kp ?_ ?_⟩;unfold pY;rw[if_pos el];rfl;unfold pY;rw[if_pos el];rfl
  |none=>
   have el:il b x.toNat=false:=by rw[el,e1];rfl
   have nz:∀f∈g.F,f.num≠g.nx:=λf hf=>by have:=(ok.fit.fam f hf).lt;omega
   refine⟨_,rfl,_,_,_,rfl,KG.kept,rfl,_,rfl,_,rfl,_,_,_,rfl,KG.kept,rfl,k,g,0,0,rfl,KG,Ap,nz,(by have:aM=16777216:=rfl;omega),.inl rfl,λH1 o d ch tp0 fW S1=>?_⟩;have eFF:gh g.nx 0 0 0 o d ch tp0 g.F=g.F++[⟨g.nx,o,d,0,0,0,ch,[]⟩]:=if_pos rfl;rw[eFF] at fW S1;have hm:(⟨g.nx,o,d,0,0,0,ch,[]⟩:GF)∈g.F++[⟨g.nx,o,d,0,0,0,ch,[]⟩]:=bc _ (ai.mpr rfl);refine⟨k,_,x,g.nx,⟨g.nx,o,d,0,0,0,ch,[]⟩,rfl,fW,Ap,cB fW.xu hm rfl,(by show 0<aM;decide),(by show g.P.length<aM;have:aM=16777216:=rfl;omega),λH2 o2 d2 tp gG S2=>?_⟩;have eP:fQ GP.id ⟨x,o2,d2,g.nx,0⟩ g.P=g.P++[⟨x,o2,d2,g.nx,0⟩]:=pT (fV e1);dsimp only at gG S2;rw[eP] at gG S2;obtain⟨ok2,A2⟩:=abX ok A hx e1 (o:=o) (d:=d) (ch:=ch) (o2:=o2) (d2:=d2) (tp:=tp);have S:=S1.trans S2;refine⟨Yc,λl hl=>?_⟩;have eb:bL b (pY b x.toNat)=({b with people:=er ⟨x.toNat,b.next,0⟩ b.people,fams:=b.fams++[⟨b.next,0,0,1⟩],next:=b.next+1},[0,0]):=by
    unfold pY;rw[if_neg (by rw[el];decide)];rfl
   refine q _ l ?_ (S.live _ hl) ?_ ((S.frm KG).trans (xE.same (bC.new hl)));rw[eb];exact⟨_,gG.same (bC.new hl),A2,ok2⟩;rw[eb,aq];rfl
end
end
section
open Vbdeah (Bank)
def hv(g:G)(x:Int):Int:=if(bj GP.id x g.P).isSome=false then -10 else if(bj GW.id x g.W).isSome=true then -7 else 0
section
variable{g:G}{b:bB}{x:Int}
theorem D9(A:fz g b)(ok:cK g)(hx:0<x)(r:Vbdeah.R)(h:hv g x≠0):bL b (vK b x.toNat r)=(b,[hv g x]):=by
 unfold vK;rw[A.lives ok (by omega),A.waiting ok (by omega)];unfold hv at h⊢;cases e1:(bj GP.id x g.P).isSome with
 |false=>rfl
 |true=>
  cases e2:(bj GW.id x g.W).isSome with
  |true=>rfl
  |false=>rw[e1,e2] at h;exact bM rfl h
theorem xF(A:fz g b)(ok:cK g)(hx:0<x)(r:Vbdeah.R)(h:hv g x=0):vK b x.toNat r=r/\(∃p,bj GP.id x g.P=ae p)/\bj GW.id x g.W=ay:=by
 unfold vK;rw[A.lives ok (by omega),A.waiting ok (by omega)];unfold hv at h;cases e1:bj GP.id x g.P with
 |none=>rw[e1] at h;exact absurd h (by simp)
 |some p=>
  cases e2:bj GW.id x g.W with
  |some w=>rw[e1,e2] at h;exact absurd h (by simp)
  |none=>exact⟨rfl,⟨p,rfl⟩,rfl⟩
theorem pV.sub{F F':List GF}{n:Int}(L:pV F n F'):∀f'∈F',∃f∈F,f.num=f'.num/\f.par=f'.par:=by
 induction L with
 |zero=>exact λf hf=>⟨f,hf,rfl,rfl⟩
 |stop=>exact λf hf=>⟨f,hf,rfl,rfl⟩
 |top=>exact λf hf=>⟨f,(cw.mp hf).1,rfl,rfl⟩
 | @nest F F' f hf h0 hk hp L ih=>
  intro f' dZ;obtain⟨f1,h1,e1,e2⟩:=ih f' dZ;obtain⟨f0,h0,_,rfl⟩|⟨h0,_⟩:=e_ h1
  exact⟨f0,(cw.mp h0).1,e1,e2⟩;exact⟨f1,(cw.mp h0).1,e1,e2⟩
theorem pV.others{F F':List GF}{n:Int}(L:pV F n F'):∃m,∀f'∈F',f'.num≠m->f'∈F/\f'.num≠n:=by
 induction L with
 |zero=>exact⟨0,λf hf h=>⟨hf,h⟩⟩
 | @stop F f hf h0 hk=>exact⟨f.num,λf' dZ h=>⟨dZ,h⟩⟩
 | @top F f hf h0 hk hp=>exact⟨f.num,λf' dZ h=>⟨(cw.mp dZ).1,h⟩⟩
 | @nest F F' f hf h0 hk hp L ih=>
  obtain⟨m,hm⟩:=ih;refine⟨m,λf' dZ h=>?_⟩;obtain⟨h1,h2⟩:=hm f' dZ h;obtain⟨f0,_,e,rfl⟩|⟨h3,_⟩:=e_ h1
  exact bM e h2;exact cw.mp h3
theorem Um{m:Int}(nd:(g.F.map (·.num)).Nodup)(h:∀f∈g.F,f.num≠m->dG g f=false):uN g:=λf hf f' dZ a a'=>by
 have e1:f.num=m:=by
  by_cases z:f.num=m;exact z;rw[h f hf z] at a;cases a
 have e2:f'.num=m:=by
  by_cases z:f'.num=m;exact z;rw[h f' dZ z] at a';cases a'
 exact bh nd hf dZ (by omega)
theorem Gj(g:G):(dO g).length<=g.W.length:=by
 unfold dO;split;exact J9 _ _ _;exact cI _
end
section
variable{P:bg}{w:cn}{K:au}{mg:Str->Option ax}{base:df}{t:fO}
theorem Gk{D:Ends}{σ:L2.St}{H:Hp}{k:aj}{g:G}(h0:σ[0]? =ae (ae (.ref k)))(KG:cW t H k g)(wl:uM g)(szW:g.W.length<=2000)(Zw:∀f∈g.F,f.kids.length+1<4096)(q:∀H' l,cW t H' k {g with W:=gQ (dO g) g.W}->Step k g {g with W:=gQ (dO g) g.W} H H'->H l=ay->H' l=ae (.lst (.int 0:: .int (dO g).length::(dO g).map V.int))->D.rt (.ref l) H'):aa9 (tOp abo (YD (r9 (tC (.int 0)) EL)) (P_ (Cz t) [] E0 (r9 (EF 0) (r9 (P_ (x9 t) [] E0 (r9 (EF 0) EL)) EL)))) D σ H:=by
 have hlen:=Gj g;have B3:aM=16777216:=rfl;refine⟨AV,λp1 h1=>?_⟩;have fW:=KG.same (bC.new (o:= .lst [.int 0]) h1);have e1:upd H p1 (.lst [.int 0]) p1=ae (.lst [.int 0]):=aq;have s1:bC H (upd H p1 (.lst [.int 0])):=bC.new h1;generalize upd H p1 (.lst [.int 0])=H1 at fW e1 s1;refine⟨_,h0,_,h0,k,g,rfl,fW,wl,(by omega),Zw,λH2 l hl el s2=>?_⟩;have gG:=fW.same s2;refine⟨k,l,g,dO g,rfl,gG,el,(by omega),λH3 p3 pL S3 h3 e3=>?_⟩;have Y6:H3 p1=ae (.lst [.int 0]):=S3.keep _ _ (s2 _ _ e1) (gG.tT (s2 _ _ e1));refine⟨p1,p3,_,_,rfl,rfl,Y6,e3,?_,λp4 h4=>?_⟩;show 1+((dO g).map V.int).length.succ<=aM;rw[ag];omega;have S:=((Step.same (k:=k) (g:=g) s1).trans (Step.same s2)).trans S3;exact q _ p4 (pL.same (bC.new h4)) (S.trans (Step.same (bC.new h4))) (S.live _ h4) aq
end
end
section
open Vbdeah (Bank)
section
variable{P:bg}{w:cn}{K:au}{mg:Str->Option ax}{base:df}{t:fO}
theorem ne_int{i:Int}(h:(!decide (V.int i=V.int 0))=true):i≠0:=λz=>by rw[z] at h;exact bM h (by decide)
theorem eq_int{i:Int}(h:¬(!decide (V.int i=V.int 0))=true):i=0:=by
 by_cases z:i=0;exact z;exact absurd (by simp[z]) h
theorem bV.err{H:Hp}{k:aj}{b:bB}{r:bB×List Int}{Q:VK}{i:Int}(h:bV t H k r Q)(x:Kp t H k b)(e:r=(b,[i])):[V.int i].length<=aM/\∀p,H p=ay->Q (.ref p) (upd H p (.lst [V.int i])):=⟨by show 1<=aM;decide,h.yi x (by rw[e]) (by rw[e];rfl)⟩
theorem D_{ids:List Int}{i:Int}(h:∀z∈ids,0<z):(i::eC (di (ids.map fY))).map V.int= .int i:: .int ids.length::ids.map V.int:=by
 unfold eC;rw[aU,aU,ZH h];unfold di;rw[ag,ag]
theorem ZI{g:G}{b:bB}{x:Int}{p:GP}(ok:nP g)(A:fz g b)(hp:bj GP.id x g.P=ae p)(hw:bj GW.id x g.W=ay){F':List GF}(L:pV (jR g x p).F p.fam F'):cK {jR g x p with F:=F'}/\fz {jR g x p with F:=F'} (d5 b.fams.length {b with people:=bp x.toNat b.people} (bT b x.toNat))/\(∀f∈F',f.kids≠[])/\(∀f∈F',∀d,dF F' f.num d->d<=40)/\uN {jR g x p with F:=F'}:=by
 obtain⟨nH,e0⟩:=bD hp;have x0:0<x:=by rw[<-e0];exact(ok.fit.jo nH).1
 have Vs:=ok.fit.jo nH;have X1:=ok.fit.out hp hw;have A1:=A.out ok.fit hp;have ef:(bT b x.toNat)=p.fam.toNat:=by rw[A.famOf ok.fit (by omega),lX hp]
 have lF:b.fams.length=(jR g x p).F.length:=by
  rw[A.Hi ok.fit];show _=(setAt p.fam _ g.F).length;unfold setAt;rw[ag]
 have same:∀f∈(jR g x p).F,f.num≠p.fam->f∈g.F:=λf hf n=>by
  obtain⟨f0,_,e,rfl⟩|⟨h0,_⟩:=e_ hf
  exact bM e n;exact h0
 obtain⟨X2,A2,ne⟩:=Vp b.fams.length L X1 A1 (by omega) (.inr (by omega)) λf hf n=>ok.ne f (same f hf n);have sub:∀f'∈F',∃f∈g.F,f.num=f'.num/\f.par=f'.par:=λf' dZ=>by
  obtain⟨f,hf,e1,e2⟩:=L.sub f' dZ;obtain⟨f0,h0,_,rfl⟩|⟨h0,_⟩:=e_ hf
  exact⟨f0,h0,e1,e2⟩;exact⟨f,h0,e1,e2⟩
 rw[ef];refine⟨X2,A2,ne,λf hf d D=>?_,?_⟩;obtain⟨f0,h0,e1,_⟩:=sub f hf;exact ok.xD f0 h0 d (by rw[e1];exact D.mono sub);obtain⟨m,hm⟩:=L.others;refine Um (m:=m) X2.lO λf hf n=>?_;obtain⟨h1,h2⟩:=hm f hf n;exact ok.Xh f (same f h1 h2)
theorem cW.Zw{H:Hp}{k:aj}{g:G}{b:bB}(A:fz g b)(x:cK g)(h:b.people.length+b.fams.length<=4000):∀f∈g.F,f.kids.length+1<4096:=λf hf=>by
 have:=A.A_ x hf;omega
theorem cW.ajD{g:G}{b:bB}(A:fz g b)(x:cK g)(h:b.people.length+b.fams.length<=4002):∀f∈g.F,f.kids.length+1<4096:=λf hf=>by
 have:=A.A_ x hf;omega
theorem zW:∀(k:Nat) (b:bB) (n:Nat),(d5 k b n).people.length=b.people.length/\(d5 k b n).fams.length<=b.fams.length
 |0,b,n=>⟨rfl,aJ _⟩
 |k+1,b,n=>by
  unfold d5;split
  ·split;exact⟨rfl,aJ _⟩;rename_i f _;have:=zW k {b with fams:=b.fams.filter λh=>h.num !=n} f.parent;exact⟨this.1,bX this.2 (bf _ _)⟩
  exact⟨rfl,aJ _⟩
theorem uM.of{g:G}(x:cK g):uM g:=λw hw=>by
 obtain⟨p,hp,e⟩:=(x.t5 w hw).live;exact⟨p,cB x.yE hp e⟩
def ZJ(t:fO):Sp:=λvs H Q _=>∃(k:aj) (b:bB) (x:Int),vs=[.ref k,.int x]/\Apart t/\Kp t H k b/\Sz b/\0<x/\bV t H k (bL b (xM b x.toNat)) Q
theorem ZK(T:Txt w K mg t):dU P w K mg base kI 3 t.Dz t.zg ["kept","x"] (ZJ t):=by
 refine T.Vh.ok Jo (λvs H Q E h=>?_) (λiq Ar outer s H vs Q E hr h=>?_);obtain⟨k,b,x,rfl,_⟩:=h;rfl
 ·obtain⟨k,b,x,rfl,Ap,kp,sz,hx,q⟩:=h;obtain⟨g,KG,A,ok⟩:=id kp;have Nh:=sz.1;have J2:=sz.2;refine⟨_,(ao (cj (i:=2) Jo.nd rfl (bE rfl) (cX (pv 0) T.aR T.f7 (f9 T) hr.mo T.gn .nil bQ (ah (pv 1) aw))) (ao (dr (b_ r6 (pv 2) aQ (ck _)) (aD (bu (cv (ah (pv 2) aw)))) bY) (ao (cj (i:=3) Jo.nd rfl (bE rfl) (cX (pv 0) T.aR T.eM (eO T) hr.mo T.fE .nil bQ (ah (pv 1) aw))) (ao (cJ (cX (pv 0) T.aR T.rG (rH T) hr.mo T.tq .nil bQ (ah (pv 1) aw))) (ao (cJ (cX (pv 0) T.aR T.zq (zO T) hr.mo T.BG .nil bQ (ah (pv 3) aw))) (aD (bu (iO lS (cv (ah aQ aw)) (bI (m7 T) hr.mo rfl T.m5 T.nA.kp T.pS .nil bQ (ah (pv 0) (ah (bI (pF T) hr.mo rfl T.pE T.m6.kp T.qO .nil bQ (ah (pv 0) aw)) aw))))))))))),?_⟩;refine⟨_,rfl,_,_,_,rfl,KG.kept,rfl,_,rfl,k,g,x,rfl,KG.r,?_⟩;show rY _ _ _ [ae (.ref k),ae (.int x),ae (.int (hv g x)),ay] H;refine⟨_,rfl,rfl,_,rfl,?_⟩;refine cN (λc=>?_) (λc=>?_);exact⟨_,rfl,q.err kp (D9 A ok.fit hx _ (ne_int c))⟩
  ·obtain⟨ef,⟨p,hp⟩,hw⟩:=xF A ok.fit hx (Mz (e9 (d5 b.fams.length {b with people:=bp x.toNat b.people} (bT b x.toNat)))) (eq_int c);obtain⟨nH,e0⟩:=bD hp;refine⟨_,rfl,_,_,_,rfl,KG.kept,rfl,_,rfl,k,g,x,p,rfl,KG.r,hp,?_⟩;obtain⟨f,hf,e1,c,hc,e2,e3,e4⟩:=(ok.fit.qV p nH).fam;refine⟨_,rfl,_,_,_,rfl,KG.kept,rfl,_,rfl,k,g,x,p,f,c,rfl,KG,hp,cB KG.xu hf e1,cB (KG.fam f hf).nd hc e2,λH1 fW S1=>?_⟩;have X1:=ok.fit.out hp hw;have up:Up (jR g x p).F p.fam:=by
    have hm:(if f.num=p.fam then{f with kids:=cF GC.cf p.cf f.kids} else f)∈(jR g x p).F:=eQ hf;rw[bw e1] at hm;have:=X1.up _ hm (aJ _);rw[<-e1];exact this
   refine⟨_,rfl,_,_,_,rfl,fW.kept,rfl,_,rfl,k,_,p.fam,rfl,fW,up,λH2 F' L gG S2=>?_⟩;obtain⟨X2,A2,ne,xD,U⟩:=ZI ok A hp hw L;obtain⟨b1,b2⟩:=zW b.fams.length {b with people:=bp x.toNat b.people} (bT b x.toNat);have b3:(bp x.toNat b.people).length<=b.people.length:=bf _ _;have lW:g.W.length<=2000:=by
    have:=ok.fit.Hk;have:=A.zQ ok.fit;omega
   obtain⟨o1,o2,o3⟩:=Fv A2 X2 U ne xD;have S:=S1.trans S2;refine Gk (k:=k) rfl gG (uM.of X2) lW (cW.Zw (H:=H2) (k:=k) A2 X2 ?_) λH3 l pL S3 hl el=>?_;have b1':(d5 b.fams.length {b with people:=bp x.toNat b.people} (bT b x.toNat)).people.length=(bp x.toNat b.people).length:=b1;have b2':(d5 b.fams.length {b with people:=bp x.toNat b.people} (bT b x.toNat)).fams.length<=b.fams.length:=b2;omega
   ·have es:bL b (xM b x.toNat)=((e9 (d5 b.fams.length {b with people:=bp x.toNat b.people} (bT b x.toNat))).1,0::eC (di (e9 (d5 b.fams.length {b with people:=bp x.toNat b.people} (bT b x.toNat))).2)):=by
     unfold xM;rw[ef];rfl
    refine q H3 l ?_ (S.live _ hl) ?_ ((S.trans S3).frm KG);rw[es];exact⟨_,pL,o2,o3⟩;rw[es,el,o1];rw[D_ λz hz=>vF X2 hz];rfl
end
end
section
open Vbdeah (Bank)
section
variable{P:bg}{w:cn}{K:au}{mg:Str->Option ax}{base:df}{t:fO}
def Xi(g:G)(x:Int)(p:GP)(n:Int)(tp o d:aj)(s:Int):G:={jR g x p with F:=lT n x tp (jR g x p).F,P:=(jR g x p).P++[⟨x,o,d,n,s⟩]}
theorem zX{g:G}{x:Int}{p:GP}:bj GP.id x (jR g x p).P=ay:=by
 cases e:bj GP.id x (jR g x p).P with
 |none=>rfl
 |some q=>
  obtain⟨h1,h2⟩:=bD e;exact bM h2 (cw.mp h1).2
theorem ZL{g:G}{b:bB}{x n:Int}{p:GP}{f1:GF}(ok:nP g)(A:fz g b)(hp:bj GP.id x g.P=ae p)(hw:bj GW.id x g.W=ay)(Gc:f1∈(jR g x p).F)(en:f1.num=n)(nn:n≠p.fam){tp o d:aj}{F':List GF}(L:pV (Xi g x p n tp o d f1.fN).F p.fam F'):cK {Xi g x p n tp o d f1.fN with F:=F'}/\fz {Xi g x p n tp o d f1.fN with F:=F'} (d5 b.fams.length (dq {b with people:=bp x.toNat b.people} n.toNat x.toNat) (bT b x.toNat))/\(∀f∈F',f.kids≠[])/\(∀f∈F',∀d,dF F' f.num d->d<=40)/\uN {Xi g x p n tp o d f1.fN with F:=F'}:=by
 obtain⟨nH,e0⟩:=bD hp;have x0:0<x:=by rw[<-e0];exact(ok.fit.jo nH).1
 have Vs:=ok.fit.jo nH;have X1:=ok.fit.out hp hw;have A1:=A.out ok.fit hp;have X2:cK (Xi g x p n tp o d f1.fN):=X1.enter Gc en x0 zX;have A2:fz (Xi g x p n tp o d f1.fN) _:=A1.enter X1 Gc en x0 zX;have ef:(bT b x.toNat)=p.fam.toNat:=by rw[A.famOf ok.fit (by omega),lX hp]
 have lF:b.fams.length=(Xi g x p n tp o d f1.fN).F.length:=by
  rw[A.Hi ok.fit];show _=(setAt n _ (setAt p.fam _ g.F)).length;unfold setAt;rw[ag,ag]
 have same:∀f∈(jR g x p).F,f.num≠p.fam->f∈g.F:=λf hf n=>by
  obtain⟨f0,_,e,rfl⟩|⟨h0,_⟩:=e_ hf
  exact bM e n;exact h0
 obtain⟨X3,A3,ne⟩:=Vp b.fams.length L X2 A2 (by omega) (.inr (by omega)) λf hf nf=>by
  obtain⟨f0,h0,a1,_,_,k⟩:=iJ X1 hf;obtain⟨_,_,k⟩|⟨_,rfl⟩:=k
  rw[k];simp;exact ok.ne f (same f h0 nf)
 have sub:∀f'∈F',∃f∈g.F,f.num=f'.num/\f.par=f'.par:=λf' dZ=>by
  obtain⟨f,hf,e1,e2⟩:=L.sub f' dZ;obtain⟨f2,h2,a1,a2,_⟩:=iJ X1 hf;obtain⟨f0,h0,_,rfl⟩|⟨h0,_⟩:=e_ h2
  exact⟨f0,h0,a1.symm.trans e1,a2.symm.trans e2⟩;exact⟨f2,h0,by omega,by omega⟩
 rw[ef];refine⟨X3,A3,ne,λf hf d D=>?_,?_⟩;obtain⟨f0,h0,e1,_⟩:=sub f hf;exact ok.xD f0 h0 d (by rw[e1];exact D.mono sub)
 ·obtain⟨m,hm⟩:=L.others;refine Um (m:=m) X3.lO λf hf nf=>?_;obtain⟨h1,h2⟩:=hm f hf nf;obtain⟨f0,h0,a1,_,_,k⟩:=iJ X1 h1;obtain⟨_,_,k⟩|⟨_,rfl⟩:=k
  rw[bP];intro z;obtain⟨z1,_⟩:=eT.mp z;obtain⟨_,w,Ip,_⟩:=z1 ⟨f0.fN,tp,0,x⟩ (by rw[k];simp);have Rn:bj GW.id x g.W=ae w:=Ip;rw[hw] at Rn;cases Rn;exact ok.Xh f (same f h0 h2)
def ZM(t:fO):Sp:=λvs H Q _=>∃(k:aj) (b:bB) (x n:Int),vs=[.ref k,.int x,.int n]/\Apart t/\Kp t H k b/\Sz b/\0<x/\0<n/\bV t H k (bL b (Es b x.toNat n.toNat)) Q
theorem Fw(b:bB)(n x:Nat):(dq b n x).people.length<=b.people.length+1/\(dq b n x).fams.length=b.fams.length:=by
 unfold dq;have lp:∀(p:fT) (l:List fT),(er p l).length=l.length+1:=by
  intro p l;induction l with
  |nil=>rfl
  |cons a r ih=>
   unfold er;split;rfl;rw[aL,ih];rfl
 split;exact⟨nJ _,rfl⟩;exact⟨by show(er _ _).length<=_;rw[lp];exact aJ _,by show(List.map _ _).length=_;rw[ag]⟩
theorem ZN(T:Txt w K mg t):dU P w K mg base kI 5 t.Dy t.zc ["kept","x","number"] (ZM t):=by
 refine T.Vg.ok Jn (λvs H Q E h=>?_) (λiq Ar outer s H vs Q E hr h=>?_);obtain⟨k,b,x,n,rfl,_⟩:=h;rfl
 ·obtain⟨k,b,x,n,rfl,Ap,kp,sz,hx,hn,q⟩:=h;obtain⟨g,KG,A,ok⟩:=id kp;have Nh:=sz.1;have J2:=sz.2;have B3:aM=16777216:=rfl;refine⟨_,(ao (cj (i:=3) Jn.nd rfl (bE rfl) (cX (pv 0) T.aR T.f7 (f9 T) hr.mo T.gn .nil bQ (ah (pv 1) aw))) (ao (dr (b_ r6 (pv 3) aQ (ck _)) (aD (bu (cv (ah (pv 3) aw)))) bY) (ao (dr (kG (gC (d9 hr) (pv 2) (aT (pv 0) rfl))) (aD (bu (cv (ah (dE rfl T.kh) aw)))) bY) (ao (cj (i:=4) Jn.nd rfl (bE rfl) (cX (pv 0) T.aR T.eM (eO T) hr.mo T.fE .nil bQ (ah (pv 1) aw))) (ao (dr (b_ fC (pv 4) (pv 2) (ck _)) (aD (bu (cv (ah (dE rfl T.Oz) aw)))) bY) (ao (cJ (cX (pv 0) T.aR T.rG (rH T) hr.mo T.tq .nil bQ (ah (pv 1) aw))) (ao (cJ (cX (pv 0) T.aR T.rR (rS T) hr.mo T.tS .nil bQ (ah (pv 1) (ah (pv 2) aw)))) (ao (cJ (cX (pv 0) T.aR T.zq (zO T) hr.mo T.BG .nil bQ (ah (pv 4) aw))) (aD (bu (iO lS (cv (ah aQ aw)) (bI (m7 T) hr.mo rfl T.m5 T.nA.kp T.pS .nil bQ (ah (pv 0) (ah (bI (pF T) hr.mo rfl T.pE T.m6.kp T.qO .nil bQ (ah (pv 0) aw)) aw)))))))))))))),?_⟩;refine⟨_,rfl,_,_,_,rfl,KG.kept,rfl,_,rfl,k,g,x,rfl,KG.r,?_⟩;show rY _ _ _ [ae (.ref k),ae (.int x),ae (.int n),ae (.int (hv g x)),ay] H;refine⟨_,rfl,rfl,_,rfl,?_⟩;refine cN (λc=>?_) (λc=>?_);exact⟨_,rfl,q.err kp (D9 A ok.fit hx _ (ne_int c))⟩
  ·obtain⟨ef,⟨p,hp⟩,hw⟩:=xF A ok.fit hx (if(b.fam n.toNat).isNone=true then .err 6 else if bT b x.toNat=n.toNat then .err 4 else Mz (e9 (d5 b.fams.length (dq {b with people:=bp x.toNat b.people} n.toNat x.toNat) (bT b x.toNat)))) (eq_int c);have ead:Es b x.toNat n.toNat=if(b.fam n.toNat).isNone=true then .err 6 else if bT b x.toNat=n.toNat then .err 4 else Mz (e9 (d5 b.fams.length (dq {b with people:=bp x.toNat b.people} n.toNat x.toNat) (bT b x.toNat))):=ef
   rw[ead,A.fam ok.fit (by omega),Option.isNone_map,A.famOf ok.fit (by omega),lX hp] at q;obtain⟨nH,e0⟩:=bD hp;have Vs:=ok.fit.jo nH;refine⟨_,rfl,_,rfl,_,_,_,_,_,rfl,KG.kept,T.aR,T.bH,rfl,_,_,rfl,KG.r.Q9,_,rfl,?_⟩;rw[bZ];cases en:bj GF.num n g.F with
   |none=>
    rw[en] at q;exact q.err kp rfl
   |some f1=>
    rw[en] at q;obtain⟨Gc,ef1⟩:=bD en;refine⟨_,rfl,_,_,_,rfl,KG.kept,rfl,_,rfl,k,g,x,p,rfl,KG.r,hp,?_⟩;refine⟨_,rfl,_,rfl,rfl,_,rfl,?_⟩;refine cN (λc2=>?_) (λc2=>?_);have e2:p.fam=n:=V.int.inj (of_decide_eq_true c2);rw[if_neg (by simp),if_pos (by rw[e2])] at q;exact q.err kp rfl
    ·have n2:n≠p.fam:=λz=>c2 (by rw[z];simp);rw[if_neg (by simp),if_neg (by omega)] at q;obtain⟨f,hf,e1,c,hc,e2,e3,e4⟩:=(ok.fit.qV p nH).fam;refine⟨_,rfl,_,_,_,rfl,KG.kept,rfl,_,rfl,k,g,x,p,f,c,rfl,KG,hp,cB KG.xu hf e1,cB (KG.fam f hf).nd hc e2,λH1 fW S1=>?_⟩;have X1:=ok.fit.out hp hw;have A1:=A.out ok.fit hp;have hm1:f1∈(jR g x p).F:=by
      have:=eQ (n:=p.fam) (u:=λh=>{h with kids:=cF GC.cf p.cf h.kids}) Gc;rw[aX (by omega)] at this;exact this
     have l1:f1.kids.length<=4000:=by
      have:=A.A_ ok.fit Gc;omega
     have lP1:(jR g x p).P.length<=2000:=by
      have:=A.zQ ok.fit;have:(cF GP.id x g.P).length<=g.P.length:=bf _ _;show(cF GP.id x g.P).length<=2000;omega
     refine⟨_,rfl,_,_,_,rfl,fW.kept,rfl,_,rfl,_,rfl,k,_,x,n,f1,rfl,fW,Ap,cB fW.xu hm1 ef1,(by omega),(by show(jR g x p).P.length<aM;omega),λH2 o2 d2 tp gG S2=>?_⟩;have eP:fQ GP.id ⟨x,o2,d2,n,f1.fN⟩ (jR g x p).P=(jR g x p).P++[⟨x,o2,d2,n,f1.fN⟩]:=pT (fV zX);have age:cW t H2 k (Xi g x p n tp o2 d2 f1.fN):=by
      unfold Xi;rw[<-eP];exact gG
     have S2':Step k (jR g x p) (Xi g x p n tp o2 d2 f1.fN) H1 H2:=by
      unfold Xi;rw[<-eP];exact S2
     have X2:cK (Xi g x p n tp o2 d2 f1.fN):=X1.enter hm1 ef1 hx zX;have up:Up (Xi g x p n tp o2 d2 f1.fN).F p.fam:=by
      have hm:(if f.num=p.fam then{f with kids:=cF GC.cf p.cf f.kids} else f)∈(jR g x p).F:=eQ hf;rw[bw e1] at hm;obtain⟨f3,hf3,a1,_⟩:=t6 (n:=n) (x:=x) (tp:=tp) X1 hm;have:=X2.up _ hf3 (aJ _);have e:f3.num=p.fam:=by rw[a1];exact e1
      rw[<-e];exact this
     refine⟨_,rfl,_,_,_,rfl,age.kept,rfl,_,rfl,k,_,p.fam,rfl,age,up,λH3 F' L pL S3=>?_⟩;obtain⟨X3,A3,ne,xD,U⟩:=ZL ok A hp hw hm1 ef1 n2 L;obtain⟨b1,b2⟩:=zW b.fams.length (dq {b with people:=bp x.toNat b.people} n.toNat x.toNat) (bT b x.toNat);obtain⟨c1,c2⟩:=Fw {b with people:=bp x.toNat b.people} n.toNat x.toNat;have b3:(bp x.toNat b.people).length<=b.people.length:=bf _ _;have lW:g.W.length<=2000:=by
      have:=ok.fit.Hk;have:=A.zQ ok.fit;omega
     obtain⟨o1,o2',o3⟩:=Fv A3 X3 U ne xD;have S:=(S1.trans S2').trans S3;refine Gk (k:=k) rfl pL (uM.of X3) lW (cW.ajD A3 X3 ?_) λH4 l BX S4 hl el=>?_;have c1':(dq {b with people:=bp x.toNat b.people} n.toNat x.toNat).people.length<=(bp x.toNat b.people).length+1:=c1;have c2':(dq {b with people:=bp x.toNat b.people} n.toNat x.toNat).fams.length=b.fams.length:=c2;omega
     ·have ef2:bT b x.toNat=p.fam.toNat:=by rw[A.famOf ok.fit (by omega),lX hp]
      rw[<-ef2] at q;refine q H4 l ?_ (S.live _ hl) ?_ ((S.trans S4).frm KG);exact⟨_,BX,o2',o3⟩;rw[el];show _=ae (HO.lst ((0::eC (di (e9 _).2)).map V.int));rw[o1,D_ λz hz=>vF X3 hz]
end
end
section
open Vbdeah (Bank)
section
variable{P:bg}{w:cn}{K:au}{mg:Str->Option ax}{base:df}{t:fO}
theorem Xj{g:G}(x:nP g){F':List GF}(h:∀f'∈F',(∃f∈g.F,f.num=f'.num/\f.par=f'.par)\/(f'.num=g.nx/\f'.par<g.nx/\∀d,dF g.F f'.par d->d<40))(nd:(F'.map (·.num)).Nodup):∀f∈F',∀d,dF F' f.num d->d<=40:=by
 have key:∀{n:Int} {d:Nat},dF F' n d->n<g.nx->dF g.F n d:=by
  intro n d D;induction D with
  |zero=>intro _;exact .zero
  | @succ f' d dZ h0 hp _ ih=>
   intro hn;obtain⟨f1,h1,a1,a2⟩|⟨a1,_⟩:=h f' dZ
   rw[<-a1];refine .succ h1 (by omega) (by omega) (by rw[a2];exact ih (by omega));omega
 intro f hf d D;obtain⟨f0,h0,e1,e2⟩|⟨e1,e2,e3⟩:=h f hf
 refine x.xD f0 h0 d ?_;rw[e1];exact key D (by have:=(x.fit.fam f0 h0).lt;omega)
 ·generalize hz:f.num=z at D;cases D with
  |zero=>exact cI _
  | @succ f1 d1 Gc h01 hp1 D1=>
   obtain rfl:=bh nd Gc hf hz.symm;have:=e3 d1 (key D1 e2);omega
def foG(g:G)(p:GP)(o d ch tp o2 d2 Vx:aj):G:={g with F:=lT g.nx p.id Vx (putKid p.fam ⟨p.cf,tp,1,g.nx⟩ (g.F++[⟨g.nx,o,d,p.fam,p.cf,0,ch,[]⟩])),P:=fQ GP.id ⟨p.id,o2,d2,g.nx,0⟩ g.P,nx:=g.nx+1}
theorem ZO{g:G}{b:bB}{p:GP}(ok:nP g)(A:fz g b)(hp:p∈g.P)(hw:bj GW.id p.id g.W=ay)(hd:∀d,dF g.F p.fam d->d<40){o d ch tp o2 d2 Vx:aj}:nP (foG g p o d ch tp o2 d2 Vx)/\fz (foG g p o d ch tp o2 d2 Vx) {b with people:=er ⟨p.id.toNat,b.next,0⟩ (bp p.id.toNat b.people),fams:=b.fams++[⟨b.next,p.fam.toNat,p.cf.toNat,1⟩],next:=b.next+1}:=by
 have Vs:=ok.fit.jo hp;obtain⟨fo,Vr,Hj,cx,hcx,ex1,ex2,ex3⟩:=(ok.fit.qV p hp).fam;have flt:=(ok.fit.fam fo Vr).lt;have X1:=ok.fit.found hp hw (o:=o) (d:=d) (ch:=ch) (tp:=tp);have A1:=A.found ok.fit hp (o:=o) (d:=d) (ch:=ch) (tp:=tp);obtain⟨fn,hfn,en,_,_,en4,_⟩:∃f'∈(zS g p o d ch tp).F,f'.num=g.nx/\f'.par=p.fam/\f'.cf=p.cf/\f'.fN=0/\True:=by
  obtain⟨f',dZ,a1,a2,a3,a4,_⟩:=pN (n:=p.fam) (c:=⟨p.cf,tp,1,g.nx⟩) (F:=g.F++[(⟨g.nx,o,d,p.fam,p.cf,0,ch,[]⟩:GF)]) (bc _ (ai.mpr rfl));exact⟨f',dZ,a1,a2,a3,a4,trivial⟩
 have acY:bj GP.id p.id (zS g p o d ch tp).P=ay:=zX (p:=p);have X2:=X1.enter (tp:=Vx) (o:=o2) (d:=d2) hfn en Vs.1 acY;have A2:=A1.enter X1 (tp:=Vx) (o:=o2) (d:=d2) hfn en Vs.1 acY;have mem:∀q,q∈fQ GP.id ⟨p.id,o2,d2,g.nx,0⟩ g.P↔q∈(zS g p o d ch tp).P++[⟨p.id,o2,d2,g.nx,fn.fN⟩]:=λq=>by
  rw[en4,e8,aP,ai];show _↔q∈cF GP.id p.id g.P\/_;rw[cw];constructor
  ·rintro (h|h);exact .inr h;exact .inl h
  ·rintro (h|h);exact .inr h;exact .inl h
 have X3:cK (foG g p o d ch tp o2 d2 Vx):=X2.perm mem (zK ok.fit.yE);have A3:fz (foG g p o d ch tp o2 d2 Vx) _:=A2.perm mem;have cls:∀f'∈(foG g p o d ch tp o2 d2 Vx).F,(∃f∈g.F,f.num=f'.num/\f.par=f'.par/\(f.num≠p.fam->f'.kids=f.kids)/\(f.num=p.fam->(⟨p.cf,tp,1,g.nx⟩:GC)∈f'.kids))\/(f'.num=g.nx/\f'.par=p.fam/\∃s,(⟨s,Vx,0,p.id⟩:GC)∈f'.kids):=λf' dZ=>by
  obtain⟨f1,h1,a1,a2,_,k⟩:=iJ X1 dZ;obtain⟨f0,h0,c1,c2,_,_,kk⟩:=pX h1;obtain z|z:=aP.mp h0
  ·have lt0:=(ok.fit.fam f0 z).lt;obtain⟨k1,_⟩|⟨_,rfl⟩:=k
   omega
   ·refine .inl ⟨f0,z,by omega,by omega,λnf=>?_,λe=>?_⟩
    ·obtain⟨y,_⟩|⟨_,rfl⟩:=kk
     exact bM y nf;rfl
    ·obtain⟨_,y⟩|⟨y,_⟩:=kk
     rw[y];exact e8.mpr (.inl rfl);exact bM e y
  ·obtain rfl:=ai.mp z;have c1':f1.num=g.nx:=c1;have c2':f1.par=p.fam:=c2;obtain⟨_,_,k3⟩|⟨k1,_⟩:=k
   exact .inr ⟨by omega,by omega,_,by rw[k3];exact bc _ (ai.mpr rfl)⟩;exact bM c1' k1
 refine⟨⟨X3,λf' dZ=>?_,Xj ok (λf' dZ=>?_) X3.lO,λf' dZ=>?_⟩,?_⟩
 ·obtain⟨f,hf,_,_,c3,c4⟩|⟨_,_,s,c3⟩:=cls f' dZ
  ·by_cases e:f.num=p.fam;exact vg (c4 e);rw[c3 e];exact ok.ne f hf
  exact vg c3
 ·obtain⟨f,hf,c1,c2,_⟩|⟨c1,c2,_⟩:=cls f' dZ
  exact .inl ⟨f,hf,c1,c2⟩;exact .inr ⟨c1,by omega,by rw[c2];exact hd⟩
 ·obtain⟨f,hf,_,_,c3,c4⟩|⟨_,_,s,c3⟩:=cls f' dZ
  ·by_cases e:f.num=p.fam;rw[bP];intro z;have:=((eT.mp z).1 _ (c4 e)).1;exact bM this (by show ¬(1:Int)=0;decide);rw[<-ok.Xh f hf];exact kj (by rw[c3 e]) λ_ _=>rfl
  rw[bP];intro z;obtain⟨_,w,Ip,_⟩:=(eT.mp z).1 _ c3;have Rn:bj GW.id p.id g.W=ae w:=Ip;rw[hw] at Rn;cases Rn
 ·have en':=A.nx;have hnn:g.nx.toNat=b.next:=by omega
  have e:dq {b with people:=bp p.id.toNat b.people,fams:=b.fams++[⟨b.next,p.fam.toNat,p.cf.toNat,0⟩],next:=b.next+1} g.nx.toNat p.id.toNat={b with people:=er ⟨p.id.toNat,b.next,0⟩ (bp p.id.toNat b.people),fams:=b.fams++[⟨b.next,p.fam.toNat,p.cf.toNat,1⟩],next:=b.next+1}:=by
   unfold dq;rw[A1.fam X1 (by have:=ok.fit.nx;omega),cB X1.lO hfn en,hnn];show({people:=er ⟨_,_,fn.fN.toNat⟩ _,fams:=_,waits:=_,next:=_}:bB)=_;rw[en4];congr 1;show(b.fams++[_]).map _=_;rw[az];congr 1
   ·have:(b.fams.map λh=>if h.num=b.next then{h with next:=h.next+1} else h)=b.fams.map id:=by
     refine cu λh hh=>?_;obtain⟨f,hf,rfl⟩:=(A.mF h).mp hh;have:=(ok.fit.fam f hf).lt;have:=(ok.fit.fam f hf).pos;rw[aX (by show ¬f.num.toNat=b.next;omega)];rfl
    rw[this,IC]
   simp
  rw[e] at A3;exact A3
def Hl(t:fO):Sp:=λvs H Q _=>∃(k:aj) (b:bB) (x:Int),vs=[.ref k,.int x]/\Apart t/\Kp t H k b/\Sz b/\0<x/\bV t H k (bL b (Et b x.toNat)) Q
theorem Hm(T:Txt w K mg t):dU P w K mg base kI 5 t.mG t.lh ["kept","x"] (Hl t):=by
 refine T.zu.ok tj (λvs H Q E h=>?_) (λiq Ar outer s H vs Q E hr h=>?_);obtain⟨k,b,x,rfl,_⟩:=h;rfl
 ·obtain⟨k,b,x,rfl,Ap,kp,sz,hx,q⟩:=h;obtain⟨g,KG,A,ok⟩:=id kp;have Nh:=sz.1;have J2:=sz.2;have B3:aM=16777216:=rfl;refine⟨_,(ao (cj (i:=2) tj.nd rfl (bE rfl) (cX (pv 0) T.aR T.f7 (f9 T) hr.mo T.gn .nil bQ (ah (pv 1) aw))) (ao (dr (b_ r6 (pv 2) aQ (ck _)) (aD (bu (cv (ah (pv 2) aw)))) bY) (ao (cj (i:=3) tj.nd rfl (bE rfl) (cX (pv 0) T.aR T.eM (eO T) hr.mo T.fE .nil bQ (ah (pv 1) aw))) (ao (dr (b_ fC (cX (pv 0) T.aR T.BH (BZ T) hr.mo T.DH .nil bQ (ah (pv 3) aw)) (dE rfl T.Nb) (ck _)) (aD (bu (cv (ah (dE rfl T.T') aw)))) bY) (ao (cJ (cX (pv 0) T.aR T.rR (rS T) hr.mo T.tS .nil bQ (ah (pv 1) (ah (cX (pv 0) T.aR T.sH (sL T) hr.mo T.tK .nil bQ (ah (pv 3) (ah (aT (fq (d9 hr) (aT (pv 0) rfl) (pv 1) (λ_ _=>rfl)) rfl) aw))) aw)))) (aD (bu (cv (ah aQ (ah aQ aw)))))))))),?_⟩;refine⟨_,rfl,_,_,_,rfl,KG.kept,rfl,_,rfl,k,g,x,rfl,KG.r,?_⟩;show rY _ _ _ [ae (.ref k),ae (.int x),ae (.int (hv g x)),ay] H;refine⟨_,rfl,rfl,_,rfl,?_⟩;refine cN (λc=>?_) (λc=>?_);exact⟨_,rfl,q.err kp (D9 A ok.fit hx _ (ne_int c))⟩
  ·obtain⟨ef,⟨p,hp⟩,hw⟩:=xF A ok.fit hx (match b.person x.toNat with
    |none=>MA 10
    |some p=>if fA<=(gT b p.fam).length then .err 5
     else .ok {b with people:=er ⟨x.toNat,b.next,0⟩ (bp x.toNat b.people),fams:=b.fams++[⟨b.next,p.fam,p.serial,1⟩],next:=b.next+1} []) (eq_int c)
   obtain⟨nH,rfl⟩:=bD hp;have Vs:=ok.fit.jo nH;have Hj:Et b p.id.toNat=if fA<=(gT b p.fam.toNat).length then .err 5
     else .ok {b with people:=er ⟨p.id.toNat,b.next,0⟩ (bp p.id.toNat b.people),fams:=b.fams++[⟨b.next,p.fam.toNat,p.cf.toNat,1⟩],next:=b.next+1} []:=by
    refine Eq.trans ef ?_;rw[A.person ok.fit (by omega),hp];rfl
   obtain⟨fo,Vr,agf,cx,hcx,ex1,ex2,ex3⟩:=(ok.fit.qV p nH).fam;obtain⟨dd,YW⟩:=ok.fit.depth _ Vr (aJ _);have hle:=ok.xD fo Vr dd YW;rw[agf] at YW;rw[Hj,A.Vq ok.fit YW (by omega)] at q;refine⟨_,rfl,_,_,_,rfl,KG.kept,rfl,_,rfl,k,g,p.id,p,rfl,KG.r,hp,?_⟩;refine⟨_,rfl,_,_,_,rfl,KG.kept,rfl,_,rfl,k,g,p.fam,dd,rfl,KG.r,YW,(by omega),λH0 s0=>⟨rfl,_,rfl,?_⟩⟩;have KG0:=KG.same s0;have kp0:Kp t H0 k b:=kp.same s0;refine cN (λc2=>?_) (λc2=>?_)
   ·have e40:dd=40:=by have:=V.int.inj (aY c2);omega
    rw[bw (by show 40<=dd;omega)] at q;exact(q.from s0).err kp0 rfl
   ·have n40:dd≠40:=λz=>c2 (by rw[z];rfl);rw[aX (by show ¬40<=dd;omega)] at q;have nz:∀f∈g.F,f.num≠g.nx:=λf hf=>by have:=(ok.fit.fam f hf).lt;omega
    have lF:=A.Hi ok.fit;have lP:=A.zQ ok.fit;have lK:=A.A_ ok.fit Vr;refine⟨_,rfl,_,_,_,rfl,KG0.kept,rfl,_,rfl,_,rfl,_,_,_,rfl,KG0.kept,rfl,_,rfl,_,rfl,_,_,_,_,_,rfl,KG0.kept,T.aR,T.dy,rfl,_,rfl,_,_,rfl,KG0.Q_ hp,_,_,_,_,_,rfl,KG0.qQ p nH,T.lN,T.kc,rfl,?_⟩;refine⟨k,g,p.fam,p.cf,rfl,KG0,Ap,nz,(by omega),.inr ⟨fo,cB ok.fit.lO Vr agf,by omega⟩,λH3 o d ch tp pL S30=>?_⟩;have ePF:gh g.nx p.fam p.cf 0 o d ch tp g.F=putKid p.fam ⟨p.cf,tp,1,g.nx⟩ (g.F++[(⟨g.nx,o,d,p.fam,p.cf,0,ch,[]⟩:GF)]):=aX (by omega);rw[ePF] at pL S30;have S3:=(Step.same s0).trans S30;have X1:=ok.fit.found nH hw (o:=o) (d:=d) (ch:=ch) (tp:=tp);obtain⟨fn,hfn,en,_,_,en4,ek⟩:∃f'∈putKid p.fam ⟨p.cf,tp,1,g.nx⟩ (g.F++[(⟨g.nx,o,d,p.fam,p.cf,0,ch,[]⟩:GF)]),f'.num=g.nx/\f'.par=p.fam/\f'.cf=p.cf/\f'.fN=0/\f'.kids=[]:=by
     have hmm:=eQ (n:=p.fam) (u:=λh=>{h with kids:=fQ GC.cf ⟨p.cf,tp,1,g.nx⟩ h.kids}) (F:=g.F++[(⟨g.nx,o,d,p.fam,p.cf,0,ch,[]⟩:GF)]) (bc _ (ai.mpr rfl));rw[aX (by show ¬g.nx=p.fam;have:=(ok.fit.fam fo Vr).lt;omega)] at hmm;exact⟨_,hmm,rfl,rfl,rfl,rfl,rfl⟩
    refine⟨k,_,p.id,g.nx,fn,rfl,pL,Ap,cB pL.xu hfn en,(by rw[ek];show 0<aM;decide),(by show g.P.length<aM;omega),λH4 o2 d2 Vx BX S4=>?_⟩;rw[en4] at BX S4;obtain⟨ok4,A4⟩:=ZO ok A nH hw (λd hd=>by rw[hd.uniq ok.fit.lO YW];omega) (o:=o) (d:=d) (ch:=ch) (tp:=tp) (o2:=o2) (d2:=d2) (Vx:=Vx);have S:=S3.trans S4;refine⟨Yc,λl hl=>?_⟩;refine q _ l ?_ (S.live _ hl) aq ((S.frm KG).trans (xE.same (bC.new hl)));exact⟨foG g p o d ch tp o2 d2 Vx,BX.same (bC.new hl),A4,ok4⟩
end
end
section
open Vbdeah (Bank)
section
variable{P:bg}{w:cn}{K:au}{mg:Str->Option ax}{base:df}{t:fO}
theorem ZP{g:G}{b:bB}{p:GP}{f:GF}(ok:nP g)(A:fz g b)(hp:p∈g.P)(hw:bj GW.id p.id g.W=ay)(hf:f∈g.F)(ef:f.num=p.fam)(h0:f.par≠0)(h1:f.kids.length=1){o d tp:aj}:nP (zT g p f o d tp):=by
 have X1:=ok.fit.close hp hf ef h0 h1 (o:=o) (d:=d) (tp:=tp);have cls:∀f'∈(zT g p f o d tp).F,∃f0∈g.F,f0.num=f'.num/\f0.par=f'.par/\(f0.num≠f.par->f'.kids=f0.kids)/\(f0.num=f.par->(⟨f.cf,tp,0,p.id⟩:GC)∈f'.kids):=λf' dZ=>by
  obtain⟨aei,nf'⟩:=cw.mp dZ;obtain⟨f0,uZ,e1,e2,e3,e4,k⟩:=pX aei;refine⟨f0,uZ,e1.symm,e2.symm,λn=>?_,λe=>?_⟩
  ·obtain⟨y,_⟩|⟨_,rfl⟩:=k
   exact bM y n;rfl
  ·obtain⟨_,y⟩|⟨y,_⟩:=k
   rw[y];exact e8.mpr (.inl rfl);exact bM e y
 refine⟨X1,λf' dZ=>?_,λf' dZ d D=>?_,λf' dZ=>?_⟩
 ·obtain⟨f0,uZ,_,_,c3,c4⟩:=cls f' dZ;by_cases e:f0.num=f.par;exact vg (c4 e);rw[c3 e];exact ok.ne f0 uZ
 ·obtain⟨f0,uZ,c1,_⟩:=cls f' dZ;refine ok.xD f0 uZ d ?_;rw[c1];exact D.mono λq hq=>by
   obtain⟨q0,Rk,a1,a2,_⟩:=cls q hq;exact⟨q0,Rk,a1,a2⟩
 ·obtain⟨f0,uZ,_,_,c3,c4⟩:=cls f' dZ;by_cases e:f0.num=f.par;rw[bP];intro z;obtain⟨_,w,Ip,_⟩:=(eT.mp z).1 _ (c4 e);have Rn:bj GW.id p.id g.W=ae w:=Ip;rw[hw] at Rn;cases Rn;rw[<-ok.Xh f0 uZ];exact kj (by rw[c3 e]) λ_ _=>rfl
theorem fz.aek{g:G}{b:bB}{p:GP}{f:GF}(A:fz g b)(x:cK g)(hp:p∈g.P)(hf:f∈g.F)(ef:f.num=p.fam):((cC b f.num.toNat).length≠1\/(cH b f.num.toNat).isEmpty=false)↔f.kids.length≠1:=by
 have e:=da gE (A.kids x hf);rw[zU,ag] at e;have h1:0<(cC b f.num.toNat).length:=yp (pW.mpr ⟨(A.mP (Vm p)).mpr ⟨p,hp,rfl⟩,by show p.fam.toNat=_;rw[ef]⟩);have h2:(cH b f.num.toNat).isEmpty=false↔(cH b f.num.toNat).length≠0:=by
  rw[bP,ne_eq,ip,ne_eq,aV]
 rw[h2];omega
def Hn(t:fO):Sp:=λvs H Q _=>∃(k:aj) (b:bB) (x:Int),vs=[.ref k,.int x]/\Apart t/\Kp t H k b/\Sz b/\0<x/\bV t H k (bL b (Eu b x.toNat)) Q
theorem Ho(T:Txt w K mg t):dU P w K mg base kI 4 t.mH t.lj ["kept","x"] (Hn t):=by
 refine T.zx.ok oW (λvs H Q E h=>?_) (λiq Ar outer s H vs Q E hr h=>?_);obtain⟨k,b,x,rfl,_⟩:=h;rfl
 ·obtain⟨k,b,x,rfl,Ap,kp,sz,hx,q⟩:=h;obtain⟨g,KG,A,ok⟩:=id kp;have Nh:=sz.1;have J2:=sz.2;have B3:aM=16777216:=rfl;refine⟨_,(ao (cj (i:=2) oW.nd rfl (bE rfl) (cX (pv 0) T.aR T.f7 (f9 T) hr.mo T.gn .nil bQ (ah (pv 1) aw))) (ao (dr (b_ r6 (pv 2) aQ (ck _)) (aD (bu (cv (ah (pv 2) aw)))) bY) (ao (cj (i:=3) oW.nd rfl (bE rfl) (cX (pv 0) T.aR T.eM (eO T) hr.mo T.fE .nil bQ (ah (pv 1) aw))) (ao (cj (i:=4) oW.nd rfl (bE rfl) (fq (d9 hr) (aT (pv 0) rfl) (pv 3) (λ_ _=>rfl))) (ao (dr (PW.pt (UO (b_ fC (aT (pv 4) rfl) aQ (ck _)) (NS (b_ FR (cM pR (by rfl) T.eG bz (ah (aT (pv 4) rfl) aw)) aQ (ck _))))) (aD (bu (cv (ah (dE rfl T.zG) aw)))) bY) (ao (cJ (cX (pv 0) T.aR T.zo (zN T) hr.mo T.Cr .nil bQ (ah (pv 1) (ah (aT (pv 4) rfl) (ah (aT (pv 4) rfl) aw))))) (ao (cJ (ue (aT (pv 0) rfl) (pv 3) ⟨rfl,rfl,rfl,rfl⟩)) (aD (bu (cv (ah aQ (ah aQ aw)))))))))))),?_⟩;refine⟨_,rfl,_,_,_,rfl,KG.kept,rfl,_,rfl,k,g,x,rfl,KG.r,?_⟩;show rY _ _ _ [ae (.ref k),ae (.int x),ae (.int (hv g x)),ay,ay] H;refine⟨_,rfl,rfl,_,rfl,?_⟩;refine cN (λc=>?_) (λc=>?_);exact⟨_,rfl,q.err kp (D9 A ok.fit hx _ (ne_int c))⟩
  ·obtain⟨ef,⟨p,hp⟩,hw⟩:=xF A ok.fit hx (match b.fam (bT b x.toNat) with
    |none=>MA 10
    |some g=>if g.parent=0\/(cC b g.num).length≠1\/(cH b g.num).isEmpty=false then .err 8
     else .ok {b with people:=er ⟨x.toNat,g.parent,g.serial⟩ (bp x.toNat b.people),fams:=b.fams.filter λh=>h.num !=g.num} []) (eq_int c)
   obtain⟨nH,rfl⟩:=bD hp;have Vs:=ok.fit.jo nH;obtain⟨f,hf,e1,cx,hcx,ex1,ex2,ex3⟩:=(ok.fit.qV p nH).fam;have nnf:=ok.fit.fe hf;have Hj:Eu b p.id.toNat=if f.par.toNat=0\/(cC b f.num.toNat).length≠1\/(cH b f.num.toNat).isEmpty=false then .err 8
     else .ok {b with people:=er ⟨p.id.toNat,f.par.toNat,f.cf.toNat⟩ (bp p.id.toNat b.people),fams:=b.fams.filter λh=>h.num !=f.num.toNat} []:=by
    refine Eq.trans ef ?_;rw[A.famOf ok.fit (by omega),lX hp,A.fam ok.fit (by omega),cB ok.fit.lO hf e1];rfl
   rw[Hj] at q;have agg:=A.aek ok.fit nH hf e1;have gf:bj GF.num p.fam g.F=ae f:=cB KG.xu hf e1;refine⟨_,rfl,_,_,_,rfl,KG.kept,rfl,_,rfl,k,g,p.id,p,rfl,KG.r,hp,?_⟩;refine⟨_,rfl,_,_,_,_,_,rfl,KG.kept,T.aR,T.bH,rfl,_,rfl,_,_,rfl,KG.sJ gf,?_⟩;refine⟨_,rfl,_,_,_,_,_,rfl,(KG.fam f hf).obj,T.dB,T.fS,rfl,rfl,_,rfl,?_⟩;refine cN (λc2=>?_) (λc2=>?_);have e0:f.par=0:=V.int.inj (aY c2);rw[bw (.inl (by rw[e0];rfl))] at q;exact N7 (q.err kp rfl)
   ·have n0:f.par≠0:=λz=>c2 (by rw[z];rfl);refine⟨_,rfl,_,_,_,_,_,rfl,(KG.fam f hf).obj,T.dB,T.dI,rfl,_,_,rfl,.inl (KG.fam f hf).yt,_,_,rfl,rfl,_,rfl,?_⟩;have kne:=ok.ne f hf;have kl:0<f.kids.length:=List.length_pos_iff.mpr kne;refine cN (λc3=>?_) (λc3=>?_);have l2:(1:Int)<((f.kids.map uX).length:Nat):=aY c3;rw[ag] at l2;rw[bw (.inr (agg.mpr (by omega)))] at q;exact q.err kp rfl
    ·have l2:¬(1:Int)<((f.kids.map uX).length:Nat):=λz=>c3 (bG z);rw[ag] at l2;have l1:f.kids.length=1:=by omega
     rw[aX (by
      rintro (z|z);omega;exact agg.mp z l1)] at q
     obtain⟨pa,SG,epa,cp,hcp,ep1,ep2,ep3⟩:∃h∈g.F,h.num=f.par/\∃c∈h.kids,c.cf=f.cf/\c.sort=1/\c.id=f.num:=by
      obtain⟨z,_⟩|⟨_,_,z⟩:=(ok.fit.fam f hf).par
      exact bM z n0;exact z
     have lP:=A.zQ ok.fit;have lK:=A.A_ ok.fit SG;refine⟨_,rfl,_,_,_,rfl,KG.kept,rfl,_,rfl,_,rfl,_,_,_,_,_,rfl,(KG.fam f hf).obj,T.dB,T.fS,rfl,_,rfl,_,_,_,_,_,rfl,(KG.fam f hf).obj,T.dB,T.ny,rfl,?_⟩;refine⟨k,g,p.id,f.par,f.cf,pa,rfl,KG,cB KG.xu SG epa,(by omega),(by omega),λH1 o d tp fW S1=>?_⟩;have hfd:∃f1∈putKid f.par ⟨f.cf,tp,0,p.id⟩ g.F,f1.num=p.fam:=by
      obtain⟨f1,h1,a1,_⟩:=pN (n:=f.par) (c:=⟨f.cf,tp,0,p.id⟩) hf;exact⟨f1,h1,by omega⟩
     obtain⟨f1,Gc,en1⟩:=hfd;have hv1:h8 ((putKid f.par ⟨f.cf,tp,0,p.id⟩ g.F).map BV) (.inl p.fam)=ae (.ref f1.o):=by rw[jg kF,cB fW.xu Gc en1];rfl
     refine⟨_,rfl,_,_,_,_,_,rfl,fW.kept,T.aR,T.bH,rfl,_,rfl,bE ⟨_,.inl fW.fams⟩,_,rfl,_,cO p.fam,_,fW.fams,rfl,hv1,?_⟩;rw[<-pK kF];have gG:=fW.Rh p.fam;have S2:=S1.trans (Step.Rh p.fam (o:= .dK ((cF GF.num p.fam (putKid f.par ⟨f.cf,tp,0,p.id⟩ g.F)).map BV)));dsimp only at gG S2;have ok2:=ZP ok A nH hw hf e1 n0 l1 (o:=o) (d:=d) (tp:=tp);have A2:=A.close ok.fit nH hf (o:=o) (d:=d) (tp:=tp);refine⟨Yc,λl hl=>?_⟩;refine q _ l ?_ (S2.live _ hl) aq ((S2.frm KG).trans (xE.same (bC.new hl)));refine⟨zT g p f o d tp,?_,A2,ok2⟩;unfold zT;rw[e1];exact gG.same (bC.new hl)
theorem OS{g:G}{ids:List Int}{f:GF}(h:dG {g with W:=gQ ids g.W} f=true):dG g f=true:=by
 obtain⟨h1,c,hc,h2⟩:=eT.mp h;have same:∀d∈f.kids,bj GW.id d.id (gQ ids g.W)=bj GW.id d.id g.W:=λd hd=>by
  obtain⟨_,w,hw,_⟩:=h1 d hd;have Ip:bj GW.id d.id (gQ ids g.W)=ae w:=hw;by_cases z:ids.contains d.id=true;rw[vY z] at Ip;cases Ip;exact CF (by rw[bP];exact z)
 rw[<-h];exact(kj (g:=g) (g':={g with W:=gQ ids g.W}) rfl same).symm
theorem nP.off{g:G}(ok:nP g)(ids:List Int):nP {g with W:=gQ ids g.W}:=⟨ok.fit.gQ ids,ok.ne,ok.xD,λf hf=>by
  rw[bP];intro z;have:=OS z;rw[ok.Xh f hf] at this;cases this⟩
theorem ZQ(x:Int)(W:List GW):cF GW.id x W=gQ [x] W:=by
 have:=Ay [] x W;rw[uL] at this;exact this.symm
def Xk(t:fO):Sp:=λvs H Q _=>∃(k:aj) (b:bB) (x:Int),vs=[.ref k,.int x]/\Kp t H k b/\0<x/\bV t H k (bL b (v5 b x.toNat)) Q
theorem Xl(T:Txt w K mg t):dU P w K mg base kI 1 t.zb t.wQ ["kept","x"] (Xk t):=by
 refine T.QT.ok WW (λvs H Q E h=>?_) (λiq Ar outer s H vs Q E hr h=>?_);obtain⟨k,b,x,rfl,_⟩:=h;rfl
 ·obtain⟨k,b,x,rfl,kp,hx,q⟩:=h;obtain⟨g,KG,A,ok⟩:=id kp;refine⟨_,(ao (dr (kG (gC (d9 hr) (pv 1) (aT (pv 0) rfl))) (aD (bu (cv (ah (dE rfl T.sI) aw)))) bY) (ao (dr (kG (gC (d9 hr) (pv 1) (aT (pv 0) rfl))) (aD (bu (cv (ah (dE rfl T.zG) aw)))) bY) (ao (cJ (ue (aT (pv 0) rfl) (pv 1) ⟨rfl,rfl,rfl,rfl⟩)) (aD (bu (cv (ah aQ (ah aQ aw)))))))),?_⟩;have el:=A.lives ok.fit (i:=x) (by omega);have ew:=A.waiting ok.fit (i:=x) (by omega);unfold v5 at q;rw[el,ew] at q;refine⟨_,rfl,_,rfl,_,_,_,_,_,rfl,KG.kept,T.aR,T.dy,rfl,_,_,rfl,KG.r.J1,_,rfl,?_⟩;rw[bZ];cases e1:bj GP.id x g.P with
  |none=>
   rw[e1] at q;exact q.err kp rfl
  |some p=>
   rw[e1] at q;refine⟨_,rfl,_,rfl,_,_,_,_,_,rfl,KG.kept,T.aR,T.cA,rfl,_,_,rfl,KG.r.Uh,_,rfl,?_⟩;rw[bZ];cases e2:bj GW.id x g.W with
   |none=>
    rw[e2] at q;exact q.err kp rfl
   |some w0=>
    rw[e2] at q;have hv1:h8 (g.W.map BW) (.inl x)=ae (.ref w0.o):=by rw[jg kW,e2];rfl
    refine⟨_,rfl,_,_,_,_,_,rfl,KG.kept,T.aR,T.cA,rfl,_,rfl,bE ⟨_,.inl KG.waits⟩,_,rfl,_,cO x,_,KG.waits,rfl,hv1,?_⟩;rw[<-pK kW];have gG:=KG.Ri x;have S2:=Step.Ri (k:=k) (g:=g) (H:=H) x (o:= .dK ((cF GW.id x g.W).map BW));refine⟨Yc,λl hl=>?_⟩;refine q _ l ?_ (S2.live _ hl) aq ((S2.frm KG).trans (xE.same (bC.new hl)));refine⟨{g with W:=gQ [x] g.W},?_,A.gQ ok.fit (ids:=[x]) λz hz=>by rw[ai.mp hz];exact hx,ok.off _⟩;rw[<-ZQ];exact gG.same (bC.new hl)
end
end
section
open Vbdeah (Bank)
section
variable{g:G}{b:bB}
def p9(g:G)(w:GW):G:={g with W:=g.W++[w]}
theorem cK.p9(x:cK g){w:GW}(hn:bj GW.id w.id g.W=ay)(ok:CC g w):cK (p9 g w):=by
 refine⟨x.yE,x.lO,?_,x.nx,λp hp=>⟨(x.qV p hp).pos,(x.qV p hp).fam⟩,λf hf=>⟨(x.fam f hf).pos,(x.fam f hf).lt,(x.fam f hf).cf,(x.fam f hf).fN,(x.fam f hf).A9,(x.fam f hf).x_,(x.fam f hf).par⟩,λv hv=>?_⟩
 ·show((g.W++[w]).map (·.id)).Nodup;rw[az];exact jT x.DT λm=>by obtain⟨f,hf,e⟩:=aA.mp m;exact fV hn f hf e
 ·obtain z|z:=aP.mp hv
  exact⟨(x.t5 v z).live,(x.t5 v z).kind,(x.t5 v z).place,(x.t5 v z).num,(x.t5 v z).one⟩;obtain rfl:=ai.mp z;exact⟨ok.live,ok.kind,ok.place,ok.num,ok.one⟩
theorem fz.p9(A:fz g b)(w:GW):fz (p9 g w) (gM b (ig w)):=⟨A.sP,A.mP,A.sF,A.mF,by show b.waits++[ig w]=(g.W++[w]).map ig;rw[A.W,az];rfl,A.nx⟩
theorem Uo{w:GW}{i:Int}(h:i≠w.id):bj GW.id i (g.W++[w])=bj GW.id i g.W:=by
 unfold bj;rw[we];have:List.find? (λb=>decide (b.id=i)) [w]=ay:=by
  rw[fg];intro v hv;obtain rfl:=ai.mp hv;simp;exact λz=>h z.symm
 rw[this,Option.or_none]
theorem Hq{w:GW}(hn:bj GW.id w.id g.W=ay):bj GW.id w.id (g.W++[w])=ae w:=by
 unfold bj at hn⊢;rw[we,hn];simp
theorem Gm(ok:nP g){w:GW}{p:GP}(hp:p∈g.P)(e:p.id=w.id):∀f∈(p9 g w).F,f.num≠p.fam->dG (p9 g w) f=false:=λf hf n=>by
 by_cases s0:∀c∈f.kids,c.sort=0;rw[<-ok.Xh f hf];refine kj rfl λc hc=>Uo λz=>?_;obtain⟨q,hq,e1,e2,_⟩:=ok.fit.Xg hf hc (s0 c hc);obtain rfl:=bh ok.fit.yE hq hp (by omega);exact n e2.symm;rw[bP];intro y;exact s0 λc hc=>((eT.mp y).1 c hc).1
theorem nP.p9(ok:nP g){w:GW}(hn:bj GW.id w.id g.W=ay)(wo:CC g w)(k4:w.kind≠4):nP (p9 g w):=by
 obtain⟨p,hp,e⟩:=wo.live;refine⟨ok.fit.p9 hn wo,ok.ne,ok.xD,λf hf=>?_⟩;by_cases n:f.num=p.fam;rw[bP];intro z;obtain⟨c,hc,e1,e2⟩:=(ok.fit.Kd hf hp).mp n.symm;obtain⟨_,v,hv,kv⟩:=(eT.mp z).1 c hc;have Yz:bj GW.id c.id (g.W++[w])=ae v:=hv;rw[e2,e,Hq hn] at Yz;cases Yz;exact k4 kv;exact Gm ok hp e f hf n
theorem fz.group(A:fz g b)(x:cK g){i kd pl:Int}{p:GP}(hp:bj GP.id i g.P=ae p)(hk:0<=kd)(hl:0<=pl):kT b i.toNat kd.toNat pl.toNat=(g.W.filter (gq g p.fam kd pl)).map ig:=by
 obtain⟨nH,e0⟩:=bD hp;have Vs:=x.jo nH;unfold kT;rw[A.W,hU];congr 1;refine d8 λw hw=>?_;have k:=(x.t5 w hw).kind;have pp:=(x.t5 w hw).place;have nw:=x.rJ hw;obtain⟨q,hq,e1,e2⟩:=x.Uk hw;have nnq:=x.jo hq;show((w.kind.toNat==kd.toNat)&&((w.place.toNat==pl.toNat)&&(bT b w.id.toNat==bT b i.toNat)))=gq g p.fam kd pl w;rw[A.famOf x (by omega),A.famOf x (by omega),lX hp,e2];unfold gq;rw[cT];simp only[aH,beq_iff_eq,decide_eq_true_iff,e2];constructor;rintro ⟨h1,h2,h3⟩;exact⟨by omega,by omega,by omega⟩;rintro ⟨h1,h2,h3⟩;exact⟨by omega,by omega,by omega⟩
theorem ZR{fam kd pl:Int}{w:GW}:gq g fam kd pl w=true↔jQ g w.id=fam/\w.kind=kd/\w.place=pl:=by
 unfold gq;simp only[aH,decide_eq_true_iff]
theorem Ro{ids:List Int}{W:List GW}(h:∀w∈W,ids.contains w.id=false):gQ ids W=W:=by
 unfold gQ;exact oT.mpr λw hw=>by rw[h w hw];rfl
def nI(i:Int)(W:List GW):List GW:=W.map λw=>if w.id=i then{w with num:=w.num -1} else w
theorem AF{i:Int}{W:List GW}{β:Type}(f:GW->β)(h:∀w,f {w with num:=w.num -1}=f w):(nI i W).map f=W.map f:=by
 unfold nI;rw[bx];refine cu λw _=>?_;show f (if w.id=i then{w with num:=w.num -1} else w)=f w;split;exact h w;rfl
theorem Rp{i j:Int}{W:List GW}:bj GW.id j (nI i W)=(bj GW.id j W).map λw=>if w.id=i then{w with num:=w.num -1} else w:=by
 unfold bj nI;rw[vc];congr 1
 ·congr 1
  funext w
  show decide ((if w.id=i then{w with num:=w.num -1} else w).id=j)=_;split<;>rfl
end
section
variable{P:bg}{w:cn}{K:au}{mg:Str->Option ax}{base:df}{t:fO}
theorem cW.fall{H:Hp}{k:aj}{g:G}(x:cW t H k g)(A:Apart t){v:GW}(hv:v∈g.W):cW t (upd H v.o (.ins t.fU v.d (vC v.kind v.place (v.num -1)))) k {g with W:=nI v.id g.W}:=by
 have zv:=x.wait v hv;have nd:∀{b:aj} {kv},H b=ae (.dK kv)->b≠v.o:=λh=>gg h zv nofun;have ni:∀{b:aj} {C d fs},H b=ae (.ins C d fs)->C≠t.fU->b≠v.o:=λh n=>gg h zv (by intro z;cases z;exact n rfl);refine⟨aO x.kept (ni x.kept A.wk.symm),aO x.people (nd x.people),aO x.fams (nd x.fams),?_,λp h=>aO (x.qQ p h) (ni (x.qQ p h) A.pw),λf h=>?_,λu h=>?_,x.Sy,x.Vi,x.Yd,x.Ye,x.SD,x.Nc,?_,x.Ik,x.xu,?_⟩;show upd H v.o _ g.wa=ae (.dK ((nI v.id g.W).map BW));rw[AF BW λ_=>rfl];exact aO x.waits (nd x.waits);have z:=x.fam f h;exact⟨aO z.obj (ni z.obj A.fw),aO z.yt (nd z.yt),λc hc=>aO (z.tup c hc) (gg (z.tup c hc) zv nofun),z.nd⟩
 ·obtain⟨u0,h0,e⟩:=aA.mp h;by_cases c:u0.id=v.id;rw[bw c] at e;obtain rfl:=bh x.Il h0 hv c;subst e;exact aq;rw[aX c] at e;subst e;exact aO (x.wait u0 h0) λz=>c (da GW.id (bh x.DT h0 hv z))
 show((nI v.id g.W).map (·.o)).Nodup;rw[AF _ λ_=>rfl];exact x.DT;show((nI v.id g.W).map (·.id)).Nodup;rw[AF _ λ_=>rfl];exact x.Il
theorem Step.fall{H:Hp}{k:aj}{g:G}{v:GW}(hv:v∈g.W){o:HO}:Step k g {g with W:=nI v.id g.W} H (upd H v.o o):=by
 refine⟨λb u e nf=>aO e λz=>nf (.inr (.inr (.inr (.inr (.inr ⟨v,hv,z⟩))))),λb z=> .inl ?_,λ_ h=>dY h⟩;obtain z|z|z|z|z|⟨f,hf,z⟩:=z
 exact .inl z;exact .inr (.inl z);exact .inr (.inr (.inl z));exact .inr (.inr (.inr (.inl z)));exact .inr (.inr (.inr (.inr (.inl z))));obtain⟨u0,h0,e⟩:=aA.mp hf;refine .inr (.inr (.inr (.inr (.inr ⟨u0,h0,?_⟩))));rw[z,<-e];split<;>rfl
def Fx(g:G)(x:Int)(p:GP)(v:GW):G:={jR g x p with W:=if v.num=1 then gQ [v.id] (nI v.id g.W) else gQ [] (nI v.id g.W)}
def Fy(v:GW):List Int:=if v.num=1 then[v.id] else[]
def Xm(t:fO):Sp:=λvs H Q _=>∃(k:aj) (g:G) (x:Int) (p:GP) (f:GF) (c:GC) (v:GW),vs=[.ref k,.int x,.int v.id]/\Apart t/\cW t H k g/\bj GP.id x g.P=ae p/\bj GF.num p.fam g.F=ae f/\bj GC.cf p.cf f.kids=ae c/\bj GW.id v.id g.W=ae v/\∀H' l,cW t H' k (Fx g x p v)->Step k g (Fx g x p v) H H'->H l=ay->H' l=ae (.lst (V.int (Fy v).length::(Fy v).map V.int))->Q (.ref l) H'
theorem Xn(T:Txt w K mg t):dU P w K mg base kI 2 t.y9 t.wM ["kept","x","first"] (Xm t):=by
 refine T.QQ.ok M6 (λvs H Q E h=>?_) (λiq Ar outer s H vs Q E hr h=>?_);obtain⟨k,g,x,p,f,c,v,rfl,_⟩:=h;rfl
 ·obtain⟨k,g,x,p,f,c,v,rfl,Ap,KG,hp,hf,hc,hv,q⟩:=h;obtain⟨B2,_⟩:=bD hv;refine⟨_,(ao (cJ (cX (pv 0) T.aR T.rG (rH T) hr.mo T.tq .nil bQ (ah (pv 1) aw))) (ao (cj (i:=3) M6.nd rfl (bE rfl) (fq (d9 hr) (aT (pv 0) rfl) (pv 2) (λ_ _=>rfl))) (ao (gP (pv 3) (iO Cg (aT (pv 3) rfl) aQ) rfl) (ao (dr (b_ fC (aT (pv 3) rfl) aQ (ck _)) (aD (bu (bI (m7 T) hr.mo rfl T.m5 T.nA.kp T.pS .nil bQ (ah (pv 0) (ah (cv (ah (pv 2) aw)) aw))))) bY) (aD (bu (bI (m7 T) hr.mo rfl T.m5 T.nA.kp T.pS .nil bQ (ah (pv 0) (ah (cv aw) aw))))))))),?_⟩;refine⟨_,rfl,_,_,_,rfl,KG.kept,rfl,_,rfl,k,g,x,p,f,c,rfl,KG,hp,hf,hc,λH1 fW S1=>?_⟩;refine⟨_,rfl,_,_,_,_,_,rfl,fW.kept,T.aR,T.cA,rfl,_,rfl,_,_,rfl,fW.zL hv,?_⟩;refine⟨_,rfl,_,_,_,_,_,rfl,fW.wait v B2,T.eE,T.dM,rfl,_,_,rfl,rfl,_,rfl,_,_,_,_,rfl,fW.wait v B2,T.eE,T.dM,(by show 3<1000;decide),?_⟩;have gG:=fW.fall Ap B2;have S2:=S1.trans (Step.fall (k:=k) (g:=jR g x p) (H:=H1) B2 (o:= .ins t.fU v.d (vC v.kind v.place (v.num -1))));dsimp only at gG S2;have ev:upd H1 v.o (.ins t.fU v.d (vC v.kind v.place (v.num -1))) v.o=ae (.ins t.fU v.d (vC v.kind v.place (v.num -1))):=aq;show rY _ _ _ _ (upd H1 v.o (.ins t.fU v.d (vC v.kind v.place (v.num -1))));generalize upd H1 v.o (.ins t.fU v.d (vC v.kind v.place (v.num -1)))=H2 at gG S2 ev;refine⟨_,rfl,_,_,_,_,_,rfl,ev,T.eE,T.dM,rfl,rfl,_,rfl,?_⟩;refine cN (λc1=>?_) (λc1=>?_)
  ·have e1:v.num=1:=by have:=V.int.inj (aY c1);omega
   refine⟨_,rfl,_,rfl,AV,λl1 Ii=>?_⟩;refine⟨k,l1,_,[v.id],rfl,gG.same (bC.new Ii),aq,(by show 1<1000000;decide),λH3 l2 pL S3 qZ vZ=>?_⟩;have S:=(S2.trans (Step.same (bC.new Ii))).trans S3;refine q H3 l2 ?_ ?_ (S2.live _ (dY qZ)) ?_;unfold Fx;rw[if_pos e1];exact pL;unfold Fx;rw[if_pos e1];exact S;rw[vZ];unfold Fy;rw[if_pos e1]
  ·have e1:v.num≠1:=λz=>c1 (by rw[z];rfl);refine⟨_,rfl,cI _,λl1 Ii=>?_⟩;refine⟨k,l1,_,[],rfl,gG.same (bC.new Ii),aq,(by decide),λH3 l2 pL S3 qZ vZ=>?_⟩;have S:=(S2.trans (Step.same (bC.new Ii))).trans S3;refine q H3 l2 ?_ ?_ (S2.live _ (dY qZ)) ?_;unfold Fx;rw[if_neg e1];exact pL;unfold Fx;rw[if_neg e1];exact S;rw[vZ];unfold Fy;rw[if_neg e1]
end
end
section
open Vbdeah (Bank)
section
variable{P:bg}{w:cn}{K:au}{mg:Str->Option ax}{base:df}{t:fO}
theorem fz.fall{g:G}{b:bB}(A:fz g b)(x:cK g){v:GW}(hv:v∈g.W):fz {g with W:=nI v.id g.W} {b with waits:=b.waits.map λu=>if u.id=(ig v).id then{u with num:=u.num -1} else u}:=by
 refine⟨A.sP,A.mP,A.sF,A.mF,?_,A.nx⟩;show b.waits.map _=(nI v.id g.W).map ig;unfold nI;rw[A.W,bx,bx];refine cu λu hu=>?_;have n1:=x.rJ hu;have n2:=x.rJ hv;have n3:=(x.t5 u hu).num;show(if u.id.toNat=v.id.toNat then _ else _)=ig (if u.id=v.id then _ else _);by_cases e:u.id=v.id
 ·rw[bw (by rw[e]),bw e];show(⟨_,_,_,u.num.toNat -1⟩:gd)=⟨_,_,_,(u.num -1).toNat⟩;have:(u.num -1).toNat=u.num.toNat -1:=by omega
  rw[this];rfl
 rw[aX (by omega),aX e]
theorem cK.fall{g:G}(x:cK g){v:GW}(hv:v∈g.W)(h1:v.kind=1)(h2:v.num≠1):cK {g with W:=nI v.id g.W}:=by
 refine⟨x.yE,x.lO,?_,x.nx,λp hp=>⟨(x.qV p hp).pos,(x.qV p hp).fam⟩,λf hf=>⟨(x.fam f hf).pos,(x.fam f hf).lt,(x.fam f hf).cf,(x.fam f hf).fN,(x.fam f hf).A9,(x.fam f hf).x_,(x.fam f hf).par⟩,λu hu=>?_⟩;show((nI v.id g.W).map (·.id)).Nodup;rw[AF _ λ_=>rfl];exact x.DT
 ·obtain⟨u0,h0,e⟩:=aA.mp hu;have W0:=x.t5 u0 h0;by_cases c:u0.id=v.id;rw[bw c] at e;obtain rfl:=bh x.DT h0 hv c;subst e;have:=W0.one h1;have:=W0.num;exact⟨W0.live,W0.kind,W0.place,⟨by show 0<=u0.num -1;omega,by show u0.num -1<=1000;omega⟩,λ_=>by show 1<=u0.num -1;omega⟩;rw[aX c] at e;subst e;exact⟨W0.live,W0.kind,W0.place,W0.num,W0.one⟩
theorem Xo{g:G}{b:bB}{x:Int}{p:GP}{v:GW}(ok:nP g)(A:fz g b)(hp:bj GP.id x g.P=ae p)(hw:bj GW.id x g.W=ay)(hv:v∈g.W)(k1:v.kind=1)(ef:jQ g v.id=p.fam):nP (Fx g x p v)/\fz (Fx g x p v) (if(ig v).num=1 then xN {b with people:=bp x.toNat b.people} [(ig v).id] else{b with people:=bp x.toNat b.people,waits:=b.waits.map λu=>if u.id=(ig v).id then{u with num:=u.num -1} else u}):=by
 obtain⟨nH,e0⟩:=bD hp;have X1:=ok.fit.out hp hw;have A1:=A.out ok.fit hp;have V:=ok.fit.t5 v hv;have nv:=ok.fit.rJ hv;have gv:bj GW.id v.id g.W=ae v:=cB ok.fit.DT hv rfl;obtain⟨q,hq,eq1,eq2⟩:=ok.fit.Uk hv;have nx:v.id≠x:=λz=>by rw[<-z,gv] at hw;cases hw
 obtain⟨f,hf,ef1,c,hc,c1,c2,c3⟩:=(ok.fit.qV q hq).fam;have agh:∀f'∈(jR g x p).F,f'.num=p.fam->c∈f'.kids:=λf' dZ e=>by
  obtain⟨f0,h0,e1,rfl⟩|⟨_,n⟩:=e_ dZ
  obtain rfl:=bh ok.fit.lO h0 hf (by omega);refine cw.mpr ⟨hc,λz=>?_⟩;have:=(ok.fit.DZ h0 hc nH (by omega) z.symm).2;omega;exact bM e n
 have same:∀f'∈(jR g x p).F,f'.num≠p.fam->f'∈g.F:=λf' dZ n=>by
  obtain⟨f0,_,e,rfl⟩|⟨h0,_⟩:=e_ dZ
  exact bM e n;exact h0
 have ne:∀f'∈(jR g x p).F,f'.kids≠[]:=λf' dZ=>by
  by_cases n:f'.num=p.fam;exact vg (agh f' dZ n);exact ok.ne f' (same f' dZ n)
 have sub:∀f'∈(jR g x p).F,∃f∈g.F,f.num=f'.num/\f.par=f'.par:=λf' dZ=>by
  obtain⟨f0,h0,_,rfl⟩|⟨h0,_⟩:=e_ dZ
  exact⟨f0,h0,rfl,rfl⟩;exact⟨f',h0,rfl,rfl⟩
 have xD:∀f'∈(jR g x p).F,∀d,dF (jR g x p).F f'.num d->d<=40:=λf' dZ d D=>by
  obtain⟨f0,h0,e1,_⟩:=sub f' dZ;exact ok.xD f0 h0 d (by rw[e1];exact D.mono sub)
 have Xh:∀W':List GW,(∀u,bj GW.id v.id W'=ae u->u.kind≠4)->(∀i,i≠v.id->bj GW.id i W'=bj GW.id i g.W)->∀f'∈(jR g x p).F,dG {jR g x p with W:=W'} f'=false:=λW' h1 h2 f' dZ=>by
  by_cases n:f'.num=p.fam;rw[bP];intro z;obtain⟨_,u,hu,ku⟩:=(eT.mp z).1 c (agh f' dZ n);have SN:bj GW.id c.id W'=ae u:=hu;rw[c3,eq1] at SN;exact h1 u SN ku
  ·have uZ:=same f' dZ n;by_cases s0:∀c∈f'.kids,c.sort=0;rw[<-ok.Xh f' uZ];refine kj rfl λc' vM=>h2 _ λz=>?_;obtain⟨q',YF,y1,y2,_⟩:=ok.fit.Xg uZ vM (s0 c' vM);obtain rfl:=bh ok.fit.yE YF hq (by omega);omega;rw[bP];intro y;exact s0 λc hc=>((eT.mp y).1 c hc).1
 have acZ:∀i,bj GW.id i (nI v.id g.W)=(bj GW.id i g.W).map λw=>if w.id=v.id then{w with num:=w.num -1} else w:=λi=>Rp
 have ael:∀i,i≠v.id->bj GW.id i (nI v.id g.W)=bj GW.id i g.W:=λi n=>by
  rw[acZ];cases e:bj GW.id i g.W with
  |none=>rfl
  |some u=>
   obtain⟨_,eu⟩:=bD e;show ae (if u.id=v.id then _ else u)=ae u;rw[aX (by omega)]
 have one:=V.one k1;by_cases e1:v.num=1
 ·have eN:(ig v).num=1:=by show v.num.toNat=1;omega
  rw[bw eN];have ew:gQ [v.id] (nI v.id g.W)=gQ [v.id] g.W:=by
   unfold gQ nI;rw[hU];have:((g.W.filter ((λw=> !([v.id]:List Int).contains w.id)∘λw=>if w.id=v.id then{w with num:=w.num -1} else w))).map (λw=>if w.id=v.id then{w with num:=w.num -1} else w)=(g.W.filter λw=> !([v.id]:List Int).contains w.id).map id:=by
    have e2:(g.W.filter ((λw=> !([v.id]:List Int).contains w.id)∘λw=>if w.id=v.id then{w with num:=w.num -1} else w))=g.W.filter λw=> !([v.id]:List Int).contains w.id:=by
     refine d8 λw _=>?_;show(!([v.id]:List Int).contains (if w.id=v.id then{w with num:=w.num -1} else w).id)=_;split<;>rfl
    rw[e2];refine cu λw hw=>?_;have:=(aW.mp hw).2;rw[if_neg (λz=>by rw[z] at this;simp at this)];rfl
   rw[this,IC]
  have ea:Fx g x p v={jR g x p with W:=gQ [v.id] (jR g x p).W}:=by
   unfold Fx;rw[if_pos e1,ew];rfl
  rw[ea];refine⟨⟨X1.gQ _,ne,xD,Xh _ (λu hu=>?_) λi n=>?_⟩,A1.gQ X1 (ids:=[v.id]) λz hz=>by rw[ai.mp hz];exact nv⟩;have SN:bj GW.id v.id (gQ [v.id] g.W)=ae u:=hu;rw[vY (by simp)] at SN;cases SN;show bj GW.id i (gQ [v.id] g.W)=_;exact CF (by simp[n])
 ·have eN:¬(ig v).num=1:=by show ¬v.num.toNat=1;omega
  rw[aX eN];have ea:Fx g x p v={jR g x p with W:=nI v.id (jR g x p).W}:=by
   unfold Fx;rw[if_neg e1,uL];rfl
  rw[ea];refine⟨⟨X1.fall (g:=jR g x p) hv k1 e1,ne,xD,Xh _ (λu hu=>?_) λi n=>ael i n⟩,A1.fall X1 (g:=jR g x p) hv⟩;have SN:bj GW.id v.id (nI v.id g.W)=ae u:=hu;rw[acZ,gv] at SN;have:(if v.id=v.id then{v with num:=v.num -1} else v)=u:=bF SN;rw[bw rfl] at this;rw[<-this];show v.kind≠4;omega
def Rq(t:fO):Sp:=λvs H Q _=>∃(k:aj) (b:bB) (x pl n:Int),vs=[.ref k,.int x,.int pl,.int n]/\Apart t/\Kp t H k b/\Sz b/\0<x/\(0<=pl/\pl<=999)/\(1<=n/\n<=1000)/\bV t H k (bL b (yg b x.toNat pl.toNat n.toNat)) Q
theorem Rr(T:Txt w K mg t):dU P w K mg base kI 4 t.uz t.sq ["kept","x","place","count"] (Rq t):=by
 refine T.Jw.ok yX (λvs H Q E h=>?_) (λiq Ar outer s H vs Q E hr h=>?_);obtain⟨k,b,x,pl,n,rfl,_⟩:=h;rfl
 ·obtain⟨k,b,x,pl,n,rfl,Ap,kp,sz,hx,C5,hn,q⟩:=h;obtain⟨g,KG,A,ok⟩:=id kp;have Nh:=sz.1;have J2:=sz.2;have B3:aM=16777216:=rfl;have lP:=A.zQ ok.fit;have lW:=ok.fit.Hk;refine⟨_,(ao (cj (i:=4) yX.nd rfl (bE rfl) (cX (pv 0) T.aR T.f7 (f9 T) hr.mo T.gn .nil bQ (ah (pv 1) aw))) (ao (dr (b_ r6 (pv 4) aQ (ck _)) (aD (bu (cv (ah (pv 4) aw)))) bY) (ao (cj (i:=5) yX.nd rfl (bE rfl) (bI (Az T) hr.mo rfl T.Av T.zr.kp T.DI .nil bQ (ah (pv 0) (ah (pv 1) (ah (dE rfl T.Cw) (ah (pv 2) aw)))))) (ao (dr (b_ FR (cM cq (by rfl) T.eG bz (ah (pv 5) aw)) aQ (ck _)) (aD (bu (iO lS (cv (ah aQ aw)) (bI (Xn T) hr.mo rfl T.W5 T.QQ.kp T.Zd .nil bQ (ah (pv 0) (ah (pv 1) (ah (eX dH (pv 5) aQ (λ_ _=>rfl)) aw))))))) bY) (ao (dr (b_ fC (pv 3) aQ (ck _)) (aD (bu (iO lS (cv (ah aQ aw)) (bI (m7 T) hr.mo rfl T.m5 T.nA.kp T.pS .nil bQ (ah (pv 0) (ah (cv (ah (pv 1) aw)) aw)))))) bY) (ao (cJ (bI (lG T) hr.mo rfl T.lC T.kf.kp T.mZ .nil bQ (ah (pv 0) (ah (pv 1) (ah (dE rfl T.Cw) (ah (pv 2) (ah (iO Cg (pv 3) aQ) aw))))))) (aD (bu (cv (ah aQ aw)))))))))),?_⟩;refine⟨_,rfl,_,_,_,rfl,KG.kept,rfl,_,rfl,k,g,x,rfl,KG.r,?_⟩;show rY _ _ _ [ae (.ref k),ae (.int x),ae (.int pl),ae (.int n),ae (.int (hv g x)),ay] H;refine⟨_,rfl,rfl,_,rfl,?_⟩;refine cN (λc=>?_) (λc=>?_);exact⟨_,rfl,q.err kp (D9 A ok.fit hx _ (ne_int c))⟩
  ·obtain⟨ef,⟨p,hp⟩,hw⟩:=xF A ok.fit hx (match kT b x.toNat 1 pl.toNat with
    |[]=>if n.toNat=1 then EE b [x.toNat] else .wait (gM b ⟨x.toNat,1,pl.toNat,n.toNat -1⟩)
    |w::_=>if w.num=1 then .gone (xN {b with people:=bp x.toNat b.people} [w.id]) [w.id] else .gone {b with people:=bp x.toNat b.people,waits:=b.waits.map λv=>if v.id=w.id then{v with num:=v.num -1} else v} []) (eq_int c)
   have Hj:yg b x.toNat pl.toNat n.toNat=_:=ef;have eg:kT b x.toNat 1 pl.toNat=(g.W.filter (gq g p.fam 1 pl)).map ig:=A.group ok.fit hp (kd:=1) (by omega) (by omega);rw[Hj,eg] at q;obtain⟨nH,e0⟩:=bD hp;refine⟨_,rfl,_,rfl,_,rfl,k,g,x,1,pl,p,rfl,KG.r,hp,uM.of ok.fit,(by omega),λH1 l hl el s1=>?_⟩;have fW:=KG.same s1;have kp1:=kp.same s1;refine⟨_,rfl,_,_,rfl,.inl (dS.of el),_,_,rfl,rfl,_,rfl,?_⟩;rw[ag];cases hF:g.W.filter (gq g p.fam 1 pl) with
   |cons v r=>
    have hvf:v∈g.W.filter (gq g p.fam 1 pl):=by rw[hF];exact aB ..
    obtain⟨B2,hvk⟩:=aW.mp hvf;obtain⟨ef1,k1,_⟩:=ZR.mp hvk;have ek:sM g p.fam 1 pl g.W=v.id::r.map (·.id):=by unfold sM;rw[hF];rfl
    rw[hF] at q;refine cN (λ_=>?_) (λc2=>bM (bG (by rw[ek];show(0:Int)<((r.map (·.id)).length+1:Nat);omega)) c2);obtain⟨f,hf,e1,c,hc,e2,e3,e4⟩:=(ok.fit.qV p nH).fam;refine⟨AV,λl2 qZ=>?_⟩;have s2:bC H1 (upd H1 l2 (.lst [.int 2])):=bC.new qZ;have vZ:upd H1 l2 (.lst [.int 2]) l2=ae (.lst [.int 2]):=aq;have gG:=fW.same s2;have PL:=s2 _ _ el;generalize upd H1 l2 (.lst [.int 2])=H2 at s2 vZ gG PL;rw[ek] at PL;refine⟨_,rfl,_,rfl,_,rfl,_,_,_,_,rfl,rfl,dS.of PL,cQ (j:=0) (v:=V.int v.id) rfl,?_⟩;refine⟨k,g,x,p,f,c,v,rfl,Ap,gG,hp,cB gG.xu hf e1,cB (gG.fam f hf).nd hc e2,cB gG.Il B2 rfl,λH3 l3 pL S3 Ez Vy=>?_⟩;have e23:H3 l2=ae (.lst [.int 2]):=S3.keep _ _ vZ (gG.tT vZ);refine⟨l2,l3,_,_,rfl,rfl,e23,Vy,?_,λl4 Rt=>?_⟩
    ·unfold Fy;split;show 1+2<=aM;decide;show 1+1<=aM;decide
    ·have S:=((Step.same (k:=k) (g:=g) s1).trans (Step.same s2)).trans S3;obtain⟨okA,AA⟩:=Xo ok A hp hw B2 k1 ef1;have one:=(ok.fit.t5 v B2).one k1;have nv:=ok.fit.rJ B2;refine q _ l4 ?_ (S.live _ Rt) ?_ ((S.frm KG).trans (xE.same (bC.new Rt)))
     ·refine⟨Fx g x p v,pL.same (bC.new Rt),?_,okA⟩;show fz _ (bL b (if(ig v).num=1 then _ else _)).1;by_cases e1:(ig v).num=1;rw[bw e1] at AA⊢;exact AA;rw[aX e1] at AA⊢;exact AA
     ·rw[aq];show _=ae (HO.lst ((bL b (if(ig v).num=1 then _ else _)).2.map V.int));unfold Fy;by_cases e1:v.num=1
      ·rw[bw e1,bw (by show v.num.toNat=1;omega)];show ae (HO.lst [V.int 2,V.int 1,V.int v.id])=ae (HO.lst [V.int 2,V.int 1,V.int (ir v.id.toNat)]);have:(ir v.id.toNat)=v.id:=by show((v.id.toNat:Nat):Int)=v.id;omega
       rw[this]
      rw[aX e1,aX (by show ¬v.num.toNat=1;omega)];rfl
   |nil=>
    have ek:sM g p.fam 1 pl g.W=[]:=by unfold sM;rw[hF];rfl
    rw[hF] at q;refine cN (λc2=>bM (aY c2) (by rw[ek];decide)) (λ_=>?_);refine⟨_,rfl,rfl,_,rfl,?_⟩;refine cN (λc3=>?_) (λc3=>?_)
    ·have e1:n=1:=V.int.inj (aY c3);refine⟨AV,λl2 qZ=>?_⟩;have s2:bC H1 (upd H1 l2 (.lst [.int 0])):=bC.new qZ;have vZ:upd H1 l2 (.lst [.int 0]) l2=ae (.lst [.int 0]):=aq;have gG:=fW.same s2;generalize upd H1 l2 (.lst [.int 0])=H2 at s2 vZ gG;refine⟨_,rfl,_,rfl,AV,λl3 Ez=>?_⟩;have s3:bC H2 (upd H2 l3 (.lst [.int x])):=bC.new Ez;refine⟨k,l3,g,[x],rfl,gG.same s3,aq,(by show 1<1000000;decide),λH4 l4 BX S4 Rt el4=>?_⟩;have S:=(((Step.same (k:=k) (g:=g) s1).trans (Step.same s2)).trans (Step.same s3)).trans S4;have e24:H4 l2=ae (.lst [.int 0]):=S4.keep _ _ (s3 _ _ vZ) ((gG.same s3).tT (s3 _ _ vZ));refine⟨l2,l4,_,_,rfl,rfl,e24,el4,(by show 1+2<=aM;decide),λl5 Xp=>?_⟩;have eo:gQ [x] g.W=g.W:=Ro λu hu=>by
      have:=fV hw u hu;simp[this]
     rw[eo] at BX;refine q _ l5 ?_ (S.live _ Xp) ?_ ((S.frm KG).trans (xE.same (bC.new Xp)));refine⟨g,BX.same (bC.new Xp),?_,ok⟩;show fz g (bL b (if n.toNat=1 then _ else _)).1;rw[bw (by omega)];exact A
     ·rw[aq];show _=ae (HO.lst ((bL b (if n.toNat=1 then _ else _)).2.map V.int));rw[bw (by omega)];show ae (HO.lst [V.int 0,V.int 1,V.int x])=ae (HO.lst [V.int 0,V.int 1,V.int (ir x.toNat)]);have:(ir x.toNat)=x:=by show((x.toNat:Nat):Int)=x;omega
      rw[this]
    ·have e1:n≠1:=λz=>c3 (by rw[z];rfl);refine⟨_,rfl,_,rfl,_,rfl,_,rfl,_,_,rfl,rfl,k,g,x,1,pl,n -1,rfl,fW,hw,(by omega),λH2 o d gG S2=>?_⟩;have S:=(Step.same (k:=k) (g:=g) s1).trans S2;have wo:CC g ⟨x,o,d,1,pl,n -1⟩:=⟨⟨p,nH,e0⟩,⟨by show(1:Int)<=1;decide,by show(1:Int)<=4;decide⟩,C5,⟨by show 0<=n -1;omega,by show n -1<=1000;omega⟩,λ_=>by show 1<=n -1;omega⟩;refine⟨AV,λl2 qZ=>?_⟩;refine q _ l2 ?_ (S.live _ qZ) ?_ ((S.frm KG).trans (xE.same (bC.new qZ)))
     ·refine⟨p9 g ⟨x,o,d,1,pl,n -1⟩,gG.same (bC.new qZ),?_,ok.p9 hw wo (by show(1:Int)≠4;decide)⟩;show fz _ (bL b (if n.toNat=1 then _ else _)).1;rw[aX (by omega)];have:=A.p9 ⟨x,o,d,1,pl,n -1⟩;have e2:ig ⟨x,o,d,1,pl,n -1⟩=⟨x.toNat,1,pl.toNat,n.toNat -1⟩:=by
       show(⟨x.toNat,_,pl.toNat,(n -1).toNat⟩:gd)=_;have:(n -1).toNat=n.toNat -1:=by omega
       rw[this];rfl
      rw[e2] at this;exact this
     rw[aq];show _=ae (HO.lst ((bL b (if n.toNat=1 then _ else _)).2.map V.int));rw[aX (by omega)];rfl
end
end
section
open Vbdeah (Bank)
section
variable{P:bg}{w:cn}{K:au}{mg:Str->Option ax}{base:df}{t:fO}
theorem Vz{x:Int}(hx:0<x):(ir x.toNat)=x:=by show((x.toNat:Nat):Int)=x;omega
theorem Ru{g:G}{ids:List Int}{x:Int}(hw:bj GW.id x g.W=ay):gQ (ids++[x]) g.W=gQ ids g.W:=by
 rw[Ay];unfold cF;exact oT.mpr λu hu=>decide_eq_true (fV hw u (aW.mp hu).1)
theorem VA{g:G}(x:cK g){q:GW->Bool}:∀z∈(g.W.filter q).map (·.id),0<z:=λz hz=>by
 obtain⟨u,hu,rfl⟩:=aA.mp hz;exact x.rJ (aW.mp hu).1
def Xq(t:fO):Sp:=λvs H Q _=>∃(k:aj) (b:bB) (x pl n:Int),vs=[.ref k,.int x,.int pl,.int n]/\Kp t H k b/\Sz b/\0<x/\(0<=pl/\pl<=999)/\(1<=n/\n<=1000)/\bV t H k (bL b (Cb b x.toNat pl.toNat n.toNat)) Q
def Np(n:Int):List GW->Int
 |[]=>n
 |v::_=>v.num
theorem Xr(T:Txt w K mg t):dU P w K mg base kI 4 t.y_ t.wN ["kept","x","place","count"] (Xq t):=by
 refine T.QR.ok wI (λvs H Q E h=>?_) (λiq Ar outer s H vs Q E hr h=>?_);obtain⟨k,b,x,pl,n,rfl,_⟩:=h;rfl
 ·obtain⟨k,b,x,pl,n,rfl,kp,sz,hx,C5,hn,q⟩:=h;obtain⟨g,KG,A,ok⟩:=id kp;have Nh:=sz.1;have J2:=sz.2;have B3:aM=16777216:=rfl;have lP:=A.zQ ok.fit;have lW:=ok.fit.Hk;refine⟨_,(ao (cj (i:=4) wI.nd rfl (bE rfl) (cX (pv 0) T.aR T.f7 (f9 T) hr.mo T.gn .nil bQ (ah (pv 1) aw))) (ao (dr (b_ r6 (pv 4) aQ (ck _)) (aD (bu (cv (ah (pv 4) aw)))) bY) (ao (cj (i:=5) wI.nd rfl (bE rfl) (bI (Az T) hr.mo rfl T.Av T.zr.kp T.DI .nil bQ (ah (pv 0) (ah (pv 1) (ah (dE rfl T.JR) (ah (pv 2) aw)))))) (ao (cj (i:=6) wI.nd rfl (bE rfl) (pv 3)) (ao (dr (b_ FR (cM cq (by rfl) T.eG bz (ah (pv 5) aw)) aQ (ck _)) (aD (cj (i:=6) wI.nd rfl (bE rfl) (aT (fq (d9 hr) (aT (pv 0) rfl) (eX dH (pv 5) aQ (λ_ _=>rfl)) (λ_ _=>rfl)) rfl))) bY) (ao (dr (b_ fC (iO yC (cM cq (by rfl) T.eG bz (ah (pv 5) aw)) aQ) (pv 6) (ck _)) (aD (bu (iO lS (cv (ah aQ aw)) (bI (m7 T) hr.mo rfl T.m5 T.nA.kp T.pS .nil bQ (ah (pv 0) (ah (iO lS (pv 5) (cv (ah (pv 1) aw))) aw)))))) bY) (ao (cJ (bI (lG T) hr.mo rfl T.lC T.kf.kp T.mZ .nil bQ (ah (pv 0) (ah (pv 1) (ah (dE rfl T.JR) (ah (pv 2) (ah (pv 6) aw))))))) (aD (bu (cv (ah aQ aw))))))))))),?_⟩;refine⟨_,rfl,_,_,_,rfl,KG.kept,rfl,_,rfl,k,g,x,rfl,KG.r,?_⟩;show rY _ _ _ [ae (.ref k),ae (.int x),ae (.int pl),ae (.int n),ae (.int (hv g x)),ay,ay] H;refine⟨_,rfl,rfl,_,rfl,?_⟩;refine cN (λc=>?_) (λc=>?_);exact⟨_,rfl,q.err kp (D9 A ok.fit hx _ (ne_int c))⟩
  ·obtain⟨ef,⟨p,hp⟩,hw⟩:=xF A ok.fit hx (let g:=kT b x.toNat 2 pl.toNat
     let need:=match g with
      |[]=>n.toNat
      |w::_=>w.num
     if g.length+1=need then EE (xN b (g.map λw=>w.id)) (g.map (λw=>w.id)++[x.toNat]) else .wait (gM b ⟨x.toNat,2,pl.toNat,need⟩)) (eq_int c)
   have Hj:Cb b x.toNat pl.toNat n.toNat=_:=ef;have eg:kT b x.toNat 2 pl.toNat=(g.W.filter (gq g p.fam 2 pl)).map ig:=A.group ok.fit hp (kd:=2) (by omega) (by omega);rw[Hj,eg] at q;obtain⟨nH,e0⟩:=bD hp;refine⟨_,rfl,_,rfl,_,rfl,k,g,x,2,pl,p,rfl,KG.r,hp,uM.of ok.fit,(by omega),λH1 l hl el s1=>?_⟩;have fW:=KG.same s1;have ek:sM g p.fam 2 pl g.W=(g.W.filter (gq g p.fam 2 pl)).map (·.id):=rfl;have lK:(g.W.filter (gq g p.fam 2 pl)).length<=g.W.length:=bf _ _;have Xs:∀v∈g.W.filter (gq g p.fam 2 pl),v∈g.W:=λv hv=>(aW.mp hv).1;have agk:(match (g.W.filter (gq g p.fam 2 pl)).map ig with
     |[]=>n.toNat
     |w::_=>w.num)=(Np n (g.W.filter (gq g p.fam 2 pl))).toNat:=by
    cases g.W.filter (gq g p.fam 2 pl)<;>rfl
   have agl:0<=Np n (g.W.filter (gq g p.fam 2 pl))/\Np n (g.W.filter (gq g p.fam 2 pl))<=1000:=by
    cases hF:g.W.filter (gq g p.fam 2 pl) with
    |nil=>exact⟨by show 0<=n;omega,hn.2⟩
    |cons v r=>exact(ok.fit.t5 v (Xs v (by rw[hF];exact aB ..))).num
   have q':bV t H k (bL b (if((g.W.filter (gq g p.fam 2 pl)).map ig).length+1=(Np n (g.W.filter (gq g p.fam 2 pl))).toNat then EE (xN b (((g.W.filter (gq g p.fam 2 pl)).map ig).map λw=>w.id)) (((g.W.filter (gq g p.fam 2 pl)).map ig).map (λw=>w.id)++[x.toNat]) else .wait (gM b ⟨x.toNat,2,pl.toNat,(Np n (g.W.filter (gq g p.fam 2 pl))).toNat⟩))) Q:=by
    rw[<-agk];exact q
   clear q
   rw[ag] at q';rw[ek] at el;refine⟨_,rfl,?_⟩;refine⟨_,rfl,_,_,rfl,.inl (dS.of el),_,_,rfl,rfl,_,rfl,?_⟩;rw[ag,ag];suffices fin:∀nd:Int,nd=Np n (g.W.filter (gq g p.fam 2 pl))->rY (afh (Yw (tOp rEq (tOp (rI0 λi j=> .int (i+j)) (tCB (λxs H Q=>∃p ys,xs=[.ref p]/\(dS K H p ys\/n9 K H p ys)/\Q (.int ys.length) H) (r9 (EF 5) EL)) (tC (.int 1))) (EF 6))) (aa9 (tOp abo (YD (r9 (tC (.int 0)) EL)) (P_ (Cz t) [] E0 (r9 (EF 0) (r9 (tOp abo (EF 5) (YD (r9 (EF 1) EL))) EL))))) acx) (rY (acy (P_ (x6 t) [] E0 (r9 (EF 0) (r9 (EF 1) (r9 (tC (.int 2)) (r9 (EF 2) (r9 (EF 6) EL))))))) (aa9 (YD (r9 (tC (.int 1)) EL)))) {nx:=λ_ H'=>Q .non H',rt:=Q} [ae (.ref k),ae (.int x),ae (.int pl),ae (.int n),ae (.int (hv g x)),ae (.ref l),ae (.int nd)] H1 by
    cases hF:g.W.filter (gq g p.fam 2 pl) with
    |nil=>
     refine cN (λc2=>bM (aY c2) (by decide)) (λ_=>?_);exact fin n (by rw[hF];rfl)
    |cons v r=>
     refine cN (λ_=>?_) (λc2=>bM (bG (by show(0:Int)<(r.length+1:Nat);omega)) c2);have hvf:v∈g.W.filter (gq g p.fam 2 pl):=by rw[hF];exact aB ..
     have PL:=el;rw[hF] at PL;refine⟨_,rfl,_,_,_,_,_,rfl,fW.kept,T.aR,T.cA,rfl,_,rfl,_,_,_,_,rfl,rfl,dS.of PL,cQ (j:=0) (v:=V.int v.id) rfl,_,_,rfl,fW.zL (cB fW.Il (Xs v hvf) rfl),_,_,_,_,_,rfl,fW.wait v (Xs v hvf),T.eE,T.dM,rfl,?_⟩;exact fin v.num (by rw[hF];rfl)
   intro nd end_;refine⟨_,rfl,_,_,rfl,.inl (dS.of el),_,_,rfl,rfl,_,rfl,rfl,_,rfl,?_⟩;rw[ag,ag];refine cN (λc4=>?_) (λc4=>?_)
   ·have e4:((g.W.filter (gq g p.fam 2 pl)).length:Int)+1=nd:=V.int.inj (aY c4);rw[bw (by omega)] at q';refine⟨AV,λl2 qZ=>?_⟩;have s2:bC H1 (upd H1 l2 (.lst [.int 0])):=bC.new qZ;have vZ:upd H1 l2 (.lst [.int 0]) l2=ae (.lst [.int 0]):=aq;have gG:=fW.same s2;have elb:=s2 _ _ el;generalize upd H1 l2 (.lst [.int 0])=H2 at s2 vZ gG elb;refine⟨_,rfl,_,rfl,_,rfl,AV,λl3 Ez=>?_⟩;have s3:bC H2 (upd H2 l3 (.lst [.int x])):=bC.new Ez;have Vy:upd H2 l3 (.lst [.int x]) l3=ae (.lst [.int x]):=aq;have elc:=s3 _ _ elb;have agm:=s3 _ _ vZ;have pL:=gG.same s3;generalize upd H2 l3 (.lst [.int x])=H3 at s3 Vy elc agm pL;refine⟨l,l3,_,_,rfl,rfl,elc,Vy,?_,λl4 Rt=>?_⟩;rw[ag,ag];show _+1<=_;omega;have s4:bC H3 (upd H3 l4 (.lst (((g.W.filter (gq g p.fam 2 pl)).map (·.id)).map V.int++[.int x]))):=bC.new Rt;have e4':upd H3 l4 (.lst (((g.W.filter (gq g p.fam 2 pl)).map (·.id)).map V.int++[.int x])) l4=ae (.lst (((g.W.filter (gq g p.fam 2 pl)).map (·.id)++[x]).map V.int)):=by rw[aq,az];rfl
    have aem:=s4 _ _ agm;have BX:=pL.same s4;generalize upd H3 l4 (.lst (((g.W.filter (gq g p.fam 2 pl)).map (·.id)).map V.int++[.int x]))=H4 at s4 e4' aem BX;refine⟨k,l4,g,(g.W.filter (gq g p.fam 2 pl)).map (·.id)++[x],rfl,BX,e4',?_,λH5 l5 Yg S5 Xp el5=>?_⟩;rw[aK,ag];show _+1<1000000;omega;rw[Ru hw] at Yg;have S:=((((Step.same (k:=k) (g:=g) s1).trans (Step.same s2)).trans (Step.same s3)).trans (Step.same s4)).trans S5;have e25:H5 l2=ae (.lst [.int 0]):=S5.keep _ _ aem (BX.tT aem);refine⟨l2,l5,_,_,rfl,rfl,e25,el5,?_,λl6 hl6=>?_⟩;show 1+((List.map V.int _).length+1)<=_;rw[ag,aK,ag];show 1+(_+1+1)<=_;omega;have ajI:((g.W.filter (gq g p.fam 2 pl)).map ig).map (λw=>w.id)=((g.W.filter (gq g p.fam 2 pl)).map (·.id)).map fY:=by rw[bx,bx];rfl
    rw[ajI] at q';have AO:=A.gQ ok.fit (ids:=(g.W.filter (gq g p.fam 2 pl)).map (·.id)) (VA ok.fit);refine q' _ l6 ⟨_,Yg.same (bC.new hl6),AO,ok.off _⟩ (S.live _ hl6) ?_ ((S.frm KG).trans (xE.same (bC.new hl6)));rw[aq];show _=ae (HO.lst ((0::eC (di (((g.W.filter (gq g p.fam 2 pl)).map (·.id)).map fY++[x.toNat]))).map V.int));have ea:((g.W.filter (gq g p.fam 2 pl)).map (·.id)).map fY++[x.toNat]=((g.W.filter (gq g p.fam 2 pl)).map (·.id)++[x]).map fY:=by rw[az];rfl
    rw[ea,D_];rfl
    ·intro z hz;obtain z1|z1:=aP.mp hz
     exact VA ok.fit z z1;rw[ai.mp z1];exact hx
   have n4:¬((g.W.filter (gq g p.fam 2 pl)).length:Int)+1=nd:=λz=>c4 (bG (da V.int z));rw[aX (by omega)] at q';refine⟨_,rfl,_,rfl,_,rfl,_,rfl,k,g,x,2,pl,nd,rfl,fW,hw,(by omega),λH2 o d gG S2=>?_⟩;have S:=(Step.same (k:=k) (g:=g) s1).trans S2;have wo:CC g ⟨x,o,d,2,pl,nd⟩:=⟨⟨p,nH,e0⟩,⟨by show(1:Int)<=2;decide,by show(2:Int)<=4;decide⟩,C5,by show 0<=nd/\nd<=1000;rw[end_];exact agl,λz=>bM z (by show ¬(2:Int)=1;decide)⟩;refine⟨AV,λl2 qZ=>?_⟩;refine q' _ l2 ⟨p9 g ⟨x,o,d,2,pl,nd⟩,gG.same (bC.new qZ),?_,ok.p9 hw wo (by show(2:Int)≠4;decide)⟩ (S.live _ qZ) aq ((S.frm KG).trans (xE.same (bC.new qZ)));rw[<-end_];exact A.p9 ⟨x,o,d,2,pl,nd⟩
end
end
section
open Vbdeah (Bank)
section
variable{P:bg}{w:cn}{K:au}{mg:Str->Option ax}{base:df}{t:fO}
def Md(t:fO):Sp:=λvs H Q _=>∃(k:aj) (b:bB) (x pl ot:Int),vs=[.ref k,.int x,.int pl,.int ot]/\Kp t H k b/\Sz b/\0<x/\(0<=pl/\pl<=999)/\(0<=ot/\ot<=999)/\bV t H k (bL b (GI b x.toNat pl.toNat ot.toNat)) Q
theorem OU{g:G}(x:cK g){l:List GW}(hl:∀w∈l,w∈g.W){pl:Int}(h:0<=pl):(l.map ig).find? (λw=>w.num==pl.toNat)=(l.find? λw=>decide (w.num=pl)).map ig:=by
 rw[vc];congr 1;induction l with
 |nil=>rfl
 |cons a r ih=>
  have e:((λw:gd=>w.num==pl.toNat)∘ig) a=decide (a.num=pl):=by
   show(a.num.toNat==pl.toNat)=_;have:=(x.t5 a (hl a (aB ..))).num;rw[cT,Iw,bJ];omega
  rw[gI,gI,e,ih λw hw=>hl w (aC _ hw)]
theorem Mf(T:Txt w K mg t):dU P w K mg base kI 4 t.qp t.oy ["kept","x","place","other_place"] (Md t):=by
 refine T.DJ.ok vU (λvs H Q E h=>?_) (λiq Ar outer s H vs Q E hr h=>?_);obtain⟨k,b,x,pl,n,rfl,_⟩:=h;rfl
 ·obtain⟨k,b,x,pl,ot,rfl,kp,sz,hx,C5,hot,q⟩:=h;obtain⟨g,KG,A,ok⟩:=id kp;have Nh:=sz.1;have J2:=sz.2;have B3:aM=16777216:=rfl;have lP:=A.zQ ok.fit;have lW:=ok.fit.Hk;refine⟨_,(ao (cj (i:=4) vU.nd rfl (bE rfl) (cX (pv 0) T.aR T.f7 (f9 T) hr.mo T.gn .nil bQ (ah (pv 1) aw))) (ao (dr (b_ r6 (pv 4) aQ (ck _)) (aD (bu (cv (ah (pv 4) aw)))) bY) (ao (cj (i:=5) vU.nd rfl (bE rfl) (bI (Ge T) hr.mo rfl T.F7 T.Cu.kp T.Jx .nil bQ (ah (pv 0) (ah (pv 1) (ah (pv 2) (ah (pv 3) aw)))))) (ao (dr (b_ FR (cM cq (by rfl) T.eG bz (ah (pv 5) aw)) aQ (ck _)) (aD (bu (iO lS (cv (ah aQ aw)) (bI (m7 T) hr.mo rfl T.m5 T.nA.kp T.pS .nil bQ (ah (pv 0) (ah (cv (ah (eX dH (pv 5) aQ (λ_ _=>rfl)) (ah (pv 1) aw))) aw)))))) bY) (ao (cJ (bI (lG T) hr.mo rfl T.lC T.kf.kp T.mZ .nil bQ (ah (pv 0) (ah (pv 1) (ah (dE rfl T.OB) (ah (pv 2) (ah (pv 3) aw))))))) (aD (bu (cv (ah aQ aw))))))))),?_⟩;refine⟨_,rfl,_,_,_,rfl,KG.kept,rfl,_,rfl,k,g,x,rfl,KG.r,?_⟩;show rY _ _ _ [ae (.ref k),ae (.int x),ae (.int pl),ae (.int ot),ae (.int (hv g x)),ay] H;refine⟨_,rfl,rfl,_,rfl,?_⟩;refine cN (λc=>?_) (λc=>?_);exact⟨_,rfl,q.err kp (D9 A ok.fit hx _ (ne_int c))⟩
  ·obtain⟨ef,⟨p,hp⟩,hw⟩:=xF A ok.fit hx (match (kT b x.toNat 3 ot.toNat).find? λw=>w.num==pl.toNat with
    |some w=>EE (xN b [w.id]) [w.id,x.toNat]
    |none=> .wait (gM b ⟨x.toNat,3,pl.toNat,ot.toNat⟩)) (eq_int c)
   have Hj:GI b x.toNat pl.toNat ot.toNat=_:=ef;have eg:kT b x.toNat 3 ot.toNat=(g.W.filter (gq g p.fam 3 ot)).map ig:=A.group ok.fit hp (kd:=3) (by omega) (by omega);have Xs:∀v∈g.W.filter (gq g p.fam 3 ot),v∈g.W:=λv hv=>(aW.mp hv).1;rw[Hj,eg,OU ok.fit Xs (by omega)] at q;obtain⟨nH,e0⟩:=bD hp;refine⟨_,rfl,_,rfl,_,rfl,_,rfl,k,g,x,pl,ot,p,rfl,KG.r,hp,uM.of ok.fit,(by omega),λH1 l hl el s1=>?_⟩;have fW:=KG.same s1;show rY _ _ _ [ae (.ref k),ae (.int x),ae (.int pl),ae (.int ot),ae (.int (hv g x)),ae (.ref l)] H1;refine⟨_,rfl,_,_,rfl,.inl (dS.of el),_,_,rfl,rfl,_,rfl,?_⟩;rw[ag,ag];have efd:(g.W.filter (gq g p.fam 3 ot)).find? (λw=>decide (w.num=pl))=((g.W.filter (gq g p.fam 3 ot)).filter (tL pl)).head?:=(List.head?_filter).symm;refine cN (λc2=>?_) (λc2=>?_)
   ·cases efl:(g.W.filter (gq g p.fam 3 ot)).filter (tL pl) with
    |nil=>rw[efl] at c2;exact bM c2 (by decide)
    |cons v rest=>
     rw[efl] at efd el;rw[efd] at q;have B2:v∈g.W:=Xs v (aW.mp (by rw[efl];exact aB ..)).1;have nv:=ok.fit.rJ B2;refine⟨AV,λl2 qZ=>?_⟩;have s2:bC H1 (upd H1 l2 (.lst [.int 0])):=bC.new qZ;have vZ:upd H1 l2 (.lst [.int 0]) l2=ae (.lst [.int 0]):=aq;have gG:=fW.same s2;have ell:=s2 _ _ el;generalize upd H1 l2 (.lst [.int 0])=H2 at s2 vZ gG ell;refine⟨_,rfl,_,rfl,_,_,_,_,rfl,rfl,dS.of ell,cQ (j:=0) (v:=V.int v.id) rfl,_,rfl,Yc,λl3 Ez=>?_⟩;have s3:bC H2 (upd H2 l3 (.lst [.int v.id,.int x])):=bC.new Ez;refine⟨k,l3,g,[v.id,x],rfl,gG.same s3,aq,(by show 2<1000000;decide),λH4 l4 BX S4 Rt el4=>?_⟩;have S:=(((Step.same (k:=k) (g:=g) s1).trans (Step.same s2)).trans (Step.same s3)).trans S4;have e24:H4 l2=ae (.lst [.int 0]):=S4.keep _ _ (s3 _ _ vZ) ((gG.same s3).tT (s3 _ _ vZ));refine⟨l2,l4,_,_,rfl,rfl,e24,el4,(by show 1+3<=aM;decide),λl5 Xp=>?_⟩;have eo:gQ [v.id,x] g.W=gQ [v.id] g.W:=Ru (ids:=[v.id]) hw;rw[eo] at BX;refine q _ l5 ⟨_,BX.same (bC.new Xp),A.gQ ok.fit (ids:=[v.id]) λz hz=>by rw[ai.mp hz];exact nv,ok.off _⟩ (S.live _ Xp) ?_ ((S.frm KG).trans (xE.same (bC.new Xp)));rw[aq];show ae (HO.lst [V.int 0,V.int 2,V.int v.id,V.int x])=ae (HO.lst [V.int 0,V.int 2,V.int (ir v.id.toNat),V.int (ir x.toNat)]);rw[Vz nv,Vz hx]
   ·have efl:(g.W.filter (gq g p.fam 3 ot)).filter (tL pl)=[]:=by
     cases e:(g.W.filter (gq g p.fam 3 ot)).filter (tL pl) with
     |nil=>rfl
     |cons a r=>exact bM (by rw[e];exact bG (by show(0:Int)<((r.length+1:Nat):Int);omega)) c2
    rw[efl] at efd;rw[efd] at q;refine⟨_,rfl,_,rfl,_,rfl,_,rfl,k,g,x,3,pl,ot,rfl,fW,hw,(by omega),λH2 o d gG S2=>?_⟩;have S:=(Step.same (k:=k) (g:=g) s1).trans S2;have wo:CC g ⟨x,o,d,3,pl,ot⟩:=⟨⟨p,nH,e0⟩,⟨by show(1:Int)<=3;decide,by show(3:Int)<=4;decide⟩,C5,⟨hot.1,by show ot<=1000;omega⟩,λz=>bM z (by show ¬(3:Int)=1;decide)⟩;refine⟨AV,λl2 qZ=>?_⟩;exact q _ l2 ⟨p9 g ⟨x,o,d,3,pl,ot⟩,gG.same (bC.new qZ),A.p9 ⟨x,o,d,3,pl,ot⟩,ok.p9 hw wo (by show(3:Int)≠4;decide)⟩ (S.live _ qZ) aq ((S.frm KG).trans (xE.same (bC.new qZ)))
def Xt(t:fO):Sp:=λvs H Q _=>∃(k:aj) (b:bB) (x pl:Int),vs=[.ref k,.int x,.int pl]/\Kp t H k b/\Sz b/\0<x/\(0<=pl/\pl<=999)/\bV t H k (bL b (Cd b x.toNat pl.toNat)) Q
theorem Xu(T:Txt w K mg t):dU P w K mg base kI 4 t.za t.wO ["kept","x","place"] (Xt t):=by
 refine T.QS.ok E2 (λvs H Q E h=>?_) (λiq Ar outer s H vs Q E hr h=>?_);obtain⟨k,b,x,pl,rfl,_⟩:=h;rfl
 ·obtain⟨k,b,x,pl,rfl,kp,sz,hx,C5,q⟩:=h;obtain⟨g,KG,A,ok⟩:=id kp;have Nh:=sz.1;have J2:=sz.2;have B3:aM=16777216:=rfl;have lP:=A.zQ ok.fit;have lW:=ok.fit.Hk;refine⟨_,(ao (cj (i:=3) E2.nd rfl (bE rfl) (cX (pv 0) T.aR T.f7 (f9 T) hr.mo T.gn .nil bQ (ah (pv 1) aw))) (ao (dr (b_ r6 (pv 3) aQ (ck _)) (aD (bu (cv (ah (pv 3) aw)))) bY) (ao (cJ (bI (lG T) hr.mo rfl T.lC T.kf.kp T.mZ .nil bQ (ah (pv 0) (ah (pv 1) (ah (dE rfl T.JS) (ah (pv 2) (ah aQ aw))))))) (ao (cj (i:=4) E2.nd rfl (bE rfl) (bI (pF T) hr.mo rfl T.pE T.m6.kp T.qO .nil bQ (ah (pv 0) aw))) (ao (dr (b_ fC (cM cq (by rfl) T.eG bz (ah (pv 4) aw)) aQ (ck _)) (aD (bu (cv (ah aQ aw)))) bY) (aD (bu (iO lS (cv (ah aQ aw)) (bI (m7 T) hr.mo rfl T.m5 T.nA.kp T.pS .nil bQ (ah (pv 0) (ah (pv 4) aw))))))))))),?_⟩;refine⟨_,rfl,_,_,_,rfl,KG.kept,rfl,_,rfl,k,g,x,rfl,KG.r,?_⟩;show rY _ _ _ [ae (.ref k),ae (.int x),ae (.int pl),ae (.int (hv g x)),ay] H;refine⟨_,rfl,rfl,_,rfl,?_⟩;refine cN (λc=>?_) (λc=>?_);exact⟨_,rfl,q.err kp (D9 A ok.fit hx _ (ne_int c))⟩
  ·obtain⟨ef,⟨p,hp⟩,hw⟩:=xF A ok.fit hx (match e9 (gM b ⟨x.toNat,4,pl.toNat,0⟩) with
    |(c,[])=>Ym c
    |(c,off)=> .ok c off) (eq_int c)
   have Hj:Cd b x.toNat pl.toNat=_:=ef;rw[Hj] at q;obtain⟨nH,e0⟩:=bD hp;refine⟨_,rfl,_,rfl,_,rfl,k,g,x,4,pl,0,rfl,KG,hw,(by omega),λH1 o d fW S1=>?_⟩;have wo:CC g ⟨x,o,d,4,pl,0⟩:=⟨⟨p,nH,e0⟩,⟨by show(1:Int)<=4;decide,by show(4:Int)<=4;decide⟩,C5,⟨by show(0:Int)<=0;decide,by show(0:Int)<=1000;decide⟩,λz=>bM z (by show ¬(4:Int)=1;decide)⟩;have X1:cK (p9 g ⟨x,o,d,4,pl,0⟩):=ok.fit.p9 hw wo;have A1:fz (p9 g ⟨x,o,d,4,pl,0⟩) (gM b ⟨x.toNat,4,pl.toNat,0⟩):=A.p9 ⟨x,o,d,4,pl,0⟩;have U:uN (p9 g ⟨x,o,d,4,pl,0⟩):=Um (m:=p.fam) X1.lO (Gm ok nH e0);obtain⟨o1,o2,o3⟩:=Fv A1 X1 U ok.ne ok.xD;have lW1:(g.W++[(⟨x,o,d,4,pl,0⟩:GW)]).length<=2001:=by rw[aK];show g.W.length+1<=2001;omega
   have Zw:∀f∈g.F,f.kids.length+1<4096:=λf hf=>by have:=A.A_ ok.fit hf;omega
   have hml:(dO (p9 g ⟨x,o,d,4,pl,0⟩)).length<=2001:=bX (Gj _) lW1;have aot:(dO {g with W:=g.W++[(⟨x,o,d,4,pl,0⟩:GW)]}).length<=2001:=hml;have eS:e9 (gM b ⟨x.toNat,4,pl.toNat,0⟩)=((e9 (gM b ⟨x.toNat,4,pl.toNat,0⟩)).1,(dO (p9 g ⟨x,o,d,4,pl,0⟩)).map fY):=by rw[<-o1]
   refine⟨_,rfl,k,_,rfl,fW,uM.of X1,(by show(g.W++[_]).length<_;omega),Zw,λH2 l hl el s2=>?_⟩;have gG:=fW.same s2;have S2:=S1.trans (Step.same s2);refine⟨_,rfl,_,_,rfl,.inl (dS.of el),rfl,_,rfl,?_⟩;rw[ag];cases hM:dO (p9 g ⟨x,o,d,4,pl,0⟩) with
   |nil=>
    refine cN (λ_=>?_) (λc2=>bM (bG (by show V.int (((dO (p9 g ⟨x,o,d,4,pl,0⟩)).length:Nat):Int)=V.int 0;rw[hM];rfl)) c2);rw[hM] at eS o2 o3;rw[eS] at q;refine⟨AV,λl2 qZ=>?_⟩;refine q _ l2 ⟨_,gG.same (bC.new qZ),?_,?_⟩ (S2.live _ qZ) aq ((S2.frm KG).trans (xE.same (bC.new qZ)));rw[uL] at o2;exact o2;rw[uL] at o3;exact o3
   |cons m r=>
    refine cN (λc2=>absurd (of_decide_eq_true c2) (λz=>?_)) (λ_=>?_);have z1:((dO (p9 g ⟨x,o,d,4,pl,0⟩)).length:Int)=0:=V.int.inj z;rw[hM] at z1;simp at z1;omega;refine⟨AV,λl2 qZ=>?_⟩;have s3:bC H2 (upd H2 l2 (.lst [.int 0])):=bC.new qZ;have vZ:upd H2 l2 (.lst [.int 0]) l2=ae (.lst [.int 0]):=aq;have pL:=gG.same s3;have Vy:=s3 _ _ el;generalize upd H2 l2 (.lst [.int 0])=H3 at s3 vZ pL Vy;refine⟨_,rfl,_,rfl,k,l,_,_,rfl,pL,Vy,(by omega),λH4 l4 BX S4 Rt el4=>?_⟩;have S:=(S2.trans (Step.same s3)).trans S4;have e24:H4 l2=ae (.lst [.int 0]):=S4.keep _ _ vZ (pL.tT vZ);refine⟨l2,l4,_,_,rfl,rfl,e24,el4,?_,λl5 Xp=>?_⟩;show 1+((List.map V.int _).length+1)<=_;rw[ag];omega;have eq2:(match e9 (gM b ⟨x.toNat,4,pl.toNat,0⟩) with
     |(c,[])=>Ym c
     |(c,off)=> .ok c off)= .ok (e9 (gM b ⟨x.toNat,4,pl.toNat,0⟩)).1 ((dO (p9 g ⟨x,o,d,4,pl,0⟩)).map fY):=by
     rw[eS,hM];rfl
    rw[eq2] at q;refine q _ l5 ⟨_,BX.same (bC.new Xp),o2,o3⟩ (S.live _ Xp) ?_ ((S.frm KG).trans (xE.same (bC.new Xp)));rw[aq];show _=ae (HO.lst ((0::eC (di ((dO (p9 g ⟨x,o,d,4,pl,0⟩)).map fY))).map V.int));rw[D_ λz hz=>vF X1 hz];rfl
end
end
section
open Vbdeah (Bank)
section
variable{P:bg}{w:cn}{K:au}{mg:Str->Option ax}{base:df}{t:fO}
theorem Ea{X:Cx}{x:Str}{a:aj}{pos:Pos}(hg:Gl X x)(h:X.mg x=ae (.ref a))(hd:(x==("__debug__":Str))=false:=by decide):PE X (.Name x pos) (tC (.ref a)):=UM (v:= .ref a) hg h rfl hd
def Rv(t:fO):Sp:=λvs H Q _=>∃(wd:Str) (n lo hi:Int),vs=[.str wd,.int n]/\h8 (Cp t) (.inr wd)=ae (.int lo)/\h8 (zj t) (.inr wd)=ae (.int hi)/\Q (.bl (decide (lo<=n)&&decide (n<=hi))) H
theorem sQ(T:Txt w K mg t):dU P w K mg base kI 1 t.uw t.sh ["word","number"] (Rv t):=by
 refine T.rF.ok QJ (λvs H Q E h=>?_) (λiq Ar outer s H vs Q E hr h=>?_);obtain⟨wd,n,lo,hi,rfl,_⟩:=h;rfl
 ·obtain⟨wd,n,lo,hi,rfl,h1,h2,q⟩:=h;refine⟨_,(aD (bu (yD vh vh (Ig (Ea rfl T.Xa) (pv 0) (λ_ _=>rfl)) (pv 1) (Ig (Ea rfl T.Ub) (pv 0) (λ_ _=>rfl))))),?_⟩;refine⟨_,rfl,_,_,yw wd,_,rfl,T.Xb _,rfl,h1,_,rfl,_,_,rfl,rfl,_,rfl,?_⟩;refine cN (λc=>?_) (λc=>?_);refine⟨_,rfl,_,_,yw wd,_,rfl,T.Uc _,rfl,h2,_,_,rfl,rfl,?_⟩;rw[c,gZ] at q;exact q;rw[bP.mpr c,jj] at q;exact q
def Rw(y:Int):Bool:=decide (1<=y)&&decide (y<=1000000000)
def w_(ids:List Int):Bool:=(decide (1<=ids.length)&&decide (ids.length<=100))&&(ids.all Rw&&decide ((qd ids).length=ids.length))
def Eb(t:fO)(K:au):Sp:=λvs H Q _=>∃(l:aj) (ids:List Int),vs=[.ref l]/\dS K H l (ids.map V.int)/\∀H',bC H H'->Q (.bl (w_ ids)) H'
theorem Ec(T:Txt w K mg t):dU P w K mg base kI 2 t.j9 t.jA ["ids"] (Eb t K):=by
 refine T.wY.ok vw (λvs H Q E h=>?_) (λiq Ar outer s H vs Q E hr h=>?_);obtain⟨l,ids,rfl,_⟩:=h;rfl
 ·obtain⟨l,ids,rfl,hl,q⟩:=h;refine⟨_,(ao (dr (vO (Yy vh vh aQ (cM cq (by rfl) T.eG bz (ah (pv 0) aw)) (dE rfl T.Ua))) (aD (bu II)) bY) (ao (nM dm rfl (kH (pv 0)) (f6 (i:=1) vw.nd rfl (bE rfl)) (aD (dr (vO (vN (bI (sQ T) hr.mo rfl T.sG T.rF.kp T.uF .nil bQ (ah IJ (ah (pv 1) aw))))) (aD (bu II)) bY))) (aD (bu (jS fC (cM M0 (by rfl) T.eG bz (ah (ER (MZ rfl) (by rfl) T.Zt boot_set (ah (pv 0) aw)) aw)) (cM cq (by rfl) T.eG bz (ah (pv 0) aw)) (ck _)))))),?_⟩;refine⟨_,rfl,_,_,rfl,.inl hl,_,_,rfl,rfl,_,rfl,?_⟩;rw[ag];have no:(decide (1<=ids.length)&&decide (ids.length<=100))=false->w_ ids=false:=λh=>by unfold w_;rw[h,jj]
  refine cN (λc=>?_) (λc=>?_)
  ·have c1:(1:Int)<=ids.length:=aY c;refine⟨_,_,rfl,rfl,_,rfl,?_⟩;show if(!decide ((ids.length:Int)<=100))=true then _ else _
   by_cases c2:(ids.length:Int)<=100
   ·rw[bG c2];refine TN ?_;have len:(decide (1<=ids.length)&&decide (ids.length<=100))=true:=by
     rw[bG (by omega),bG (by omega)];rfl
    refine⟨_,rfl,l,rfl,⟨_,hl⟩,qc (K:=K) (a:=l) (xs:=ids.map V.int) (λi σ H'=>H'=H/\(∃v:Option V,σ=[ae (.ref l),v])/\(ids.take i).all Rw=true) ⟨rfl,⟨ay,rfl⟩,rfl⟩ (λi σ H' _ ⟨e,_⟩=>by rw[e];exact hl) ?_ ?_⟩
    ·rintro i y σ H' hi ⟨eH,⟨v0,rfl⟩,ha⟩;obtain rfl:=eH.symm;rw[dh] at hi;obtain⟨z,hz,rfl⟩:∃z,ids[i]? =ae z/\y=V.int z:=by
      cases e:ids[i]? with
      |none=>rw[e] at hi;cases hi
      |some z=>rw[e] at hi;exact⟨z,rfl,(bF hi).symm⟩
     refine⟨_,rfl,"person",z,1,1000000000,rfl,rfl,rfl,_,rfl,?_⟩;cases e:(decide ((1:Int)<=z)&&decide (z<=1000000000)) with
     |false=>
      refine N7 ?_;have:w_ ids=false:=by
       unfold w_;rw[DW (q:=Rw) (bW hz) e,jj,jl]
      rw[<-this];exact q H (bC.refl _)
     |true=>
      refine TN ⟨rfl,⟨_,rfl⟩,?_⟩;rw[B1 hz,ha,gZ];exact e
    ·rintro σ H' ⟨eH,⟨v0,rfl⟩,ha⟩;obtain rfl:=eH.symm;rw[ag,cE] at ha;refine⟨_,rfl,_,ids,rfl,hl,(by omega),λp S hp=>?_⟩;have s1:bC H (upd H p (.set S (qd ids).length)):=bC.new hp;refine⟨_,_,_,rfl,aq,_,rfl,_,_,rfl,.inl (s1.seq hl),rfl,?_⟩;have e:decide (V.int (((qd ids).length:Nat):Int)=V.int (((ids.map V.int).length:Nat):Int))=w_ ids:=by
      unfold w_;rw[len,ha,gZ,gZ,ag];exact decide_eq_decide.mpr ⟨λz=>by have:=V.int.inj z;omega,λz=>by rw[z]⟩
     rw[e];exact q _ s1
   rw[u5 c2];refine N7 ?_;rw[<-no (by rw[decide_eq_false (p:=ids.length<=100) (by omega),jl])];exact q H (bC.refl _)
  have c1:¬(1:Int)<=ids.length:=λz=>c (bG z);refine⟨_,rfl,N7 ?_⟩;rw[<-no (by rw[decide_eq_false (p:=1<=ids.length) (by omega),jj])];exact q H (bC.refl _)
theorem nP.enter{g:G}(ok:nP g){n y:Int}{tp o d:aj}{f:GF}(hf:f∈g.F)(en:f.num=n)(hy:0<y)(nx:bj GP.id y g.P=ay):nP {g with F:=lT n y tp g.F,P:=g.P++[⟨y,o,d,n,f.fN⟩]}:=by
 have X1:=ok.fit.enter (tp:=tp) (o:=o) (d:=d) hf en hy nx;refine⟨X1,λf' dZ=>?_,λf' dZ d D=>?_,λf' dZ=>?_⟩
 ·obtain⟨f0,h0,_,_,_,k⟩:=iJ ok.fit dZ;obtain⟨_,_,k⟩|⟨_,rfl⟩:=k
  rw[k];simp;exact ok.ne f' h0
 ·obtain⟨f0,h0,e1,_⟩:=iJ ok.fit dZ;refine ok.xD f0 h0 d ?_;rw[<-e1];exact D.mono λq hq=>by
   obtain⟨q0,Rk,a1,a2,_⟩:=iJ ok.fit hq;exact⟨q0,Rk,a1.symm,a2.symm⟩
 ·obtain⟨f0,h0,_,_,_,k⟩:=iJ ok.fit dZ;obtain⟨_,_,k⟩|⟨_,rfl⟩:=k
  rw[bP];intro z;obtain⟨_,v,hv,_⟩:=(eT.mp z).1 ⟨f0.fN,tp,0,y⟩ (by rw[k];simp);have Yz:bj GW.id y g.W=ae v:=hv;rw[ok.fit.acW nx] at Yz;cases Yz;exact ok.Xh f' h0
theorem zY:∀{ids:List Int},(∀y∈ids,Rw y=true)->(gm (ids.map fY)=true↔ids.Nodup)
 |[],_=>by simp[gm]
 |a::r,h=>by
  have ih:=zY (ids:=r) λy hy=>h y (aC _ hy);rw[aU,gm,aH,ih,cU,FN];have e:((r.map fY).contains a.toNat=false)↔a∉r:=by
   rw[bP,ne_eq,gH,aA];constructor;intro n m;exact n ⟨a,m,rfl⟩
   ·rintro n ⟨z,hz,e⟩;have h1:=h a (aB ..);have h2:=h z (aC _ hz);unfold Rw at h1 h2;simp only[aH,decide_eq_true_iff] at h1 h2;have:z=a:=by omega
    exact n (by rw[<-this];exact hz)
  rw[e]
theorem Nq{ids:List Int}:(qd ids).length=ids.length↔ids.Nodup:=by
 constructor
 ·intro h;induction ids with
  |nil=>simp
  |cons a r ih=>
   by_cases m:a∈r
   ·have:=jK (sO (a::r)) (m:=r) λy hy=>by
     obtain rfl|z:=aF.mp ((nE _ y).mp hy)
     exact m;exact z
    rw[h,aL] at this;omega
   ·refine cU.mpr ⟨m,ih ?_⟩;have h1:(qd r).length<=r.length:=jK (sO r) λy hy=>(nE _ y).mp hy;have h2:(qd (a::r)).length<=(a::qd r).length:=jK (sO _) λy hy=>by
     obtain rfl|z:=aF.mp ((nE _ y).mp hy)
     exact aB ..;exact aC _ ((nE _ y).mpr z)
    rw[h,aL,aL] at h2;omega
 intro nd;exact nB (sO ids) nd λy=>nE ids y
theorem ZS(ids:List Int):tW ids=if w_ ids=true then ae (ids.map fY) else ay:=by
 unfold tW w_;have e0:ids.all cy=ids.all Rw:=rfl;dsimp only;rw[e0];by_cases h:ids.all Rw=true
 ·have hd:=zY (ids:=ids) λy hy=>cz.mp h y hy;by_cases h1:1<=ids.length<;>by_cases h2:ids.length<=100<;>by_cases h3:ids.Nodup;all_goals simp[h,h1,h2,hd,h3,Nq]
 rw[aX (λz=>h z.1),aX];intro z;exact h (tE.mp (tE.mp z).2).1
end
end
section
open Vbdeah (Bank)
section
variable{P:bg}{w:cn}{K:au}{mg:Str->Option ax}{base:df}{t:fO}
def OV(b:bB)(x:Int)(ids:List Int):bB×List Int:=match tW ids with
 |none=>(b,[-2])
 |some l=>bL b (tX b x.toNat l)
def OW(t:fO):Sp:=λvs H Q _=>∃(k l:aj) (b:bB) (x:Int) (ids:List Int),vs=[.ref k,.int x,.ref l]/\Apart t/\Kp t H k b/\Sz b/\0<x/\H l=ae (.lst (ids.map V.int))/\bV t H k (OV b x ids) Q
theorem OX(T:Txt w K mg t):dU P w K mg base kI 5 t.sv t.qt ["kept","x","ids"] (OW t):=by
 refine T.F8.ok tP (λvs H Q E h=>?_) (λiq Ar outer s H vs Q E hr h=>?_);obtain⟨k,l,b,x,ids,rfl,_⟩:=h;rfl
 ·obtain⟨k,l,b,x,ids,rfl,Ap,kp,sz,hx,hl,q⟩:=h;have Nh:=sz.1;have J2:=sz.2;have B3:aM=16777216:=rfl;refine⟨_,(ao (dr (vO (vN (bI (Ec T) hr.mo rfl T.DK T.wY.kp T.E9 .nil bQ (ah (pv 2) aw)))) (aD (bu (cv (ah (dE rfl T.JQ) aw)))) bY) (ao (cj (i:=3) tP.nd rfl (bE rfl) (cX (pv 0) T.aR T.f7 (f9 T) hr.mo T.gn .nil bQ (ah (pv 1) aw))) (ao (dr (b_ r6 (pv 3) aQ (ck _)) (aD (bu (cv (ah (pv 3) aw)))) bY) (ao (nM dm rfl (kH (pv 2)) (f6 (i:=4) tP.nd rfl (bE rfl)) (aD (dr (kG (IY (d9 hr) (pv 4) (aT (pv 0) rfl))) (aD (bu (cv (ah (dE rfl T.x5) aw)))) bY))) (ao (nM dm rfl (kH (pv 2)) (f6 (i:=4) tP.nd rfl (bE rfl)) (aD (cJ (cX (pv 0) T.aR T.rR (rS T) hr.mo T.tS .nil bQ (ah (pv 4) (ah (cX (pv 0) T.aR T.eM (eO T) hr.mo T.fE .nil bQ (ah (pv 1) aw)) aw)))))) (aD (bu (cv (ah aQ (ah aQ aw)))))))))),?_⟩;refine⟨_,rfl,l,ids,rfl,dS.of hl,λH0 s0=>⟨_,rfl,?_⟩⟩;have kp0:=kp.same s0;have hl0:=s0 _ _ hl;have q0:bV t H0 k (OV b x ids) Q:=λH' l' h1 h2 h3 h4=>q H' l' h1 (cY s0 h2) h3 ((xE.same s0).trans h4);unfold OV at q0;rw[ZS] at q0;cases ei:w_ ids with
  |false=>
   rw[ei,aX (by decide)] at q0;refine N7 ?_;exact q0.err kp0 rfl
  |true=>
   rw[ei,bw rfl] at q0;refine TN ?_;obtain⟨g,KG,A,ok⟩:=id kp0;have lP:=A.zQ ok.fit;have lF:=A.Hi ok.fit;have aou:ids.length<=100:=by
    unfold w_ at ei;simp only[aH,decide_eq_true_iff] at ei;exact ei.1.2
   have agp:∀y∈ids,0<y:=λy hy=>by
    unfold w_ at ei;simp only[aH,cz] at ei;have:=ei.2.1 y hy;unfold Rw at this;simp only[aH,decide_eq_true_iff] at this;omega
   have ajJ:ids.Nodup:=by
    unfold w_ at ei;simp only[aH,decide_eq_true_iff] at ei;exact Nq.mp ei.2.2
   refine⟨_,rfl,_,_,_,rfl,KG.kept,rfl,_,rfl,k,g,x,rfl,KG.r,?_⟩;show rY _ _ _ [ae (.ref k),ae (.int x),ae (.ref l),ae (.int (hv g x)),ay] H0;refine⟨_,rfl,rfl,_,rfl,?_⟩;refine cN (λc=>?_) (λc=>?_);exact⟨_,rfl,q0.err kp0 (D9 A ok.fit hx _ (ne_int c))⟩
   ·obtain⟨ef,⟨p,hp⟩,hw⟩:=xF A ok.fit hx (if((ids.map fY).any λy=>il b y)=true then MA 3 else .ok ((ids.map fY).foldl (λc y=>dq c (bT b x.toNat) y) b) []) (eq_int c);have Hj:tX b x.toNat (ids.map fY)=_:=ef;have q1:bV t H0 k (bL b (tX b x.toNat (ids.map fY))) Q:=q0;rw[Hj] at q1;obtain⟨nH,e0⟩:=bD hp;obtain⟨f,hf,e1,cc,hcc,_⟩:=(ok.fit.qV p nH).fam;have Vs:=ok.fit.jo nH;have Ma:bT b x.toNat=p.fam.toNat:=by rw[A.famOf ok.fit (by omega),lX hp]
    rw[Ma] at q1;have liv:∀y∈ids,il b y.toNat=(bj GP.id y g.P).isSome:=λy hy=>A.lives ok.fit (by have:=agp y hy;omega);refine⟨_,rfl,l,rfl,⟨_,dS.of hl0⟩,qc (K:=K) (a:=l) (xs:=ids.map V.int) (λi σ H'=>H'=H0/\(∃v:Option V,σ=[ae (.ref k),ae (.int x),ae (.ref l),ae (.int (hv g x)),v])/\∀y∈ids.take i,bj GP.id y g.P=ay) ⟨rfl,⟨ay,rfl⟩,by simp⟩ (λi σ H' _ ⟨e,_⟩=>by rw[e];exact dS.of hl0) ?_ ?_⟩
    ·rintro i y σ H' hi ⟨eH,⟨v0,rfl⟩,hno⟩;obtain rfl:=eH.symm;rw[dh] at hi;obtain⟨z,hz,rfl⟩:∃z,ids[i]? =ae z/\y=V.int z:=by
      cases e:ids[i]? with
      |none=>rw[e] at hi;cases hi
      |some z=>rw[e] at hi;exact⟨z,rfl,(bF hi).symm⟩
     have hzm:=bW hz;refine⟨_,rfl,_,rfl,_,_,_,_,_,rfl,KG.kept,T.aR,T.dy,rfl,_,_,rfl,KG.r.J1,_,rfl,?_⟩;rw[bZ];cases e:bj GP.id z g.P with
     |some pz=>
      rw[bw (gu.mpr ⟨z.toNat,aA.mpr ⟨z,hzm,rfl⟩,by rw[liv z hzm,e];rfl⟩)] at q1;exact q1.err kp0 rfl
     |none=>
      refine⟨rfl,⟨_,rfl⟩,λu hu=>?_⟩;rw[take_snoc hz] at hu;obtain m|m:=aP.mp hu
      exact hno u m;rw[ai.mp m];exact e
    ·rintro σ H' ⟨eH,⟨v0,rfl⟩,hno⟩;obtain rfl:=eH.symm;rw[ag,cE] at hno;rw[aX (by
      intro z;obtain⟨y,hy,e⟩:=gu.mp z;obtain⟨u,hu,rfl⟩:=aA.mp hy;rw[liv u hu,hno u hu] at e;cases e)] at q1
     refine⟨_,rfl,l,rfl,⟨_,dS.of hl0⟩,qc (K:=K) (a:=l) (xs:=ids.map V.int) (λi σ H'=>(∃v:Option V,σ=[ae (.ref k),ae (.int x),ae (.ref l),ae (.int (hv g x)),v])/\∃gi,cW t H' k gi/\Step k g gi H0 H'/\nP gi/\fz gi (((ids.take i).map fY).foldl (λc y=>dq c p.fam.toNat y) b)/\bj GP.id x gi.P=ae p/\(∀y∈ids.drop i,bj GP.id y gi.P=ay)/\gi.P.length<=2000+i/\gi.F.length=g.F.length/\∃fi∈gi.F,fi.num=p.fam) ⟨⟨_,rfl⟩,g,KG,Step.refl,ok,A,hp,by rw[List.drop_zero];exact hno,by omega,rfl,f,hf,e1⟩ (λi σ H' _ ⟨_,gi,_,S,_⟩=>dS.of (S.keep _ _ hl0 (KG.tT hl0))) ?_ ?_⟩
     ·rintro i y σ H' hi ⟨⟨v1,rfl⟩,gi,KGi,Si,oki,Ai,hpi,hni,lPi,lFi,fi,hfi,efi⟩;rw[dh] at hi;obtain⟨z,hz,rfl⟩:∃z,ids[i]? =ae z/\y=V.int z:=by
       cases e:ids[i]? with
       |none=>rw[e] at hi;cases hi
       |some z=>rw[e] at hi;exact⟨z,rfl,(bF hi).symm⟩
      have hzm:=bW hz;obtain⟨ilt,agr⟩:=dj.mp hz;have hnz:bj GP.id z gi.P=ay:=hni z (by
       rw[v7];exact⟨0,by omega,by simpa using agr⟩)
      have hz0:=agp z hzm;have lK:fi.kids.length<=gi.P.length+gi.F.length:=by
       have:=Ai.A_ oki.fit hfi;have:=Ai.zQ oki.fit;have:=Ai.Hi oki.fit;omega
      refine⟨_,rfl,_,_,_,rfl,KGi.kept,rfl,_,rfl,_,rfl,_,_,_,rfl,KGi.kept,rfl,_,rfl,k,gi,x,p,rfl,KGi.r,hpi,?_⟩;refine⟨k,gi,z,p.fam,fi,rfl,KGi,Ap,cB KGi.xu hfi efi,(by omega),(by omega),λH2 o2 d2 tp gG S2=>?_⟩;have eP:fQ GP.id ⟨z,o2,d2,p.fam,fi.fN⟩ gi.P=gi.P++[⟨z,o2,d2,p.fam,fi.fN⟩]:=pT (fV hnz)
      skip
      rw[eP] at gG S2;obtain⟨f2,hf2,a1,_⟩:=t6 (n:=p.fam) (x:=z) (tp:=tp) oki.fit hfi;refine⟨⟨_,rfl⟩,_,gG,Si.trans S2,oki.enter hfi efi hz0 hnz,?_,?_,λu hu=>?_,?_,?_,f2,hf2,by omega⟩;rw[take_snoc hz,az,List.foldl_append];exact Ai.enter oki.fit hfi efi hz0 hnz;show bj GP.id x (gi.P++[_])=ae p;unfold bj at hpi⊢;rw[we,hpi];rfl
      ·have SN:u∈ids.drop i:=by
        rw[v7] at hu⊢;obtain⟨j,hj,e⟩:=hu;exact⟨j+1,by omega,by rw[<-e];congr 1;omega⟩
       have nz:u≠z:=λe=>by
        rw[v7] at hu;obtain⟨j,hj,e2⟩:=hu;rw[e,<-agr] at e2;have:=(HL ajJ).mp e2;omega
       show bj GP.id u (gi.P++[_])=ay;have:=hni u SN;unfold bj at this⊢;rw[we,this];simp;exact λe=>nz e.symm
      show(gi.P++[_]).length<=_;rw[aK];show gi.P.length+1<=_;omega;show(lT _ _ _ _).length=_;unfold lT setAt;rw[ag];exact lFi
     rintro σ H' ⟨⟨v1,rfl⟩,gi,KGi,Si,oki,Ai,_⟩;rw[ag,cE] at Ai;refine⟨Yc,λl2 qZ=>?_⟩;exact q1 _ l2 ⟨gi,KGi.same (bC.new qZ),Ai,oki⟩ (Si.live _ qZ) aq ((Si.frm KG).trans (xE.same (bC.new qZ)))
end
end
section
open Vbdeah (Bank)
section
variable{P:bg}{w:cn}{K:au}{mg:Str->Option ax}{base:df}{t:fO}
def OY(b:bB)(x:Int):bB×List Int:=(b,match b.person x.toNat with
 |none=>[-10]
 |some p=>match b.waits.find? λw=>w.id==p.id with
  |some w=>[(p.fam:Int),(p.serial:Int),(w.kind:Int),(w.place:Int),(w.num:Int)]
  |none=>[(p.fam:Int),(p.serial:Int),0,0,0])
theorem fz.agt{g:G}{b:bB}(A:fz g b)(x:cK g){i:Int}(hi:0<i):(b.waits.find? λw=>w.id==i.toNat)=(bj GW.id i g.W).map ig:=by
 rw[A.W,vc];unfold bj;congr 1;have:∀l:List GW,(∀w∈l,w∈g.W)->l.find? ((λw:gd=>w.id==i.toNat)∘ig)=l.find? λw=>decide (w.id=i):=by
  intro l;induction l with
  |nil=>intro _;rfl
  |cons a r ih=>
   intro h;have e:((λw:gd=>w.id==i.toNat)∘ig) a=decide (a.id=i):=by
    show(a.id.toNat==i.toNat)=_;have:=x.rJ (h a (aB ..));rw[cT,Iw,bJ];omega
   rw[gI,gI,e,ih λw hw=>h w (aC _ hw)]
 exact this g.W λ_ h=>h
def Kh(t:fO):Sp:=λvs H Q _=>∃(k:aj) (b:bB) (x:Int),vs=[.ref k,.int x]/\Kp t H k b/\0<x/\bV t H k (OY b x) Q
theorem Ki(T:Txt w K mg t):dU P w K mg base kI 1 t.oJ t.mU ["kept","x"] (Kh t):=by
 refine T.BM.ok ur (λvs H Q E h=>?_) (λiq Ar outer s H vs Q E hr h=>?_);obtain⟨k,b,x,rfl,_⟩:=h;rfl
 ·obtain⟨k,b,x,rfl,kp,hx,q⟩:=h;obtain⟨g,KG,A,ok⟩:=id kp;refine⟨_,(ao (dr (kG (gC (d9 hr) (pv 1) (aT (pv 0) rfl))) (aD (bu (cv (ah (dE rfl T.sI) aw)))) bY) (ao (cj (i:=2) ur.nd rfl (bE rfl) (fq (d9 hr) (aT (pv 0) rfl) (pv 1) (λ_ _=>rfl))) (ao (dr (kG (gC (d9 hr) (pv 1) (aT (pv 0) rfl))) (aD (bu (cv (ah (aT (pv 2) rfl) (ah (aT (pv 2) rfl) (ah aQ (ah aQ (ah aQ aw)))))))) bY) (ao (cj (i:=3) ur.nd rfl (bE rfl) (fq (d9 hr) (aT (pv 0) rfl) (pv 1) (λ_ _=>rfl))) (aD (bu (cv (ah (aT (pv 2) rfl) (ah (aT (pv 2) rfl) (ah (aT (pv 3) rfl) (ah (aT (pv 3) rfl) (ah (aT (pv 3) rfl) aw)))))))))))),?_⟩;unfold OY at q;rw[A.person ok.fit (by omega)] at q;refine⟨_,rfl,_,rfl,_,_,_,_,_,rfl,KG.kept,T.aR,T.dy,rfl,_,_,rfl,KG.r.J1,_,rfl,?_⟩;rw[bZ];cases e1:bj GP.id x g.P with
  |none=>
   rw[e1] at q;exact q.err kp rfl
  |some p=>
   rw[e1] at q;obtain⟨nH,e0⟩:=bD e1;have Vs:=ok.fit.jo nH;have ew:=A.agt ok.fit (i:=p.id) Vs.1;have q1:bV t H k (b,match b.waits.find? λw=>w.id==p.id.toNat with
    |some w=>[(p.fam.toNat:Int),(p.cf.toNat:Int),(w.kind:Int),(w.place:Int),(w.num:Int)]
    |none=>[(p.fam.toNat:Int),(p.cf.toNat:Int),0,0,0]) Q:=q
   rw[ew,e0] at q1;have c1:((p.fam.toNat:Nat):Int)=p.fam:=by omega
   have c2:((p.cf.toNat:Nat):Int)=p.cf:=by omega
   refine⟨_,rfl,_,_,_,_,_,rfl,KG.kept,T.aR,T.dy,rfl,_,rfl,_,_,rfl,KG.Q_ e1,?_⟩;refine⟨_,rfl,_,rfl,_,_,_,_,_,rfl,KG.kept,T.aR,T.cA,rfl,_,_,rfl,KG.r.Uh,_,rfl,?_⟩;rw[bZ];cases e2:bj GW.id x g.W with
   |none=>
    rw[e2] at q1;refine⟨_,rfl,_,_,_,_,_,rfl,KG.qQ p nH,T.lN,T.kb,rfl,_,rfl,_,_,_,_,_,rfl,KG.qQ p nH,T.lN,T.kc,rfl,(by show 5<=aM;decide),?_⟩;refine q1.yi kp rfl ?_;show[V.int (p.fam.toNat:Int),V.int (p.cf.toNat:Int),V.int 0,V.int 0,V.int 0]=_;rw[c1,c2]
   |some v=>
    rw[e2] at q1;obtain⟨B2,_⟩:=bD e2;have W0:=ok.fit.t5 v B2;have c3:((v.kind.toNat:Nat):Int)=v.kind:=by have:=W0.kind;omega
    have c4:((v.place.toNat:Nat):Int)=v.place:=by have:=W0.place;omega
    have c5:((v.num.toNat:Nat):Int)=v.num:=by have:=W0.num;omega
    refine⟨_,rfl,_,_,_,_,_,rfl,KG.kept,T.aR,T.cA,rfl,_,rfl,_,_,rfl,KG.zL e2,?_⟩;refine⟨_,rfl,_,_,_,_,_,rfl,KG.qQ p nH,T.lN,T.kb,rfl,_,rfl,_,_,_,_,_,rfl,KG.qQ p nH,T.lN,T.kc,rfl,_,rfl,_,_,_,_,_,rfl,KG.wait v B2,T.eE,T.gW,rfl,_,rfl,_,_,_,_,_,rfl,KG.wait v B2,T.eE,T.iY,rfl,_,rfl,_,_,_,_,_,rfl,KG.wait v B2,T.eE,T.dM,rfl,(by show 5<=aM;decide),?_⟩;refine q1.yi kp rfl ?_;show[V.int (p.fam.toNat:Int),V.int (p.cf.toNat:Int),V.int (v.kind.toNat:Int),V.int (v.place.toNat:Int),V.int (v.num.toNat:Int)]=_;rw[c1,c2,c3,c4,c5]
end
end
section
open Vbdeah (Bank)
def oR(b:bB)(n:Int):List Int:=(jF b n.toNat).map ir
def Kj(b:bB)(q:Int×Int×Int):List Int:=if q.2.1=1 then oR b q.2.2 else[q.2.2]
def Hr(b:bB)(q:Int×Int×Int):Nat:=if q.2.1=1 then Mb b q.2.2 else 3
def xG(g:G)(q:Int×Int×Int):Prop:=q.2.1=0\/(q.2.1=1/\∃f∈g.F,f.num=q.2.2)
section
variable{g:G}{b:bB}
theorem ZT(A:fz g b)(ok:nP g){f:GF}(hf:f∈g.F):oR b f.num=(f.kids.map d_).flatMap (Kj b):=by
 unfold oR;rw[Vt A ok hf,List.map_flatMap,gR];refine m9 λc hc=>?_;show _=if c.sort=1 then oR b c.id else[c.id]
 by_cases e:c.sort=1;rw[bw e,bw e];rfl
 ·rw[aX e,aX e];obtain⟨_,p,hp,z,_⟩|⟨z,_⟩:=((ok.fit.fam f hf).x_ c hc).2.2
  have:=(ok.fit.jo hp).1;show[ir c.id.toNat]=[c.id];rw[show ir c.id.toNat=c.id from uU (by omega)];exact bM z e
theorem Ed(A:fz g b)(ok:nP g){f:GF}(hf:f∈g.F):Mb b f.num=5+((f.kids.map d_).map (Hr b)).sum:=by
 rw[CH A ok.fit hf,OM A ok hf,bx];rfl
theorem CJ(x:cK g){f:GF}(hf:f∈g.F):∀q∈f.kids.map d_,xG g q:=λq hq=>by
 obtain⟨c,hc,rfl⟩:=aA.mp hq;obtain⟨z,_⟩|⟨z,h,hh,e,_⟩:=((x.fam f hf).x_ c hc).2.2
 exact .inl z;exact .inr ⟨z,h,hh,e⟩
theorem ZU(A:fz g b)(ok:nP g){q:Int×Int×Int}(h:xG g q):1<=Hr b q:=by
 unfold Hr;obtain h|⟨h,f,hf,e⟩:=h
 rw[aX (by omega)];omega;rw[bw h,<-e,Ed A ok hf];omega
theorem Fz(A:fz g b)(ok:nP g):∀{l:List (Int×Int×Int)},(∀q∈l,xG g q)->l.length<=(l.map (Hr b)).sum
 |[],_=>aJ _
 |a::r,h=>by
  rw[aL,aU,dc];have:=Fz A ok (l:=r) λq hq=>h q (aC _ hq);have:=ZU A ok (h a (aB ..));omega
end
theorem OZ{α:Type}(l:List α)(a:α):(l++[a])[(l++[a]).length -1]? =ae a:=by simp
theorem VB{α:Type}{l:List α}(h:0<l.length):∃r a,l=r++[a]:=⟨l.dropLast,l.getLast (List.ne_nil_of_length_pos h),(List.dropLast_concat_getLast _).symm⟩
section
variable{P:bg}{w:cn}{K:au}{mg:Str->Option ax}{base:df}{t:fO}
theorem AG{c:TT}{tb:TS}{D:Ends}{σ:L2.St}{H:Hp}(W:Nat->L2.St->Hp->Prop)(m0:Nat)(h0:W m0 σ H)(hs:∀m σ H,W m σ H->c σ H λb H1=>if b=true then∃N:L2.St->Hp->Prop,(∀σ' H',N σ' H'->∃m',m'<m/\W m' σ' H')/\tb {D with nx:=N,ct:=N,bk:=D.nx} σ H1 else D.nx σ H1):EI c tb D σ H:=⟨W,⟨m0,h0⟩,hs⟩
def Kk(t:fO):Sp:=λvs H Q _=>∃(k:aj) (b:bB) (g:G) (n:Int),vs=[.ref k,.int n]/\Rm t H k b g/\Sz b/\(∃f∈g.F,f.num=n)/\∀H' l,H l=ay->H' l=ae (.lst ((oR b n).map V.int))->bC H H'->Q (.ref l) H'
theorem zZ(T:Txt w K mg t):dU P w K mg base kI 2 t.oM t.mX ["kept","number"] (Kk t):=by
 refine T.vX.ok qi (λvs H Q E h=>?_) (λiq Ar outer s H vs Q E hr h=>?_);obtain⟨k,b,g,n,rfl,_⟩:=h;rfl
 ·obtain⟨k,b,g,n,rfl,⟨KG,A,ok⟩,sz,⟨f0,uZ,en⟩,q⟩:=h;have Nh:=sz.1;have J2:=sz.2;have B3:aM=16777216:=rfl;have hSH:=ZF A ok uZ;rw[<-CH A ok.fit uZ,en] at hSH;have hLN:(oR b n).length<=Mb b n:=by
   obtain⟨d,D⟩:=rK ok.fit uZ;unfold oR;rw[ag,<-en,CH A ok.fit uZ];exact OQ A ok 40 uZ D (by omega)
  refine⟨_,(ao (cj (i:=2) qi.nd rfl (bE rfl) (cv aw)) (ao (cj (i:=3) qi.nd rfl (bE rfl) (cv (ah (NX (ah aQ (ah (dE rfl T.zI) (ah (pv 1) aw)))) aw))) (ao (rZ dm (b_ FR (cM cq (by rfl) T.eG bz (ah (pv 3) aw)) aQ (ck _)) (ao (cj (i:=4) qi.nd rfl (bE rfl) (Tw b8 tD yh TB (pv 3))) (aD (dr (b_ fC (eX vQ (pv 4) aQ (λ_ _=>rfl)) (dE rfl T.zH) (ck _)) (aD (cJ (tH b8 gb gF rA (pv 2) (ah (eX vQ (pv 4) aQ (λ_ _=>rfl)) aw)))) (aD (cJ (tH b8 dQ eZ rC (pv 3) (ah (TY (cX (pv 0) T.aR T.jV (jW T) hr.mo T.kN .nil bQ (ah (eX vQ (pv 4) aQ (λ_ _=>rfl)) aw)) (P8 IL aQ) (λ_ _ _ q=>⟨_,rfl,q⟩)) aw)))))))) (aD (bu (pv 2)))))),?_⟩;refine⟨cI _,λa ha=>?_⟩;refine⟨_,rfl,(by show 3<=aM;decide),λtp OJ=>?_⟩;refine⟨AV,λd hd=>?_⟩;have s0:bC H (upd (upd (upd H a (.lst [])) tp (.tup [.int 0,.int 1,.int n])) d (.lst [.ref tp])):=((bC.new ha).trans (bC.new OJ)).trans (bC.new hd);have agu:tp≠a:=λe=>by rw[e,aq] at OJ;cases OJ
  have hda:d≠a:=λe=>by rw[e,cZ agu.symm,aq] at hd;cases hd
  have xQ:d≠tp:=λe=>by rw[e,aq] at hd;cases hd
  have hdn:H d=ay:=by rw[cZ xQ,cZ hda] at hd;exact hd
  have ea:upd (upd (upd H a (.lst [])) tp (.tup [.int 0,.int 1,.int n])) d (.lst [.ref tp]) a=ae (.lst []):=aO (aO aq agu.symm) hda.symm;have et:upd (upd (upd H a (.lst [])) tp (.tup [.int 0,.int 1,.int n])) d (.lst [.ref tp]) tp=ae (.tup [.int 0,.int 1,.int n]):=aO aq xQ.symm;have ed:upd (upd (upd H a (.lst [])) tp (.tup [.int 0,.int 1,.int n])) d (.lst [.ref tp]) d=ae (.lst [.ref tp]):=aq;generalize upd (upd (upd H a (.lst [])) tp (.tup [.int 0,.int 1,.int n])) d (.lst [.ref tp])=H1 at s0 ea et ed;show EI _ _ _ _ _;refine AG (λm σ H'=>∃(out:List Int) (cs:List GC) (v:Option V),σ=[ae (.ref k),ae (.int n),ae (.ref a),ae (.ref d),v]/\H' a=ae (.lst (out.map V.int))/\H' d=ae (.lst (cs.map λc=>V.ref c.tp))/\(∀c∈cs,rI H' c/\xG g (d_ c))/\out++(cs.reverse.map d_).flatMap (Kj b)=oR b n/\m=((cs.map d_).map (Hr b)).sum/\m<=Mb b n/\bC H H')
   (Mb b n) ⟨[],[⟨0,tp,1,n⟩],ay,rfl,ea,ed,?_,?_,?_,aJ _,s0⟩ ?_
  intro c hc;obtain rfl:=ai.mp hc;exact⟨et,.inr ⟨rfl,f0,uZ,en⟩⟩;show[]++(Kj b (0,1,n)++[])=_;rw[cD,Lb];rfl;show _=Mb b n+0;rfl
  ·rintro m σ H' ⟨out,cs,v,rfl,ha',Wb,Xv,Uq,rfl,hm,sm⟩;have ajO:out.length<=(oR b n).length:=by rw[<-Uq,aK];omega
   refine⟨_,rfl,_,_,rfl,.inl (dS.of Wb),_,_,rfl,rfl,_,rfl,?_⟩;rw[ag];refine cN (λc1=>?_) (λc1=>?_)
   ·have TR:0<cs.length:=by have:=aY c1;omega
    obtain⟨r,c,rfl⟩:=VB TR;obtain⟨htr,hit⟩:=Xv c (by simp);have ya:out++(Kj b (d_ c)++(r.reverse.map d_).flatMap (Kj b))=oR b n:=by
     rw[<-Uq,ud,az,fZ];simp
    have Rg:((r.map d_).map (Hr b)).sum+Hr b (d_ c)<=Mb b n:=by
     rw[az,az,jI] at hm;simpa using hm
    have hms:(((r++[c]).map d_).map (Hr b)).sum=((r.map d_).map (Hr b)).sum+Hr b (d_ c):=by
     rw[az,az,jI];simp
    have hrl:=Fz A ok (l:=r.map d_) λq hq=>by
     obtain⟨c',vM,rfl⟩:=aA.mp hq;exact(Xv c' (by simp[vM])).2
    rw[ag] at hrl;rw[hms];refine⟨_,λσ' H' z=>z,?_⟩;refine⟨_,rfl,.inl ⟨rfl,_,dS.of Wb⟩,d,_,_,rfl,rfl,Wb,(by rw[az];exact OZ _ _),?_⟩;have edl:((r++[c]).map λc=>V.ref c.tp).dropLast=r.map λc=>V.ref c.tp:=by rw[az];simp
    rw[edl];have nda:a≠d:=hda.symm;have ha2:upd H' d (.lst (r.map λc=>V.ref c.tp)) a=ae (.lst (out.map V.int)):=aO ha' nda;have hd2:upd H' d (.lst (r.map λc=>V.ref c.tp)) d=ae (.lst (r.map λc=>V.ref c.tp)):=aq;have ht2:∀c'∈r++[c],rI (upd H' d (.lst (r.map λc=>V.ref c.tp))) c':=λc' vM=>aO (Xv c' vM).1 (gg (Xv c' vM).1 Wb nofun);have sm2:bC H (upd H' d (.lst (r.map λc=>V.ref c.tp))):=λb o e=>aO (sm b o e) (aI e hdn);generalize upd H' d (.lst (r.map λc=>V.ref c.tp))=H2 at ha2 hd2 ht2 sm2;have htc:=ht2 c (by simp);refine⟨_,rfl,_,_,_,_,rfl,rfl,n9.of htc,cQ (j:=1) (v:=V.int c.sort) rfl,rfl,_,rfl,?_⟩;refine cN (λc2=>?_) (λc2=>?_)
    ·have es:c.sort=0:=V.int.inj (aY c2);have eB:Kj b (d_ c)=[c.id]:=aX (by show ¬c.sort=1;omega);have eS:Hr b (d_ c)=3:=aX (by show ¬c.sort=1;omega);rw[eB] at ya;have lo2:out.length+1<=(oR b n).length:=by rw[<-ya,aK,aK];show out.length+1<=out.length+(1+_);omega
     refine⟨_,rfl,.inl ⟨rfl,_,dS.of ha2⟩,_,rfl,_,_,_,_,rfl,rfl,n9.of htc,cQ (j:=2) (v:=V.int c.id) rfl,a,_,_,rfl,rfl,ha2,(by rw[ag];omega),?_⟩;refine⟨((r.map d_).map (Hr b)).sum,by rw[eS];omega,out++[c.id],r,_,rfl,?_,aO hd2 hda,λc' vM=>⟨?_,(Xv c' (by simp[vM])).2⟩,?_,rfl,by omega,λb o e=>aO (sm2 b o e) (aI e ha)⟩;rw[aq,az];rfl;have:=ht2 c' (by simp[vM]);exact aO this (gg this ha2 nofun);rw[dJ];exact ya
    ·have es:c.sort=1:=by
      obtain z|⟨z,_⟩:=hit
      exact bM (show decide (V.int c.sort=V.int 0)=true from by rw[show c.sort=0 from z];rfl) c2;exact z
     obtain⟨f,hf,ef⟩:∃f∈g.F,f.num=c.id:=by
      obtain z|⟨_,z⟩:=hit
      exact bM (show(0:Int)=1 from z.symm.trans es) (by decide);exact z
     have eB:Kj b (d_ c)=oR b c.id:=bw es;have eS:Hr b (d_ c)=Mb b c.id:=bw es;have hsk:=Ed A ok hf;have hlk:=ZT A ok hf;rw[ef] at hsk hlk;rw[eB,hlk] at ya;have KR2:eI t H2 k g:=(KG.same sm2).r;have lk:=A.A_ ok.fit hf;refine⟨_,rfl,.inl ⟨rfl,_,dS.of hd2⟩,_,rfl,_,_,_,rfl,KR2.kept,rfl,_,rfl,_,_,_,_,rfl,rfl,n9.of htc,cQ (j:=2) (v:=V.int c.id) rfl,?_⟩;refine⟨k,g,c.id,f,rfl,KR2,cB ok.fit.lO hf ef,(ok.fit.fam f hf).A9,(by omega),λH3 l ks hl el eks hks s3=>?_⟩;refine⟨l,_,rfl,dS.of el,λl2 qZ=>?_⟩;have s4:bC H3 (upd H3 l2 (.lst (ks.map λc=>V.ref c.tp).reverse)):=bC.new qZ;have vZ:upd H3 l2 (.lst (ks.map λc=>V.ref c.tp).reverse) l2=ae (.lst (ks.reverse.map λc=>V.ref c.tp)):=by rw[aq,gy]
     generalize upd H3 l2 (.lst (ks.map λc=>V.ref c.tp).reverse)=H4 at s4 vZ;have hd4:=s4 _ _ (s3 _ _ hd2);have lks:=da gE eks;rw[ag,ag] at lks;refine⟨d,l2,_,_,rfl,rfl,hd4,vZ,(by rw[ag,ag,oS];omega),?_⟩;have rk:(ks.reverse.map d_)=(f.kids.map d_).reverse:=by rw[gy,eks]
     have all:∀c'∈r++ks.reverse,rI (upd H4 d (.lst ((r.map λc=>V.ref c.tp)++ks.reverse.map λc=>V.ref c.tp))) c'/\xG g (d_ c'):=λc' vM=>by
      have h4:rI H4 c'/\xG g (d_ c'):=by
       obtain z|z:=aP.mp vM
       exact⟨s4 _ _ (s3 _ _ (ht2 c' (by simp[z]))),(Xv c' (by simp[z])).2⟩;have z':=HV.mp z;refine⟨s4 _ _ (hks c' z'),CJ ok.fit hf _ ?_⟩;rw[<-eks];exact aA.mpr ⟨c',z',rfl⟩
      exact⟨aO h4.1 (gg h4.1 hd4 nofun),h4.2⟩
     refine⟨(((r++ks.reverse).map d_).map (Hr b)).sum,?_,out,r++ks.reverse,_,rfl,aO (s4 _ _ (s3 _ _ ha2)) nda,?_,all,?_,rfl,?_,λb o e=>aO (s4 _ _ (s3 _ _ (sm2 b o e))) (aI e hdn)⟩;rw[az,az,jI,rk,gy,sW,eS,hsk];omega;rw[aq,az];rw[ud,Bj,az,fZ,eks];exact ya;rw[az,az,jI,rk,gy,sW];rw[eS,hsk] at Rg;omega
   ·have hz:cs=[]:=by
     cases cs with
     |nil=>rfl
     |cons x y=>exact bM (by show decide ((0:Int)<((y.length+1:Nat):Int))=true;exact bG (by omega)) c1
    subst hz;have eo:out=oR b n:=by rw[<-Uq];simp
    subst eo;exact⟨_,rfl,q _ a ha ha' sm⟩
end
end
section
open Vbdeah (Bank)
theorem Kl{q:dN->Bool}{p:dN}:∀(l:List dN),((eA p l).filter q).length=(l.filter q).length+(if q p=true then 1 else 0)
 |[]=>by
  unfold eA;by_cases e:q p=true;rw[b9,if_pos e,if_pos e];rfl;rw[b9,if_neg e,if_neg e];rfl
 |a::r=>by
  unfold eA;split
  ·by_cases e:q p=true;rw[b9,bw e,bw e];rfl;rw[b9,aX e,aX e];rfl
  ·have ih:=Kl (q:=q) (p:=p) r;by_cases e:q a=true;rw[b9,bw e,b9,bw e,aL,aL,ih];omega;rw[b9,aX e,b9,aX e,ih]
theorem Gn{q:dN->Bool}:∀(l acc:List dN),((l.foldl (λl k=>eA k l) acc).filter q).length=(l.filter q).length+(acc.filter q).length
 |[],acc=>by simp
 |a::r,acc=>by
  rw[cV,Gn r,Kl,b9];by_cases e:q a=true;rw[bw e,bw e,aL];omega;rw[aX e,aX e];omega
theorem fz.ab1{g:G}{b:bB}(A:fz g b)(x:cK g){f:GF}(hf:f∈g.F):(cC b f.num.toNat).length=(f.kids.filter λc=>decide (c.sort=0)).length:=by
 have e:=da (λl:List dN=>(l.filter λk=> !k.2.1).length) (A.kids x hf);have e1:((d4 b f.num.toNat).filter λk=> !k.2.1).length=(cC b f.num.toNat).length:=by
  unfold d4;rw[Gn,jm,aK];have a1:(((cC b f.num.toNat).map λp=>((p.serial,false,p.id):dN)).filter λk=> !k.2.1)=(cC b f.num.toNat).map λp=>((p.serial,false,p.id):dN):=oT.mpr λk hk=>by obtain⟨p,_,rfl⟩:=aA.mp hk;rfl
  have a2:(((cH b f.num.toNat).map λp=>((p.serial,true,p.num):dN)).filter λk=> !k.2.1)=[]:=yr.mpr λk hk=>by obtain⟨p,_,rfl⟩:=aA.mp hk;simp
  rw[a1,a2,ag];rfl
 have e2:((f.kids.map toK).filter λk=> !k.2.1).length=(f.kids.filter λc=>decide (c.sort=0)).length:=by
  rw[hU,ag];congr 1;refine d8 λc hc=>?_;show(!decide (c.sort=1))=decide (c.sort=0);obtain⟨z,_⟩|⟨z,_⟩:=((x.fam f hf).x_ c hc).2.2
  rw[z];rfl;rw[z];rfl
 rw[<-e1,<-e2];exact e
section
variable{P:bg}{w:cn}{K:au}{mg:Str->Option ax}{base:df}{t:fO}
def O0(b:bB)(n:Int):bB×List Int:=(b,match b.fam n.toNat with
 |none=>[-6]
 |some g=>[(g.parent:Int),(g.serial:Int),(g.next:Int),((cC b g.num).length:Int),((cH b g.num).length:Int),((jF b g.num).length:Int)])
def Km(t:fO):Sp:=λvs H Q _=>∃(k:aj) (b:bB) (n:Int),vs=[.ref k,.int n]/\Kp t H k b/\Sz b/\0<n/\bV t H k (O0 b n) Q
def Ee(c:GC):Bool:=decide (c.sort=0)
theorem Kn(T:Txt w K mg t):dU P w K mg base kI 3 t.oK t.mV ["kept","number"] (Km t):=by
 refine T.BO.ok jZ (λvs H Q E h=>?_) (λiq Ar outer s H vs Q E hr h=>?_);obtain⟨k,b,n,rfl,_⟩:=h;rfl
 ·obtain⟨k,b,n,rfl,kp,sz,hn,q⟩:=h;obtain⟨g,KG,A,ok⟩:=id kp;have Nh:=sz.1;have J2:=sz.2;have B3:aM=16777216:=rfl;refine⟨_,(ao (dr (kG (gC (d9 hr) (pv 1) (aT (pv 0) rfl))) (aD (bu (cv (ah (dE rfl T.kh) aw)))) bY) (ao (cj (i:=2) jZ.nd rfl (bE rfl) (fq (d9 hr) (aT (pv 0) rfl) (pv 1) (λ_ _=>rfl))) (ao (cj (i:=3) jZ.nd rfl (bE rfl) (cM cq (by rfl) T.eG bz (ah (N3 (ML rfl jZ.nd (MT (aT (pv 2) rfl)) (n_ (N:=["kept","number","family","people","within","child"]) (sc:=a_ vS) (own:=[("child",5)]) (by decide+kernel)) (λ_ _ _ _ _=>(f6 (i:=5) jZ.nd rfl (bE rfl))) (λ_ _ _ _ _=>(vj (b_ fC (eX (Df (K:=K) rfl) (pv 5) aQ (λ_ _=>rfl)) (dE rfl T.zH) (ck _)))) (λ_ _ _ _ _=>(pv 5)))) aw))) (ao (cj (i:=4) jZ.nd rfl (bE rfl) (iO Cg (cM pR (by rfl) T.eG bz (ah (aT (pv 2) rfl) aw)) (pv 3))) (aD (bu (cv (ah (aT (pv 2) rfl) (ah (aT (pv 2) rfl) (ah (aT (pv 2) rfl) (ah (pv 3) (ah (pv 4) (ah (cM cq (by rfl) T.eG bz (ah (bI (zZ T) hr.mo rfl T.zF T.vX.kp T.BP .nil bQ (ah (pv 0) (ah (pv 1) aw))) aw)) aw))))))))))))),?_⟩;unfold O0 at q;rw[A.fam ok.fit (by omega)] at q;refine⟨_,rfl,_,rfl,_,_,_,_,_,rfl,KG.kept,T.aR,T.bH,rfl,_,_,rfl,KG.r.Q9,_,rfl,?_⟩;rw[bZ];cases e1:bj GF.num n g.F with
  |none=>
   rw[e1] at q;exact q.err kp rfl
  |some f=>
   rw[e1] at q;obtain⟨hf,ef⟩:=bD e1;have nnf:=ok.fit.fe hf;have lK:=A.A_ ok.fit hf;refine⟨_,rfl,_,_,_,_,_,rfl,KG.kept,T.aR,T.bH,rfl,_,rfl,_,_,rfl,KG.sJ e1,?_⟩;have FQ:=(KG.fam f hf).yt;refine⟨f.ch,_,FQ,trivial,λod=>?_⟩;have R1:eI t (upd H f.ch (.jq od (.dK (f.kids.map uX)))) k g:=KG.r.lE (ib.lock FQ);have eF:upd H f.ch (.jq od (.dK (f.kids.map uX))) f.ch=ae (.jq od (.dK (f.kids.map uX))):=aq;have k1:∀b o,H b=ae o->b≠f.ch->upd H f.ch (.jq od (.dK (f.kids.map uX))) b=ae o:=λb o e n=>aO e n;have n1:∀b,upd H f.ch (.jq od (.dK (f.kids.map uX))) b=ay->H b=ay:=λb h=>dY h;generalize upd H f.ch (.jq od (.dK (f.kids.map uX)))=H1 at R1 eF k1 n1;refine⟨_,rfl,_,_,_,_,_,rfl,(R1.fam f hf).obj,T.dB,T.dI,rfl,_,_,_,rfl,eF,λD hD=>?_⟩;refine N9 f.kids.length (λj H'=>H' D=ae (.lst (((f.kids.take j).filter Ee).map λc=>V.ref c.tp))/\∀b o,H1 b=ae o->H' b=ae o) ⟨aq,λb o e=>aO e (aI e hD)⟩ ?_ ?_
   ·rintro H' ⟨el,kp2⟩;rw[cE] at el;have x8:=kp2 _ _ eF;refine⟨⟨x8,by rw[ag];exact aJ _⟩,x8,?_⟩;have nD:D≠f.ch:=λz=>by rw[z,eF] at hD;cases hD
    have vZ:upd H' f.ch (.dK (f.kids.map uX)) D=ae (.lst ((f.kids.filter Ee).map λc=>V.ref c.tp)):=aO el nD;have s2:bC H (upd H' f.ch (.dK (f.kids.map uX))):=λb o e=>by
     by_cases hb:b=f.ch;subst hb;rw[FQ] at e;cases e;exact aq;exact aO (kp2 _ _ (k1 _ _ e hb)) hb
    generalize upd H' f.ch (.dK (f.kids.map uX))=H2 at vZ s2;have gG:=KG.same s2;refine⟨_,_,rfl,.inl (dS.of vZ),?_⟩;rw[ag];refine⟨_,rfl,_,_,_,_,_,rfl,(gG.fam f hf).obj,T.dB,T.dI,rfl,_,_,rfl,.inl (gG.fam f hf).yt,_,rfl,_,_,rfl,rfl,?_⟩;rw[ag];refine⟨_,rfl,_,_,_,_,_,rfl,(gG.fam f hf).obj,T.dB,T.fS,rfl,_,rfl,_,_,_,_,_,rfl,(gG.fam f hf).obj,T.dB,T.ny,rfl,_,rfl,_,_,_,_,_,rfl,(gG.fam f hf).obj,T.dB,T.gD,rfl,_,rfl,_,rfl,_,rfl,_,rfl,?_⟩;refine⟨k,b,g,n,rfl,⟨gG,A,ok⟩,sz,⟨f,hf,ef⟩,λH3 l3 Ez Vy s3=>?_⟩;refine⟨_,_,rfl,.inl (dS.of Vy),?_⟩;rw[ag];refine⟨(by show 6<=aM;decide),λl hl=>?_⟩;have sa:=s2.trans s3;refine q _ l ⟨g,(KG.same sa).same (bC.new hl),A,ok⟩ (cY sa hl) ?_ (xE.same (sa.trans (bC.new hl)));rw[aq];have lp:=A.ab1 ok.fit hf;have lk:=da gE (A.kids ok.fit hf);rw[zU,ag] at lk;have c1:((f.par.toNat:Nat):Int)=f.par:=by omega
    have c2:((f.cf.toNat:Nat):Int)=f.cf:=by omega
    have c3:((f.fN.toNat:Nat):Int)=f.fN:=by omega
    have c4:(((f.kids.filter Ee).length:Nat):Int)=((cC b f.num.toNat).length:Int):=by rw[lp];rfl
    have c5:((f.kids.length:Nat):Int) -(((f.kids.filter Ee).length:Nat):Int)=((cH b f.num.toNat).length:Int):=by rw[c4];omega
    show ae (HO.lst [V.int f.par,V.int f.cf,V.int f.fN,V.int (((f.kids.filter Ee).length:Nat):Int),V.int (((f.kids.length:Nat):Int) -(((f.kids.filter Ee).length:Nat):Int)),V.int (((oR b n).length:Nat):Int)])=ae (HO.lst [V.int (f.par.toNat:Int),V.int (f.cf.toNat:Int),V.int (f.fN.toNat:Int),V.int ((cC b f.num.toNat).length:Int),V.int ((cH b f.num.toNat).length:Int),V.int ((jF b f.num.toNat).length:Int)]);rw[c1,c2,c3,c5,c4,<-ef];unfold oR;rw[ag]
   ·rintro j H' hj ⟨el,kp2⟩;have x8:=kp2 _ _ eF;refine⟨⟨x8,by rw[ag];exact hj⟩,?_⟩;rintro y H6 ⟨e7,kk,Aq⟩;obtain rfl:=e7.symm;obtain⟨cc,hcc⟩:∃cc,f.kids[j]? =ae cc:=⟨_,dz hj⟩;rw[dh,hcc] at Aq;obtain⟨_,rfl⟩:cO cc.cf=kk/\V.ref cc.tp=y:=by
     have z:(cO cc.cf,V.ref cc.tp)=(kk,y):=bF Aq;exact⟨da ve z,da vf z⟩
    have Oa:cc∈f.kids:=bW hcc;have R6:eI t H' k g:=R1.lE (ib.same kp2);have OJ:=(R6.fam f hf).tup cc Oa;refine⟨rfl,?_⟩;refine⟨_,rfl,_,_,_,_,rfl,rfl,n9.of OJ,at0,rfl,_,rfl,?_⟩;refine cN (λc1=>?_) (λc1=>?_)
    ·have z0:cc.sort=0:=V.int.inj (of_decide_eq_true c1);refine⟨_,rfl,_,el,?_,?_,λb o e=>aO (kp2 b o e) (aI e hD)⟩;rw[ag];have:((f.kids.take j).filter Ee).length<=f.kids.length:=bX (bf _ _) (by rw[d6];exact yf _ _);omega;rw[aq,take_snoc hcc,jm,az,b9,if_pos (by unfold Ee;exact decide_eq_true z0)];rfl
    ·refine⟨?_,kp2⟩;rw[take_snoc hcc,jm,b9,aX (by
      unfold Ee;intro z;exact c1 (by rw[of_decide_eq_true z];rfl))]
     rw[List.filter_nil,cD];exact el
end
end
section
open Vbdeah (Bank)
def qR(b:bB)(n:Int):List Int:=di (gT b n.toNat)
section
variable{g:G}{b:bB}
theorem fz.around(A:fz g b)(x:cK g):∀(k:Nat) {n:Int} {l:List Int},Around g.F n l->0<=n->l.length<=k->di (jM b.fams k n.toNat)=l:=by
 intro k;induction k with
 |zero=>
  intro n l h hn hd;have:l=[]:=aV.mp (by omega);rw[this];rfl
 |succ k ih=>
  intro n l h hn hd;have ef:=A.fam x hn;unfold C2 at ef;rw[jM,ef];cases h with
  |zero=>
   have nf:bj GF.num 0 g.F=ay:=by
    cases e:bj GF.num 0 g.F with
    |none=>rfl
    |some f=>
     obtain⟨h1,h2⟩:=bD e;have:=(x.fe h1).1;omega
   rw[nf];rfl
  | @succ f l hf h0 hp D=>
   rw[cB x.lO hf rfl];show ir f.num.toNat::di (jM b.fams k f.par.toNat)=f.num::l;rw[ih D (by have:=x.fe hf;omega) (by rw[aL] at hd;omega),show ir f.num.toNat=f.num from uU (by omega)]
theorem fz.path(A:fz g b)(ok:nP g){f:GF}(hf:f∈g.F):Around g.F f.num (qR b f.num)/\(qR b f.num).length<=40:=by
 obtain⟨d,D⟩:=rK ok.fit hf;obtain⟨l,hl,e⟩:=D.around;have h40:=ok.xD f hf _ D;have hle:=D.le ok.fit.lO;have:qR b f.num=l:=by
  refine A.around ok.fit _ hl (by have:=ok.fit.fe hf;omega) ?_;rw[e,A.Hi ok.fit];exact bX hle (bf _ _)
 rw[this];exact⟨hl,by omega⟩
theorem Ur{l:List Int}:(eC l).map V.int=V.int (l.length:Int)::l.map V.int:=rfl
def Rx(q:Int×Int×Int):List Int:=[q.1,q.2.1,q.2.2]
theorem Us(x:cK g){f:GF}(hf:f∈g.F){c:GC}(hc:c∈f.kids):tG (toK c)=Rx (d_ c):=by
 obtain⟨h1,_,h2⟩:=(x.fam f hf).x_ c hc;show[((c.cf.toNat:Nat):Int),(if decide (c.sort=1)=true then 1 else 0),((c.id.toNat:Nat):Int)]=[c.cf,c.sort,c.id];have a1:((c.cf.toNat:Nat):Int)=c.cf:=by omega
 have a2:((c.id.toNat:Nat):Int)=c.id:=by
  obtain⟨_,p,hp,z,_⟩|⟨_,h,hh,z,_⟩:=h2
  have:=(x.jo hp).1;omega;have:=(x.fe hh).1;omega
 have a3:(if decide (c.sort=1)=true then(1:Int) else 0)=c.sort:=by
  obtain⟨z,_⟩|⟨z,_⟩:=h2<;>rw[z]<;>rfl
 rw[a1,a2,a3]
theorem fz.members(A:fz g b)(x:cK g){f:GF}(hf:f∈g.F):(d4 b f.num.toNat).flatMap tG=(f.kids.map d_).flatMap Rx:=by
 rw[A.kids x hf,gR,gR];exact m9 λc hc=>Us x hf hc
theorem Xw(l:List (Int×Int×Int)):(l.flatMap Rx).length=3*l.length:=by
 rw[hG];induction l with
 |nil=>rfl
 |cons a r ih=>rw[aU,dc,aL,ih];show 3+_=_;omega
end
section
variable{P:bg}{w:cn}{K:au}{mg:Str->Option ax}{base:df}{t:fO}
def Ko(b:bB)(n:Int):bB×List Int:=(b,match b.fam n.toNat with
 |none=>[-6]
 |some g=>((d4 b g.num).length:Int)::(d4 b g.num).flatMap tG)
def Hs(t:fO):Sp:=λvs H Q _=>∃(k:aj) (b:bB) (n:Int),vs=[.ref k,.int n]/\Kp t H k b/\Sz b/\0<n/\bV t H k (Ko b n) Q
theorem Ht(T:Txt w K mg t):dU P w K mg base kI 2 t.mW t.lB ["kept","number"] (Hs t):=by
 refine T.zE.ok oY (λvs H Q E h=>?_) (λiq Ar outer s H vs Q E hr h=>?_);obtain⟨k,b,n,rfl,_⟩:=h;rfl
 ·obtain⟨k,b,n,rfl,kp,sz,hn,q⟩:=h;obtain⟨g,KG,A,ok⟩:=id kp;have Nh:=sz.1;have J2:=sz.2;have B3:aM=16777216:=rfl;refine⟨_,(ao (dr (kG (gC (d9 hr) (pv 1) (aT (pv 0) rfl))) (aD (bu (cv (ah (dE rfl T.kh) aw)))) bY) (ao (cj (i:=2) oY.nd rfl (bE rfl) (cX (pv 0) T.aR T.jV (jW T) hr.mo T.kN .nil bQ (ah (pv 1) aw))) (ao (cj (i:=3) oY.nd rfl (bE rfl) (cv (ah (cM cq (by rfl) T.eG bz (ah (pv 2) aw)) aw))) (ao (nM dm rfl (kH (pv 2)) (f6 (i:=4) oY.nd rfl (bE rfl)) (aD (cJ (tH b8 dQ eZ Vb (pv 3) (ah (pv 4) aw))))) (aD (bu (pv 3))))))),?_⟩;unfold Ko at q;rw[A.fam ok.fit (by omega)] at q;refine⟨_,rfl,_,rfl,_,_,_,_,_,rfl,KG.kept,T.aR,T.bH,rfl,_,_,rfl,KG.r.Q9,_,rfl,?_⟩;rw[bZ];cases e1:bj GF.num n g.F with
  |none=>
   rw[e1] at q;exact q.err kp rfl
  |some f=>
   rw[e1] at q;obtain⟨hf,ef⟩:=bD e1;have lK:=A.A_ ok.fit hf;have lk:=da gE (A.kids ok.fit hf);rw[ag] at lk;refine⟨_,rfl,_,_,_,rfl,KG.kept,rfl,_,rfl,k,g,n,f,rfl,KG.r,e1,(ok.fit.fam f hf).A9,(by omega),λH1 l cs hl el SM htr s1=>?_⟩;have lcs:=da gE SM;rw[ag,ag] at lcs;refine⟨_,rfl,_,_,rfl,.inl (dS.of el),AV,λa ha=>?_⟩;have s2:bC H1 (upd H1 a (.lst [V.int (((cs.map λc=>V.ref c.tp).length:Nat):Int)])):=bC.new ha;have ea:upd H1 a (.lst [V.int (((cs.map λc=>V.ref c.tp).length:Nat):Int)]) a=ae (.lst [V.int ((cs.length:Nat):Int)]):=by rw[aq,ag]
   generalize upd H1 a (.lst [V.int (((cs.map λc=>V.ref c.tp).length:Nat):Int)])=H2 at s2 ea;have haH:H a=ay:=cY s1 ha;refine⟨_,rfl,l,rfl,⟨_,dS.of (s2 _ _ el)⟩,qc (K:=K) (a:=l) (xs:=cs.map λc=>V.ref c.tp) (λi σ H'=>(∃v:Option V,σ=[ae (.ref k),ae (.int n),ae (.ref l),ae (.ref a),v])/\H' a=ae (.lst ((((cs.length:Nat):Int)::((cs.take i).map d_).flatMap Rx).map V.int))/\bC H1 H') ⟨⟨ay,rfl⟩,ea,s2⟩ (λi σ H' _ ⟨_,_,s3⟩=>dS.of (s3 _ _ el)) ?_ ?_⟩
   ·rintro i y σ H' hi ⟨⟨v,rfl⟩,O1,s3⟩;rw[dh] at hi;obtain⟨c,hc,rfl⟩:∃c,cs[i]? =ae c/\y=V.ref c.tp:=by
     cases e:cs[i]? with
     |none=>rw[e] at hi;cases hi
     |some v=>rw[e] at hi;exact⟨v,rfl,(bF hi).symm⟩
    have Oa:=bW hc;have htc:=s3 _ _ (htr c Oa);refine⟨_,rfl,.inl ⟨rfl,_,dS.of O1⟩,_,rfl,a,_,_,_,rfl,rfl,O1,n9.of htc,?_,⟨_,rfl⟩,?_,λb o e=>aO (s3 b o e) (aI e ha)⟩;rw[ag,aL,Xw,ag,d6];show _+3<=_;omega;rw[aq,take_snoc hc,az,fZ];show ae (HO.lst _)=ae (HO.lst ((_::(_++(Rx (d_ c)++[]))).map V.int));rw[cD,<-sU,az];rfl
   rintro σ H' ⟨⟨v,rfl⟩,O1,s3⟩;rw[ag,cE,SM] at O1;refine⟨_,rfl,q H' a (kp.same (s1.trans s3)) haH ?_ (xE.same (s1.trans s3))⟩;rw[O1];show _=ae (HO.lst (((((d4 b f.num.toNat).length:Nat):Int)::(d4 b f.num.toNat).flatMap tG).map V.int));rw[A.members ok.fit hf,lk,lcs]
def ZV(b:bB)(n:Int):bB×List Int:=(b,match b.fam n.toNat with
 |none=>[-6]
 |some g=>eC (di (jF b g.num)))
def O2(t:fO):Sp:=λvs H Q _=>∃(k:aj) (b:bB) (n:Int),vs=[.ref k,.int n]/\Kp t H k b/\Sz b/\0<n/\bV t H k (ZV b n) Q
theorem Ry{g:G}{b:bB}(A:fz g b)(ok:nP g){f:GF}(hf:f∈g.F):(oR b f.num).length<=5*b.fams.length+3*b.people.length:=by
 obtain⟨d,D⟩:=rK ok.fit hf;unfold oR;rw[ag];exact bX (OQ A ok 40 hf D (by omega)) (ZF A ok hf)
theorem O3(T:Txt w K mg t):dU P w K mg base kI 3 t.sD t.qz ["kept","number"] (O2 t):=by
 refine T.Ga.ok Dv (λvs H Q E h=>?_) (λiq Ar outer s H vs Q E hr h=>?_);obtain⟨k,b,n,rfl,_⟩:=h;rfl
 ·obtain⟨k,b,n,rfl,kp,sz,hn,q⟩:=h;obtain⟨g,KG,A,ok⟩:=id kp;have Nh:=sz.1;have J2:=sz.2;have B3:aM=16777216:=rfl;refine⟨_,(ao (dr (kG (gC (d9 hr) (pv 1) (aT (pv 0) rfl))) (aD (bu (cv (ah (dE rfl T.kh) aw)))) bY) (ao (cj (i:=2) Dv.nd rfl (bE rfl) (bI (zZ T) hr.mo rfl T.zF T.vX.kp T.BP .nil bQ (ah (pv 0) (ah (pv 1) aw)))) (aD (bu (iO lS (cv (ah (cM cq (by rfl) T.eG bz (ah (pv 2) aw)) aw)) (pv 2)))))),?_⟩;unfold ZV at q;rw[A.fam ok.fit (by omega)] at q;refine⟨_,rfl,_,rfl,_,_,_,_,_,rfl,KG.kept,T.aR,T.bH,rfl,_,_,rfl,KG.r.Q9,_,rfl,?_⟩;rw[bZ];cases e1:bj GF.num n g.F with
  |none=>
   rw[e1] at q;exact q.err kp rfl
  |some f=>
   rw[e1] at q;obtain⟨hf,ef⟩:=bD e1;have hln:=Ry A ok hf;refine⟨_,rfl,_,rfl,k,b,g,n,rfl,⟨KG,A,ok⟩,sz,⟨f,hf,ef⟩,λH1 l hl el s1=>?_⟩;rw[<-ef] at el;refine⟨_,rfl,_,_,rfl,.inl (dS.of el),AV,λp1 h1=>?_⟩;have s2:bC H1 (upd H1 p1 (.lst [V.int ((((oR b f.num).map V.int).length:Nat):Int)])):=bC.new h1;refine⟨_,rfl,p1,l,_,_,rfl,rfl,aq,s2 _ _ el,?_,λp2 h2=>?_⟩;rw[ag];show 1+_<=_;omega;have s3:=(s1.trans s2).trans (bC.new (o:= .lst ([V.int ((((oR b f.num).map V.int).length:Nat):Int)]++(oR b f.num).map V.int)) h2);refine q _ p2 (kp.same s3) (cY (s1.trans s2) h2) ?_ (xE.same s3);rw[aq,ag];rfl
def ZW(b:bB)(x:Int):bB×List Int:=(b,match b.person x.toNat with
 |none=>[-10]
 |some p=>eC (di (gT b p.fam)))
def O4(t:fO):Sp:=λvs H Q _=>∃(k:aj) (b:bB) (x:Int),vs=[.ref k,.int x]/\Kp t H k b/\0<x/\bV t H k (ZW b x) Q
theorem O5(T:Txt w K mg t):dU P w K mg base kI 2 t.sA t.qy ["kept","x"] (O4 t):=by
 refine T.F_.ok Du (λvs H Q E h=>?_) (λiq Ar outer s H vs Q E hr h=>?_);obtain⟨k,b,x,rfl,_⟩:=h;rfl
 ·obtain⟨k,b,x,rfl,kp,hx,q⟩:=h;obtain⟨g,KG,A,ok⟩:=id kp;have B3:aM=16777216:=rfl;refine⟨_,(ao (dr (kG (gC (d9 hr) (pv 1) (aT (pv 0) rfl))) (aD (bu (cv (ah (dE rfl T.sI) aw)))) bY) (ao (cj (i:=2) Du.nd rfl (bE rfl) (cX (pv 0) T.aR T.iD (iF T) hr.mo T.iW .nil bQ (ah (cX (pv 0) T.aR T.eM (eO T) hr.mo T.fE .nil bQ (ah (pv 1) aw)) aw))) (aD (bu (iO lS (cv (ah (cM cq (by rfl) T.eG bz (ah (pv 2) aw)) aw)) (pv 2)))))),?_⟩;unfold ZW at q;rw[A.person ok.fit (by omega)] at q;refine⟨_,rfl,_,rfl,_,_,_,_,_,rfl,KG.kept,T.aR,T.dy,rfl,_,_,rfl,KG.r.J1,_,rfl,?_⟩;rw[bZ];cases e1:bj GP.id x g.P with
  |none=>
   rw[e1] at q;exact q.err kp rfl
  |some p=>
   rw[e1] at q;obtain⟨nH,e0⟩:=bD e1;obtain⟨f,hf,ef,_⟩:=(ok.fit.qV p nH).fam;obtain⟨ar,al⟩:=A.path ok hf;rw[ef] at ar al;refine⟨_,rfl,_,_,_,rfl,KG.kept,rfl,_,rfl,_,_,_,rfl,KG.kept,rfl,_,rfl,k,g,x,p,rfl,KG.r,e1,k,g,p.fam,_,rfl,KG.r,ar,(by omega),λH1 l hl el s1=>?_⟩;refine⟨_,rfl,_,_,rfl,.inl (dS.of el),AV,λp1 h1=>?_⟩;have s2:bC H1 (upd H1 p1 (.lst [V.int ((((qR b p.fam).map V.int).length:Nat):Int)])):=bC.new h1;refine⟨_,rfl,p1,l,_,_,rfl,rfl,aq,s2 _ _ el,?_,λp2 h2=>?_⟩;rw[ag];show 1+_<=_;omega;have s3:=(s1.trans s2).trans (bC.new (o:= .lst ([V.int ((((qR b p.fam).map V.int).length:Nat):Int)]++(qR b p.fam).map V.int)) h2);refine q _ p2 (kp.same s3) (cY (s1.trans s2) h2) ?_ (xE.same s3);rw[aq,ag];rfl
end
end
section
open Vbdeah (Bank)
theorem tu{α β:Type}{f:α->β}{l:List α}{i:Nat}{y:β}(h:(l.map f)[i]? =ae y):∃c,l[i]? =ae c/\y=f c:=by
 rw[dh] at h;cases e:l[i]? with
 |none=>rw[e] at h;cases h
 |some v=>rw[e] at h;exact⟨v,rfl,(bF h).symm⟩
structure Lk(H:Hp)(a:aj)(kvs:List (Key×V))(od:Obj)(H2:Hp):Prop where
 free:H a=ae (.dK kvs)
 at_:H2 a=ae (.jq od (.dK kvs))
 kL:∀b o,H b=ae o->b≠a->H2 b=ae o
 nL:∀b,H2 b=ay->H b=ay
theorem Lk.of{H:Hp}{a:aj}{kvs:List (Key×V)}{od:Obj}(h:H a=ae (.dK kvs)):Lk H a kvs od (upd H a (.jq od (.dK kvs))):=⟨h,aq,λ_ _ e n=>aO e n,λ_ h=>dY h⟩
theorem Lk.lE{H H2:Hp}{a:aj}{kvs:List (Key×V)}{od:Obj}(L:Lk H a kvs od H2):ib H H2:=λb u e n=>by
 by_cases z:b=a;subst z;rw[L.free] at e;cases e;exact .inr ⟨kvs,od,rfl,L.at_⟩;exact .inl (L.kL _ _ e z)
theorem Lk.back{H H2 H':Hp}{a:aj}{kvs:List (Key×V)}{od:Obj}(L:Lk H a kvs od H2)(s:∀b o,H b=ae o->H2 b=ae o->H' b=ae o):bC H (upd H' a (.dK kvs)):=λb o e=>by
 by_cases hb:b=a;subst hb;rw[L.free] at e;cases e;exact aq;exact aO (s b o e (L.kL b o e hb)) hb
section
variable{g:G}{b:bB}
def Kq(w:GW):List Int:=[w.id,w.kind,w.place,w.num]
theorem xa(l:List GW):(l.flatMap Kq).length=4*l.length:=by
 rw[hG];induction l with
 |nil=>rfl
 |cons a r ih=>rw[aU,dc,aL,ih];show 4+_=_;omega
theorem cK.wnn(x:cK g){v:GW}(h:v∈g.W):((v.id.toNat:Nat):Int)=v.id/\((v.kind.toNat:Nat):Int)=v.kind/\((v.place.toNat:Nat):Int)=v.place/\((v.num.toNat:Nat):Int)=v.num:=by
 have W0:=x.t5 v h;have:=x.rJ h;have:=W0.kind;have:=W0.place;have:=W0.num;refine⟨?_,?_,?_,?_⟩<;>omega
theorem fz.VC(A:fz g b)(x:cK g):kx b=g.W.flatMap Kq:=by
 unfold kx;rw[A.W,gR];refine m9 λv hv=>?_;obtain⟨a1,a2,a3,a4⟩:=x.wnn hv;show[((v.id.toNat:Nat):Int),((v.kind.toNat:Nat):Int),((v.place.toNat:Nat):Int),((v.num.toNat:Nat):Int)]=_;rw[a1,a2,a3,a4];rfl
end
section
variable{P:bg}{w:cn}{K:au}{mg:Str->Option ax}{base:df}{t:fO}
def Hu(t:fO):Sp:=λvs H Q _=>∃(k:aj) (g:G),vs=[.ref k]/\cW t H k g/\g.W.length<=2000/\∀H' l,H l=ay->H' l=ae (.lst ((g.W.flatMap Kq).map V.int))->bC H H'->Q (.ref l) H'
theorem yb(T:Txt w K mg t):dU P w K mg base kI 1 t.mQ t.lx ["kept"] (Hu t):=by
 refine T.uH.ok oX (λvs H Q E h=>?_) (λiq Ar outer s H vs Q E hr h=>?_);obtain⟨k,g,rfl,_⟩:=h;rfl
 ·obtain⟨k,g,rfl,KG,sz,q⟩:=h;have B3:aM=16777216:=rfl;refine⟨_,(ao (cj (i:=1) oX.nd rfl (bE rfl) (cv aw)) (ao (Ao (nM dm rfl (Qt (aT (pv 0) rfl)) (Td rfl (wq (f6 (i:=2) oX.nd rfl (bE rfl)) (wq (f6 (i:=3) oX.nd rfl (bE rfl)) NT))) (aD (cJ (tH b8 dQ eZ rC (pv 1) (ah (cv (ah (pv 2) (ah (aT (pv 3) rfl) (ah (aT (pv 3) rfl) (ah (aT (pv 3) rfl) aw))))) aw)))))) (aD (bu (pv 1))))),?_⟩;refine⟨cI _,λl hl=>?_⟩;have s1:bC H (upd H l (.lst [])):=bC.new hl;have el:upd H l (.lst []) l=ae (.lst []):=aq;generalize upd H l (.lst [])=H1 at s1 el;have fW:=KG.same s1;refine⟨g.wa,_,fW.waits,trivial,λod=>?_⟩;have L:=Lk.of (od:=od) fW.waits;generalize upd H1 g.wa (.jq od (.dK (g.W.map BW)))=H2 at L;have Vk:l≠g.wa:=λz=>by rw[z,fW.waits] at el;cases el
  have R2:eI t H2 k g:=fW.r.lE L.lE;have vZ:H2 l=ae (.lst []):=L.kL _ _ el Vk;refine⟨_,rfl,_,_,_,_,_,rfl,R2.kept,T.aR,T.cA,rfl,_,_,_,rfl,L.at_,?_⟩;refine As g.W.length (λi σ H'=>∃v1 v2:Option V,σ=[ae (.ref k),ae (.ref l),v1,v2]/\H' l=ae (.lst (((g.W.take i).flatMap Kq).map V.int))/\∀b o,H2 b=ae o->b≠l->H' b=ae o)
   ⟨ay,ay,rfl,vZ,λb o e _=>e⟩ ?_ ?_
  ·rintro σ H' ⟨v1,v2,rfl,sZ,kp⟩;rw[cE] at sZ;have x8:=kp _ _ L.at_ (gA Vk);refine⟨⟨x8,by rw[ag];exact aJ _⟩,x8,?_⟩;refine⟨_,rfl,q _ l hl (aO sZ Vk) λb o e=>?_⟩;by_cases hb:b=g.wa;subst hb;rw[KG.waits] at e;cases e;exact aq;exact aO (kp _ _ (L.kL _ _ (s1 _ _ e) hb) (aI e hl)) hb
  ·rintro i σ H' hi ⟨v1,v2,rfl,sZ,kp⟩;have x8:=kp _ _ L.at_ (gA Vk);refine⟨⟨x8,by rw[ag];exact hi⟩,?_⟩;rintro y H3 ⟨Tp,kk,vv,Aq,rfl,hT,rfl⟩;obtain⟨w0,Ni,z⟩:=tu Aq;obtain⟨rfl,rfl⟩:kk=cO w0.id/\vv=V.ref w0.o:=⟨da ve z,da vf z⟩;have CB:w0∈g.W:=bW Ni;have R3:eI t (upd H' Tp (.tup [kV (.inl w0.id),.ref w0.o])) k g:=(R2.lE (J8 vZ kp)).lE (ib.same (bC.new hT));have Ez:upd H' Tp (.tup [kV (.inl w0.id),.ref w0.o]) l=ae (.lst (((g.W.take i).flatMap Kq).map V.int)):=aO sZ (aI sZ hT);have hT3:upd H' Tp (.tup [kV (.inl w0.id),.ref w0.o]) Tp=ae (.tup [kV (.inl w0.id),.ref w0.o]):=aq;have kp3:∀b o,H2 b=ae o->b≠l->upd H' Tp (.tup [kV (.inl w0.id),.ref w0.o]) b=ae o:=λb o e n=>aO (kp b o e n) (aI (kp b o e n) hT);generalize upd H' Tp (.tup [kV (.inl w0.id),.ref w0.o])=H4 at R3 Ez hT3 kp3;refine⟨_,_,rfl,n9.of hT3,rfl,_,_,rfl,_,_,rfl,rfl,?_⟩;have hwt:=R3.wait w0 CB;refine⟨_,rfl,.inl ⟨rfl,_,dS.of Ez⟩,_,rfl,_,rfl,_,_,_,_,_,rfl,hwt,T.eE,T.gW,rfl,_,rfl,_,_,_,_,_,rfl,hwt,T.eE,T.iY,rfl,_,rfl,_,_,_,_,_,rfl,hwt,T.eE,T.dM,rfl,(by show 4<=aM;decide),λp1 h1=>?_⟩;have n1:l≠p1:=aI Ez h1;refine⟨l,p1,_,_,rfl,rfl,aO Ez n1,aq,?_,_,_,rfl,?_,λb o e n=>?_⟩;rw[ag,xa,d6];show _+4<=_;omega;rw[aq,take_snoc Ni,fZ,az];rfl;have:=kp3 b o e n;exact aO (aO this (aI this h1)) n
def Hv(t:fO):Sp:=λvs H Q _=>∃(k:aj) (b:bB),vs=[.ref k]/\Kp t H k b/\Sz b/\bV t H k (b,(b.waits.length:Int)::kx b) Q
theorem Rm.Hk{H:Hp}{k:aj}{b:bB}{g:G}(A:fz g b)(ok:nP g)(sz:Sz b):g.W.length<=2000:=by
 have:=ok.fit.Hk;have:=A.zQ ok.fit;have:=sz.1;omega
theorem Hw(T:Txt w K mg t):dU P w K mg base kI 2 t.mO t.lu ["kept"] (Hv t):=by
 refine T.zB.ok GQ (λvs H Q E h=>?_) (λiq Ar outer s H vs Q E hr h=>?_);obtain⟨k,b,rfl,_⟩:=h;rfl
 ·obtain⟨k,b,rfl,kp,sz,q⟩:=h;obtain⟨g,KG,A,ok⟩:=id kp;have lW:=Rm.Hk (H:=H) (k:=k) A ok sz;have B3:aM=16777216:=rfl;refine⟨_,(aD (bu (iO lS (cv (ah (cM pR (by rfl) T.eG bz (ah (aT (pv 0) rfl) aw)) aw)) (bI (yb T) hr.mo rfl T.xY T.uH.kp T.zC .nil bQ (ah (pv 0) aw))))),?_⟩;rw[A.VC ok.fit,A.W,ag] at q;refine⟨_,rfl,_,_,_,_,_,rfl,KG.kept,T.aR,T.cA,rfl,_,_,rfl,.inl KG.waits,AV,λp1 h1=>?_⟩;have s1:bC H (upd H p1 (.lst [V.int (((g.W.map BW).length:Nat):Int)])):=bC.new h1;have e1:upd H p1 (.lst [V.int (((g.W.map BW).length:Nat):Int)]) p1=ae (.lst [V.int ((g.W.length:Nat):Int)]):=by rw[aq,ag]
  generalize upd H p1 (.lst [V.int (((g.W.map BW).length:Nat):Int)])=H1 at s1 e1;refine⟨_,rfl,k,g,rfl,KG.same s1,lW,λH2 l hl el s2=>?_⟩;refine⟨p1,l,_,_,rfl,rfl,s2 _ _ e1,el,?_,λp2 h2=>?_⟩;rw[ag,xa];show 1+_<=_;omega;have s3:=(s1.trans s2).trans (bC.new (o:= .lst ([V.int ((g.W.length:Nat):Int)]++(g.W.flatMap Kq).map V.int)) h2);exact q _ p2 (kp.same s3) (cY (s1.trans s2) h2) aq (xE.same s3)
def xc(p:Int)(w:GW):Bool:=decide (w.place=p)
def Tt(w:GW):List Int:=[w.id,w.kind,w.num]
theorem VD(l:List GW):(l.flatMap Tt).length=3*l.length:=by
 rw[hG];induction l with
 |nil=>rfl
 |cons a r ih=>rw[aU,dc,aL,ih];show 3+_=_;omega
def atR(b:bB)(p:Int):bB×List Int:=(b,let l:=b.waits.filter λw=>(w.place:Int)==p;(l.length:Int)::l.flatMap λw=>[(w.id:Int),(w.kind:Int),(w.num:Int)])
theorem fz.ats{g:G}{b:bB}(A:fz g b)(x:cK g)(p:Int):atR b p=(b,((g.W.filter (xc p)).length:Int)::(g.W.filter (xc p)).flatMap Tt):=by
 unfold atR;have e:(b.waits.filter λw=>(w.place:Int)==p)=(g.W.filter (xc p)).map ig:=by
  rw[A.W,hU];congr 1;refine d8 λv hv=>?_;obtain⟨_,_,a3,_⟩:=x.wnn hv;show(((v.place.toNat:Nat):Int)==p)=decide (v.place=p);rw[a3];rfl
 rw[e];show(b,((((g.W.filter (xc p)).map ig).length:Nat):Int)::((g.W.filter (xc p)).map ig).flatMap λw=>[(w.id:Int),(w.kind:Int),(w.num:Int)])=_;rw[ag,gR];congr 2;refine m9 λv hv=>?_;obtain⟨a1,a2,a3,a4⟩:=x.wnn (aW.mp hv).1;show[((v.id.toNat:Nat):Int),((v.kind.toNat:Nat):Int),((v.num.toNat:Nat):Int)]=_;rw[a1,a2,a4];rfl
def Ut(t:fO):Sp:=λvs H Q _=>∃(k:aj) (b:bB) (p:Int),vs=[.ref k,.int p]/\Kp t H k b/\Sz b/\bV t H k (atR b p) Q
theorem Uu(T:Txt w K mg t):dU P w K mg base kI 1 t.wU t.uB ["kept","place"] (Ut t):=by
 refine T.M9.ok uo (λvs H Q E h=>?_) (λiq Ar outer s H vs Q E hr h=>?_);obtain⟨k,b,p,rfl,_⟩:=h;rfl
 ·obtain⟨k,b,p,rfl,kp,sz,q⟩:=h;obtain⟨g,KG,A,ok⟩:=id kp;have lW:=Rm.Hk (H:=H) (k:=k) A ok sz;have B3:aM=16777216:=rfl;refine⟨_,(ao (Ao (C8 (i:=3) rfl uo.nd rfl rfl (H_ rfl rfl rfl rfl) (Dc (aT (pv 0) rfl)) (n_ (N:=["kept","place","x","there","answer"]) (sc:=a_ E1) (own:=[("x",2)]) (by decide+kernel)) (λ_ _ _ _ _=>(f6 (i:=2) uo.nd rfl (bE rfl))) (λ_ _ _ _ _=>(vj (b_ fC (tO (K:=K) rfl (fq (d9 hr) (tO (K:=K) rfl (pv 0) rfl) (pv 2) (λ_ _=>rfl)) rfl) (pv 1) (ck _)))) (λ_ _ _ _ _=>(pv 2)))) (ao (cj (i:=4) uo.nd rfl (bE rfl) (cv (ah (cM cq (by rfl) T.eG bz (ah (pv 3) aw)) aw))) (ao (nM dm rfl (kH (pv 3)) (f6 (i:=2) uo.nd rfl (bE rfl)) (aD (cJ (tH b8 dQ eZ rC (pv 4) (ah (cv (ah (pv 2) (ah (aT (fq (d9 hr) (aT (pv 0) rfl) (pv 2) (λ_ _=>rfl)) rfl) (ah (aT (fq (d9 hr) (aT (pv 0) rfl) (pv 2) (λ_ _=>rfl)) rfl) aw)))) aw))))) (aD (bu (pv 4)))))),?_⟩;rw[A.ats ok.fit p] at q;have lF:=bf (xc p) g.W;refine⟨g.wa,_,KG.waits,trivial,λod=>?_⟩;have L:=Lk.of (od:=od) KG.waits;generalize upd H g.wa (.jq od (.dK (g.W.map BW)))=H2 at L;have R2:eI t H2 k g:=KG.r.lE L.lE;refine⟨_,rfl,_,_,_,_,_,rfl,R2.kept,T.aR,T.cA,rfl,_,_,rfl,.inl ⟨_,L.at_,λD hD=>?_⟩⟩;refine N9 g.W.length (λj H'=>H' D=ae (.lst (((g.W.take j).filter (xc p)).map λw=>V.int w.id))/\∀b o,H2 b=ae o->H' b=ae o) ⟨aq,λb o e=>aO e (aI e hD)⟩ ?_ ?_
  ·rintro H' ⟨sZ,J_⟩;rw[cE] at sZ;have eW':=J_ _ _ L.at_;refine⟨⟨eW',by rw[ag];exact aJ _⟩,eW',?_⟩;have nD:D≠g.wa:=λz=>by rw[z,L.at_] at hD;cases hD
   have s3:bC H (upd H' g.wa (.dK (g.W.map BW))):=L.back λb o _ e=>J_ b o e;have el:upd H' g.wa (.dK (g.W.map BW)) D=ae (.lst ((g.W.filter (xc p)).map λw=>V.int w.id)):=aO sZ nD;generalize upd H' g.wa (.dK (g.W.map BW))=H3 at s3 el;have pL:=KG.same s3;refine⟨_,rfl,_,_,rfl,.inl (dS.of el),AV,λa ha=>?_⟩;have s4:bC H3 (upd H3 a (.lst [V.int ((((g.W.filter (xc p)).map λw=>V.int w.id).length:Nat):Int)])):=bC.new ha;have ea:upd H3 a (.lst [V.int ((((g.W.filter (xc p)).map λw=>V.int w.id).length:Nat):Int)]) a=ae (.lst [V.int (((g.W.filter (xc p)).length:Nat):Int)]):=by rw[aq,ag]
   generalize upd H3 a (.lst [V.int ((((g.W.filter (xc p)).map λw=>V.int w.id).length:Nat):Int)])=H4 at s4 ea;refine⟨_,rfl,D,rfl,⟨_,dS.of (s4 _ _ el)⟩,qc (K:=K) (a:=D) (xs:=(g.W.filter (xc p)).map λw=>V.int w.id) (λi σ H'=>(∃v:Option V,σ=[ae (.ref k),ae (.int p),v,ae (.ref D),ae (.ref a)])/\H' a=ae (.lst (((((g.W.filter (xc p)).length:Nat):Int)::((g.W.filter (xc p)).take i).flatMap Tt).map V.int))/\bC H3 H') ⟨⟨_,rfl⟩,ea,s4⟩ (λi σ H' _ ⟨_,_,s5⟩=>dS.of (s5 _ _ el)) ?_ ?_⟩
   ·rintro i y σ H' hi ⟨⟨v,rfl⟩,O1,s5⟩;obtain⟨w0,Ni,rfl⟩:=tu hi;have CB:=(aW.mp (bW Ni)).1;have Yg:=pL.same s5;have gw:=Yg.zL (cB KG.Il CB rfl);refine⟨_,rfl,.inl ⟨rfl,_,dS.of O1⟩,_,rfl,_,rfl,_,_,_,_,_,rfl,Yg.kept,T.aR,T.cA,rfl,_,rfl,_,_,rfl,gw,_,_,_,_,_,rfl,Yg.wait w0 CB,T.eE,T.gW,rfl,_,rfl,_,_,_,_,_,rfl,Yg.kept,T.aR,T.cA,rfl,_,rfl,_,_,rfl,gw,_,_,_,_,_,rfl,Yg.wait w0 CB,T.eE,T.dM,rfl,(by show 3<=aM;decide),λp1 h1=>?_⟩;refine⟨a,p1,_,_,rfl,rfl,aO O1 (aI O1 h1),aq,?_,⟨_,rfl⟩,?_,λb o e=>?_⟩;rw[ag,aL,VD,d6];show _+3<=_;omega;rw[aq,take_snoc Ni,fZ,<-sU,az];rfl;exact aO (aO (s5 _ _ e) (aI (s5 _ _ e) h1)) (aI e ha)
   rintro σ H' ⟨⟨v,rfl⟩,O1,s5⟩;rw[ag,cE] at O1;exact⟨_,rfl,q H' a (kp.same (s3.trans s5)) (cY s3 ha) O1 (xE.same (s3.trans s5))⟩
  ·rintro j H' hj ⟨sZ,J_⟩;have eW':=J_ _ _ L.at_;refine⟨⟨eW',by rw[ag];exact hj⟩,?_⟩;rintro y H7 ⟨e7,kk,vv,Aq,ey⟩;obtain rfl:=e7.symm;obtain⟨w0,Ni,z⟩:=tu Aq;obtain⟨rfl,_⟩:kk=cO w0.id/\vv=V.ref w0.o:=⟨da ve z,da vf z⟩;subst ey;have CB:w0∈g.W:=bW Ni;have R7:eI t H' k g:=R2.lE (ib.same J_);refine⟨rfl,?_⟩;refine⟨_,rfl,_,_,_,_,_,rfl,R7.kept,T.aR,T.cA,rfl,_,rfl,_,_,rfl,R7.zL (cB KG.Il CB rfl),_,_,_,_,_,rfl,R7.wait w0 CB,T.eE,T.iY,rfl,_,rfl,rfl,_,rfl,?_⟩;refine cN (λc1=>?_) (λc1=>?_);have e1:w0.place=p:=V.int.inj (aY c1);have l1:=AB (q:=xc p) (f:=λw:GW=>V.int w.id) (l:=g.W) (i:=j);refine⟨_,rfl,_,sZ,(by omega),?_,λb o e=>aO (J_ b o e) (aI e hD)⟩;rw[aq,lH Ni,bw (show xc p w0=true from bG e1)];rfl;have n1:¬xc p w0=true:=λz=>c1 (by rw[aY z];exact bG rfl);refine⟨?_,J_⟩;rw[lH Ni,aX n1,cD];exact sZ
theorem ZX(l:List Int)(n:Int):inV (.int n) (l.map V.int)=l.contains n:=by
 unfold inV;rw[Sj,List.contains_eq_any_beq];congr 1
 funext z
 show(z==n)=(n==z);exact BEq.comm
theorem Xx(l:List Int):(l.map V.int).all C6=true:=by
 rw[yq];exact cz.mpr λ_ _=>rfl
def Xy(b:bB)(x y:Int):Int:=((qR b x).find? λf=>(qR b y).contains f).getD 0
def aer(b:bB)(x y:Int):bB×List Int:=(b,match b.person x.toNat with
 |none=>[-10]
 |some p=>match b.person y.toNat with
  |none=>[-10]
  |some q=>[(xO b p.id q.id:Int)])
theorem Mg(l:List Nat)(n:Nat):(di l).contains (ir n)=l.contains n:=by
 unfold di;rw[cT,gH,gH,aA];exact⟨λ⟨m,hm,e⟩=>by rw[<-Int.ofNat.inj e];exact hm,λh=>⟨n,h,rfl⟩⟩
theorem Xz(q:Int->Bool)(l:List Nat):(di l).find? q=(l.find? λn=>q (ir n)).map ir:=by
 unfold di;rw[vc];rfl
theorem aes{g:G}{b:bB}(A:fz g b)(ok:nP g){x y:Int}{p q:GP}(hp:bj GP.id x g.P=ae p)(hq:bj GP.id y g.P=ae q):(xO b p.id.toNat q.id.toNat:Int)=Xy b p.fam q.fam:=by
 obtain⟨nH,ep⟩:=bD hp;obtain⟨hqm,eq⟩:=bD hq;have np:=ok.fit.jo nH;have nq:=ok.fit.jo hqm;unfold xO Xy qR;rw[A.famOf ok.fit (by omega),A.famOf ok.fit (by omega),ep,eq,lX hp,lX hq,Xz];have:(λn:Nat=>(di (gT b q.fam.toNat)).contains (ir n))=λn=>(gT b q.fam.toNat).contains n:=by
  funext n
  exact Mg _ _
 rw[this];cases (gT b p.fam.toNat).find? λn=>(gT b q.fam.toNat).contains n<;>rfl
def Rz(t:fO):Sp:=λvs H Q _=>∃(k:aj) (b:bB) (x y:Int),vs=[.ref k,.int x,.int y]/\Kp t H k b/\0<x/\0<y/\bV t H k (aer b x y) Q
theorem RA(T:Txt w K mg t):dU P w K mg base kI 2 t.uD t.sC ["kept","x","y"] (Rz t):=by
 refine T.JL.ok y6 (λvs H Q E h=>?_) (λiq Ar outer s H vs Q E hr h=>?_);obtain⟨k,b,x,y,rfl,_⟩:=h;rfl
 ·obtain⟨k,b,x,y,rfl,kp,hx,hy,q⟩:=h;obtain⟨g,KG,A,ok⟩:=id kp;have B3:aM=16777216:=rfl;refine⟨_,(ao (dr (PW.pt (UO (kG (gC (d9 hr) (pv 1) (aT (pv 0) rfl))) (NS (kG (gC (d9 hr) (pv 2) (aT (pv 0) rfl)))))) (aD (bu (cv (ah (dE rfl T.sI) aw)))) bY) (ao (cj (i:=3) y6.nd rfl (bE rfl) (cX (pv 0) T.aR T.iD (iF T) hr.mo T.iW .nil bQ (ah (cX (pv 0) T.aR T.eM (eO T) hr.mo T.fE .nil bQ (ah (pv 2) aw)) aw))) (ao (nM dm rfl (kH (cX (pv 0) T.aR T.iD (iF T) hr.mo T.iW .nil bQ (ah (cX (pv 0) T.aR T.eM (eO T) hr.mo T.fE .nil bQ (ah (pv 1) aw)) aw))) (f6 (i:=4) y6.nd rfl (bE rfl)) (aD (dr (b_ Wm (pv 4) (pv 3) (by rfl)) (aD (bu (cv (ah (pv 4) aw)))) bY))) (aD (bu (cv (ah aQ aw))))))),?_⟩;unfold aer at q;rw[A.person ok.fit (by omega)] at q;refine⟨_,rfl,_,rfl,_,_,_,_,_,rfl,KG.kept,T.aR,T.dy,rfl,_,_,rfl,KG.r.J1,_,rfl,?_⟩;rw[bZ];cases e1:bj GP.id x g.P with
  |none=>
   rw[e1] at q;exact N7 (q.err kp rfl)
  |some p=>
   rw[e1] at q;have q':bV t H k (b,match b.person y.toNat with
    |none=>[-10]
    |some v=>[(xO b p.id.toNat v.id:Int)]) Q:=q
   rw[A.person ok.fit (by omega)] at q';refine⟨_,rfl,_,rfl,_,_,_,_,_,rfl,KG.kept,T.aR,T.dy,rfl,_,_,rfl,KG.r.J1,_,rfl,?_⟩;rw[bZ];cases e2:bj GP.id y g.P with
   |none=>
    rw[e2] at q';exact q'.err kp rfl
   |some v=>
    rw[e2] at q';have q2:bV t H k (b,[(xO b p.id.toNat v.id.toNat:Int)]) Q:=q';rw[aes A ok e1 e2] at q2;obtain⟨nH,e0⟩:=bD e1;obtain⟨f,hf,ef,_⟩:=(ok.fit.qV p nH).fam;obtain⟨ar,al⟩:=A.path ok hf;rw[ef] at ar al;obtain⟨B2,_⟩:=bD e2;obtain⟨f2,hf2,ef2,_⟩:=(ok.fit.qV v B2).fam;obtain⟨ar2,al2⟩:=A.path ok hf2;rw[ef2] at ar2 al2;refine⟨_,rfl,_,_,_,rfl,KG.kept,rfl,_,rfl,_,_,_,rfl,KG.kept,rfl,_,rfl,k,g,y,v,rfl,KG.r,e2,k,g,v.fam,_,rfl,KG.r,ar2,(by omega),λH1 l hl el s1=>?_⟩;have fW:=KG.same s1;refine⟨_,rfl,_,_,_,rfl,fW.kept,rfl,_,rfl,_,_,_,rfl,fW.kept,rfl,_,rfl,k,g,x,p,rfl,fW.r,e1,k,g,p.fam,_,rfl,fW.r,ar,(by omega),λH2 m hm em s2=>?_⟩;have vZ:=s2 _ _ el;have s12:=s1.trans s2;refine⟨m,rfl,⟨_,dS.of em⟩,qc (K:=K) (a:=m) (xs:=(qR b p.fam).map V.int) (λi σ H'=>H'=H2/\(∃u:Option V,σ=[ae (.ref k),ae (.int x),ae (.int y),ae (.ref l),u])/\∀z∈(qR b p.fam).take i,(qR b v.fam).contains z=false) ⟨rfl,⟨ay,rfl⟩,by simp⟩ (λi σ H' _ ⟨e,_⟩=>by rw[e];exact dS.of em) ?_ ?_⟩
    ·rintro i z σ H' hi ⟨rfl,⟨u,rfl⟩,hn⟩;obtain⟨n,Tb,rfl⟩:=tu hi;refine⟨_,rfl,_,rfl,l,_,rfl,.inl (dS.of vZ),rfl,Xx _,_,rfl,?_⟩;rw[ZX];cases ec:(qR b v.fam).contains n with
     |false=>
      refine⟨rfl,⟨_,rfl⟩,λz hz=>?_⟩;rw[take_snoc Tb] at hz;obtain z1|z1:=aP.mp hz
      exact hn z z1;obtain rfl:=ai.mp z1;exact ec
     |true=>
      have ek:Xy b p.fam v.fam=n:=by
       unfold Xy;have:(qR b p.fam).find? (λf=>(qR b v.fam).contains f)=ae n:=by
        obtain⟨hi1,hi2⟩:=dj.mp Tb;refine HQ.mpr ⟨ec,i,hi1,hi2,λj hj=>?_⟩;have:(qR b p.fam)[j]∈(qR b p.fam).take i:=by
         rw[n8];exact⟨j,by omega,rfl⟩
        rw[hn _ this];rfl
       rw[this];rfl
      refine⟨_,rfl,AV,λp1 h1=>?_⟩;refine q2 _ p1 (kp.same (s12.trans (bC.new h1))) (cY s12 h1) ?_ (xE.same (s12.trans (bC.new h1)));rw[aq,ek];rfl
    ·rintro σ H' ⟨rfl,⟨u,rfl⟩,hn⟩;rw[ag,cE] at hn;have ek:Xy b p.fam v.fam=0:=by
      unfold Xy;have:(qR b p.fam).find? (λf=>(qR b v.fam).contains f)=ay:=fg.mpr λz hz=>by rw[hn z hz];decide
      rw[this];rfl
     refine⟨AV,λp1 h1=>?_⟩;refine q2 _ p1 (kp.same (s12.trans (bC.new h1))) (cY s12 h1) ?_ (xE.same (s12.trans (bC.new h1)));rw[aq,ek];rfl
end
end
section
open Vbdeah (Bank Fam)
section
variable{g:G}{b:bB}
theorem fz.XA(A:fz g b)(x:cK g):(g.F.map (·.num)).Perm (b.fams.map λq=>(q.num:Int)):=by
 have nd2:(b.fams.map λq=>(q.num:Int)).Nodup:=by
  rw[MB,eV];exact A.sF.imp λ{a c} h z=>by omega
 rw[My x.lO nd2];intro n;rw[aA,aA];constructor;rintro ⟨f,hf,rfl⟩;have:=(x.fe hf).1;exact⟨toF f,(A.mF _).mpr ⟨f,hf,rfl⟩,by show((f.num.toNat:Nat):Int)=f.num;omega⟩;rintro ⟨q,hq,rfl⟩;obtain⟨f,hf,rfl⟩:=(A.mF q).mp hq;have:=(x.fe hf).1;exact⟨f,hf,by show f.num=((f.num.toNat:Nat):Int);omega⟩
theorem fz.nums(A:fz g b)(x:cK g){ns:List Int}(p:ns.Perm (g.F.map (·.num)))(s:ns.Pairwise (·<=·)):ns=b.fams.map λq=>(q.num:Int):=by
 refine vD (p.trans (A.XA x)) s ?_;rw[eV];exact A.sF.imp λ{a c} h=>by omega
theorem RC(h:Fam->Nat):∀(l:List Fam) (a:Nat),a<=l.foldl (λm g=>max m (h g)) a/\(∀q∈l,h q<=l.foldl (λm g=>max m (h g)) a)/\(l.foldl (λm g=>max m (h g)) a=a\/∃q∈l,l.foldl (λm g=>max m (h g)) a=h q)
 |[],a=>⟨aJ _,by simp,.inl rfl⟩
 |c::r,a=>by
  obtain⟨h1,h2,h3⟩:=RC h r (max a (h c));rw[cV];refine⟨by omega,λq hq=>?_,?_⟩
  ·obtain rfl|hq:=aF.mp hq
   omega;exact h2 q hq
  ·obtain z|⟨q,hq,z⟩:=h3
   ·obtain y|y:=Nat.le_total a (h c)
    exact .inr ⟨c,aB ..,by rw[z];omega⟩;exact .inl (by rw[z];omega)
   exact .inr ⟨q,aC _ hq,z⟩
def Ef(b:bB)(f:GF):Int:=((gT b f.num.toNat).length:Int)
theorem fz.deepest(A:fz g b){m:Int}(h:(g.F.map (Ef b)=[]/\m=0)\/(m∈g.F.map (Ef b)/\∀a∈g.F.map (Ef b),a<=m)):m=(tY b:Int):=by
 obtain⟨_,h2,h3⟩:=RC (λq=>(gT b q.num).length) b.fams 0;have hd:tY b=b.fams.foldl (λm g=>max m (gT b g.num).length) 0:=rfl;rw[<-hd] at h2 h3;obtain⟨e,rfl⟩|⟨hm,hx⟩:=h
 ·obtain z|⟨q,hq,_⟩:=h3
  rw[z];rfl;obtain⟨f,hf,_⟩:=(A.mF q).mp hq;have:Ef b f∈g.F.map (Ef b):=aA.mpr ⟨f,hf,rfl⟩;rw[e] at this;cases this
 ·obtain⟨f,hf,rfl⟩:=aA.mp hm;have h4:=h2 (toF f) ((A.mF _).mpr ⟨f,hf,rfl⟩);have h5:Ef b f<=(tY b:Int):=by unfold Ef;exact Int.ofNat_le.mpr h4
  obtain z|⟨q,hq,z⟩:=h3
  rw[z] at h5⊢;have:0<=Ef b f:=Int.natCast_nonneg _;omega
  ·obtain⟨f',dZ,rfl⟩:=(A.mF q).mp hq;have:=hx _ (aA.mpr ⟨f',dZ,rfl⟩);have e:(tY b:Int)=Ef b f':=by rw[z];rfl
   omega
def u9(q:Fam):Bool:=q.parent==0
theorem ZY(b:bB):di ((cH b 0).map λg=>g.num)=(b.fams.filter u9).map λq=>(q.num:Int):=by
 unfold di cH;rw[bx];rfl
end
section
variable{P:bg}{w:cn}{K:au}{mg:Str->Option ax}{base:df}{t:fO}
def Hy(t:fO):Sp:=λvs H Q _=>∃(k:aj) (b:bB) (g:G),vs=[.ref k]/\Rm t H k b g/\Sz b/\∀H' l,H l=ay->H' l=ae (.lst ((b.fams.filter u9).map λq=>V.int (q.num:Int)))->bC H H'->Q (.ref l) H'
theorem yc(T:Txt w K mg t):dU P w K mg base kI 1 t.mR t.ly ["kept"] (Hy t):=by
 refine T.uI.ok tm (λvs H Q E h=>?_) (λiq Ar outer s H vs Q E hr h=>?_);obtain⟨k,b,g,rfl,_⟩:=h;rfl
 ·obtain⟨k,b,g,rfl,⟨KG,A,ok⟩,sz,q⟩:=h;have J2:=sz.2;have B3:aM=16777216:=rfl;refine⟨_,(aD (bu (ML rfl tm.nd (kH (cM (Qz rfl) (by rfl) T.Aw boot_sorted (ah (aT (pv 0) rfl) aw))) (n_ (N:=["kept","number"]) (sc:=a_ ui) (own:=[("number",1)]) (by decide+kernel)) (λ_ _ _ _ _=>(f6 (i:=1) tm.nd rfl (bE rfl))) (λ_ _ _ _ _=>(vj (b_ fC (tO (K:=K) rfl (fq (d9 hr) (tO (K:=K) rfl (pv 0) rfl) (pv 1) (λ_ _=>rfl)) rfl) aQ (ck _)))) (λ_ _ _ _ _=>(pv 1))))),?_⟩;refine⟨_,rfl,_,_,_,_,_,rfl,KG.kept,T.aR,T.bH,rfl,g.fa,_,g.F.map (·.num),rfl,.inl KG.fams,(by rw[bx,bx];rfl),λns l hp hs hl=>?_⟩;obtain rfl:=A.nums ok.fit hp hs;have s1:bC H (upd H l (.lst ((b.fams.map λq=>(q.num:Int)).map V.int))):=bC.new hl;have el:upd H l (.lst ((b.fams.map λq=>(q.num:Int)).map V.int)) l=ae (.lst (b.fams.map λq=>V.int (q.num:Int))):=by rw[aq,bx];rfl
  generalize upd H l (.lst ((b.fams.map λq=>(q.num:Int)).map V.int))=H1 at s1 el;have fW:=KG.same s1;refine⟨l,rfl,⟨_,dS.of el⟩,λD hD=>?_⟩;refine Am (K:=K) (a:=l) (xs:=b.fams.map λq=>V.int (q.num:Int)) (λi H'=>H' D=ae (.lst (((b.fams.take i).filter u9).map λq=>V.int (q.num:Int)))/\bC H1 H') ⟨aq,bC.new hD⟩ (λi H' _ ⟨_,s2⟩=>dS.of (s2 _ _ el)) ?_ ?_
  ·rintro i y H' hi ⟨eD,s2⟩;obtain⟨v,hv,rfl⟩:=tu hi;obtain⟨f,hf,rfl⟩:=(A.mF v).mp (bW hv);have gG:=fW.same s2;have nn:=ok.fit.fe hf;have en:(((toF f).num:Nat):Int)=f.num:=by show((f.num.toNat:Nat):Int)=f.num;omega
   refine⟨rfl,?_⟩;refine⟨_,rfl,_,_,_,_,_,rfl,gG.kept,T.aR,T.bH,rfl,_,rfl,_,_,rfl,gG.sJ (cB KG.xu hf en.symm),_,_,_,_,_,rfl,(gG.fam f hf).obj,T.dB,T.fS,rfl,rfl,_,rfl,?_⟩;refine cN (λc=>?_) (λc=>?_);have e1:f.par=0:=V.int.inj (of_decide_eq_true c);have l1:=AB (q:=u9) (f:=λq:Fam=>V.int (q.num:Int)) (l:=b.fams) (i:=i);refine⟨_,rfl,_,eD,(by omega),?_,λb o e=>aO (s2 b o e) (aI e hD)⟩;rw[aq,lH hv,if_pos (show u9 (toF f)=true from by unfold u9 toF;rw[e1];rfl)]
   ·have n1:¬u9 (toF f)=true:=λz=>c (by
     have:f.par.toNat=0:=by unfold u9 toF at z;simpa using z
     have:f.par=0:=by omega
     rw[this];rfl)
    refine⟨?_,s2⟩;rw[lH hv,aX n1,cD];exact eD
  rintro H' ⟨eD,s2⟩;rw[ag,cE] at eD;exact q _ D (cY s1 hD) eD (s1.trans s2)
def Mh(t:fO):Sp:=λvs H Q _=>∃(k:aj) (b:bB),vs=[.ref k]/\Kp t H k b/\Sz b/\bV t H k (b,eC (di ((cH b 0).map λg=>g.num))) Q
theorem Mi(T:Txt w K mg t):dU P w K mg base kI 2 t.qx t.oH ["kept"] (Mh t):=by
 refine T.DN.ok BD (λvs H Q E h=>?_) (λiq Ar outer s H vs Q E hr h=>?_);obtain⟨k,b,rfl,_⟩:=h;rfl
 ·obtain⟨k,b,rfl,kp,sz,q⟩:=h;obtain⟨g,KG,A,ok⟩:=id kp;have J2:=sz.2;have B3:aM=16777216:=rfl;rw[ZY] at q;have lF:=bf u9 b.fams;refine⟨_,(ao (cj (i:=1) BD.nd rfl (bE rfl) (bI (yc T) hr.mo rfl T.xZ T.uI.kp T.zD .nil bQ (ah (pv 0) aw))) (aD (bu (iO lS (cv (ah (cM cq (by rfl) T.eG bz (ah (pv 1) aw)) aw)) (pv 1))))),?_⟩;refine⟨_,rfl,k,b,g,rfl,⟨KG,A,ok⟩,sz,λH1 l hl el s1=>?_⟩;refine⟨_,rfl,_,_,rfl,.inl (dS.of el),AV,λp1 h1=>?_⟩;have s2:bC H1 (upd H1 p1 (.lst [V.int ((((b.fams.filter u9).map λq=>V.int (q.num:Int)).length:Nat):Int)])):=bC.new h1;refine⟨_,rfl,p1,l,_,_,rfl,rfl,aq,s2 _ _ el,?_,λp2 h2=>?_⟩;rw[ag];show 1+_<=_;omega;have s3:=(s1.trans s2).trans (bC.new (o:= .lst ([V.int ((((b.fams.filter u9).map λq=>V.int (q.num:Int)).length:Nat):Int)]++(b.fams.filter u9).map λq=>V.int (q.num:Int))) h2);refine q _ p2 (kp.same s3) (cY (s1.trans s2) h2) ?_ (xE.same s3);rw[aq,Ur,ag,bx,ag];rfl
def VF(b:bB):bB×List Int:=(b,[(b.people.length:Int),(b.fams.length:Int),(b.next:Int),(b.waits.length:Int),(tY b:Int)])
def Kr(t:fO):Sp:=λvs H Q _=>∃(k:aj) (b:bB),vs=[.ref k]/\Kp t H k b/\Sz b/\bV t H k (VF b) Q
theorem Ks(T:Txt w K mg t):dU P w K mg base kI 3 t.oI t.mS ["kept"] (Kr t):=by
 refine T.BL.ok qh (λvs H Q E h=>?_) (λiq Ar outer s H vs Q E hr h=>?_);obtain⟨k,b,rfl,_⟩:=h;rfl
 ·obtain⟨k,b,rfl,kp,sz,q⟩:=h;obtain⟨g,KG,A,ok⟩:=id kp;have J2:=sz.2;have B3:aM=16777216:=rfl;have lF:=A.Hi ok.fit;have lP:=A.zQ ok.fit;refine⟨_,(ao (cj (i:=1) qh.nd rfl (bE rfl) (M3 (aby rfl) (by rfl) T.aeb boot_max (ah (N3 (ML rfl qh.nd (Dc (aT (pv 0) rfl)) (n_ (N:=["kept","deepest","number"]) (sc:=a_ vR) (own:=[("number",2)]) (by decide+kernel)) (λ_ _ _ _ _=>(f6 (i:=2) qh.nd rfl (bE rfl))) (λ_ _ _ _ _=>U2) (λ_ _ _ _ _=>(cX (pv 0) T.aR T.BH (BZ T) hr.mo T.DH .nil bQ (ah (pv 2) aw))))) aw) (UX aQ YG))) (aD (bu (cv (ah (cM pR (by rfl) T.eG bz (ah (aT (pv 0) rfl) aw)) (ah (cM pR (by rfl) T.eG bz (ah (aT (pv 0) rfl) aw)) (ah (aT (pv 0) rfl) (ah (cM pR (by rfl) T.eG bz (ah (aT (pv 0) rfl) aw)) (ah (pv 1) aw))))))))),?_⟩;refine⟨g.fa,_,KG.fams,trivial,λod=>?_⟩;have L:=Lk.of (od:=od) KG.fams;generalize upd H g.fa (.jq od (.dK (g.F.map BV)))=H2 at L;have R2:eI t H2 k g:=KG.r.lE L.lE;refine⟨_,rfl,_,_,_,_,_,rfl,R2.kept,T.aR,T.bH,rfl,_,_,rfl,.inl ⟨_,L.at_,λD hD=>?_⟩⟩;refine N9 g.F.length (λj H'=>H' D=ae (.lst (((g.F.take j).map (Ef b)).map V.int))/\∀b o,H2 b=ae o->H' b=ae o) ⟨aq,λb o e=>aO e (aI e hD)⟩ ?_ ?_
  ·rintro H' ⟨sZ,J_⟩;rw[cE] at sZ;have x8:=J_ _ _ L.at_;refine⟨⟨x8,by rw[ag];exact aJ _⟩,x8,?_⟩;have nD:D≠g.fa:=λz=>by rw[z,L.at_] at hD;cases hD
   have s3:bC H (upd H' g.fa (.dK (g.F.map BV))):=L.back λb o _ e=>J_ b o e;have el:upd H' g.fa (.dK (g.F.map BV)) D=ae (.lst ((g.F.map (Ef b)).map V.int)):=aO sZ nD;generalize upd H' g.fa (.dK (g.F.map BV))=H3 at s3 el;have pL:=KG.same s3;refine⟨D,_,0,rfl,rfl,dS.of el,λm hm=>?_⟩;obtain rfl:=A.deepest hm;have dP:=pL.people;refine⟨_,rfl,_,_,_,_,_,rfl,pL.kept,T.aR,T.dy,rfl,_,_,rfl,.inl pL.people,_,rfl,_,_,_,_,_,rfl,pL.kept,T.aR,T.bH,rfl,_,_,rfl,.inl pL.fams,_,rfl,_,_,_,_,_,rfl,pL.kept,T.aR,T.ft,rfl,_,rfl,_,_,_,_,_,rfl,pL.kept,T.aR,T.cA,rfl,_,_,rfl,.inl pL.waits,_,rfl,(by show 5<=aM;decide),λp1 h1=>?_⟩;refine q _ p1 (kp.same (s3.trans (bC.new h1))) (cY s3 h1) ?_ (xE.same (s3.trans (bC.new h1)));have ew:b.waits.length=g.W.length:=by rw[A.W,ag]
   rw[aq,ag,ag,ag];show _=ae (HO.lst [V.int (b.people.length:Int),V.int (b.fams.length:Int),V.int (b.next:Int),V.int (b.waits.length:Int),V.int (tY b:Int)]);rw[lP,lF,ew,A.nx]
  ·rintro j H' hj ⟨sZ,J_⟩;have x8:=J_ _ _ L.at_;refine⟨⟨x8,by rw[ag];exact hj⟩,?_⟩;rintro y H7 ⟨e7,kk,vv,Aq,ey⟩;obtain rfl:=e7.symm;obtain⟨f,hf,z⟩:=tu Aq;obtain⟨rfl,_⟩:kk=cO f.num/\vv=V.ref f.o:=⟨congrArg ve z,congrArg vf z⟩;subst ey;have uY:f∈g.F:=bW hf;have R7:eI t H' k g:=R2.lE (ib.same J_);obtain⟨d,Dp⟩:=rK ok.fit uY;have h40:=ok.xD f uY _ Dp;have ed:Ef b f=((d+1:Nat):Int):=by unfold Ef;rw[A.Vq ok.fit Dp (by have:=(ok.fit.fe uY).1;omega)]
   refine⟨rfl,?_⟩;refine⟨_,rfl,_,_,_,rfl,R7.kept,rfl,_,rfl,k,g,f.num,d+1,rfl,R7,Dp,(by omega),λH8 s8=>?_⟩;refine⟨_,s8 _ _ sZ,?_,?_,λb o e=>aO (s8 _ _ (J_ b o e)) (aI e hD)⟩;rw[ag,ag,d6];omega;rw[aq,take_snoc hf,az,az];show _=ae (HO.lst (_++[V.int (Ef b f)]));rw[ed]
end
end
section
open Vbdeah (Bank Fam)
def rL(b:bB)(n:Int):List Int:=match b.fam n.toNat with
 |some h=>fH b fA h
 |none=>[]
def xf(b:bB)(q:Int×Int×Int):List Int:=q.1::(if q.2.1=1 then 1::rL b q.2.2 else[0,q.2.2])
section
variable{g:G}{b:bB}
theorem O6(A:fz g b)(ok:nP g){f:GF}(hf:f∈g.F):rL b f.num=fH b fA (toF f):=by
 have nn:=ok.fit.fe hf;unfold rL;rw[A.fam ok.fit (by omega),cB ok.fit.lO hf rfl];rfl
theorem O7(A:fz g b)(ok:nP g){f:GF}(hf:f∈g.F):rL b f.num=f.num::f.fN::(f.kids.length:Int)::(f.kids.map d_).flatMap (xf b):=by
 have nn:=ok.fit.fe hf;rw[O6 A ok hf,Rl A ok hf,gR];have e1:((f.num.toNat:Nat):Int)=f.num:=by omega
 have e2:((f.fN.toNat:Nat):Int)=f.fN:=by omega
 rw[e1,e2];congr 3;refine m9 λc hc=>?_;obtain⟨h1,_,h2⟩:=(ok.fit.fam f hf).x_ c hc;unfold vG;have e3:((c.cf.toNat:Nat):Int)=c.cf:=by omega
 rw[e3];show _=c.cf::(if c.sort=1 then 1::rL b c.id else[0,c.id]);by_cases e:c.sort=1;rw[if_pos e,if_pos e];obtain⟨h',q_,z1,_⟩:=ok.fit.sub hf hc e;have nn':=ok.fit.fe q_;unfold rL;rw[<-z1,A.fam ok.fit (by omega),cB ok.fit.lO q_ rfl];rfl
 ·rw[aX e,aX e];obtain⟨_,p,hp,z,_⟩|⟨z,_⟩:=h2
  have:=(ok.fit.jo hp).1;rw[show((c.id.toNat:Nat):Int)=c.id by omega];exact bM z e
theorem ZZ(A:fz g b)(ok:nP g){f:GF}(hf:f∈g.F):(rL b f.num).length+2=Mb b f.num:=by
 rw[O6 A ok hf,CH A ok.fit hf];unfold SH;omega
theorem Kt(A:fz g b)(ok:nP g):lZ b=(b.fams.filter u9).flatMap λq=>rL b (q.num:Int):=by
 unfold lZ cH;refine m9 λq hq=>?_;obtain⟨f,hf,rfl⟩:=(A.mF q).mp (aW.mp hq).1;have nn:=ok.fit.fe hf;rw[show(((toF f).num:Nat):Int)=f.num from by show((f.num.toNat:Nat):Int)=f.num;omega,O6 A ok hf]
end
section
variable{P:bg}{w:cn}{K:au}{mg:Str->Option ax}{base:df}{t:fO}
def CK(t:fO):Sp:=λvs H Q _=>∃(k:aj) (g:G) (n:Int) (f:GF),vs=[.ref k,.int n]/\eI t H k g/\bj GF.num n g.F=ae f/\∀p,H p=ay->Q (.ref p) (upd H p (.lst [V.int f.fN,V.int (f.kids.length:Int)]))
theorem uO(T:Txt w K mg t):dU P w K mg base kI 1 t.jB t.je ["kept","number"] (CK t):=by
 refine T.qP.ok uq (λvs H Q E h=>?_) (λiq Ar outer s H vs Q E hr h=>?_);obtain⟨k,g,n,f,rfl,_⟩:=h;rfl;obtain⟨k,g,n,f,rfl,KG,hf,q⟩:=h;obtain⟨uY,_⟩:=bD hf;refine⟨_,(ao (cj (i:=2) uq.nd rfl (bE rfl) (fq (d9 hr) (aT (pv 0) rfl) (pv 1) (λ_ _=>rfl))) (aD (bu (cv (ah (aT (pv 2) rfl) (ah (cM pR (by rfl) T.eG bz (ah (aT (pv 2) rfl) aw)) aw)))))),?_⟩;refine⟨_,rfl,_,_,_,_,_,rfl,KG.kept,T.aR,T.bH,rfl,_,rfl,_,_,rfl,KG.sJ hf,?_⟩;refine⟨_,rfl,_,_,_,_,_,rfl,(KG.fam f uY).obj,T.dB,T.gD,rfl,_,rfl,_,_,_,_,_,rfl,(KG.fam f uY).obj,T.dB,T.dI,rfl,_,_,rfl,(KG.fam f uY).yt,Yc,λp hp=>?_⟩;rw[ag];exact q p hp
def FA(t:fO):Sp:=λvs H Q _=>∃(k:aj) (b:bB) (g:G) (n:Int),vs=[.ref k,.int n]/\Rm t H k b g/\Sz b/\(∃f∈g.F,f.num=n)/\∀H' l,H l=ay->H' l=ae (.lst ((rL b n).map V.int))->bC H H'->Q (.ref l) H'
theorem FC(T:Txt w K mg t):dU P w K mg base kI 2 t.lA t.j' ["kept","number"] (FA t):=by
 refine T.x4.ok nu (λvs H Q E h=>?_) (λiq Ar outer s H vs Q E hr h=>?_);obtain⟨k,b,g,n,rfl,_⟩:=h;rfl
 ·obtain⟨k,b,g,n,rfl,⟨KG,A,ok⟩,sz,⟨f0,uZ,rfl⟩,q⟩:=h;have Nh:=sz.1;have J2:=sz.2;have B3:aM=16777216:=rfl;have hSH:=ZF A ok uZ;rw[<-CH A ok.fit uZ] at hSH;have hLN:=ZZ A ok uZ;have gf0:=cB ok.fit.lO uZ (x:=f0.num) rfl;have lk0:=A.A_ ok.fit uZ;refine⟨_,(ao (cj (i:=2) nu.nd rfl (bE rfl) (iO lS (cv (ah (pv 1) aw)) (bI (uO T) hr.mo rfl T.uJ T.qP.kp T.vB .nil bQ (ah (pv 0) (ah (pv 1) aw))))) (ao (cj (i:=3) nu.nd rfl (bE rfl) (TY (cX (pv 0) T.aR T.jV (jW T) hr.mo T.kN .nil bQ (ah (pv 1) aw)) (P8 IL aQ) (λ_ _ _ q=>⟨_,rfl,q⟩))) (ao (rZ dm (b_ FR (cM cq (by rfl) T.eG bz (ah (pv 3) aw)) aQ (ck _)) (ao (cj (i:=4) nu.nd rfl (bE rfl) (Tw b8 tD yh TB (pv 3))) (ao (cJ (tH b8 dQ eZ Vb (pv 2) (ah (pv 4) aw))) (aD (dr (b_ fC (eX vQ (pv 4) aQ (λ_ _=>rfl)) (dE rfl T.zI) (ck _)) (ao (cJ (tH b8 dQ eZ rC (pv 2) (ah (bI (uO T) hr.mo rfl T.uJ T.qP.kp T.vB .nil bQ (ah (pv 0) (ah (eX vQ (pv 4) aQ (λ_ _=>rfl)) aw))) aw))) (aD (cJ (tH b8 dQ eZ rC (pv 3) (ah (TY (cX (pv 0) T.aR T.jV (jW T) hr.mo T.kN .nil bQ (ah (eX vQ (pv 4) aQ (λ_ _=>rfl)) aw)) (P8 IL aQ) (λ_ _ _ q=>⟨_,rfl,q⟩)) aw))))) bY))))) (aD (bu (pv 2)))))),?_⟩;refine⟨_,rfl,AV,λp1 h1=>?_⟩;have s1:bC H (upd H p1 (.lst [V.int f0.num])):=bC.new h1;have e1:upd H p1 (.lst [V.int f0.num]) p1=ae (.lst [V.int f0.num]):=aq;generalize upd H p1 (.lst [V.int f0.num])=H1 at s1 e1;refine⟨_,rfl,_,rfl,k,g,f0.num,f0,rfl,(KG.same s1).r,gf0,λp2 h2=>?_⟩;have s2:bC H1 (upd H1 p2 (.lst [V.int f0.fN,V.int (f0.kids.length:Int)])):=bC.new h2;refine⟨p1,p2,_,_,rfl,rfl,s2 _ _ e1,aq,(by show 3<=aM;decide),λa ha=>?_⟩;have s3:=(s1.trans s2).trans (bC.new (o:= .lst ([V.int f0.num]++[V.int f0.fN,V.int (f0.kids.length:Int)])) ha);have haH:H a=ay:=cY (s1.trans s2) ha;have ea:upd (upd H1 p2 (.lst [V.int f0.fN,V.int (f0.kids.length:Int)])) a (.lst ([V.int f0.num]++[V.int f0.fN,V.int (f0.kids.length:Int)])) a=ae (.lst ([f0.num,f0.fN,(f0.kids.length:Int)].map V.int)):=aq;generalize upd (upd H1 p2 (.lst [V.int f0.fN,V.int (f0.kids.length:Int)])) a (.lst ([V.int f0.num]++[V.int f0.fN,V.int (f0.kids.length:Int)]))=H3 at s3 ea;refine⟨_,rfl,_,_,_,rfl,(KG.same s3).kept,rfl,_,rfl,k,g,f0.num,f0,rfl,(KG.same s3).r,gf0,(ok.fit.fam f0 uZ).A9,(by omega),λH4 l ks hl el eks hks s4=>?_⟩;refine⟨l,_,rfl,dS.of el,λd hd=>?_⟩;have s5:bC H4 (upd H4 d (.lst (ks.map λc=>V.ref c.tp).reverse)):=bC.new hd;have ed:upd H4 d (.lst (ks.map λc=>V.ref c.tp).reverse) d=ae (.lst (ks.reverse.map λc=>V.ref c.tp)):=by rw[aq,gy]
  have hdn:H d=ay:=cY (s3.trans s4) hd;have hda:d≠a:=λz=>by rw[z,s4 _ _ ea] at hd;cases hd
  generalize upd H4 d (.lst (ks.map λc=>V.ref c.tp).reverse)=H5 at s5 ed;have ea5:=s5 _ _ (s4 _ _ ea);have s0:=(s3.trans s4).trans s5;have ajV:∀c∈ks,rI H5 c:=λc hc=>s5 _ _ (hks c hc);have hSk:=Ed A ok uZ;show rY _ _ _ [ae (.ref k),ae (.int f0.num),ae (.ref a),ae (.ref d),ay] H5;refine AG (λm σ H'=>∃(out:List Int) (cs:List GC) (v:Option V),σ=[ae (.ref k),ae (.int f0.num),ae (.ref a),ae (.ref d),v]/\H' a=ae (.lst (out.map V.int))/\H' d=ae (.lst (cs.map λc=>V.ref c.tp))/\(∀c∈cs,rI H' c/\xG g (d_ c))/\out++(cs.reverse.map d_).flatMap (xf b)=rL b f0.num/\m=((cs.map d_).map (Hr b)).sum/\m<=Mb b f0.num/\bC H H') (((ks.reverse.map d_).map (Hr b)).sum) ⟨[f0.num,f0.fN,(f0.kids.length:Int)],ks.reverse,ay,rfl,ea5,ed,?_,?_,rfl,?_,s0⟩ ?_;intro c hc;have vM:=HV.mp hc;refine⟨ajV c vM,CJ ok.fit uZ _ ?_⟩;rw[<-eks];exact aA.mpr ⟨c,vM,rfl⟩;rw[Bj,eks,O7 A ok uZ];rfl;rw[gy,eks,gy,sW,hSk];omega
  ·rintro m σ H' ⟨out,cs,v,rfl,ha',Wb,Xv,Uq,rfl,hm,sm⟩;have ajO:out.length<=(rL b f0.num).length:=by rw[<-Uq,aK];omega
   refine⟨_,rfl,_,_,rfl,.inl (dS.of Wb),_,_,rfl,rfl,_,rfl,?_⟩;rw[ag];refine cN (λc1=>?_) (λc1=>?_)
   ·have TR:0<cs.length:=by have:=aY c1;omega
    obtain⟨r,c,rfl⟩:=VB TR;obtain⟨htr,hit⟩:=Xv c (by simp);have ya:out++(xf b (d_ c)++(r.reverse.map d_).flatMap (xf b))=rL b f0.num:=by
     rw[<-Uq,ud,az,fZ];simp
    have hms:(((r++[c]).map d_).map (Hr b)).sum=((r.map d_).map (Hr b)).sum+Hr b (d_ c):=by
     rw[az,az,jI];simp
    have Rg:((r.map d_).map (Hr b)).sum+Hr b (d_ c)<=Mb b f0.num:=by rw[<-hms];exact hm
    have hrl:=Fz A ok (l:=r.map d_) λq hq=>by
     obtain⟨c',vM,rfl⟩:=aA.mp hq;exact(Xv c' (by simp[vM])).2
    rw[ag] at hrl;rw[hms];refine⟨_,λσ' H' z=>z,?_⟩;refine⟨_,rfl,.inl ⟨rfl,_,dS.of Wb⟩,d,_,_,rfl,rfl,Wb,(by rw[az];exact OZ _ _),?_⟩;have edl:((r++[c]).map λc=>V.ref c.tp).dropLast=r.map λc=>V.ref c.tp:=by rw[az];simp
    rw[edl];have nda:a≠d:=hda.symm;have ha2:upd H' d (.lst (r.map λc=>V.ref c.tp)) a=ae (.lst (out.map V.int)):=aO ha' nda;have hd2:upd H' d (.lst (r.map λc=>V.ref c.tp)) d=ae (.lst (r.map λc=>V.ref c.tp)):=aq;have ht2:∀c'∈r++[c],rI (upd H' d (.lst (r.map λc=>V.ref c.tp))) c':=λc' vM=>aO (Xv c' vM).1 (gg (Xv c' vM).1 Wb nofun);have sm2:bC H (upd H' d (.lst (r.map λc=>V.ref c.tp))):=λb o e=>aO (sm b o e) (aI e hdn);generalize upd H' d (.lst (r.map λc=>V.ref c.tp))=H2 at ha2 hd2 ht2 sm2;have htc:=ht2 c (by simp);have eBL:xf b (d_ c)=[c.cf,c.sort,c.id]++(xf b (d_ c)).drop 3/\3<=(xf b (d_ c)).length:=by
     obtain z|⟨z,h,hh,eh⟩:=hit
     ·have z':c.sort=0:=z;have:xf b (d_ c)=[c.cf,0,c.id]:=by
       show c.cf::(if c.sort=1 then 1::rL b c.id else[0,c.id])=_;rw[aX (by omega)]
      rw[this,z'];exact⟨rfl,by simp⟩
     ·have z':c.sort=1:=z;have eh':h.num=c.id:=eh;have:xf b (d_ c)=c.cf::1::c.id::h.fN::(h.kids.length:Int)::(h.kids.map d_).flatMap (xf b):=by
       show c.cf::(if c.sort=1 then 1::rL b c.id else[0,c.id])=_;rw[bw z',<-eh',O7 A ok hh]
      rw[this,z'];exact⟨rfl,by simp⟩
    have lo2:out.length+3<=(rL b f0.num).length:=by
     rw[<-ya,aK,aK];have:=eBL.2;omega
    refine⟨_,rfl,.inl ⟨rfl,_,dS.of ha2⟩,_,rfl,a,_,_,_,rfl,rfl,ha2,n9.of htc,(by rw[ag];show _+3<=_;omega),?_⟩;have eo3:out.map V.int++[V.int c.cf,V.int c.sort,V.int c.id]=(out++[c.cf,c.sort,c.id]).map V.int:=by rw[az];rfl
    rw[eo3];have ha3:upd H2 a (.lst ((out++[c.cf,c.sort,c.id]).map V.int)) a=ae (.lst ((out++[c.cf,c.sort,c.id]).map V.int)):=aq;have hd3:upd H2 a (.lst ((out++[c.cf,c.sort,c.id]).map V.int)) d=ae (.lst (r.map λc=>V.ref c.tp)):=aO hd2 hda;have ht3:∀c'∈r++[c],rI (upd H2 a (.lst ((out++[c.cf,c.sort,c.id]).map V.int))) c':=λc' vM=>aO (ht2 c' vM) (gg (ht2 c' vM) ha2 nofun);have sm3:bC H (upd H2 a (.lst ((out++[c.cf,c.sort,c.id]).map V.int))):=λb o e=>aO (sm2 b o e) (aI e haH);generalize upd H2 a (.lst ((out++[c.cf,c.sort,c.id]).map V.int))=H6 at ha3 hd3 ht3 sm3;have agA:=ht3 c (by simp);refine⟨_,rfl,_,_,_,_,rfl,rfl,n9.of agA,cQ (j:=1) (v:=V.int c.sort) rfl,rfl,_,rfl,?_⟩;refine cN (λc2=>?_) (λc2=>?_)
    ·have es:c.sort=1:=V.int.inj (aY c2);obtain⟨f,hf,ef⟩:∃f∈g.F,f.num=c.id:=by
      obtain z|⟨_,z⟩:=hit
      exact bM (show(0:Int)=1 from z.symm.trans es) (by decide);exact z
     have eB:xf b (d_ c)=[c.cf,c.sort,c.id]++([f.fN,(f.kids.length:Int)]++(f.kids.map d_).flatMap (xf b)):=by
      show c.cf::(if c.sort=1 then 1::rL b c.id else[0,c.id])=_;rw[bw es,<-ef,O7 A ok hf,es];rfl
     have eS:Hr b (d_ c)=Mb b c.id:=bw es;have hsk:=Ed A ok hf;rw[ef] at hsk;rw[eB] at ya;have lo5:out.length+5<=(rL b f0.num).length:=by
      rw[<-ya,aK,aK,aK,aK];show out.length+5<=out.length+(3+(2+_)+_);omega
     have KR3:eI t H6 k g:=(KG.same sm3).r;have lk:=A.A_ ok.fit hf;have gfc:=cB ok.fit.lO hf ef;refine⟨_,rfl,.inl ⟨rfl,_,dS.of ha3⟩,_,rfl,_,rfl,_,_,_,_,rfl,rfl,n9.of agA,cQ (j:=2) (v:=V.int c.id) rfl,k,g,c.id,f,rfl,KR3,gfc,λp7 h7=>?_⟩;have s7:bC H6 (upd H6 p7 (.lst [V.int f.fN,V.int (f.kids.length:Int)])):=bC.new h7;refine⟨a,p7,_,_,rfl,rfl,s7 _ _ ha3,aq,(by rw[ag,aK];show _+3+2<=_;omega),?_⟩;have n7:a≠p7:=aI ha3 h7;have eo5:(out++[c.cf,c.sort,c.id]).map V.int++[V.int f.fN,V.int (f.kids.length:Int)]=(out++[c.cf,c.sort,c.id]++[f.fN,(f.kids.length:Int)]).map V.int:=by rw[az (l₂:=[f.fN,(f.kids.length:Int)])];rfl
     rw[eo5];have ha8:upd (upd H6 p7 (.lst [V.int f.fN,V.int (f.kids.length:Int)])) a (.lst ((out++[c.cf,c.sort,c.id]++[f.fN,(f.kids.length:Int)]).map V.int)) a=ae (.lst ((out++[c.cf,c.sort,c.id]++[f.fN,(f.kids.length:Int)]).map V.int)):=aq;have k8:∀b o,H6 b=ae o->b≠a->upd (upd H6 p7 (.lst [V.int f.fN,V.int (f.kids.length:Int)])) a (.lst ((out++[c.cf,c.sort,c.id]++[f.fN,(f.kids.length:Int)]).map V.int)) b=ae o:=λb o e n=>aO (s7 b o e) n;generalize upd (upd H6 p7 (.lst [V.int f.fN,V.int (f.kids.length:Int)])) a (.lst ((out++[c.cf,c.sort,c.id]++[f.fN,(f.kids.length:Int)]).map V.int))=H8 at ha8 k8;have hd8:=k8 _ _ hd3 hda;have ht8:∀c'∈r++[c],rI H8 c':=λc' vM=>k8 _ _ (ht3 c' vM) (gg (ht3 c' vM) ha3 nofun);have sm8:bC H H8:=λb o e=>k8 _ _ (sm3 b o e) (aI e haH);have KR8:eI t H8 k g:=(KG.same sm8).r;refine⟨_,rfl,.inl ⟨rfl,_,dS.of hd8⟩,_,rfl,_,_,_,rfl,KR8.kept,rfl,_,rfl,_,_,_,_,rfl,rfl,n9.of (ht8 c (by simp)),cQ (j:=2) (v:=V.int c.id) rfl,?_⟩;refine⟨k,g,c.id,f,rfl,KR8,gfc,(ok.fit.fam f hf).A9,(by omega),λH9 l9 ks9 hl9 el9 ab3 ajX s9=>?_⟩;refine⟨l9,_,rfl,dS.of el9,λl2 qZ=>?_⟩;have s4:bC H9 (upd H9 l2 (.lst (ks9.map λc=>V.ref c.tp).reverse)):=bC.new qZ;have vZ:upd H9 l2 (.lst (ks9.map λc=>V.ref c.tp).reverse) l2=ae (.lst (ks9.reverse.map λc=>V.ref c.tp)):=by rw[aq,gy]
     generalize upd H9 l2 (.lst (ks9.map λc=>V.ref c.tp).reverse)=Hx at s4 vZ;have hd4:=s4 _ _ (s9 _ _ hd8);have lks:=da gE ab3;rw[ag,ag] at lks;refine⟨d,l2,_,_,rfl,rfl,hd4,vZ,(by rw[ag,ag,oS];omega),?_⟩;have rk:(ks9.reverse.map d_)=(f.kids.map d_).reverse:=by rw[gy,ab3]
     have all:∀c'∈r++ks9.reverse,rI (upd Hx d (.lst ((r.map λc=>V.ref c.tp)++ks9.reverse.map λc=>V.ref c.tp))) c'/\xG g (d_ c'):=λc' vM=>by
      have h4:rI Hx c'/\xG g (d_ c'):=by
       obtain z|z:=aP.mp vM
       exact⟨s4 _ _ (s9 _ _ (ht8 c' (by simp[z]))),(Xv c' (by simp[z])).2⟩;have z':=HV.mp z;refine⟨s4 _ _ (ajX c' z'),CJ ok.fit hf _ ?_⟩;rw[<-ab3];exact aA.mpr ⟨c',z',rfl⟩
      exact⟨aO h4.1 (gg h4.1 hd4 nofun),h4.2⟩
     refine⟨(((r++ks9.reverse).map d_).map (Hr b)).sum,?_,out++[c.cf,c.sort,c.id]++[f.fN,(f.kids.length:Int)],r++ks9.reverse,_,rfl,aO (s4 _ _ (s9 _ _ ha8)) nda,?_,all,?_,rfl,?_,λb o e=>aO (s4 _ _ (s9 _ _ (sm8 b o e))) (aI e hdn)⟩;rw[az,az,jI,rk,gy,sW,eS,hsk];omega;rw[aq,az];rw[ud,Bj,az,fZ,ab3];rw[<-ya];simp only[dJ];rw[az,az,jI,rk,gy,sW];rw[eS,hsk] at Rg;omega
    ·have es:c.sort=0:=by
      obtain z|⟨z,_⟩:=hit
      exact z;exact bM (show decide (V.int c.sort=V.int 1)=true from by rw[show c.sort=1 from z];rfl) c2
     have eB:xf b (d_ c)=[c.cf,c.sort,c.id]:=by
      show c.cf::(if c.sort=1 then 1::rL b c.id else[0,c.id])=_;rw[aX (by omega),es]
     have eS:Hr b (d_ c)=3:=if_neg (by show ¬c.sort=1;omega);rw[eB] at ya;refine⟨((r.map d_).map (Hr b)).sum,by rw[eS];omega,out++[c.cf,c.sort,c.id],r,_,rfl,ha3,hd3,λc' vM=>⟨ht3 c' (by simp[vM]),(Xv c' (by simp[vM])).2⟩,?_,rfl,by omega,sm3⟩;rw[dJ];exact ya
   ·have hz:cs=[]:=by
     cases cs with
     |nil=>rfl
     |cons x y=>exact bM (by show decide ((0:Int)<((y.length+1:Nat):Int))=true;exact bG (by omega)) c1
    subst hz;have eo:out=rL b f0.num:=by rw[<-Uq];simp
    subst eo;exact⟨_,rfl,q _ a haH ha' sm⟩
def allR(b:bB):bB×List Int:=(b,(b.next:Int)::(eC (lZ b)++eC (kx b)))
def RD(t:fO):Sp:=λvs H Q _=>∃(k:aj) (b:bB),vs=[.ref k]/\Kp t H k b/\Sz b/\bV t H k (allR b) Q
theorem RF(T:Txt w K mg t):dU P w K mg base kI 3 t.uC t.sy ["kept"] (RD t):=by
 refine T.JF.ok vx (λvs H Q E h=>?_) (λiq Ar outer s H vs Q E hr h=>?_);obtain⟨k,b,rfl,_⟩:=h;rfl
 ·obtain⟨k,b,rfl,kp,sz,q⟩:=h;obtain⟨g,KG,A,ok⟩:=id kp;have Nh:=sz.1;have J2:=sz.2;have B3:aM=16777216:=rfl;have lW:=Rm.Hk (H:=H) (k:=k) A ok sz;have hT:=Vw A ok;unfold allR at q;rw[A.VC ok.fit,Kt A ok] at q;rw[Kt A ok] at hT;refine⟨_,(ao (cj (i:=1) vx.nd rfl (bE rfl) (cv aw)) (ao (nM dm rfl (kH (bI (yc T) hr.mo rfl T.xZ T.uI.kp T.zD .nil bQ (ah (pv 0) aw))) (f6 (i:=2) vx.nd rfl (bE rfl)) (aD (cJ (tH b8 dQ eZ rC (pv 1) (ah (bI (FC T) hr.mo rfl T.E' T.x4.kp T.G3 .nil bQ (ah (pv 0) (ah (pv 2) aw))) aw))))) (ao (cj (i:=3) vx.nd rfl (bE rfl) (bI (yb T) hr.mo rfl T.xY T.uH.kp T.zC .nil bQ (ah (pv 0) aw))) (aD (bu (iO lS (iO lS (iO lS (cv (ah (aT (pv 0) rfl) (ah (cM cq (by rfl) T.eG bz (ah (pv 1) aw)) aw))) (pv 1)) (cv (ah (cM cq (by rfl) T.eG bz (ah (pv 3) aw)) aw))) (pv 3))))))),?_⟩;refine⟨cI _,λa ha=>?_⟩;have s1:bC H (upd H a (.lst [])):=bC.new ha;have ea:upd H a (.lst []) a=ae (.lst []):=aq;generalize upd H a (.lst [])=H1 at s1 ea;refine⟨_,rfl,k,b,g,rfl,⟨KG.same s1,A,ok⟩,sz,λH2 l hl el s2=>?_⟩;have nal:a≠l:=aI ea hl;refine⟨l,rfl,⟨_,dS.of el⟩,qc (K:=K) (a:=l) (xs:=(b.fams.filter u9).map λq=>V.int (q.num:Int)) (λi σ H'=>(∃v:Option V,σ=[ae (.ref k),ae (.ref a),v,ay])/\H' a=ae (.lst ((((b.fams.filter u9).take i).flatMap λq=>rL b (q.num:Int)).map V.int))/\H' l=ae (.lst ((b.fams.filter u9).map λq=>V.int (q.num:Int)))/\bC H H') ⟨⟨_,rfl⟩,s2 _ _ ea,el,s1.trans s2⟩ (λi σ H' _ ⟨_,_,e,_⟩=>dS.of e) ?_ ?_⟩
  ·rintro i y σ H' hi ⟨⟨v,rfl⟩,O1,PL,s3⟩;obtain⟨u,hu,rfl⟩:=tu hi;obtain⟨f,hf,rfl⟩:=(A.mF u).mp (aW.mp (bW hu)).1;have nn:=ok.fit.fe hf;have en:(((toF f).num:Nat):Int)=f.num:=by show((f.num.toNat:Nat):Int)=f.num;omega
   have hlen:((((b.fams.filter u9).take i).flatMap λq=>rL b (q.num:Int))++rL b ((toF f).num:Int)).length<=((b.fams.filter u9).flatMap λq=>rL b (q.num:Int)).length:=by
    have:(((b.fams.filter u9).take i).flatMap λq=>rL b (q.num:Int))++rL b ((toF f).num:Int)=(((b.fams.filter u9).take (i+1)).flatMap λq=>rL b (q.num:Int)):=by rw[take_snoc hu,fZ];simp
    rw[this]
    conv=>rhs;rw[<-List.take_append_drop (i+1) (b.fams.filter u9),fZ,aK]
    omega
   refine⟨_,rfl,.inl ⟨rfl,_,dS.of O1⟩,_,rfl,_,rfl,k,b,g,_,rfl,⟨KG.same s3,A,ok⟩,sz,⟨f,hf,en.symm⟩,λH4 p hp ep s4=>?_⟩;rw[aK] at hlen;refine⟨a,p,_,_,rfl,rfl,s4 _ _ O1,ep,(by rw[ag,ag];omega),⟨_,rfl⟩,?_,aO (s4 _ _ PL) (gA nal),λb o e=>aO (s4 _ _ (s3 b o e)) (aI e ha)⟩;rw[aq,take_snoc hu,fZ,az];simp
  rintro σ H' ⟨⟨v,rfl⟩,O1,PL,s3⟩;rw[ag,cE] at O1;generalize ((b.fams.filter u9).flatMap λq=>rL b (q.num:Int))=FO at O1 q hT;have pL:=KG.same s3;refine⟨_,rfl,k,g,rfl,pL,lW,λH4 wl hwl ewl s4=>?_⟩;have lwl:=xa g.W;generalize g.W.flatMap Kq=WO at ewl q lwl;have BX:=pL.same s4;have ea4:=s4 _ _ O1;refine⟨_,rfl,_,_,_,_,_,rfl,BX.kept,T.aR,T.ft,rfl,_,rfl,_,_,rfl,.inl (dS.of ea4),Yc,λp1 h1=>?_⟩;have s5:bC H4 (upd H4 p1 (.lst [V.int g.nx,V.int (((FO.map V.int).length:Nat):Int)])):=bC.new h1;refine⟨_,rfl,p1,a,_,_,rfl,rfl,aq,s5 _ _ ea4,(by rw[ag];show 2+_<=_;omega),λp2 h2=>?_⟩;have s6:bC (upd H4 p1 (.lst [V.int g.nx,V.int (((FO.map V.int).length:Nat):Int)])) (upd (upd H4 p1 (.lst [V.int g.nx,V.int (((FO.map V.int).length:Nat):Int)])) p2 (.lst ([V.int g.nx,V.int (((FO.map V.int).length:Nat):Int)]++FO.map V.int))):=bC.new h2;have e6:upd (upd H4 p1 (.lst [V.int g.nx,V.int (((FO.map V.int).length:Nat):Int)])) p2 (.lst ([V.int g.nx,V.int (((FO.map V.int).length:Nat):Int)]++FO.map V.int)) p2=ae (.lst ([V.int g.nx,V.int (((FO.map V.int).length:Nat):Int)]++FO.map V.int)):=aq;have s46:=s5.trans s6;generalize upd (upd H4 p1 (.lst [V.int g.nx,V.int (((FO.map V.int).length:Nat):Int)])) p2 (.lst ([V.int g.nx,V.int (((FO.map V.int).length:Nat):Int)]++FO.map V.int))=H6 at s46 e6;refine⟨_,rfl,_,_,rfl,.inl (dS.of (s46 _ _ ewl)),AV,λp3 h3=>?_⟩;have s7:bC H6 (upd H6 p3 (.lst [V.int (((WO.map V.int).length:Nat):Int)])):=bC.new h3;refine⟨p2,p3,_,_,rfl,rfl,s7 _ _ e6,aq,(by rw[aK,ag];show 2+_+1<=_;omega),λp4 h4=>?_⟩;have s8:bC (upd H6 p3 (.lst [V.int (((WO.map V.int).length:Nat):Int)])) (upd (upd H6 p3 (.lst [V.int (((WO.map V.int).length:Nat):Int)])) p4 (.lst ([V.int g.nx,V.int (((FO.map V.int).length:Nat):Int)]++FO.map V.int++[V.int (((WO.map V.int).length:Nat):Int)]))):=bC.new h4;have s48:=s46.trans (s7.trans s8);refine⟨_,rfl,p4,wl,_,_,rfl,rfl,aq,s48 _ _ ewl,(by rw[aK,aK,ag,ag];show 2+_+1+_<=_;omega),λp5 h5=>?_⟩;have s9:=(s3.trans s4).trans (s48.trans (bC.new (o:= .lst ([V.int g.nx,V.int (((FO.map V.int).length:Nat):Int)]++FO.map V.int++[V.int (((WO.map V.int).length:Nat):Int)]++WO.map V.int)) h5));refine q _ p5 (kp.same s9) (cY ((s3.trans s4).trans s48) h5) ?_ (xE.same s9);rw[aq,ag,ag,A.nx];unfold eC;simp only[aU,az,sU,Lb,dJ]
end
end
end wz
namespace wz
section
open Vbdeah (Bank Fam leList putList)
inductive CL:List Nat->Prop
 |p:CL [0]
 |f {ws:List (List Nat)}:(∀w∈ws,CL w)->CL (1::(ws.flatten++[2]))
theorem CL.head{w:List Nat}(h:CL w):∃a r,w=a::r/\a≠2:=by
 cases h with
 |p=>exact⟨0,[],rfl,by decide⟩
 |f _=>exact⟨1,_,rfl,by decide⟩
theorem FD{n:Nat}(IH:∀w w' r r':List Nat,CL w->CL w'->w.length<=n->w++r=w'++r'->w=w'/\r=r'):∀(ws Z0:List (List Nat)) (r r':List Nat),(∀w∈ws,CL w/\w.length<=n)->(∀w∈Z0,CL w)->ws.flatten++2::r=Z0.flatten++2::r'->ws=Z0/\r=r'
 |[],[],r,r',_,_,e=>⟨rfl,(hZ e).2⟩
 |[],a::t,r,r',_,h,e=>by
  obtain⟨x,y,rfl,n⟩:=(h a (aB ..)).head;exact bM (hZ e).1.symm n
 |a::t,[],r,r',h,_,e=>by
  obtain⟨x,y,rfl,n⟩:=(h a (aB ..)).1.head;exact bM (hZ e).1 n
 |a::t,a'::t',r,r',h,h',e=>by
  rw[FP,FP,dJ,dJ] at e;obtain⟨h1,h2⟩:=h a (aB ..);obtain⟨rfl,e2⟩:=IH a a' _ _ h1 (h' a' (aB ..)) h2 e;obtain⟨rfl,e3⟩:=FD IH t t' r r' (λw hw=>h w (aC _ hw)) (λw hw=>h' w (aC _ hw)) e2;exact⟨rfl,e3⟩
theorem Ku{w:List Nat}:∀{ws:List (List Nat)},w∈ws->w.length<=ws.flatten.length
 |a::t,h=>by
  rw[FP,aK];obtain rfl|h:=aF.mp h
  omega;have:=Ku h;omega
theorem RG:∀(n:Nat) (w w' r r':List Nat),CL w->CL w'->w.length<=n->w++r=w'++r'->w=w'/\r=r'
 |0,w,w',r,r',h,_,l,_=>by
  obtain⟨x,y,rfl,_⟩:=h.head;rw[aL] at l;omega
 |n+1,w,w',r,r',h,h',l,e=>by
  cases h with
  |p=>
   cases h' with
   |p=>exact⟨rfl,(hZ e).2⟩
   |f _=>exact bM (hZ e).1 (by decide)
  | @f ws hw=>
   cases h' with
   |p=>exact bM (hZ e).1 (by decide)
   | @f Z0 Ip=>
    have e2:(ws.flatten++[2])++r=(Z0.flatten++[2])++r':=(hZ e).2;rw[dJ,dJ] at e2;rw[aL,aK] at l;obtain⟨rfl,e3⟩:=FD (n:=n) (RG n) ws Z0 r r' (λw CB=>⟨hw w CB,by have:=Ku CB;omega⟩) Ip e2;exact⟨rfl,e3⟩
theorem Z1{ws Z0:List (List Nat)}(h:∀w∈ws,CL w)(h':∀w∈Z0,CL w)(e:1::(ws.flatten++[2])=1::(Z0.flatten++[2])):ws=Z0:=(FD (n:=ws.flatten.length) (λw w' r r' a b _ d=>RG _ w w' r r' a b (aJ _) d) ws Z0 [] [] (λw hw=>⟨h w hw,Ku hw⟩) h' (hZ e).2).1
theorem le_total:∀a b:List Nat,leList a b=true\/leList b a=true
 |[],_=> .inl rfl
 |_::_,[]=> .inr rfl
 |x::r,y::s=>by
  unfold leList;by_cases e:x=y;rw[if_pos e,if_pos e.symm];exact le_total r s;rw[if_neg e,if_neg (gA e),decide_eq_true_iff,decide_eq_true_iff];omega
theorem O8:∀a b:List Nat,leList a b=true->leList b a=true->a=b
 |[],[],_,_=>rfl
 |[],_::_,_,h=>by cases h
 |_::_,[],h,_=>by cases h
 |x::r,y::s,h1,h2=>by
  unfold leList at h1 h2;by_cases e:x=y;rw[if_pos e] at h1;rw[if_pos e.symm] at h2;rw[e,O8 r s h1 h2];rw[if_neg e,decide_eq_true_iff] at h1;rw[if_neg (gA e),decide_eq_true_iff] at h2;omega
theorem le_trans:∀a b c:List Nat,leList a b=true->leList b c=true->leList a c=true
 |[],_,_,_,_=>rfl
 |_::_,[],_,h,_=>by cases h
 |_::_,_::_,[],_,h=>by cases h
 |x::r,y::s,z::u,h1,h2=>by
  unfold leList at h1 h2⊢;by_cases e:x=y
  ·rw[bw e] at h1;by_cases e2:y=z;rw[bw e2] at h2;rw[bw (e.trans e2)];exact le_trans r s u h1 h2;rw[aX e2,bJ] at h2;rw[aX (by omega),bJ];omega
  ·rw[aX e,bJ] at h1;by_cases e2:y=z;rw[aX (by omega),bJ];omega;rw[aX e2,bJ] at h2;rw[aX (by omega),bJ];omega
theorem RH(a c:List Nat):∀l:List (List Nat),putList a (putList c l)=putList c (putList a l)
 |[]=>by
  show putList a [c]=putList c [a];unfold putList;by_cases h1:leList a c=true
  ·rw[bw h1];by_cases h2:leList c a=true;rw[bw h2,O8 _ _ h1 h2];rw[aX h2];rfl
  rw[aX h1,bw ((le_total a c).resolve_left h1)];rfl
 |m::r=>by
  by_cases h1:leList a m=true
  ·have ea:putList a (m::r)=a::m::r:=by rw[putList,bw h1]
   by_cases h2:leList c m=true
   ·have ec:putList c (m::r)=c::m::r:=by rw[putList,bw h2]
    rw[ea,ec];by_cases h3:leList a c=true
    ·rw[putList,bw h3];by_cases h4:leList c a=true;rw[putList,bw h4,O8 _ _ h3 h4];rw[putList,aX h4,ec]
    have h4:=(le_total a c).resolve_left h3;rw[putList,aX h3,ea,putList,bw h4]
   ·have ec:putList c (m::r)=m::putList c r:=by rw[putList,aX h2]
    rw[ea,ec,putList,bw h1,putList,aX λz=>h2 (le_trans _ _ _ z h1),ec]
  ·have ea:putList a (m::r)=m::putList a r:=by rw[putList,aX h1]
   by_cases h2:leList c m=true
   ·have ec:putList c (m::r)=c::m::r:=by rw[putList,bw h2]
    rw[ea,ec,putList,aX λz=>h1 (le_trans _ _ _ z h2),ea,putList,bw h2]
   ·have ec:putList c (m::r)=m::putList c r:=by rw[putList,aX h2]
    rw[ea,ec,putList,aX h1,putList,aX h2,RH a c r]
def Z2(l:List (List Nat)):List (List Nat):=l.foldl (λl s=>putList s l) []
theorem XB{l l':List (List Nat)}(p:l.Perm l'):∀acc,l.foldl (λl s=>putList s l) acc=l'.foldl (λl s=>putList s l) acc:=by
 induction p with
 |nil=>intro _;rfl
 |cons x _ ih=>intro acc;rw[cV,cV,ih]
 |swap x y l=>intro acc;rw[cV,cV,cV,cV,RH]
 |trans _ _ ih1 ih2=>intro acc;rw[ih1,ih2]
theorem Eg{p:List Nat}:∀{l:List (List Nat)},(putList p l).Perm (p::l)
 |[]=> .refl _
 |a::r=>by
  unfold putList;split;exact .refl _;exact(tM a Eg).trans (V' p a r)
theorem B4:∀{l acc:List (List Nat)},(l.foldl (λl k=>putList k l) acc).Perm (l++acc)
 |[],acc=> .refl _
 |a::r,acc=>by
  rw[cV];exact B4.trans ((xk r Eg).trans HS)
theorem uP{l:List (List Nat)}:(Z2 l).Perm l:=by
 have:=B4 (l:=l) (acc:=[]);rw[cD] at this;exact this
section
variable{g:G}{b:bB}
def CM(b:bB)(n:Int):List Nat:=jG b n.toNat
def Uv(b:bB)(f:GF):List (List Nat):=f.kids.map λc=>if c.sort=1 then CM b c.id else[0]
def uQ(c:GC):Bool:=decide (c.sort=1)
def jP(f:GF):List Int:=(f.kids.filter uQ).map (·.id)
theorem O9(A:fz g b)(ok:nP g){f:GF}(hf:f∈g.F):CM b f.num=1::((Z2 (Uv b f)).flatten++[2]):=ZE A ok hf
theorem RJ(A:fz g b)(ok:nP g):∀(n:Nat) {f:GF},f∈g.F->(g.nx -f.num).toNat<=n->CL (CM b f.num)
 |n,f,hf,hn=>by
  rw[O9 A ok hf];refine .f λw hw=>?_;obtain⟨c,hc,rfl⟩:=aA.mp (uP.mem_iff.mp hw);by_cases e:c.sort=1
  ·rw[bw e];obtain⟨h,hh,e1,e2,_⟩:=ok.fit.sub hf hc e;have l1:=(ok.fit.fe hh).2.2.2.2;have l2:=(ok.fit.fam h hh).lt;have l3:=(ok.fit.fam f hf).lt;cases n with
   |zero=>omega
   |succ n=>
    rw[<-e1];exact RJ A ok n hh (by omega)
  rw[aX e];exact .p
theorem RK(A:fz g b)(ok:nP g){f:GF}(hf:f∈g.F):∀w∈Uv b f,CL w:=λw hw=>by
 obtain⟨c,hc,rfl⟩:=aA.mp hw;by_cases e:c.sort=1;rw[bw e];obtain⟨h,hh,e1,_⟩:=ok.fit.sub hf hc e;rw[<-e1];exact RJ A ok _ hh (aJ _);rw[aX e];exact .p
theorem ab4(A:fz g b)(ok:nP g){f f':GF}(hf:f∈g.F)(dZ:f'∈g.F):CM b f.num=CM b f'.num↔(Uv b f).Perm (Uv b f'):=by
 rw[O9 A ok hf,O9 A ok dZ];constructor;intro e;have:=Z1 (λw hw=>RK A ok hf w (uP.mem_iff.mp hw)) (λw hw=>RK A ok dZ w (uP.mem_iff.mp hw)) e;exact uP.symm.trans ((List.Perm.of_eq this).trans uP);intro p;unfold Z2;rw[XB p]
theorem aet(A:fz g b)(ok:nP g){f:GF}(hf:f∈g.F):CM b f.num≠[0]:=by
 rw[O9 A ok hf];exact λe=>bM (hZ e).1 (by decide)
theorem RL(A:fz g b)(ok:nP g){f:GF}(hf:f∈g.F):(Uv b f).filter (λw=>decide (w≠[0]))=(jP f).map (CM b):=by
 unfold Uv jP;rw[hU,bx];have:f.kids.filter ((λw=>decide (w≠[0]))∘λc=>if c.sort=1 then CM b c.id else[0])=f.kids.filter uQ:=by
  refine d8 λc hc=>?_;show decide ((if c.sort=1 then CM b c.id else[0])≠[0])=decide (c.sort=1);by_cases e:c.sort=1;rw[if_pos e];obtain⟨h,hh,e1,_⟩:=ok.fit.sub hf hc e;rw[<-e1];have:=aet A ok hh;simp[this,e];rw[if_neg e];simp[e]
 rw[this];refine cu λc hc=>?_;have:=aY (aW.mp hc).2;show(if c.sort=1 then _ else _)=_;rw[bw this];rfl
theorem FE(b:bB):∀l:List GC,(l.map λc=>if c.sort=1 then CM b c.id else[0]).Perm (List.replicate (l.length -(l.filter uQ).length) [0]++(l.filter uQ).map λc=>CM b c.id)
 |[]=> .refl _
 |c::r=>by
  have ih:=FE b r;have hle:=bf uQ r;by_cases e:c.sort=1;rw[aU,bw e,b9,bw (show uQ c=true from bG e),aL,aL,aU,show r.length+1 -((r.filter uQ).length+1)=r.length -(r.filter uQ).length by omega];exact(tM _ ih).trans HS.symm;rw[aU,aX e,b9,aX (show ¬uQ c=true from λz=>e (aY z)),aL,show r.length+1 -(r.filter uQ).length=r.length -(r.filter uQ).length+1 by omega,List.replicate_succ,sU];exact tM _ ih
theorem FG(f:GF):(jP f).length<=f.kids.length:=by
 unfold jP;rw[ag];exact bf _ _
theorem XC(A:fz g b)(ok:nP g){f f':GF}(hf:f∈g.F)(dZ:f'∈g.F):CM b f.num=CM b f'.num↔f.kids.length -(jP f).length=f'.kids.length -(jP f').length/\((jP f).map (CM b)).Perm ((jP f').map (CM b)):=by
 rw[ab4 A ok hf dZ];constructor;intro p;have p2:=p.filter λw=>decide (w≠[0]);rw[RL A ok hf,RL A ok dZ] at p2;have l1:=p.length_eq;have l2:=p2.length_eq;unfold Uv at l1;rw[ag,ag] at l1 l2;exact⟨by omega,p2⟩;rintro ⟨e,p⟩;have h1:=FE b f.kids;have h2:=FE b f'.kids;unfold jP at e p;rw[ag,ag] at e;rw[bx,bx] at p;rw[e] at h1;exact h1.trans ((xk _ p).trans h2.symm)
theorem O_{γ:Type}{f:Int->γ}{δ:Type}{h:Int->δ}(S:Int->Prop)(hs:∀a c,S a->S c->f a=f c->h a=h c):∀(l l':List Int),(∀a∈l,S a)->(∀a∈l',S a)->(l.map f).Perm (l'.map f)->(l.map h).Perm (l'.map h)
 |[],l',_,_,p=>by
  have:=p.length_eq;cases l' with
  |nil=>exact .refl _
  |cons _ _=>rw[ag,ag] at this;cases this
 |a::r,l',hl,sZ,p=>by
  obtain⟨c,hc,e⟩:=aA.mp (p.mem_iff.mp (aB ..));have q:l'.Perm (c::l'.erase c):=List.perm_cons_erase hc;have p2:(r.map f).Perm ((l'.erase c).map f):=by
   have:=p.trans (q.map f);rw[aU,aU,e] at this;exact PZ this
  have ih:=O_ S hs r (l'.erase c) (λx hx=>hl x (aC _ hx)) (λx hx=>sZ x (List.mem_of_mem_erase hx)) p2;have e2:h a=h c:=hs a c (hl a (aB ..)) (sZ c hc) e.symm;rw[aU,e2];exact(tM _ ih).trans (q.map h).symm
def Eh(ix:Int->Int)(f:GF)(m:List Int):Prop:=∃ns:List Int,m=((f.kids.length:Int) -((jP f).length:Int))::ns/\ns.Perm ((jP f).map ix)/\ns.Pairwise (·<=·)
theorem aeu(A:fz g b)(ok:nP g){ix:Int->Int}{f f':GF}(hf:f∈g.F)(dZ:f'∈g.F)(S:Int->Prop)(hs:∀a c,S a->S c->(ix a=ix c↔CM b a=CM b c))(h1:∀a∈jP f,S a)(h2:∀a∈jP f',S a){m m':List Int}(hm:Eh ix f m)(Rg:Eh ix f' m'):m=m'↔CM b f.num=CM b f'.num:=by
 obtain⟨ns,rfl,p,s⟩:=hm;obtain⟨yN,rfl,p',s'⟩:=Rg;have k1:=FG f;have k2:=FG f';rw[XC A ok hf dZ];constructor;intro e;obtain⟨e1,e2⟩:=hZ e;subst e2;exact⟨by omega,O_ S (λa c x y z=>(hs a c x y).mp z) _ _ h1 h2 (p.symm.trans p')⟩;rintro ⟨e,q⟩;have q2:=O_ S (λa c x y z=>(hs a c x y).mpr z) _ _ h1 h2 q;rw[vD (p.trans (q2.trans p'.symm)) s s',show(f.kids.length:Int) -((jP f).length:Int)=(f'.kids.length:Int) -((jP f').length:Int) by omega]
theorem Eh.congr{ix RM:Int->Int}{f:GF}{m:List Int}(h:Eh ix f m)(e:∀a∈jP f,RM a=ix a):Eh RM f m:=by
 obtain⟨ns,rfl,p,s⟩:=h;exact⟨ns,rfl,by rw[cu e];exact p,s⟩
end
end
end wz
namespace wz
open PySem PySem.Spec PyProof.Rows L2
section
open Vbdeah (Bank Fam)
section
variable{P:bg}{w:cn}{K:au}{mg:Str->Option ax}{base:df}{t:fO}
def Pa(t:fO):Sp:=λvs H Q _=>∃(k sa:aj) (g:G) (n:Int) (f:GF) (kvs:List (Key×V)) (ix:Int->Int),vs=[.ref k,.int n,.ref sa]/\eI t H k g/\bj GF.num n g.F=ae f/\f.kids.length<=4000/\H sa=ae (.dK kvs)/\(∀c∈jP f,h8 kvs (.inl c)=ae (.int (ix c)))/\∀H' p m,H p=ay->H' p=ae (.tup (m.map V.int))->Eh ix f m->bC H H'->Q (.ref p) H'
theorem Pb(T:Txt w K mg t):dU P w K mg base kI 1 t.sE t.qC ["kept","number","shapes"] (Pa t):=by
 refine T.Gb.ok tQ (λvs H Q E h=>?_) (λiq Ar outer s H vs Q E hr h=>?_);obtain⟨k,sa,g,n,f,kvs,ix,rfl,_⟩:=h;rfl
 ·obtain⟨k,sa,g,n,f,kvs,ix,rfl,KG,hf,sz,hsa,hix,q⟩:=h;obtain⟨uY,_⟩:=bD hf;have B3:aM=16777216:=rfl;have F0:=KG.fam f uY;refine⟨_,(ao (cj (i:=3) tQ.nd rfl (bE rfl) (Y9 rfl (by rfl) T.abM boot_list (aT (fq (d9 hr) (aT (pv 0) rfl) (pv 1) (λ_ _=>rfl)) rfl))) (ao (C8 (i:=4) rfl tQ.nd rfl rfl (H_ rfl rfl rfl rfl) (kH (pv 3)) (n_ (N:=["kept","number","shapes","children","within","child"]) (sc:=a_ yW) (own:=[("child",5)]) (by decide+kernel)) (λ_ _ _ _ _=>(f6 (i:=5) tQ.nd rfl (bE rfl))) (λ_ _ _ _ _=>(vj (b_ fC (eX (Df (K:=K) rfl) (pv 5) aQ (λ_ _=>rfl)) (dE rfl T.zI) (ck _)))) (λ_ _ _ _ _=>(fq (d9 hr) (pv 2) (eX (Df (K:=K) rfl) (pv 5) aQ (λ_ _=>rfl)) (λ_ _=>rfl)))) (aD (bu (ER Lv (by rfl) T.Zu boot_tuple (ah (iO lS (cv (ah (iO Cg (cM cq (by rfl) T.eG bz (ah (pv 3) aw)) (cM cq (by rfl) T.eG bz (ah (pv 4) aw))) aw)) (cM Y5 (by rfl) T.Aw boot_sorted (ah (pv 4) aw))) aw)))))),?_⟩;refine⟨_,rfl,_,_,_,_,_,rfl,KG.kept,T.aR,T.bH,rfl,_,rfl,_,_,rfl,KG.sJ hf,_,_,_,_,_,rfl,F0.obj,T.dB,T.dI,rfl,f.ch,_,rfl,F0.yt,λl hl=>?_⟩;have s1:bC H (upd H l (.lst ((f.kids.map uX).map (·.2)))):=bC.new hl;have el:upd H l (.lst ((f.kids.map uX).map (·.2))) l=ae (.lst (f.kids.map λc=>V.ref c.tp)):=by rw[aq,bx];rfl
  generalize upd H l (.lst ((f.kids.map uX).map (·.2)))=H1 at s1 el;have fW:eI t H1 k g:=KG.lE (ib.same s1);refine⟨_,rfl,l,rfl,⟨_,dS.of el⟩,λD hD=>?_⟩;refine Am (K:=K) (a:=l) (xs:=f.kids.map λc=>V.ref c.tp) (λi H'=>H' D=ae (.lst (((f.kids.take i).filter uQ).map λc=>V.int (ix c.id)))/\bC H1 H') ⟨aq,bC.new hD⟩ (λi H' _ ⟨_,s2⟩=>dS.of (s2 _ _ el)) ?_ ?_
  ·rintro i y H' hi ⟨eD,s2⟩;obtain⟨c,hc,rfl⟩:=tu hi;have Oa:=bW hc;have gG:eI t H' k g:=fW.lE (ib.same s2);have OJ:=(gG.fam f uY).tup c Oa;refine⟨rfl,?_⟩;refine⟨_,rfl,_,_,_,_,rfl,rfl,n9.of OJ,at0,rfl,_,rfl,?_⟩;refine cN (λc1=>?_) (λc1=>?_)
   ·have e1:c.sort=1:=V.int.inj (aY c1);have l1:=AB (q:=uQ) (f:=λc:GC=>V.int (ix c.id)) (l:=f.kids) (i:=i);have hv:=hix c.id (aA.mpr ⟨c,aW.mpr ⟨Oa,bG e1⟩,rfl⟩);have dg:rD H' sa (.int c.id) (ae (.int (ix c.id))):=by
     have e:=rD.rd (k:= .inl c.id) (.inl (s2 _ _ (s1 _ _ hsa)));rw[hv] at e;exact e
    refine⟨_,rfl,_,rfl,_,_,_,_,rfl,rfl,n9.of OJ,at1,_,_,rfl,dg,_,eD,(by omega),?_,λb o e=>aO (s2 b o e) (aI e hD)⟩;rw[aq,lH hc,bw (show uQ c=true from bG e1)]
   have n1:¬uQ c=true:=λz=>c1 (by rw[aY z];exact bG rfl);refine⟨?_,s2⟩;rw[lH hc,aX n1,cD];exact eD
  ·rintro H' ⟨eD,s2⟩;rw[ag,cE] at eD;have eD':H' D=ae (.lst (((jP f).map ix).map V.int)):=by
    rw[eD];unfold jP;rw[bx,bx];rfl
   have aoN:=FG f;have PL:=s2 _ _ el;refine⟨_,rfl,_,_,rfl,.inl (dS.of PL),_,rfl,_,_,rfl,.inl (dS.of eD'),_,_,rfl,rfl,AV,λp1 h1=>?_⟩;rw[ag,ag,ag];have s3:bC H' (upd H' p1 (.lst [V.int ((f.kids.length:Int) -((jP f).length:Int))])):=bC.new h1;have e3:upd H' p1 (.lst [V.int ((f.kids.length:Int) -((jP f).length:Int))]) p1=ae (.lst [V.int ((f.kids.length:Int) -((jP f).length:Int))]):=aq;generalize upd H' p1 (.lst [V.int ((f.kids.length:Int) -((jP f).length:Int))])=H3 at s3 e3;refine⟨_,rfl,D,_,rfl,dS.of (s3 _ _ eD'),λns p2 hp hs h2=>?_⟩;have ln:=hp.length_eq;rw[ag] at ln;have s4:bC H3 (upd H3 p2 (.lst (ns.map V.int))):=bC.new h2;refine⟨p1,p2,_,_,rfl,rfl,s4 _ _ e3,aq,(by rw[ag];show 1+_<=_;omega),λp3 h3=>?_⟩;have s5:bC (upd H3 p2 (.lst (ns.map V.int))) (upd (upd H3 p2 (.lst (ns.map V.int))) p3 (.lst ([V.int ((f.kids.length:Int) -((jP f).length:Int))]++ns.map V.int))):=bC.new h3;refine⟨p3,_,rfl,.inl ⟨dS.of aq,λp4 h4=>?_⟩⟩;have s6:=(((s1.trans s2).trans s3).trans s4).trans s5;exact q _ p4 (((f.kids.length:Int) -((jP f).length:Int))::ns) (cY s6 h4) aq ⟨ns,rfl,hp,hs⟩ (s6.trans (bC.new h4))
def Mj(t:fO):Sp:=λvs H Q _=>∃(k:aj) (b:bB) (g:G),vs=[.ref k]/\Rm t H k b g/\Sz b/\∀H' sa kvs (ix:Int->Int),H sa=ay->H' sa=ae (.dK kvs)->(∀f∈g.F,h8 kvs (.inl f.num)=ae (.int (ix f.num)))->(∀f∈g.F,∀f'∈g.F,ix f.num=ix f'.num↔CM b f.num=CM b f'.num)->bC H H'->Q (.ref sa) H'
structure VG(g:G)(b:bB)(done:List Int)(kS:List (Key×V))(kK:List (List Key×V))(ix:Int->Int):Prop where
 val:∀n∈done,h8 kS (.inl n)=ae (.int (ix n))
 same:∀n∈done,∀m∈done,ix n=ix m↔CM b n=CM b m
 lt:∀n∈done,ix n<(kK.length:Int)
 key:∀f∈g.F,f.num∈done->∃m,Eh ix f m/\h8 kK (m.map cO)=ae (.int (ix f.num))
 VH:∀k v,h8 kK k=ae v->∃f∈g.F,f.num∈done/\∃m,Eh ix f m/\k=m.map cO/\v= .int (ix f.num)
 sub:∀f∈g.F,f.num∈done->∀a∈jP f,a∈done
 fam:∀n∈done,∃f∈g.F,f.num=n
 agB:kS.length<=done.length
 A_:kK.length<=done.length
theorem ab5{m m':List Int}(h:m.map (cO:Int->Key)=m'.map cO):m=m':=by
 induction m generalizing m' with
 |nil=>cases m' with
  |nil=>rfl
  |cons _ _=>cases h
 |cons a r ih=>cases m' with
  |nil=>cases h
  |cons c s=>
   obtain⟨h1,h2⟩:=hZ h;rw[ml h1,ih h2]
theorem VG.step{g:G}{b:bB}{done:List Int}{kS:List (Key×V)}{kK:List (List Key×V)}{ix:Int->Int}(I:VG g b done kS kK ix)(A:fz g b)(ok:nP g){f:GF}(hf:f∈g.F)(hn:f.num∉done)(hs:∀a∈jP f,a∈done){m:List Int}(hm:Eh ix f m){kK':List (List Key×V)}{i:Int}(h:(h8 kK (m.map cO)=ae (.int i)/\kK'=kK)\/(h8 kK (m.map cO)=ay/\i=(kK.length:Int)/\kK'=putK kK (m.map cO) (.int i))):∃RM,VG g b (done++[f.num]) (putK kS (.inl f.num) (.int i)) kK' RM:=by
 obtain⟨RM,old,new⟩:∃RM:Int->Int,(∀n∈done,RM n=ix n)/\RM f.num=i:=⟨λn=>if n=f.num then i else ix n,λn h=>aX λz=>hn (by rw[<-z];exact h),bw rfl⟩;have Z3:∀f'∈g.F,f'.num∈done->∀m',Eh ix f' m'->Eh RM f' m':=λf' dZ h' m' z=>z.congr λa ha=>old a (I.sub f' dZ h' a ha);have Z4:Eh RM f m:=hm.congr λa ha=>old a (hs a ha);have ac3:∀f'∈g.F,f'.num∈done->∀m',Eh ix f' m'->(m=m'↔CM b f.num=CM b f'.num):=λf' dZ h' m' z=>aeu A ok hf dZ (λa=>a∈done) (λa c ha hc=>I.same a ha c hc) hs (λa ha=>I.sub f' dZ h' a ha) hm z;have like:∀f'∈g.F,f'.num∈done->(i=ix f'.num↔CM b f.num=CM b f'.num):=λf' dZ h'=>by
  obtain⟨h1,_⟩|⟨h1,h2,_⟩:=h
  obtain⟨f1,Gc,hd1,m1,hm1,ek,ev⟩:=I.VH _ _ h1;have em:=ab5 ek;have ei:i=ix f1.num:=V.int.inj ev;have e1:=(ac3 f1 Gc hd1 m1 hm1).mp em;rw[ei,I.same _ hd1 _ h',e1]
  ·obtain⟨m',Rg,Yz⟩:=I.key f' dZ h';constructor;intro z;have:=I.lt _ h';omega;intro z;have em:=(ac3 f' dZ h' m' Rg).mpr z;rw[em,Yz] at h1;cases h1
 have ac5:∀n∈done,(i=ix n↔CM b f.num=CM b n):=λn Tb=>by
  obtain⟨f',dZ,e⟩:=I.fam n Tb;rw[<-e];exact like f' dZ (by rw[e];exact Tb)
 refine⟨RM,λn Tb=>?_,λn Tb n2 hn2=>?_,λn Tb=>?_,λf' dZ h'=>?_,λk v hv=>?_,λf' dZ h' a ha=>?_,λn Tb=>?_,?_,?_⟩
 ·rw[C9];obtain z|z:=aP.mp Tb
  have ne:n≠f.num:=λy=>hn (by rw[<-y];exact z);rw[aX λy=>ne (ml y),old n z];exact I.val n z;obtain rfl:=ai.mp z;rw[bw rfl,new]
 ·obtain z|z:=aP.mp Tb<;>obtain y|y:=aP.mp hn2
  rw[old _ z,old _ y];exact I.same _ z _ y;obtain rfl:=ai.mp y;rw[old _ z,new,eq_comm,ac5 n z,eq_comm];obtain rfl:=ai.mp z;rw[old _ y,new];exact ac5 n2 y;obtain rfl:=ai.mp z;obtain rfl:=ai.mp y;exact⟨λ_=>rfl,λ_=>rfl⟩
 ·obtain z|z:=aP.mp Tb
  ·rw[old n z];have:=I.lt n z;obtain⟨_,e⟩|⟨h1,h2,e⟩:=h
   rw[e];exact this;rw[e,Qp _ h1,aK];show _<((kK.length+1:Nat):Int);omega
  ·obtain rfl:=ai.mp z;rw[new];obtain⟨h1,e⟩|⟨h1,h2,e⟩:=h
   obtain⟨f1,Gc,hd1,m1,hm1,ek,ev⟩:=I.VH _ _ h1;rw[e,V.int.inj ev];exact I.lt _ hd1;rw[e,Qp _ h1,aK];show _<((kK.length+1:Nat):Int);omega
 ·have aj2:∀k v,h8 kK k=ae v->h8 kK' k=ae v:=λk v hv=>by
   obtain⟨_,e⟩|⟨h1,h2,e⟩:=h
   rw[e];exact hv;rw[e,C9];rw[aX λz=>by rw[z,h1] at hv;cases hv];exact hv
  obtain z|z:=aP.mp h'
  obtain⟨m',Rg,Yz⟩:=I.key f' dZ z;refine⟨m',Z3 f' dZ z m' Rg,?_⟩;rw[old _ z];exact aj2 _ _ Yz
  ·obtain rfl:=bh ok.fit.lO dZ hf (ai.mp z);refine⟨m,Z4,?_⟩;rw[new];obtain⟨h1,e⟩|⟨h1,h2,e⟩:=h
   rw[e];exact h1;rw[e,C9,bw rfl]
 ·have dn:f.num∈done++[f.num]:=bc _ (ai.mpr rfl);have back:h8 kK k=ae v->∃f'∈g.F,f'.num∈done++[f.num]/\∃m,Eh RM f' m/\k=m.map cO/\v= .int (RM f'.num):=λhv=>by
   obtain⟨f1,Gc,hd1,m1,hm1,ek,ev⟩:=I.VH _ _ hv;exact⟨f1,Gc,bO _ hd1,m1,Z3 f1 Gc hd1 m1 hm1,ek,by rw[old _ hd1];exact ev⟩
  obtain⟨_,e⟩|⟨h1,h2,e⟩:=h
  rw[e] at hv;exact back hv
  ·rw[e,C9] at hv;by_cases ek:k=m.map cO;rw[bw ek] at hv;exact⟨f,hf,dn,m,Z4,ek,by rw[new];exact(bF hv).symm⟩;rw[aX ek] at hv;exact back hv
 ·obtain z|z:=aP.mp h'
  exact bO _ (I.sub f' dZ z a ha);obtain rfl:=bh ok.fit.lO dZ hf (ai.mp z);exact bO _ (hs a ha)
 ·obtain z|z:=aP.mp Tb
  exact I.fam n z;exact⟨f,hf,(ai.mp z).symm⟩
 have:=se kS (.inl f.num) (.int i);have:=I.agB;rw[aK,Ag];omega
 ·have:=I.A_;rw[aK,Ag];obtain⟨_,e⟩|⟨h1,h2,e⟩:=h
  rw[e];omega;have:=se kK (m.map cO) (.int i);rw[e];omega
theorem Ml(T:Txt w K mg t):dU P w K mg base kI 2 t.qB t.oO ["kept"] (Mj t):=by
 refine T.DQ.ok oh (λvs H Q E h=>?_) (λiq Ar outer s H vs Q E hr h=>?_);obtain⟨k,b,g,rfl,_⟩:=h;rfl
 ·obtain⟨k,b,g,rfl,⟨KG,A,ok⟩,sz,q⟩:=h;have Nh:=sz.1;have J2:=sz.2;have B3:aM=16777216:=rfl;have lF:=A.Hi ok.fit;refine⟨_,(ao (cj (i:=1) oh.nd rfl (bE rfl) yL) (ao (cj (i:=2) oh.nd rfl (bE rfl) YT) (ao (nM dm rfl (kH (M3 (WC rfl) (by rfl) T.Aw boot_sorted (ah (aT (pv 0) rfl) aw) (UX II YG))) (f6 (i:=3) oh.nd rfl (bE rfl)) (ao (cj (i:=4) oh.nd rfl (bE rfl) (bI (Pb T) hr.mo rfl T.Ox T.Gb.kp T.Q0 .nil bQ (ah (pv 0) (ah (pv 3) (ah (pv 1) aw))))) (aD (An (d9 hr) (pv 1) (pv 3) (Y8 (d9 hr) (pv 2) (pv 4) (cM WU (by rfl) T.eG bz (ah (pv 2) aw)) ⟨rfl,rfl,rfl,rfl⟩) rfl)))) (aD (bu (pv 1)))))),?_⟩;refine λsa hsa=>?_;refine λka hka=>?_;have nsk:sa≠ka:=λz=>by rw[z,aq] at hka;cases hka
  have s1:bC H (upd (upd H sa (.dK [])) ka (.dT [])):=(bC.new hsa).trans (bC.new hka);have es:upd (upd H sa (.dK [])) ka (.dT []) sa=ae (.dK []):=aO aq nsk;have ek:upd (upd H sa (.dK [])) ka (.dT []) ka=ae (.dT []):=aq;have aj3:H ka=ay:=dY hka;generalize upd (upd H sa (.dK [])) ka (.dT [])=H1 at s1 es ek;have fW:=KG.same s1;refine⟨_,rfl,_,_,_,_,_,rfl,fW.kept,T.aR,T.bH,rfl,rfl,g.fa,_,g.F.map (·.num),rfl,.inl fW.fams,(by rw[bx,bx];rfl),λns l hp hs hl=>?_⟩;have s2:bC H1 (upd H1 l (.lst (ns.map V.int))):=bC.new hl;have el:upd H1 l (.lst (ns.map V.int)) l=ae (.lst (ns.map V.int)):=aq;generalize upd H1 l (.lst (ns.map V.int))=H2 at s2 el;have nls:l≠sa:=λz=>by rw[z,es] at hl;cases hl
  have nlk:l≠ka:=λz=>by rw[z,ek] at hl;cases hl
  have ndn:ns.Nodup:=hp.nodup_iff.mpr ok.fit.lO;have lns:ns.length=g.F.length:=by have:=hp.length_eq;rw[ag] at this;exact this
  refine⟨l,rfl,⟨_,dS.of el⟩,qc (K:=K) (a:=l) (xs:=ns.map V.int) (λi σ H'=>(∃v1 v2:Option V,σ=[ae (.ref k),ae (.ref sa),ae (.ref ka),v1,v2])/\(∃kS kK ix,VG g b (ns.take i) kS kK ix/\H' sa=ae (.dK kS)/\H' ka=ae (.dT kK))/\H' l=ae (.lst (ns.map V.int))/\bC H H') ⟨⟨_,_,rfl⟩,⟨[],[],λ_=>0,⟨by simp,by simp,by simp,by simp,λk v h=>(by cases h),by simp,by simp,by simp,by simp⟩,s2 _ _ es,s2 _ _ ek⟩,el,s1.trans s2⟩ (λi σ H' _ ⟨_,_,e,_⟩=>dS.of e) ?_ ?_⟩
  ·rintro i y σ H' hi ⟨⟨v1,v2,rfl⟩,⟨kS,kK,ix,I,NQ,ek'⟩,PL,s3⟩;obtain⟨n,hn,rfl⟩:=tu hi;obtain⟨f,hf,rfl⟩:=aA.mp (hp.mem_iff.mp (bW hn));obtain⟨hi1,hi2⟩:=dj.mp hn;have hnd:f.num∉ns.take i:=λz=>by
    obtain⟨j,hj,ej⟩:=n8.mp z;have:=(HL ndn).mp (ej.trans hi2.symm);omega
   have pL:=KG.same s3;have lK:=A.A_ ok.fit hf;have abA:∀a∈jP f,a∈ns.take i:=λa ha=>by
    obtain⟨c,hc,rfl⟩:=aA.mp ha;obtain⟨Oa,hcf⟩:=aW.mp hc;obtain⟨h',q_,e1,e2,_⟩:=ok.fit.sub hf Oa (aY hcf);have l1:=(ok.fit.fe q_).2.2.2.2;have Va:c.id∈ns:=hp.mem_iff.mpr (aA.mpr ⟨h',q_,e1⟩);obtain⟨j,hj,ej⟩:=List.getElem_of_mem Va;refine n8.mpr ⟨j,?_,ej⟩;have:j<i:=by
     obtain z|z|z:=Nat.lt_trichotomy j i
     exact z;subst z;omega;have:=List.pairwise_iff_getElem.mp hs i j hi1 hj z;omega
    omega
   refine⟨_,rfl,_,rfl,_,rfl,k,sa,g,f.num,f,kS,ix,rfl,pL.r,cB ok.fit.lO hf rfl,(by omega),NQ,λc hc=>I.val c (abA c hc),λH4 p m hp4 ep hm s4=>?_⟩;have es4:=s4 _ _ NQ;have ek4:=s4 _ _ ek';have lt:=I.A_;have ltS:=I.agB;rw[d6] at lt ltS;have Z5:ns.take (i+1)=ns.take i++[f.num]:=take_snoc hn;have ndp:p≠ka:=λz=>by rw[z,ek'] at hp4;cases hp4
   have eK:(m.map V.int)=(m.map (cO:Int->Key)).map kV:=by rw[bx];rfl
   rw[eK] at ep;refine⟨_,rfl,ka,kK,rfl,ek4,_,rfl,_,rfl,ka,kK,rfl,ek4,p,m.map cO,rfl,ek4,ep,(by omega),λv hv=>?_,λhv=>?_⟩;obtain⟨f1,_,_,m1,_,_,ev⟩:=I.VH _ _ hv;subst ev;obtain⟨RM,I'⟩:=I.step A ok hf hnd abA hm (.inl ⟨hv,rfl⟩);refine⟨_,rfl,_,rfl,_,_,rfl,IX.k (k:=cO f.num) es4 (by omega),⟨_,_,rfl⟩,⟨_,kK,RM,by rw[Z5];exact I',aq,aO ek4 (gA nsk)⟩,aO (s4 _ _ PL) nls,λb o e=>aO (s4 _ _ (s3 b o e)) (aI e hsa)⟩;obtain⟨RM,I'⟩:=I.step A ok hf hnd abA hm (.inr ⟨hv,rfl,rfl⟩);refine⟨_,rfl,_,rfl,_,_,rfl,IX.k (k:=cO f.num) (aO es4 nsk) (by omega),⟨_,_,rfl⟩,⟨_,_,RM,by rw[Z5];exact I',aq,aO aq (gA nsk)⟩,aO (aO (s4 _ _ PL) nlk) nls,λb o e=>aO (aO (s4 _ _ (s3 b o e)) (aI e aj3)) (aI e hsa)⟩
  rintro σ H' ⟨⟨v1,v2,rfl⟩,⟨kS,kK,ix,I,NQ,ek'⟩,PL,s3⟩;rw[ag,cE] at I;have Va:∀f∈g.F,f.num∈ns:=λf hf=>hp.mem_iff.mpr (aA.mpr ⟨f,hf,rfl⟩);exact⟨_,rfl,q H' sa kS ix hsa NQ (λf hf=>I.val _ (Va f hf)) (λf hf f' dZ=>I.same _ (Va f hf) _ (Va f' dZ)) s3⟩
def Pg(b:bB)(n m:Int):bB×List Int:=(b,match b.fam n.toNat with
 |none=>[-6]
 |some v=>match b.fam m.toNat with
  |none=>[-6]
  |some u=>[if jG b v.num=jG b u.num then 1 else 0])
def Mm(t:fO):Sp:=λvs H Q _=>∃(k:aj) (b:bB) (n m:Int),vs=[.ref k,.int n,.int m]/\Kp t H k b/\Sz b/\0<n/\0<m/\bV t H k (Pg b n m) Q
theorem Mp(T:Txt w K mg t):dU P w K mg base kI 3 t.qA t.oN ["kept","number","other"] (Mm t):=by
 refine T.DP.ok BE (λvs H Q E h=>?_) (λiq Ar outer s H vs Q E hr h=>?_);obtain⟨k,b,x,y,rfl,_⟩:=h;rfl
 ·obtain⟨k,b,x,y,rfl,kp,sz,hx,hy,q⟩:=h;obtain⟨g,KG,A,ok⟩:=id kp;refine⟨_,(ao (dr (PW.pt (UO (kG (gC (d9 hr) (pv 1) (aT (pv 0) rfl))) (NS (kG (gC (d9 hr) (pv 2) (aT (pv 0) rfl)))))) (aD (bu (cv (ah (dE rfl T.kh) aw)))) bY) (ao (cj (i:=3) BE.nd rfl (bE rfl) (bI (Ml T) hr.mo rfl T.L5 T.DQ.kp T.Ow .nil bQ (ah (pv 0) aw))) (ao (dr (b_ fC (fq (d9 hr) (pv 3) (pv 1) (λ_ _=>rfl)) (fq (d9 hr) (pv 3) (pv 2) (λ_ _=>rfl)) (ck _)) (aD (bu (cv (ah aQ aw)))) bY) (aD (bu (cv (ah aQ aw))))))),?_⟩;unfold Pg at q;rw[A.fam ok.fit (by omega)] at q;refine⟨_,rfl,_,rfl,_,_,_,_,_,rfl,KG.kept,T.aR,T.bH,rfl,_,_,rfl,KG.r.Q9,_,rfl,?_⟩;rw[bZ];cases e1:bj GF.num x g.F with
  |none=>
   rw[e1] at q;exact N7 (q.err kp rfl)
  |some f=>
   rw[e1] at q;have q':bV t H k (b,match b.fam y.toNat with
    |none=>[-6]
    |some u=>[if jG b f.num.toNat=jG b u.num then 1 else 0]) Q:=q
   rw[A.fam ok.fit (by omega)] at q';refine⟨_,rfl,_,rfl,_,_,_,_,_,rfl,KG.kept,T.aR,T.bH,rfl,_,_,rfl,KG.r.Q9,_,rfl,?_⟩;rw[bZ];cases e2:bj GF.num y g.F with
   |none=>
    rw[e2] at q';exact q'.err kp rfl
   |some u=>
    rw[e2] at q';have q2:bV t H k (b,[if CM b f.num=CM b u.num then 1 else 0]) Q:=q';obtain⟨hf,ef⟩:=bD e1;obtain⟨hu,eu⟩:=bD e2;refine⟨_,rfl,k,b,g,rfl,⟨KG,A,ok⟩,sz,λH1 sa kvs ix hsa esa hv agC s1=>?_⟩;have dg:∀f∈g.F,rD H1 sa (.int f.num) (ae (.int (ix f.num))):=λf hf=>by
     have e:=rD.rd (k:= .inl f.num) (.inl esa);rw[hv f hf] at e;exact e
    have d1:=dg f hf;have d2:=dg u hu;rw[ef] at d1;rw[eu] at d2;refine⟨_,rfl,_,rfl,_,_,rfl,d1,_,rfl,_,rfl,_,_,rfl,d2,rfl,_,rfl,?_⟩;have aew:=agC f hf u hu;rw[ef,eu] at aew;refine cN (λc=>?_) (λc=>?_);have e:=V.int.inj (aY c);rw[ef,eu,bw (aew.mp e)] at q2;refine⟨AV,λp1 h1=>?_⟩;exact q2 _ p1 (kp.same (s1.trans (bC.new h1))) (cY s1 h1) aq (xE.same (s1.trans (bC.new h1)));have e:¬ix x=ix y:=λz=>c (by rw[z];exact bG rfl);rw[ef,eu,aX λz=>e (aew.mpr z)] at q2;refine⟨AV,λp1 h1=>?_⟩;exact q2 _ p1 (kp.same (s1.trans (bC.new h1))) (cY s1 h1) aq (xE.same (s1.trans (bC.new h1)))
end
end
section
variable{P:bg}{w:cn}{K:au}{mg:Str->Option ax}{base:df}{t:fO}
def XD:Sp:=λvs H Q _=>vs=[.bl true]/\Q .non H
theorem XE(T:Txt w K mg t):dU P w K mg base kI 1 t.wR t.tZ ["holds"] XD:=by
 refine T.jC.ok M7 (λvs H Q E h=>?_) (λiq Ar outer s H vs Q E hr h=>?_);obtain⟨rfl,_⟩:=h;rfl;obtain⟨rfl,q⟩:=h;refine⟨_,(aD (dr (vO (vN (pv 0))) (aD Ys) bY)),?_⟩;exact⟨_,rfl,_,rfl,q⟩
def Uw(t:fO):Sp:=λvs H Q E=>∃b,vs=[.bl b]/\(b=true->Q .non H)/\(b=false->E (.ref t.fD) ay H)
theorem jh(T:Txt w K mg t):dU P w K mg base (Ih P w t.fD) 1 t.wR t.tZ ["holds"] (Uw t):=by
 refine jn.okX T.jC M7 (λvs H Q E h=>?_) (λiq Ar outer s H vs Q E hr h=>?_);obtain⟨b,rfl,_⟩:=h;rfl
 ·obtain⟨b,rfl,q,e⟩:=h;refine⟨_,(aD (dr (vO (vN (pv 0))) (aD (Y4 T.M' PySem.F.excBase_Exception rfl T.JN (ah IJ aw))) bY)),?_⟩;cases b with
  |true=>exact⟨_,rfl,_,rfl,q rfl⟩
  |false=>exact⟨_,rfl,_,rfl,AV,e rfl⟩
def SQ(l:aj)(i:Int):List (Str×V):=[("numbers",.ref l),("spot",.int i)]
def xH(t:fO)(H:Hp)(r d l:aj)(i:Nat):Prop:=H r=ae (.ins t.du d (SQ l i))
structure Moved(t:fO)(H H':Hp)(r d l:aj)(i:Nat):Prop where
 at_:xH t H' r d l i
 keep:∀b o,H b=ae o->b≠r->H' b=ae o
theorem Moved.live{H H':Hp}{r d l:aj}{i:Nat}(m:Moved t H H' r d l i){b:aj}(h:H' b=ay):H b=ay:=by
 cases e:H b with
 |none=>rfl
 |some o=>
  by_cases hb:b=r;subst hb;rw[m.at_] at h;cases h;rw[m.keep b o e hb] at h;cases h
theorem Moved.trans{H H1 H2:Hp}{r d l:aj}{i j:Nat}(a:Moved t H H1 r d l i)(b:Moved t H1 H2 r d l j):Moved t H H2 r d l j:=⟨b.at_,λc o h n=>b.keep c o (a.keep c o h n) n⟩
theorem Moved.new{H H1:Hp}{r d l:aj}{i:Nat}(a:Moved t H H1 r d l i)(s:bC H1 H2):Moved t H H2 r d l i:=⟨s _ _ a.at_,λc o h n=>s _ _ (a.keep c o h n)⟩
theorem dS.keepR{H H':Hp}{l r C d:aj}{fs:List (Str×V)}{xs:List V}(hr:H r=ae (.ins C d fs))(k:∀b o,H b=ae o->b≠r->H' b=ae o)(h:dS K H l xs):dS K H' l xs:=by
 obtain(e|⟨o,e⟩)|z:=h
 exact .inl (.inl (k _ _ e (gg e hr nofun)));exact .inl (.inr ⟨o,k _ _ e (gg e hr nofun)⟩);exact .inr z
theorem Moved.seq{H H':Hp}{r d l l':aj}{i j:Nat}{xs:List V}(m:Moved t H H' r d l j)(hr:xH t H r d l i)(h:dS K H l' xs):dS K H' l' xs:=dS.keepR hr m.keep h
def Kv(t:fO):Sp:=λvs H Q _=>∃(r d l:aj),vs=[.ref r,.ref l]/\H r=ae (.ins t.du d [])/\Q .non (upd H r (.ins t.du d (SQ l 0)))
theorem uR(T:Txt w K mg t):dU P w K mg base kI 1 t.oz t.mI ["self","numbers"] (Kv t):=by
 refine T.LN.ok Jp (λvs H Q E h=>?_) (λiq Ar outer s H vs Q E hr h=>?_);obtain⟨r,d,l,rfl,_⟩:=h;rfl;obtain⟨r,d,l,rfl,hr0,q⟩:=h;refine⟨_,(ao (gP (pv 0) (pv 1) rfl) (aD (gP (pv 0) aQ rfl))),?_⟩;refine⟨_,rfl,_,rfl,_,_,_,_,rfl,hr0,T.dC,T.iC,(by show 0<1000;decide),?_⟩;refine⟨_,rfl,_,_,_,_,rfl,aq,T.dC,T.fP,(by show 1<1000;decide),?_⟩;rw[hJ];exact q
def Ba(t:fO)(K:au):Sp:=λvs H Q _=>∃(r d l:aj) (i:Nat) (ns:List Int),vs=[.ref r]/\xH t H r d l i/\dS K H l (ns.map V.int)/\Q (.bl (decide (ns.length<=i))) H
theorem nQ(T:Txt w K mg t):dU P w K mg base kI 1 t.jd t.iS ["self"] (Ba t K):=by
 refine T.Cv.ok AY (λvs H Q E h=>?_) (λiq Ar outer s H vs Q E hr h=>?_);obtain⟨r,d,l,i,ns,rfl,_⟩:=h;rfl;obtain⟨r,d,l,i,ns,rfl,hR,hl,q⟩:=h;refine⟨_,(aD (bu (jS acA (aT (pv 0) rfl) (cM cq (by rfl) T.eG bz (ah (aT (pv 0) rfl) aw)) (ck _)))),?_⟩;refine⟨_,rfl,_,_,_,_,_,rfl,hR,T.dC,T.fP,rfl,_,rfl,_,_,_,_,_,rfl,hR,T.dC,T.iC,rfl,_,_,rfl,.inl hl,_,_,rfl,rfl,?_⟩;rw[ag];have e:decide (((ns.length:Nat):Int)<=(i:Int))=decide (ns.length<=i):=decide_eq_decide.mpr ⟨λz=>by omega,λz=>by omega⟩;show Q (.bl (decide (((ns.length:Nat):Int)<=(i:Int)))) H;rw[e];exact q
theorem RN{ns:List Int}{i n:Nat}(h:i+n<=ns.length):Wl (ns.map V.int) (ae (i:Int)) (ae ((i:Int)+(n:Int)))=((ns.drop i).take n).map V.int:=by
 unfold Wl;have e:((i:Int)+(n:Int))=((i+n:Nat):Int):=by omega
 have h1:min i ns.length=i:=by omega
 have h2:min (i+n) ns.length=i+n:=by omega
 rw[e,HT.UY,HT.UY,ag,h1,h2,List.map_take,List.map_drop];congr 1;omega
theorem row_cond{ns:List Int}{i n:Nat}(h:i<=ns.length):decide ((n:Int)<=(((ns.map V.int).length:Nat):Int) -(i:Int))=decide (i+n<=ns.length):=by
 rw[ag];exact decide_eq_decide.mpr ⟨λz=>by omega,λz=>by omega⟩
def CN(t:fO)(K:au):Sp:=λvs H Q _=>∃(r d l:aj) (i n:Nat) (ns:List Int),vs=[.ref r,.int n]/\xH t H r d l i/\dS K H l (ns.map V.int)/\i+n<=ns.length/\∀H' p,H p=ay->H' p=ae (.lst (((ns.drop i).take n).map V.int))->Moved t H H' r d l (i+n)->Q (.ref p) H'
theorem pO(T:Txt w K mg t):dU P w K mg base kI 2 t.iB t.h_ ["self","length"] (CN t K):=by
 refine T.vA.ok kM (λvs H Q E h=>?_) (λiq Ar outer s H vs Q E hr h=>?_);obtain⟨r,d,l,i,n,ns,rfl,_⟩:=h;rfl
 ·obtain⟨r,d,l,i,n,ns,rfl,hR,hl,hz,q⟩:=h;refine⟨_,(ao (cJ (bI (XE T) hr.mo rfl T.ju T.jC.kp T.lD .nil bQ (ah (jS vh (pv 1) (iO Cg (cM cq (by rfl) T.eG bz (ah (aT (pv 0) rfl) aw)) (aT (pv 0) rfl)) (ck _)) aw))) (ao (cj (i:=2) kM.nd rfl (bE rfl) (Qe U0 (aT (pv 0) rfl) (HZ (aT (pv 0) rfl)) (HZ (iO yC (aT (pv 0) rfl) (pv 1))))) (ao (gP (pv 0) (iO yC (aT (pv 0) rfl) (pv 1)) rfl) (aD (bu (pv 2)))))),?_⟩;refine⟨_,rfl,_,rfl,_,_,_,_,_,rfl,hR,T.dC,T.iC,rfl,_,_,rfl,.inl hl,_,rfl,_,_,_,_,_,rfl,hR,T.dC,T.fP,rfl,_,_,rfl,rfl,_,_,rfl,rfl,?_⟩;refine⟨?_,?_⟩;show[V.bl (decide _)]=_;rw[row_cond (by omega),bG hz];refine⟨_,rfl,_,_,_,_,_,rfl,hR,T.dC,T.iC,rfl,_,rfl,_,_,_,_,_,rfl,hR,T.dC,T.fP,rfl,_,rfl,_,rfl,_,_,_,_,_,rfl,hR,T.dC,T.fP,rfl,_,rfl,_,_,rfl,rfl,_,rfl,_,_,rfl,hl,λp hp=>?_⟩;rw[RN hz];have XF:upd H p (.lst (((ns.drop i).take n).map V.int)) r=ae (.ins t.du d (SQ l i)):=aO hR (aI hR hp);refine⟨_,rfl,_,_,_,_,_,rfl,XF,T.dC,T.fP,rfl,_,rfl,_,_,rfl,rfl,_,rfl,_,_,_,_,rfl,XF,T.dC,T.fP,(by show 2<1000;decide),?_⟩;have npr:p≠r:=λz=>by rw[z,hR] at hp;cases hp
  refine⟨_,rfl,q _ p hp (aO aq npr) ⟨aq,λb o e nb=>aO (aO e (aI e hp)) nb⟩⟩
def Bb(t:fO)(K:au):Sp:=λvs H Q E=>∃(r d l:aj) (i n:Nat) (ns:List Int),vs=[.ref r,.int n]/\xH t H r d l i/\dS K H l (ns.map V.int)/\i<=ns.length/\(i+n<=ns.length->∀H' p,H p=ay->H' p=ae (.lst (((ns.drop i).take n).map V.int))->Moved t H H' r d l (i+n)->Q (.ref p) H')/\(¬i+n<=ns.length->E (.ref t.fD) ay H)
theorem nR(T:Txt w K mg t):dU P w K mg base (Ih P w t.fD) 2 t.iB t.h_ ["self","length"] (Bb t K):=by
 refine jn.okX T.vA kM (λvs H Q E h=>?_) (λiq Ar outer s H vs Q E hr h=>?_);obtain⟨r,d,l,i,n,ns,rfl,_⟩:=h;rfl
 ·obtain⟨r,d,l,i,n,ns,rfl,hR,hl,hi,q,qe⟩:=h;refine⟨_,(ao (cJ (bI (jh T) hr.mo rfl T.ju T.jC.kp T.lD .nil oa (ah (jS vh (pv 1) (iO Cg (cM cq (by rfl) T.eG bz (ah (aT (pv 0) rfl) aw)) (aT (pv 0) rfl)) (ck _)) aw))) (ao (cj (i:=2) kM.nd rfl (bE rfl) (Qe U0 (aT (pv 0) rfl) (HZ (aT (pv 0) rfl)) (HZ (iO yC (aT (pv 0) rfl) (pv 1))))) (ao (gP (pv 0) (iO yC (aT (pv 0) rfl) (pv 1)) rfl) (aD (bu (pv 2)))))),?_⟩;refine⟨_,rfl,_,rfl,_,_,_,_,_,rfl,hR,T.dC,T.iC,rfl,_,_,rfl,.inl hl,_,rfl,_,_,_,_,_,rfl,hR,T.dC,T.fP,rfl,_,_,rfl,rfl,_,_,rfl,rfl,?_⟩;refine⟨_,rfl,λhz=>?_,λhz=>?_⟩
  ·have hz:decide ((n:Int)<=(((ns.map V.int).length:Nat):Int) -(i:Int))=true:=hz;rw[row_cond hi] at hz;have hz:=aY hz;refine⟨_,rfl,_,_,_,_,_,rfl,hR,T.dC,T.iC,rfl,_,rfl,_,_,_,_,_,rfl,hR,T.dC,T.fP,rfl,_,rfl,_,rfl,_,_,_,_,_,rfl,hR,T.dC,T.fP,rfl,_,rfl,_,_,rfl,rfl,_,rfl,_,_,rfl,hl,λp hp=>?_⟩;rw[RN hz];have XF:upd H p (.lst (((ns.drop i).take n).map V.int)) r=ae (.ins t.du d (SQ l i)):=aO hR (aI hR hp);refine⟨_,rfl,_,_,_,_,_,rfl,XF,T.dC,T.fP,rfl,_,rfl,_,_,rfl,rfl,_,rfl,_,_,_,_,rfl,XF,T.dC,T.fP,(by show 2<1000;decide),?_⟩;have npr:p≠r:=λz=>by rw[z,hR] at hp;cases hp
   refine⟨_,rfl,q hz _ p hp (aO aq npr) ⟨aq,λb o e nb=>aO (aO e (aI e hp)) nb⟩⟩
  have hz:decide ((n:Int)<=(((ns.map V.int).length:Nat):Int) -(i:Int))=false:=hz;rw[row_cond hi] at hz;exact qe (of_decide_eq_false hz)
theorem Gp{ns:List Int}{i:Nat}{z:Int}(h:ns[i]? =ae z):((ns.drop i).take 1).map V.int=[V.int z]:=by
 rw[dj] at h;obtain⟨h1,h2⟩:=h;rw[NJ h1,h2];rfl
def CP(t:fO)(K:au):Sp:=λvs H Q _=>∃(r d l:aj) (i:Nat) (ns:List Int) (z:Int),vs=[.ref r]/\xH t H r d l i/\dS K H l (ns.map V.int)/\ns[i]? =ae z/\∀H',Moved t H H' r d l (i+1)->Q (.int z) H'
theorem uS(T:Txt w K mg t):dU P w K mg base kI 3 t.iA t.h9 ["self"] (CP t K):=by
 refine T.vz.ok uk (λvs H Q E h=>?_) (λiq Ar outer s H vs Q E hr h=>?_);obtain⟨r,d,l,i,ns,z,rfl,_⟩:=h;rfl;obtain⟨r,d,l,i,ns,z,rfl,hR,hl,hz,q⟩:=h;have hi:=(dj.mp hz).1;refine⟨_,(aD (bu (eX dH (cX (pv 0) T.dC T.ia (pO T) hr.mo T.iE .nil bQ (ah aQ aw)) aQ (λ_ _=>rfl)))),?_⟩;refine⟨_,rfl,_,_,_,rfl,hR,rfl,r,d,l,i,1,ns,rfl,hR,hl,(by omega),λH' p hp ep m=>?_⟩;rw[Gp hz] at ep;exact⟨_,_,_,_,rfl,rfl,dS.of ep,cQ (j:=0) (v:=V.int z) rfl,q _ m⟩
def Bc(t:fO)(K:au):Sp:=λvs H Q E=>∃(r d l:aj) (i:Nat) (ns:List Int),vs=[.ref r]/\xH t H r d l i/\dS K H l (ns.map V.int)/\i<=ns.length/\(∀z,ns[i]? =ae z->∀H',Moved t H H' r d l (i+1)->Q (.int z) H')/\(ns[i]? =ay->E (.ref t.fD) ay H)
theorem nS(T:Txt w K mg t):dU P w K mg base (Ih P w t.fD) 3 t.iA t.h9 ["self"] (Bc t K):=by
 refine jn.okX T.vz uk (λvs H Q E h=>?_) (λiq Ar outer s H vs Q E hr h=>?_);obtain⟨r,d,l,i,ns,rfl,_⟩:=h;rfl;obtain⟨r,d,l,i,ns,rfl,hR,hl,hi,q,qe⟩:=h;refine⟨_,(aD (bu (eX dH (cX (pv 0) T.dC T.ia (nR T) hr.mo T.iE .nil oa (ah aQ aw)) aQ (λ_ _=>rfl)))),?_⟩;refine⟨_,rfl,_,_,_,rfl,hR,rfl,r,d,l,i,1,ns,rfl,hR,hl,hi,λh1 H' p hp ep m=>?_,λh1=>qe (rV (by omega))⟩;obtain⟨z,hz⟩:∃z,ns[i]? =ae z:=⟨_,dz (by omega)⟩;rw[Gp hz] at ep;exact⟨_,_,_,_,rfl,rfl,dS.of ep,cQ (j:=0) (v:=V.int z) rfl,q z hz _ m⟩
inductive Gq(ns:List Int):Nat->List (List Int)->Nat->Prop
 |nil {i:Nat}:Gq ns i [] i
 |cons {i j n:Nat} {ls:List (List Int)}:ns[i]? =ae (n:Int)->i+1+n<=ns.length->Gq ns (i+1+n) ls j->Gq ns i ((ns.drop (i+1)).take n::ls) j
def z9(t:fO)(K:au):Sp:=λvs H Q _=>∃(r d l:aj) (i j n:Nat) (ns:List Int) (ls:List (List Int)),vs=[.ref r,.int n]/\xH t H r d l i/\dS K H l (ns.map V.int)/\Gq ns i ls j/\ls.length=n/\n<=2/\∀H' p (qs:List (aj×List Int)),H p=ay->H' p=ae (.lst (qs.map λq=>V.ref q.1))->(∀q∈qs,H q.1=ay/\H' q.1=ae (.lst (q.2.map V.int)))->qs.map (·.2)=ls->Moved t H H' r d l j->Q (.ref p) H'
theorem z_(T:Txt w K mg t):dU P w K mg base kI 4 t.iT t.iw ["self","how_many"] (z9 t K):=by
 refine T.A6.ok mr (λvs H Q E h=>?_) (λiq Ar outer s H vs Q E hr h=>?_);obtain⟨r,d,l,i,j,n,ns,ls,rfl,_⟩:=h;rfl
 ·obtain⟨r,d,l,i,j,n,ns,ls,rfl,hR,hl,L,rfl,hn,q⟩:=h;have B3:aM=16777216:=rfl;refine⟨_,(ao (cj (i:=2) mr.nd rfl (bE rfl) (cv aw)) (ao (nM dm rfl (Wf rfl T.Zr (ah (pv 1) aw)) (f6 (i:=3) mr.nd rfl (bE rfl)) (aD (cJ (tH b8 gb gF rA (pv 2) (ah (cX (pv 0) T.dC T.ia (pO T) hr.mo T.iE .nil bQ (ah (sd (pv 0) T.dC T.jf (uS T) hr.mo T.jD .nil bQ) aw)) aw))))) (aD (bu (pv 2))))),?_⟩;refine⟨cI _,λp hp=>?_⟩;have npr:p≠r:=λz=>by rw[z,hR] at hp;cases hp
  refine⟨_,rfl,_,rfl,(by omega),(by omega),?_⟩;refine Wh (lo:=0) (n:=ls.length) (λm σ H'=>∃(v:Option V) (i':Nat) (qs:List (aj×List Int)) (ls2:List (List Int)),σ=[ae (.ref r),ae (.int ls.length),ae (.ref p),v]/\Gq ns i' ls2 j/\qs.map (·.2)++ls2=ls/\qs.length=m/\H' p=ae (.lst (qs.map λq=>V.ref q.1))/\(∀q∈qs,H q.1=ay/\q.1≠p/\H' q.1=ae (.lst (q.2.map V.int)))/\xH t H' r d l i'/\∀b o,H b=ae o->b≠r->H' b=ae o) ⟨ay,i,[],ls,rfl,L,rfl,rfl,aq,by simp,aO hR (gA npr),λb o e _=>aO e (aI e hp)⟩ ?_ ?_
  ·rintro m σ H' hm ⟨v,i',qs,ls2,rfl,L2,els,lq,ep,hqs,XF,kp⟩;have sZ:=dS.keepR hR kp hl;cases L2 with
   |nil=>
    rw[cD] at els;have:=da gE els;rw[ag] at this;omega
   | @cons i' j n ls3 hz Va L3=>
    refine⟨_,rfl,.inl ⟨rfl,_,dS.of ep⟩,_,rfl,_,_,_,rfl,XF,rfl,_,rfl,_,_,_,rfl,XF,rfl,r,d,l,i',ns,_,rfl,XF,sZ,hz,λH2 m2=>?_⟩;refine⟨r,d,l,i'+1,n,ns,rfl,m2.at_,m2.seq XF sZ,Va,λH3 p3 hp3 ep3 m3=>?_⟩;have m13:=m2.trans m3;have n3p:p3≠p:=λz=>by rw[z,m2.keep _ _ ep npr] at hp3;cases hp3
    have Sq:=m13.keep _ _ ep npr;have ab7:H' p3=ay:=m2.live hp3;refine⟨p,_,_,rfl,rfl,Sq,(by rw[ag];omega),?_⟩;refine⟨_,i'+1+n,qs++[(p3,(ns.drop (i'+1)).take n)],ls3,rfl,L3,?_,by rw[aK,lq];rfl,?_,λq hq=>?_,aO m13.at_ (gA npr),λb o e nb=>aO (m13.keep _ _ (kp b o e nb) nb) (aI e hp)⟩;rw[az,dJ];exact els;rw[aq,az];rfl
    ·obtain z|z:=aP.mp hq
     ·obtain⟨a1,a2,a3⟩:=hqs q z;have nr:q.1≠r:=λz=>by rw[z,hR] at a1;cases a1
      exact⟨a1,a2,aO (m13.keep _ _ a3 nr) a2⟩
     ·obtain rfl:=ai.mp z;refine⟨?_,n3p,aO ep3 n3p⟩;cases e:H p3 with
      |none=>rfl
      |some o=>
       by_cases hb:p3=r;rw[hb,XF] at ab7;cases ab7;rw[kp p3 o e hb] at ab7;cases ab7
  ·rintro σ H' ⟨v,i',qs,ls2,rfl,L2,els,lq,ep,hqs,XF,kp⟩;have:ls2=[]:=by
    have:=da gE els;rw[aK,ag] at this;exact aV.mp (by omega)
   subst this;cases L2 with
   |nil=>exact⟨_,rfl,q H' p qs hp ep (λq hq=>⟨(hqs q hq).1,(hqs q hq).2.2⟩) (by rw[<-els,cD]) ⟨XF,kp⟩⟩
end
inductive W4 where
 |p|f|l|c
def W4.s:W4->Str
 | .p=>"person"
 | .f=>"family"
 | .l=>"place"
 | .c=>"count"
def W4.hi:W4->Int
 | .p=>1000000000
 | .f=>1000000000000000000
 | .l=>999
 | .c=>1000
def W4.lo:W4->Int
 | .l=>0
 |_=>1
def W4.ok(u:W4)(n:Int):Bool:=decide (u.lo<=n)&&decide (n<=u.hi)
def Hz:List (List W4):=[[.p],[.p],[.p],[.p],[.p,.f],[.p],[.p,.l,.c],[.p,.l,.c],[.p,.l,.l],[.p,.l],[.p],[.p],[.f],[.f],[.p],[.p,.p],[.f],[.f,.f],[],[.l],[],[],[.f],[],[]]
def lY(us:List W4)(ns:List Int):Bool:=(us.zip ns).all λq=>q.1.ok q.2
def nT(i:Nat):Nat:=if i=1 then 1 else if i=22 then 2 else 0
section
variable{P:bg}{w:cn}{K:au}{mg:Str->Option ax}{base:df}{t:fO}
theorem W4.lows(t:fO)(u:W4):h8 (Cp t) (.inr u.s)=ae (.int u.lo):=by cases u<;>rfl
theorem W4.highs(t:fO)(u:W4):h8 (zj t) (.inr u.s)=ae (.int u.hi):=by cases u<;>rfl
theorem Z6(T:Txt w K mg t):∀(i:Nat),i<25->∃a us,Hz[i]? =ae us/\h8 (zi t) (.inl (i:Int))=ae (.ref a)/\∀H:Hp,n9 K H a (us.map λu=>V.str u.s)
 |0,_=>⟨_,_,rfl,rfl,T.G5⟩
 |1,_=>⟨_,_,rfl,rfl,T.G6⟩
 |2,_=>⟨_,_,rfl,rfl,T.G7⟩
 |3,_=>⟨_,_,rfl,rfl,T.G8⟩
 |4,_=>⟨_,_,rfl,rfl,T.G9⟩
 |5,_=>⟨_,_,rfl,rfl,T.G_⟩
 |6,_=>⟨_,_,rfl,rfl,T.G'⟩
 |7,_=>⟨_,_,rfl,rfl,T.Hc⟩
 |8,_=>⟨_,_,rfl,rfl,T.Hd⟩
 |9,_=>⟨_,_,rfl,rfl,T.He⟩
 |10,_=>⟨_,_,rfl,rfl,T.Fb⟩
 |11,_=>⟨_,_,rfl,rfl,T.Fc⟩
 |12,_=>⟨_,_,rfl,rfl,T.Fd⟩
 |13,_=>⟨_,_,rfl,rfl,T.Fe⟩
 |14,_=>⟨_,_,rfl,rfl,T.Ff⟩
 |15,_=>⟨_,_,rfl,rfl,T.Fg⟩
 |16,_=>⟨_,_,rfl,rfl,T.Fh⟩
 |17,_=>⟨_,_,rfl,rfl,T.Fi⟩
 |18,_=>⟨_,_,rfl,rfl,T.Fj⟩
 |19,_=>⟨_,_,rfl,rfl,T.Fk⟩
 |20,_=>⟨_,_,rfl,rfl,T.Fm⟩
 |21,_=>⟨_,_,rfl,rfl,T.Fn⟩
 |22,_=>⟨_,_,rfl,rfl,T.Fo⟩
 |23,_=>⟨_,_,rfl,rfl,T.Fp⟩
 |24,_=>⟨_,_,rfl,rfl,T.Fq⟩
 |n+25,h=>bM h (by omega)
def Bd:Sp:=λvs H Q _=>∃(i:Nat) (us:List W4),vs=[.int i]/\i<25/\Hz[i]? =ae us/\Q (.int us.length) H
theorem Be(T:Txt w K mg t):dU P w K mg base kI 1 t.ja t.iP ["place"] Bd:=by
 refine T.uE.ok AX (λvs H Q E h=>?_) (λiq Ar outer s H vs Q E hr h=>?_);obtain⟨i,us,rfl,_⟩:=h;rfl;obtain⟨i,us,rfl,hi,hu,q⟩:=h;obtain⟨a,us',SN,hv,hT⟩:=Z6 T i hi;rw[hu] at SN;cases SN;refine⟨_,(aD (bu (cM cq (by rfl) T.eG bz (ah (Ig (Ea rfl T.BR) (pv 0) (λ_ _=>rfl)) aw)))),?_⟩;refine⟨_,rfl,_,_,cO (i:Int),_,rfl,T.BU _,rfl,hv,_,_,rfl,.inr (hT H),?_⟩;rw[ag];exact q
theorem Z7(t:fO)(i:Nat):(h8 (E3 t) (.inl (i:Int))).getD (.int 0)= .int (nT i):=by
 unfold nT E3;by_cases h1:i=1;rw[if_pos h1,h1];rfl
 ·by_cases h2:i=22;rw[aX h1,bw h2,h2];rfl;rw[aX h1,aX h2,jX (by intro z;have:=ml z;omega),jX (by intro z;have:=ml z;omega)];rfl
def Ei:Sp:=λvs H Q _=>∃(i:Nat),vs=[.int i]/\Q (.int (nT i)) H
theorem Ej(T:Txt w K mg t):dU P w K mg base kI 1 t.j4 t.jw ["place"] Ei:=by
 refine T.wX.ok Dr (λvs H Q E h=>?_) (λiq Ar outer s H vs Q E hr h=>?_);obtain⟨i,rfl,_⟩:=h;rfl;obtain⟨i,rfl,q⟩:=h;refine⟨_,(aD (bu (Y0 (Ea rfl T.Zo) (pv 0) aQ ⟨rfl,rfl,rfl,rfl⟩))),?_⟩;rw[<-Z7 t i] at q;exact⟨_,_,rfl,T.Zq _,_,rfl,cO (i:Int),rfl,q⟩
def HB:Sp:=λvs H Q _=>∃(i:Nat) (a:aj) (us:List W4) (ns:List Int),vs=[.int i,.ref a]/\i<25/\Hz[i]? =ae us/\H a=ae (.lst (ns.map V.int))/\ns.length=us.length/\∀H',bC H H'->Q (.bl (lY us ns)) H'
theorem Z8{us:List W4}{ns:List Int}{i:Nat}{u:W4}{n:Int}(h1:us[i]? =ae u)(h2:ns[i]? =ae n):(us.zip ns).take (i+1)=(us.zip ns).take i++[(u,n)]:=by
 refine take_snoc ?_;rw[NK];exact⟨h1,h2⟩
theorem HC(T:Txt w K mg t):dU P w K mg base kI 2 t.mw t.kX ["place","numbers"] HB:=by
 refine T.zk.ok tf (λvs H Q E h=>?_) (λiq Ar outer s H vs Q E hr h=>?_);obtain⟨i,a,us,ns,rfl,_⟩:=h;rfl
 ·obtain⟨i,a,us,ns,rfl,hi,hu,ha,hlen,q⟩:=h;obtain⟨ua,us',SN,hv,hT⟩:=Z6 T i hi;rw[hu] at SN;cases SN;refine⟨_,(ao (nM dm rfl (abB rfl T.aec (ah (Ig (Ea rfl T.BR) (pv 0) (λ_ _=>rfl)) (ah (pv 1) aw))) (Td rfl (wq (f6 (i:=2) tf.nd rfl (bE rfl)) (wq (f6 (i:=3) tf.nd rfl (bE rfl)) NT))) (aD (dr (vO (vN (bI (sQ T) hr.mo rfl T.sG T.rF.kp T.uF .nil bQ (ah (pv 2) (ah (pv 3) aw))))) (aD (bu II)) bY))) (aD (bu II))),?_⟩;refine⟨_,rfl,_,_,cO (i:Int),_,rfl,T.BU _,rfl,hv,_,rfl,ua,a,_,_,rfl,hT H,dS.of ha,?_⟩;refine As us.length (λj σ H'=>(∃v1 v2:Option V,σ=[ae (.int i),ae (.ref a),v1,v2])/\((us.zip ns).take j).all (λq=>q.1.ok q.2)=true/\bC H H') ⟨⟨ay,ay,rfl⟩,rfl,bC.refl _⟩ ?_ ?_
  ·rintro σ H' ⟨⟨v1,v2,rfl⟩,p8,s1⟩;refine⟨⟨_,_,hT H',dS.of (s1 _ _ ha),.inl (by rw[ag];exact aJ _)⟩,?_⟩;have e:lY us ns=true:=by
    unfold lY;rw[List.take_of_length_le (by rw[List.length_zip];omega)] at p8;exact p8
   have:=q H' s1;rw[e] at this;exact this
  ·rintro j σ H' hj ⟨⟨v1,v2,rfl⟩,p8,s1⟩;obtain⟨u,hu1⟩:∃u,us[j]? =ae u:=⟨_,dz hj⟩;obtain⟨n,hn1⟩:∃n,ns[j]? =ae n:=⟨_,dz (by omega)⟩;have ha':=s1 _ _ ha;refine⟨⟨_,_,V.str u.s,V.int n,hT H',dS.of ha',by rw[dh,hu1];rfl,by rw[dh,hn1];rfl⟩,?_⟩;rintro y H2 ⟨Tp,x,z,rfl,hTp,rfl,hx,hz⟩;have ex:=hx _ (hT H');have ez:=hz _ (dS.of ha');rw[dh,hu1] at ex;rw[dh,hn1] at ez;cases ex;cases ez;have s2:bC H' (upd H' Tp (.tup [V.str u.s,V.int n])):=bC.new hTp;refine⟨_,_,rfl,n9.of aq,rfl,_,_,rfl,_,_,rfl,rfl,?_⟩;refine⟨_,rfl,_,rfl,u.s,n,u.lo,u.hi,rfl,u.lows t,u.highs t,_,rfl,?_⟩;show if(!u.ok n)=true then _ else _
   cases e:u.ok n with
   |true=>
    refine⟨⟨_,_,rfl⟩,?_,s1.trans s2⟩;rw[Z8 hu1 hn1,La,p8];show(u.ok n&&true)=true;rw[e];rfl
   |false=>
    have e2:lY us ns=false:=by
     unfold lY;rw[Yn];refine⟨(u,n),?_,by show ¬u.ok n=true;rw[e];decide⟩;refine bW (i:=j) ?_;rw[NK];exact⟨hu1,hn1⟩
    have:=q _ (s1.trans s2);rw[e2] at this;exact this
end
section
open Vbdeah (Bank Fam)
def Core(t:fO):HO->Prop
 | .dK _=>True
 | .tup _=>True
 | .ins C _ _=>C=t.dW\/C=t.dw\/C=t.fU\/C=t.fb
 |_=>False
section
variable{t:fO}{H H':Hp}{k:aj}{g:G}
theorem cW.core(x:cW t H k g)(s:∀b o,H b=ae o->Core t o->H' b=ae o):cW t H' k g:=⟨s _ _ x.kept (.inl rfl),s _ _ x.people trivial,s _ _ x.fams trivial,s _ _ x.waits trivial,λp hp=>s _ _ (x.qQ p hp) (.inr (.inr (.inr rfl))),λf hf=>⟨s _ _ (x.fam f hf).obj (.inr (.inl rfl)),s _ _ (x.fam f hf).yt trivial,λc hc=>s _ _ ((x.fam f hf).tup c hc) trivial,(x.fam f hf).nd⟩,λw hw=>s _ _ (x.wait w hw) (.inr (.inr (.inl rfl))),x.Sy,x.Vi,x.Yd,x.Ye,x.SD,x.Nc,x.DT,x.Ik,x.xu,x.Il⟩
theorem cW.move(x:cW t H k g)(A:Apart t){k' d:aj}{fs:List (Str×V)}(hk:H k'=ae (.ins t.dW d fs)):cW t (upd H k' (.ins t.dW d (zJ g.pa g.fa g.wa g.nx))) k' {g with dk:=d}:=by
 have nd:∀{b:aj} {kv},H b=ae (.dK kv)->b≠k':=λh=>gg h hk nofun;have ni:∀{b:aj} {C d fs},H b=ae (.ins C d fs)->C≠t.dW->b≠k':=λh n=>gg h hk (by intro z;cases z;exact n rfl);refine⟨aq,aO x.people (nd x.people),aO x.fams (nd x.fams),aO x.waits (nd x.waits),λp h=>aO (x.qQ p h) (ni (x.qQ p h) A.pk),λf h=>?_,λw h=>aO (x.wait w h) (ni (x.wait w h) A.wk),x.Sy,x.Vi,x.Yd,x.Ye,x.SD,x.Nc,x.DT,x.Ik,x.xu,x.Il⟩;have z:=x.fam f h;exact⟨aO z.obj (ni z.obj A.fk),aO z.yt (nd z.yt),λc hc=>aO (z.tup c hc) (gg (z.tup c hc) hk nofun),z.nd⟩
theorem cK.dk(x:cK g)(d:aj):cK {g with dk:=d}:=⟨x.yE,x.lO,x.DT,x.nx,λp hp=>⟨(x.qV p hp).pos,(x.qV p hp).fam⟩,λf hf=>⟨(x.fam f hf).pos,(x.fam f hf).lt,(x.fam f hf).cf,(x.fam f hf).fN,(x.fam f hf).A9,(x.fam f hf).x_,(x.fam f hf).par⟩,λw hw=>⟨(x.t5 w hw).live,(x.t5 w hw).kind,(x.t5 w hw).place,(x.t5 w hw).num,(x.t5 w hw).one⟩⟩
theorem nP.dk(x:nP g)(d:aj):nP {g with dk:=d}:=⟨x.fit.dk d,x.ne,x.xD,x.Xh⟩
theorem fz.dk{b:bB}(A:fz g b)(d:aj):fz {g with dk:=d} b:=⟨A.sP,A.mP,A.sF,A.mF,A.W,A.nx⟩
theorem Moved.core{r d l:aj}{i j:Nat}(A:Apart t)(h:xH t H r d l i)(m:Moved t H H' r d l j):∀b o,H b=ae o->Core t o->H' b=ae o:=λb o e c=>by
 refine m.keep b o e λz=>?_;rw[z,h] at e;cases e;obtain c|c|c|c:=c
 exact A.rk c.symm;exact A.rf c.symm;exact A.rw c.symm;exact A.rp c.symm
structure Le(B H:Hp)(k:aj)(g:G):Prop where
 same:bC B H
 foot:∀b,L8 k g b->B b=ay
theorem Le.step{B:Hp}{g':G}(x:Le B H k g)(s:Step k g g' H H'):Le B H' k g':=by
 refine⟨λb o e=>s.keep b o (x.same b o e) λz=>?_,λb z=>?_⟩;rw[x.foot b z] at e;cases e
 ·obtain y|y:=s.foot b z
  exact x.foot b y;exact cY x.same y
theorem Le.moved{B:Hp}{r d l:aj}{j:Nat}(x:Le B H k g)(hr:B r=ay)(m:Moved t H H' r d l j):Le B H' k g:=⟨λb o e=>m.keep b o (x.same b o e) λz=>(by rw[z,hr] at e;cases e),x.foot⟩
theorem Le.upd{B:Hp}{a:aj}{o:HO}(x:Le B H k g)(ha:B a=ay):Le B (L2.upd H a o) k g:=⟨λb u e=>aO (x.same b u e) λz=>(by rw[z,ha] at e;cases e),x.foot⟩
theorem Le.new{B:Hp}(x:Le B H k g)(s:bC H H'):Le B H' k g:=⟨x.same.trans s,x.foot⟩
end
section
variable{P:bg}{w:cn}{K:au}{mg:Str->Option ax}{base:df}{t:fO}
def Kw(t:fO):Sp:=λvs H Q _=>∃(k k':aj) (g:G) (d:aj) (fs:List (Str×V)) (pa fa wa:aj) (nx:Int),vs=[.ref k',.ref k]/\k≠k'/\cW t H k g/\H k'=ae (.ins t.dW d (zJ pa fa wa nx))/\Q .non (upd H k' (.ins t.dW d (zJ g.pa g.fa g.wa g.nx)))
theorem Aa(T:Txt w K mg t):dU P w K mg base kI 1 t.oo t.mz ["self","other"] (Kw t):=by
 refine T.LJ.ok Jl (λvs H Q E h=>?_) (λiq Ar outer s H vs Q E hr h=>?_);obtain⟨k,k',g,d,fs,pa,fa,wa,nx,rfl,_⟩:=h;rfl;obtain⟨k,k',g,d,fs,pa,fa,wa,nx,rfl,nk,KG,hk,q⟩:=h;refine⟨_,(ao (gP (pv 0) (aT (pv 1) rfl) rfl) (ao (gP (pv 0) (aT (pv 1) rfl) rfl) (ao (gP (pv 0) (aT (pv 1) rfl) rfl) (aD (gP (pv 0) (aT (pv 1) rfl) rfl))))),?_⟩;have hk0:=KG.kept;refine⟨_,rfl,_,_,_,_,_,rfl,hk0,T.aR,T.dy,rfl,_,rfl,_,_,_,_,rfl,hk,T.aR,T.dy,(by show 4<1000;decide),?_⟩;refine⟨_,rfl,_,_,_,_,_,rfl,aO hk0 nk,T.aR,T.bH,rfl,_,rfl,_,_,_,_,rfl,aq,T.aR,T.bH,(by show 4<1000;decide),?_⟩;rw[hJ];refine⟨_,rfl,_,_,_,_,_,rfl,aO hk0 nk,T.aR,T.cA,rfl,_,rfl,_,_,_,_,rfl,aq,T.aR,T.cA,(by show 4<1000;decide),?_⟩;rw[hJ];refine⟨_,rfl,_,_,_,_,_,rfl,aO hk0 nk,T.aR,T.ft,rfl,_,rfl,_,_,_,_,rfl,aq,T.aR,T.ft,(by show 4<1000;decide),?_⟩;rw[hJ];exact q
def Ph(t:fO):Sp:=λvs H Q _=>∃(k:aj) (b:bB),vs=[.ref k]/\Apart t/\Kp t H k b/\bV t H k (nF,[0,0]) Q
theorem RP{d pa fa wa:aj}:nP ⟨d,pa,fa,wa,[],[],[],1⟩/\fz ⟨d,pa,fa,wa,[],[],[],1⟩ nF:=⟨⟨⟨by simp,by simp,by simp,by show(0:Int)<1;decide,by simp,by simp,by simp⟩,by simp,by simp,by simp⟩,⟨gK,λq=>by show q∈[]↔_;simp,gK,λq=>by show q∈[]↔_;simp,rfl,rfl⟩⟩
theorem Pj(T:Txt w K mg t):dU P w K mg base kI 3 t.sx t.qu ["kept"] (Ph t):=by
 refine T.F9.ok Od (λvs H Q E h=>?_) (λiq Ar outer s H vs Q E hr h=>?_);obtain⟨k,b,rfl,_⟩:=h;rfl
 ·obtain⟨k,b,rfl,Ap,⟨g,KG,A,ok⟩,q⟩:=h;refine⟨_,(ao (cJ (cX (pv 0) T.aR T.zm (Aa T) hr.mo T.BF .nil bQ (ah (IU T.Of (xA T) hr.mo rfl T.Oe T.zl .nil bQ) aw))) (aD (bu (cv (ah aQ (ah aQ aw)))))),?_⟩;refine⟨_,rfl,_,_,_,rfl,KG.kept,rfl,?_⟩;intro o d ho hd ndo;refine⟨o,d,rfl,aq,λH1 pa fa wa fW k1 SG Vj Q8=>⟨rfl,?_⟩⟩;have hk1:H1 k=ae (.ins t.dW g.dk (zJ g.pa g.fa g.wa g.nx)):=k1 _ _ (aO (aO KG.kept (aI KG.kept hd)) (aI KG.kept ho)) (aI KG.kept ho);have nok:o≠k:=λz=>by rw[z,KG.kept] at ho;cases ho
  refine⟨o,k,_,_,[],_,_,_,_,rfl,nok,fW,hk1,?_⟩;refine⟨Yc,λp hp=>?_⟩;have s1:bC H H1:=λb u e=>k1 _ _ (aO (aO e (aI e hd)) (aI e ho)) (aI e ho);have gG:=(fW.move Ap hk1).same (bC.new (o:= .lst [V.int 0,V.int 0]) hp);have hp1:H1 p=ay:=dY hp;obtain⟨ok0,A0⟩:= @RP g.dk pa fa wa;refine q _ p ⟨_,gG,A0,ok0⟩ (cY s1 hp1) aq ⟨λb u e st=>?_,λb h=>cY s1 (dY (dY h))⟩;have nbk:b≠k:=λz=>by rw[z,KG.kept] at e;cases e;exact st.1 rfl
  exact aO (aO (s1 b u e) nbk) (aI (aO (s1 b u e) nbk:L2.upd H1 k _ b=ae u) hp)
def fOp(n k lo:Int):List (Str×V):=[("number",.int n),("to_come",.int k),("lowest_serial",.int lo)]
def Kx(t:fO):Sp:=λvs H Q _=>∃(p dx:aj) (n k:Int),vs=[.ref p,.int n,.int k]/\H p=ae (.ins t.eL dx [])/\Q .non (upd H p (.ins t.eL dx (fOp n k 0)))
theorem Ky(T:Txt w K mg t):dU P w K mg base kI 1 t.oA t.mJ ["self","number","to_come"] (Kx t):=by
 refine T.LP.ok Jq (λvs H Q E h=>?_) (λiq Ar outer s H vs Q E hr h=>?_);obtain⟨p,dx,n,k,rfl,_⟩:=h;rfl;obtain⟨p,dx,n,k,rfl,hp,q⟩:=h;refine⟨_,(ao (gP (pv 0) (pv 1) rfl) (ao (gP (pv 0) (pv 2) rfl) (aD (gP (pv 0) aQ rfl)))),?_⟩;refine⟨_,rfl,_,rfl,_,_,_,_,rfl,hp,T.i5,T.i6,(by show 0<1000;decide),?_⟩;refine⟨_,rfl,_,rfl,_,_,_,_,rfl,aq,T.i5,T.lV,(by show 1<1000;decide),?_⟩;rw[hJ];refine⟨_,rfl,_,_,_,_,rfl,aq,T.i5,T.ke,(by show 2<1000;decide),?_⟩;rw[hJ];exact q
def Z9(g:G)(p:Int)(l:List Int)(num nx k:Int)(rest:List Int):Prop:=l=num::nx::k::rest/\p<num/\num<g.nx/\(∀f∈g.F,f.num≠num)/\1<=k
def HD(t:fO):Sp:=λvs H Q E=>∃(fr r d l:aj) (i:Nat) (ns:List Int) (g:G) (p s:Int) (B:Hp),vs=[.ref fr,.ref r,.int p,.int s]/\Apart t/\cW t H fr g/\Le B H fr g/\B r=ay/\xH t H r d l i/\B l=ae (.lst (ns.map V.int))/\i<=ns.length/\g.F.length<=4000/\(p=0\/∃f,bj GF.num p g.F=ae f/\f.kids.length<=4000)/\(∀num nx k rest,Z9 g p (ns.drop i) num nx k rest->∀H' o dd fo fd ch tp,cW t H' fr {g with F:=gh num p s nx fo fd ch tp g.F}->Le B H' fr {g with F:=gh num p s nx fo fd ch tp g.F}->xH t H' r d l (i+3)->B o=ay->H o=ay->H' o=ae (.ins t.eL dd (fOp num k 0))->(∀b u,H b=ae u->ZG t u->b≠r->H' b=ae u)->i+3<=ns.length->Q (.ref o) H')/\((¬∃num nx k rest,Z9 g p (ns.drop i) num nx k rest)->∀H',bC B H'->E (.ref t.fD) ay H')
theorem yd(T:Txt w K mg t):dU P w K mg base (Ih P w t.fD) 4 t.oC t.mL ["fresh","reader","parent","serial"] (HD t):=by
 refine jn.okX T.vW um (λvs H Q E h=>?_) (λiq Ar outer s H vs Q E hr h=>?_);obtain⟨fr,r,d,l,i,ns,g,p,s,B,rfl,_⟩:=h;rfl
 ·obtain⟨fr,r,d,l,i,ns,g,p,sr,B,rfl,Ap,KG,EA,hrB,hR,hl,hi,sz,szp,q,qe⟩:=h;have B3:aM=16777216:=rfl;refine⟨_,(ao (cj (i:=4) um.nd rfl (bE rfl) (cX (pv 1) T.dC T.ia (nR T) hr.mo T.iE .nil oa (ah aQ aw))) (ao (cj (i:=5) um.nd rfl (bE rfl) (eX dH (pv 4) aQ (λ_ _=>rfl))) (ao (cJ (bI (jh T) hr.mo rfl T.ju T.jC.kp T.lD .nil oa (ah (xm (yD P9 P9 (pv 2) (pv 5) (aT (pv 0) rfl)) (yA (NR (gC (d9 hr) (pv 5) (aT (pv 0) rfl))))) aw))) (ao (cJ (bI (jh T) hr.mo rfl T.ju T.jC.kp T.lD .nil oa (ah (jS acA (eX dH (pv 4) aQ (λ_ _=>rfl)) aQ (ck _)) aw))) (ao (cJ (cX (pv 0) T.aR T.uG (uK T) hr.mo T.vy .nil bQ (ah (pv 5) (ah (pv 2) (ah (pv 3) (ah (eX dH (pv 4) aQ (λ_ _=>rfl)) aw)))))) (aD (bu (xn T.W3 (Ky T) hr.mo rfl T.W2 T.LQ .nil bQ (ah (pv 5) (ah (eX dH (pv 4) aQ (λ_ _=>rfl)) aw)))))))))),?_⟩;refine⟨_,rfl,_,_,_,rfl,hR,rfl,r,d,l,i,3,ns,rfl,hR,dS.of (EA.same _ _ hl),hi,λh3 H1 a ha ea m1=>?_,λh3=>qe (λ⟨num,nx,k,rest,e,_⟩=>h3 ?_) _ EA.same⟩
  rotate_left
  have:=congrArg gE e;rw[ik] at this;simp only[aL] at this;omega;obtain⟨num,nx,k,rest,e⟩:∃num nx k rest,ns.drop i=num::nx::k::rest:=by
   have Ez:3<=(ns.drop i).length:=by rw[ik];omega
   match ns.drop i,Ez with
   |a::b::c::r,_=>exact⟨a,b,c,r,rfl⟩
  rw[e] at ea;have ea:H1 a=ae (.lst [.int num,.int nx,.int k]):=ea;have fW:=KG.core (m1.core Ap hR);have agE:=EA.moved hrB m1;have nra:r≠a:=λz=>by rw[<-z,hR] at ha;cases ha
  refine⟨_,rfl,_,_,_,_,rfl,rfl,dS.of ea,cQ (j:=0) (v:=V.int num) rfl,?_⟩;show rY _ _ _ [ae (.ref fr),ae (.ref r),ae (.int p),ae (.int sr),ae (.ref a),ae (.int num)] H1;have fail:(¬(p<num/\num<g.nx/\(∀f∈g.F,f.num≠num)/\1<=k))->E (.ref t.fD) ay H1:=λnh=>qe (λ⟨aoX,nx',k',amb,e',h'⟩=>by
   rw[e] at e';cases e';exact nh h') _ agE.same
  refine⟨_,rfl,_,rfl,_,_,rfl,rfl,_,rfl,?_⟩;refine cN (λc1=>?_) (λc1=>?_)
  rotate_left
  exact⟨_,rfl,⟨_,rfl,λz=>(by cases z),λ_=>fail λh=>c1 (bG h.1)⟩⟩;have c1:p<num:=aY c1;refine⟨_,rfl,_,_,_,_,_,rfl,fW.kept,T.aR,T.ft,rfl,_,_,rfl,rfl,_,rfl,?_⟩;refine cN (λc2=>?_) (λc2=>?_)
  rotate_left
  exact⟨_,rfl,λz=>(by cases z),λ_=>fail λh=>c2 (bG h.2.1)⟩;have c2:num<g.nx:=aY c2;refine⟨_,rfl,_,rfl,_,_,_,_,_,rfl,fW.kept,T.aR,T.bH,rfl,_,_,rfl,fW.r.Q9,?_⟩;rw[bZ];cases e3:bj GF.num num g.F with
  |some f0=>exact⟨_,rfl,λz=>(by cases z),λ_=>fail λh=>h.2.2.1 f0 (bD e3).1 (bD e3).2⟩
  |none=>
   have c3:∀f∈g.F,f.num≠num:=fV e3;refine⟨_,rfl,λ_=>?_,λz=>(by cases z)⟩;refine⟨_,rfl,_,_,_,_,rfl,rfl,dS.of ea,cQ (j:=2) (v:=V.int k) rfl,_,_,rfl,rfl,?_⟩;refine⟨_,rfl,λc4=>?_,λc4=>fail λh=>of_decide_eq_false c4 h.2.2.2⟩;have c4:1<=k:=aY c4;refine⟨_,rfl,_,_,_,rfl,fW.kept,rfl,_,rfl,_,rfl,_,rfl,_,rfl,_,_,_,_,rfl,rfl,dS.of ea,cQ (j:=1) (v:=V.int nx) rfl,?_⟩;refine⟨fr,g,num,p,sr,nx,rfl,fW,c3,(by omega),szp.imp id (λ⟨f,h1,h2⟩=>⟨f,h1,by omega⟩),λH2 fo fd ch tp gG S2=>?_⟩;have F2:=S2.frm fW;have HF:=agE.step S2;have ea2:=F2.keep _ _ ea trivial;have hR2:xH t H2 r d l (i+3):=F2.keep _ _ m1.at_ ⟨Ap.rk.symm,Ap.rf.symm,Ap.rw.symm⟩;refine⟨_,rfl,_,rfl,_,_,_,_,rfl,rfl,dS.of ea2,cQ (j:=2) (v:=V.int k) rfl,?_⟩;intro o dd ho hd ndo;refine⟨o,dd,num,k,rfl,aq,rfl,?_⟩;rw[hJ];have s3:bC H2 (upd (upd H2 dd (.own o)) o (.ins t.eL dd (fOp num k 0))):=λb u e=>aO (aO e (aI e hd)) (aI e ho);have ho1:H1 o=ay:=F2.live _ ho;have hoH:H o=ay:=m1.live ho1;exact q num nx k rest ⟨e,c1,c2,c3,c4⟩ _ o dd fo fd ch tp (gG.same s3) (HF.new s3) (s3 _ _ hR2) (cY EA.same hoH) hoH aq (λb u e st nb=>s3 _ _ (F2.keep _ _ (m1.keep b u e nb) st)) h3
end
end
end wz
namespace wz
section
open Vbdeah (Bank Fam Person Tree both readKids readFam readForest inR okX)
structure Fr where
 o:aj
 d:aj
 num:Int
 tc:Nat
 low:Int
 nx:Int
theorem RQ(y:Tree):both ([],[]) y=y:=by
 obtain⟨a,c⟩:=y;rfl
theorem pP(a c e:Tree):both a (both c e)=both (both a c) e:=by
 show(a.1++(c.1++e.1),a.2++(c.2++e.2))=((a.1++c.1)++e.1,(a.2++c.2)++e.2);rw[dJ,dJ]
def rg(T:Tree)(y:Tree×List Int):Tree×List Int:=(both T y.1,y.2)
def pQ(n:Nat)(f:Fr):List Int->Option (Tree×List Int):=readKids (λs l=>readFam n f.num.toNat s l) f.num.toNat f.nx f.tc f.low
def run:List Fr->List Int->Option (Tree×List Int)
 |[],l=>ae (([],[]),l)
 |f::rest,l=>(pQ (39 -rest.length) f l).bind λx=>(run rest x.2).map (rg x.1)
theorem VJ{o:Option (Tree×List Int)}:o.map (rg ([],[]))=o:=by
 cases o with
 |none=>rfl
 |some y=>show ae (both ([],[]) y.1,y.2)=ae y;rw[RQ]
theorem VL{o:Option (Tree×List Int)}{T S:Tree}:(o.map (rg S)).map (rg T)=o.map (rg (both T S)):=by
 cases o with
 |none=>rfl
 |some y=>show ae (both T (both S y.1),y.2)=ae (both (both T S) y.1,y.2);rw[pP]
theorem Kz{o:Option (Tree×List Int)}{T:Tree}{F:List Int->Option (Tree×List Int)}:((o.map (rg T)).bind λx=>(F x.2).map (rg x.1))=(o.bind λx=>(F x.2).map (rg x.1)).map (rg T):=by
 cases o with
 |none=>rfl
 |some y=>
  show(F y.2).map (rg (both T y.1))=((F y.2).map (rg y.1)).map (rg T);rw[VL]
section
variable{f:Fr}{rest:List Fr}{k:Nat}
theorem ab9{l:List Int}(h:f.tc=0):run (f::rest) l=run rest l:=by
 show((pQ (39 -rest.length) f l).bind λx=>(run rest x.2).map (rg x.1))=_;unfold pQ;rw[h];exact VJ
theorem Z_(h:f.tc=k+1):run (f::rest) []=ay:=by
 unfold run pQ;rw[h];rfl
theorem VM(h:f.tc=k+1){s:Int}:run (f::rest) [s]=ay:=by
 unfold run pQ;rw[h];rfl
theorem VN(h:f.tc=k+1){s t:Int}{r:List Int}(b:inR s f.low (f.nx -1)=false):run (f::rest) (s::t::r)=ay:=by
 unfold run pQ;rw[h];show(if inR s f.low (f.nx -1)=false then ay else _:Option _).bind _=ay;rw[if_pos b];rfl
theorem Z'(h:f.tc=k+1){s:Int}{r:List Int}(b:inR s f.low (f.nx -1)=false):run (f::rest) (s::r)=ay:=by
 cases r with
 |nil=>exact VM h
 |cons t r=>exact VN h b
theorem aey(h:f.tc=k+1){s:Int}:run (f::rest) [s,0]=ay:=by
 unfold run pQ;rw[h];show(if inR s f.low (f.nx -1)=false then ay else _:Option _).bind _=ay;by_cases b:inR s f.low (f.nx -1)=false;rw[if_pos b];rfl;rw[if_neg b];rfl
theorem Ux(h:f.tc=k+1){s i:Int}{q:List Int}(b:¬inR s f.low (f.nx -1)=false)(hi:okX i=true):run (f::rest) (s::0::i::q)=(run ({f with tc:=k,low:=s+1}::rest) q).map (rg ([],[⟨i.toNat,f.num.toNat,s.toNat⟩])):=by
 unfold run pQ;rw[h];show(if inR s f.low (f.nx -1)=false then ay else if(0:Int)=0 then(if okX i=true then(readKids (λs l=>readFam (39 -rest.length) f.num.toNat s l) f.num.toNat f.nx k (s+1) q).map (rg ([],[⟨i.toNat,f.num.toNat,s.toNat⟩])) else ay) else _).bind _=_;rw[if_neg b,if_pos rfl,if_pos hi,Kz]
theorem Mq(h:f.tc=k+1){s i:Int}{q:List Int}(hi:okX i=false):run (f::rest) (s::0::i::q)=ay:=by
 unfold run pQ;rw[h];show(if inR s f.low (f.nx -1)=false then ay else if(0:Int)=0 then(if okX i=true then _ else ay) else _:Option _).bind _=ay;by_cases b:inR s f.low (f.nx -1)=false;rw[if_pos b];rfl;rw[if_neg b,if_pos rfl,if_neg (by rw[hi];decide)];rfl
theorem aac(h:f.tc=k+1){s t:Int}{r:List Int}(h0:t≠0)(h1:t≠1):run (f::rest) (s::t::r)=ay:=by
 unfold run pQ;rw[h];show(if inR s f.low (f.nx -1)=false then ay else if t=0 then _ else if t=1 then _ else ay:Option _).bind _=ay;by_cases b:inR s f.low (f.nx -1)=false;rw[if_pos b];rfl;rw[if_neg b,if_neg h0,if_neg h1];rfl
theorem RT(h:f.tc=k+1){s:Int}{r:List Int}(b:¬inR s f.low (f.nx -1)=false):run (f::rest) (s::1::r)=(readFam (39 -rest.length) f.num.toNat s.toNat r).bind λx=>(run ({f with tc:=k,low:=s+1}::rest) x.2).map (rg x.1):=by
 unfold run pQ;rw[h];show(if inR s f.low (f.nx -1)=false then ay else if(1:Int)=0 then _ else if(1:Int)=1 then((readFam (39 -rest.length) f.num.toNat s.toNat r).bind λx=>(readKids (λs l=>readFam (39 -rest.length) f.num.toNat s l) f.num.toNat f.nx k (s+1) x.2).map (rg x.1)) else ay:Option _).bind _=_;rw[if_neg b,if_neg (by decide),if_pos rfl];cases readFam (39 -rest.length) f.num.toNat s.toNat r with
 |none=>rfl
 |some x=>
  show((readKids (λs l=>readFam (39 -rest.length) f.num.toNat s l) f.num.toNat f.nx k (s+1) x.2).map (rg x.1)).bind _=_;rw[Kz];rfl
theorem aca{rf:Nat->List Int->Option (Tree×List Int)}{n:Nat}{nx:Int}{k:Nat}{l:List Int}(h:nx<1)(hk:1<=k):readKids rf n nx k 0 l=ay:=by
 cases k with
 |zero=>omega
 |succ k=>
  match l with
  |[]=>rfl
  |[_]=>rfl
  |s::t::r=>
   have:inR s 0 (nx -1)=false:=by
    unfold inR;rw[rW,decide_eq_false_iff_not,decide_eq_false_iff_not];omega
   show(if inR s 0 (nx -1)=false then ay else _:Option _)=ay;rw[bw this]
theorem aad{n p s:Nat}{num nx k:Int}{r:List Int}(h1:(p:Int)<num)(h2:1<=k):readFam (n+1) p s (num::nx::k::r)=(readKids (λs l=>readFam n num.toNat s l) num.toNat nx k.toNat 0 r).map (rg ([⟨num.toNat,p,s,nx.toNat⟩],[])):=by
 show(if(p:Int)<num/\1<=nx/\1<=k then(readKids (λs l=>readFam n num.toNat s l) num.toNat nx k.toNat 0 r).map (rg ([⟨num.toNat,p,s,nx.toNat⟩],[])) else ay)=_;by_cases h:1<=nx;rw[bw ⟨h1,h,h2⟩];rw[aca (by omega) (by omega),aX λz=>h z.2.1];rfl
theorem aae{n p s:Nat}{l:List Int}(h:¬∃num nx k r,l=num::nx::k::r/\(p:Int)<num/\1<=k):readFam n p s l=ay:=by
 cases n with
 |zero=>rfl
 |succ n=>
  unfold readFam
  match l with
  |[]=>rfl
  |[_]=>rfl
  |[_,_]=>rfl
  |num::nx::k::r=>exact aX λz=>h ⟨num,nx,k,r,rfl,z.1,z.2.2⟩
theorem VP(h:f.tc=k+1){s num nx k':Int}{r:List Int}(hl:rest.length+1<40)(b:¬inR s f.low (f.nx -1)=false)(hn:0<=f.num)(h1:f.num<num)(h2:1<=k')(o d:aj):run (f::rest) (s::1::num::nx::k'::r)=(run (⟨o,d,num,k'.toNat,0,nx⟩::{f with tc:=k,low:=s+1}::rest) r).map (rg ([⟨num.toNat,f.num.toNat,s.toNat,nx.toNat⟩],[])):=by
 rw[RT h b,show 39 -rest.length=(38 -rest.length)+1 by omega,aad (by omega) h2,Kz];congr 1;show _=(pQ (39 -(rest.length+1)) ⟨o,d,num,k'.toNat,0,nx⟩ r).bind _;rw[show 39 -(rest.length+1)=38 -rest.length by omega];rfl
theorem KC(h:f.tc=k+1){s:Int}{r:List Int}(hn:0<=f.num)(hx:¬(rest.length+1<40/\∃num nx k' r',r=num::nx::k'::r'/\f.num<num/\1<=k')):run (f::rest) (s::1::r)=ay:=by
 by_cases b:inR s f.low (f.nx -1)=false;exact VN h b
 ·rw[RT h b];by_cases hl:rest.length+1<40;rw[aae λ⟨num,nx,k',r',e,h1,h2⟩=>hx ⟨hl,num,nx,k',r',e,by omega,h2⟩];rfl;rw[show 39 -rest.length=0 by omega];rfl
end
def Bad(nx:Int)(T:Tree):Prop:=¬((T.1.map λf=>f.num).Nodup/\(T.2.map λp=>p.id).Nodup/\∀f∈T.1,(f.num:Int)<nx)
theorem Bad.both{nx:Int}{T:Tree}(h:Bad nx T)(S:Tree):Bad nx (both T S):=λ⟨a,c,e⟩=>h (by
 have a:((T.1++S.1).map λf=>f.num).Nodup:=a;have c:((T.2++S.2).map λp=>p.id).Nodup:=c;rw[az] at a c;exact⟨(iN.mp a).1,(iN.mp c).1,λf hf=>e f (bO _ hf)⟩)
def Fl(nx:Int)(T:Tree)(R:Option (Tree×List Int)):Prop:=R=ay\/∃y,R=ae y/\Bad nx (both T y.1)
theorem Fl.bad{nx:Int}{T:Tree}(h:Bad nx T)(R:Option (Tree×List Int)):Fl nx T R:=by
 cases R with
 |none=>exact .inl rfl
 |some y=>exact .inr ⟨y,rfl,h.both _⟩
theorem Fl.of{nx:Int}{T S:Tree}{R R':Option (Tree×List Int)}(e:R=R'.map (rg S))(h:Fl nx (both T S) R'):Fl nx T R:=by
 obtain z|⟨y,z,hb⟩:=h
 exact .inl (by rw[e,z];rfl);refine .inr ⟨rg S y,by rw[e,z];rfl,?_⟩;show Bad nx (both T (both S y.1));rw[pP];exact hb
end
section
open Vbdeah (Bank Fam Person Tree both)
structure aez(g:G)(f:GF):Prop where
 pos:0<f.num
 lt:f.num<g.nx
 cf:0<=f.cf
 A9:f.kids.Pairwise λa c=>a.cf<c.cf
 x_:∀c∈f.kids,0<=c.cf/\c.cf<f.fN/\tU g f c
 par:(f.par=0/\f.cf=0)\/(0<f.par/\f.par<f.num/\∃h∈g.F,h.num=f.par/\∃c∈h.kids,c.cf=f.cf/\c.sort=1/\c.id=f.num)
structure LOk(g:G):Prop where
 lO:(g.F.map (·.num)).Nodup
 yE:(g.P.map (·.id)).Nodup
 nx:0<g.nx
 qV:∀p∈g.P,Vn g p/\p.id<=1000000000
 fam:∀f∈g.F,aez g f
 xD:∀f∈g.F,∃d,d<=40/\dF g.F f.num d
def agG(g:G)(r:Fr):Prop:=∃f∈g.F,f.num=r.num/\f.fN=r.nx/\(∀c∈f.kids,c.cf<r.low)/\0<=r.low/\(r.tc=0->f.kids≠[])
def Pk(g:G):List Fr->Prop
 |[]=>True
 |r::rest=>dF g.F r.num (rest.length+1)/\Pk g rest
structure qS(g:G)(fs:List Fr):Prop where
 ok:LOk g
 fr:∀r∈fs,agG g r
 ord:fs.Pairwise λa c=>c.num<a.num
 xD:Pk g fs
 ne:∀f∈g.F,f.kids≠[]\/∃r∈fs,r.num=f.num/\0<r.tc
structure Ab(g:G)(T:Tree):Prop where
 F:g.F.map toF=T.1
 P:g.P.map Vm=T.2
structure Ek(g g':G):Prop where
 nx:g'.nx=g.nx
 P:∀p∈g.P,p∈g'.P
 F:∀f∈g.F,∃f'∈g'.F,f'.num=f.num/\f'.par=f.par/\f'.cf=f.cf/\f'.fN=f.fN/\∀c∈f.kids,c∈f'.kids
section
variable{g g':G}
theorem Ek.child(w:Ek g g'){f f':GF}{c:GC}(h:tU g f c)(e:f'.num=f.num):tU g' f' c:=by
 obtain⟨z,p,hp,e1,e2,e3⟩|⟨z,q,hq,e1,e2,e3⟩:=h
 exact .inl ⟨z,p,w.P p hp,e1,e2.trans e.symm,e3⟩;obtain⟨q',YF,a1,a2,a3,_⟩:=w.F q hq;exact .inr ⟨z,q',YF,a1.trans e1,a2.trans (e2.trans e.symm),a3.trans e3⟩
theorem Ek.qV(w:Ek g g'){p:GP}(h:Vn g p):Vn g' p:=by
 obtain⟨h1,f,hf,e,c,hc,e2⟩:=h;obtain⟨f',dZ,a1,_,_,_,a5⟩:=w.F f hf;exact⟨h1,f',dZ,a1.trans e,c,a5 c hc,e2⟩
theorem Ek.depth(w:Ek g g'){n:Int}{d:Nat}(h:dF g.F n d):dF g'.F n d:=by
 induction h with
 |zero=>exact .zero
 | @succ f d hf h0 hp _ ih=>
  obtain⟨f',dZ,a1,a2,_⟩:=w.F f hf;rw[<-a1];exact .succ dZ (by omega) (by rw[a1,a2];exact hp) (by rw[a2];exact ih)
theorem Ek.fam(w:Ek g g'){f f':GF}(h:aez g f)(e1:f'.num=f.num)(e2:f'.par=f.par)(e3:f'.cf=f.cf)(e4:f'.fN=f.fN)(hk:f'.kids=f.kids\/∃c,f'.kids=f.kids++[c]/\(∀a∈f.kids,a.cf<c.cf)/\0<=c.cf/\c.cf<f.fN/\tU g' f' c):aez g' f':=by
 have old:∀c∈f.kids,0<=c.cf/\c.cf<f'.fN/\tU g' f' c:=λc hc=>by
  obtain⟨h1,h2,h3⟩:=h.x_ c hc;exact⟨h1,by omega,w.child h3 e1⟩
 refine⟨by have:=h.pos;omega,by have:=h.lt;have:=w.nx;omega,by have:=h.cf;omega,?_,?_,?_⟩
 ·obtain z|⟨c,z,h1,_⟩:=hk
  rw[z];exact h.A9;rw[z,jN];exact⟨h.A9,qb ..,λa ha b hb=>by obtain rfl:=ai.mp hb;exact h1 a ha⟩
 ·obtain z|⟨c,z,_,h2,h3,h4⟩:=hk
  rw[z];exact old
  ·intro a ha;rw[z] at ha;obtain y|y:=aP.mp ha
   exact old a y;obtain rfl:=ai.mp y;exact⟨h2,by omega,h4⟩
 ·obtain⟨a,c⟩|⟨a,c,q,hq,e,cc,hcc,b1,b2,b3⟩:=h.par
  exact .inl ⟨by omega,by omega⟩;obtain⟨q',YF,a1,_,_,_,a5⟩:=w.F q hq;exact .inr ⟨by omega,by omega,q',YF,by omega,cc,a5 cc hcc,by omega,b2,by omega⟩
theorem Ek.stack(w:Ek g g'):∀{fs:List Fr},Pk g fs->Pk g' fs
 |[],_=>trivial
 |r::rest,⟨a,b⟩=>⟨w.depth a,w.stack b⟩
theorem qS.pop{r:Fr}{rest:List Fr}(I:qS g (r::rest))(h:r.tc=0):qS g rest:=by
 refine⟨I.ok,λq hq=>I.fr q (aC _ hq),(b7.mp I.ord).2,I.xD.2,λf hf=>?_⟩;obtain z|⟨q,hq,e,h0⟩:=I.ne f hf
 exact .inl z
 ·obtain rfl|hq:=aF.mp hq
  omega;exact .inr ⟨q,hq,e,h0⟩
theorem KH{n:Int}{c:GC}{F:List GF}(h:∀f∈F,f.num=n->∀a∈f.kids,a.cf<c.cf):putKid n c F=setAt n (λf=>{f with kids:=f.kids++[c]}) F:=by
 refine pU λf hf e=>?_;rw[pT λb hb=>by have:=h f hf e b hb;omega]
theorem KJ{n:Int}{c:GC}{F:List GF}:(setAt n (λf=>{f with kids:=f.kids++[c]}) F).map toF=F.map toF:=ki toF λ_ _ _=>rfl
theorem xI{n:Int}{c:GC}{F:List GF}:(setAt n (λf=>{f with kids:=f.kids++[c]}) F).map (·.num)=F.map (·.num):=w9 λ_=>rfl
theorem KL{r:Fr}{rest:List Fr}{c:GC}{s:Int}{k:Nat}(I:qS g (r::rest))(h1:r.low<=s)(hc:c.cf=s){F0:List GF}(hF:∀f∈g.F,f∈F0)(nd:(F0.map (·.num)).Nodup)(eF:g'.F=setAt r.num (λf=>{f with kids:=f.kids++[c]}) F0):∀q∈{r with tc:=k,low:=s+1}::rest,agG g' q:=by
 intro q hq;have h0:=(b7.mp I.ord).1;obtain rfl|hq:=aF.mp hq
 ·obtain⟨f,hf,e1,e2,e3,e4,_⟩:=I.fr r (aB ..);refine⟨{f with kids:=f.kids++[c]},?_,e1,e2,λa ha=>?_,by show 0<=s+1;omega,λ_=>by simp⟩;rw[eF];have:=eQ (n:=r.num) (u:=λf=>{f with kids:=f.kids++[c]}) (hF f hf);rw[if_pos e1] at this;exact this
  ·show a.cf<s+1;obtain z|z:=aP.mp ha
   have:=e3 a z;omega;obtain rfl:=ai.mp z;omega
 obtain⟨f,hf,e1,e2,e3,e4,e5⟩:=I.fr q (aC _ hq);refine⟨f,?_,e1,e2,e3,e4,e5⟩;rw[eF];have:=eQ (n:=r.num) (u:=λf=>{f with kids:=f.kids++[c]}) (hF f hf);rw[aX (by have:=h0 q hq;omega)] at this;exact this
theorem RV{n:Int}{c:GC}{F0:List GF}(hF:∀f∈g.F,f∈F0)(hP:∀p∈g.P,p∈g'.P)(hn:g'.nx=g.nx)(eF:g'.F=setAt n (λf=>{f with kids:=f.kids++[c]}) F0):Ek g g':=by
 refine⟨hn,hP,λf hf=>?_⟩;have:=eQ (n:=n) (u:=λf=>{f with kids:=f.kids++[c]}) (hF f hf);rw[<-eF] at this;by_cases e:f.num=n;rw[bw e] at this;exact⟨_,this,rfl,rfl,rfl,rfl,λa ha=>bO _ ha⟩;rw[aX e] at this;exact⟨_,this,rfl,rfl,rfl,rfl,λa ha=>ha⟩
theorem qS.person{r:Fr}{rest:List Fr}{k:Nat}{s x:Int}{T:Tree}{tp o d:aj}(I:qS g (r::rest))(hk:r.tc=k+1)(h1:r.low<=s)(h2:s<r.nx)(hx:0<x)(hx2:x<=1000000000)(hn:∀p∈g.P,p.id≠x)(e:g'={g with F:=putKid r.num ⟨s,tp,0,x⟩ g.F,P:=fQ GP.id ⟨x,o,d,r.num,s⟩ g.P}):qS g' ({r with tc:=k,low:=s+1}::rest)/\(Ab g T->Ab g' (both T ([],[⟨x.toNat,r.num.toNat,s.toNat⟩]))):=by
 obtain⟨f,hf,e1,e2,e3,e4,_⟩:=I.fr r (aB ..);have only:∀f'∈g.F,f'.num=r.num->f'=f:=λf' dZ z=>bh I.ok.lO dZ hf (z.trans e1.symm);have eF:g'.F=setAt r.num (λf=>{f with kids:=f.kids++[⟨s,tp,0,x⟩]}) g.F:=by
  rw[e];exact KH λf' dZ z a ha=>by
   rw[only f' dZ z] at ha;show a.cf<s;have:=e3 a ha;omega
 have eP:g'.P=g.P++[⟨x,o,d,r.num,s⟩]:=by
  rw[e];exact pT hn
 have eN:g'.nx=g.nx:=by rw[e]
 have w:Ek g g':=RV (λ_ h=>h) (λp hp=>by rw[eP];exact bO _ hp) eN eF;have aj8:(⟨x,o,d,r.num,s⟩:GP)∈g'.P:=by rw[eP];exact bc _ (ai.mpr rfl)
 have aeA:({f with kids:=f.kids++[⟨s,tp,0,x⟩]}:GF)∈g'.F:=by
  rw[eF];have:=eQ (n:=r.num) (u:=λf=>{f with kids:=f.kids++[⟨s,tp,0,x⟩]}) hf;rw[bw e1] at this;exact this
 refine⟨⟨⟨?_,?_,by rw[eN];exact I.ok.nx,λp hp=>?_,λf' dZ=>?_,λf' dZ=>?_⟩,KL I h1 rfl (λ_ h=>h) I.ok.lO eF,?_,?_,λf' dZ=>?_⟩,λA=>⟨?_,?_⟩⟩;rw[eF,xI];exact I.ok.lO
 ·rw[eP,az];exact L2.jT I.ok.yE λm=>by obtain⟨p,hp,z⟩:=aA.mp m;exact hn p hp z
 ·rw[eP] at hp;obtain z|z:=aP.mp hp
  exact⟨w.qV (I.ok.qV p z).1,(I.ok.qV p z).2⟩;obtain rfl:=ai.mp z;exact⟨⟨hx,_,aeA,e1,⟨s,tp,0,x⟩,bc _ (ai.mpr rfl),rfl,rfl,rfl⟩,hx2⟩
 ·rw[eF] at dZ;obtain⟨f0,h0,z,rfl⟩|⟨h0,_⟩:=e_ dZ
  obtain rfl:=only f0 h0 z;refine w.fam (I.ok.fam f0 h0) rfl rfl rfl rfl (.inr ⟨⟨s,tp,0,x⟩,rfl,λa ha=>?_,by show 0<=s;omega,by show s<f0.fN;omega,.inl ⟨rfl,_,aj8,rfl,e1.symm,rfl⟩⟩);show a.cf<s;have:=e3 a ha;omega;exact w.fam (I.ok.fam f' h0) rfl rfl rfl rfl (.inl rfl)
 ·have:f'.num∈g.F.map (·.num):=by rw[<-xI (n:=r.num) (c:=⟨s,tp,0,x⟩),<-eF];exact aA.mpr ⟨f',dZ,rfl⟩
  obtain⟨f0,h0,z⟩:=aA.mp this;obtain⟨d0,hd,D⟩:=I.ok.xD f0 h0;exact⟨d0,hd,by rw[<-z];exact w.depth D⟩
 exact b7.mpr ⟨(b7.mp I.ord).1,(b7.mp I.ord).2⟩;exact w.stack (fs:={r with tc:=k,low:=s+1}::rest) ⟨I.xD.1,I.xD.2⟩
 ·rw[eF] at dZ;obtain⟨f0,h0,z,rfl⟩|⟨h0,nz⟩:=e_ dZ
  exact .inl (by simp)
  ·obtain z|⟨q,hq,a1,a2⟩:=I.ne f' h0
   exact .inl z
   ·obtain rfl|hq:=aF.mp hq
    exact bM a1.symm nz;exact .inr ⟨q,aC _ hq,a1,a2⟩
 rw[eF,KJ,A.F];show T.1=T.1++[];rw[cD];rw[eP,az,A.P];rfl
theorem qS.child{r:Fr}{rest:List Fr}{k:Nat}{s num nx:Int}{k':Nat}{T:Tree}{fo fd ch tp o d:aj}(I:qS g (r::rest))(hk:r.tc=k+1)(h1:r.low<=s)(h2:s<r.nx)(hl:rest.length+1<40)(n1:r.num<num)(n2:num<g.nx)(n3:∀f∈g.F,f.num≠num)(k1:1<=k')(e:g'={g with F:=gh num r.num s nx fo fd ch tp g.F}):qS g' (⟨o,d,num,k',0,nx⟩::{r with tc:=k,low:=s+1}::rest)/\(Ab g T->Ab g' (both T ([⟨num.toNat,r.num.toNat,s.toNat,nx.toNat⟩],[]))):=by
 obtain⟨f,hf,e1,e2,e3,e4,_⟩:=I.fr r (aB ..);have TR:=(I.ok.fam f hf).pos;have nd0:((g.F++[(⟨num,fo,fd,r.num,s,nx,ch,[]⟩:GF)]).map (·.num)).Nodup:=by
  rw[az];exact L2.jT I.ok.lO λm=>by obtain⟨q,hq,z⟩:=aA.mp m;exact n3 q hq z
 have uZ:f∈g.F++[(⟨num,fo,fd,r.num,s,nx,ch,[]⟩:GF)]:=bO _ hf;have only:∀f'∈g.F++[(⟨num,fo,fd,r.num,s,nx,ch,[]⟩:GF)],f'.num=r.num->f'=f:=λf' dZ z=>bh nd0 dZ uZ (z.trans e1.symm);have eF:g'.F=setAt r.num (λf=>{f with kids:=f.kids++[⟨s,tp,1,num⟩]}) (g.F++[⟨num,fo,fd,r.num,s,nx,ch,[]⟩]):=by
  rw[e];show gh num r.num s nx fo fd ch tp g.F=_;unfold gh;rw[if_neg (by omega)];exact KH λf' dZ z a ha=>by
   rw[only f' dZ z] at ha;show a.cf<s;have:=e3 a ha;omega
 have eP:g'.P=g.P:=by rw[e]
 have eN:g'.nx=g.nx:=by rw[e]
 have w:Ek g g':=RV (λ_ h=>bO _ h) (λp hp=>by rw[eP];exact hp) eN eF;have aeA:({f with kids:=f.kids++[⟨s,tp,1,num⟩]}:GF)∈g'.F:=by
  rw[eF];have:=eQ (n:=r.num) (u:=λf=>{f with kids:=f.kids++[⟨s,tp,1,num⟩]}) uZ;rw[bw e1] at this;exact this
 have XG:(⟨num,fo,fd,r.num,s,nx,ch,[]⟩:GF)∈g'.F:=by
  rw[eF];have:=eQ (n:=r.num) (u:=λf=>{f with kids:=f.kids++[⟨s,tp,1,num⟩]}) (bc g.F (ai.mpr (rfl:(⟨num,fo,fd,r.num,s,nx,ch,[]⟩:GF)=_)));rw[aX (by show ¬num=r.num;omega)] at this;exact this
 have aaf:dF g'.F num (rest.length+1+1):= .succ XG (by show 0<num;omega) (.inr ⟨by show 0<=r.num;omega,n1⟩) (w.depth I.xD.1);refine⟨⟨⟨?_,by rw[eP];exact I.ok.yE,by rw[eN];exact I.ok.nx,λp hp=>?_,λf' dZ=>?_,λf' dZ=>?_⟩,λq hq=>?_,?_,⟨aaf,w.stack (fs:={r with tc:=k,low:=s+1}::rest) ⟨I.xD.1,I.xD.2⟩⟩,λf' dZ=>?_⟩,λA=>⟨?_,?_⟩⟩;rw[eF,xI];exact nd0;rw[eP] at hp;exact⟨w.qV (I.ok.qV p hp).1,(I.ok.qV p hp).2⟩
 ·rw[eF] at dZ;obtain⟨f0,h0,z,rfl⟩|⟨h0,_⟩:=e_ dZ
  obtain rfl:=only f0 h0 z;refine w.fam (I.ok.fam f0 hf) rfl rfl rfl rfl (.inr ⟨⟨s,tp,1,num⟩,rfl,λa ha=>?_,by show 0<=s;omega,by show s<f0.fN;omega,.inr ⟨rfl,_,XG,rfl,e1.symm,rfl⟩⟩);show a.cf<s;have:=e3 a ha;omega
  ·obtain z|z:=aP.mp h0
   exact w.fam (I.ok.fam f' z) rfl rfl rfl rfl (.inl rfl);obtain rfl:=ai.mp z;exact⟨by show 0<num;omega,by rw[eN];exact n2,by show 0<=s;omega,gK,by simp,.inr ⟨by show 0<r.num;omega,n1,_,aeA,e1,⟨s,tp,1,num⟩,bc _ (ai.mpr rfl),rfl,rfl,rfl⟩⟩
 ·have:f'.num∈(g.F++[(⟨num,fo,fd,r.num,s,nx,ch,[]⟩:GF)]).map (·.num):=by rw[<-xI (n:=r.num) (c:=⟨s,tp,1,num⟩),<-eF];exact aA.mpr ⟨f',dZ,rfl⟩
  obtain⟨f0,h0,z⟩:=aA.mp this;obtain y|y:=aP.mp h0
  obtain⟨d0,hd,D⟩:=I.ok.xD f0 y;exact⟨d0,hd,by rw[<-z];exact w.depth D⟩;obtain rfl:=ai.mp y;exact⟨rest.length+1+1,by omega,by rw[<-z];exact aaf⟩
 ·obtain rfl|hq:=aF.mp hq
  exact⟨_,XG,rfl,rfl,by simp,lJ _,λz=>by have z:k'=0:=z;omega⟩;exact KL I h1 rfl (λ_ h=>bO _ h) nd0 eF q hq
 ·refine b7.mpr ⟨λq hq=>?_,b7.mpr ⟨(b7.mp I.ord).1,(b7.mp I.ord).2⟩⟩;show q.num<num;obtain rfl|hq:=aF.mp hq
  exact n1;have:=(b7.mp I.ord).1 q hq;omega
 ·rw[eF] at dZ;obtain⟨f0,h0,z,rfl⟩|⟨h0,nz⟩:=e_ dZ
  exact .inl (by simp)
  ·obtain y|y:=aP.mp h0
   ·obtain z|⟨q,hq,a1,a2⟩:=I.ne f' y
    exact .inl z
    ·obtain rfl|hq:=aF.mp hq
     exact bM a1.symm nz;exact .inr ⟨q,aC _ (aC _ hq),a1,a2⟩
   obtain rfl:=ai.mp y;exact .inr ⟨_,aB ..,rfl,k1⟩
 rw[eF,KJ,az,A.F];rfl;rw[eP,A.P];show T.2=T.2++[];rw[cD]
theorem qS.root{num nx:Int}{k':Nat}{T:Tree}{fo fd ch tp o d:aj}(I:qS g [])(n1:0<num)(n2:num<g.nx)(n3:∀f∈g.F,f.num≠num)(k1:1<=k')(e:g'={g with F:=gh num 0 0 nx fo fd ch tp g.F}):qS g' [⟨o,d,num,k',0,nx⟩]/\(Ab g T->Ab g' (both T ([⟨num.toNat,0,0,nx.toNat⟩],[]))):=by
 have eF:g'.F=g.F++[⟨num,fo,fd,0,0,nx,ch,[]⟩]:=by
  rw[e];show gh num 0 0 nx fo fd ch tp g.F=_;unfold gh;rw[if_pos rfl]
 have eP:g'.P=g.P:=by rw[e]
 have eN:g'.nx=g.nx:=by rw[e]
 have w:Ek g g':=⟨eN,λp hp=>by rw[eP];exact hp,λf hf=>⟨f,by rw[eF];exact bO _ hf,rfl,rfl,rfl,rfl,λ_ h=>h⟩⟩;have XG:(⟨num,fo,fd,0,0,nx,ch,[]⟩:GF)∈g'.F:=by rw[eF];exact bc _ (ai.mpr rfl)
 have aaf:dF g'.F num 1:= .succ XG (by show 0<num;omega) (.inl rfl) .zero;refine⟨⟨⟨?_,by rw[eP];exact I.ok.yE,by rw[eN];exact I.ok.nx,λp hp=>?_,λf' dZ=>?_,λf' dZ=>?_⟩,λq hq=>?_,qb ..,⟨aaf,trivial⟩,λf' dZ=>?_⟩,λA=>⟨?_,?_⟩⟩
 ·rw[eF,az];exact L2.jT I.ok.lO λm=>by obtain⟨q,hq,z⟩:=aA.mp m;exact n3 q hq z
 rw[eP] at hp;exact⟨w.qV (I.ok.qV p hp).1,(I.ok.qV p hp).2⟩
 ·rw[eF] at dZ;obtain z|z:=aP.mp dZ
  exact w.fam (I.ok.fam f' z) rfl rfl rfl rfl (.inl rfl);obtain rfl:=ai.mp z;exact⟨n1,by rw[eN];exact n2,lJ _,gK,by simp,.inl ⟨rfl,rfl⟩⟩
 ·rw[eF] at dZ;obtain z|z:=aP.mp dZ
  obtain⟨d0,hd,D⟩:=I.ok.xD f' z;exact⟨d0,hd,w.depth D⟩;obtain rfl:=ai.mp z;exact⟨1,by omega,aaf⟩
 obtain rfl:=ai.mp hq;exact⟨_,XG,rfl,rfl,by simp,lJ _,λz=>by have z:k'=0:=z;omega⟩
 ·rw[eF] at dZ;obtain z|z:=aP.mp dZ
  ·obtain y|⟨q,hq,_⟩:=I.ne f' z
   exact .inl y;cases hq
  obtain rfl:=ai.mp z;exact .inr ⟨_,ai.mpr rfl,rfl,k1⟩
 rw[eF,az,A.F];rfl;rw[eP,A.P];show T.2=T.2++[];rw[cD]
end
end
end wz
namespace wz
open PySem PySem.Spec PyProof.Rows L2
section
open Vbdeah (Bank Fam both)
theorem Pl{ns:List Int}{i:Nat}{z:Int}(h:ns[i]? =ae z):ns.drop i=z::ns.drop (i+1):=by
 obtain⟨h1,h2⟩:=dj.mp h;rw[NJ h1,h2]
theorem FH{ns:List Int}{i:Nat}(h:ns[i]? =ay):ns.drop i=[]:=rh (List.getElem?_eq_none_iff.mp h)
theorem Ac{ns:List Int}{i:Nat}{z:Int}(h:ns[i]? =ae z):i+1<=ns.length:=(dj.mp h).1
theorem ac9{C C' d d':aj}{a b:List (Str×V)}(h:C≠C'):HO.ins C d a≠HO.ins C' d' b:=λz=>h (HO.ins.inj z).1
structure VQ(t:fO)(B H:Hp)(ol:aj)(fs:List Fr):Prop where
 lst:H ol=ae (.lst (fs.reverse.map λr=>V.ref r.o))
 obj:∀r∈fs,H r.o=ae (.ins t.eL r.d (fOp r.num r.tc r.low))
 nd:(fs.map (·.o)).Nodup
 bo:∀r∈fs,B r.o=ay
 bl:B ol=ay
structure SR(t:fO)(B H:Hp)(fr r d l ol:aj)(ns:List Int)(i:Nat)(g:G)(fs:List Fr):Prop where
 kg:cW t H fr g
 EA:Le B H fr g
 rd:xH t H r d l i
 rB:B r=ay
 hl:B l=ae (.lst (ns.map V.int))
 le:i<=ns.length
 xP:VQ t B H ol fs
 szF:g.F.length<=i
 szP:g.P.length<=i
 szK:∀f∈g.F,f.kids.length<=i
section
variable{t:fO}{B H H':Hp}{fr r d l ol:aj}{ns:List Int}{i j:Nat}{g:G}{fs:List Fr}
theorem VQ.keep(s:VQ t B H ol fs)(Ap:Apart t){dd:aj}{x:List (Str×V)}(hr:H r=ae (.ins t.du dd x))(h:∀b u,H b=ae u->ZG t u->b≠r->H' b=ae u):VQ t B H' ol fs:=⟨h _ _ s.lst trivial (gg s.lst hr nofun),λq hq=>h _ _ (s.obj q hq) ⟨Ap.ok.symm,Ap.of.symm,Ap.ow.symm⟩ (gg (s.obj q hq) hr (ac9 Ap.or.symm)),s.nd,s.bo,s.bl⟩
theorem SR.move(S:SR t B H fr r d l ol ns i g fs)(Ap:Apart t)(m:Moved t H H' r d l j)(h1:i<=j)(h2:j<=ns.length):SR t B H' fr r d l ol ns j g fs:=⟨S.kg.core (m.core Ap S.rd),S.EA.moved S.rB m,m.at_,S.rB,S.hl,h2,S.xP.keep Ap S.rd λb u e _ n=>m.keep b u e n,by have:=S.szF;omega,by have:=S.szP;omega,λf hf=>by have:=S.szK f hf;omega⟩
theorem SR.top{q:Fr}{rest:List Fr}(S:SR t B H fr r d l ol ns i g (q::rest))(Ap:Apart t){k:Nat}{lo:Int}:SR t B (upd H q.o (.ins t.eL q.d (fOp q.num k lo))) fr r d l ol ns i g ({q with tc:=k,low:=lo}::rest):=by
 have ho:=S.xP.obj q (aB ..);have nd:=S.xP.nd;rw[aU,cU] at nd;refine⟨S.kg.core λb u e c=>aO e λz=>?_,S.EA.upd (S.xP.bo q (aB ..)),aO S.rd (gg S.rd ho (ac9 Ap.or)),S.rB,S.hl,S.le,⟨?_,λp hp=>?_,?_,λp hp=>?_,S.xP.bl⟩,S.szF,S.szP,S.szK⟩
 ·rw[z,ho] at e;cases e;obtain c|c|c|c:=c
  exact Ap.ok c.symm;exact Ap.of c.symm;exact Ap.ow c.symm;exact Ap.op c.symm
 rw[cZ (gg S.xP.lst ho nofun),S.xP.lst,iM,iM,az,az];rfl
 ·obtain rfl|hp:=aF.mp hp
  exact aq;exact aO (S.xP.obj p (aC _ hp)) λz=>nd.1 (by rw[<-z];exact aA.mpr ⟨p,hp,rfl⟩)
 exact S.xP.nd
 ·obtain rfl|hp:=aF.mp hp
  exact S.xP.bo q (aB ..);exact S.xP.bo p (aC _ hp)
theorem KN{n:Int}{c:GC}{F:List GF}:(putKid n c F).length=F.length:=by unfold putKid setAt;rw[ag]
theorem Gr{n:Int}{c:GC}{F:List GF}{m:Nat}(h:∀f∈F,f.kids.length<=m):∀f∈putKid n c F,f.kids.length<=m+1:=λf hf=>by
 obtain⟨f0,h0,_,rfl⟩|⟨h0,_⟩:=e_ hf
 have:=h f0 h0;have:=Ng (key:=GC.cf) c f0.kids;show(fQ GC.cf c f0.kids).length<=m+1;omega;have:=h f h0;omega
theorem Gs{n p s nx:Int}{o d ch tp:aj}{F:List GF}:(gh n p s nx o d ch tp F).length=F.length+1:=by
 unfold gh;split;rw[aK];rfl;rw[KN,aK];rfl
theorem El{n p s nx:Int}{o d ch tp:aj}{F:List GF}{m:Nat}(h:∀f∈F,f.kids.length<=m):∀f∈gh n p s nx o d ch tp F,f.kids.length<=m+1:=λf hf=>by
 have h0:∀f∈F++[(⟨n,o,d,p,s,nx,ch,[]⟩:GF)],f.kids.length<=m:=λf hf=>by
  obtain z|z:=aP.mp hf
  exact h f z;obtain rfl:=ai.mp z;exact cI _
 unfold gh at hf;split at hf;have:=h0 f hf;omega;exact Gr h0 f hf
end
section
variable{P:bg}{w:cn}{K:au}{mg:Str->Option ax}{base:df}{t:fO}
def KP(t:fO):Sp:=λvs H Q E=>∃(fr r d l ol:aj) (ns:List Int) (i:Nat) (g:G) (B:Hp) (q:Fr) (rest:List Fr) (k:Nat) (T:fm),vs=[.ref fr,.ref r,.ref ol]/\Apart t/\q.tc=k+1/\SR t B H fr r d l ol ns i g ({q with tc:=k}::rest)/\ns.length<=3000/\qS g (q::rest)/\Ab g T/\(∀H' g' S_ T1 i',run (q::rest) (ns.drop i)=(run S_ (ns.drop i')).map (rg T1)->i<i'->S_.length<=rest.length+2->SR t B H' fr r d l ol ns i' g' S_->qS g' S_->Ab g' (both T T1)->g'.nx=g.nx->g'.W=g.W->Q .non H')/\(Fl g.nx T (run (q::rest) (ns.drop i))->∀H',bC B H'->E (.ref t.fD) ay H')
theorem KQ(T:Txt w K mg t):dU P w K mg base (Ih P w t.fD) 5 t.qv t.oE ["fresh","reader","opened"] (KP t):=by
 refine jn.okX T.DL og (λvs H Q E h=>?_) (λiq Ar outer s H vs Q E hr h=>?_);obtain⟨fr,r,d,l,ol,ns,i,g,B,q,rest,k,T0,rfl,_⟩:=h;rfl
 ·obtain⟨fr,r,d,l,ol,ns,i,g,B,q,rest,k,T0,rfl,Ap,hk,S0,hn,I,A,qq,qe⟩:=h;have B3:aM=16777216:=rfl;have hi:=S0.le;obtain⟨f,hf,ef1,ef2,ef3,ef4,_⟩:=I.fr q (aB ..);have TR:=(I.ok.fam f hf).pos;have Rk:=S0.xP.obj _ (aB ..);have aeD:({q with tc:=k}::rest).reverse.map (λr:Fr=>V.ref r.o)=(rest.reverse.map λr=>V.ref r.o)++[V.ref q.o]:=by rw[iM,az];rfl
  have aag:=S0.xP.lst;rw[aeD] at aag;have sR:run (q::rest) (ns.drop i)=ay->∀H',bC B H'->E (.ref t.fD) ay H':=λh=>qe (.inl h);refine⟨_,(ao (cj (i:=3) og.nd rfl (bE rfl) (eX dH (pv 2) (P8 IL aQ) (λ_ _=>rfl)))
   (ao (cj (i:=4) og.nd rfl (bE rfl) (sd (pv 1) T.dC T.jf (nS T) hr.mo T.jD .nil oa))
   (ao (cJ (bI (jh T) hr.mo rfl T.ju T.jC.kp T.lD .nil oa (ah (yD vh P9 (aT (pv 3) rfl) (pv 4) (aT (fq (d9 hr) (aT (pv 0) rfl) (aT (pv 3) rfl) (λ_ _=>rfl)) rfl)) aw)))
   (ao (gP (pv 3) (iO yC (pv 4) aQ) rfl)
   (ao (cj (i:=5) og.nd rfl (bE rfl) (sd (pv 1) T.dC T.jf (nS T) hr.mo T.jD .nil oa))
   (aD (dr (b_ fC (pv 5) (dE rfl T.zH) (ck _))
   (ao (cj (i:=6) og.nd rfl (bE rfl) (sd (pv 1) T.dC T.jf (nS T) hr.mo T.jD .nil oa))
   (ao (cJ (bI (jh T) hr.mo rfl T.ju T.jC.kp T.lD .nil oa (ah (xm (bI (sQ T) hr.mo rfl T.sG T.rF.kp T.uF .nil bQ (ah IJ (ah (pv 6) aw))) (yA (NR (gC (d9 hr) (pv 6) (aT (pv 0) rfl))))) aw)))
   (aD (cJ (cX (pv 0) T.aR T.zo (zN T) hr.mo T.Cr .nil bQ (ah (pv 6) (ah (aT (pv 3) rfl) (ah (pv 4) aw))))))))
   (ao (cJ (bI (jh T) hr.mo rfl T.ju T.jC.kp T.lD .nil oa (ah (xm (jS fC (pv 5) (dE rfl T.zI) (ck _)) (yA (jS P9 (cM cq (by rfl) T.eG bz (ah (pv 2) aw)) (dE rfl T.Nb) (ck _)))) aw)))
   (aD (cJ (tH b8 gb gF rA (pv 2) (ah (bI (yd T) hr.mo rfl T.zA T.vW.kp T.BJ .nil oa (ah (pv 0) (ah (pv 1) (ah (aT (pv 3) rfl) (ah (pv 4) aw))))) aw)))))))))))),?_⟩
  refine⟨_,rfl,_,rfl,_,_,_,_,rfl,rfl,dS.of aag,Qh _ _,?_⟩;show rY _ _ _ [ae (.ref fr),ae (.ref r),ae (.ref ol),ae (.ref q.o),ay,ay,ay] H;refine⟨_,rfl,_,_,_,rfl,S0.rd,rfl,r,d,l,i,ns,rfl,S0.rd,dS.of (S0.EA.same _ _ S0.hl),hi,λs hs H1 m1=>?_,λhz=>sR (by rw[FH hz];exact Z_ hk) _ S0.EA.same⟩;have e1:=Pl hs;have l1:=Ac hs;have S1:=S0.move Ap m1 (nJ i) l1;have ho1:=S1.xP.obj _ (aB ..);show rY _ _ _ [ae (.ref fr),ae (.ref r),ae (.ref ol),ae (.ref q.o),ae (.int s),ay,ay] H1;have agH:(CY s q.low (q.nx -1)=false)->E (.ref t.fD) ay H1:=λhb=>sR (by rw[e1];exact Z' hk hb) _ S1.EA.same;refine⟨_,rfl,_,_,_,_,_,rfl,ho1,T.i5,T.ke,rfl,_,rfl,_,_,rfl,rfl,_,rfl,?_⟩;refine cN (λc1=>?_) (λc1=>?_)
  rotate_left
  refine⟨_,rfl,λz=>(by cases z),λ_=>agH ?_⟩;unfold CY;have c1:¬q.low<=s:=λz=>c1 (decide_eq_true z);rw[decide_eq_false c1];rfl;have c1:q.low<=s:=of_decide_eq_true c1;refine⟨_,rfl,_,_,_,_,_,rfl,S1.kg.kept,T.aR,T.bH,rfl,_,rfl,_,_,_,_,_,rfl,ho1,T.i5,T.i6,rfl,_,_,rfl,S1.kg.sJ (cB I.ok.lO hf ef1),_,_,_,_,_,rfl,(S1.kg.fam f hf).obj,T.dB,T.gD,rfl,_,_,rfl,rfl,?_⟩;refine⟨_,rfl,λc2=>?_,λc2=>agH ?_⟩
  rotate_left
  have c2:¬s<f.fN:=of_decide_eq_false c2;unfold CY;rw[decide_eq_false (show ¬s<=q.nx -1 by omega),jl];have c2:s<f.fN:=of_decide_eq_true c2;have cR:¬CY s q.low (q.nx -1)=false:=by
   unfold CY;rw[decide_eq_true c1,decide_eq_true (show s<=q.nx -1 by omega)];decide
  refine⟨_,rfl,_,_,rfl,rfl,_,rfl,_,_,_,_,rfl,ho1,T.i5,T.ke,(by show 3<1000;decide),?_⟩;have S2:=S1.top (k:=k) (lo:=s+1) Ap;show rY _ _ _ [ae (.ref fr),ae (.ref r),ae (.ref ol),ae (.ref q.o),ae (.int s),ay,ay] (upd H1 q.o (.ins t.eL q.d (fOp q.num k (s+1))));have S2:SR t B (upd H1 q.o (.ins t.eL q.d (fOp q.num k (s+1)))) fr r d l ol ns (i+1) g ({q with tc:=k,low:=s+1}::rest):=S2;generalize upd H1 q.o (.ins t.eL q.d (fOp q.num k (s+1)))=H2 at S2;refine⟨_,rfl,_,_,_,rfl,S2.rd,rfl,r,d,l,i+1,ns,rfl,S2.rd,dS.of (S2.EA.same _ _ S2.hl),S2.le,λmk hmk H3 m3=>?_,λhz=>sR (by rw[e1,FH hz];exact VM hk) _ S2.EA.same⟩;have e2:=Pl hmk;have l2:=Ac hmk;have S3:=S2.move Ap m3 (nJ _) l2;have ho3:=S3.xP.obj _ (aB ..);have gf:bj GF.num q.num g.F=ae f:=cB I.ok.lO hf ef1;refine⟨_,rfl,rfl,_,rfl,?_⟩;refine cN (λc3=>?_) (λc3=>?_)
  ·have c3:mk=0:=V.int.inj (aY c3);subst c3;refine⟨_,rfl,_,_,_,rfl,S3.rd,rfl,r,d,l,i+1+1,ns,rfl,S3.rd,dS.of (S3.EA.same _ _ S3.hl),S3.le,λx hx H4 m4=>?_,λhz=>sR (by rw[e1,e2,FH hz];exact aey hk) _ S3.EA.same⟩;have e3:=Pl hx;have l3:=Ac hx;have S4:=S3.move Ap m4 (nJ _) l3;have ho4:=S4.xP.obj _ (aB ..);show rY _ _ _ [ae (.ref fr),ae (.ref r),ae (.ref ol),ae (.ref q.o),ae (.int s),ae (.int 0),ae (.int x)] H4;refine⟨_,rfl,"person",x,1,1000000000,rfl,rfl,rfl,_,rfl,?_⟩;refine cN (λc4=>?_) (λc4=>?_)
   rotate_left
   refine⟨_,rfl,λz=>(by cases z),λ_=>sR (by rw[e1,e2,e3];exact Mq hk (bP.mpr c4)) _ S4.EA.same⟩;have hx1:0<x/\x<=1000000000:=by
    rw[aH,bJ,bJ] at c4;omega
   refine⟨_,rfl,_,rfl,_,_,_,_,_,rfl,S4.kg.kept,T.aR,T.dy,rfl,_,_,rfl,S4.kg.r.J1,?_⟩;rw[bZ];have Bf:=Ux (rest:=rest) (q:=ns.drop (i+1+1+1)) hk cR c4;rw[<-e3,<-e2,<-e1] at Bf;cases e4:bj GP.id x g.P with
   |some p0=>
    refine⟨_,rfl,λz=>(by cases z),λ_=>qe (Fl.of Bf (Fl.bad (λhb=>?_) _)) _ S4.EA.same⟩;obtain⟨hp0,ep0⟩:=bD e4;have hb:=hb.2.1;have hb:((T0.2++[(⟨x.toNat,q.num.toNat,s.toNat⟩:fT)]).map λp=>p.id).Nodup:=hb;rw[az] at hb;refine(iN.mp hb).2.2 x.toNat ?_ x.toNat (ai.mpr rfl) rfl;rw[<-A.P,bx];exact aA.mpr ⟨p0,hp0,by show p0.id.toNat=x.toNat;rw[ep0]⟩
   |none=>
    have hnx:=fV e4;refine⟨_,rfl,λ_=>?_,λz=>(by cases z)⟩;refine⟨_,rfl,_,_,_,rfl,S4.kg.kept,rfl,_,rfl,_,rfl,_,_,_,_,_,rfl,ho4,T.i5,T.i6,rfl,_,rfl,fr,g,x,q.num,s,f,rfl,S4.kg,gf,(by have:=S0.szK f hf;omega),(by have:=S0.szP;omega),λH5 o d2 tp Yg St5=>?_⟩;have F5:=St5.frm S4.kg;obtain⟨I',A'⟩:=I.person (T:=T0) hk c1 (by omega) hx1.1 hx1.2 hnx (rfl:_={g with F:=putKid q.num ⟨s,tp,0,x⟩ g.F,P:=fQ GP.id ⟨x,o,d2,q.num,s⟩ g.P});refine qq H5 _ _ _ (i+1+1+1) Bf (by omega) (by show rest.length+1<=_;omega) ⟨Yg,S4.EA.step St5,F5.keep _ _ S4.rd ⟨Ap.rk.symm,Ap.rf.symm,Ap.rw.symm⟩,S4.rB,S4.hl,S4.le,S4.xP.keep Ap S4.rd (λb u e st _=>F5.keep b u e st),?_,?_,λf' dZ=>?_⟩ I' (A' A) rfl rfl;have:=S0.szF;show(putKid _ _ _).length<=_;rw[KN];omega;have:=S0.szP;have:=Ng (key:=GP.id) ⟨x,o,d2,q.num,s⟩ g.P;show(fQ GP.id _ _).length<=_;omega;have:=Gr S0.szK f' dZ;omega
  ·have c3:mk≠0:=λz=>c3 (by rw[z];rfl);refine⟨_,rfl,rfl,_,rfl,?_⟩;refine cN (λc4=>?_) (λc4=>?_)
   rotate_left
   have c4:mk≠1:=λz=>c4 (by rw[z];rfl);exact⟨_,rfl,λz=>(by cases z),λ_=>sR (by rw[e1,e2];exact aac hk c3 c4) _ S3.EA.same⟩;have c4:mk=1:=V.int.inj (aY c4);subst c4;have Ez:=S3.xP.lst;have aah:({q with tc:=k,low:=s+1}::rest).reverse.map (λr:Fr=>V.ref r.o)=(rest.reverse.map λr=>V.ref r.o)++[V.ref q.o]:=by rw[iM,az];rfl
   rw[aah] at Ez;refine⟨_,rfl,_,_,rfl,.inl (dS.of Ez),_,_,rfl,rfl,?_⟩;have agI:((rest.reverse.map λr:Fr=>V.ref r.o)++[V.ref q.o]).length=rest.length+1:=by rw[aK,ag,oS];rfl
   rw[agI];refine⟨_,rfl,λc5=>?_,λc5=>sR (by rw[e1,e2];exact KC hk (by omega) λz=>of_decide_eq_false c5 (by have:=z.1;omega)) _ S3.EA.same⟩;have c5:rest.length+1<40:=by have:=aY c5;omega
   refine⟨_,rfl,.inl ⟨rfl,_,dS.of Ez⟩,_,rfl,_,rfl,_,rfl,_,_,_,_,_,rfl,ho3,T.i5,T.i6,rfl,_,rfl,?_⟩;refine⟨fr,r,d,l,i+1+1,ns,g,q.num,s,B,rfl,Ap,S3.kg,S3.EA,S3.rB,S3.rd,S3.hl,S3.le,(by have:=S0.szF;omega),.inr ⟨f,gf,by have:=S0.szK f hf;omega⟩,λnum nx k' rr hd H4 o dd fo fd ch tp BX Pn rd4 hoB hoH ho4 VR l5=>?_,λnh=>?_⟩
   rotate_left
   ·by_cases hx:∃num nx k' r',ns.drop (i+1+1)=num::nx::k'::r'/\q.num<num/\1<=k'
    ·obtain⟨num,nx,k',r',eh,h1,h2⟩:=hx;have Bf:=VP (rest:=rest) (r:=r') (nx:=nx) hk c5 cR (by omega) h1 h2 0 0;rw[<-eh,<-e2,<-e1] at Bf;refine qe (Fl.of Bf (Fl.bad (λhb=>nh ⟨num,nx,k',r',eh,h1,?_,λf' dZ z=>?_,h2⟩) _));have:=hb.2.2 (⟨num.toNat,q.num.toNat,s.toNat,nx.toNat⟩:Fam) (bc _ (ai.mpr rfl));have this:((num.toNat:Nat):Int)<g.nx:=this;omega;have hb:((T0.1++[(⟨num.toNat,q.num.toNat,s.toNat,nx.toNat⟩:Fam)]).map λp=>p.num).Nodup:=hb.1;rw[az] at hb;refine(iN.mp hb).2.2 num.toNat ?_ num.toNat (ai.mpr rfl) rfl;rw[<-A.F,bx];exact aA.mpr ⟨f',dZ,by show f'.num.toNat=num.toNat;rw[z]⟩
    exact sR (by rw[e1,e2];exact KC hk (by omega) λz=>hx z.2)
   ·obtain⟨eh,h1,h2,h3,h4⟩:=hd;have Bf:=VP (rest:=rest) (r:=rr) (nx:=nx) hk c5 cR (by omega) h1 h4 o dd;rw[<-eh,<-e2,<-e1] at Bf;have e5:rr=ns.drop (i+1+1+3):=by
     have:=da (HW 3) eh;rw[nG] at this;exact this.symm
    rw[e5] at Bf;have st4:=S3.xP.keep (H':=H4) Ap S3.rd VR;have Rt:=st4.lst;have agK:=Rt;rw[aah] at agK;refine⟨ol,_,_,rfl,rfl,agK,(by rw[agI];omega),?_⟩;obtain⟨I',A'⟩:=I.child (T:=T0) (k':=k'.toNat) (o:=o) (d:=dd) hk c1 (by omega) c5 h1 h2 h3 (by omega) (rfl:_={g with F:=gh num q.num s nx fo fd ch tp g.F});have noo:∀p∈{q with tc:=k,low:=s+1}::rest,p.o≠o:=λp hp z=>by
     have:=S3.xP.obj p hp;rw[z,hoH] at this;cases this
    have nol:o≠ol:=λz=>by rw[z,S3.xP.lst] at hoH;cases hoH
    refine qq _ _ _ _ (i+1+1+3) Bf (by omega) (by show rest.length+1+1<=_;omega) ⟨BX.core λb u e c=>aO e λz=>?_,Pn.upd S3.xP.bl,aO rd4 (gg rd4 Rt nofun),S3.rB,S3.hl,l5,⟨?_,λp hp=>?_,?_,λp hp=>?_,S3.xP.bl⟩,?_,?_,λf' dZ=>?_⟩ I' (A' A) rfl rfl;rw[z,Rt] at e;cases e;exact c;rw[aq,iM,az,aah];rfl
    ·obtain rfl|hp:=aF.mp hp
     ·have ek:((k'.toNat:Nat):Int)=k':=by omega
      show upd H4 ol _ o=ae (.ins t.eL dd (fOp num ((k'.toNat:Nat):Int) 0));rw[ek];exact aO ho4 nol
     exact aO (st4.obj p hp) (gg (st4.obj p hp) Rt nofun)
    rw[aU,cU];refine⟨λz=>?_,st4.nd⟩;obtain⟨p,hp,e⟩:=aA.mp z;exact noo p hp e
    ·obtain rfl|hp:=aF.mp hp
     exact hoB;exact st4.bo p hp
    have:=S0.szF;show(gh _ _ _ _ _ _ _ _ _).length<=_;rw[Gs];omega;have:=S0.szP;show g.P.length<=_;omega;have:=El S0.szK f' dZ;omega
end
end
section
open Vbdeah (Bank Fam both readForest readFam)
section
variable{t:fO}{B H H':Hp}{fr r d l ol:aj}{ns:List Int}{i j:Nat}{g:G}{fs:List Fr}
theorem SR.akc{q:Fr}{rest:List Fr}(S:SR t B H fr r d l ol ns i g (q::rest)):SR t B (upd H ol (.lst (rest.reverse.map λr=>V.ref r.o))) fr r d l ol ns i g rest:=by
 have nd:=S.xP.nd;rw[aU,cU] at nd;have hl:=S.xP.lst;refine⟨S.kg.core λb u e c=>aO e λz=>?_,S.EA.upd S.xP.bl,aO S.rd (gg S.rd hl nofun),S.rB,S.hl,S.le,⟨aq,λp hp=>?_,nd.2,λp hp=>S.xP.bo p (aC _ hp),S.xP.bl⟩,S.szF,S.szP,S.szK⟩;rw[z,hl] at e;cases e;exact c;have ho:=S.xP.obj p (aC _ hp);exact aO ho (gg ho hl nofun)
end
theorem AH(y:fm):both y ([],[])=y:=by
 obtain⟨a,c⟩:=y;show(a++[],c++[])=(a,c);rw[cD,cD]
section
variable{P:bg}{w:cn}{K:au}{mg:Str->Option ax}{base:df}{t:fO}
def Em(t:fO):Sp:=λvs H Q E=>∃(fr r d l ol:aj) (ns:List Int) (i:Nat) (g:G) (B:Hp) (fs:List Fr) (T:fm),vs=[.ref fr,.ref r,.ref ol]/\Apart t/\SR t B H fr r d l ol ns i g fs/\ns.length<=3000/\qS g fs/\Ab g T/\(∀H' g' Y i',run fs (ns.drop i)=ae (Y,ns.drop i')->i<=i'->SR t B H' fr r d l ol ns i' g' []->qS g' []->Ab g' (both T Y)->g'.nx=g.nx->g'.W=g.W->Q .non H')/\(Fl g.nx T (run fs (ns.drop i))->∀H',bC B H'->E (.ref t.fD) ay H')
theorem En(T:Txt w K mg t):dU P w K mg base (Ih P w t.fD) 6 t.ll t.j_ ["fresh","reader","opened"] (Em t):=by
 refine jn.okX T.xX wJ (λvs H Q E h=>?_) (λiq Ar outer s H vs Q E hr h=>?_);obtain⟨fr,r,d,l,ol,ns,i,g,B,fs,T0,rfl,_⟩:=h;rfl
 ·obtain⟨fr,r,d,l,ol,ns,i,g,B,fs,T0,rfl,Ap,S0,hn,I0,A0,qq,qe⟩:=h;have B3:aM=16777216:=rfl;refine⟨_,(aD (rZ uV (b_ FR (cM cq (by rfl) T.eG bz (ah (pv 2) aw)) aQ (ck _)) (ao (cj (i:=3) wJ.nd rfl (bE rfl) (eX dH (pv 2) (P8 IL aQ) (λ_ _=>rfl))) (aD (dr (b_ fC (aT (pv 3) rfl) aQ (ck _)) (aD (cJ (Tw b8 tD yh TB (pv 2)))) (ao (gP (pv 3) (iO Cg (aT (pv 3) rfl) aQ) rfl) (aD (cJ (bI (KQ T) hr.mo rfl T.LS T.DL.kp T.Om .nil oa (ah (pv 0) (ah (pv 1) (ah (pv 2) aw)))))))))))),?_⟩;refine AG (λm σ H'=>∃(g':G) (S_:List Fr) (T1:fm) (i':Nat) (v:Option V),σ=[ae (.ref fr),ae (.ref r),ae (.ref ol),v]/\run fs (ns.drop i)=(run S_ (ns.drop i')).map (rg T1)/\i<=i'/\SR t B H' fr r d l ol ns i' g' S_/\qS g' S_/\Ab g' (both T0 T1)/\g'.nx=g.nx/\g'.W=g.W/\m=2*(ns.length -i')+S_.length) (2*(ns.length -i)+fs.length) ⟨g,fs,([],[]),i,ay,rfl,VJ.symm,aJ _,S0,I0,by rw[AH];exact A0,rfl,rfl,rfl⟩ ?_;rintro m σ H' ⟨g',S_,T1,i',v,rfl,Bf,hii,S,I,A,en,eW,rfl⟩;have aag:=S.xP.lst;refine⟨_,rfl,_,_,rfl,.inl (dS.of aag),_,_,rfl,rfl,_,rfl,?_⟩;rw[ag,oS];refine cN (λc1=>?_) (λc1=>?_)
  ·cases S_ with
   |nil=>exact bM c1 (by decide)
   |cons q rest=>
    have aeD:(q::rest).reverse.map (λr:Fr=>V.ref r.o)=(rest.reverse.map λr=>V.ref r.o)++[V.ref q.o]:=by rw[iM,az];rfl
    have VS:=aag;rw[aeD] at VS;have ho:=S.xP.obj q (aB ..);have hle:=S.le;refine⟨_,λσ' H' z=>z,?_⟩;refine⟨_,rfl,_,rfl,_,_,_,_,rfl,rfl,dS.of VS,Qh _ _,?_⟩;refine⟨_,rfl,_,_,_,_,_,rfl,ho,T.i5,T.lV,rfl,rfl,_,rfl,?_⟩;refine cN (λc2=>?_) (λc2=>?_)
    ·have c2:q.tc=0:=by have:=V.int.inj (aY c2);omega
     refine⟨_,rfl,.inl ⟨rfl,_,dS.of VS⟩,ol,_,_,rfl,rfl,VS,OZ _ _,?_⟩;rw[List.dropLast_concat];exact⟨2*(ns.length -i')+rest.length,(by rw[aL];omega),g',rest,T1,i',_,rfl,by rw[ab9 c2] at Bf;exact Bf,hii,S.akc,I.pop c2,A,en,eW,rfl⟩
    ·have c2:q.tc≠0:=λz=>c2 (by rw[z];rfl);obtain⟨k,hk⟩:∃k,q.tc=k+1:=⟨q.tc -1,by omega⟩;refine⟨_,rfl,_,_,_,_,_,rfl,ho,T.i5,T.lV,rfl,_,_,rfl,rfl,_,rfl,_,_,_,_,rfl,ho,T.i5,T.lV,(by show 3<1000;decide),?_⟩;have ek:(q.tc:Int) -1=(k:Int):=by omega
     have S2:=S.top (k:=k) (lo:=q.low) Ap;rw[<-ek] at S2;refine⟨_,rfl,_,rfl,_,rfl,fr,r,d,l,ol,ns,i',g',B,q,rest,k,both T0 T1,rfl,Ap,hk,S2,hn,I,A,λH3 g3 fs3 T3 i3 er3 hi3 l3 S3 I3 A3 n3 w3=>?_,λhf=>qe (Fl.of Bf (by rw[<-en];exact hf))⟩;have:=S3.le;refine⟨2*(ns.length -i3)+fs3.length,(by rw[aL];omega),g3,fs3,both T1 T3,i3,_,rfl,?_,by omega,S3,I3,by rw[pP];exact A3,n3.trans en,w3.trans eW,rfl⟩;rw[Bf,er3,VL]
  ·have hz:S_=[]:=by
    cases S_ with
    |nil=>rfl
    |cons x y=>exact bM (by show decide ((0:Int)<((y.length+1:Nat):Int))=true;exact bG (by omega)) c1
   subst hz;refine qq H' g' T1 i' ?_ hii S I A en eW;rw[Bf];show ae (both T1 ([],[]),_)=_;rw[AH]
def FlF(nx:Int)(R:Option fm):Prop:=R=ay\/∃y,R=ae y/\Bad nx y
theorem aai{f:Fr}{l:List Int}:run [f] l=pQ 39 f l:=by
 show((pQ 39 f l).bind λx=>(run [] x.2).map (rg x.1))=_;cases pQ 39 f l with
 |none=>rfl
 |some x=>
  show ae (both x.1 ([],[]),x.2)=ae x;rw[AH]
theorem Gu{fu:Nat}{lo num nx k:Int}{rest:List Int}(h1:0<num)(h2:1<=k)(h3:¬num<lo)(o d:aj):readForest (fu+1) lo (num::nx::k::rest)=((run [⟨o,d,num,k.toNat,0,nx⟩] rest).map (rg ([⟨num.toNat,0,0,nx.toNat⟩],[]))).bind λx=>(readForest fu (num+1) x.2).map λy=>both x.1 y:=by
 rw[aai];show(if num<lo then ay else(readFam 40 0 0 (num::nx::k::rest)).bind λx=>(readForest fu (num+1) x.2).map λy=>both x.1 y)=_;rw[aX h3,aad (n:=39) (by omega) h2];rfl
theorem Nr{fu:Nat}{lo num:Int}{rest:List Int}(h:num<lo):readForest (fu+1) lo (num::rest)=ay:=bw h
theorem XH{fu:Nat}{lo:Int}{l:List Int}(hl:l≠[])(h:¬∃num nx k r,l=num::nx::k::r/\0<num/\1<=k):readForest (fu+1) lo l=ay:=by
 cases l with
 |nil=>exact bM rfl hl
 |cons num r=>
  show(if num<lo then ay else(readFam 40 0 0 (num::r)).bind λx=>(readForest fu (num+1) x.2).map λy=>both x.1 y)=ay;by_cases z:num<lo;rw[bw z];rw[aX z,aae λ⟨a,b,c,q,e,h1,h2⟩=>h ⟨a,b,c,q,e,by omega,h2⟩];rfl
theorem aaj{nx:Int}{T S:fm}{fu:Nat}{lo:Int}{R:Option (fm×List Int)}(h:Fl nx (both T S) R):FlF nx (((R.map (rg S)).bind λx=>(readForest fu lo x.2).map λy=>both x.1 y).map (both T)):=by
 obtain z|⟨y,z,hb⟩:=h
 exact .inl (by rw[z];rfl)
 ·rw[z];show FlF nx (((readForest fu lo y.2).map λy'=>both (both S y.1) y').map (both T));cases readForest fu lo y.2 with
  |none=>exact .inl rfl
  |some y'=>
   refine .inr ⟨_,rfl,?_⟩;rw[pP,pP];exact hb.both _
def HG(t:fO):Sp:=λvs H Q E=>∃(fr l:aj) (ns:List Int) (g:G) (B:Hp),vs=[.ref fr,.ref l]/\Apart t/\cW t H fr g/\Le B H fr g/\B l=ae (.lst (ns.map V.int))/\ns.length<=3000/\qS g []/\Ab g ([],[])/\(∀H' g' Y,readForest ns.length 1 ns=ae Y->cW t H' fr g'->Le B H' fr g'->qS g' []->Ab g' Y->g'.nx=g.nx->g'.W=g.W->g'.F.length<=3000->g'.P.length<=3000->(∀f∈g'.F,f.kids.length<=3000)->Q .non H')/\(FlF g.nx (readForest ns.length 1 ns)->∀H',bC B H'->E (.ref t.fD) ay H')
theorem HJ(T:Txt w K mg t):dU P w K mg base (Ih P w t.fD) 7 t.oB t.mK ["fresh","forest"] (HG t):=by
 refine jn.okX T.BI mv (λvs H Q E h=>?_) (λiq Ar outer s H vs Q E hr h=>?_);obtain⟨fr,l,ns,g,B,rfl,_⟩:=h;rfl
 ·obtain⟨fr,l,ns,g,B,rfl,Ap,KG,EA,hl,hn,I0,A0,qq,qe⟩:=h;have B3:aM=16777216:=rfl;have eP0:g.P=[]:=uc.mp A0.P;have eF0:g.F=[]:=uc.mp A0.F;refine⟨_,(ao (cj (i:=2) mv.nd rfl (bE rfl) (xn T.E5 (uR T) hr.mo rfl T.E4 T.vV .nil bQ (ah (pv 1) aw))) (ao (cj (i:=3) mv.nd rfl (bE rfl) aQ) (aD (rZ uV (vO (vN (sd (pv 2) T.dC T.nO (nQ T) hr.mo T.pJ .nil bQ))) (ao (cj (i:=4) mv.nd rfl (bE rfl) (cv (ah (bI (yd T) hr.mo rfl T.zA T.vW.kp T.BJ .nil oa (ah (pv 0) (ah (pv 2) (ah aQ (ah aQ aw))))) aw))) (ao (cJ (bI (jh T) hr.mo rfl T.ju T.jC.kp T.lD .nil oa (ah (jS FR (aT (eX dH (pv 4) aQ (λ_ _=>rfl)) rfl) (pv 3) (ck _)) aw))) (ao (cj (i:=3) mv.nd rfl (bE rfl) (aT (eX dH (pv 4) aQ (λ_ _=>rfl)) rfl)) (aD (cJ (bI (En T) hr.mo rfl T.E_ T.xX.kp T.GZ .nil oa (ah (pv 0) (ah (pv 2) (ah (pv 4) aw))))))))))))),?_⟩;refine⟨_,rfl,?_⟩;intro r d hr0 hd0 ndr;refine⟨r,d,l,rfl,aq,rfl,?_⟩;rw[hJ];have s1:bC H (upd (upd H d (.own r)) r (.ins t.du d (SQ l 0))):=λb u e=>aO (aO e (aI e hd0)) (aI e hr0);have e1:upd (upd H d (.own r)) r (.ins t.du d (SQ l 0)) r=ae (.ins t.du d (SQ l 0)):=aq;generalize upd (upd H d (.own r)) r (.ins t.du d (SQ l 0))=H1 at s1 e1;have hrB:B r=ay:=cY EA.same hr0;show rY _ _ _ [ae (.ref fr),ae (.ref l),ae (.ref r),ay,ay] H1;show EI _ _ _ [ae (.ref fr),ae (.ref l),ae (.ref r),ae (.int 0),ay] H1;refine AG (λm σ H'=>∃(g':G) (T1:fm) (i:Nat) (lr:Int) (v:Option V),σ=[ae (.ref fr),ae (.ref l),ae (.ref r),ae (.int lr),v]/\readForest ns.length 1 ns=(readForest m (lr+1) (ns.drop i)).map (both T1)/\0<=lr/\i<=ns.length/\ns.length -i<=m/\cW t H' fr g'/\Le B H' fr g'/\xH t H' r d l i/\qS g' []/\Ab g' T1/\g'.nx=g.nx/\g'.W=g.W/\g'.F.length<=i/\g'.P.length<=i/\∀f∈g'.F,f.kids.length<=i) ns.length ⟨g,([],[]),0,0,ay,rfl,?_,lJ _,cI _,Nat.sub_le _ _,KG.same s1,EA.new s1,e1,I0,A0,rfl,rfl,by rw[eF0];exact aJ _,by rw[eP0];exact aJ _,by rw[eF0];simp⟩ ?_
  ·show _=(readForest ns.length 1 ns).map (both ([],[]));cases readForest ns.length 1 ns with
   |none=>rfl
   |some y=>show ae y=ae (both ([],[]) y);rw[RQ]
  rintro m σ H' ⟨g',T1,i,lr,v,rfl,Hj,hlr,hi,hm,Yf,Mr,rd',I,A,en,eW,z1,z2,z3⟩;have sZ:=Mr.same _ _ hl;refine⟨_,rfl,_,_,_,rfl,rd',rfl,r,d,l,i,ns,rfl,rd',dS.of sZ,_,rfl,?_⟩;by_cases wA:ns.length<=i
  ·rw[decide_eq_true wA];have ei:ns.drop i=[]:=rh wA;refine qq H' g' T1 ?_ Yf Mr I A en eW (by omega) (by omega) (λf hf=>by have:=z3 f hf;omega);rw[Hj,ei];have:readForest m (lr+1) []=ae ([],[]):=by unfold readForest;cases m<;>rfl
   rw[this];show ae (both T1 ([],[]))=ae T1;rw[AH]
  ·rw[u5 wA];obtain⟨fu,rfl⟩:∃fu,m=fu+1:=⟨m -1,by omega⟩;have ene:ns.drop i≠[]:=λz=>wA (Bk.mp z);refine⟨_,λσ' H' z=>z,?_⟩;refine⟨_,rfl,_,rfl,fr,r,d,l,i,ns,g',0,0,B,rfl,Ap,Yf,Mr,hrB,rd',hl,hi,(by omega),.inl rfl,λnum nx k rest hd H2 o dd fo fd ch tp gG HF rd2 hoB hoH ho2 amk l3=>?_,λnh=>?_⟩
   rotate_left
   ·by_cases hx:∃num nx k r,ns.drop i=num::nx::k::r/\0<num/\1<=k
    ·obtain⟨num,nx,k,r',eh,h1,h2⟩:=hx;refine qe ?_;rw[Hj,eh];by_cases hlo:num<lr+1;rw[Nr hlo];exact .inl rfl
     ·rw[Gu h1 h2 hlo 0 0];refine aaj (Fl.bad (λhb=>nh ⟨num,nx,k,r',eh,h1,?_,λf' dZ z=>?_,h2⟩) _);have:=hb.2.2 (⟨num.toNat,0,0,nx.toNat⟩:Fam) (bc _ (ai.mpr rfl));have this:((num.toNat:Nat):Int)<g.nx:=this;omega;have hb:((T1.1++[(⟨num.toNat,0,0,nx.toNat⟩:Fam)]).map λp=>p.num).Nodup:=hb.1;rw[az] at hb;refine(iN.mp hb).2.2 num.toNat ?_ num.toNat (ai.mpr rfl) rfl;rw[<-A.F,bx];exact aA.mpr ⟨f',dZ,by show f'.num.toNat=num.toNat;rw[z]⟩
    exact qe (.inl (by rw[Hj,XH ene hx];rfl))
   ·obtain⟨eh,h1,h2,h3,h4⟩:=hd;refine⟨AV,λol hol=>?_⟩;have ao9:o≠ol:=λz=>by rw[<-z,ho2] at hol;cases hol
    have s3:bC H2 (upd H2 ol (.lst [V.ref o])):=bC.new hol;have Vy:upd H2 ol (.lst [V.ref o]) ol=ae (.lst [V.ref o]):=aq;generalize upd H2 ol (.lst [V.ref o])=H3 at s3 Vy;have ho3:=s3 _ _ ho2;have acd:=HF.new s3;show rY _ _ _ [ae (.ref fr),ae (.ref l),ae (.ref r),ae (.int lr),ae (.ref ol)] H3;refine⟨_,rfl,_,_,_,_,rfl,rfl,dS.of Vy,cQ (j:=0) (v:=V.ref o) rfl,_,_,_,_,_,rfl,ho3,T.i5,T.i6,rfl,_,rfl,_,_,rfl,rfl,?_⟩;refine⟨_,rfl,λc1=>?_,λc1=>?_⟩
    rotate_left
    have c1:¬lr<num:=of_decide_eq_false c1;exact qe (.inl (by rw[Hj,eh,Nr (by omega)];rfl)) _ acd.same;have c1:lr<num:=aY c1;refine⟨_,rfl,_,_,_,_,rfl,rfl,dS.of Vy,cQ (j:=0) (v:=V.ref o) rfl,_,_,_,_,_,rfl,ho3,T.i5,T.i6,rfl,?_⟩;obtain⟨I',A'⟩:=I.root (T:=T1) (k':=k.toNat) (o:=o) (d:=dd) h1 h2 h3 (by omega) (rfl:_={g' with F:=gh num 0 0 nx fo fd ch tp g'.F});have adb:=Gu (fu:=fu) (lo:=lr+1) (nx:=nx) (rest:=rest) h1 h4 (by omega) o dd;have e5:rest=ns.drop (i+3):=by
     have:=da (HW 3) eh;rw[nG] at this;exact this.symm
    rw[<-eh] at adb;rw[adb,e5] at Hj;have S3:SR t B H3 fr r d l ol ns (i+3) {g' with F:=gh num 0 0 nx fo fd ch tp g'.F} [⟨o,dd,num,k.toNat,0,nx⟩]:=by
     refine⟨gG.same s3,acd,s3 _ _ rd2,hrB,hl,l3,⟨Vy,λp hp=>?_,by simp,λp hp=>?_,cY HF.same hol⟩,?_,?_,λf' dZ=>?_⟩
     ·obtain rfl:=ai.mp hp;have ek:((k.toNat:Nat):Int)=k:=by omega
      show H3 o=ae (.ins t.eL dd (fOp num ((k.toNat:Nat):Int) 0));rw[ek];exact ho3
     obtain rfl:=ai.mp hp;exact hoB;show(gh num 0 0 nx fo fd ch tp g'.F).length<=i+3;rw[Gs];omega;show g'.P.length<=_;omega;have:=El z3 f' (show f'∈gh num 0 0 nx fo fd ch tp g'.F from dZ);omega
    refine⟨_,rfl,_,rfl,_,rfl,fr,r,d,l,ol,ns,i+3,_,B,_,_,rfl,Ap,S3,hn,I',A' A,λH4 g4 Y i4 er4 hi4 S4 I4 A4 n4 w4=>?_,λhf=>qe ?_⟩
    ·have l4:=S4.le;refine⟨fu,nY _,g4,_,i4,num,_,rfl,?_,by omega,l4,by omega,S4.kg,S4.EA,S4.rd,I4,A4,n4.trans en,w4.trans eW,S4.szF,S4.szP,S4.szK⟩;rw[Hj,er4];show((readForest fu (num+1) (ns.drop i4)).map λy=>both (both ([⟨num.toNat,0,0,nx.toNat⟩],[]) Y) y).map (both T1)=_;cases readForest fu (num+1) (ns.drop i4) with
     |none=>rfl
     |some y=>
      show ae (both T1 (both (both _ Y) y))=ae (both (both (both T1 _) Y) y);rw[pP,pP]
    rw[Hj];have hf:Fl g'.nx _ _:=hf;rw[en] at hf;exact aaj hf
end
end
def qT(g:G)(fam kd pl:Int):List GW:=g.W.filter (gq g fam kd pl)
def xJ(n:Int)(w:GW):Bool:= !decide (w.num=n)
def B5(n:Int)(w:GW):Bool:= !decide (w.id=n)
def XI(g:G)(fam:Int)(v:GW):Bool:=(decide (1<=v.num)&&decide (v.num<=999))&&decide ((qT g fam 1 v.place).length=1)
def XJ(g:G)(fam:Int)(v:GW):Bool:=(decide (2<=v.num)&&decide (v.num<=1000))&&(decide (((qT g fam 2 v.place).filter (xJ v.num)).length=0)&&decide (((qT g fam 2 v.place).length:Int)<v.num))
def XM(g:G)(fam:Int)(v:GW):Bool:=(decide (0<=v.num)&&decide (v.num<=999))&&decide ((((qT g fam 3 v.num).filter (tL v.place)).filter (B5 v.id)).length=0)
def mws(g:G)(fam:Int)(v:GW):Bool:=if v.kind=1 then XI g fam v else if v.kind=2 then XJ g fam v else if v.kind=3 then XM g fam v else decide (v.kind=4)&&decide (v.num=0)
theorem Uy{n m:Nat}:decide (V.int (n:Int)=V.int (m:Int))=decide (n=m):=decide_eq_decide.mpr ⟨λz=>by have:=V.int.inj z;omega,λz=>by rw[z]⟩
theorem Iq{n m:Int}:decide (V.int n=V.int m)=decide (n=m):=decide_eq_decide.mpr ⟨λz=>V.int.inj z,λz=>by rw[z]⟩
section
variable{P:bg}{w:cn}{K:au}{mg:Str->Option ax}{base:df}{t:fO}
def KR(t:fO):Sp:=λvs H Q _=>∃(k:aj) (g:G) (x:Int) (v:GW) (p:GP),vs=[.ref k,.int x]/\eI t H k g/\bj GW.id x g.W=ae v/\bj GP.id x g.P=ae p/\uM g/\g.W.length<=4000/\∀H',bC H H'->Q (.bl (mws g p.fam v)) H'
theorem KS(T:Txt w K mg t):dU P w K mg base kI 4 t.oG t.mM ["fresh","x"] (KR t):=by
 refine T.BK.ok i_ (λvs H Q E h=>?_) (λiq Ar outer s H vs Q E hr h=>?_);obtain⟨k,g,x,v,p,rfl,_⟩:=h;rfl
 ·obtain⟨k,g,x,v,p,rfl,KG,hv,hp,WL,sz,q⟩:=h;obtain⟨B2,ev⟩:=bD hv;have B3:aM=16777216:=rfl;have hw:=KG.wait v B2;refine⟨_,(ao (cj (i:=2) i_.nd rfl (PD rfl) (fq (d9 hr) (aT (pv 0) rfl) (pv 1) (λ_ _=>rfl))) (ao (cj (i:=3) i_.nd rfl (bE rfl) (bI (Az T) hr.mo rfl T.Av T.zr.kp T.DI .nil bQ (ah (pv 0) (ah (pv 1) (ah (aT (pv 2) rfl) (ah (aT (pv 2) rfl) aw)))))) (ao (dr (b_ fC (aT (pv 2) rfl) (dE rfl T.Cw) (ck _)) (aD (bu (xm (yD vh vh aQ (aT (pv 2) rfl) aQ) (yA (jS fC (cM cq (by rfl) T.eG bz (ah (pv 3) aw)) aQ (ck _)))))) bY) (ao (dr (b_ fC (aT (pv 2) rfl) (dE rfl T.JR) (ck _)) (ao (C8 (i:=4) rfl i_.nd rfl rfl (H_ rfl rfl rfl rfl) (kH (pv 3)) (n_ (N:=["fresh","x","wait","kin","unlike","others","y"]) (sc:=a_ rP) (own:=[("y",6)]) (by decide+kernel)) (λ_ _ _ _ _=>(f6 (i:=6) i_.nd rfl (bE rfl))) (λ_ _ _ _ _=>(vj (b_ r6 (tO (K:=K) rfl (fq (d9 hr) (tO (K:=K) rfl (pv 0) rfl) (pv 6) (λ_ _=>rfl)) rfl) (tO (K:=K) rfl (pv 2) rfl) (ck _)))) (λ_ _ _ _ _=>(pv 6))) (aD (bu (xm (yD vh vh aQ (aT (pv 2) rfl) aQ) (xm (jS fC (cM cq (by rfl) T.eG bz (ah (pv 4) aw)) aQ (ck _)) (yA (jS P9 (cM cq (by rfl) T.eG bz (ah (pv 3) aw)) (aT (pv 2) rfl) (ck _)))))))) bY) (ao (dr (b_ fC (aT (pv 2) rfl) (dE rfl T.OB) (ck _)) (ao (C8 (i:=5) rfl i_.nd rfl rfl (H_ rfl rfl rfl rfl) (kH (bI (Ge T) hr.mo rfl T.F7 T.Cu.kp T.Jx .nil bQ (ah (pv 0) (ah (pv 1) (ah (aT (pv 2) rfl) (ah (aT (pv 2) rfl) aw)))))) (n_ (N:=["fresh","x","wait","kin","unlike","others","y"]) (sc:=a_ rP) (own:=[("y",6)]) (by decide+kernel)) (λ_ _ _ _ _=>(f6 (i:=6) i_.nd rfl (bE rfl))) (λ_ _ _ _ _=>(vj (b_ r6 (pv 6) (pv 1) (ck _)))) (λ_ _ _ _ _=>(pv 6))) (aD (bu (xm (bI (sQ T) hr.mo rfl T.sG T.rF.kp T.uF .nil bQ (ah IJ (ah (aT (pv 2) rfl) aw))) (yA (jS fC (cM cq (by rfl) T.eG bz (ah (pv 5) aw)) aQ (ck _))))))) bY) (aD (bu (xm (jS fC (aT (pv 2) rfl) (dE rfl T.JS) (ck _)) (yA (jS fC (aT (pv 2) rfl) aQ (ck _))))))))))),?_⟩;refine⟨_,rfl,_,_,_,_,_,rfl,KG.kept,T.aR,T.cA,rfl,_,rfl,_,_,rfl,KG.zL hv,?_⟩;refine⟨_,rfl,_,rfl,_,rfl,_,_,_,_,_,rfl,hw,T.eE,T.gW,rfl,_,rfl,_,_,_,_,_,rfl,hw,T.eE,T.iY,rfl,k,g,x,v.kind,v.place,p,rfl,KG,hp,WL,(by omega),λH1 l hl el s1=>?_⟩;have fW:eI t H1 k g:=KG.lE (ib.same s1);have hw1:=fW.wait v B2;have el:H1 l=ae (.lst ((qT g p.fam v.kind v.place).map λw=>V.int w.id)):=by rw[el];unfold sM qT;rw[bx];rfl
  have lL:(qT g p.fam v.kind v.place).length<=g.W.length:=bf _ _;refine⟨_,rfl,_,_,_,_,_,rfl,hw1,T.eE,T.gW,rfl,rfl,_,rfl,?_⟩;refine cN (λc1=>?_) (λc1=>?_)
  ·have c1:v.kind=1:=V.int.inj (of_decide_eq_true c1);have eq:mws g p.fam v=XI g p.fam v:=if_pos c1;rw[eq] at q;unfold XI at q;refine⟨_,rfl,_,_,_,_,_,rfl,hw1,T.eE,T.dM,rfl,_,_,rfl,rfl,_,rfl,?_⟩;refine cN (λd1=>?_) (λd1=>?_)
   ·refine⟨_,_,rfl,rfl,_,rfl,?_⟩;refine cN (λd2=>?_) (λd2=>?_);refine⟨_,rfl,_,_,rfl,.inl (dS.of el),rfl,?_⟩;have:=q H1 s1;rw[d1,d2,<-Uy] at this;rw[ag,c1];exact this;have:=q H1 s1;rw[d1,bP.mpr d2] at this;exact this
   refine⟨_,rfl,?_⟩;have:=q H1 s1;rw[bP.mpr d1] at this;exact this
  have n1:v.kind≠1:=λz=>c1 (by rw[z];rfl);refine⟨_,rfl,_,_,_,_,_,rfl,hw1,T.eE,T.gW,rfl,rfl,_,rfl,?_⟩;refine cN (λc2=>?_) (λc2=>?_)
  ·have c2:v.kind=2:=V.int.inj (of_decide_eq_true c2);have eq:mws g p.fam v=XJ g p.fam v:=(if_neg n1).trans (if_pos c2);rw[eq] at q;unfold XJ at q;rw[c2] at el lL;refine⟨_,rfl,l,rfl,⟨_,dS.of el⟩,λD hD=>?_⟩;refine Am (K:=K) (a:=l) (xs:=(qT g p.fam 2 v.place).map λw=>V.int w.id) (λi H'=>H' D=ae (.lst ((((qT g p.fam 2 v.place).take i).filter (xJ v.num)).map λw=>V.int w.id))/\bC H1 H') ⟨aq,bC.new hD⟩ (λi H' _ ⟨_,s2⟩=>dS.of (s2 _ _ el)) ?_ ?_
   ·rintro i y H' hi ⟨eD,s2⟩;obtain⟨u,hu,rfl⟩:=tu hi;have hum:=(aW.mp (bW hu)).1;have gG:eI t H' k g:=fW.lE (ib.same s2);refine⟨rfl,?_⟩;refine⟨_,rfl,_,_,_,_,_,rfl,gG.kept,T.aR,T.cA,rfl,_,rfl,_,_,rfl,gG.zL (cB KG.Il hum rfl),_,_,_,_,_,rfl,gG.wait u hum,T.eE,T.dM,rfl,_,rfl,_,_,_,_,_,rfl,gG.wait v B2,T.eE,T.dM,rfl,rfl,_,rfl,?_⟩;have l1:=AB (q:=xJ v.num) (f:=λw:GW=>V.int w.id) (l:=qT g p.fam 2 v.place) (i:=i);rw[Iq];refine cN (λc=>?_) (λc=>?_);refine⟨_,rfl,_,eD,(by omega),?_,λb o e=>aO (s2 b o e) (aI e hD)⟩;rw[aq,lH hu,bw (show xJ v.num u=true from c)];refine⟨?_,s2⟩;rw[lH hu,aX (show ¬xJ v.num u=true from c),cD];exact eD
   ·rintro H' ⟨eD,s2⟩;rw[ag,cE] at eD;have hw2:=s2 _ _ hw1;have vZ:=s2 _ _ el;have qf:=q H' (s1.trans s2);refine⟨_,rfl,_,_,_,_,_,rfl,hw2,T.eE,T.dM,rfl,_,_,rfl,rfl,_,rfl,?_⟩;refine cN (λd1=>?_) (λd1=>?_)
    ·refine⟨_,_,rfl,rfl,_,rfl,?_⟩;refine cN (λd2=>?_) (λd2=>?_)
     ·refine⟨_,rfl,_,_,rfl,.inl (dS.of eD),rfl,_,rfl,?_⟩;have e0:decide (V.int ((((qT g p.fam 2 v.place).filter (xJ v.num)).map λw=>V.int w.id).length:Int)=V.int 0)=decide (((qT g p.fam 2 v.place).filter (xJ v.num)).length=0):=by rw[ag];exact Uy (m:=0)
      rw[e0];refine cN (λd3=>?_) (λd3=>?_);refine⟨_,rfl,_,_,rfl,.inl (dS.of vZ),_,rfl,_,_,_,_,_,rfl,hw2,T.eE,T.dM,rfl,_,_,rfl,rfl,?_⟩;rw[d1,d2,d3] at qf;rw[ag];exact qf;rw[d1,d2,bP.mpr d3] at qf;exact qf
     rw[d1,bP.mpr d2] at qf;exact qf
    rw[bP.mpr d1] at qf;exact⟨_,rfl,qf⟩
  have n2:v.kind≠2:=λz=>c2 (by rw[z];rfl);refine⟨_,rfl,_,_,_,_,_,rfl,hw1,T.eE,T.gW,rfl,rfl,_,rfl,?_⟩;refine cN (λc3=>?_) (λc3=>?_)
  ·have c3:v.kind=3:=V.int.inj (of_decide_eq_true c3);have eq:mws g p.fam v=XM g p.fam v:=(if_neg n1).trans ((if_neg n2).trans (if_pos c3));rw[eq] at q;unfold XM at q;refine⟨_,rfl,_,rfl,_,rfl,_,_,_,_,_,rfl,hw1,T.eE,T.iY,rfl,_,rfl,_,_,_,_,_,rfl,hw1,T.eE,T.dM,rfl,k,g,x,v.place,v.num,p,rfl,fW,hp,WL,(by omega),λH2 l2 qZ vZ s2=>?_⟩;have vZ:H2 l2=ae (.lst (((qT g p.fam 3 v.num).filter (tL v.place)).map λw=>V.int w.id)):=by rw[vZ];unfold qT;rw[bx];rfl
   have lP:((qT g p.fam 3 v.num).filter (tL v.place)).length<=g.W.length:=bX (bf _ _) (bf _ _);refine⟨l2,rfl,⟨_,dS.of vZ⟩,λD hD=>?_⟩;refine Am (K:=K) (a:=l2) (xs:=((qT g p.fam 3 v.num).filter (tL v.place)).map λw=>V.int w.id) (λi H'=>H' D=ae (.lst (((((qT g p.fam 3 v.num).filter (tL v.place)).take i).filter (B5 v.id)).map λw=>V.int w.id))/\bC H2 H') ⟨aq,bC.new hD⟩ (λi H' _ ⟨_,s3⟩=>dS.of (s3 _ _ vZ)) ?_ ?_
   ·rintro i y H' hi ⟨eD,s3⟩;obtain⟨u,hu,rfl⟩:=tu hi;refine⟨rfl,?_⟩;refine⟨_,rfl,_,rfl,rfl,_,rfl,?_⟩;have l1:=AB (q:=B5 v.id) (f:=λw:GW=>V.int w.id) (l:=(qT g p.fam 3 v.num).filter (tL v.place)) (i:=i);rw[Iq];refine cN (λc=>?_) (λc=>?_);refine⟨_,rfl,_,eD,(by omega),?_,λb o e=>aO (s3 b o e) (aI e hD)⟩;rw[aq,lH hu,if_pos (show B5 v.id u=true from by unfold B5;rw[ev];exact c)];refine⟨?_,s3⟩;rw[lH hu,if_neg (show ¬B5 v.id u=true from λz=>c (by unfold B5 at z;rw[ev] at z;exact z)),cD];exact eD
   ·rintro H' ⟨eD,s3⟩;rw[ag,cE] at eD;have hw3:=s3 _ _ (s2 _ _ hw1);have qf:=q H' ((s1.trans s2).trans s3);refine⟨_,rfl,_,_,_,_,_,rfl,hw3,T.eE,T.dM,rfl,"place",v.num,0,999,rfl,rfl,rfl,_,rfl,?_⟩;refine cN (λd1=>?_) (λd1=>?_);refine⟨_,rfl,_,_,rfl,.inl (dS.of eD),rfl,?_⟩;rw[d1,gZ,<-Uy] at qf;rw[ag];exact qf;rw[bP.mpr d1] at qf;exact qf
  have n3:v.kind≠3:=λz=>c3 (by rw[z];rfl);have eq:mws g p.fam v=(decide (v.kind=4)&&decide (v.num=0)):=(aX n1).trans ((aX n2).trans (aX n3));have qf:=q H1 s1;rw[eq] at qf;refine⟨_,rfl,_,_,_,_,_,rfl,hw1,T.eE,T.gW,rfl,rfl,_,rfl,?_⟩;rw[Iq];refine cN (λd1=>?_) (λd1=>?_);refine⟨_,rfl,_,_,_,_,_,rfl,hw1,T.eE,T.dM,rfl,rfl,?_⟩;rw[d1,gZ,<-Iq] at qf;exact qf;rw[bP.mpr d1] at qf;exact qf
end
end wz
namespace wz
section
open Vbdeah (Bank Fam Person Wait putP putF inR okX okPlace)
section
variable{g:G}
theorem qS.fit(I:qS g [])(hW:g.W=[]):cK g:=by
 refine⟨I.ok.yE,I.ok.lO,by rw[hW];simp,I.ok.nx,λp hp=>(I.ok.qV p hp).1,λf hf=>?_,by rw[hW];simp⟩;have F:=I.ok.fam f hf;refine⟨F.pos,F.lt,F.cf,?_,F.A9,F.x_,F.par⟩;obtain z|⟨_,h,_⟩:=I.ne f hf
 obtain⟨c,hc⟩:=List.exists_mem_of_ne_nil _ z;have:=F.x_ c hc;omega;cases h
theorem qS.ne'(I:qS g []):∀f∈g.F,f.kids≠[]:=λf hf=>by
 obtain z|⟨_,h,_⟩:=I.ne f hf
 exact z;cases h
theorem qS.ake(I:qS g []):∀f∈g.F,∀d,dF g.F f.num d->d<=40:=λf hf d D=>by
 obtain⟨e,he,D'⟩:=I.ok.xD f hf;rw[D.uniq I.ok.lO D'];exact he
theorem Nt:∀(l acc:List fT),SP acc->(l.map (·.id)).Nodup->(∀a∈l,∀q∈acc,q.id≠a.id)->SP (l.foldl (λl p=>putP p l) acc)/\∀q,q∈l.foldl (λl p=>putP p l) acc↔q∈l\/q∈acc
 |[],acc,h,_,_=>⟨h,λq=>by simp⟩
 |a::r,acc,h,nd,hd=>by
  rw[aU,cU] at nd;obtain⟨h1,h2⟩:=Nt r (putP a acc) (Im h λq hq=>hd a (aB ..) q hq) nd.2 λc hc q hq z=>by
   obtain rfl|hq:=w8.mp hq
   exact nd.1 (by rw[z];exact aA.mpr ⟨c,hc,rfl⟩);exact hd c (aC _ hc) q hq z
  rw[cV];refine⟨h1,λq=>?_⟩;rw[h2,w8,aF];exact⟨λz=>by obtain z|z|z:=z<;>simp[z],λz=>by obtain(z|z)|z:=z<;>simp[z]⟩
theorem Nu:∀(l acc:List Fam),SF acc->(l.map (·.num)).Nodup->(∀a∈l,∀q∈acc,q.num≠a.num)->SF (l.foldl (λl p=>putF p l) acc)/\∀q,q∈l.foldl (λl p=>putF p l) acc↔q∈l\/q∈acc
 |[],acc,h,_,_=>⟨h,λq=>by simp⟩
 |a::r,acc,h,nd,hd=>by
  rw[aU,cU] at nd;obtain⟨h1,h2⟩:=Nu r (putF a acc) (Vl h λq hq=>hd a (aB ..) q hq) nd.2 λc hc q hq z=>by
   obtain rfl|hq:=DX.mp hq
   exact nd.1 (by rw[z];exact aA.mpr ⟨c,hc,rfl⟩);exact hd c (aC _ hc) q hq z
  rw[cV];refine⟨h1,λq=>?_⟩;rw[h2,DX,aF];exact⟨λz=>by obtain z|z|z:=z<;>simp[z],λz=>by obtain(z|z)|z:=z<;>simp[z]⟩
def B6(T:fm)(n:Int)(w:List gd):bB:=⟨T.2.foldl (λl p=>putP p l) [],T.1.foldl (λl f=>putF f l) [],w,n.toNat⟩
theorem Pp{α:Type}{k:α->Int}{l:List α}(nd:(l.map k).Nodup)(h:∀a∈l,0<=k a):(l.map λa=>(k a).toNat).Nodup:=by
 induction l with
 |nil=>exact List.nodup_nil
 |cons a r ih=>
  rw[aU,cU] at nd⊢;refine⟨λz=>nd.1 ?_,ih nd.2 λc hc=>h c (aC _ hc)⟩;obtain⟨c,hc,e⟩:=aA.mp z;have:=h a (aB ..);have:=h c (aC _ hc);exact aA.mpr ⟨c,hc,by omega⟩
theorem Ab.aal{T:fm}(A:Ab g T)(x:cK g):(T.1.map (·.num)).Nodup:=by
 rw[<-A.F,bx];exact Pp (k:=GF.num) x.lO λf hf=>by have:=(x.fe hf).1;omega
theorem Ab.ade{T:fm}(A:Ab g T)(x:cK g):(T.2.map (·.id)).Nodup:=by
 rw[<-A.P,bx];exact Pp (k:=GP.id) x.yE λf hf=>by have:=(x.jo hf).1;omega
theorem Ab.abs{T:fm}(A:Ab g T)(x:cK g):fz {g with W:=[]} (B6 T g.nx []):=by
 obtain⟨p1,p2⟩:=Nt T.2 [] gK (A.ade x) (by simp);obtain⟨f1,f2⟩:=Nu T.1 [] gK (A.aal x) (by simp);have:=x.nx;refine⟨p1,λq=>?_,f1,λq=>?_,rfl,by show((g.nx.toNat:Nat):Int)=g.nx;omega⟩;refine(p2 q).trans ?_;rw[<-A.P];simp only[aA,cP,or_false];refine(f2 q).trans ?_;rw[<-A.F];simp only[aA,cP,or_false]
end
def rj(v:GW):Bool:=okX v.id&&(inR v.kind 1 4&&(okPlace v.place&&inR v.num 0 1000))
theorem Ir{n lo hi:Int}:inR n lo hi=true↔lo<=n/\n<=hi:=by
 unfold inR;rw[aH,decide_eq_true_iff,decide_eq_true_iff]
theorem km{v:GW}:rj v=true↔(1<=v.id/\v.id<=1000000000)/\(1<=v.kind/\v.kind<=4)/\(0<=v.place/\v.place<=999)/\0<=v.num/\v.num<=1000:=by
 unfold rj okX okPlace;rw[aH,aH,aH,Ir,Ir,Ir,Ir]
theorem ace{g:G}{fam:Int}{v:GW}(h:mws g fam v=true)(h1:1<=v.id/\v.id<=1000000000)(h2:0<=v.place/\v.place<=999):rj v=true/\(v.kind=1->1<=v.num):=by
 rw[km];unfold mws at h;split at h;rename_i c;unfold XI at h;simp only[aH,decide_eq_true_iff] at h;exact⟨⟨h1,by omega,h2,by omega⟩,λ_=>by omega⟩
 ·split at h;rename_i c;unfold XJ at h;simp only[aH,decide_eq_true_iff] at h;exact⟨⟨h1,by omega,h2,by omega⟩,λ_=>by omega⟩
  ·split at h;rename_i c;unfold XM at h;simp only[aH,decide_eq_true_iff] at h;exact⟨⟨h1,by omega,h2,by omega⟩,λ_=>by omega⟩;simp only[aH,decide_eq_true_iff] at h;exact⟨⟨h1,by omega,h2,by omega⟩,λ_=>by omega⟩
section
variable{g:G}{b:bB}
def Ad(g:G)(v:GW)(u:GW):Bool:=decide (u.kind=v.kind)&&decide (jQ g u.id=jQ g v.id)
theorem VW(x:cK {g with W:=[]}){i:Int}:0<=jQ g i:=by
 unfold jQ;split;rename_i p e;have:=(x.jo (bD e).1).2.1;omega;exact lJ _
theorem aam(A:fz {g with W:=[]} {b with waits:=[]})(x:cK {g with W:=[]})(hW:b.waits=g.W.map ig)(ro:∀v∈g.W,rj v=true){v:GW}(hv:v∈g.W):(b.waits.filter λu=>u.kind==(ig v).kind&&bT b u.id==bT b (ig v).id)=(g.W.filter (Ad g v)).map ig:=by
 rw[hW,hU];congr 1;refine d8 λu hu=>?_;have r1:=km.mp (ro u hu);have r2:=km.mp (ro v hv);have f1:bT b u.id.toNat=(jQ g u.id).toNat:=A.famOf x (by omega);have f2:bT b v.id.toNat=(jQ g v.id).toNat:=A.famOf x (by omega);have n1:=VW x (i:=u.id);have n2:=VW x (i:=v.id);show(u.kind.toNat==v.kind.toNat&&bT b u.id.toNat==bT b v.id.toNat)=Ad g v u;rw[f1,f2];unfold Ad;rw[cT,aH,aH,beq_iff_eq,beq_iff_eq,decide_eq_true_iff,decide_eq_true_iff];omega
theorem acf(ro:∀v∈g.W,rj v=true){v:GW}(hv:v∈g.W):(((g.W.filter (Ad g v)).map ig).filter λu=>u.place==(ig v).place)=(qT g (jQ g v.id) v.kind v.place).map ig:=by
 unfold qT;rw[hU,vd];congr 1;refine d8 λu hu=>?_;have r1:=km.mp (ro u hu);have r2:=km.mp (ro v hv);show((u.place.toNat==v.place.toNat)&&Ad g v u)=gq g (jQ g v.id) v.kind v.place u;unfold Ad gq;rw[cT];simp only[aH,beq_iff_eq,decide_eq_true_iff];constructor;rintro ⟨a,c,e⟩;exact⟨e,c,by omega⟩;rintro ⟨e,c,a⟩;exact⟨by rw[a],c,e⟩
theorem RW{α:Type}{q:α->Bool}{l:List α}:decide ((l.filter q).length=0)=l.all λa=> !q a:=by
 rw[cT,decide_eq_true_iff,aV,yr,cz];exact⟨λh a ha=>by have:=h a ha;simpa using this,λh a ha=>by have:=h a ha;simpa using this⟩
theorem VX(A:fz {g with W:=[]} {b with waits:=[]})(x:cK {g with W:=[]})(hW:b.waits=g.W.map ig)(ro:∀v∈g.W,rj v=true)(WL:uM g){v:GW}(hv:v∈g.W):jO b (ig v)=mws g (jQ g v.id) v:=by
 have r2:=km.mp (ro v hv);obtain⟨p,hp⟩:=WL v hv;have hl:il b (ig v).id=true:=by
  have e:il b v.id.toNat=(bj GP.id v.id g.P).isSome:=A.lives x (by omega);show il b v.id.toNat=true;rw[e,hp];rfl
 unfold jO;rw[aam A x hW ro hv];show(il b (ig v).id&&_)=_;rw[hl,acf ro hv,gZ];have ek:(ig v).kind=v.kind.toNat:=rfl;have en:(ig v).num=v.num.toNat:=rfl;have ep:(ig v).place=v.place.toNat:=rfl;unfold mws;by_cases c1:v.kind=1
 ·rw[if_pos c1,ek,c1];show(decide (1<=(ig v).num/\(ig v).num<=999)&&((qT g (jQ g v.id) 1 v.place).map ig).length==1)=XI g (jQ g v.id) v;unfold XI;rw[en,ag,cT];simp only[aH,decide_eq_true_iff,beq_iff_eq];constructor;rintro ⟨a,c⟩;exact⟨by omega,c⟩;rintro ⟨a,c⟩;exact⟨by omega,c⟩
 ·rw[aX c1];by_cases c2:v.kind=2
  ·rw[if_pos c2,ek,c2];show(decide (2<=(ig v).num)&&((((qT g (jQ g v.id) 2 v.place).map ig).all λu=>u.num==(ig v).num)&&decide (((qT g (jQ g v.id) 2 v.place).map ig).length<(ig v).num)))=XJ g (jQ g v.id) v;unfold XJ;rw[RW,yq];have e2:(qT g (jQ g v.id) 2 v.place).all ((λu:gd=>u.num==(ig v).num)∘ig)=(qT g (jQ g v.id) 2 v.place).all λa=> !xJ v.num a:=by
    rw[cT,cz,cz];have key:∀u∈qT g (jQ g v.id) 2 v.place,(((λu:gd=>u.num==(ig v).num)∘ig) u=true↔(!xJ v.num u)=true):=λu hu=>by
     have r1:=km.mp (ro u (aW.mp hu).1);show(u.num.toNat==v.num.toNat)=true↔(!(!decide (u.num=v.num)))=true;rw[Bool.not_not,Iw,bJ];omega
    exact⟨λh u hu=>(key u hu).mp (h u hu),λh u hu=>(key u hu).mpr (h u hu)⟩
   rw[e2,en,ag];have e3:decide (2<=v.num.toNat)=(decide (2<=v.num)&&decide (v.num<=1000)):=by
    rw[cT,aH,bJ,bJ,bJ];omega
   have e4:decide ((qT g (jQ g v.id) 2 v.place).length<v.num.toNat)=decide (((qT g (jQ g v.id) 2 v.place).length:Int)<v.num):=decide_eq_decide.mpr ⟨λz=>by omega,λz=>by omega⟩;rw[e3,e4]
  ·rw[aX c2];by_cases c3:v.kind=3
   ·rw[if_pos c3,ek,c3];show(decide ((ig v).num<=999)&&((g.W.filter (Ad g v)).map ig).all λu=>u.id==(ig v).id|| !(u.place==(ig v).num&&u.num==(ig v).place))=XM g (jQ g v.id) v;unfold XM;rw[RW,yq];have e2:(g.W.filter (Ad g v)).all ((λu:gd=>u.id==(ig v).id|| !(u.place==(ig v).num&&u.num==(ig v).place))∘ig)=((qT g (jQ g v.id) 3 v.num).filter (tL v.place)).all λa=> !B5 v.id a:=by
     rw[cT,cz,cz];have key:∀u∈g.W,((((λu:gd=>u.id==(ig v).id|| !(u.place==(ig v).num&&u.num==(ig v).place))∘ig) u=true)↔(u.place=v.num/\u.num=v.place->u.id=v.id)):=λu hu=>by
      have r1:=km.mp (ro u hu);show(u.id.toNat==v.id.toNat|| !(u.place.toNat==v.num.toNat&&u.num.toNat==v.place.toNat))=true↔_;rw[Bool.or_eq_true,FN,rW,Iw,beq_eq_false_iff_ne,beq_eq_false_iff_ne];constructor
      ·rintro (z|z|z) ⟨a,c⟩;omega;exact bM (by rw[a]) z;exact bM (by rw[c]) z
      ·intro z;by_cases a:u.place=v.num
       ·by_cases c:u.num=v.place;exact .inl (by rw[z ⟨a,c⟩]);exact .inr (.inr (by omega))
       exact .inr (.inl (by omega))
     constructor;intro h u hu;obtain⟨hu1,hu2⟩:=aW.mp hu;obtain⟨hu3,hu4⟩:=aW.mp hu1;unfold gq at hu4;simp only[aH,decide_eq_true_iff] at hu4;have hm:u∈g.W.filter (Ad g v):=aW.mpr ⟨hu3,by unfold Ad;rw[decide_eq_true (show u.kind=v.kind by omega),decide_eq_true hu4.1];rfl⟩;have:=(key u hu3).mp (h u hm) ⟨hu4.2.2,of_decide_eq_true hu2⟩;unfold B5;rw[decide_eq_true this];rfl;intro h u hu;obtain⟨hu1,hu2⟩:=aW.mp hu;unfold Ad at hu2;simp only[aH,decide_eq_true_iff] at hu2;refine(key u hu1).mpr λ⟨a,c⟩=>?_;have:=h u (aW.mpr ⟨aW.mpr ⟨hu1,by unfold gq;rw[decide_eq_true hu2.2,decide_eq_true (show u.kind=3 by omega),decide_eq_true a];rfl⟩,decide_eq_true c⟩);unfold B5 at this;rw[Bool.not_not,decide_eq_true_iff] at this;exact this
    rw[e2,en];have e3:decide (v.num.toNat<=999)=(decide (0<=v.num)&&decide (v.num<=999)):=by
     rw[cT,aH,bJ,bJ,bJ];omega
    rw[e3]
   ·have c4:v.kind=4:=by omega
    rw[if_neg c3,ek,c4];show((ig v).num==0)=(decide ((4:Int)=4)&&decide (v.num=0));rw[en,cT];simp only[aH,decide_eq_true_iff,beq_iff_eq];constructor;intro z;exact⟨trivial,by omega⟩;rintro ⟨_,z⟩;omega
end
end
end wz
namespace wz
open PySem PySem.Spec PyProof.Rows L2
section
open Vbdeah (Bank Fam readWaits waitsOk)
theorem kQ:∀{l:List Nat},gm l=true↔l.Nodup
 |[]=>by simp[gm]
 |a::r=>by
  rw[gm,aH,kQ,cU,FN,<-Bool.not_eq_true,gH]
def FlW(b0:bB)(R:Option (List gd)):Prop:=R=ay\/∃w,R=ae w/\waitsOk {b0 with waits:=w}=false
def KW(W:List GW)(fu:Nat)(l:List Int):Option (List gd):=if(W.all rj)=true then(readWaits fu l).map (W.map ig++·) else ay
theorem VY{W:List GW}{fu:Nat}{x k p m:Int}{r:List Int}(o d:aj):KW W (fu+1) (x::k::p::m::r)=KW (W++[⟨x,o,d,k,p,m⟩]) fu r:=by
 unfold KW;rw[La];show(if(W.all rj)=true then Option.map _ (if rj ⟨x,o,d,k,p,m⟩=true then(readWaits fu r).map λy=>(⟨x.toNat,k.toNat,p.toNat,m.toNat⟩:gd)::y else ay) else ay)=if(W.all rj&&(rj ⟨x,o,d,k,p,m⟩&&true))=true then _ else ay
 cases h1:W.all rj with
 |false=>rfl
 |true=>
  rw[bw rfl,gZ,iz];cases h2:rj ⟨x,o,d,k,p,m⟩ with
  |false=>rfl
  |true=>
   rw[bw rfl,bw rfl,aaM,az];congr 1
   funext y
   show W.map ig++(_::y)=(W.map ig++[_])++y;rw[dJ];rfl
theorem aan{W:List GW}{fu:Nat}{l:List Int}(h0:l≠[])(h:l.length<4):KW W fu l=ay:=by
 have:readWaits fu l=ay:=by
  cases fu with
  |zero=>
   match l,h0,h with
   |[_],_,_=>rfl
   |[_,_],_,_=>rfl
   |[_,_,_],_,_=>rfl
  |succ n=>
   match l,h0,h with
   |[_],_,_=>rfl
   |[_,_],_,_=>rfl
   |[_,_,_],_,_=>rfl
 unfold KW;rw[this];split<;>rfl
theorem aeE{W:List GW}{fu:Nat}:KW W fu []=if(W.all rj)=true then ae (W.map ig) else ay:=by
 unfold KW;have:readWaits fu []=ae []:=by cases fu<;>rfl
 rw[this];split;show ae (W.map ig++[])=_;rw[cD];rfl
theorem aao{W:List GW}{fu:Nat}{l:List Int}{w:List gd}(h:KW W fu l=ae w):(∀v∈W,rj v=true)/\∃y,w=W.map ig++y:=by
 unfold KW at h;split at h
 ·rename_i c;refine⟨cz.mp c,?_⟩;cases e:readWaits fu l with
  |none=>rw[e] at h;cases h
  |some y=>rw[e] at h;exact⟨y,(bF h).symm⟩
 cases h
theorem RX{b0:bB}{w:List gd}{v:gd}(h:v∈w)(n:jO {b0 with waits:=w} v=false):waitsOk {b0 with waits:=w}=false:=by
 unfold waitsOk;have:(w.all (jO {b0 with waits:=w}))=false:=Yn.mpr ⟨v,h,by rw[n];decide⟩;show(_&&(w.all (jO {b0 with waits:=w})&&_))=false;rw[this,jj,jl]
theorem XO{b0:bB}{w:List gd}(h:¬(w.map λv=>v.id).Nodup):waitsOk {b0 with waits:=w}=false:=by
 unfold waitsOk;have:gm (w.map λv=>v.id)=false:=bP.mpr λz=>h (kQ.mp z);show(gm (w.map λv=>v.id)&&_)=false;rw[this,jj]
section
variable{g:G}{b0:bB}
theorem fz.Q7(A:fz g b0)(W:List GW):fz {g with W:=W} {b0 with waits:=W.map ig}:=⟨A.sP,A.mP,A.sF,A.mF,rfl,A.nx⟩
theorem cK.Q7(x:cK g){W:List GW}(nd:(W.map (·.id)).Nodup)(h:∀v∈W,(∃p∈g.P,p.id=v.id)/\rj v=true/\(v.kind=1->1<=v.num)):cK {g with W:=W}:=⟨x.yE,x.lO,nd,x.nx,λp hp=>⟨(x.qV p hp).pos,(x.qV p hp).fam⟩,λf hf=>⟨(x.fam f hf).pos,(x.fam f hf).lt,(x.fam f hf).cf,(x.fam f hf).fN,(x.fam f hf).A9,(x.fam f hf).x_,(x.fam f hf).par⟩,λv hv=>by
  obtain⟨h1,h2,h3⟩:=h v hv;have r:=km.mp h2;exact⟨h1,r.2.1,r.2.2.1,r.2.2.2,h3⟩⟩
theorem cK.noW(x:cK g):cK {g with W:=[]}:=x.Q7 (by simp) (by simp)
theorem aap(x:cK g)(h:dO g=[]):∀f∈g.F,dG g f=false:=λf hf=>by
 unfold dO at h;cases e:g.F.find? (dG g) with
 |none=>exact bP.mpr (fg.mp e f hf)
 |some f0=>
  rw[e] at h;have h:m8 g f0.num g.W=[]:=h;have h0:=fM e;have ha:dG g f0=true:=lU e;obtain⟨h1,c,hc,_⟩:=eT.mp ha;obtain⟨s0,w,hw,_⟩:=h1 c hc;obtain⟨CB,ew⟩:=bD hw;have Va:w.id∈m8 g f0.num g.W:=by
   unfold m8;refine aA.mpr ⟨w,aW.mpr ⟨CB,decide_eq_true ?_⟩,rfl⟩;obtain⟨p,hp,e1,e2⟩:=x.Uk CB;rw[e2];exact(x.Kd h0 hp).mpr ⟨c,hc,s0,by omega⟩
  rw[h] at Va;cases Va
theorem aaq(A:fz g b0)(x:cK g):(b0.fams.all λq=>(fB b0 q.num).isEmpty)=decide (dO g=[]):=by
 rw[cT,cz,bJ];constructor
 ·intro h;unfold dO;cases e:g.F.find? (dG g) with
  |none=>rfl
  |some f0=>
   have h0:=fM e;have ha:dG g f0=true:=lU e;have:=h (toF f0) ((A.mF _).mpr ⟨f0,h0,rfl⟩);have this:(fB b0 f0.num.toNat).isEmpty=true:=this;rw[A.mustered x h0,bw ha,ip,uc] at this;exact this
 intro h q hq;obtain⟨f,hf,rfl⟩:=(A.mF q).mp hq;show(fB b0 f.num.toNat).isEmpty=true;rw[A.mustered x hf,aap x h f hf];rfl
end
section
variable{P:bg}{w:cn}{K:au}{mg:Str->Option ax}{base:df}{t:fO}
def KY(t:fO):Sp:=λvs H Q E=>∃(fr l:aj) (ns:List Int) (g:G) (B:Hp) (b0:bB),vs=[.ref fr,.ref l]/\Apart t/\cW t H fr g/\g.W=[]/\Le B H fr g/\B l=ae (.lst (ns.map V.int))/\ns.length<=3000/\qS g []/\fz g b0/\(∀f∈g.F,f.kids.length<=3000)/\(∀H' W',readWaits ns.length ns=ae (W'.map ig)->waitsOk {b0 with waits:=W'.map ig}=true->cW t H' fr {g with W:=W'}->Le B H' fr {g with W:=W'}->nP {g with W:=W'}->fz {g with W:=W'} {b0 with waits:=W'.map ig}->Q .non H')/\(FlW b0 (readWaits ns.length ns)->∀H',bC B H'->E (.ref t.fD) ay H')
theorem KZ(T:Txt w K mg t):dU P w K mg base (Ih P w t.fD) 5 t.qw t.oF ["fresh","waits"] (KY t):=by
 refine jn.okX T.DM rQ (λvs H Q E h=>?_) (λiq Ar outer s H vs Q E hr h=>?_);obtain⟨fr,l,ns,g,B,b0,rfl,_⟩:=h;rfl
 ·obtain⟨fr,l,ns,g,B,b0,rfl,Ap,KG,hW0,EA,hl,hn,I0,A0,Zw,qq,qe⟩:=h;have B3:aM=16777216:=rfl;have x0:=I0.fit hW0;refine⟨_,(ao (cj (i:=2) rQ.nd rfl (bE rfl) (xn T.E5 (uR T) hr.mo rfl T.E4 T.vV .nil bQ (ah (pv 1) aw))) (ao (rZ uV (vO (vN (sd (pv 2) T.dC T.nO (nQ T) hr.mo T.pJ .nil bQ))) (ao (cj (i:=3) rQ.nd rfl (bE rfl) (cX (pv 2) T.dC T.ia (nR T) hr.mo T.iE .nil oa (ah aQ aw))) (ao (cJ (bI (jh T) hr.mo rfl T.ju T.jC.kp T.lD .nil oa (ah (xm (NR (IY (d9 hr) (eX dH (pv 3) aQ (λ_ _=>rfl)) (aT (pv 0) rfl))) (yA (NR (gC (d9 hr) (eX dH (pv 3) aQ (λ_ _=>rfl)) (aT (pv 0) rfl))))) aw))) (ao (cJ (bI (jh T) hr.mo rfl T.ju T.jC.kp T.lD .nil oa (ah (bI (sQ T) hr.mo rfl T.sG T.rF.kp T.uF .nil bQ (ah IJ (ah (eX dH (pv 3) aQ (λ_ _=>rfl)) aw))) aw))) (aD (cJ (bI (lG T) hr.mo rfl T.lC T.kf.kp T.mZ .nil bQ (ah (pv 0) (ah (eX dH (pv 3) aQ (λ_ _=>rfl)) (ah (eX dH (pv 3) aQ (λ_ _=>rfl)) (ah (eX dH (pv 3) aQ (λ_ _=>rfl)) (ah (eX dH (pv 3) aQ (λ_ _=>rfl)) aw)))))))))))) (ao (Ao (nM uV rfl (Dc (aT (pv 0) rfl)) (f6 (i:=4) rQ.nd rfl (bE rfl)) (aD (cJ (bI (jh T) hr.mo rfl T.ju T.jC.kp T.lD .nil oa (ah (bI (KS T) hr.mo rfl T.JC T.BK.kp T.LW .nil bQ (ah (pv 0) (ah (pv 4) aw))) aw)))))) (aD (cJ (bI (jh T) hr.mo rfl T.ju T.jC.kp T.lD .nil oa (ah (jS fC (cM cq (by rfl) T.eG bz (ah (bI (pF T) hr.mo rfl T.pE T.m6.kp T.qO .nil bQ (ah (pv 0) aw)) aw)) aQ (ck _)) aw))))))),?_⟩;refine⟨_,rfl,?_⟩;intro r d hr0 hd0 ndr;refine⟨r,d,l,rfl,aq,rfl,?_⟩;rw[hJ];have s1:bC H (upd (upd H d (.own r)) r (.ins t.du d (SQ l 0))):=λb u e=>aO (aO e (aI e hd0)) (aI e hr0);have e1:upd (upd H d (.own r)) r (.ins t.du d (SQ l 0)) r=ae (.ins t.du d (SQ l 0)):=aq;generalize upd (upd H d (.own r)) r (.ins t.du d (SQ l 0))=H1 at s1 e1;have hrB:B r=ay:=cY EA.same hr0;have eg:{g with W:=[]}=g:=by cases g;cases hW0;rfl
  have A00:fz {g with W:=[]} {b0 with waits:=[]}:=A0.Q7 [];have x00:cK {g with W:=[]}:=x0.noW;show rY _ _ _ [ae (.ref fr),ae (.ref l),ae (.ref r),ay,ay] H1;refine AG (λm σ H'=>∃(W:List GW) (i:Nat) (v:Option V),σ=[ae (.ref fr),ae (.ref l),ae (.ref r),v,ay]/\readWaits ns.length ns=KW W m (ns.drop i)/\i<=ns.length/\ns.length -i<=m/\cW t H' fr {g with W:=W}/\Le B H' fr {g with W:=W}/\xH t H' r d l i/\W.length<=i/\∀v∈W,(∃p,bj GP.id v.id g.P=ae p)/\0<=v.place/\v.place<=999)
   ns.length ⟨[],0,ay,rfl,?_,cI _,Nat.sub_le _ _,by rw[eg];exact KG.same s1,by rw[eg];exact EA.new s1,e1,cI _,by simp⟩ ?_
  show _=(readWaits ns.length ns).map ([]++·);cases readWaits ns.length ns<;>rfl;rintro m σ H' ⟨W,i,v,rfl,erw,hi,hm,Yf,Mr,rd',lW,hlv⟩;have sZ:=Mr.same _ _ hl;refine⟨_,rfl,_,_,_,rfl,rd',rfl,r,d,l,i,ns,rfl,rd',dS.of sZ,_,rfl,?_⟩;have agN:∀v∈W,1<=v.id/\v.id<=1000000000:=λv hv=>by
   obtain⟨⟨p,hp⟩,_⟩:=hlv v hv;obtain⟨nH,ep⟩:=bD hp;have h1:=(I0.ok.qV p nH).1.pos;have h2:=(I0.ok.qV p nH).2;omega
  by_cases wA:ns.length<=i
  ·rw[bG wA];have ei:ns.drop i=[]:=rh wA;rw[ei,aeE] at erw;have WL:uM {g with W:=W}:=λv hv=>(hlv v hv).1;refine⟨g.wa,_,Yf.waits,trivial,λod=>?_⟩;have L:=Lk.of (od:=od) Yf.waits;have eW:({g with W:=W}:G).wa=g.wa:=rfl;generalize upd H' ({g with W:=W}:G).wa (.jq od (.dK (W.map BW)))=H2 at L;have R2:eI t H2 fr {g with W:=W}:=Yf.r.lE L.lE;have akf:B g.wa=ay:=Mr.foot _ (.inr (.inr (.inr (.inl rfl))));have sB2:bC B H2:=λb o e=>L.kL _ _ (Mr.same b o e) λz=>by have z:b=g.wa:=z;rw[z,akf] at e;cases e
   refine⟨_,rfl,_,_,_,_,_,rfl,R2.kept,T.aR,T.cA,rfl,_,_,rfl,.inl ⟨_,L.at_,?_⟩⟩;refine As W.length (λj σ H'=>(∃v1 v2:Option V,σ=[ae (.ref fr),ae (.ref l),ae (.ref r),v1,v2])/\(∀v∈W.take j,mws {g with W:=W} (jQ g v.id) v=true)/\bC H2 H') ⟨⟨_,_,rfl⟩,by simp,bC.refl _⟩ ?_ ?_
   ·rintro σ H3 ⟨⟨v1,v2,rfl⟩,p8,s3⟩;rw[cE] at p8;have x8:=s3 _ _ L.at_;refine⟨⟨x8,by rw[ag];exact aJ _⟩,x8,?_⟩;have s4:bC H' (upd H3 g.wa (.dK (W.map BW))):=L.back λb o _ e=>s3 b o e;generalize upd H3 g.wa (.dK (W.map BW))=H4 at s4;have BX:=Yf.same s4;have Pn:=Mr.new s4;have Uz:∀v∈W,rj v=true/\(v.kind=1->1<=v.num):=λv hv=>ace (p8 v hv) (agN v hv) (hlv v hv).2;have agO:readWaits ns.length ns=ae (W.map ig):=by rw[erw,bw (cz.mpr λv hv=>(Uz v hv).1)]
    have xW:cK {g with W:=W}:=x0.Q7 Yf.Il λv hv=>⟨by
     obtain⟨⟨p,hp⟩,_⟩:=hlv v hv;obtain⟨nH,ep⟩:=bD hp;exact⟨p,nH,ep⟩,Uz v hv⟩
    have AW:=A0.Q7 W;have akg:∀v∈W,jO {b0 with waits:=W.map ig} (ig v)=true:=λv hv=>by
     have e:=VX (g:={g with W:=W}) (b:={b0 with waits:=W.map ig}) A00 x00 rfl (λv hv=>(Uz v hv).1) WL hv;rw[e];exact p8 v hv
    have aar:waitsOk {b0 with waits:=W.map ig}=decide (dO {g with W:=W}=[]):=by
     unfold waitsOk;have d1:gm ((W.map ig).map λv=>v.id)=true:=by
      rw[kQ,bx];exact Pp (k:=GW.id) Yf.Il λv hv=>by have:=agN v hv;omega
     have d2:(W.map ig).all (jO {b0 with waits:=W.map ig})=true:=by
      rw[yq,cz];exact λv hv=>akg v hv
     show(gm ((W.map ig).map λv=>v.id)&&((W.map ig).all (jO {b0 with waits:=W.map ig})&&_))=_;rw[d1,d2,gZ,gZ];exact aaq AW xW
    refine⟨_,rfl,fr,_,rfl,BX,WL,(by show W.length<_;omega),(λf hf=>by have:=Zw f hf;omega),λH5 l5 Xp el5 s5=>?_⟩;refine⟨_,_,rfl,.inl (dS.of el5),rfl,?_⟩;rw[ag];have agP:=Pn.new s5;refine⟨_,rfl,λc=>?_,λc=>?_⟩
    ·have c:(dO {g with W:=W}).length=0:=by have:=V.int.inj (aY c);omega
     have c:=aV.mp c;exact qq H5 W agO (by rw[aar,bG c]) (BX.same s5) agP ⟨xW,I0.ne',I0.ake,aap xW c⟩ AW
    ·have c:¬dO {g with W:=W}=[]:=λz=>by
      rw[z] at c;exact bM c (by decide)
     exact qe (.inr ⟨_,agO,by rw[aar,u5 c]⟩) _ agP.same
   ·rintro j σ H3 hj ⟨⟨v1,v2,rfl⟩,p8,s3⟩;have x8:=s3 _ _ L.at_;refine⟨⟨x8,by rw[ag];exact hj⟩,?_⟩;rintro y H4 ⟨e4,kk,vv,Aq,ey⟩;obtain rfl:=e4.symm;obtain⟨v,hv,z⟩:=tu Aq;obtain⟨rfl,_⟩:kk=cO v.id/\vv=V.ref v.o:=⟨da ve z,da vf z⟩;subst ey;have B2:v∈W:=bW hv;obtain⟨p,hp⟩:=WL v B2;have R3:eI t H3 fr {g with W:=W}:=R2.lE (ib.same s3);have sB3:bC B H3:=sB2.trans s3;refine⟨_,rfl,_,rfl,fr,_,v.id,v,p,rfl,R3,cB Yf.Il B2 rfl,hp,WL,(by show W.length<=_;omega),λH5 s5=>?_⟩;have Ma:jQ g v.id=p.fam:=lX hp;refine⟨_,rfl,λc=>?_,λc=>?_⟩
    ·refine⟨⟨_,_,rfl⟩,λu hu=>?_,s3.trans s5⟩;rw[take_snoc hv] at hu;obtain z|z:=aP.mp hu
     exact p8 u z;obtain rfl:=ai.mp z;rw[Ma];exact c
    ·refine qe ?_ _ (sB3.trans s5);by_cases ha:(W.all rj)=true;rw[bw ha] at erw;refine .inr ⟨_,erw,RX (v:=ig v) (aA.mpr ⟨v,B2,rfl⟩) ?_⟩;have e:=VX (g:={g with W:=W}) (b:={b0 with waits:=W.map ig}) A00 x00 rfl (cz.mp ha) WL B2;rw[e];show mws {g with W:=W} (jQ g v.id) v=false;rw[Ma];exact c;rw[aX ha] at erw;exact .inl erw
  ·rw[u5 wA];obtain⟨fu,rfl⟩:∃fu,m=fu+1:=⟨m -1,by omega⟩;have ene:ns.drop i≠[]:=λz=>wA (Bk.mp z);refine⟨_,λσ' H' z=>z,?_⟩;refine⟨_,rfl,_,_,_,rfl,rd',rfl,r,d,l,i,4,ns,rfl,rd',dS.of sZ,hi,λh4 H2 a ha ea m2=>?_,λh4=>qe (.inl (by rw[erw];exact aan ene (by rw[ik];omega))) _ Mr.same⟩;obtain⟨x,k,pl,nm,rest,e⟩:∃x k pl nm rest,ns.drop i=x::k::pl::nm::rest:=by
    have Rt:4<=(ns.drop i).length:=by rw[ik];omega
    match ns.drop i,Rt with
    |a::b::c::d::r,_=>exact⟨a,b,c,d,r,rfl⟩
   rw[e] at ea;have ea:H2 a=ae (.lst [.int x,.int k,.int pl,.int nm]):=ea;have gG:=Yf.core (m2.core Ap rd');have HF:=Mr.moved hrB m2;have er2:rest=ns.drop (i+4):=by
    have:=da (HW 4) e;rw[nG] at this;exact this.symm
   show rY _ _ _ [ae (.ref fr),ae (.ref l),ae (.ref r),ae (.ref a),ay] H2;refine⟨_,rfl,_,_,_,_,rfl,rfl,dS.of ea,cQ (j:=0) (v:=V.int x) rfl,_,rfl,_,_,_,_,_,rfl,gG.kept,T.aR,T.dy,rfl,_,_,rfl,gG.r.J1,_,rfl,?_⟩;rw[bZ];have Nv:=VY (W:=W) (fu:=fu) (x:=x) (k:=k) (p:=pl) (m:=nm) (r:=rest) 0 0;rw[<-e,<-erw] at Nv;cases e1:bj GP.id x g.P with
   |none=>
    refine⟨_,rfl,λz=>(by cases z),λ_=>qe ?_ _ HF.same⟩;cases eR:readWaits ns.length ns with
    |none=>exact .inl rfl
    |some ww=>
     rw[eR] at Nv;obtain⟨hro,y,rfl⟩:=aao Nv.symm;have rx:=km.mp (hro ⟨x,0,0,k,pl,nm⟩ (bc _ (ai.mpr rfl)));refine .inr ⟨_,rfl,RX (v:=ig ⟨x,0,0,k,pl,nm⟩) (bO _ (aA.mpr ⟨_,bc _ (ai.mpr rfl),rfl⟩)) ?_⟩;have:il b0 x.toNat=false:=by
      have rx1:1<=x:=rx.1.1;have:=A0.lives x0 (i:=x) (by omega);rw[this,e1];rfl
     unfold jO;show(il b0 x.toNat&&_)=false;rw[this,jj]
   |some p=>
    refine⟨_,rfl,_,_,_,_,rfl,rfl,dS.of ea,cQ (j:=0) (v:=V.int x) rfl,_,rfl,_,_,_,_,_,rfl,gG.kept,T.aR,T.cA,rfl,_,_,rfl,gG.r.Uh,?_⟩;rw[bZ];cases e2:bj GW.id x W with
    |some v0=>
     refine⟨false,?_,λz=>(by cases z),λ_=>qe ?_ _ HF.same⟩;rfl;cases eR:readWaits ns.length ns with
     |none=>exact .inl rfl
     |some ww=>
      rw[eR] at Nv;obtain⟨hro,y,rfl⟩:=aao Nv.symm;refine .inr ⟨_,rfl,XO λnd=>?_⟩;rw[az,az] at nd;have nd:=(iN.mp nd).1;rw[az] at nd;obtain⟨hv0,ev0⟩:=bD e2;exact(iN.mp nd).2.2 x.toNat (aA.mpr ⟨ig v0,aA.mpr ⟨v0,hv0,rfl⟩,by show v0.id.toNat=x.toNat;rw[ev0]⟩) x.toNat (ai.mpr rfl) rfl
    |none=>
     refine⟨true,?_,λ_=>?_,λz=>(by cases z)⟩;rfl;refine⟨_,rfl,_,_,_,_,rfl,rfl,dS.of ea,cQ (j:=2) (v:=V.int pl) rfl,"place",pl,0,999,rfl,rfl,rfl,?_⟩;refine⟨_,rfl,λc=>?_,λc=>?_⟩
     rotate_left
     refine qe (.inl ?_) _ HF.same;rw[Nv];unfold KW;rw[if_neg];intro z;have:=km.mp (cz.mp z ⟨x,0,0,k,pl,nm⟩ (bc _ (ai.mpr rfl)));have h0:0<=pl/\pl<=999:=this.2.2.1;rw[rW,decide_eq_false_iff_not,decide_eq_false_iff_not] at c;omega;have C5:0<=pl/\pl<=999:=by
      rw[aH,bJ,bJ] at c;exact c
     refine⟨_,rfl,_,rfl,_,_,_,_,rfl,rfl,dS.of ea,cQ (j:=0) (v:=V.int x) rfl,_,rfl,_,_,_,_,rfl,rfl,dS.of ea,cQ (j:=1) (v:=V.int k) rfl,_,rfl,_,_,_,_,rfl,rfl,dS.of ea,cQ (j:=2) (v:=V.int pl) rfl,_,rfl,_,_,_,_,rfl,rfl,dS.of ea,cQ (j:=3) (v:=V.int nm) rfl,?_⟩;refine⟨fr,_,x,k,pl,nm,rfl,gG,e2,(by show W.length<_;omega),λH3 o d3 pL S3=>?_⟩;have F3:=S3.frm gG;have adf:=VY (W:=W) (fu:=fu) (x:=x) (k:=k) (p:=pl) (m:=nm) (r:=rest) o d3;rw[<-e,<-erw,er2] at adf;refine⟨fu,nY _,W++[⟨x,o,d3,k,pl,nm⟩],i+4,_,rfl,adf,h4,by omega,pL,HF.step S3,F3.keep _ _ m2.at_ ⟨Ap.rk.symm,Ap.rf.symm,Ap.rw.symm⟩,by rw[aK];show W.length+1<=_;omega,λu hu=>?_⟩;obtain z|z:=aP.mp hu
     exact hlv u z;obtain rfl:=ai.mp z;exact⟨⟨p,e1⟩,C5⟩
end
end
section
open Vbdeah (Bank Fam readWaits waitsOk readForest)
theorem Iu(n:Int)(fs ws:List Int):iZ n fs ws=(readForest fs.length 1 fs).bind λt=>(readWaits ws.length ws).bind λw=>
  if(gm (t.1.map λf=>f.num)&&(gm (t.2.map λp=>p.id)&&((t.1.all λf=>decide (f.num<n.toNat))&&waitsOk (B6 t n w))))=true then ae (B6 t n w) else ay:=rfl
theorem aas{n:Int}{fs ws:List Int}(hn:0<n)(h:FlF n (readForest fs.length 1 fs)):iZ n fs ws=ay:=by
 rw[Iu];obtain z|⟨y,z,hb⟩:=h
 rw[z];rfl
 ·rw[z];show((readWaits ws.length ws).bind λw=>_)=ay;cases readWaits ws.length ws with
  |none=>rfl
  |some w=>
   refine if_neg λc=>hb ?_;simp only[aH,cz,decide_eq_true_iff] at c;exact⟨kQ.mp c.1,kQ.mp c.2.1,λf hf=>by have:=c.2.2.1 f hf;omega⟩
theorem UA{n:Int}{fs ws:List Int}{Y:fm}(h:readForest fs.length 1 fs=ae Y)(hw:FlW (B6 Y n []) (readWaits ws.length ws)):iZ n fs ws=ay:=by
 rw[Iu,h];show((readWaits ws.length ws).bind λw=>_)=ay;obtain z|⟨w,z,hb⟩:=hw
 rw[z];rfl;rw[z];have hb:waitsOk (B6 Y n w)=false:=hb;refine aX λc=>?_;rw[hb,jl,jl,jl] at c;cases c
theorem acg{n:Int}{fs ws:List Int}{Y:fm}{w:List gd}(h:readForest fs.length 1 fs=ae Y)(hw:readWaits ws.length ws=ae w)(h1:(Y.1.map λf=>f.num).Nodup)(h2:(Y.2.map λp=>p.id).Nodup)(h3:∀f∈Y.1,f.num<n.toNat)(h4:waitsOk (B6 Y n w)=true):iZ n fs ws=ae (B6 Y n w):=by
 rw[Iu,h];show((readWaits ws.length ws).bind λw=>_)=_;rw[hw];refine bw ?_;rw[kQ.mpr h1,kQ.mpr h2,h4,cz.mpr λf hf=>bG (h3 f hf)];rfl
section
variable{P:bg}{w:cn}{K:au}{mg:Str->Option ax}{base:df}{t:fO}
def VZ(b:bB)(n:Int)(fs ws:List Int):bB×List Int:=match iZ n fs ws with
 |some c=>(c,[0,0])
 |none=>(b,[-2])
def ach(t:fO):Sp:=λvs H Q _=>∃(k fl wl:aj) (b:bB) (n:Int) (fs ws:List Int),vs=[.ref k,.int n,.ref fl,.ref wl]/\Apart t/\Kp t H k b/\0<n/\H fl=ae (.lst (fs.map V.int))/\H wl=ae (.lst (ws.map V.int))/\fs.length<=3000/\ws.length<=3000/\bV t H k (VZ b n fs ws) Q
theorem aci(T:Txt w K mg t):dU P w K mg base kI 8 t.Js t.DB ["kept","next_number","forest","waits"] (ach t):=by
 refine T.Zk.ok Ve (λvs H Q E h=>?_) (λiq Ar outer s H vs Q E hr h=>?_);obtain⟨k,fl,wl,b,n,fs,ws,rfl,_⟩:=h;rfl
 ·obtain⟨k,fl,wl,b,n,fs,ws,rfl,Ap,kp,hn,hfl,hwl,lf,lw,q⟩:=h;obtain⟨g,KG,A,ok⟩:=id kp;refine⟨_,(ao (cj (i:=4) Ve.nd rfl (bE rfl) (IU T.Of (xA T) hr.mo rfl T.Oe T.zl .nil bQ)) (ao (gP (pv 4) (pv 1) rfl) (ao (adW rfl rfl T.M' (by decide+kernel) rfl T.JN (λE pn xe hp=>(ao (cJ (bI (HJ T) hr.mo rfl T.JB T.BI.kp T.LR .nil hp (ah (pv 4) (ah (pv 2) aw)))) (aD (cJ (bI (KZ T) hr.mo rfl T.LV T.DM.kp T.Oo .nil hp (ah (pv 4) (ah (pv 3) aw))))))) (λA2=>(aD (bu (cv (ah (dE rfl T.JQ) aw)))))) (ao (cJ (cX (pv 0) T.aR T.zm (Aa T) hr.mo T.BF .nil bQ (ah (pv 4) aw))) (aD (bu (cv (ah aQ (ah aQ aw))))))))),?_⟩;intro o d ho hd ndo;refine⟨o,d,rfl,aq,λH1 pa fa wa fW k1 SG Vj Q8=>⟨rfl,?_⟩⟩;have s1:bC H H1:=λb u e=>k1 _ _ (aO (aO e (aI e hd)) (aI e ho)) (aI e ho);have SG:H pa=ay:=dY (dY SG);have Vj:H fa=ay:=dY (dY Vj);have Q8:H wa=ay:=dY (dY Q8);refine⟨_,rfl,_,rfl,_,_,_,_,rfl,fW.kept,T.aR,T.ft,(by show 4<1000;decide),?_⟩;have gG:=fW.af3 Ap (n:=n);have agQ:∀c,L8 o (⟨d,pa,fa,wa,[],[],[],n⟩:G) c->H c=ay:=λc z=>by
   obtain rfl|rfl|rfl|rfl|⟨f,hf,_⟩|⟨f,hf,_⟩:=z
   exact ho;exact SG;exact Vj;exact Q8;cases hf;cases hf
  have HF:Le H (upd H1 o (.ins t.dW d (zJ pa fa wa n))) o ⟨d,pa,fa,wa,[],[],[],n⟩:=⟨λc u e=>aO (s1 c u e) (aI e ho),agQ⟩;have gG:cW t (upd H1 o (.ins t.dW d (zJ pa fa wa n))) o ⟨d,pa,fa,wa,[],[],[],n⟩:=gG;show rY _ _ _ [ae (.ref k),ae (.int n),ae (.ref fl),ae (.ref wl),ae (.ref o)] (upd H1 o (.ins t.dW d (zJ pa fa wa n)));generalize upd H1 o (.ins t.dW d (zJ pa fa wa n))=H2 at gG HF;have I2:qS ⟨d,pa,fa,wa,[],[],[],n⟩ []:=⟨⟨by simp,by simp,hn,by simp,by simp,by simp⟩,by simp,gK,trivial,by simp⟩;have aat:iZ n fs ws=ay->∀H',bC H H'->∀p,H' p=ay->Q (.ref p) (upd H' p (.lst [V.int (-2)])):=λhz H' s' p hp=>by
   have s2:=s'.trans (bC.new (o:= .lst [V.int (-2)]) hp);unfold VZ at q;rw[hz] at q;exact q _ p (kp.same s2) (cY s' hp) aq (xE.same s2)
  refine⟨_,rfl,_,rfl,o,fl,fs,_,H,rfl,Ap,gG,HF,hfl,lf,I2,⟨rfl,rfl⟩,λH3 g3 Y eY pL acd I3 A3 n3 w3 z1 z2 z3=>?_,λhf H' s' σ' hσ=>?_⟩
  rotate_left
  have hz:iZ n fs ws=ay:=aas hn hf;exact⟨AV,λp hp=>aat hz H' s' p hp⟩;have n3:g3.nx=n:=n3;have w3:g3.W=[]:=w3;have x3:=I3.fit w3;have eg:{g3 with W:=[]}=g3:=by cases g3;cases w3;rfl
  have Ab3:=A3.abs x3;rw[eg,n3] at Ab3;refine⟨_,rfl,_,rfl,o,wl,ws,g3,H,B6 Y n [],rfl,Ap,pL,w3,acd,hwl,lw,I3,Ab3,z3,λH4 W' eW hwk BX Pn ok4 A4=>?_,λhf H' s' σ' hσ=>?_⟩
  rotate_left
  have hz:iZ n fs ws=ay:=UA eY hf;exact⟨AV,λp hp=>aat hz H' s' p hp⟩;have hz:iZ n fs ws=ae (B6 Y n (W'.map ig)):=by
   refine acg eY eW (A3.aal x3) (A3.ade x3) (λf hf=>?_) hwk;rw[<-A3.F] at hf;obtain⟨f0,uZ,rfl⟩:=aA.mp hf;have h1:=(x3.fam f0 uZ).lt;have h2:=(x3.fam f0 uZ).pos;show f0.num.toNat<n.toNat;omega
  unfold VZ at q;rw[hz] at q;have hk4:=Pn.same _ _ KG.kept;have nok:o≠k:=λz=>by rw[z,KG.kept] at ho;cases ho
  refine⟨_,rfl,_,_,_,rfl,hk4,rfl,_,rfl,o,k,_,_,[],_,_,_,_,rfl,nok,BX,hk4,?_⟩;refine⟨Yc,λp hp=>?_⟩;have Yg:=(BX.move Ap hk4).same (bC.new (o:= .lst [V.int 0,V.int 0]) hp);have hp4:H4 p=ay:=dY hp;refine q _ p ⟨_,Yg,A4.dk g.dk,ok4.dk g.dk⟩ (cY Pn.same hp4) aq ⟨λc u e st=>?_,λc h=>cY Pn.same (dY (dY h))⟩;have nbk:c≠k:=λz=>by rw[z,KG.kept] at e;cases e;exact st.1 rfl
  exact aO (aO (Pn.same c u e) nbk) (aI (aO (Pn.same c u e) nbk:L2.upd H4 k _ c=ae u) hp)
end
end
section
open Vbdeah (Bank)
theorem aki(b:bB)(a0:Int)(h0:cy a0=true):aN b [[0,a0]]=bL b (pY b a0.toNat):=by
 show bU (cy a0) b _=_;unfold bU;rw[h0];rfl
theorem akj(b:bB)(a0:Int)(h0:cy a0=true):aN b [[2,a0]]=bL b (Et b a0.toNat):=by
 show bU (cy a0) b _=_;unfold bU;rw[h0];rfl
theorem akk(b:bB)(a0:Int)(h0:cy a0=true):aN b [[3,a0]]=bL b (Eu b a0.toNat):=by
 show bU (cy a0) b _=_;unfold bU;rw[h0];rfl
theorem akl(b:bB)(a0:Int)(a1:Int)(h0:cy a0=true)(h1:0<a1):aN b [[4,a0,a1]]=bL b (Es b a0.toNat a1.toNat):=by
 show bU (cy a0&&decide (1<=a1)) b _=_;unfold bU;rw[h0,decide_eq_true (show 1<=a1 by omega)];rfl
theorem akm(b:bB)(a0:Int)(h0:cy a0=true):aN b [[5,a0]]=bL b (xM b a0.toNat):=by
 show bU (cy a0) b _=_;unfold bU;rw[h0];rfl
theorem akn(b:bB)(a0:Int)(a1:Int)(a2:Int)(h0:cy a0=true)(h1:fI a1=true)(h2:Lc a2=true):aN b [[6,a0,a1,a2]]=bL b (yg b a0.toNat a1.toNat a2.toNat):=by
 show bU (cy a0&&(fI a1&&Lc a2)) b _=_;unfold bU;rw[h0,h1,h2];rfl
theorem ako(b:bB)(a0:Int)(a1:Int)(a2:Int)(h0:cy a0=true)(h1:fI a1=true)(h2:Lc a2=true):aN b [[7,a0,a1,a2]]=bL b (Cb b a0.toNat a1.toNat a2.toNat):=by
 show bU (cy a0&&(fI a1&&Lc a2)) b _=_;unfold bU;rw[h0,h1,h2];rfl
theorem akp(b:bB)(a0:Int)(a1:Int)(a2:Int)(h0:cy a0=true)(h1:fI a1=true)(h2:fI a2=true):aN b [[8,a0,a1,a2]]=bL b (GI b a0.toNat a1.toNat a2.toNat):=by
 show bU (cy a0&&(fI a1&&fI a2)) b _=_;unfold bU;rw[h0,h1,h2];rfl
theorem akq(b:bB)(a0:Int)(a1:Int)(h0:cy a0=true)(h1:fI a1=true):aN b [[9,a0,a1]]=bL b (Cd b a0.toNat a1.toNat):=by
 show bU (cy a0&&fI a1) b _=_;unfold bU;rw[h0,h1];rfl
theorem agR(b:bB)(a0:Int)(h0:cy a0=true):aN b [[10,a0]]=bL b (v5 b a0.toNat):=by
 show bU (cy a0) b _=_;unfold bU;rw[h0];rfl
theorem agS(b:bB)(a0:Int)(h0:cy a0=true):aN b [[11,a0]]=OY b a0:=by
 show(b,fR b a0 _)=_;unfold fR;rw[h0];rfl
theorem agT(b:bB)(a0:Int)(h0:0<a0):aN b [[12,a0]]=O0 b a0:=by
 show(b,fL b a0 _)=_;unfold fL;rw[if_neg (show ¬a0<1 by omega)];rfl
theorem agU(b:bB)(a0:Int)(h0:0<a0):aN b [[13,a0]]=Ko b a0:=by
 show(b,fL b a0 _)=_;unfold fL;rw[if_neg (show ¬a0<1 by omega)];rfl
theorem agV(b:bB)(a0:Int)(h0:cy a0=true):aN b [[14,a0]]=ZW b a0:=by
 show(b,fR b a0 _)=_;unfold fR;rw[h0];rfl
theorem agW(b:bB)(a0:Int)(a1:Int)(h0:cy a0=true)(h1:cy a1=true):aN b [[15,a0,a1]]=aer b a0 a1:=by
 show(b,if(cy a0&&cy a1)=false then[-1] else fR b a0 λp=>fR b a1 λq=>[(xO b p.id q.id:Int)])=_;unfold fR;rw[h0,h1];rfl
theorem agX(b:bB)(a0:Int)(h0:0<a0):aN b [[16,a0]]=ZV b a0:=by
 show(b,fL b a0 _)=_;unfold fL;rw[if_neg (show ¬a0<1 by omega)];rfl
theorem agY(b:bB)(a0:Int)(a1:Int)(h0:0<a0)(h1:0<a1):aN b [[17,a0,a1]]=Pg b a0 a1:=by
 show(b,if a0<1\/a1<1 then[-1] else fL b a0 λv=>fL b a1 λw=>[if jG b v.num=jG b w.num then 1 else 0])=_;unfold fL Pg;rw[if_neg (show ¬(a0<1\/a1<1) by omega),if_neg (show ¬a0<1 by omega)];cases b.fam a0.toNat with
 |none=>rfl
 |some g=>
  show(b,if a1<1 then _ else _)=_;rw[aX (show ¬a1<1 by omega)];rfl
theorem agZ(b:bB):aN b [[18]]=(b,(b.waits.length:Int)::kx b):=rfl
theorem ag0(b:bB)(a0:Int)(h0:fI a0=true):aN b [[19,a0]]=atR b a0:=by
 show(b,if fI a0=false then[-1] else _)=_;rw[h0];rfl
theorem ag1(b:bB):aN b [[20]]=(b,eC (di ((cH b 0).map λg=>g.num))):=rfl
theorem ag2(b:bB):aN b [[21]]=allR b:=rfl
theorem ag3(b:bB):aN b [[23]]=(nF,[0,0]):=rfl
theorem ag4(b:bB):aN b [[24]]=VF b:=rfl
theorem akr(b:bB)(a0:Int)(ids:List Int)(h0:cy a0=true):aN b [[1,a0],ids]=OV b a0 ids:=by
 show(if cy a0=false then _ else _)=_;rw[h0];rfl
theorem ag5(b:bB)(a0:Int)(fs ws:List Int)(h0:0<a0):aN b [[22,a0],fs,ws]=VZ b a0 fs ws:=by
 show(if a0<1 then _ else _)=_;rw[aX (show ¬a0<1 by omega)];rfl
theorem aks(b:bB)(a0:Int)(h:(W4.ok .p a0)=false):aN b [[0,a0]]=(b,[-1]):=by
 show bU (W4.ok .p a0) b _=_;unfold bU;rw[h];rfl
theorem akt(b:bB)(a0:Int)(ids:List Int)(h:(W4.ok .p a0)=false):aN b [[1,a0],ids]=(b,[-1]):=by
 show(if cy a0=false then _ else _)=_;rw[bw (show cy a0=false from h)]
theorem aku(b:bB)(a0:Int)(h:(W4.ok .p a0)=false):aN b [[2,a0]]=(b,[-1]):=by
 show bU (W4.ok .p a0) b _=_;unfold bU;rw[h];rfl
theorem akv(b:bB)(a0:Int)(h:(W4.ok .p a0)=false):aN b [[3,a0]]=(b,[-1]):=by
 show bU (W4.ok .p a0) b _=_;unfold bU;rw[h];rfl
theorem akw(b:bB)(a0:Int)(a1:Int)(u1:a1<=1000000000000000000)(h:(W4.ok .p a0&&W4.ok .f a1)=false):aN b [[4,a0,a1]]=(b,[-1]):=by
 have h:(cy a0&&decide (1<=a1))=false:=by
  have e:W4.ok .f a1=decide (1<=a1):=by show(decide (1<=a1)&&decide (a1<=1000000000000000000))=_;rw[bG u1,iz]
  rw[<-e];exact h
 show bU (cy a0&&decide (1<=a1)) b _=_;unfold bU;rw[h];rfl
theorem akx(b:bB)(a0:Int)(h:(W4.ok .p a0)=false):aN b [[5,a0]]=(b,[-1]):=by
 show bU (W4.ok .p a0) b _=_;unfold bU;rw[h];rfl
theorem aky(b:bB)(a0:Int)(a1:Int)(a2:Int)(h:(W4.ok .p a0&&(W4.ok .l a1&&W4.ok .c a2))=false):aN b [[6,a0,a1,a2]]=(b,[-1]):=by
 show bU (W4.ok .p a0&&(W4.ok .l a1&&W4.ok .c a2)) b _=_;unfold bU;rw[h];rfl
theorem akz(b:bB)(a0:Int)(a1:Int)(a2:Int)(h:(W4.ok .p a0&&(W4.ok .l a1&&W4.ok .c a2))=false):aN b [[7,a0,a1,a2]]=(b,[-1]):=by
 show bU (W4.ok .p a0&&(W4.ok .l a1&&W4.ok .c a2)) b _=_;unfold bU;rw[h];rfl
theorem akA(b:bB)(a0:Int)(a1:Int)(a2:Int)(h:(W4.ok .p a0&&(W4.ok .l a1&&W4.ok .l a2))=false):aN b [[8,a0,a1,a2]]=(b,[-1]):=by
 show bU (W4.ok .p a0&&(W4.ok .l a1&&W4.ok .l a2)) b _=_;unfold bU;rw[h];rfl
theorem akB(b:bB)(a0:Int)(a1:Int)(h:(W4.ok .p a0&&W4.ok .l a1)=false):aN b [[9,a0,a1]]=(b,[-1]):=by
 show bU (W4.ok .p a0&&W4.ok .l a1) b _=_;unfold bU;rw[h];rfl
theorem ag6(b:bB)(a0:Int)(h:(W4.ok .p a0)=false):aN b [[10,a0]]=(b,[-1]):=by
 show bU (W4.ok .p a0) b _=_;unfold bU;rw[h];rfl
theorem ag7(b:bB)(a0:Int)(h:(W4.ok .p a0)=false):aN b [[11,a0]]=(b,[-1]):=by
 show(b,fR b a0 _)=_;unfold fR;rw[if_pos (show cy a0=false from h)]
theorem ag8(b:bB)(a0:Int)(u0:a0<=1000000000000000000)(h:(W4.ok .f a0)=false):aN b [[12,a0]]=(b,[-1]):=by
 have h:a0<1:=by
  have h:(decide (1<=a0)&&decide (a0<=1000000000000000000))=false:=h;rw[bG u0,iz,l0] at h;omega
 show(b,fL b a0 _)=_;unfold fL;rw[if_pos h]
theorem ag9(b:bB)(a0:Int)(u0:a0<=1000000000000000000)(h:(W4.ok .f a0)=false):aN b [[13,a0]]=(b,[-1]):=by
 have h:a0<1:=by
  have h:(decide (1<=a0)&&decide (a0<=1000000000000000000))=false:=h;rw[bG u0,iz,l0] at h;omega
 show(b,fL b a0 _)=_;unfold fL;rw[if_pos h]
theorem aha(b:bB)(a0:Int)(h:(W4.ok .p a0)=false):aN b [[14,a0]]=(b,[-1]):=by
 show(b,fR b a0 _)=_;unfold fR;rw[if_pos (show cy a0=false from h)]
theorem ahb(b:bB)(a0:Int)(a1:Int)(h:(W4.ok .p a0&&W4.ok .p a1)=false):aN b [[15,a0,a1]]=(b,[-1]):=by
 show(b,if(cy a0&&cy a1)=false then[-1] else _)=_;rw[bw (show(cy a0&&cy a1)=false from h)]
theorem ahc(b:bB)(a0:Int)(u0:a0<=1000000000000000000)(h:(W4.ok .f a0)=false):aN b [[16,a0]]=(b,[-1]):=by
 have h:a0<1:=by
  have h:(decide (1<=a0)&&decide (a0<=1000000000000000000))=false:=h;rw[bG u0,iz,l0] at h;omega
 show(b,fL b a0 _)=_;unfold fL;rw[if_pos h]
theorem ahd(b:bB)(a0:Int)(a1:Int)(u0:a0<=1000000000000000000)(u1:a1<=1000000000000000000)(h:(W4.ok .f a0&&W4.ok .f a1)=false):aN b [[17,a0,a1]]=(b,[-1]):=by
 have h:a0<1\/a1<1:=by
  have h:((decide (1<=a0)&&decide (a0<=1000000000000000000))&&(decide (1<=a1)&&decide (a1<=1000000000000000000)))=false:=h;rw[bG u0,bG u1,iz,iz,rW,l0,l0] at h;omega
 show(b,if a0<1\/a1<1 then[-1] else _)=_;rw[bw h]
theorem ahe(b:bB)(a0:Int)(h:(W4.ok .l a0)=false):aN b [[19,a0]]=(b,[-1]):=by
 show(b,if fI a0=false then[-1] else _)=_;rw[bw (show fI a0=false from h)]
theorem ahf(b:bB)(a0:Int)(fs ws:List Int)(u0:a0<=1000000000000000000)(h:(W4.ok .f a0)=false):aN b [[22,a0],fs,ws]=(b,[-1]):=by
 have h:a0<1:=by
  have h:(decide (1<=a0)&&decide (a0<=1000000000000000000))=false:=h;rw[bG u0,iz,l0] at h;omega
 show(if a0<1 then _ else _)=_;rw[bw h]
theorem kR{l:List Int}(h:l.length=1):∃a,l=[a]:=by
 match l,h with
 |[a],_=>exact⟨a,rfl⟩
theorem HK{l:List Int}(h:l.length=2):∃a c,l=[a,c]:=by
 match l,h with
 |[a,c],_=>exact⟨a,c,rfl⟩
theorem Pq{l:List Int}(h:l.length=3):∃a c e,l=[a,c,e]:=by
 match l,h with
 |[a,c,e],_=>exact⟨a,c,e,rfl⟩
theorem all1{u:W4}{a:Int}:lY [u] [a]=u.ok a:=by show(u.ok a&&true)=_;rw[iz]
theorem all2{u v:W4}{a c:Int}:lY [u,v] [a,c]=(u.ok a&&v.ok c):=by show(u.ok a&&(v.ok c&&true))=_;rw[iz]
theorem XQ{u v x:W4}{a c e:Int}:lY [u,v,x] [a,c,e]=(u.ok a&&(v.ok c&&x.ok e)):=by show(u.ok a&&(v.ok c&&(x.ok e&&true)))=_;rw[iz]
theorem yu{ls:List (List Int)}(h:ls.length=0):ls=[]:=aV.mp h
theorem ls1{ls:List (List Int)}(h:ls.length=1):∃a,ls=[a]:=by
 match ls,h with
 |[a],_=>exact⟨a,rfl⟩
theorem ls2{ls:List (List Int)}(h:ls.length=2):∃a c,ls=[a,c]:=by
 match ls,h with
 |[a,c],_=>exact⟨a,c,rfl⟩
theorem acj(b:bB):∀(p:Nat) (us:List W4) (nums:List Int) (ls:List (List Int)),p<25->Hz[p]? =ae us->nums.length=us.length->ls.length=nT p->(∀z∈nums,z<=1000000000000000000)->lY us nums=false->aN b (((p:Int)::nums)::ls)=(b,[-1])
 |0,us,nums,ls,_,hu,hn,hl,hb,h=>by
  cases hu;obtain⟨a0,rfl⟩:=kR hn;rw[all1] at h;obtain rfl:=yu hl;exact aks b a0 h
 |1,us,nums,ls,_,hu,hn,hl,hb,h=>by
  cases hu;obtain⟨a0,rfl⟩:=kR hn;rw[all1] at h;obtain⟨ids,rfl⟩:=ls1 hl;exact akt b a0 ids h
 |2,us,nums,ls,_,hu,hn,hl,hb,h=>by
  cases hu;obtain⟨a0,rfl⟩:=kR hn;rw[all1] at h;obtain rfl:=yu hl;exact aku b a0 h
 |3,us,nums,ls,_,hu,hn,hl,hb,h=>by
  cases hu;obtain⟨a0,rfl⟩:=kR hn;rw[all1] at h;obtain rfl:=yu hl;exact akv b a0 h
 |4,us,nums,ls,_,hu,hn,hl,hb,h=>by
  cases hu;obtain⟨a0,a1,rfl⟩:=HK hn;rw[all2] at h;obtain rfl:=yu hl;exact akw b a0 a1 (hb a1 (by simp)) h
 |5,us,nums,ls,_,hu,hn,hl,hb,h=>by
  cases hu;obtain⟨a0,rfl⟩:=kR hn;rw[all1] at h;obtain rfl:=yu hl;exact akx b a0 h
 |6,us,nums,ls,_,hu,hn,hl,hb,h=>by
  cases hu;obtain⟨a0,a1,a2,rfl⟩:=Pq hn;rw[XQ] at h;obtain rfl:=yu hl;exact aky b a0 a1 a2 h
 |7,us,nums,ls,_,hu,hn,hl,hb,h=>by
  cases hu;obtain⟨a0,a1,a2,rfl⟩:=Pq hn;rw[XQ] at h;obtain rfl:=yu hl;exact akz b a0 a1 a2 h
 |8,us,nums,ls,_,hu,hn,hl,hb,h=>by
  cases hu;obtain⟨a0,a1,a2,rfl⟩:=Pq hn;rw[XQ] at h;obtain rfl:=yu hl;exact akA b a0 a1 a2 h
 |9,us,nums,ls,_,hu,hn,hl,hb,h=>by
  cases hu;obtain⟨a0,a1,rfl⟩:=HK hn;rw[all2] at h;obtain rfl:=yu hl;exact akB b a0 a1 h
 |10,us,nums,ls,_,hu,hn,hl,hb,h=>by
  cases hu;obtain⟨a0,rfl⟩:=kR hn;rw[all1] at h;obtain rfl:=yu hl;exact ag6 b a0 h
 |11,us,nums,ls,_,hu,hn,hl,hb,h=>by
  cases hu;obtain⟨a0,rfl⟩:=kR hn;rw[all1] at h;obtain rfl:=yu hl;exact ag7 b a0 h
 |12,us,nums,ls,_,hu,hn,hl,hb,h=>by
  cases hu;obtain⟨a0,rfl⟩:=kR hn;rw[all1] at h;obtain rfl:=yu hl;exact ag8 b a0 (hb a0 (by simp)) h
 |13,us,nums,ls,_,hu,hn,hl,hb,h=>by
  cases hu;obtain⟨a0,rfl⟩:=kR hn;rw[all1] at h;obtain rfl:=yu hl;exact ag9 b a0 (hb a0 (by simp)) h
 |14,us,nums,ls,_,hu,hn,hl,hb,h=>by
  cases hu;obtain⟨a0,rfl⟩:=kR hn;rw[all1] at h;obtain rfl:=yu hl;exact aha b a0 h
 |15,us,nums,ls,_,hu,hn,hl,hb,h=>by
  cases hu;obtain⟨a0,a1,rfl⟩:=HK hn;rw[all2] at h;obtain rfl:=yu hl;exact ahb b a0 a1 h
 |16,us,nums,ls,_,hu,hn,hl,hb,h=>by
  cases hu;obtain⟨a0,rfl⟩:=kR hn;rw[all1] at h;obtain rfl:=yu hl;exact ahc b a0 (hb a0 (by simp)) h
 |17,us,nums,ls,_,hu,hn,hl,hb,h=>by
  cases hu;obtain⟨a0,a1,rfl⟩:=HK hn;rw[all2] at h;obtain rfl:=yu hl;exact ahd b a0 a1 (hb a0 (by simp)) (hb a1 (by simp)) h
 |18,us,nums,ls,_,hu,hn,hl,hb,h=>by
  cases hu;rw[aV.mp hn] at h;cases h
 |19,us,nums,ls,_,hu,hn,hl,hb,h=>by
  cases hu;obtain⟨a0,rfl⟩:=kR hn;rw[all1] at h;obtain rfl:=yu hl;exact ahe b a0 h
 |20,us,nums,ls,_,hu,hn,hl,hb,h=>by
  cases hu;rw[aV.mp hn] at h;cases h
 |21,us,nums,ls,_,hu,hn,hl,hb,h=>by
  cases hu;rw[aV.mp hn] at h;cases h
 |22,us,nums,ls,_,hu,hn,hl,hb,h=>by
  cases hu;obtain⟨a0,rfl⟩:=kR hn;rw[all1] at h;obtain⟨fs,ws,rfl⟩:=ls2 hl;exact ahf b a0 fs ws (hb a0 (by simp)) h
 |23,us,nums,ls,_,hu,hn,hl,hb,h=>by
  cases hu;rw[aV.mp hn] at h;cases h
 |24,us,nums,ls,_,hu,hn,hl,hb,h=>by
  cases hu;rw[aV.mp hn] at h;cases h
 |n+25,_,_,_,h,_,_,_,_,_=>bM h (by omega)
end
section
open Vbdeah (Bank)
theorem UB{a:Int}(h:W4.ok .p a=true):0<a:=by
 have h:(decide (1<=a)&&decide (a<=1000000000))=true:=h;rw[aH,bJ] at h;omega
theorem V0{a:Int}(h:W4.ok .f a=true):0<a:=by
 have h:(decide (1<=a)&&decide (a<=1000000000000000000))=true:=h;rw[aH,bJ] at h;omega
theorem okl{a:Int}(h:W4.ok .l a=true):0<=a/\a<=999:=by
 have h:(decide (0<=a)&&decide (a<=999))=true:=h;rw[aH,bJ,bJ] at h;exact h
theorem okc{a:Int}(h:W4.ok .c a=true):1<=a/\a<=1000:=by
 have h:(decide (1<=a)&&decide (a<=1000))=true:=h;rw[aH,bJ,bJ] at h;exact h
section
variable{P:bg}{w:cn}{K:au}{mg:Str->Option ax}{base:df}{t:fO}
def XR(t:fO):Sp:=λvs H Q _=>∃(k na la:aj) (b:bB) (p:Nat) (us:List W4) (nums:List Int) (qs:List (aj×List Int)),vs=[.ref k,.int p,.ref na,.ref la]/\Apart t/\Kp t H k b/\Sz b/\(p=0\/p=1\/p=2\/p=3\/p=4\/p=5)/\Hz[p]? =ae us/\nums.length=us.length/\lY us nums=true/\H na=ae (.lst (nums.map V.int))/\H la=ae (.lst (qs.map λq=>V.ref q.1))/\(∀q∈qs,H q.1=ae (.lst (q.2.map V.int)))/\qs.length=nT p/\bV t H k (aN b (((p:Int)::nums)::qs.map (·.2))) Q
theorem XS(T:Txt w K mg t):dU P w K mg base kI 6 t.zh t.wW ["kept","place","numbers","lists"] (XR t):=by
 refine T.Q5.ok M8 (λvs H Q E h=>?_) (λiq Ar outer s H vs Q E hr h=>?_);obtain⟨k,na,la,b,p,us,nums,qs,rfl,_⟩:=h;rfl
 ·obtain⟨k,na,la,b,p,us,nums,qs,rfl,Ap,kp,sz,hp,hu,hn,t7,AI,hla,hqs,hql,q⟩:=h;refine⟨_,(ao (cj (i:=4) M8.nd rfl (bE rfl) (eX dH (pv 2) aQ (λ_ _=>rfl))) (ao (dr (b_ fC (pv 1) aQ (ck _)) (aD (bu (bI (abY T) hr.mo rfl T.abG T.Zh.kp T.ad7 .nil bQ (ah (pv 0) (ah (pv 4) aw))))) bY) (ao (dr (b_ fC (pv 1) aQ (ck _)) (aD (bu (bI (OX T) hr.mo rfl T.Oj T.F8.kp T.QU .nil bQ (ah (pv 0) (ah (pv 4) (ah (eX dH (pv 3) aQ (λ_ _=>rfl)) aw)))))) bY) (ao (dr (b_ fC (pv 1) aQ (ck _)) (aD (bu (bI (Hm T) hr.mo rfl T.GX T.zu.kp T.Jz .nil bQ (ah (pv 0) (ah (pv 4) aw))))) bY) (ao (dr (b_ fC (pv 1) aQ (ck _)) (aD (bu (bI (Ho T) hr.mo rfl T.GY T.zx.kp T.JA .nil bQ (ah (pv 0) (ah (pv 4) aw))))) bY) (ao (dr (b_ fC (pv 1) aQ (ck _)) (aD (bu (bI (ZN T) hr.mo rfl T.Zi T.Vg.kp T.abH .nil bQ (ah (pv 0) (ah (pv 4) (ah (eX dH (pv 2) aQ (λ_ _=>rfl)) aw)))))) bY) (aD (bu (bI (ZK T) hr.mo rfl T.Zj T.Vh.kp T.abI .nil bQ (ah (pv 0) (ah (pv 4) aw))))))))))),?_⟩;obtain rfl|rfl|rfl|rfl|rfl|rfl:=hp
  cases hu;obtain⟨a0,rfl⟩:=kR hn;rw[all1] at t7;have o0:=t7;obtain rfl:qs=[]:=aV.mp hql;have q:bV t H k (aN b [[0,a0]]) Q:=q;rw[aki b a0 o0] at q;refine⟨_,rfl,_,_,_,_,rfl,rfl,dS.of AI,cQ (j:=0) (v:=V.int a0) rfl,?_⟩;refine⟨_,rfl,rfl,_,rfl,cN (λ_=>?_) (λc=>bM rfl c)⟩;exact⟨_,rfl,_,rfl,k,b,a0,rfl,Ap,kp,sz,UB o0,q⟩
  ·cases hu;obtain⟨a0,rfl⟩:=kR hn;rw[all1] at t7;have o0:=t7;obtain⟨q0,rfl⟩:∃q0,qs=[q0]:=by
    match qs,hql with
    |[q0],_=>exact⟨q0,rfl⟩
   have Rk:=hqs q0 (ai.mpr rfl);have q:bV t H k (aN b [[1,a0],q0.2]) Q:=q;rw[akr b a0 q0.2 o0] at q;refine⟨_,rfl,_,_,_,_,rfl,rfl,dS.of AI,cQ (j:=0) (v:=V.int a0) rfl,?_⟩;refine⟨_,rfl,rfl,_,rfl,cN hX (λ_=>?_)⟩;refine⟨_,rfl,rfl,_,rfl,cN (λ_=>?_) (λc=>bM rfl c)⟩;exact⟨_,rfl,_,rfl,_,rfl,_,_,_,_,rfl,rfl,dS.of hla,cQ (j:=0) (v:=V.ref q0.1) rfl,k,q0.1,b,a0,q0.2,rfl,Ap,kp,sz,UB o0,Rk,q⟩
  cases hu;obtain⟨a0,rfl⟩:=kR hn;rw[all1] at t7;have o0:=t7;obtain rfl:qs=[]:=aV.mp hql;have q:bV t H k (aN b [[2,a0]]) Q:=q;rw[akj b a0 o0] at q;refine⟨_,rfl,_,_,_,_,rfl,rfl,dS.of AI,cQ (j:=0) (v:=V.int a0) rfl,?_⟩;refine⟨_,rfl,rfl,_,rfl,cN hX (λ_=>?_)⟩;refine⟨_,rfl,rfl,_,rfl,cN hX (λ_=>?_)⟩;refine⟨_,rfl,rfl,_,rfl,cN (λ_=>?_) (λc=>absurd rfl c)⟩;exact⟨_,rfl,_,rfl,k,b,a0,rfl,Ap,kp,sz,UB o0,q⟩;cases hu;obtain⟨a0,rfl⟩:=kR hn;rw[all1] at t7;have o0:=t7;obtain rfl:qs=[]:=aV.mp hql;have q:bV t H k (aN b [[3,a0]]) Q:=q;rw[akk b a0 o0] at q;refine⟨_,rfl,_,_,_,_,rfl,rfl,dS.of AI,cQ (j:=0) (v:=V.int a0) rfl,?_⟩;refine⟨_,rfl,rfl,_,rfl,cN hX (λ_=>?_)⟩;refine⟨_,rfl,rfl,_,rfl,cN hX (λ_=>?_)⟩;refine⟨_,rfl,rfl,_,rfl,cN hX (λ_=>?_)⟩;refine⟨_,rfl,rfl,_,rfl,cN (λ_=>?_) (λc=>absurd rfl c)⟩;exact⟨_,rfl,_,rfl,k,b,a0,rfl,Ap,kp,sz,UB o0,q⟩;cases hu;obtain⟨a0,a1,rfl⟩:=HK hn;rw[all2] at t7;simp only[aH] at t7;obtain⟨o0,o1⟩:=t7;obtain rfl:qs=[]:=aV.mp hql;have q:bV t H k (aN b [[4,a0,a1]]) Q:=q;rw[akl b a0 a1 o0 (V0 o1)] at q;refine⟨_,rfl,_,_,_,_,rfl,rfl,dS.of AI,cQ (j:=0) (v:=V.int a0) rfl,?_⟩;refine⟨_,rfl,rfl,_,rfl,cN hX (λ_=>?_)⟩;refine⟨_,rfl,rfl,_,rfl,cN hX (λ_=>?_)⟩;refine⟨_,rfl,rfl,_,rfl,cN hX (λ_=>?_)⟩;refine⟨_,rfl,rfl,_,rfl,cN hX (λ_=>?_)⟩;refine⟨_,rfl,rfl,_,rfl,cN (λ_=>?_) (λc=>absurd rfl c)⟩;exact⟨_,rfl,_,rfl,_,rfl,_,_,_,_,rfl,rfl,dS.of AI,cQ (j:=1) (v:=V.int a1) rfl,k,b,a0,a1,rfl,Ap,kp,sz,UB o0,V0 o1,q⟩;cases hu;obtain⟨a0,rfl⟩:=kR hn;rw[all1] at t7;have o0:=t7;obtain rfl:qs=[]:=aV.mp hql;have q:bV t H k (aN b [[5,a0]]) Q:=q;rw[akm b a0 o0] at q;refine⟨_,rfl,_,_,_,_,rfl,rfl,dS.of AI,cQ (j:=0) (v:=V.int a0) rfl,?_⟩;refine⟨_,rfl,rfl,_,rfl,cN hX (λ_=>?_)⟩;refine⟨_,rfl,rfl,_,rfl,cN hX (λ_=>?_)⟩;refine⟨_,rfl,rfl,_,rfl,cN hX (λ_=>?_)⟩;refine⟨_,rfl,rfl,_,rfl,cN hX (λ_=>?_)⟩;refine⟨_,rfl,rfl,_,rfl,cN hX (λ_=>?_)⟩;exact⟨_,rfl,_,rfl,k,b,a0,rfl,Ap,kp,sz,UB o0,q⟩
def acm(t:fO):Sp:=λvs H Q _=>∃(k na:aj) (b:bB) (p:Nat) (us:List W4) (nums:List Int),vs=[.ref k,.int p,.ref na]/\Apart t/\Kp t H k b/\Sz b/\(p=6\/p=7\/p=8\/p=9\/p=10)/\Hz[p]? =ae us/\nums.length=us.length/\lY us nums=true/\H na=ae (.lst (nums.map V.int))/\bV t H k (aN b (((p:Int)::nums)::[])) Q
theorem acn(T:Txt w K mg t):dU P w K mg base kI 5 t.Jt t.DC ["kept","place","numbers"] (acm t):=by
 refine T.Zn.ok Vf (λvs H Q E h=>?_) (λiq Ar outer s H vs Q E hr h=>?_);obtain⟨k,na,b,p,us,nums,rfl,_⟩:=h;rfl
 ·obtain⟨k,na,b,p,us,nums,rfl,Ap,kp,sz,hp,hu,hn,t7,AI,q⟩:=h;refine⟨_,(ao (cj (i:=3) Vf.nd rfl (bE rfl) (eX dH (pv 2) aQ (λ_ _=>rfl))) (ao (dr (b_ fC (pv 1) aQ (ck _)) (aD (bu (bI (Rr T) hr.mo rfl T.QP T.Jw.kp T.T6 .nil bQ (ah (pv 0) (ah (pv 3) (ah (eX dH (pv 2) aQ (λ_ _=>rfl)) (ah (eX dH (pv 2) aQ (λ_ _=>rfl)) aw))))))) bY) (ao (dr (b_ fC (pv 1) aQ (ck _)) (aD (bu (bI (Xr T) hr.mo rfl T.W6 T.QR.kp T.Ze .nil bQ (ah (pv 0) (ah (pv 3) (ah (eX dH (pv 2) aQ (λ_ _=>rfl)) (ah (eX dH (pv 2) aQ (λ_ _=>rfl)) aw))))))) bY) (ao (dr (b_ fC (pv 1) aQ (ck _)) (aD (bu (bI (Mf T) hr.mo rfl T.LM T.DJ.kp T.Oi .nil bQ (ah (pv 0) (ah (pv 3) (ah (eX dH (pv 2) aQ (λ_ _=>rfl)) (ah (eX dH (pv 2) aQ (λ_ _=>rfl)) aw))))))) bY) (ao (dr (b_ fC (pv 1) aQ (ck _)) (aD (bu (bI (Xu T) hr.mo rfl T.W7 T.QS.kp T.Zf .nil bQ (ah (pv 0) (ah (pv 3) (ah (eX dH (pv 2) aQ (λ_ _=>rfl)) aw)))))) bY) (aD (bu (bI (Xl T) hr.mo rfl T.W8 T.QT.kp T.Zg .nil bQ (ah (pv 0) (ah (pv 3) aw)))))))))),?_⟩;obtain rfl|rfl|rfl|rfl|rfl:=hp
  cases hu;obtain⟨a0,a1,a2,rfl⟩:=Pq hn;rw[XQ] at t7;simp only[aH] at t7;obtain⟨o0,o1,o2⟩:=t7;have q:bV t H k (aN b [[6,a0,a1,a2]]) Q:=q;rw[akn b a0 a1 a2 o0 o1 o2] at q;refine⟨_,rfl,_,_,_,_,rfl,rfl,dS.of AI,cQ (j:=0) (v:=V.int a0) rfl,?_⟩;refine⟨_,rfl,rfl,_,rfl,cN (λ_=>?_) (λc=>absurd rfl c)⟩;exact⟨_,rfl,_,rfl,_,rfl,_,_,_,_,rfl,rfl,dS.of AI,cQ (j:=1) (v:=V.int a1) rfl,_,rfl,_,_,_,_,rfl,rfl,dS.of AI,cQ (j:=2) (v:=V.int a2) rfl,k,b,a0,a1,a2,rfl,Ap,kp,sz,UB o0,okl o1,okc o2,q⟩;cases hu;obtain⟨a0,a1,a2,rfl⟩:=Pq hn;rw[XQ] at t7;simp only[aH] at t7;obtain⟨o0,o1,o2⟩:=t7;have q:bV t H k (aN b [[7,a0,a1,a2]]) Q:=q;rw[ako b a0 a1 a2 o0 o1 o2] at q;refine⟨_,rfl,_,_,_,_,rfl,rfl,dS.of AI,cQ (j:=0) (v:=V.int a0) rfl,?_⟩;refine⟨_,rfl,rfl,_,rfl,cN hX (λ_=>?_)⟩;refine⟨_,rfl,rfl,_,rfl,cN (λ_=>?_) (λc=>absurd rfl c)⟩;exact⟨_,rfl,_,rfl,_,rfl,_,_,_,_,rfl,rfl,dS.of AI,cQ (j:=1) (v:=V.int a1) rfl,_,rfl,_,_,_,_,rfl,rfl,dS.of AI,cQ (j:=2) (v:=V.int a2) rfl,k,b,a0,a1,a2,rfl,kp,sz,UB o0,okl o1,okc o2,q⟩;cases hu;obtain⟨a0,a1,a2,rfl⟩:=Pq hn;rw[XQ] at t7;simp only[aH] at t7;obtain⟨o0,o1,o2⟩:=t7;have q:bV t H k (aN b [[8,a0,a1,a2]]) Q:=q;rw[akp b a0 a1 a2 o0 o1 o2] at q;refine⟨_,rfl,_,_,_,_,rfl,rfl,dS.of AI,cQ (j:=0) (v:=V.int a0) rfl,?_⟩;refine⟨_,rfl,rfl,_,rfl,cN hX (λ_=>?_)⟩;refine⟨_,rfl,rfl,_,rfl,cN hX (λ_=>?_)⟩;refine⟨_,rfl,rfl,_,rfl,cN (λ_=>?_) (λc=>absurd rfl c)⟩;exact⟨_,rfl,_,rfl,_,rfl,_,_,_,_,rfl,rfl,dS.of AI,cQ (j:=1) (v:=V.int a1) rfl,_,rfl,_,_,_,_,rfl,rfl,dS.of AI,cQ (j:=2) (v:=V.int a2) rfl,k,b,a0,a1,a2,rfl,kp,sz,UB o0,okl o1,okl o2,q⟩;cases hu;obtain⟨a0,a1,rfl⟩:=HK hn;rw[all2] at t7;simp only[aH] at t7;obtain⟨o0,o1⟩:=t7;have q:bV t H k (aN b [[9,a0,a1]]) Q:=q;rw[akq b a0 a1 o0 o1] at q;refine⟨_,rfl,_,_,_,_,rfl,rfl,dS.of AI,cQ (j:=0) (v:=V.int a0) rfl,?_⟩;refine⟨_,rfl,rfl,_,rfl,cN hX (λ_=>?_)⟩;refine⟨_,rfl,rfl,_,rfl,cN hX (λ_=>?_)⟩;refine⟨_,rfl,rfl,_,rfl,cN hX (λ_=>?_)⟩;refine⟨_,rfl,rfl,_,rfl,cN (λ_=>?_) (λc=>absurd rfl c)⟩;exact⟨_,rfl,_,rfl,_,rfl,_,_,_,_,rfl,rfl,dS.of AI,cQ (j:=1) (v:=V.int a1) rfl,k,b,a0,a1,rfl,kp,sz,UB o0,okl o1,q⟩;cases hu;obtain⟨a0,rfl⟩:=kR hn;rw[all1] at t7;have o0:=t7;have q:bV t H k (aN b [[10,a0]]) Q:=q;rw[agR b a0 o0] at q;refine⟨_,rfl,_,_,_,_,rfl,rfl,dS.of AI,cQ (j:=0) (v:=V.int a0) rfl,?_⟩;refine⟨_,rfl,rfl,_,rfl,cN hX (λ_=>?_)⟩;refine⟨_,rfl,rfl,_,rfl,cN hX (λ_=>?_)⟩;refine⟨_,rfl,rfl,_,rfl,cN hX (λ_=>?_)⟩;refine⟨_,rfl,rfl,_,rfl,cN hX (λ_=>?_)⟩;exact⟨_,rfl,_,rfl,k,b,a0,rfl,kp,UB o0,q⟩
def aeF(t:fO):Sp:=λvs H Q _=>∃(k na:aj) (b:bB) (p:Nat) (us:List W4) (nums:List Int),vs=[.ref k,.int p,.ref na]/\Apart t/\Kp t H k b/\Sz b/\(p=11\/p=12\/p=13\/p=14\/p=15\/p=16\/p=17)/\Hz[p]? =ae us/\nums.length=us.length/\lY us nums=true/\H na=ae (.lst (nums.map V.int))/\bV t H k (aN b (((p:Int)::nums)::[])) Q
theorem aeG(T:Txt w K mg t):dU P w K mg base kI 4 t.QL t.Ju ["kept","place","numbers"] (aeF t):=by
 refine T.acP.ok ad6 (λvs H Q E h=>?_) (λiq Ar outer s H vs Q E hr h=>?_);obtain⟨k,na,b,p,us,nums,rfl,_⟩:=h;rfl
 ·obtain⟨k,na,b,p,us,nums,rfl,Ap,kp,sz,hp,hu,hn,t7,AI,q⟩:=h;refine⟨_,(ao (dr (b_ fC (pv 1) aQ (ck _)) (aD (bu (bI (Ki T) hr.mo rfl T.JH T.BM.kp T.LZ .nil bQ (ah (pv 0) (ah (eX dH (pv 2) aQ (λ_ _=>rfl)) aw))))) bY) (ao (dr (b_ fC (pv 1) aQ (ck _)) (aD (bu (bI (Kn T) hr.mo rfl T.JJ T.BO.kp T.L0 .nil bQ (ah (pv 0) (ah (eX dH (pv 2) aQ (λ_ _=>rfl)) aw))))) bY) (ao (dr (b_ fC (pv 1) aQ (ck _)) (aD (bu (bI (Ht T) hr.mo rfl T.G4 T.zE.kp T.JK .nil bQ (ah (pv 0) (ah (eX dH (pv 2) aQ (λ_ _=>rfl)) aw))))) bY) (ao (dr (b_ fC (pv 1) aQ (ck _)) (aD (bu (bI (O5 T) hr.mo rfl T.Ot T.F_.kp T.QX .nil bQ (ah (pv 0) (ah (eX dH (pv 2) aQ (λ_ _=>rfl)) aw))))) bY) (ao (dr (b_ fC (pv 1) aQ (ck _)) (aD (bu (bI (RA T) hr.mo rfl T.QY T.JL.kp T.T9 .nil bQ (ah (pv 0) (ah (eX dH (pv 2) aQ (λ_ _=>rfl)) (ah (eX dH (pv 2) aQ (λ_ _=>rfl)) aw)))))) bY) (ao (dr (b_ fC (pv 1) aQ (ck _)) (aD (bu (bI (O3 T) hr.mo rfl T.Ou T.Ga.kp T.QZ .nil bQ (ah (pv 0) (ah (eX dH (pv 2) aQ (λ_ _=>rfl)) aw))))) bY) (aD (bu (bI (Mp T) hr.mo rfl T.L4 T.DP.kp T.Ov .nil bQ (ah (pv 0) (ah (eX dH (pv 2) aQ (λ_ _=>rfl)) (ah (eX dH (pv 2) aQ (λ_ _=>rfl)) aw)))))))))))),?_⟩;obtain rfl|rfl|rfl|rfl|rfl|rfl|rfl:=hp
  cases hu;obtain⟨a0,rfl⟩:=kR hn;rw[all1] at t7;have o0:=t7;have q:bV t H k (aN b [[11,a0]]) Q:=q;rw[agS b a0 o0] at q;refine⟨_,rfl,rfl,_,rfl,cN (λ_=>?_) (λc=>absurd rfl c)⟩;exact⟨_,rfl,_,rfl,_,_,_,_,rfl,rfl,dS.of AI,cQ (j:=0) (v:=V.int a0) rfl,k,b,a0,rfl,kp,UB o0,q⟩;cases hu;obtain⟨a0,rfl⟩:=kR hn;rw[all1] at t7;have o0:=t7;have q:bV t H k (aN b [[12,a0]]) Q:=q;rw[agT b a0 (V0 o0)] at q;refine⟨_,rfl,rfl,_,rfl,cN hX (λ_=>?_)⟩;refine⟨_,rfl,rfl,_,rfl,cN (λ_=>?_) (λc=>absurd rfl c)⟩;exact⟨_,rfl,_,rfl,_,_,_,_,rfl,rfl,dS.of AI,cQ (j:=0) (v:=V.int a0) rfl,k,b,a0,rfl,kp,sz,V0 o0,q⟩;cases hu;obtain⟨a0,rfl⟩:=kR hn;rw[all1] at t7;have o0:=t7;have q:bV t H k (aN b [[13,a0]]) Q:=q;rw[agU b a0 (V0 o0)] at q;refine⟨_,rfl,rfl,_,rfl,cN hX (λ_=>?_)⟩;refine⟨_,rfl,rfl,_,rfl,cN hX (λ_=>?_)⟩;refine⟨_,rfl,rfl,_,rfl,cN (λ_=>?_) (λc=>absurd rfl c)⟩;exact⟨_,rfl,_,rfl,_,_,_,_,rfl,rfl,dS.of AI,cQ (j:=0) (v:=V.int a0) rfl,k,b,a0,rfl,kp,sz,V0 o0,q⟩;cases hu;obtain⟨a0,rfl⟩:=kR hn;rw[all1] at t7;have o0:=t7;have q:bV t H k (aN b [[14,a0]]) Q:=q;rw[agV b a0 o0] at q;refine⟨_,rfl,rfl,_,rfl,cN hX (λ_=>?_)⟩;refine⟨_,rfl,rfl,_,rfl,cN hX (λ_=>?_)⟩;refine⟨_,rfl,rfl,_,rfl,cN hX (λ_=>?_)⟩;refine⟨_,rfl,rfl,_,rfl,cN (λ_=>?_) (λc=>absurd rfl c)⟩;exact⟨_,rfl,_,rfl,_,_,_,_,rfl,rfl,dS.of AI,cQ (j:=0) (v:=V.int a0) rfl,k,b,a0,rfl,kp,UB o0,q⟩;cases hu;obtain⟨a0,a1,rfl⟩:=HK hn;rw[all2] at t7;simp only[aH] at t7;obtain⟨o0,o1⟩:=t7;have q:bV t H k (aN b [[15,a0,a1]]) Q:=q;rw[agW b a0 a1 o0 o1] at q;refine⟨_,rfl,rfl,_,rfl,cN hX (λ_=>?_)⟩;refine⟨_,rfl,rfl,_,rfl,cN hX (λ_=>?_)⟩;refine⟨_,rfl,rfl,_,rfl,cN hX (λ_=>?_)⟩;refine⟨_,rfl,rfl,_,rfl,cN hX (λ_=>?_)⟩;refine⟨_,rfl,rfl,_,rfl,cN (λ_=>?_) (λc=>absurd rfl c)⟩;exact⟨_,rfl,_,rfl,_,_,_,_,rfl,rfl,dS.of AI,cQ (j:=0) (v:=V.int a0) rfl,_,rfl,_,_,_,_,rfl,rfl,dS.of AI,cQ (j:=1) (v:=V.int a1) rfl,k,b,a0,a1,rfl,kp,UB o0,UB o1,q⟩;cases hu;obtain⟨a0,rfl⟩:=kR hn;rw[all1] at t7;have o0:=t7;have q:bV t H k (aN b [[16,a0]]) Q:=q;rw[agX b a0 (V0 o0)] at q;refine⟨_,rfl,rfl,_,rfl,cN hX (λ_=>?_)⟩;refine⟨_,rfl,rfl,_,rfl,cN hX (λ_=>?_)⟩;refine⟨_,rfl,rfl,_,rfl,cN hX (λ_=>?_)⟩;refine⟨_,rfl,rfl,_,rfl,cN hX (λ_=>?_)⟩;refine⟨_,rfl,rfl,_,rfl,cN hX (λ_=>?_)⟩;refine⟨_,rfl,rfl,_,rfl,cN (λ_=>?_) (λc=>absurd rfl c)⟩;exact⟨_,rfl,_,rfl,_,_,_,_,rfl,rfl,dS.of AI,cQ (j:=0) (v:=V.int a0) rfl,k,b,a0,rfl,kp,sz,V0 o0,q⟩;cases hu;obtain⟨a0,a1,rfl⟩:=HK hn;rw[all2] at t7;simp only[aH] at t7;obtain⟨o0,o1⟩:=t7;have q:bV t H k (aN b [[17,a0,a1]]) Q:=q;rw[agY b a0 a1 (V0 o0) (V0 o1)] at q;refine⟨_,rfl,rfl,_,rfl,cN hX (λ_=>?_)⟩;refine⟨_,rfl,rfl,_,rfl,cN hX (λ_=>?_)⟩;refine⟨_,rfl,rfl,_,rfl,cN hX (λ_=>?_)⟩;refine⟨_,rfl,rfl,_,rfl,cN hX (λ_=>?_)⟩;refine⟨_,rfl,rfl,_,rfl,cN hX (λ_=>?_)⟩;refine⟨_,rfl,rfl,_,rfl,cN hX (λ_=>?_)⟩;exact⟨_,rfl,_,rfl,_,_,_,_,rfl,rfl,dS.of AI,cQ (j:=0) (v:=V.int a0) rfl,_,rfl,_,_,_,_,rfl,rfl,dS.of AI,cQ (j:=1) (v:=V.int a1) rfl,k,b,a0,a1,rfl,kp,sz,V0 o0,V0 o1,q⟩
def Ms(t:fO):Sp:=λvs H Q _=>∃(k na:aj) (b:bB) (p:Nat) (us:List W4) (nums:List Int),vs=[.ref k,.int p,.ref na]/\Apart t/\Kp t H k b/\Sz b/\(p=18\/p=19\/p=20\/p=21\/p=24)/\Hz[p]? =ae us/\nums.length=us.length/\lY us nums=true/\H na=ae (.lst (nums.map V.int))/\bV t H k (aN b (((p:Int)::nums)::[])) Q
theorem Mt(T:Txt w K mg t):dU P w K mg base kI 4 t.qD t.oQ ["kept","place","numbers"] (Ms t):=by
 refine T.DR.ok LB (λvs H Q E h=>?_) (λiq Ar outer s H vs Q E hr h=>?_);obtain⟨k,na,b,p,us,nums,rfl,_⟩:=h;rfl
 ·obtain⟨k,na,b,p,us,nums,rfl,Ap,kp,sz,hp,hu,hn,t7,AI,q⟩:=h;refine⟨_,(ao (dr (b_ fC (pv 1) aQ (ck _)) (aD (bu (bI (Hw T) hr.mo rfl T.G0 T.zB.kp T.JD .nil bQ (ah (pv 0) aw)))) bY) (ao (dr (b_ fC (pv 1) aQ (ck _)) (aD (bu (bI (Uu T) hr.mo rfl T.T7 T.M9.kp T.W9 .nil bQ (ah (pv 0) (ah (eX dH (pv 2) aQ (λ_ _=>rfl)) aw))))) bY) (ao (dr (b_ fC (pv 1) aQ (ck _)) (aD (bu (bI (Mi T) hr.mo rfl T.LX T.DN.kp T.Oq .nil bQ (ah (pv 0) aw)))) bY) (ao (dr (b_ fC (pv 1) aQ (ck _)) (aD (bu (bI (RF T) hr.mo rfl T.QW T.JF.kp T.T8 .nil bQ (ah (pv 0) aw)))) bY) (aD (bu (bI (Ks T) hr.mo rfl T.JG T.BL.kp T.LY .nil bQ (ah (pv 0) aw)))))))),?_⟩;obtain rfl|rfl|rfl|rfl|rfl:=hp
  cases hu;obtain rfl:=aV.mp hn;have q:bV t H k (aN b [[18]]) Q:=q;rw[agZ b] at q;refine⟨_,rfl,rfl,_,rfl,cN (λ_=>?_) (λc=>bM rfl c)⟩;exact⟨_,rfl,k,b,rfl,kp,sz,q⟩;cases hu;obtain⟨a0,rfl⟩:=kR hn;rw[all1] at t7;have o0:=t7;have q:bV t H k (aN b [[19,a0]]) Q:=q;rw[ag0 b a0 o0] at q;refine⟨_,rfl,rfl,_,rfl,cN hX (λ_=>?_)⟩;refine⟨_,rfl,rfl,_,rfl,cN (λ_=>?_) (λc=>bM rfl c)⟩;exact⟨_,rfl,_,rfl,_,_,_,_,rfl,rfl,dS.of AI,cQ (j:=0) (v:=V.int a0) rfl,k,b,a0,rfl,kp,sz,q⟩;cases hu;obtain rfl:=aV.mp hn;have q:bV t H k (aN b [[20]]) Q:=q;rw[ag1 b] at q;refine⟨_,rfl,rfl,_,rfl,cN hX (λ_=>?_)⟩;refine⟨_,rfl,rfl,_,rfl,cN hX (λ_=>?_)⟩;refine⟨_,rfl,rfl,_,rfl,cN (λ_=>?_) (λc=>bM rfl c)⟩;exact⟨_,rfl,k,b,rfl,kp,sz,q⟩;cases hu;obtain rfl:=aV.mp hn;have q:bV t H k (aN b [[21]]) Q:=q;rw[ag2 b] at q;refine⟨_,rfl,rfl,_,rfl,cN hX (λ_=>?_)⟩;refine⟨_,rfl,rfl,_,rfl,cN hX (λ_=>?_)⟩;refine⟨_,rfl,rfl,_,rfl,cN hX (λ_=>?_)⟩;refine⟨_,rfl,rfl,_,rfl,cN (λ_=>?_) (λc=>bM rfl c)⟩;exact⟨_,rfl,k,b,rfl,kp,sz,q⟩;cases hu;obtain rfl:=aV.mp hn;have q:bV t H k (aN b [[24]]) Q:=q;rw[ag4 b] at q;refine⟨_,rfl,rfl,_,rfl,cN hX (λ_=>?_)⟩;refine⟨_,rfl,rfl,_,rfl,cN hX (λ_=>?_)⟩;refine⟨_,rfl,rfl,_,rfl,cN hX (λ_=>?_)⟩;refine⟨_,rfl,rfl,_,rfl,cN hX (λ_=>?_)⟩;exact⟨_,rfl,k,b,rfl,kp,sz,q⟩
end
end
section
open Vbdeah (Bank)
section
variable{P:bg}{w:cn}{K:au}{mg:Str->Option ax}{base:df}{t:fO}
theorem Rm.core{H H':Hp}{k:aj}{b:bB}(x:Kp t H k b)(s:∀b o,H b=ae o->Core t o->H' b=ae o):Kp t H' k b:=by
 obtain⟨g,a,c,d⟩:=x;exact⟨g,a.core s,c,d⟩
structure aeH(ns:List Int)(i j p:Nat)(us:List W4)(nums:List Int)(ls:List (List Int)):Prop where
 at_:ns[i]? =ae (p:Int)
 lt:p<25
 row:Hz[p]? =ae us
 le:i+1+us.length<=ns.length
 ahh:nums=(ns.drop (i+1)).take us.length
 lists:Gq ns (i+1+us.length) ls j
 len:ls.length=nT p
 big:∀z∈nums,z<=1000000000000000000
 short:∀x∈ls,x.length<=1500
def K0(t:fO)(K:au):Sp:=λvs H Q _=>∃(k r d l:aj) (b:bB) (ns:List Int) (i j p:Nat) (us:List W4) (nums:List Int) (ls:List (List Int)),vs=[.ref k,.ref r]/\Apart t/\Kp t H k b/\Sz b/\xH t H r d l i/\dS K H l (ns.map V.int)/\aeH ns i j p us nums ls/\∀H' a,Kp t H' k (aN b (((p:Int)::nums)::ls)).1->H a=ay->H' a=ae (.lst ((aN b (((p:Int)::nums)::ls)).2.map V.int))->xH t H' r d l j->(∀b u,H b=ae u->ZG t u->b≠r->H' b=ae u)->(∀b,H' b=ay->H b=ay)->Q (.ref a) H'
theorem K1(T:Txt w K mg t):dU P w K mg base kI 9 t.oP t.mY ["kept","reader"] (K0 t K):=by
 refine T.BQ.ok qj (λvs H Q E h=>?_) (λiq Ar outer s H vs Q E hr h=>?_);obtain⟨k,r,d,l,b,ns,i,j,p,us,nums,ls,rfl,_⟩:=h;rfl
 ·obtain⟨k,r,d,l,b,ns,i,j,p,us,nums,ls,rfl,Ap,kp,sz,hR,hl,C,q⟩:=h;have ahi:=C.ahh;refine⟨_,(ao (cj (i:=2) qj.nd rfl (bE rfl) (sd (pv 1) T.dC T.jf (uS T) hr.mo T.jD .nil bQ)) (ao (cj (i:=3) qj.nd rfl (bE rfl) (cX (pv 1) T.dC T.ia (pO T) hr.mo T.iE .nil bQ (ah (bI (Be T) hr.mo rfl T.AZ T.uE.kp T.Cq .nil bQ (ah (pv 2) aw)) aw))) (ao (cj (i:=4) qj.nd rfl (bE rfl) (cX (pv 1) T.dC T.zy (z_ T) hr.mo T.A7 .nil bQ (ah (bI (Ej T) hr.mo rfl T.DF T.wX.kp T.E6 .nil bQ (ah (pv 2) aw)) aw))) (ao (dr (vO (vN (bI (HC T) hr.mo rfl T.GR T.zk.kp T.Jv .nil bQ (ah (pv 2) (ah (pv 3) aw))))) (aD (bu (cv (ah (dE rfl T.JP) aw)))) bY) (ao (dr (b_ vh (pv 2) aQ (ck _)) (aD (bu (bI (XS T) hr.mo rfl T.W_ T.Q5.kp T.Zm .nil bQ (ah (pv 0) (ah (pv 2) (ah (pv 3) (ah (pv 4) aw))))))) bY) (ao (dr (b_ vh (pv 2) aQ (ck _)) (aD (bu (bI (acn T) hr.mo rfl T.abK T.Zn.kp T.ad9 .nil bQ (ah (pv 0) (ah (pv 2) (ah (pv 3) aw)))))) bY) (ao (dr (b_ vh (pv 2) aQ (ck _)) (aD (bu (bI (aeG T) hr.mo rfl T.aea T.acP.kp T.af0 .nil bQ (ah (pv 0) (ah (pv 2) (ah (pv 3) aw)))))) bY) (ao (dr (b_ fC (pv 2) aQ (ck _)) (aD (bu (bI (aci T) hr.mo rfl T.abJ T.Zk.kp T.ad8 .nil bQ (ah (pv 0) (ah (eX dH (pv 3) aQ (λ_ _=>rfl)) (ah (eX dH (pv 4) aQ (λ_ _=>rfl)) (ah (eX dH (pv 4) aQ (λ_ _=>rfl)) aw))))))) bY) (ao (dr (b_ fC (pv 2) aQ (ck _)) (aD (bu (bI (Pj T) hr.mo rfl T.Ol T.F9.kp T.QV .nil bQ (ah (pv 0) aw)))) bY) (aD (bu (bI (Mt T) hr.mo rfl T.L7 T.DR.kp T.Oy .nil bQ (ah (pv 0) (ah (pv 2) (ah (pv 3) aw))))))))))))))),?_⟩;refine⟨_,rfl,_,_,_,rfl,hR,rfl,r,d,l,i,ns,p,rfl,hR,hl,C.at_,λH1 m1=>?_⟩;have Ii:=m1.seq hR hl;refine⟨_,rfl,_,_,_,rfl,m1.at_,rfl,_,rfl,p,us,rfl,C.lt,C.row,?_⟩;refine⟨r,d,l,i+1,us.length,ns,rfl,m1.at_,Ii,C.le,λH2 na AI ena m2=>?_⟩;rw[<-ahi] at ena;have m12:=m1.trans m2;have qZ:=m12.seq hR hl;have hlen:nums.length=us.length:=by
   have:=C.le;rw[ahi,d6,ik];omega
  have ahj:H na=ay:=m1.live AI;have nar:na≠r:=λz=>by rw[z,hR] at ahj;cases ahj
  refine⟨_,rfl,_,_,_,rfl,m2.at_,rfl,_,rfl,p,rfl,?_⟩;refine⟨r,d,l,i+1+us.length,j,nT p,ns,ls,rfl,m2.at_,qZ,C.lists,C.len,(by unfold nT;split<;>(try split)<;>decide),λH3 la qs hla ela hqs eqs m3=>?_⟩;have m13:=m12.trans m3;have ahk:=m3.keep _ _ ena nar;refine⟨_,rfl,_,rfl,p,na,us,nums,rfl,C.lt,C.row,ahk,hlen,λH4 s4=>?_⟩;have m14:=m13.new s4;have aau:=s4 _ _ ahk;have aeI:=s4 _ _ ela;have aeJ:∀q∈qs,H4 q.1=ae (.lst (q.2.map V.int)):=λq hq=>s4 _ _ (hqs q hq).2;have SJ:Kp t H4 k b:=Rm.core kp (m14.core Ap hR);have hql:qs.length=nT p:=by rw[<-C.len,<-eqs,ag]
  have post:∀S:bB×List Int,S=aN b (((p:Int)::nums)::ls)->bV t H4 k S Q:=λS e H' a kp' ha ea F=>by
   subst e;exact q H' a kp' (m14.live ha) ea (F.keep _ _ m14.at_ ⟨Ap.rk.symm,Ap.rf.symm,Ap.rw.symm⟩) (λb u e st n=>F.keep _ _ (m14.keep b u e n) st) (λb h=>m14.live (F.live b h))
  refine⟨_,rfl,?_⟩;cases RY:lY us nums with
  |false=>
   have:=post (b,[-1]) (acj b p us nums ls C.lt C.row hlen C.len C.big RY).symm;exact this.err SJ rfl
  |true=>
   have pl:=C.lt;refine⟨_,rfl,_,_,rfl,rfl,_,rfl,cN (λc1=>?_) (λc1=>?_)⟩;have c1:(p:Int)<=5:=of_decide_eq_true c1;exact⟨_,rfl,_,rfl,_,rfl,_,rfl,k,na,la,b,p,us,nums,qs,rfl,Ap,SJ,sz,(by omega),C.row,hlen,RY,aau,aeI,aeJ,hql,post _ (by rw[eqs])⟩;have c1:¬(p:Int)<=5:=λz=>c1 (decide_eq_true z);refine⟨_,rfl,_,_,rfl,rfl,_,rfl,cN (λc2=>?_) (λc2=>?_)⟩;have c2:(p:Int)<=10:=of_decide_eq_true c2;have e0:ls=[]:=aV.mp (by rw[C.len];unfold nT;rw[if_neg (by omega),if_neg (by omega)]);exact⟨_,rfl,_,rfl,_,rfl,k,na,b,p,us,nums,rfl,Ap,SJ,sz,(by omega),C.row,hlen,RY,aau,post _ (by rw[e0])⟩;have c2:¬(p:Int)<=10:=λz=>c2 (decide_eq_true z);refine⟨_,rfl,_,_,rfl,rfl,_,rfl,cN (λc3=>?_) (λc3=>?_)⟩;have c3:(p:Int)<=17:=of_decide_eq_true c3;have e0:ls=[]:=aV.mp (by rw[C.len];unfold nT;rw[if_neg (by omega),if_neg (by omega)]);exact⟨_,rfl,_,rfl,_,rfl,k,na,b,p,us,nums,rfl,Ap,SJ,sz,(by omega),C.row,hlen,RY,aau,post _ (by rw[e0])⟩;have c3:¬(p:Int)<=17:=λz=>c3 (decide_eq_true z);refine⟨_,rfl,rfl,_,rfl,cN (λc4=>?_) (λc4=>?_)⟩
   ·have c4:p=22:=by have:=V.int.inj (aY c4);omega
    subst c4;have hu:=C.row;cases hu;obtain⟨a0,rfl⟩:=kR hlen;rw[all1] at RY;obtain⟨q0,q1,rfl⟩:∃q0 q1,qs=[q0,q1]:=by
     match qs,hql with
     |[q0,q1],_=>exact⟨q0,q1,rfl⟩
    subst eqs;have h0:=aeJ q0 (by simp);have h1:=aeJ q1 (by simp);have z0:=C.short q0.2 (by simp);have z1:=C.short q1.2 (by simp);refine⟨_,rfl,_,rfl,_,_,_,_,rfl,rfl,dS.of aau,cQ (j:=0) (v:=V.int a0) rfl,_,rfl,_,_,_,_,rfl,rfl,dS.of aeI,cQ (j:=0) (v:=V.ref q0.1) rfl,_,rfl,_,_,_,_,rfl,rfl,dS.of aeI,cQ (j:=1) (v:=V.ref q1.1) rfl,?_⟩;exact⟨k,q0.1,q1.1,b,a0,q0.2,q1.2,rfl,Ap,SJ,V0 RY,h0,h1,by omega,by omega,post _ (ag5 b a0 q0.2 q1.2 (V0 RY)).symm⟩
   have c4:p≠22:=λz=>c4 (by rw[z];rfl);have e0:ls=[]:=aV.mp (by rw[C.len];unfold nT;rw[if_neg (by omega),if_neg (by omega)]);refine⟨_,rfl,rfl,_,rfl,cN (λc5=>?_) (λc5=>?_)⟩
   ·have c5:p=23:=by have:=V.int.inj (aY c5);omega
    subst c5;have hu:=C.row;cases hu;obtain rfl:=aV.mp hlen;exact⟨_,rfl,k,b,rfl,Ap,SJ,post _ (by rw[e0];exact(ag3 b).symm)⟩
   have c5:p≠23:=λz=>c5 (by rw[z];rfl);exact⟨_,rfl,_,rfl,_,rfl,k,na,b,p,us,nums,rfl,Ap,SJ,sz,(by omega),C.row,hlen,RY,aau,post _ (by rw[e0])⟩
end
end
end wz
namespace wz
section
open Vbdeah (Bank Fam Person Wait R Call)
theorem Ae(p:fT):∀l:List fT,(er p l).length=l.length+1
 |[]=>rfl
 |a::r=>by
  unfold er;split;rfl;rw[aL,Ae p r,aL]
theorem Nw:∀(l acc:List fT),(l.foldl (λl p=>er p l) acc).length=l.length+acc.length
 |[],acc=>by simp
 |a::r,acc=>by rw[cV,Nw r,Ae,aL];omega
theorem RZ(p:Fam):∀l:List Fam,(GJ p l).length=l.length+1
 |[]=>rfl
 |a::r=>by
  unfold GJ;split;rfl;rw[aL,RZ p r,aL]
theorem Ny:∀(l acc:List Fam),(l.foldl (λl p=>GJ p l) acc).length=l.length+acc.length
 |[],acc=>by simp
 |a::r,acc=>by rw[cV,Ny r,RZ,aL];omega
theorem sS(x:Nat)(l:List fT):(bp x l).length<=l.length:=bf _ _
structure Near(b c:bB)(m f:Nat):Prop where
 P:c.people.length<=b.people.length+m
 F:c.fams.length<=b.fams.length+f
theorem Near.refl{b:bB}{m f:Nat}:Near b b m f:=⟨by omega,by omega⟩
def RB(b:bB)(m f o:Nat):R->Prop
 | .err _=>True
 | .wait c=>Near b c m f
 | .ok c off=>Near b c m f/\off.length<=o
 | .gone c off=>Near b c m f/\off.length<=o
theorem RB.free{b:bB}{m f o x:Nat}{r:R}(h:RB b m f o r):RB b m f o (vK b x r):=by
 unfold vK;split;trivial
 ·split;trivial;exact h
theorem RB.answered{b:bB}{m f o:Nat}{r:R}(h:RB b m f o r):Near b (bL b r).1 m f/\(bL b r).2.length<=o+2:=by
 cases r with
 |err n=>exact⟨.refl,by show 1<=o+2;omega⟩
 |wait c=>exact⟨h,by show 1<=o+2;omega⟩
 |ok c off=>
  refine⟨h.1,?_⟩;show(di off).length+1+1<=o+2;unfold di;rw[ag];have:=h.2;omega
 |gone c off=>
  refine⟨h.1,?_⟩;show(di off).length+1+1<=o+2;unfold di;rw[ag];have:=h.2;omega
theorem RB.asked{b:bB}{m f o:Nat}{r:R}{ok:Bool}(h:RB b m f o r):Near b (bU ok b r).1 m f/\(bU ok b r).2.length<=o+2:=by
 unfold bU;split;exact h.answered;exact RB.answered (r:= .err 1) trivial
theorem aeK{b:bB}{m f o:Nat}{c:Prop}[Decidable c]{r s:R}(h1:RB b m f o r)(h2:RB b m f o s):RB b m f o (if c then r else s):=by
 split;exact h1;exact h2
theorem Pr(b:bB)(w:gd):Near b (gM b w) 1 1:=⟨by show b.people.length<=_;omega,by show b.fams.length<=_;omega⟩
theorem aco(b:bB)(x:Nat):RB b 1 1 0 (pY b x):=by
 unfold pY;split;trivial
 ·refine⟨⟨?_,?_⟩,aJ _⟩;show(er _ b.people).length<=_;rw[Ae];omega;show(b.fams++[_]).length<=_;rw[aK];exact aJ _
theorem K2(n:Nat):∀(ids:List Nat) (b:bB),(ids.foldl (λc y=>dq c n y) b).people.length<=b.people.length+ids.length/\(ids.foldl (λc y=>dq c n y) b).fams.length=b.fams.length
 |[],b=>⟨by simp,rfl⟩
 |a::r,b=>by
  obtain⟨h1,h2⟩:=K2 n r (dq b n a);obtain⟨h3,h4⟩:=Fw b n a;rw[cV,aL];exact⟨by omega,by omega⟩
theorem aav(b:bB)(x:Nat)(ids:List Nat):RB b ids.length 0 0 (tX b x ids):=by
 refine RB.free ?_;split;trivial;obtain⟨h1,h2⟩:=K2 (bT b x) ids b;exact⟨⟨h1,by omega⟩,aJ _⟩
theorem aaw(b:bB)(x:Nat):RB b 1 1 0 (Et b x):=by
 refine RB.free ?_;split;trivial
 ·split;trivial
  ·refine⟨⟨?_,?_⟩,aJ _⟩;show(er _ (bp x b.people)).length<=_;rw[Ae];have:=sS x b.people;omega;show(b.fams++[_]).length<=_;rw[aK];exact aJ _
theorem aax(b:bB)(x:Nat):RB b 1 1 0 (Eu b x):=by
 refine RB.free ?_;split;trivial
 ·split;trivial
  ·refine⟨⟨?_,?_⟩,aJ _⟩;show(er _ (bp x b.people)).length<=_;rw[Ae];have:=sS x b.people;omega;show(b.fams.filter _).length<=_;have:=bf (λh=>h.num !=(‹Fam›).num) b.fams;exact bX (bf _ _) (by omega)
theorem FI:∀(k:Nat) (b:bB) (n:Nat),(d5 k b n).waits=b.waits/\((d5 k b n).fams.map (·.num)).Sublist (b.fams.map (·.num))
 |0,b,n=>⟨rfl,Ah _⟩
 |k+1,b,n=>by
  unfold d5;split
  ·split;exact⟨rfl,Ah _⟩;rename_i g _;obtain⟨h1,h2⟩:=FI k {b with fams:=b.fams.filter λh=>h.num !=n} g.parent;exact⟨h1,h2.trans (fF.map _)⟩
  exact⟨rfl,Ah _⟩
theorem UC(b:bB)(n x:Nat):(dq b n x).waits=b.waits/\(dq b n x).fams.map (·.num)=b.fams.map (·.num):=by
 unfold dq;split;exact⟨rfl,rfl⟩;refine⟨rfl,?_⟩;show(b.fams.map λh:Fam=>if h.num=n then{h with next:=h.next+1} else h).map (λh:Fam=>h.num)=b.fams.map λh:Fam=>h.num;rw[bx];refine cu λh _=>?_;show(if h.num=n then{h with next:=h.next+1} else h).num=h.num;split<;>rfl
theorem aay(b:bB)(f:Nat):(fB b f).length<=(b.waits.filter λw=>bT b w.id==f).length:=by
 unfold fB;have sub:(b.waits.filter λw=>w.kind==4&&bT b w.id==f).length<=(b.waits.filter λw=>bT b w.id==f).length:=by
  have:(b.waits.filter λw=>w.kind==4&&bT b w.id==f)=(b.waits.filter λw=>bT b w.id==f).filter λw=>w.kind==4:=by rw[vd]
  rw[this];exact bf _ _
 dsimp only;split;exact cI _
 ·split;rw[ag];exact sub;exact cI _
theorem CQ(b:bB)(nd:(b.fams.map (·.num)).Nodup):(e9 b).2.length<=b.waits.length:=by
 show(b.fams.flatMap λg=>fB b g.num).length<=_;rw[hG];have h1:=Kg (λw:gd=>bT b w.id) (b.fams.map (·.num)) nd b.waits;rw[bx] at h1;refine bX ?_ h1;have:∀l:List Fam,(l.map λa=>(fB b a.num).length).sum<=(l.map ((λn=>(b.waits.filter λa=>bT b a.id==n).length)∘(·.num))).sum:=by
  intro l;induction l with
  |nil=>exact aJ _
  |cons a r ih=>
   rw[aU,dc,aU,dc];have:=aay b a.num;exact Nat.add_le_add this ih
 exact this b.fams
theorem Af{b c:bB}{m f:Nat}(h:Near b c m f):Near b (e9 c).1 m f:=⟨h.P,h.F⟩
theorem aaz(b:bB)(x f:Nat)(nd:(b.fams.map (·.num)).Nodup):RB b 1 1 (b.waits.length+1) (Es b x f):=by
 refine RB.free ?_;split;trivial
 ·split;trivial
  ·obtain⟨t1,t2⟩:=zW b.fams.length (dq {b with people:=bp x b.people} f x) (bT b x);obtain⟨t3,t4⟩:=FI b.fams.length (dq {b with people:=bp x b.people} f x) (bT b x);obtain⟨c1,c2⟩:=Fw {b with people:=bp x b.people} f x;obtain⟨c3,c4⟩:=UC {b with people:=bp x b.people} f x;have lw:=sS x b.people;have c1:_<=(bp x b.people).length+1:=c1;have c2:_=b.fams.length:=c2;refine⟨Af ⟨?_,?_⟩,?_⟩;omega;omega
   ·refine bX (CQ _ ?_) ?_;exact t4.nodup (by rw[c4];exact nd);rw[t3,c3];show b.waits.length<=_;omega
theorem aaA(b:bB)(x:Nat)(nd:(b.fams.map (·.num)).Nodup):RB b 1 1 (b.waits.length+1) (xM b x):=by
 refine RB.free ?_;obtain⟨t1,t2⟩:=zW b.fams.length {b with people:=bp x b.people} (bT b x);obtain⟨t3,t4⟩:=FI b.fams.length {b with people:=bp x b.people} (bT b x);have lw:=sS x b.people;have t1:_=(bp x b.people).length:=t1;have t2:_<=b.fams.length:=t2;refine⟨Af ⟨?_,?_⟩,?_⟩;omega;omega;refine bX (CQ _ (t4.nodup nd)) ?_;rw[t3];show b.waits.length<=_;omega
theorem XT(b:bB)(x k p:Nat):(kT b x k p).length<=b.waits.length:=bf _ _
theorem R8(b:bB)(x p n:Nat):RB b 1 1 (b.waits.length+1) (yg b x p n):=by
 refine RB.free ?_;have lw:=sS x b.people;split
 ·split;exact⟨.refl,by show 1<=_;omega⟩;exact Pr b _
 ·dsimp only;split;exact⟨⟨by show(bp x b.people).length<=_;omega,by show b.fams.length<=_;omega⟩,by show 1<=_;omega⟩;exact⟨⟨by show(bp x b.people).length<=_;omega,by show b.fams.length<=_;omega⟩,cI _⟩
theorem XU(b:bB)(x p n:Nat):RB b 1 1 (b.waits.length+1) (Cb b x p n):=by
 refine RB.free (aeK ?_ (Pr b _));refine⟨⟨by show b.people.length<=_;omega,by show b.fams.length<=_;omega⟩,?_⟩;rw[aK,ag];have:=XT b x 2 p;show _+1<=_;omega
theorem acp(b:bB)(x p n:Nat):RB b 1 1 2 (GI b x p n):=by
 refine RB.free ?_;split;exact⟨⟨by show b.people.length<=_;omega,by show b.fams.length<=_;omega⟩,aJ _⟩;exact Pr b _
theorem XW(b:bB)(x p:Nat)(nd:(b.fams.map (·.num)).Nodup):RB b 1 1 (b.waits.length+1) (Cd b x p):=by
 refine RB.free ?_;have hs:=CQ (gM b ⟨x,4,p,0⟩) nd;have hw:(gM b ⟨x,4,p,0⟩).waits.length=b.waits.length+1:=by
  show(b.waits++[_]).length=_;rw[aK];rfl
 have hn:Near b (e9 (gM b ⟨x,4,p,0⟩)).1 1 1:=Af ⟨by show b.people.length<=_;omega,by show b.fams.length<=_;omega⟩;split;rename_i c e;rw[e] at hn;exact hn;rename_i c off _ e;rw[e] at hn hs;have hs:off.length<=_:=hs;exact⟨hn,by omega⟩
theorem XX(b:bB)(x:Nat):RB b 1 1 0 (v5 b x):=by
 unfold v5;split;trivial
 ·split;trivial;exact⟨⟨by show b.people.length<=_;omega,by show b.fams.length<=_;omega⟩,aJ _⟩
def K3(y:fm×List Int):Nat:=y.1.1.length+y.1.2.length+y.2.length
theorem AJ(a c:fm):(pZ a c).1.length+(pZ a c).2.length=a.1.length+a.2.length+(c.1.length+c.2.length):=by
 show(a.1++c.1).length+(a.2++c.2).length=_;rw[aK,aK];omega
theorem FJ{rf:Nat->List Int->Option (fm×List Int)}(h:∀s l y,rf s l=ae y->K3 y<=l.length)(f:Nat)(nx:Int):∀(k:Nat) (lo:Int) (l:List Int) (y:fm×List Int),lM rf f nx k lo l=ae y->K3 y<=l.length
 |0,lo,l,y,e=>by
  have:y=(([],[]),l):=(bF e).symm;rw[this];show 0+0+l.length<=_;omega
 |k+1,lo,[],y,e=>by cases e
 |k+1,lo,[_],y,e=>by cases e
 |k+1,lo,s::t::r,y,e=>by
  unfold lM at e;dsimp only at e;split at e;cases e
  ·split at e
   ·cases r with
    |nil=>cases e
    |cons i q=>
     dsimp only at e;split at e
     ·cases e2:lM rf f nx k (s+1) q with
      |none=>rw[e2] at e;cases e
      |some z=>
       rw[e2] at e;have:=FJ h f nx k (s+1) q z e2;obtain rfl:=(bF e).symm;unfold K3 at this⊢;have sb:=AJ ([],[⟨i.toNat,f,s.toNat⟩]) z.1;dsimp only at sb⊢;simp only[aL,K_] at sb⊢;omega
     cases e
   ·split at e
    ·cases e2:rf s.toNat r with
     |none=>rw[e2] at e;cases e
     |some x=>
      rw[e2] at e;have hx:=h _ _ _ e2;have e:(lM rf f nx k (s+1) x.2).map (λy=>(pZ x.1 y.1,y.2))=ae y:=e;cases e3:lM rf f nx k (s+1) x.2 with
      |none=>rw[e3] at e;cases e
      |some z=>
       rw[e3] at e;have:=FJ h f nx k (s+1) x.2 z e3;obtain rfl:=(bF e).symm;unfold K3 at this hx⊢;have sb:=AJ x.1 z.1;dsimp only at sb⊢;simp only[aL];omega
    cases e
theorem R9:∀(n p s:Nat) (l:List Int) (y:fm×List Int),uW n p s l=ae y->K3 y<=l.length
 |0,p,s,l,y,e=>by cases e
 |n+1,p,s,l,y,e=>by
  match l,e with
  |[],e=>cases e
  |[_],e=>cases e
  |[_,_],e=>cases e
  |num::nx::k::r,e=>
   have e:(if(p:Int)<num/\1<=nx/\1<=k then(lM (λs l=>uW n num.toNat s l) num.toNat nx k.toNat 0 r).map (λy=>(pZ ([⟨num.toNat,p,s,nx.toNat⟩],[]) y.1,y.2)) else ay)=ae y:=e;split at e
   ·cases e2:lM (λs l=>uW n num.toNat s l) num.toNat nx k.toNat 0 r with
    |none=>rw[e2] at e;cases e
    |some z=>
     rw[e2] at e;have:=FJ (λs l y h=>R9 n num.toNat s l y h) num.toNat nx k.toNat 0 r z e2;obtain rfl:=(bF e).symm;unfold K3 at this⊢;have sb:=AJ ([⟨num.toNat,p,s,nx.toNat⟩],[]) z.1;dsimp only at sb⊢;simp only[aL,K_] at sb⊢;omega
   cases e
theorem Gv:∀(n:Nat) (lo:Int) (l:List Int) (y:fm),qU n lo l=ae y->y.1.length+y.2.length<=l.length
 |n,lo,[],y,e=>by
  have:y=([],[]):=by
   cases n<;>exact(bF e).symm
  rw[this];exact aJ _
 |0,lo,a::r,y,e=>by cases e
 |n+1,lo,num::r,y,e=>by
  have e:(if num<lo then ay else(uW fA 0 0 (num::r)).bind λx=>(qU n (num+1) x.2).map λy=>pZ x.1 y)=ae y:=e;split at e;cases e
  ·cases e2:uW fA 0 0 (num::r) with
   |none=>rw[e2] at e;cases e
   |some x=>
    rw[e2] at e;have hx:=R9 _ _ _ _ _ e2;have e:(qU n (num+1) x.2).map (λy=>pZ x.1 y)=ae y:=e;cases e3:qU n (num+1) x.2 with
    |none=>rw[e3] at e;cases e
    |some z=>
     rw[e3] at e;have:=Gv n (num+1) x.2 z e3;obtain rfl:=(bF e).symm;have sb:=AJ x.1 z;unfold K3 at hx;show(pZ x.1 z).1.length+(pZ x.1 z).2.length<=_;omega
theorem XY{n:Int}{fs ws:List Int}{c:bB}(h:iZ n fs ws=ae c):c.people.length<=fs.length/\c.fams.length<=fs.length:=by
 rw[Iu] at h;cases e1:qU fs.length 1 fs with
 |none=>rw[e1] at h;cases h
 |some t=>
  rw[e1] at h;have hs:=Gv _ _ _ _ e1;have h:((X9 ws.length ws).bind λw=>_)=ae c:=h;cases e2:X9 ws.length ws with
  |none=>rw[e2] at h;cases h
  |some w=>
   rw[e2] at h;have h:(if _ then ae (B6 t n w) else ay)=ae c:=h;split at h
   ·obtain rfl:=(bF h).symm;refine⟨?_,?_⟩;show(t.2.foldl (λl p=>er p l) []).length<=_;rw[Nw];show _+0<=_;omega;show(t.1.foldl (λl p=>GJ p l) []).length<=_;rw[Ny];show _+0<=_;omega
   cases h
def lz:Call->Nat
 | .split _ ids=>ids.length
 | .load _ fs _=>fs.length
 |_=>0
theorem Near.mono{b c:bB}{m f m' f':Nat}(h:Near b c m f)(h1:m<=m')(h2:f<=f'):Near b c m' f':=⟨by have:=h.P;omega,by have:=h.F;omega⟩
section
variable{g:G}{b:bB}
theorem fz.ahm(A:fz g b):(b.fams.map (·.num)).Nodup:=by
 rw[MB,eV];exact A.sF.imp λ{a c} h z=>by omega
theorem aaB(l:List Fam):∀(k n:Nat),(jM l k n).length<=k
 |0,_=>aJ _
 |k+1,n=>by
  unfold jM;split;exact cI _;rw[aL];exact Nat.succ_le_succ (aaB l k _)
theorem K4(l:List Nat):(di l).length=l.length:=by unfold di;rw[ag]
theorem uT(l:List Int):(eC l).length=l.length+1:=rfl
theorem Iv{x:Int}{a:fT->List Int}{m:Nat}(h1:1<=m)(h:∀p,(a p).length<=m):(fR b x a).length<=m:=by
 unfold fR;split;exact h1
 ·split;exact h1;exact h _
theorem Eo{x:Int}{a:Fam->List Int}{m:Nat}(h1:1<=m)(h:∀f∈b.fams,(a f).length<=m):(fL b x a).length<=m:=by
 unfold fL;split;exact h1
 ·split;exact h1;rename_i f e;exact h f (fM e)
theorem Mu(l:List dN):(l.flatMap tG).length=3*l.length:=by
 rw[hG];induction l with
 |nil=>rfl
 |cons a r ih=>rw[aU,dc,aL,ih];show 3+_=_;omega
theorem aaC(A:fz g b)(ok:nP g)(sz:Sz b)(c:Call):Near b (Yo b c).1 (1+lz c) (1+lz c)/\(Yo b c).2.length<=40000:=by
 have Nh:=sz.1;have J2:=sz.2;have nd:=A.ahm;have lW:b.waits.length<=2000:=by
  have h1:=ok.fit.Hk;have h2:=A.zQ ok.fit;rw[A.W,ag];omega
 have yi:∀m,Near b b m m:=λm=> .refl;have up:∀{r:bB×List Int} {m o:Nat},(Near b r.1 m 1/\r.2.length<=o+2)->m<=1+lz c->o<=30000->Near b r.1 (1+lz c) (1+lz c)/\r.2.length<=40000:=λh h1 h2=>⟨h.1.mono h1 (by omega),by omega⟩;cases c with
 |born x=>exact up (aco b x.toNat).asked (by omega) (by omega)
 |split x ids=>
  show Near b (if cy x=false then(b,[-1]) else match tW ids with
   |none=>(b,[-2])
   |some l=>bL b (tX b x.toNat l):bB×List Int).1 _ _/\(if cy x=false then(b,[-1]) else match tW ids with
   |none=>(b,[-2])
   |some l=>bL b (tX b x.toNat l):bB×List Int).2.length<=_
  split;exact⟨.refl,by show 1<=40000;omega⟩
  ·split;exact⟨.refl,by show 1<=40000;omega⟩
   ·rename_i l e;have el:l.length=ids.length:=by
     unfold tW at e;dsimp only at e;split at e;rw[<-bF e,ag];cases e
    obtain⟨h1,h2⟩:=(aav b x.toNat l).answered;exact⟨h1.mono (by show _<=1+ids.length;omega) (by omega),by omega⟩
 |found x=>exact up (aaw b x.toNat).asked (by omega) (by omega)
 |close x=>exact up (aax b x.toNat).asked (by omega) (by omega)
 |adopt x f=>exact up (aaz b x.toNat f.toNat nd).asked (by omega) (by omega)
 |leave x=>exact up (aaA b x.toNat nd).asked (by omega) (by omega)
 |assemble x p n=>exact up (R8 b x.toNat p.toNat n.toNat).asked (by omega) (by omega)
 |gather x p n=>exact up (XU b x.toNat p.toNat n.toNat).asked (by omega) (by omega)
 |pair x p q=>exact up (acp b x.toNat p.toNat q.toNat).asked (by omega) (by omega)
 |muster x p=>exact up (XW b x.toNat p.toNat nd).asked (by omega) (by omega)
 |recall x=>exact up (XX b x.toNat).asked (by omega) (by omega)
 |person x=>
  refine⟨.refl,bX (Iv (m:=5) (by omega) λp=>?_) (by omega)⟩;split<;>exact aJ _
 |family f=>exact⟨.refl,bX (Eo (m:=6) (by omega) λf _=>aJ _) (by omega)⟩
 |members f=>
  refine⟨.refl,bX (Eo (m:=20000) (by omega) λf _=>?_) (by omega)⟩;rw[aL,Mu,zU];have h1:(cC b f.num).length<=b.people.length:=bf _ _;have h2:(cH b f.num).length<=b.fams.length:=bf _ _;omega
 |path x=>
  refine⟨.refl,bX (Iv (m:=20000) (by omega) λp=>?_) (by omega)⟩;rw[uT,K4];have:=aaB b.fams b.fams.length p.fam;show(jM b.fams b.fams.length p.fam).length+1<=_;omega
 |kin x y=>
  refine⟨.refl,?_⟩;show(if(cy x&&cy y)=false then[-1] else _:List Int).length<=_;split;show 1<=40000;omega;exact bX (Iv (m:=1) (aJ _) λp=>Iv (aJ _) λq=>aJ _) (by omega)
 |line f=>
  refine⟨.refl,bX (Eo (m:=20000) (by omega) λq hq=>?_) (by omega)⟩;obtain⟨f0,uZ,rfl⟩:=(A.mF q).mp hq;rw[uT,K4];have:=Ry A ok uZ;unfold oR at this;rw[ag] at this;show(jF b f0.num.toNat).length+1<=_;omega
 |alike f h=>
  refine⟨.refl,?_⟩;show(if f<1\/h<1 then[-1] else _:List Int).length<=_;split;show 1<=40000;omega;exact bX (Eo (m:=1) (aJ _) λp _=>Eo (aJ _) λq _=>aJ _) (by omega)
 |waiting=>
  refine⟨.refl,?_⟩;show(kx b).length+1<=_;rw[A.VC ok.fit,xa];have:b.waits.length=g.W.length:=by rw[A.W,ag]
  omega
 |at_ p=>
  refine⟨.refl,?_⟩;show(if fI p=false then[-1] else(atR b p).2:List Int).length<=_;split;show 1<=40000;omega
  ·rw[A.ats ok.fit p];show((g.W.filter (xc p)).flatMap Tt).length+1<=_;rw[VD];have h1:=bf (xc p) g.W;have:b.waits.length=g.W.length:=by rw[A.W,ag]
   omega
 |roots=>
  refine⟨.refl,?_⟩;show(eC (di _)).length<=_;rw[uT,K4,ag];have h2:(cH b 0).length<=b.fams.length:=bf _ _;omega
 |told=>
  refine⟨.refl,?_⟩;show(eC (lZ b)++eC (kx b)).length+1<=_;rw[aK,uT,uT,A.VC ok.fit,xa];have h1:=Vw A ok;have:b.waits.length=g.W.length:=by rw[A.W,ag]
  omega
 |load n fs ws=>
  show Near b (if n<1 then(b,[-1]) else match iZ n fs ws with
   |some c=>(c,[0,0])
   |none=>(b,[-2]):bB×List Int).1 _ _/\(if n<1 then(b,[-1]) else match iZ n fs ws with
   |some c=>(c,[0,0])
   |none=>(b,[-2]):bB×List Int).2.length<=_
  split;exact⟨.refl,by show 1<=40000;omega⟩
  ·split;rename_i c e;obtain⟨h1,h2⟩:=XY e;exact⟨⟨by show c.people.length<=b.people.length+(1+fs.length);omega,by show c.fams.length<=b.fams.length+(1+fs.length);omega⟩,by show 2<=40000;omega⟩;exact⟨.refl,by show 1<=40000;omega⟩
 |clear=>exact⟨⟨by show 0<=_;omega,by show 0<=_;omega⟩,by show 2<=40000;omega⟩
 |counts=>exact⟨.refl,by show 5<=40000;omega⟩
end
end
end wz
namespace wz
open PySem PySem.Spec PyProof.Rows L2
section
open Vbdeah (Bank)
theorem CZ{z:Int}(h:aZ z=true):z<=1000000000000000000:=by
 unfold aZ at h;simp only[aH,decide_eq_true_iff] at h;exact h.2
theorem aeL:∀(p:Nat) (us:List W4) (nums:List Int) (ls:List (List Int)),p<25->Hz[p]? =ae us->nums.length=us.length->ls.length=nT p->IE (((p:Int)::nums)::ls)=true->∀z∈nums,z<=1000000000000000000
 |0,us,nums,ls,_,hu,hn,hl,h=>by
  cases hu;obtain⟨a0,rfl⟩:=kR hn;obtain rfl:=yu hl;have h:(aZ a0)=true:=h;have h0:=CZ h;intro z hz;simp only[aF,cP,or_false] at hz;rw[hz];exact h0
 |1,us,nums,ls,_,hu,hn,hl,h=>by
  cases hu;obtain⟨a0,rfl⟩:=kR hn;obtain⟨ids,rfl⟩:=ls1 hl;have h:(aZ a0&&_)=true:=h;simp only[aH] at h;have h0:=CZ h.1;intro z hz;simp only[aF,cP,or_false] at hz;rw[hz];exact h0
 |2,us,nums,ls,_,hu,hn,hl,h=>by
  cases hu;obtain⟨a0,rfl⟩:=kR hn;obtain rfl:=yu hl;have h:(aZ a0)=true:=h;have h0:=CZ h;intro z hz;simp only[aF,cP,or_false] at hz;rw[hz];exact h0
 |3,us,nums,ls,_,hu,hn,hl,h=>by
  cases hu;obtain⟨a0,rfl⟩:=kR hn;obtain rfl:=yu hl;have h:(aZ a0)=true:=h;have h0:=CZ h;intro z hz;simp only[aF,cP,or_false] at hz;rw[hz];exact h0
 |4,us,nums,ls,_,hu,hn,hl,h=>by
  cases hu;obtain⟨a0,a1,rfl⟩:=HK hn;obtain rfl:=yu hl;have h:(aZ a0&&(aZ a1))=true:=h;simp only[aH] at h;have h0:=CZ h.1;have h1:=CZ h.2;intro z hz;simp only[aF,cP,or_false] at hz;obtain rfl|rfl:=hz
  exact h0;exact h1
 |5,us,nums,ls,_,hu,hn,hl,h=>by
  cases hu;obtain⟨a0,rfl⟩:=kR hn;obtain rfl:=yu hl;have h:(aZ a0)=true:=h;have h0:=CZ h;intro z hz;simp only[aF,cP,or_false] at hz;rw[hz];exact h0
 |6,us,nums,ls,_,hu,hn,hl,h=>by
  cases hu;obtain⟨a0,a1,a2,rfl⟩:=Pq hn;obtain rfl:=yu hl;have h:(aZ a0&&(aZ a1&&(aZ a2)))=true:=h;simp only[aH] at h;have h0:=CZ h.1;have h1:=CZ h.2.1;have h2:=CZ h.2.2;intro z hz;simp only[aF,cP,or_false] at hz;obtain rfl|rfl|rfl:=hz
  exact h0;exact h1;exact h2
 |7,us,nums,ls,_,hu,hn,hl,h=>by
  cases hu;obtain⟨a0,a1,a2,rfl⟩:=Pq hn;obtain rfl:=yu hl;have h:(aZ a0&&(aZ a1&&(aZ a2)))=true:=h;simp only[aH] at h;have h0:=CZ h.1;have h1:=CZ h.2.1;have h2:=CZ h.2.2;intro z hz;simp only[aF,cP,or_false] at hz;obtain rfl|rfl|rfl:=hz
  exact h0;exact h1;exact h2
 |8,us,nums,ls,_,hu,hn,hl,h=>by
  cases hu;obtain⟨a0,a1,a2,rfl⟩:=Pq hn;obtain rfl:=yu hl;have h:(aZ a0&&(aZ a1&&(aZ a2)))=true:=h;simp only[aH] at h;have h0:=CZ h.1;have h1:=CZ h.2.1;have h2:=CZ h.2.2;intro z hz;simp only[aF,cP,or_false] at hz;obtain rfl|rfl|rfl:=hz
  exact h0;exact h1;exact h2
 |9,us,nums,ls,_,hu,hn,hl,h=>by
  cases hu;obtain⟨a0,a1,rfl⟩:=HK hn;obtain rfl:=yu hl;have h:(aZ a0&&(aZ a1))=true:=h;simp only[aH] at h;have h0:=CZ h.1;have h1:=CZ h.2;intro z hz;simp only[aF,cP,or_false] at hz;obtain rfl|rfl:=hz
  exact h0;exact h1
 |10,us,nums,ls,_,hu,hn,hl,h=>by
  cases hu;obtain⟨a0,rfl⟩:=kR hn;obtain rfl:=yu hl;have h:(aZ a0)=true:=h;have h0:=CZ h;intro z hz;simp only[aF,cP,or_false] at hz;rw[hz];exact h0
 |11,us,nums,ls,_,hu,hn,hl,h=>by
  cases hu;obtain⟨a0,rfl⟩:=kR hn;obtain rfl:=yu hl;have h:(aZ a0)=true:=h;have h0:=CZ h;intro z hz;simp only[aF,cP,or_false] at hz;rw[hz];exact h0
 |12,us,nums,ls,_,hu,hn,hl,h=>by
  cases hu;obtain⟨a0,rfl⟩:=kR hn;obtain rfl:=yu hl;have h:(aZ a0)=true:=h;have h0:=CZ h;intro z hz;simp only[aF,cP,or_false] at hz;rw[hz];exact h0
 |13,us,nums,ls,_,hu,hn,hl,h=>by
  cases hu;obtain⟨a0,rfl⟩:=kR hn;obtain rfl:=yu hl;have h:(aZ a0)=true:=h;have h0:=CZ h;intro z hz;simp only[aF,cP,or_false] at hz;rw[hz];exact h0
 |14,us,nums,ls,_,hu,hn,hl,h=>by
  cases hu;obtain⟨a0,rfl⟩:=kR hn;obtain rfl:=yu hl;have h:(aZ a0)=true:=h;have h0:=CZ h;intro z hz;simp only[aF,cP,or_false] at hz;rw[hz];exact h0
 |15,us,nums,ls,_,hu,hn,hl,h=>by
  cases hu;obtain⟨a0,a1,rfl⟩:=HK hn;obtain rfl:=yu hl;have h:(aZ a0&&(aZ a1))=true:=h;simp only[aH] at h;have h0:=CZ h.1;have h1:=CZ h.2;intro z hz;simp only[aF,cP,or_false] at hz;obtain rfl|rfl:=hz
  exact h0;exact h1
 |16,us,nums,ls,_,hu,hn,hl,h=>by
  cases hu;obtain⟨a0,rfl⟩:=kR hn;obtain rfl:=yu hl;have h:(aZ a0)=true:=h;have h0:=CZ h;intro z hz;simp only[aF,cP,or_false] at hz;rw[hz];exact h0
 |17,us,nums,ls,_,hu,hn,hl,h=>by
  cases hu;obtain⟨a0,a1,rfl⟩:=HK hn;obtain rfl:=yu hl;have h:(aZ a0&&(aZ a1))=true:=h;simp only[aH] at h;have h0:=CZ h.1;have h1:=CZ h.2;intro z hz;simp only[aF,cP,or_false] at hz;obtain rfl|rfl:=hz
  exact h0;exact h1
 |18,us,nums,ls,_,hu,hn,hl,h=>by
  cases hu;rw[aV.mp hn];simp
 |19,us,nums,ls,_,hu,hn,hl,h=>by
  cases hu;obtain⟨a0,rfl⟩:=kR hn;obtain rfl:=yu hl;have h:(aZ a0)=true:=h;have h0:=CZ h;intro z hz;simp only[aF,cP,or_false] at hz;rw[hz];exact h0
 |20,us,nums,ls,_,hu,hn,hl,h=>by
  cases hu;rw[aV.mp hn];simp
 |21,us,nums,ls,_,hu,hn,hl,h=>by
  cases hu;rw[aV.mp hn];simp
 |22,us,nums,ls,_,hu,hn,hl,h=>by
  cases hu;obtain⟨a0,rfl⟩:=kR hn;obtain⟨fs,ws,rfl⟩:=ls2 hl;have h:(aZ a0&&_)=true:=h;simp only[aH] at h;have h0:=CZ h.1;intro z hz;simp only[aF,cP,or_false] at hz;rw[hz];exact h0
 |23,us,nums,ls,_,hu,hn,hl,h=>by
  cases hu;rw[aV.mp hn];simp
 |24,us,nums,ls,_,hu,hn,hl,h=>by
  cases hu;rw[aV.mp hn];simp
 |n+25,_,_,_,h,_,_,_,_=>bM h (by omega)
theorem XZ{p:Int}{n k:Nat}(h:p_ p=ae (n,k)):∃(q:Nat) (us:List W4),p=(q:Int)/\q<25/\Hz[q]? =ae us/\n=us.length/\k=nT q:=by
 unfold p_ at h;by_cases c0:p=0;subst c0;have h:ae (1,0)=ae (n,k):=h;cases h;exact⟨0,_,rfl,by decide,rfl,rfl,rfl⟩;rw[if_neg c0] at h;by_cases c1:p=1;subst c1;have h:ae (1,1)=ae (n,k):=h;cases h;exact⟨1,_,rfl,by decide,rfl,rfl,rfl⟩;rw[if_neg c1] at h;by_cases c2:p=2;subst c2;have h:ae (1,0)=ae (n,k):=h;cases h;exact⟨2,_,rfl,by decide,rfl,rfl,rfl⟩;rw[if_neg c2] at h;by_cases c3:p=3;subst c3;have h:ae (1,0)=ae (n,k):=h;cases h;exact⟨3,_,rfl,by decide,rfl,rfl,rfl⟩;rw[if_neg c3] at h;by_cases c4:p=4;subst c4;have h:ae (2,0)=ae (n,k):=h;cases h;exact⟨4,_,rfl,by decide,rfl,rfl,rfl⟩;rw[if_neg c4] at h;by_cases c5:p=5;subst c5;have h:ae (1,0)=ae (n,k):=h;cases h;exact⟨5,_,rfl,by decide,rfl,rfl,rfl⟩;rw[if_neg c5] at h;by_cases c6:p=6;subst c6;have h:ae (3,0)=ae (n,k):=h;cases h;exact⟨6,_,rfl,by decide,rfl,rfl,rfl⟩;rw[if_neg c6] at h;by_cases c7:p=7;subst c7;have h:ae (3,0)=ae (n,k):=h;cases h;exact⟨7,_,rfl,by decide,rfl,rfl,rfl⟩;rw[if_neg c7] at h;by_cases c8:p=8;subst c8;have h:ae (3,0)=ae (n,k):=h;cases h;exact⟨8,_,rfl,by decide,rfl,rfl,rfl⟩;rw[if_neg c8] at h;by_cases c9:p=9;subst c9;have h:ae (2,0)=ae (n,k):=h;cases h;exact⟨9,_,rfl,by decide,rfl,rfl,rfl⟩;rw[if_neg c9] at h;by_cases c10:p=10;subst c10;have h:ae (1,0)=ae (n,k):=h;cases h;exact⟨10,_,rfl,by decide,rfl,rfl,rfl⟩;rw[if_neg c10] at h;by_cases c11:p=11;subst c11;have h:ae (1,0)=ae (n,k):=h;cases h;exact⟨11,_,rfl,by decide,rfl,rfl,rfl⟩;rw[if_neg c11] at h;by_cases c12:p=12;subst c12;have h:ae (1,0)=ae (n,k):=h;cases h;exact⟨12,_,rfl,by decide,rfl,rfl,rfl⟩;rw[if_neg c12] at h;by_cases c13:p=13;subst c13;have h:ae (1,0)=ae (n,k):=h;cases h;exact⟨13,_,rfl,by decide,rfl,rfl,rfl⟩;rw[if_neg c13] at h;by_cases c14:p=14;subst c14;have h:ae (1,0)=ae (n,k):=h;cases h;exact⟨14,_,rfl,by decide,rfl,rfl,rfl⟩;rw[if_neg c14] at h;by_cases c15:p=15;subst c15;have h:ae (2,0)=ae (n,k):=h;cases h;exact⟨15,_,rfl,by decide,rfl,rfl,rfl⟩;rw[if_neg c15] at h;by_cases c16:p=16;subst c16;have h:ae (1,0)=ae (n,k):=h;cases h;exact⟨16,_,rfl,by decide,rfl,rfl,rfl⟩;rw[if_neg c16] at h;by_cases c17:p=17;subst c17;have h:ae (2,0)=ae (n,k):=h;cases h;exact⟨17,_,rfl,by decide,rfl,rfl,rfl⟩;rw[if_neg c17] at h;by_cases c18:p=18;subst c18;have h:ae (0,0)=ae (n,k):=h;cases h;exact⟨18,_,rfl,by decide,rfl,rfl,rfl⟩;rw[if_neg c18] at h;by_cases c19:p=19;subst c19;have h:ae (1,0)=ae (n,k):=h;cases h;exact⟨19,_,rfl,by decide,rfl,rfl,rfl⟩;rw[if_neg c19] at h;by_cases c20:p=20;subst c20;have h:ae (0,0)=ae (n,k):=h;cases h;exact⟨20,_,rfl,by decide,rfl,rfl,rfl⟩;rw[if_neg c20] at h;by_cases c21:p=21;subst c21;have h:ae (0,0)=ae (n,k):=h;cases h;exact⟨21,_,rfl,by decide,rfl,rfl,rfl⟩;rw[if_neg c21] at h;by_cases c22:p=22;subst c22;have h:ae (1,2)=ae (n,k):=h;cases h;exact⟨22,_,rfl,by decide,rfl,rfl,rfl⟩;rw[if_neg c22] at h;by_cases c23:p=23;subst c23;have h:ae (0,0)=ae (n,k):=h;cases h;exact⟨23,_,rfl,by decide,rfl,rfl,rfl⟩;rw[if_neg c23] at h;by_cases c24:p=24;subst c24;have h:ae (0,0)=ae (n,k):=h;cases h;exact⟨24,_,rfl,by decide,rfl,rfl,rfl⟩;rw[if_neg c24] at h;cases h
theorem aaD(c:List (List Int)):HX c=c:=by
 unfold HX;split<;>rfl
theorem V1{ns:List Int}:∀(k i:Nat) (xs:List (List Int)) (r:List Int),i<=ns.length->PyFlat.rows k (ns.drop i)=ae (xs,r)->∃j,Gq ns i xs j/\xs.length=k/\r=ns.drop j/\i<=j/\j<=ns.length
 |0,i,xs,r,hi,h=>by
  have h:ae (([]:List (List Int)),ns.drop i)=ae (xs,r):=h;cases h;exact⟨i,.nil,rfl,rfl,aJ _,hi⟩
 |k+1,i,xs,r,hi,h=>by
  unfold PyFlat.rows at h;split at h;cases h
  ·rename_i x s e;split at h;cases h
   ·rename_i ys u e2;cases h;cases ed:ns.drop i with
    |nil=>rw[ed] at e;cases e
    |cons n tl=>
     rw[ed] at e;have e:(if 0<=n/\n.toNat<=tl.length then ae (tl.take n.toNat,tl.drop n.toNat) else ay)=ae (x,s):=e;split at e
     ·rename_i c;cases e;have Wz:ns[i]? =ae n:=by
       have:=congrArg (λl:List Int=>l[0]?) ed;simpa using this
      have htl:tl=ns.drop (i+1):=by
       have:=da (HW 1) ed;rw[nG] at this;exact this.symm
      have hlen:tl.length=ns.length -(i+1):=by rw[htl,ik]
      have lt:=Ac Wz;rw[htl,nG] at e2;obtain⟨j,L,l1,l2,l3,l4⟩:=V1 k (i+1+n.toNat) ys r (by omega) e2;refine⟨j,?_,by rw[aL,l1],l2,by omega,l4⟩;rw[htl];exact .cons (by rw[Wz];congr 1;omega) (by omega) L
     cases e
theorem acq{ns:List Int}{i:Nat}{c:List (List Int)}{r:List Int}(hi:i<=ns.length)(h:PyFlat.call p_ (ns.drop i)=ae (c,r)):∃(p:Nat) (us:List W4) (nums:List Int) (ls:List (List Int)) (j:Nat),c=((p:Int)::nums)::ls/\r=ns.drop j/\i<j/\j<=ns.length/\ns[i]? =ae (p:Int)/\p<25/\Hz[p]? =ae us/\i+1+us.length<=ns.length/\nums=(ns.drop (i+1)).take us.length/\Gq ns (i+1+us.length) ls j/\ls.length=nT p:=by
 cases ed:ns.drop i with
 |nil=>rw[ed] at h;cases h
 |cons p0 tl=>
  rw[ed] at h;have Wz:ns[i]? =ae p0:=by
   have:=congrArg (λl:List Int=>l[0]?) ed;simpa using this
  have htl:tl=ns.drop (i+1):=by
   have:=da (HW 1) ed;rw[nG] at this;exact this.symm
  have lt:=Ac Wz;have hlen:tl.length=ns.length -(i+1):=by rw[htl,ik]
  unfold PyFlat.call at h;dsimp only at h;split at h;cases h
  ·rename_i n k e;obtain⟨q,us,rfl,hq,hu,rfl,rfl⟩:=XZ e;split at h;cases h
   ·rename_i c1;split at h;cases h;rename_i xs u e2;cases h;rw[htl,nG] at e2;obtain⟨j,L,l1,l2,l3,l4⟩:=V1 (nT q) (i+1+us.length) xs r (by omega) e2;exact⟨q,us,_,xs,j,rfl,l2,by omega,l4,Wz,hq,hu,by omega,by rw[htl],L,l1⟩
theorem K5{x:List Int}:∀{ls:List (List Int)} (n:Nat),x∈ls->x.length<=ls.foldl (λ(n:Nat) (r:List Int)=>n+r.length) n
 |a::r,n,h=>by
  rw[cV];obtain rfl|h:=aF.mp h
  ·have:∀(l:List (List Int)) (m:Nat),m<=l.foldl (λ(n:Nat) (r:List Int)=>n+r.length) m:=by
    intro l;induction l with
    |nil=>intro m;exact aJ _
    |cons b s ih=>intro m;rw[cV];exact bX (Nat.le_add_right _ _) (ih _)
   exact bX (Nat.le_add_left _ _) (this r _)
  exact K5 _ h
theorem ahn{c:List (List Int)}{d:Vbdeah.Call}(h:Vbdeah.callOf c=ae d):lz d<=gp c:=by
 unfold Vbdeah.callOf at h;split at h<;>cases h<;>first|exact cI _|skip
 rename_i x ids;show ids.length<=0+ids.length;omega;rename_i n fs ws;show fs.length<=0+fs.length+ws.length;omega
theorem X4{g:G}{b:bB}(A:fz g b)(ok:nP g)(sz:Sz b)(c:List (List Int)):Near b (aN b c).1 (1+gp c) (1+gp c)/\(aN b c).2.length<=40000:=by
 unfold aN;split;rename_i d e;have:=ahn e;obtain⟨h1,h2⟩:=aaC A ok sz d;exact⟨h1.mono (by omega) (by omega),h2⟩;exact⟨.refl,by show 1<=40000;omega⟩
def sumF(cs:List (List (List Int))):Nat:=(cs.map gp).sum
theorem Nz:∀(cs:List (List (List Int))) (n:Nat),cs.foldl (λ(n:Nat) (c:List (List Int))=>n+gp c) n=n+sumF cs
 |[],n=>rfl
 |a::r,n=>by
  rw[cV,Nz r];unfold sumF;rw[aU,dc];omega
end
section
open Vbdeah (Bank)
section
variable{P:bg}{w:cn}{K:au}{mg:Str->Option ax}{base:df}{t:fO}
def UD(t:fO)(K:au):Sp:=λvs H Q _=>∃(l:aj) (ns:List Int),vs=[.ref l]/\Apart t/\dS K H l (ns.map V.int)/\xi ns=true/\∀H' a,H' a=ae (.lst ((Ew ns).map V.int))->Q (.ref a) H'
theorem UE(T:Txt w K mg t):dU P w K mg base kI 10 t.wV t.rE ["calls"] (UD t K):=by
 refine T.M_.ok uv (λvs H Q E h=>?_) (λiq Ar outer s H vs Q E hr h=>?_);obtain⟨l,ns,rfl,_⟩:=h;rfl
 ·obtain⟨l,ns,rfl,Ap,hl,FK,q⟩:=h;have B3:aM=16777216:=rfl;unfold xi at FK;unfold Ew at q;cases SM:X_ ns with
  |none=>rw[SM] at FK;cases FK
  |some cs=>
   rw[SM] at FK q;have FK:(PyFlat.atMost 150 cs&&Ld cs)=true:=FK;have q:∀H' a,H' a=ae (.lst ((vL (v8 aN nF cs)).map V.int))->Q (.ref a) H':=q;have aeN:Ex p_ ns.length ns=ae cs:=by
    unfold X_ at SM;split at SM;cases SM
    ·rename_i cs0 e;have:cs0.map HX=cs0:=by
      conv=>rhs;rw[<-IC cs0]
      exact cu λc _=>aaD c
     rw[this] at SM;cases SM;exact e
   unfold PyFlat.atMost Ld at FK;simp only[aH,decide_eq_true_iff] at FK;obtain⟨hlen,p8,_,_,aeO⟩:=FK;have p8:=cz.mp p8;have aeO:sumF cs<=1500:=by
    have:0+sumF cs<=1500:=bX (yz (Nz cs 0).symm) aeO;omega
   refine⟨_,(ao (cj (i:=1) uv.nd rfl (bE rfl) (IU T.Of (xA T) hr.mo rfl T.Oe T.zl .nil bQ))
   (ao (cj (i:=2) uv.nd rfl (bE rfl) (xn T.E5 (uR T) hr.mo rfl T.E4 T.vV .nil bQ (ah (pv 0) aw)))
   (ao (cj (i:=3) uv.nd rfl (bE rfl) (cv aw))
   (ao (rZ dm (vO (vN (sd (pv 2) T.dC T.nO (nQ T) hr.mo T.pJ .nil bQ)))
   (ao (cj (i:=4) uv.nd rfl (bE rfl) (bI (K1 T) hr.mo rfl T.JM T.BQ.kp T.L6 .nil bQ (ah (pv 1) (ah (pv 2) aw))))
   (ao (cJ (tH b8 gb gF rA (pv 3) (ah (cM cq (by rfl) T.eG bz (ah (pv 4) aw)) aw)))
   (aD (cJ (tH b8 dQ eZ rC (pv 3) (ah (pv 4) aw)))))))
   (aD (bu (pv 3))))))),?_⟩
   intro k dk hk0 akF ndk;refine⟨k,dk,rfl,aq,λH1 pa fa wa fW k1 SG Vj Q8=>⟨rfl,?_⟩⟩;have s1:bC H H1:=λb u e=>k1 _ _ (aO (aO e (aI e akF)) (aI e hk0)) (aI e hk0);obtain⟨ok0,A0⟩:= @RP dk pa fa wa;have kp1:Kp t H1 k nF:=⟨_,fW,A0,ok0⟩;refine⟨_,rfl,?_⟩;intro r d hr0 hd0 ndr;refine⟨r,d,l,rfl,aq,rfl,?_⟩;rw[hJ];have s2:bC H1 (upd (upd H1 d (.own r)) r (.ins t.du d (SQ l 0))):=λb u e=>aO (aO e (aI e hd0)) (aI e hr0);have e2:upd (upd H1 d (.own r)) r (.ins t.du d (SQ l 0)) r=ae (.ins t.du d (SQ l 0)):=aq;generalize upd (upd H1 d (.own r)) r (.ins t.du d (SQ l 0))=H2 at s2 e2;refine⟨cI _,λa ha=>?_⟩;have s3:bC H2 (upd H2 a (.lst [])):=bC.new ha;have e3:upd H2 a (.lst []) a=ae (.lst []):=aq;generalize upd H2 a (.lst [])=H3 at s3 e3;have s03:=(s1.trans s2).trans s3;have haH:H a=ay:=cY (s1.trans s2) ha;have nal:a≠l\/∀H',dS K H' l (ns.map V.int):=by
    obtain(e|⟨o,e⟩)|z:=hl
    ·exact .inl λz=>by rw[z,e] at haH;cases haH
    ·exact .inl λz=>by rw[z,e] at haH;cases haH
    exact .inr λ_=> .inr z
   have akG:∀{Ha Hb:Hp} {dd:aj} {ff:List (Str×V)},Ha r=ae (.ins t.du dd ff)->(∀b u,Ha b=ae u->ZG t u->b≠r->Hb b=ae u)->dS K Ha l (ns.map V.int)->dS K Hb l (ns.map V.int):=λ{Ha Hb dd ff} hr k h=>by
    obtain(e|⟨o,e⟩)|z:=h
    exact .inl (.inl (k _ _ e trivial (gg e hr nofun)));exact .inl (.inr ⟨o,k _ _ e trivial (gg e hr nofun)⟩);exact .inr z
   have akH:∀{Ha:Hp} {u:HO},dS K Ha l (ns.map V.int)->dS K (upd Ha a u) l (ns.map V.int):=λ{Ha u} h=>by
    obtain n|z:=nal
    ·obtain(e|⟨o,e⟩)|z:=h
     exact .inl (.inl (aO e (gA n)));exact .inl (.inr ⟨o,aO e (gA n)⟩);exact .inr z
    exact z _
   have akI:dS K H3 l (ns.map V.int):=by
    obtain(e|⟨o,e⟩)|z:=hl
    exact .inl (.inl (s03 _ _ e));exact .inl (.inr ⟨o,s03 _ _ e⟩);exact .inr z
   show rY _ _ _ [ae (.ref l),ae (.ref k),ae (.ref r),ae (.ref a),ay] H3;refine AG (λm σ H'=>∃(b:bB) (i fu u:Nat) (cs2:List (List (List Int))) (tl:List Int) (v:Option V),σ=[ae (.ref l),ae (.ref k),ae (.ref r),ae (.ref a),v]/\Ex p_ fu (ns.drop i)=ae cs2/\i<=ns.length/\Kp t H' k b/\b.people.length<=u/\b.fams.length<=u/\u+cs2.length+sumF cs2<=1650/\xH t H' r d l i/\dS K H' l (ns.map V.int)/\H' a=ae (.lst (tl.map V.int))/\tl++vL (v8 aN b cs2)=vL (v8 aN nF cs)/\tl.length+40001*cs2.length<=6000150/\(∀c∈cs2,IE c=true)/\sumF cs2<=1500/\m=cs2.length) cs.length ⟨nF,0,ns.length,0,cs,[],ay,rfl,aeN,cI _,kp1.same (s2.trans s3),aJ _,aJ _,by omega,s3 _ _ e2,akI,e3,rfl,by show 0+_<=_;omega,p8,aeO,rfl⟩ ?_;rintro m σ H' ⟨b,i,fu,u,cs2,tl,v,rfl,ec,hi,kp,zp,zf,hu,rd,sZ,ha',etl,hsz,adg,hf2,rfl⟩;refine⟨_,rfl,_,_,_,rfl,rd,rfl,r,d,l,i,ns,rfl,rd,sZ,_,rfl,?_⟩;by_cases wA:ns.length<=i
   ·rw[bG wA];have ei:ns.drop i=[]:=rh wA;rw[ei] at ec;have akJ:cs2=[]:=by
     have:Ex p_ fu []=ae []:=by cases fu<;>rfl
     rw[this] at ec;exact(bF ec).symm
    subst akJ;have etl:tl=vL (v8 aN nF cs):=by rw[<-etl];show tl=tl++[];rw[cD]
    subst etl;exact⟨_,rfl,q H' a ha'⟩
   ·rw[u5 wA];refine⟨_,λσ' H' z=>z,?_⟩;obtain⟨g,KG,A,ok⟩:=id kp;cases ed:ns.drop i with
    |nil=>exact bM (Bk.mp ed) wA
    |cons p0 tail=>
     cases fu with
     |zero=>rw[ed] at ec;cases ec
     |succ fu=>
      have ec0:=ec;rw[ed] at ec;unfold Ex at ec;split at ec;cases ec
      ·rename_i c r0 e0;split at ec;cases ec
       ·rename_i cs3 e1;cases ec;rw[<-ed] at e0;obtain⟨p,us,nums,ls,j,rfl,rfl,hij,hj,Wz,hp,ahp,hle,adh,L,hls⟩:=acq hi e0;have ahq:=adg _ (aB ..);have ahr:nums.length=us.length:=by rw[adh,d6,ik];omega
        have akK:=aeL p us nums ls hp ahp ahr hls ahq;have sf:sumF ((((p:Int)::nums)::ls)::cs3)=gp (((p:Int)::nums)::ls)+sumF cs3:=by unfold sumF;rw[aU,dc]
        rw[sf] at hu hf2;have hfu:∀x∈ls,x.length<=gp (((p:Int)::nums)::ls):=λx hx=>K5 0 hx;rw[aL] at hu hsz;have sz:Sz b:=⟨by omega,by omega⟩;obtain⟨near,akL⟩:=X4 A ok sz (((p:Int)::nums)::ls);refine⟨_,rfl,_,rfl,k,r,d,l,b,ns,i,j,p,us,nums,ls,rfl,Ap,kp,sz,rd,sZ,⟨Wz,hp,ahp,hle,adh,L,hls,akK,λx hx=>by have:=hfu x hx;omega⟩,λH4 a4 SJ h4 e4 rd4 VR amQ=>?_⟩;have nar:a≠r:=gg ha' rd nofun;have ha4:=VR _ _ ha' trivial nar;have Rt:=akG rd VR sZ;have na4:a4≠a:=λz=>by rw[z,ha'] at h4;cases h4
        generalize hS:aN b (((p:Int)::nums)::ls)=S at SJ e4 near akL;refine⟨_,rfl,.inl ⟨rfl,_,dS.of ha4⟩,_,rfl,_,_,rfl,.inl (dS.of e4),a,_,_,rfl,rfl,ha4,(by rw[ag];omega),?_⟩;have e5:upd H4 a (.lst (tl.map V.int++[V.int (((S.2.map V.int).length:Nat):Int)])) a4=ae (.lst (S.2.map V.int)):=aO e4 na4;have e6:upd H4 a (.lst (tl.map V.int++[V.int (((S.2.map V.int).length:Nat):Int)])) a=ae (.lst (tl.map V.int++[V.int (((S.2.map V.int).length:Nat):Int)])):=aq;refine⟨_,rfl,.inl ⟨rfl,_,dS.of e6⟩,_,rfl,a,a4,_,_,rfl,rfl,e6,e5,(by rw[aK,ag,ag];show _+1+_<=_;omega),?_⟩;rw[hJ];have kpa:∀c u,H4 c=ae u->Core t u->upd H4 a (.lst (tl.map V.int++[V.int (((S.2.map V.int).length:Nat):Int)]++S.2.map V.int)) c=ae u:=λc u e co=>aO e λz=>by rw[z,ha4] at e;cases e;exact co
        refine⟨cs3.length,nY _,S.1,j,fu,u+(1+gp (((p:Int)::nums)::ls)),cs3,tl++(S.2.length:Int)::S.2,_,rfl,e1,hj,Rm.core SJ kpa,by have:=near.P;omega,by have:=near.F;omega,by omega,aO rd4 (gg rd4 ha4 nofun),akH Rt,?_,?_,?_,λc hc=>adg c (aC _ hc),by omega,rfl⟩;rw[aq,az,ag,dJ];rfl;rw[<-etl];show _=tl++vL ((aN b (((p:Int)::nums)::ls)).2::v8 aN (aN b (((p:Int)::nums)::ls)).1 cs3);rw[hS];unfold vL;rw[wc,dJ];rw[aK,aL];omega
end
end
theorem Ik{p:Prop}(h:p):p:=h
def adi(K:au):Sp:=λvs H Q _=>∃(l:aj) (ns:List Int),vs=[.ref l]/\dS K H l (ns.map V.int)/\xi ns=true/\∀H' a,H' a=ae (.lst ((Ew ns).map V.int))->Q (.ref a) H'
theorem fin{P:bg}{w:cn}{K:au}{mg:Str->Option ax}{fa:aj}(hmg:mg "answers"=ae (.ref fa))(h:∃t:fO,Txt w K mg t/\t.fb≠t.dw/\t.fb≠t.fU/\t.fb≠t.dW/\t.fb≠t.du/\t.fb≠t.eL/\t.dw≠t.fU/\t.dw≠t.dW/\t.dw≠t.du/\t.dw≠t.eL/\t.fU≠t.dW/\t.fU≠t.du/\t.fU≠t.eL/\t.dW≠t.du/\t.dW≠t.eL/\t.du≠t.eL):∃fd:bq,(∀(s:aE) (us:List ax),us.length=(["calls"]:List Str).length->Sd s fd ⟨us,[]⟩ ((["calls"]:List Str).zip us))/\∀base:df,K.In base->base.Ns l_ mg->dU P w K mg base kI 10 fa fd ["calls"] (adi K):=by
 obtain⟨t,T,a1,a2,a3,a4,a5,a6,a7,a8,a9,b1,b2,b3,b4,b5,b6⟩:=h;have e:=hmg.symm.trans T.T_;cases e;have Ap:Apart t:=⟨a1,a2,a3,a6,a7,b1,a4,a8,b2,b4,a5,a9,b3,b5,b6⟩;obtain⟨oc,od,kV,doc,pm,an,iq,ct,osl,efd,_⟩:=T.M_.ex;refine⟨t.rE,λs us hu=>?_,λbase _ _=>(UE T).imp λvs H Q E h=>?_⟩
 ·rw[efd];exact match us,hu with|[_],_=> .of_eq rfl
 obtain⟨l,ns,rfl,hl,FK,q⟩:=h;exact⟨l,ns,rfl,Ap,hl,FK,q⟩
end wz
open PySem PySem.W PyProof.Rows
set_option maxRecDepth 100000 in
set_option maxHeartbeats 0 in
theorem PySem.Challenge.cw_kinfolds_s01_answers_holds : PySem.Challenge.rw_kinfolds_s01_answers.Holds := by
 w_on;k_headS;(case hw=>exact⟨[.list [.int 24]],by decide+kernel,by decide+kernel⟩)
 k_fillS
 refine L2.TQ (r:=PySem.Challenge.rw_kinfolds_s01_answers) (k:=10) (CX:=L2.kI) (ps:=["calls"]) (sp:=wz.adi) (by decide+kernel) rfl rfl ⟨rfl,by decide,by decide⟩ (λw h Y=>PySem.W.kIn_of Y) ?F ?S (λ_ _ _ _ z=>z);case S=>
  intro K H xs a hO hwi FK hx;cases hx with
  |cons h1 h2=>
   cases h2;cases h1 with
   |lst hs ha=>
    have e:=L2.U7 a.1 _ ha;subst e;exact⟨_,a.1,rfl,hs,FK,λH' p hp=> .lst (L2.dS.of hp) (L2.U6 _)⟩
 case F=>
  intro w mg fa h Y KX G hmg;refine' wz.fin hmg (wz.mkA ⟨⟨?_,?_,?_,?_,?_,?_,?_,?_,?_,?_,?_,?_,?_,?_,?_,?_,?_,?_,?_,?_,?_,?_,?_,?_,?_,?_,?_,?_,?_,?_,?_,?_,?_,?_,?_,?_,?_,?_,?_,?_,?_,?_,?_,?_,?_,?_,?_,?_,?_,?_,?_,?_,?_,?_,?_,?_,?_,?_,?_,?_,?_,?_,?_,?_,?_,?_,?_,?_,?_,?_,?_,?_,?_,?_,?_,?_,?_,?_,?_,?_,?_,?_,?_,?_,?_,?_,?_,?_,?_,?_,?_,?_,?_,?_,?_,?_,?_,?_,?_,?_,?_,?_,?_,?_,?_,?_,?_,?_,?_,?_,?_,?_,?_,?_,?_,?_,?_,?_,?_,?_,?_,?_,?_,?_,?_,?_,?_,?_,?_,?_,?_,?_,?_,?_,?_,?_,?_,?_,?_,?_,?_,?_,?_,?_,?_,?_,?_,?_,?_,?_,?_,?_,?_,?_,?_,?_,?_,?_,?_,?_,?_,?_,?_,?_,?_,?_,?_,?_,?_,?_,?_,?_,?_,?_,?_,?_,?_,?_,?_,?_,?_,?_,?_,?_,?_,?_,?_,?_,?_,?_,?_,?_,?_,?_,?_,?_,?_,?_,?_,?_,?_,?_,?_,?_,?_,?_,?_,?_,?_,?_,?_,?_,?_,?_,?_,?_,?_,?_,?_,?_,?_,?_,?_,?_,?_,?_,?_,?_,?_,?_,?_,?_,?_,?_,?_,?_,?_,?_,?_,?_,?_,?_,?_,?_,?_,?_,?_,?_,?_,?_,?_,?_,?_,?_,?_,?_,?_,?_,?_,?_,?_,?_,?_,?_,?_,?_,?_,?_,?_,?_,?_,?_,?_,?_,?_,?_,?_,?_,?_,?_,?_,?_,?_,?_,?_,?_,?_,?_,?_,?_,?_,?_,?_,?_,?_,?_,?_,?_,?_,?_,?_,?_,?_,?_,?_,?_,?_,?_,?_,?_,?_,?_,?_,?_,?_,?_,?_,?_,?_,?_,?_,?_,?_,?_,?_,?_,?_⟩,?_,?_,?_,?_,?_,?_,?_,?_,?_,?_,?_,?_,?_,?_,?_⟩);all_goals try (refine wz.Ik ?_;(try dsimp only);first|(refine' L2.adN ?_ ?_ ?_<;>try (refine wz.Ik ?_;k_is))|(exact L2.Binds.all λus hl=>match us,hl with|[_],_=>rfl)|(exact L2.Binds.all λus hl=>match us,hl with|[_,_],_=>rfl)|(exact L2.Binds.all λus hl=>match us,hl with|[_,_,_],_=>rfl)|(exact L2.Binds.all λus hl=>match us,hl with|[_,_,_,_],_=>rfl)|(exact L2.Binds.all λus hl=>match us,hl with|[_,_,_,_,_],_=>rfl)|(refine aaO KX G ?_;k_is)|(refine' L2.wt.mk ?_ ?_ ?_<;>try (refine wz.Ik ?_;k_is))|(refine PySem.W.mg_none_of KX G ?_;k_is)|(refine' wz.exi (aaO KX G ?_)<;>try (refine wz.Ik ?_;k_is))|(refine' L2.Mk.mk ?_ ?_ ?_ ?_<;>try (refine wz.Ik ?_;k_is))|(refine L2.Ss.mk ?_ ?_ ?_ ?_<;>k_is)|(unfold L2.iI;k_is)|(refine' wz.JT ?_ ?_<;>try (refine wz.Ik ?_;first|k_is|decide))|(refine' wz.Xc ?_ ?_<;>try (refine wz.Ik ?_;first|k_is|decide))|(refine' wz.Ud ?_ ?_<;>try (refine wz.Ik ?_;first|k_is|decide))|(refine' wz.Q6 ?_ ?_<;>try (refine wz.Ik ?_;first|k_is|decide))|(refine' λH=>wz.adS ?tl ?hs ?hv;(case tl=>k_is);(case hs=>decide);(case hv=>repeat first|exact .nil|refine .cons ⟨_,rfl⟩ ?_))|k_exc|k_is|decide)
