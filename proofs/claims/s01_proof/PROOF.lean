import PyProof.Rows.All
import Wide.All
import OpenK.AllK
import Wide.FinOn
import PyProof.EqAt
import PyProof.EqKinds
import PyProof.TupleCall
import KE.BitLaws
import Open.SpecLaws
import KE.OsHead
import KE.OsGo
import PyProof.Rows.TmSorted
import PyProof.TupleKey
import PyProof.DictRoadsH
import PyProof.MeetsDictList
import PyProof.EnumMake
import PyProof.Rows.CallKwBuiltin
import PyProof.Rows.Exc
import PySem.Challenge.RW_teamsail_s01_answers
import PyProof.Rows.SortShellAny
import KE.KLam
import KE.KMinKey
import KE.KNestM
set_option Elab.async false
set_option linter.all false
set_option compiler.extract_closed false
set_option maxRecDepth 100000
set_option maxHeartbeats 2000000
noncomputable section
local macro_rules|`(tactic|omega)=>`(tactic|first|decide|lia|omega (config:={}))
local macro_rules|`(command|def $d:declId $s:optDeclSig $v:declVal)=>`(command|noncomputable def $d:declId $s:optDeclSig $v:declVal)
open List renaming length_map->U,length_append->ao,length_cons->aq,mem_cons->aw,getElem?_map->ax,mem_singleton->ay,map_cons->aC,getElem?_eq_some_iff->aH,mem_map->aO,mem_of_getElem?->aT,size_toArray->aU,map_append->aX,range->aY,getElem?_eq_getElem->a7,map_map->a9,mem_cons_of_mem->ba,mem_append_right->bq,all_eq_true->bA,mem_cons_self->bC,getD_eq_getElem?_getD->bD,length_take->bK,mem_append->bS,append_assoc->bX,append_nil->cb,map_congr_left->cf,length_range->ck,drop_eq_getElem_cons->cw,take_length->cA,findIdx?_cons->cD,nodup_cons->cE,mem_range->cH,take_of_length_le->cI,length_singleton->cP,flatMap_cons->cT,foldl_cons->c7,length_drop->dh,contains_iff_mem->dj,range_succ_eq_map->dC,lookup_cons->dD,filter_cons->eK,flatMap_append->eV,find?_cons->ff,any_cons->fH,length_eq_zero_iff->fR,lookup->gA,mem_filter->g6,count_cons->g7,length->iA,map_nil->iB,length_pos_iff->iZ,nodup_nil->jf,cons_append->jg,flatMap_singleton->jS,nil_append->jZ,all_cons->kl,length_filter_le->ku,mem_append_left->lE,getElem?_append_right->lG,count_replicate->lN,drop_length->me,not_mem_nil->mi,idxOf_cons->mN,pairwise_cons->ng,filter_append->nh,getElem?_cons_zero->oe,map_id->og,getElem?_set_self->oH,nodup_append->oO,drop_of_length_le->oP,getElem?_eq_none->oY,cons->pU,flatMap_map->pW,getElem?_set_ne->qy,forIn_cons->rb,length_nil->rf,range_succ->rh,filterMap_cons->ro,map_eq_nil_iff->rp,length_reverse->rq,getElem?_range->rA,drop_drop->sX,map_inj_right->sZ,sum_cons->uL
open PySem.W renaming Frag->ab,nsIn->af,mg_of->ah,findIn->br,mg_none_of->b9,kla_obj->cQ,keepIn->c6,emptyDict->dJ,fnOf->dW,instObj->fZ,hasDictIn->iw,plainGet->jd,plainOver->kD,codeIn->lH,envX->mf,makesIn->mM,codeHdIn->pV,isFn->rN,callWith_K->sW,methodObj->tX,tabIn->uO
open Option renaming some->aj,map_eq_some_iff->aZ,isSome_map->oK
open Nat renaming le_refl->au,zero_le->a0,lt_of_lt_of_le->bo,le_trans->bB,ne_of_lt->cj,lt_irrefl->fG,mul_le_mul_right->fO,le_succ->lF,pow_le_pow_right->lI,le_add_right->md,lt_of_le_of_lt->nc,le_of_succ_le->oJ,toDigits->oM,pow_succ->oN,succ_mul->oU,succ_le_succ->pX,min_eq_left->rg,ne_of_gt->rM,add_assoc->uM
open PySem.Heap renaming get?_push_of_some->aA,get?_push_size->aQ,lt_size->a8,size_push->cR,SameBut->dk
open PySem.F renaming plainAttrs_list->aB,slot_list_append->bc,type_list_append->bf,plain_max_loop->dE,slot_list_count->eL,type_list_count->eM,slot_list_extend->iV,type_list_extend->iW,slot_list_index->je,type_list_index->oh,entry_max_loop->oQ
open Bool renaming and_eq_true->aG,false_ne_true->a6,false_eq_true->bW,noConfusion->cF,true_and->eQ,false_and->jc,not_true->km,eq_iff_iff->mL,decide_and->mO
open Vbrezy renaming combsFrom->aJ,boatName->aL,Game->aP,Rules->aR,Setup->aS,inside->aW,widened->a_,moves->bg,resultOf->bx,mayMove->bz,boatOk->bE,value->bG,digits->bH,moved->bJ,otherBoat->bL,told->bR,pointsOf->bU,passedAt->bV,combOf->cN,teams->cX,splitAt->c8,bestMove->c9,teamOf->di,passesOf->du,written->dP,now->d7,ties->fg,POINTS->fI,ORDER->gc,State->gd,good->gB,few->gO,digitsOnly->iC,taken->iD,CAN->iU,bytesOf->jh,Call->jE,step->jF,BOATS->jT,linesIn->lJ,TURN->lK,LEFT->lL,pick->lM,endTold->lO,readSetup->mh,power->mj,bound->ml,orNone->mI,numberIn->mP,TIE->ni,passesFrom->oR,allSome->oT,counted->oV,boatIn->qd,Comb->qz,swappedRules->rB,swappedGame->s_,valueOf->tj,swapAt->uN,combs->w6
open Int renaming toNat->bF,ofNat->rZ
open Array renaming length_toList->mB,forIn_toList->sY
namespace L2
open PySem PySem.Spec PyProof.Rows
abbrev Key:=Sum Int Str
def DO:Key->Value->Bool
 | .inl k,v=>Value.isInt k v
 | .inr x,v=>Value.isStrOf x v
def aeW (w:World):Key->Int
 | .inl k=>hashInt k
 | .inr x=>hashStr w x
theorem gg:∀ {k:Key} {v:Value},DO k v=true->(∃ i t,k=Sum.inl i/\v=Value.int i t)\/(∃ x t,k=Sum.inr x/\v=Value.str x t)
 | .inl i,v,h=>by
  obtain ⟨t,e⟩:=Value.isInt_shape (k:=i) (v:=v) h
  exact .inl ⟨i,t,rfl,e⟩
 | .inr x,v,h=>by
  obtain ⟨t,e⟩:=Value.isStrOf_shape (x:=x) (v:=v) h
  exact .inr ⟨x,t,rfl,e⟩
theorem Sd (i:Int) (t:Tok):DO (.inl i) (.int i t)=true:=by simp [DO,Value.isInt]
theorem Se (x:Str) (t:Tok):DO (.inr x) (.str x t)=true:=by simp [DO,Value.isStrOf]
theorem YX (a b:Int):decide ((Sum.inl a:Key)=Sum.inl b)=(a==b):=by
 by_cases e:a=b
 ·subst e;simp
 ·have h:¬ (Sum.inl a:Key)=Sum.inl b:=fun q=>e (Sum.inl.inj q)
  rw [decide_eq_false h]
  exact (beq_eq_false_iff_ne.mpr e).symm
theorem YY (a b:Str):decide ((Sum.inr a:Key)=Sum.inr b)=decide (a=b):=by
 by_cases e:a=b
 ·subst e;simp
 ·have h:¬ (Sum.inr a:Key)=Sum.inr b:=fun q=>e (Sum.inr.inj q)
  rw [decide_eq_false h,decide_eq_false e]
theorem YZ (a:Int) (b:Str):decide ((Sum.inl a:Key)=Sum.inr b)=false:=decide_eq_false (fun q=>nomatch q)
theorem Y0 (a:Str) (b:Int):decide ((Sum.inr a:Key)=Sum.inl b)=false:=decide_eq_false (fun q=>nomatch q)
def dQ (prog:Program) (w:World):PySem.KeyKind prog w Key where
 is:=DO
 hash:=aeW w
 inj:=fun v a b ha hb=>by
  rcases gg ha with ⟨i,t,rfl,rfl⟩ | ⟨x,t,rfl,rfl⟩
  ·rcases gg hb with ⟨j,u,rfl,e⟩ | ⟨y,u,rfl,e⟩
   ·injection e with e1 _;rw [e1]
   ·exact nomatch e
  ·rcases gg hb with ⟨j,u,rfl,e⟩ | ⟨y,u,rfl,e⟩
   ·exact nomatch e
   ·injection e with e1 _;rw [e1]
 byValue:=fun k v h=>by
  rcases gg h with ⟨i,t,rfl,rfl⟩ | ⟨x,t,rfl,rfl⟩<;>rfl
 pyHash:=fun hv h=>by
  rcases gg hv with ⟨i,t,rfl,rfl⟩ | ⟨x,t,rfl,rfl⟩
  ·exact wpAny_pyHash_int h
  ·exact wpAny_pyHash_str h
 eqBool:=fun hu hv h=>by
  rcases gg hu with ⟨i,t,rfl,rfl⟩ | ⟨x,t,rfl,rfl⟩
  ·rcases gg hv with ⟨j,u,rfl,rfl⟩ | ⟨y,u,rfl,rfl⟩
   ·rw [YX] at h;exact wpAny_eqBool_int h
   ·rw [YZ] at h;exact SeqAt.EqAt.int_str i t y u _ _ _ _ h
  ·rcases gg hv with ⟨j,u,rfl,rfl⟩ | ⟨y,u,rfl,rfl⟩
   ·rw [Y0] at h;exact SeqAt.EqAt.str_int x t j u _ _ _ _ h
   ·rw [YY] at h;exact wpAny_eqBool_str h
 «strs»:=fun k x t v h=>by
  rcases gg h with ⟨i,u,rfl,e⟩ | ⟨y,u,rfl,e⟩
  ·exact nomatch e
  ·injection e with e1 _
   subst e1
   cases v<;>rfl
theorem xn (prog:Program) (w:World) (i:Int) (t:Tok):(dQ prog w).is (.inl i) (.int i t)=true:=Sd i t
theorem MO (prog:Program) (w:World) (x:Str) (t:Tok):(dQ prog w).is (.inr x) (.str x t)=true:=Se x t
inductive V where
 | jU | bl (b:Bool) | int (i:Int) | str (x:Str) | J4 (b:Array UInt8) | Y1 (b:UInt64) | ref (a:Addr) | ty (n:String)
 deriving DecidableEq
def RelV:V->Value->Prop
 | .jU,u=>u=Value.none
 | .bl b,u=>u=Value.bool b
 | .int i,u=>∃ t,u=Value.int i t
 | .str x,u=>∃ t,u=Value.str x t
 | .J4 b,u=>∃ t,u=Value.bytes b t
 | .Y1 b,u=>∃ t,u=Value.float b t
 | .ref a,u=>u=Value.ref a
 | .ty n,u=>u=Value.type n
abbrev Vals:List V->List Value->Prop:=Paired RelV
theorem Vals.length {xs:List V} {us:List Value} (r:Vals xs us):xs.length=us.length:=Paired.length r
theorem Vals.get:∀ {xs:List V} {us:List Value} {i:Nat} {x:V},Vals xs us->xs[i]?=some x->∃ u,us[i]?=some u/\RelV x u
 | _,_,_,_,.nil,e=>by simp at e
 | _,_,0,_,.cons r _,e=>by simp at e;subst e;exact ⟨_,rfl,r⟩
 | _,_,i+1,x,.cons _ t,e=>by
  obtain ⟨u,h1,h2⟩:=Vals.get (i:=i) (x:=x) t (by simpa using e)
  exact ⟨u,by simpa using h1,h2⟩
theorem Vals.append:∀ {xs ys:List V} {us ws:List Value},Vals xs us->Vals ys ws->Vals (xs++ys) (us++ws)
 | _,_,_,_,.nil,s=>s
 | _,_,_,_,.cons r t,s=>.cons r (Vals.append t s)
theorem Vals.take:∀ {xs:List V} {us:List Value} (n:Nat),Vals xs us->Vals (xs.take n) (us.take n)
 | _,_,0,_=>.nil
 | _,_,_+1,.nil=>.nil
 | _,_,n+1,.cons r t=>.cons r (Vals.take n t)
theorem Vals.drop:∀ {xs:List V} {us:List Value} (n:Nat),Vals xs us->Vals (xs.drop n) (us.drop n)
 | _,_,0,r=>r
 | _,_,_+1,.nil=>.nil
 | _,_,n+1,.cons _ t=>Vals.drop n t
def Ct:Option V->Option Value->Prop
 | some v,some u=>RelV v u
 | none,none=>True
 | _,_=>False
def KV {κ:Type}:List (κ×V)->List (κ×Value)->Prop:=Paired fun (p:κ×V) (q:κ×Value)=>p.1=q.1/\RelV p.2 q.2
def kV:Key->V
 | .inl i=>.int i
 | .inr x=>.str x
inductive HO where
 | lst (xs:List V)
 | tup (xs:List V)
 | dK (kvs:List (Key×V)) | dT (kvs:List (List Key×V))
 | set (S:Int->Bool) (n:Nat)
 | ins (C dx:Addr) (fs:List (Str×V))
 | own (x:Addr)
 | xd (fs:List (Str×V))
 | met (f x:Addr)
 | rng (lo hi:Int)
 | oW (o:Obj) (u:HO)
 | zo (ps:Array Value)
 | ext (φ:Heap->Prop)
abbrev Hp:=Addr->Option HO
def upd (H:Hp) (a:Addr) (o:HO):Hp:=fun b=>if b=a then some o else H b
theorem ae {H:Hp} {a:Addr} {o:HO}:upd H a o a=some o:=by unfold upd;rw [if_pos rfl]
theorem aD {H:Hp} {a b:Addr} {o:HO} (h:b≠a):upd H a o b=H b:=by unfold upd;rw [if_neg h]
theorem om {H:Hp} {a:Addr} {o u:HO}:upd (upd H a o) a u=upd H a u:=by
 funext b;unfold upd;split<;>rfl
theorem dX {H:Hp} {a b:Addr} {o u:HO} (h:H a=some o) (h':H b=some u) (d:o≠u):a≠b:=by
 intro e;subst e;rw [h] at h';exact d (aj.inj h')
theorem aV {H:Hp} {a b:Addr} {o:HO} (h:H a=some o) (h':H b=none):a≠b:=by
 intro e;subst e;rw [h] at h';cases h'
section
variable (P:Program) (w:World)
def f6 (H:Hp) (h:Heap) (a:Addr):HO->Prop
 | .lst xs=>xs.length<=sizeLine/\∃ (cq:List Value) (n:Nat),Vals xs cq/\h.get? a=some { cls:=.type "list",data:=.seq cq.toArray n }
 | .tup xs=>xs.length<=sizeLine/\∃ cq:List Value,Vals xs cq/\IsTup h a cq.toArray
 | .dK kvs=>kvs.length<=sizeLine/\(a==sysModules)=false/\∃ vs,KV kvs vs/\h.DictOf (dQ P w) a vs
 | .dT kvs=>kvs.length<=sizeLine/\(a==sysModules)=false/\∃ xs:List (List Key×Addr×Value),
   Paired (fun (p:List Key×V) (q:List Key×Addr×Value)=>p.1=q.1/\H q.2.1=some (.tup (p.1.map kV))/\RelV p.2 q.2.2) kvs xs/\
   ∃ o es ep,h.get? a=some o/\o.ExactDict/\o.data=.dict es ep/\es.toList=xs.map (entryOfKey (tupleKind (dQ P w)))/\(xs.map (·.1)).Nodup
 | .set S n=>h.SetOf (intKind P w) a S n
 | .ins C dx fs=>H dx=some (.own a)/\fs.length<=1000/\dx≠a/\h.get? a=some (fZ C dx)/\
   ∃ mA,h.Ns1 dx mA/\(∀ f,Ct (fs.lookup f) (mA f))/\PySem.Within mA (fs.map (·.1))
 | .own _=>∃ o,h.get? a=some o
 | .xd fs=>∃ mA,h.Ns1 a mA/\∀ f,Ct (fs.lookup f) (mA f)
 | .rng lo hi=>∃ t u v,h.get? a=some { cls:=.type "range",data:=.fields #[.int lo t,.int hi u,.int 1 v] }
 | .oW o u=>h.get? a=some o/\f6 H h a u
 | .zo ps=>h.get? a=some { cls:=.none,data:=.fields ps }
 | .met f x=>h.get? a=some (tX (.ref f) (.ref x))
 | .ext φ=>φ h/\(∃ o,h.get? a=some o)/\∀ h1 h2:Heap,φ h1->(∀ o,h1.get? a=some o->h2.get? a=some o)->φ h2
def w8 (H:Hp) (h:Heap):Prop:=∀ a o,H a=some o->f6 P w H h a o
end
section
variable {P:Program} {w:World} {H H':Hp} {h h':Heap} {a:Addr} {o:HO}
theorem f6.lt (x:f6 P w H h a o):a<h.objs.size:=by
 cases o with
 | lst xs=>obtain ⟨_,_,_,_,e⟩:=x;exact a8 e
 | tup xs=>obtain ⟨_,_,_,p⟩:=x;exact p.lt
 | dK kvs=>obtain ⟨_,_,_,_,o,_,_,e,_⟩:=x;exact a8 e
 | dT kvs=>obtain ⟨_,_,_,_,o,_,_,e,_⟩:=x;exact a8 e
 | set S n=>obtain ⟨o,_,_,_,e,_⟩:=x;exact a8 e
 | ins C dx fs=>obtain ⟨_,_,_,e,_⟩:=x;exact a8 e
 | own y=>obtain ⟨_,e⟩:=x;exact a8 e
 | xd fs=>obtain ⟨_,⟨_,_,_,e,_⟩,_⟩:=x;exact a8 e
 | rng lo hi=>obtain ⟨_,_,_,e⟩:=x;exact a8 e
 | oW ob u=>obtain ⟨e,_⟩:=x;exact a8 e
 | zo ps=>exact a8 (show h.get? a=some _ from x)
 | met f y=>exact a8 (show h.get? a=some _ from x)
 | ext φ=>obtain ⟨_,⟨_,e⟩,_⟩:=x;exact a8 e
theorem Paired.Pp {α β:Type} {F G:α->β->Prop}:∀ {Pq:List α} {Pr:List β},Paired F Pq Pr->(∀ a b,F a b->G a b)->Paired G Pq Pr
 | _,_,.nil,_=>.nil
 | _,_,.cons r t,f=>.cons (f _ _ r) (Paired.Pp t f)
theorem f6.EC (x:f6 P w H h a o) (k:∀ b u,(b=a\/H b=some (.own a))->h.get? b=some u->h'.get? b=some u)
  (ho:∀ b,H b=some (.own a)->H' b=some (.own a)) (ht:∀ b xs,H b=some (.tup xs)->H' b=some (.tup xs)):f6 P w H' h' a o:=by
 induction o with
 | lst xs=>obtain ⟨z,cq,n,r,e⟩:=x;exact ⟨z,cq,n,r,k _ _ (.inl rfl) e⟩
 | tup xs=>obtain ⟨z,cq,r,ob,e,c⟩:=x;exact ⟨z,cq,r,ob,k _ _ (.inl rfl) e,c⟩
 | dK kvs=>obtain ⟨z,y,vs,r,ob,es,ep,e,c⟩:=x;exact ⟨z,y,vs,r,ob,es,ep,k _ _ (.inl rfl) e,c⟩
 | dT kvs=>
  obtain ⟨z,y,xs,r,ob,es,ep,e,c⟩:=x
  exact ⟨z,y,xs,Paired.Pp r fun p q z=>⟨z.1,ht _ _ z.2.1,z.2.2⟩,ob,es,ep,k _ _ (.inl rfl) e,c⟩
 | set S n=>obtain ⟨ob,es,ep,t,e,c⟩:=x;exact ⟨ob,es,ep,t,k _ _ (.inl rfl) e,c⟩
 | ins C dx fs=>
  obtain ⟨d,z,ne,e,mA,⟨od,es,ep,e2,c⟩,r⟩:=x
  exact ⟨ho _ d,z,ne,k _ _ (.inl rfl) e,mA,⟨od,es,ep,k _ _ (.inr d) e2,c⟩,r⟩
 | own y=>obtain ⟨ob,e⟩:=x;exact ⟨ob,k _ _ (.inl rfl) e⟩
 | xd fs=>obtain ⟨mA,⟨od,es,ep,e,c⟩,r⟩:=x;exact ⟨mA,⟨od,es,ep,k _ _ (.inl rfl) e,c⟩,r⟩
 | rng lo hi=>obtain ⟨t,u,v,e⟩:=x;exact ⟨t,u,v,k _ _ (.inl rfl) e⟩
 | oW ob u ih=>obtain ⟨e,q⟩:=x;exact ⟨k _ _ (.inl rfl) e,ih q⟩
 | zo ps=>
  have e:h.get? a=some { cls:=.none,data:=.fields ps }:=x
  show h'.get? a=some { cls:=.none,data:=.fields ps }
  exact k a _ (.inl rfl) e
 | met f y=>
  have e:h.get? a=some (tX (.ref f) (.ref y)):=x
  show h'.get? a=some (tX (.ref f) (.ref y))
  exact k a _ (.inl rfl) e
 | ext φ=>obtain ⟨p,⟨o,e⟩,st⟩:=x;exact ⟨st _ _ p fun o q=>k _ _ (.inl rfl) q,⟨o,k _ _ (.inl rfl) e⟩,st⟩
theorem w8.lt (x:w8 P w H h) (e:H a=some o):a<h.objs.size:=(x a o e).lt
theorem w8.fresh (x:w8 P w H h) (e:h.objs.size<=a):H a=none:=by
 cases q:H a with
 | none=>rfl
 | some u=>exact absurd (bo (x.lt q) e) (fG _)
theorem w8.kept (x:w8 P w H h) (k:∀ b u,h.get? b=some u->h'.get? b=some u):w8 P w H h':=fun a o e=>
 (x a o e).EC (fun b u _ q=>k b u q) (fun _ q=>q) fun _ _ q=>q
theorem w8.laid (x:w8 P w H h) (k:∀ b u,h.get? b=some u->h'.get? b=some u) (hp:h.objs.size<=a) (new:f6 P w (upd H a o) h' a o):w8 P w (upd H a o) h':=fun b u e=>by
 have hn:=x.fresh hp
 by_cases hb:b=a
 ·subst hb;rw [ae] at e;cases e;exact new
 ·rw [aD hb] at e
  exact (x b u e).EC (fun c v _ q=>k c v q) (fun c q=>by rw [aD (aV q hn)];exact q) fun c xs q=>by rw [aD (aV q hn)];exact q
end
def Rd (H:Hp) (a:Addr) (u:HO):Prop:=H a=some u\/∃ o,H a=some (.oW o u)
theorem Rd.ok {P:Program} {w:World} {H:Hp} {h:Heap} {a:Addr} {u:HO} (r:Rd H a u) (x:w8 P w H h):f6 P w H h a u:=by
 rcases r with r | ⟨o,r⟩
 ·exact x a u r
 ·obtain ⟨_,q⟩:=x a _ r
  exact q
def Yl:Option HO->Prop
 | some (.lst _)=>True
 | some (.dK _)=>True
 | some (.dT _)=>True
 | some (.set _ _)=>True
 | some (.ins _ _ _)=>True
 | some (.ext _)=>True
 | _=>False
section
variable {P:Program} {w:World} {H:Hp} {h h':Heap} {x e:Addr} {o':HO}
theorem w8.write (ok:w8 P w H h) (mu:Yl (H x)) (he:e=x\/H e=some (.own x)) (k:∀ b u,b≠e->h.get? b=some u->h'.get? b=some u) (heo:∃ u,h'.get? e=some u)
  (new:f6 P w (upd H x o') h' x o'):w8 P w (upd H x o') h':=fun b u q=>by
 have abD:∀ c y,H c=some (.own y)->c≠x:=fun c y r z=>by subst z;rw [r] at mu;exact mu
 have aeY:∀ c xs,H c=some (.tup xs)->c≠x:=fun c xs r z=>by subst z;rw [r] at mu;exact mu
 by_cases hb:b=x
 ·subst hb;rw [ae] at q;cases q;exact new
 ·rw [aD hb] at q
  by_cases T8:b=e
  ·have q':H b=some (.own x):=by
    rcases he with z | z
    ·exact absurd (T8.trans z) hb
    ·rw [T8];exact z
   rw [q] at q';cases q'
   obtain ⟨v,hv⟩:=heo
   exact ⟨v,by rw [T8];exact hv⟩
  ·refine (ok b u q).EC (fun c v hc r=>k c v ?_ r) (fun c r=>by rw [aD (abD c b r)];exact r) fun c xs r=>by rw [aD (aeY c xs r)];exact r
   rcases hc with rfl | hc
   ·exact T8
   ·rintro rfl
    rcases he with z | z
    ·exact abD c b hc z
    ·rw [hc] at z;cases z;exact hb rfl
end
structure Un (fs ex:List Addr) (H H':Hp) (h h':Heap):Prop where
 keep:∀ b o,h.get? b=some o->H b=none->b∉fs->b∉ex->h'.get? b=some o
 slot:∀ b o,h.get? b=some o->H b=none->b∈fs->b∉ex->∃ sl,h'.get? b=some { o with slots:=sl }
 free:∀ b o,h.get? b=some o->H b=none->b∉ex->H' b=none
 there:∀ b o,h.get? b=some o->b∉ex->∃ o',h'.get? b=some o'
 J5:∀ b xs,H b=some (.tup xs)->H' b=some (.tup xs)
 Fh:∀ b o u,H b=some (.oW o u)->H' b=some (.oW o u)
 Hv:∀ b ps,H b=some (.zo ps)->∃ more,H' b=some (.zo (ps++more))
section
variable {fs fs' ex ex':List Addr} {H H1 H2:Hp} {h h1 h2 h':Heap} {a x e:Addr} {o:HO}
theorem Un.any (u:Un fs ex H H1 h h1) {b:Addr} {ob:Obj} (q:h.get? b=some ob) (n:H b=none) (hx:b∉ex):∃ sl,h1.get? b=some { ob with slots:=sl }:=by
 by_cases hb:b∈fs
 ·exact u.slot b ob q n hb hx
 ·exact ⟨ob.slots,u.keep b ob q n hb hx⟩
theorem Un.kept (k:∀ b u,h.get? b=some u->h'.get? b=some u):Un fs ex H H h h':=
 ⟨fun b ob q _ _ _=>k b ob q,fun b ob q _ _ _=>⟨ob.slots,k b ob q⟩,fun _ _ _ n _=>n,fun b ob q _=>⟨ob,k b ob q⟩,fun _ _ q=>q,fun _ _ _ q=>q,fun _ ps q=>⟨#[],by rw [q];simp⟩⟩
theorem Un.refl:Un fs ex H H h h:=Un.kept fun _ _ q=>q
theorem Un.laid (k:∀ b u,h.get? b=some u->h'.get? b=some u) (hp:h.objs.size<=a) (hn:H a=none):Un fs ex H (upd H a o) h h' where
 keep:=fun b u q _ _ _=>k b u q
 slot:=fun b u q _ _ _=>⟨u.slots,k b u q⟩
 free:=fun b u q n _=>by rw [aD (cj (bo (a8 q) hp))];exact n
 there:=fun b u q _=>⟨u,k b u q⟩
 J5:=fun b xs q=>by rw [aD (aV q hn)];exact q
 Fh:=fun b u xs q=>by rw [aD (aV q hn)];exact q
 Hv:=fun b ps q=>⟨#[],by rw [aD (aV q hn),q];simp⟩
theorem Un.write (mu:Yl (H x)) (he:e=x\/H e=some (.own x)) (k:∀ b u,b≠e->h.get? b=some u->h'.get? b=some u) (heo:∃ u,h'.get? e=some u):Un fs ex H (upd H x o) h h':=by
 have hx:∀ b,H b=none->b≠x:=fun b n z=>by subst z;rw [n] at mu;exact mu
 have hb:∀ b,H b=none->b≠e:=fun b n z=>by
  subst z
  rcases he with r | r
  ·exact hx b n r
  ·rw [n] at r;cases r
 have hm:∀ b u,H b=some u->¬ Yl (some u)->b≠x:=fun b u q nm z=>by subst z;rw [q] at mu;exact nm mu
 refine ⟨fun b u q n _ _=>k b u (hb b n) q,fun b u q n _ _=>⟨u.slots,k b u (hb b n) q⟩,fun b u q n _=>by rw [aD (hx b n)];exact n,fun b u q _=>?_,
  fun b xs q=>by rw [aD (hm b _ q fun z=>z)];exact q,fun b u xs q=>by rw [aD (hm b _ q fun z=>z)];exact q,fun b ps q=>⟨#[],by rw [aD (hm b _ q fun z=>z),q];simp⟩⟩
 by_cases T8:b=e
 ·subst T8;exact heo
 ·exact ⟨u,k b u T8 q⟩
end
def trk (h:Heap) (H:Hp):List Addr:=(aY h.objs.size).filter fun a=>(H a).isSome
def Hw (h:Heap) (H:Hp):Heap:=PySem.W.hideAll h (trk h H)
theorem Sf (h:Heap) (H:Hp):(Hw h H).objs.size=h.objs.size:=PySem.W.hideAll_size _ _
theorem T9 {h:Heap} {H:Hp} {b:Addr} {o:Obj} (e:h.get? b=some o) (n:H b=none):(Hw h H).get? b=some o:=
 PySem.W.hideAll_get _ e fun hm=>by
  have q:(H b).isSome=true:=(g6.mp hm).2
  rw [n] at q;simp at q
theorem WT {h:Heap} {H:Hp} {b:Addr} {o:Obj} (e:(Hw h H).get? b=some o):h.get? b=some o/\H b=none:=by
 have e':h.get? b=some o:=PySem.W.of_hideAll (trk h H) e
 refine ⟨e',?_⟩
 cases q:H b with
 | none=>rfl
 | some x=>
  have hm:b∈trk h H:=g6.mpr ⟨cH.mpr (a8 e'),by simp [q]⟩
  have z:(Hw h H).get? b=none:=PySem.W.hideAll_none (trk h H) hm
  rw [z] at e;cases e
structure Mod (K:ab) (mg:Str->Option Value) (base:Heap):Prop where
 Y2:K.In base
 glob:base.Ns mainGlobals mg
 blt:∃ mb,base.Ns builtinsNs mb/\∀ x:Str,x≠"__name__"->mb x=bootBuiltins x
 nolimit:base.NoLimit
structure Cx where
 prog:Program
 w:World
 K:ab
 mg:Str->Option Value
 base:Heap
 A:Around
 N:List Str
 Hx:Shared
 Ym:Hp
 env:Env
 outer:List Env
 stack:List Env
 ex:List Addr
 fn:Str->Bool
 calm:Bool
 pn:List (Addr×Obj)
 xe:Value->Shared->Prop
def T_ (l:List Env):List Addr:=l.filterMap (·.frame)
abbrev Cx.fs (X:Cx):List Addr:=T_ X.outer
def Vis (sc:Scope) (x:Str):Prop:=sc.names.lookup x=some .local\/sc.names.lookup x=some .cell\/sc.names.lookup x=some .free
def Loc (sc:Scope) (x:Str):Prop:=sc.names.lookup x=some .local\/sc.names.lookup x=some .cell
def Look (env:Env) (h:Heap) (m:Str->Option Value) (x:Str) (u:Value):Prop:=
 (env.kindOf x=some .local/\m x=some u)\/((env.kindOf x=some .cell\/env.kindOf x=some .free)/\∃ c,env.cells.lookup x=some c/\h.IsCell c (some u))
structure Cx.Ok (X:Cx):Prop where
 mod:Mod X.K X.mg X.base
 kind:X.env.scope.kind=.function
 glob:X.env.globals=mainGlobals
 blt:X.env.builtins=builtinsNs
 above:X.Hx.heap.objs.size<=X.env.locals
 inj:∀ x y c,X.env.cells.lookup x=some c->X.env.cells.lookup y=some c->x=y
 has:∀ x,(X.env.kindOf x=some .cell\/X.env.kindOf x=some .free)->∃ c,X.env.cells.lookup x=some c
 cab:∀ x c,X.fn x=true->X.env.cells.lookup x=some c->X.Hx.heap.objs.size<=c
 hd:X.calm=true->X.A.handled=none
 frames:X.A.frames=some X.stack
 stk:X.stack=X.outer\/(X.stack=X.env::X.outer/\X.env.frame=some X.env.locals)
 exf:∀ b∈X.ex,b≠X.env.locals/\∀ x c,X.env.cells.lookup x=some c->c≠b
 bs:∀ b o,X.base.get? b=some o->X.Hx.heap.get? b=some o/\X.Ym b=none
 TN:X.base.objs.size<=X.Hx.heap.objs.size
 Ua:∀ b o,X.base.get? b=some o->b∉X.ex
 Ub:∀ b∈X.ex,b∉X.fs
 Bq:X.Hx.heap.FunFrames X.base X.outer
 WU:∀ b∈X.fs,X.Ym b=none
structure Inv (X:Cx) (pins:List (Addr×Obj)) (σ:List (Option V)) (H:Hp) (s:Shared):Prop where
 ok:X.Ok
 os:s.os=X.Hx.os
 bare:AllBare s.gens
 base:Un X.fs X.ex X.Ym H X.Hx.heap s.heap
 loc:∃ m,s.heap.Ns X.env.locals m/\∀ (i:Nat) (x:Str) (v:V),X.N[i]?=some x->σ[i]?=some (some v)->Vis X.env.scope x->∃ u,RelV v u/\Look X.env s.heap m x u
 cell:∀ x c,X.env.cells.lookup x=some c->∃ v,s.heap.IsCell c v
 free:H X.env.locals=none
 tF:∀ x c,X.env.cells.lookup x=some c->H c=none
 pin:∀ p∈X.pn++pins,s.heap.get? p.1=some p.2/\H p.1=none/\p.1≠X.env.locals/\p.1∉X.fs/\∀ v,p.2.data≠.cell v
 cU:w8 X.prog X.w H s.heap
 len:σ.length=X.N.length
section
variable {X:Cx} {pins:List (Addr×Obj)} {σ:List (Option V)} {H H':Hp} {s:Shared} {h':Heap}
theorem Cx.Ok.aeZ (ok:X.Ok) {b:Addr} {o:Obj} (e:X.base.get? b=some o):b∉X.fs:=fun hb=>by
 have:=(ok.Bq.mem hb).1
 rw [e] at this;cases this
theorem Inv.bs (I:Inv X pins σ H s):∀ b o,X.base.get? b=some o->s.heap.get? b=some o/\H b=none:=fun b o e=>
 ⟨I.base.keep b o (I.ok.bs b o e).1 (I.ok.bs b o e).2 (I.ok.aeZ e) (I.ok.Ua b o e),I.base.free b o (I.ok.bs b o e).1 (I.ok.bs b o e).2 (I.ok.Ua b o e)⟩
theorem Inv.bk (I:Inv X pins σ H s):∀ b o,X.base.get? b=some o->s.heap.get? b=some o:=fun b o e=>(I.bs b o e).1
theorem Inv.mod (I:Inv X pins σ H s):Mod X.K X.mg X.base:=I.ok.mod
theorem Inv.MP (I:Inv X pins σ H s):X.K.In s.heap:=I.ok.mod.Y2.keeps I.bk
theorem Inv.fr (I:Inv X pins σ H s):∃ m,Fr X.base X.env.locals s.heap m:=
 let ⟨m,hn,_⟩:=I.loc
 ⟨m,hn,I.bk,bB I.ok.TN I.ok.above⟩
theorem Inv.lt (I:Inv X pins σ H s):X.env.locals<s.heap.objs.size:=let ⟨_,hn,_⟩:=I.loc;hn.lt
theorem Inv.sz (I:Inv X pins σ H s):X.Hx.heap.objs.size<=s.heap.objs.size:=bB I.ok.above (Nat.le_of_lt I.lt)
theorem Inv.Y3 (I:Inv X pins σ H s) {a:Addr} (h:s.heap.objs.size<=a):a∉X.fs:=fun hb=>by
 obtain ⟨_,o,ho,_⟩:=I.ok.Bq.mem hb
 exact absurd (bo (a8 ho) (bB I.sz h)) (fG _)
theorem Inv.Y4 (I:Inv X pins σ H s):∀ x c,X.env.cells.lookup x=some c->c≠X.env.locals:=fun x c e z=>by
 obtain ⟨v,o,ho,hd⟩:=I.cell x c e
 obtain ⟨m,⟨o',es,ep,Pu,Uc,_⟩,_⟩:=I.loc
 rw [z,Pu] at ho;cases ho;rw [Uc] at hd;cases hd
theorem Inv.Bq (I:Inv X pins σ H s):s.heap.FunFrames X.base X.outer:=by
 have all:∀ (l:List Env),(∀ b∈T_ l,b∈X.fs)->X.Hx.heap.FunFrames X.base l->s.heap.FunFrames X.base l:=by
  intro l
  induction l with
  | nil=>intro _ _;trivial
  | cons env r ih=>
   intro hs hl
   obtain ⟨hk,⟨L,o,hf,hn,ho,hd⟩,hr⟩:=hl
   have hL:L∈X.fs:=hs L (by unfold T_;rw [ro,hf];exact bC)
   obtain ⟨sl,e⟩:=I.base.slot L o ho (I.ok.WU L hL) hL fun z=>I.ok.Ub L z hL
   exact ⟨hk,⟨L,_,hf,hn,e,hd⟩,ih (fun b hb=>hs b (by unfold T_;rw [ro,hf];exact ba _ hb)) hr⟩
 exact all X.outer (fun _ hb=>hb) I.ok.Bq
theorem Inv.stack (I:Inv X pins σ H s):s.heap.FunFrames X.base X.stack:=by
 rcases I.ok.stk with e | ⟨e,hf⟩
 ·rw [e];exact I.Bq
 ·rw [e]
  obtain ⟨m,hn,_⟩:=I.loc
  refine .cons (by rw [I.ok.kind];decide) hf hn ?_ I.Bq
  exact Heap.get?_none_of_le (bB I.ok.TN I.ok.above)
theorem Inv.Pw (I:Inv X pins σ H s):∀ b∈T_ X.stack,b∈X.env.locals::X.fs:=fun b hb=>by
 rcases I.ok.stk with e | ⟨e,hf⟩
 ·rw [e] at hb;exact ba _ hb
 ·rw [e] at hb
  unfold T_ at hb
  rw [ro,hf] at hb
  exact hb
theorem Inv.Rk (I:Inv X pins σ H s):∀ b∈T_ X.stack,H b=none:=fun b hb=>by
 rcases aw.mp (I.Pw b hb) with e | hb
 ·rw [e];exact I.free
 ·obtain ⟨_,o,ho,_⟩:=I.ok.Bq.mem hb
  exact I.base.free b o ho (I.ok.WU b hb) fun z=>I.ok.Ub b z hb
theorem Inv.step {g':Array GenState} {t':Nat} {d':Drawn} {ch:List Addr} (I:Inv X pins σ H s)
  (WC:∀ b∈ch,(b∈X.ex\/X.Hx.heap.objs.size<=b)/\b≠X.env.locals/\(∀ x c,X.env.cells.lookup x=some c->c≠b)/\∀ p∈X.pn++pins,p.1≠b)
  (keep:∀ b o,b≠X.env.locals->b∉X.fs->b∉ch->s.heap.get? b=some o->H b=none->h'.get? b=some o)
  (slot:∀ b o,b≠X.env.locals->b∈X.fs->b∉ch->s.heap.get? b=some o->H b=none->∃ sl,h'.get? b=some { o with slots:=sl }) (free:∀ b o,b∉ch->s.heap.get? b=some o->H b=none->H' b=none)
  (there:∀ b o,b∉ch->s.heap.get? b=some o->∃ o',h'.get? b=some o')
  (J5:∀ b xs,H b=some (.tup xs)->H' b=some (.tup xs)) (Fh:∀ b o u,H b=some (.oW o u)->H' b=some (.oW o u)) (Hv:∀ b ps,H b=some (.zo ps)->∃ more,H' b=some (.zo (ps++more)))
  (ns:∀ m,s.heap.Ns X.env.locals m->h'.Ns X.env.locals m) (cU:w8 X.prog X.w H' h') (hg:AllBare g'):
  Inv X pins σ H' { s with heap:=h',gens:=g',drawn:=d',toks:=t' }:=by
 have neL:∀ b o,X.Hx.heap.get? b=some o->b≠X.env.locals:=fun b o e=>cj (bo (a8 e) I.ok.above)
 have neC:∀ b o,X.Hx.heap.get? b=some o->b∉X.ex->b∉ch:=fun b o e hx hb=>by
  rcases (WC b hb).1 with z | z
  ·exact hx z
  ·exact absurd (bo (a8 e) z) (fG _)
 have cellK:∀ x c,X.env.cells.lookup x=some c->∀ v,s.heap.IsCell c v->h'.IsCell c v:=fun x c e v ⟨o,ho,hd⟩=>by
  have nch:c∉ch:=fun z=>(WC c z).2.2.1 x c e rfl
  by_cases hc:c∈X.fs
  ·obtain ⟨sl,q⟩:=slot c o (I.Y4 x c e) hc nch ho (I.tF x c e)
   exact ⟨_,q,hd⟩
  ·exact ⟨o,keep c o (I.Y4 x c e) hc nch ho (I.tF x c e),hd⟩
 refine ⟨I.ok,I.os,hg,⟨fun b o e n hb hx=>?_,fun b o e n hb hx=>?_,fun b o e n hx=>?_,fun b o e hx=>?_,fun b xs e=>J5 b xs (I.base.J5 b xs e),fun b o xs e=>Fh b o xs (I.base.Fh b o xs e),fun b ps e=>?_⟩,?_,fun x c e=>?_,?_,fun x c e=>?_,fun p hp=>?_,cU,I.len⟩
 ·exact keep b o (neL b o e) hb (neC b o e hx) (I.base.keep b o e n hb hx) (I.base.free b o e n hx)
 ·obtain ⟨sl,e1⟩:=I.base.slot b o e n hb hx
  obtain ⟨sl',e2⟩:=slot b _ (neL b o e) hb (neC b o e hx) e1 (I.base.free b o e n hx)
  exact ⟨sl',e2⟩
 ·obtain ⟨o',e1⟩:=I.base.there b o e hx
  exact free b o' (neC b o e hx) e1 (I.base.free b o e n hx)
 ·obtain ⟨o',e1⟩:=I.base.there b o e hx
  exact there b o' (neC b o e hx) e1
 ·obtain ⟨m1,e1⟩:=I.base.Hv b ps e
  obtain ⟨m2,e2⟩:=Hv b _ e1
  exact ⟨m1++m2,by rw [e2,Array.append_assoc]⟩
 ·obtain ⟨m,hn,hl⟩:=I.loc
  refine ⟨m,ns m hn,fun i x v e1 e2 e3=>?_⟩
  obtain ⟨u,r,l⟩:=hl i x v e1 e2 e3
  refine ⟨u,r,?_⟩
  rcases l with l | ⟨k,c,e,z⟩
  ·exact .inl l
  ·exact .inr ⟨k,c,e,cellK x c e _ z⟩
 ·obtain ⟨v,z⟩:=I.cell x c e
  exact ⟨v,cellK x c e v z⟩
 ·obtain ⟨m,⟨o,_,_,ho,_⟩,_⟩:=I.loc
  exact free _ o (fun z=>(WC _ z).2.1 rfl) ho I.free
 ·obtain ⟨v,o,ho,hd⟩:=I.cell x c e
  exact free c o (fun z=>(WC c z).2.2.1 x c e rfl) ho (I.tF x c e)
 ·obtain ⟨e,n,ne,nf,d⟩:=I.pin p hp
  have nch:p.1∉ch:=fun z=>(WC p.1 z).2.2.2 p hp rfl
  exact ⟨keep p.1 p.2 ne nf nch e n,free p.1 p.2 nch e n,ne,nf,d⟩
theorem Inv.un {t':Nat} (I:Inv X pins σ H s) (u:Un X.fs [] H H' s.heap h') (cU:w8 X.prog X.w H' h'):Inv X pins σ H' { s with heap:=h',toks:=t' }:=by
 obtain ⟨m,⟨o,es,ep,ho,r⟩,_⟩:=id I.loc
 obtain ⟨sl,hL⟩:=u.any ho I.free (by simp)
 exact I.step (g':=s.gens) (d':=s.drawn) (ch:=[]) (fun _ z=>nomatch z) (fun b o _ hb _ e n=>u.keep b o e n hb (by simp)) (fun b o _ hb _ e n=>u.slot b o e n hb (by simp)) (fun b o _ e n=>u.free b o e n (by simp)) (fun b o _ e=>u.there b o e (by simp)) u.J5 u.Fh u.Hv (fun m' hm=>by
  obtain ⟨o',TQ,TR,Pu,r'⟩:=hm
  rw [ho] at Pu;cases Pu
  exact ⟨_,TQ,TR,hL,r'⟩) cU I.bare
theorem Inv.call {g':Array GenState} {t':Nat} {d':Drawn} {ch:List Addr} (I:Inv X pins σ H s) (u:Un (T_ X.stack) ch H H' s.heap h') (cU:w8 X.prog X.w H' h') (hg:AllBare g')
  (WC:∀ b∈ch,(b∈X.ex\/X.Hx.heap.objs.size<=b)/\b≠X.env.locals/\(∀ x c,X.env.cells.lookup x=some c->c≠b)/\∀ p∈X.pn++pins,p.1≠b):
  Inv X pins σ H' { s with heap:=h',gens:=g',drawn:=d',toks:=t' }:=by
 obtain ⟨m,⟨o,es,ep,ho,r⟩,_⟩:=id I.loc
 obtain ⟨sl,hL⟩:=u.any ho I.free fun z=>(WC _ z).2.1 rfl
 exact I.step (ch:=ch) WC (fun b o hL hb hc e n=>u.keep b o e n (fun z=>(aw.mp (I.Pw b z)).elim hL hb) hc) (fun b o _ _ hc e n=>u.any e n hc) (fun b o hc e n=>u.free b o e n hc) (fun b o hc e=>u.there b o e hc) u.J5 u.Fh u.Hv (fun m' hm=>by
  obtain ⟨o',TQ,TR,Pu,r'⟩:=hm
  rw [ho] at Pu;cases Pu
  exact ⟨_,TQ,TR,hL,r'⟩) cU hg
theorem Inv.turned {t':Nat} {it:Addr} (I:Inv X pins σ H s) (k:∀ b o,b≠it->s.heap.get? b=some o->h'.get? b=some o) (hn:H it=none) (hL:it≠X.env.locals)
  (h1:it∈X.ex\/X.Hx.heap.objs.size<=it) (h2:∀ x c,X.env.cells.lookup x=some c->c≠it) (h3:∀ p∈X.pn++pins,p.1≠it):Inv X pins σ H { s with heap:=h',toks:=t' }:=by
 have Ud:∀ b u,H b=some u->b≠it:=fun b u e z=>by rw [z,hn] at e;cases e
 refine I.step (g':=s.gens) (d':=s.drawn) (ch:=[it]) (fun b hb=>?_) (fun b o _ _ hc e _=>k b o (fun z=>hc (by simp [z])) e) (fun b o _ _ hc e _=>⟨o.slots,k b o (fun z=>hc (by simp [z])) e⟩) (fun _ _ _ _ n=>n)
  (fun b o hc e=>⟨o,k b o (fun z=>hc (by simp [z])) e⟩) (fun _ _ e=>e) (fun _ _ _ e=>e) (fun b ps e=>⟨#[],by rw [e];simp⟩) (fun m hm=>?_) (fun b u e=>?_) I.bare
 ·have e:b=it:=by simpa using hb
  subst e
  exact ⟨h1,hL,h2,h3⟩
 ·obtain ⟨o,es,ep,ho,r⟩:=hm
  exact ⟨o,es,ep,k _ o (Ne.symm hL) ho,r⟩
 ·refine (I.cU b u e).EC (fun c v hc q=>k c v ?_ q) (fun _ q=>q) fun _ _ q=>q
  rcases hc with z | z
  ·rw [z];exact Ud b u e
  ·exact Ud c _ z
theorem Inv.tok (I:Inv X pins σ H s) (t:Nat):Inv X pins σ H { s with toks:=t }:=I.un (h':=s.heap) (t':=t) Un.refl I.cU
theorem Inv.kept {t':Nat} (I:Inv X pins σ H s) (k:∀ b u,s.heap.get? b=some u->h'.get? b=some u):Inv X pins σ H { s with heap:=h',toks:=t' }:=I.un (Un.kept k) (I.cU.kept k)
theorem Inv.laid {a:Addr} {o:HO} {t':Nat} (I:Inv X pins σ H s) (k:∀ b u,s.heap.get? b=some u->h'.get? b=some u) (hp:s.heap.objs.size<=a) (new:f6 X.prog X.w (upd H a o) h' a o):
  Inv X pins σ (upd H a o) { s with heap:=h',toks:=t' }:=I.un (Un.laid k hp (I.cU.fresh hp)) (I.cU.laid k hp new)
theorem Inv.write {x e:Addr} {o:HO} {t':Nat} (I:Inv X pins σ H s) (mu:Yl (H x)) (he:e=x\/H e=some (.own x)) (k:∀ b u,b≠e->s.heap.get? b=some u->h'.get? b=some u) (heo:∃ u,h'.get? e=some u)
  (new:f6 X.prog X.w (upd H x o) h' x o):Inv X pins σ (upd H x o) { s with heap:=h',toks:=t' }:=I.un (Un.write mu he k heo) (I.cU.write mu he k heo new)
theorem Inv.weak {f7:List (Option V)} (I:Inv X pins σ H s) (hl:f7.length=σ.length) (w:∀ (i:Nat) v,f7[i]?=some (some v)->σ[i]?=some (some v)):Inv X pins f7 H s:=
 ⟨I.ok,I.os,I.bare,I.base,let ⟨m,hn,Ue⟩:=I.loc;⟨m,hn,fun i x v e1 e2 e3=>Ue i x v e1 (w i v e2) e3⟩,I.cell,I.free,I.tF,I.pin,I.cU,hl.trans I.len⟩
theorem Inv.zp {Yn:List (Addr×Obj)} (I:Inv X pins σ H s) (h:∀ p∈Yn,s.heap.get? p.1=some p.2/\H p.1=none/\p.1≠X.env.locals/\p.1∉X.fs/\∀ v,p.2.data≠.cell v):Inv X Yn σ H s:=
 ⟨I.ok,I.os,I.bare,I.base,I.loc,I.cell,I.free,I.tF,fun p hp=>(bS.mp hp).elim (fun z=>I.pin p (lE _ z)) (h p),I.cU,I.len⟩
theorem Fi {N:List Str} (hN:N.Nodup) {i j:Nat} {x:Str} (a:N[i]?=some x) (b:N[j]?=some x):i=j:=by
 obtain ⟨h1,e1⟩:=aH.mp a
 obtain ⟨h2,e2⟩:=aH.mp b
 exact (List.getElem_inj hN).mp (e1.trans e2.symm)
theorem Jb {M:Model} {A:Around} {E:Value->Shared->Prop} {i:Nat} {x:Str} {v:V} {u:Value} {Q:Unit->Shared->Prop} (I:Inv X pins σ H s) (hN:X.N.Nodup) (hi:X.N[i]?=some x) (hx:Loc X.env.scope x) (r:RelV v u)
  (h:∀ s',Inv X pins (σ.set i (some v)) H s'->(∃ a,dk a s.heap s'.heap/\(a=X.env.locals\/X.env.cells.lookup x=some a))->Q () s') (hf:X.fn x=true\/X.env.scope.names.lookup x=some .local:=by first | exact .inl rfl | exact .inr rfl | assumption):wpAny M A (storeName X.env x u) Q E s:=by
 obtain ⟨m,hn,hl⟩:=id I.loc
 have ae0:(X.env.scope.kind==.class||(X.env.scope.kind==.module&&X.env.locals != X.env.globals))=false:=by rw [I.ok.kind];rfl
 have hiσ:i<σ.length:=by rw [I.len];exact (aH.mp hi).1
 have Y4:=I.Y4
 have tracked:∀ {a:Addr} {h':Heap},(∃ o,s.heap.get? a=some o/\H a=none)->dk a s.heap h'->w8 X.prog X.w H h':=fun {a h'} ha hs b ob e=>by
  obtain ⟨_,_,zX⟩:=ha
  refine (I.cU b ob e).EC (fun c w' hc q=>(hs.2 c ?_).trans q) (fun _ q=>q) fun _ _ q=>q
  rintro rfl
  rcases hc with rfl | hc
  ·rw [zX] at e;cases e
  ·rw [zX] at hc;cases hc
 rcases hx with hk | hk
 ·refine wpAny_storeName_local hk hn (fun h' hn' hs=>?_) ae0
  obtain ⟨oL,_,_,hoL,_⟩:=id hn
  refine h _ ⟨I.ok,I.os,I.bare,⟨fun b o e n hb hx=>?_,fun b o e n hb hx=>?_,I.base.free,fun b o e hx=>?_,I.base.J5,I.base.Fh,I.base.Hv⟩,⟨_,hn',fun j y v' e1 e2 e3=>?_⟩,fun y c e=>?_,I.free,I.tF,fun p hp=>?_,tracked ⟨oL,hoL,I.free⟩ hs,by simpa using I.len⟩ ⟨_,hs,.inl rfl⟩
  ·exact (hs.2 b (cj (bo (a8 e) I.ok.above))).trans (I.base.keep b o e n hb hx)
  ·obtain ⟨sl,e1⟩:=I.base.slot b o e n hb hx
   exact ⟨sl,(hs.2 b (cj (bo (a8 e) I.ok.above))).trans e1⟩
  ·obtain ⟨o',e1⟩:=I.base.there b o e hx
   exact ⟨o',(hs.2 b (cj (bo (a8 e) I.ok.above))).trans e1⟩
  ·by_cases hj:j=i
   ·subst hj
    rw [hi] at e1;cases e1
    rw [oH hiσ] at e2
    cases e2
    exact ⟨u,r,.inl ⟨hk,by simp⟩⟩
   ·rw [qy (Ne.symm hj)] at e2
    obtain ⟨u',r',q⟩:=hl j y v' e1 e2 e3
    refine ⟨u',r',?_⟩
    rcases q with ⟨k,e⟩ | ⟨k,c,e,z⟩
    ·refine .inl ⟨k,?_⟩
     have:y≠x:=fun e=>hj (Fi hN e1 (e▸hi))
     simp [this,e]
    ·exact .inr ⟨k,c,e,z.sameBut hs (Y4 y c e)⟩
  ·obtain ⟨w',z⟩:=I.cell y c e
   exact ⟨w',z.sameBut hs (Y4 y c e)⟩
  ·obtain ⟨e,n,ne,nf,d⟩:=I.pin p hp
   exact ⟨(hs.2 p.1 ne).trans e,n,ne,nf,d⟩
 ·have Y5:X.fn x=true:=by
   rcases hf with z | z
   ·exact z
   ·rw [z] at hk;cases hk
  obtain ⟨c,hc⟩:=I.ok.has x (.inl hk)
  obtain ⟨w',z⟩:=I.cell x c hc
  refine wpAny_storeName_cell I.ok.kind hk hc z (fun h' Yo hs=>?_)
  obtain ⟨oc,Y6,ae1⟩:=id z
  refine h { s with heap:=h' } ⟨I.ok,I.os,I.bare,⟨fun b o e n hb hx=>?_,fun b o e n hb hx=>?_,I.base.free,fun b o e hx=>?_,I.base.J5,I.base.Fh,I.base.Hv⟩,⟨m,hn.sameBut hs (Ne.symm (Y4 x c hc)),fun j y v' e1 e2 e3=>?_⟩,fun y c' e=>?_,I.free,I.tF,fun p hp=>?_,tracked ⟨oc,Y6,I.tF x c hc⟩ hs,by simpa using I.len⟩ ⟨c,hs,.inr hc⟩
  ·exact (hs.2 b (cj (bo (a8 e) (I.ok.cab x c Y5 hc)))).trans (I.base.keep b o e n hb hx)
  ·obtain ⟨sl,e1⟩:=I.base.slot b o e n hb hx
   exact ⟨sl,(hs.2 b (cj (bo (a8 e) (I.ok.cab x c Y5 hc)))).trans e1⟩
  ·obtain ⟨o',e1⟩:=I.base.there b o e hx
   exact ⟨o',(hs.2 b (cj (bo (a8 e) (I.ok.cab x c Y5 hc)))).trans e1⟩
  ·by_cases hj:j=i
   ·subst hj
    rw [hi] at e1;cases e1
    rw [oH hiσ] at e2
    cases e2
    exact ⟨u,r,.inr ⟨.inl hk,c,hc,Yo⟩⟩
   ·rw [qy (Ne.symm hj)] at e2
    obtain ⟨u',r',q⟩:=hl j y v' e1 e2 e3
    refine ⟨u',r',?_⟩
    rcases q with q | ⟨k,c',e,z'⟩
    ·exact .inl q
    ·refine .inr ⟨k,c',e,z'.sameBut hs ?_⟩
     rintro rfl
     exact hj (Fi hN e1 (I.ok.inj _ _ _ e hc▸hi))
  ·by_cases Rl:c'=c
   ·subst Rl;exact ⟨_,Yo⟩
   ·obtain ⟨w2,z2⟩:=I.cell y c' e
    exact ⟨w2,z2.sameBut hs Rl⟩
  ·obtain ⟨e,n,ne,nf,d⟩:=I.pin p hp
   refine ⟨(hs.2 p.1 ?_).trans e,n,ne,nf,d⟩
   intro q
   rw [q,Y6] at e
   have q':oc=p.2:=aj.inj e
   exact d w' (by rw [<- q'];exact ae1)
theorem Fj {M:Model} {A:Around} {E:Value->Shared->Prop} {i:Nat} {x:Str} {v:V} {u:Value} {Q:Unit->Shared->Prop} (I:Inv X pins σ H s) (hN:X.N.Nodup) (hi:X.N[i]?=some x) (hx:Loc X.env.scope x) (r:RelV v u)
  (h:∀ s',Inv X pins (σ.set i (some v)) H s'->Q () s') (hf:X.fn x=true\/X.env.scope.names.lookup x=some .local:=by first | exact .inl rfl | exact .inr rfl | assumption):wpAny M A (storeName X.env x u) Q E s:=
 Jb I hN hi hx r (fun s' I' _=>h s' I') hf
theorem Inv.abG {s':Shared} {ch:List Addr} (I:Inv X pins σ H s) (ho:s'.os=s.os) (u:Un (T_ X.stack) ch H H' s.heap s'.heap) (cU:w8 X.prog X.w H' s'.heap) (hg:AllBare s'.gens)
  (WC:∀ b∈ch,(b∈X.ex\/X.Hx.heap.objs.size<=b)/\b≠X.env.locals/\(∀ x c,X.env.cells.lookup x=some c->c≠b)/\∀ p∈X.pn++pins,p.1≠b):Inv X pins σ H' s':=by
 obtain ⟨h',g',d',t',o'⟩:=s'
 have e:o'=s.os:=ho
 subst e
 exact I.call (g':=g') (t':=t') (d':=d') u cU hg WC
end
abbrev XK:=Value->Option Addr->Hp->Prop
abbrev St:=List (Option V)
abbrev VK:=V->Hp->Prop
abbrev TE:=St->Hp->VK->Prop
abbrev TT:=St->Hp->(Bool->Hp->Prop)->Prop
abbrev TA:=St->Hp->(List V->Hp->Prop)->Prop
structure Ends where
 nx:St->Hp->Prop
 rt:VK
 bk:St->Hp->Prop:=fun _ _=>False
 ct:St->Hp->Prop:=fun _ _=>False
abbrev TS:=Ends->St->Hp->Prop
def EP (X:Cx) (pins:List (Addr×Obj)) (σ:St) (Q:VK) (u:Value) (s':Shared):Prop:=∃ v H',Inv X pins σ H' s'/\RelV v u/\Q v H'
def TP (X:Cx) (pins:List (Addr×Obj)) (σ:St) (Q:Bool->Hp->Prop) (b:Bool) (s':Shared):Prop:=∃ H',Inv X pins σ H' s'/\Q b H'
def AP (X:Cx) (pins:List (Addr×Obj)) (σ:St) (Q:List V->Hp->Prop) (us:List Value) (s':Shared):Prop:=∃ vs H',Inv X pins σ H' s'/\Vals vs us/\Q vs H'
def SP (X:Cx) (pins:List (Addr×Obj)) (D:Ends) (f:Flow) (s':Shared):Prop:=
 match f with
 | .next=>∃ f7 H',Inv X pins f7 H' s'/\D.nx f7 H'
 | .brk=>∃ f7 H',Inv X pins f7 H' s'/\D.bk f7 H'
 | .cont=>∃ f7 H',Inv X pins f7 H' s'/\D.ct f7 H'
 | .ret u=>∃ v f7 H',Inv X pins f7 H' s'/\RelV v u/\D.rt v H'
def PE (X:Cx) (e:Expr) (t:TE):Prop:=
 ∀ (pins:List (Addr×Obj)) (s:Shared) (σ:St) (H:Hp) (Q:VK),Inv X pins σ H s->t σ H Q->wpAny (model X.prog X.w) X.A (eval e X.env) (EP X pins σ Q) X.xe s
def PT (X:Cx) (e:Expr) (t:TT):Prop:=
 ∀ (pins:List (Addr×Obj)) (s:Shared) (σ:St) (H:Hp) (Q:Bool->Hp->Prop),Inv X pins σ H s->t σ H Q->wpAny (model X.prog X.w) X.A (isTrue e X.env (eval e X.env)) (TP X pins σ Q) X.xe s
def PW (X:Cx) (e:Expr) (t:TT):Prop:=
 ∀ (whole:Sem Value) (pins:List (Addr×Obj)) (s:Shared) (σ:St) (H:Hp) (Q:Bool->Hp->Prop),Inv X pins σ H s->t σ H Q->wpAny (model X.prog X.w) X.A (isTrue e X.env whole) (TP X pins σ Q) X.xe s
theorem PW.pt {X:Cx} {e:Expr} {t:TT} (h:PW X e t):PT X e t:=h _
def PA (X:Cx) (es:List Expr) (t:TA):Prop:=
 ∀ (pos:Pos) (pins:List (Addr×Obj)) (s:Shared) (σ:St) (H:Hp) (Q:List V->Hp->Prop),Inv X pins σ H s->t σ H Q->wpAny (model X.prog X.w) X.A (spliced (backTo pos (starEach es X.env))) (AP X pins σ Q) X.xe s
def PS (X:Cx) (st:Stmt) (t:TS):Prop:=
 ∀ (pins:List (Addr×Obj)) (s:Shared) (σ:St) (H:Hp) (D:Ends),Inv X pins σ H s->t D σ H->wpAny (model X.prog X.w) X.A (exec st X.env) (SP X pins D) X.xe s
def Rm (X:Cx) (st:List Stmt) (t:TS):Prop:=
 ∀ (pins:List (Addr×Obj)) (s:Shared) (σ:St) (H:Hp) (D:Ends),Inv X pins σ H s->t D σ H->wpAny (model X.prog X.w) X.A (execs st X.env) (SP X pins D) X.xe s
theorem f9 {α:Type} {t:Sem α} {Q Q':α->Shared->Prop} {M:Model} {A:Around} {E:Value->Shared->Prop} {s:Shared} (h:wpAny M A t Q E s) (hQ:∀ a s,Q a s->Q' a s):wpAny M A t Q' E s:=wpAny_mono h hQ fun _ _ x=>x
section
variable {X:Cx}
theorem bin {a b:Expr} {ta tb:TE} (ha:PE X a ta) (hb:PE X b tb) {pins:List (Addr×Obj)} {s:Shared} {σ:St} {H:Hp} {R:V->V->Hp->Prop} (I:Inv X pins σ H s) (h:ta σ H fun x H1=>tb σ H1 fun y H2=>R x y H2)
  {α:Type} {Q:α->Shared->Prop} {f:Value->Value->Sem α}
  (hf:∀ v u s2 x y H2,Inv X pins σ H2 s2->RelV x v->RelV y u->R x y H2->wpAny (model X.prog X.w) X.A (f v u) Q X.xe s2):
  wpAny (model X.prog X.w) X.A (eval a X.env) (fun v cY=>wpAny (model X.prog X.w) X.A (eval b X.env) (fun u qA=>wpAny (model X.prog X.w) X.A (f v u) Q X.xe qA) X.xe cY) X.xe s:=by
 refine f9 (ha pins s σ H _ I h) fun v s1 ⟨x,H1,I1,r1,q1⟩=>?_
 refine f9 (hb pins s1 σ H1 _ I1 q1) fun u s2 ⟨y,H2,I2,r2,q2⟩=>?_
 exact hf v u s2 x y H2 I2 r1 r2 q2
def Br (i:Nat):TE:=fun σ H Q=>∃ v,σ[i]?=some (some v)/\Q v H
def tC (v:V):TE:=fun _ H Q=>Q v H
theorem Y7 {i:Nat} {x:Str} {pos:Pos} (hN:X.N[i]?=some x) (hv:Vis X.env.scope x) (hd:(x==("__debug__":Str))=false:=by decide) (MQ:(x==("__classdict__":Str))=false:=by decide):PE X (.Name x pos) (Br i):=by
 intro pins s σ H Q I h
 obtain ⟨v,e,h⟩:=h
 obtain ⟨m,hn,hl⟩:=I.loc
 obtain ⟨u,r,l⟩:=hl i x v hN e hv
 have fin:EP X pins σ Q u s:=⟨v,H,I,r,h⟩
 rcases l with ⟨hk,hm⟩ | ⟨hk,c,hc,Fl⟩
 ·exact wpAny_Name (wpAny_loadName_local I.ok.kind hk hn hm fin) hd
 ·rcases hk with hk | hk
  ·exact wpAny_Name (wpAny_loadName_cell I.ok.kind hk hc Fl fin) hd
  ·exact wpAny_Name (wpAny_loadName_free I.ok.kind hk hc Fl fin MQ) hd
theorem az {i j pos}:PE X (.Constant (.int i) j pos) (tC (.int i)):=fun _ _ _ H _ I h=>wpAny_Constant_int ⟨.int i,H,I.tok _,⟨_,rfl⟩,h⟩
theorem mq {b j pos}:PE X (.Constant (.bool b) j pos) (tC (.bl b)):=fun _ _ _ H _ I h=>Constant_bool ⟨.bl b,H,I,rfl,h⟩
theorem Px {j pos}:PE X (.Constant .none j pos) (tC .jU):=fun _ _ _ H _ I h=>Constant_none ⟨.jU,H,I,rfl,h⟩
theorem i4 {x j pos}:PE X (.Constant (.str x) j pos) (tC (.str x)):=fun _ _ _ H _ I h=>Calls.Constant_str ⟨.str x,H,I.tok _,⟨_,rfl⟩,h⟩
def Gl (X:Cx) (x:Str):Prop:=X.env.kindOf x=some .globalImplicit
theorem ET {E:Value->Shared->Prop} {pins:List (Addr×Obj)} {s:Shared} {σ:St} {H:Hp} {x:Str} {u:Value} {pos:Pos} {Q:Value->Shared->Prop} (I:Inv X pins σ H s) (hg:Gl X x) (hm:X.mg x=some u) (h:Q u s)
  (hd:(x==("__debug__":Str))=false:=by decide):wpAny (model X.prog X.w) X.A (eval (.Name x pos) X.env) Q E s:=
 Calls.Name_function_global I.ok.kind hg (Calls.loadGlobal_global (by rw [I.ok.glob];exact I.mod.glob.keeps I.bk) hm h) hd
theorem tY {E:Value->Shared->Prop} {pins:List (Addr×Obj)} {s:Shared} {σ:St} {H:Hp} {x:Str} {u:Value} {pos:Pos} {Q:Value->Shared->Prop} (I:Inv X pins σ H s) (hg:Gl X x) (hm:X.mg x=none) (hv:bootBuiltins x=some u) (h:Q u s)
  (hn:x≠"__name__":=by decide) (hd:(x==("__debug__":Str))=false:=by decide):wpAny (model X.prog X.w) X.A (eval (.Name x pos) X.env) Q E s:=by
 obtain ⟨mb,h1,h2⟩:=I.mod.blt
 exact Calls.Name_function_global I.ok.kind hg (Calls.loadGlobal_builtin (by rw [I.ok.glob];exact I.mod.glob.keeps I.bk) hm (by rw [I.ok.blt];exact h1.keeps I.bk) ((h2 x hn).trans hv) h) hd
variable {a b:Expr} {ta tb:TE} {pos:Pos}
def PC (X:Cx) (op:CmpOp) (a b:Expr) (t:TE):Prop:=
 ∀ (pins:List (Addr×Obj)) (s:Shared) (σ:St) (H:Hp) (Q:VK),Inv X pins σ H s->t σ H Q->
  wpAny (model X.prog X.w) X.A (eval a X.env) (fun v cY=>wpAny (model X.prog X.w) X.A (eval b X.env) (fun u qA=>wpAny (model X.prog X.w) X.A (compareOp op v u) (EP X pins σ Q) X.xe qA) X.xe cY) X.xe s
theorem Ug (b:Expr) {op:CmpOp} (h:op≠.In) (h2:op≠.NotIn):behindInMarks op b=false:=by
 have e1:(op==CmpOp.In)=false:=by cases op<;>first | rfl | exact absurd rfl h
 have e2:(op==CmpOp.NotIn)=false:=by cases op<;>first | rfl | exact absurd rfl h2
 cases b<;>simp [behindInMarks,e1,e2]
def ae2 (ta:TE):TE:=fun σ H Q=>ta σ H fun x H1=>Q (.bl (decide (x=.jU))) H1
theorem RelV.Uh {x:V} {v:Value} (r:RelV x v):(v==Value.none)=decide (x=.jU):=by
 cases x with
 | jU=>cases r;rfl
 | bl _=>cases r;rfl
 | int _=>obtain ⟨t,rfl⟩:=r;rfl
 | str _=>obtain ⟨t,rfl⟩:=r;rfl
 | J4 _=>obtain ⟨t,rfl⟩:=r;rfl
 | Y1 _=>obtain ⟨t,rfl⟩:=r;rfl
 | ref _=>cases r;rfl
 | ty _=>cases r;rfl
theorem Py {j pos'} (ha:PE X a ta):PC X .Is a (.Constant .none j pos') (ae2 ta):=by
 intro pins s σ H Q I h
 refine f9 (ha pins s σ H _ I h) fun v s1 ⟨x,H1,I1,r1,q1⟩=>?_
 exact Constant_none (is_none_gen ⟨.bl _,H1,I1,by rw [r1.Uh];rfl,q1⟩)
def tB (t:TE):TT:=fun σ H Q=>t σ H fun x H1=>∃ c,x=.bl c/\Q c H1
theorem vh {op:CmpOp} {t:TE} (h:PC X op a b t) (h1:behindInMarks op b=false:=by first | exact Ug _ (by decide) (by decide) | rfl):PT X (.Compare a [op] [b] pos) (tB t):=by
 intro pins s σ H Q I hw
 refine wpAny_isTrue_Compare1 (f9 (h pins s σ H _ I hw) fun v s1 h1=>f9 h1 fun u s2 h2=>f9 h2 fun c s3 ⟨x,H1,I1,r1,q1⟩=>?_) h1
 obtain ⟨d,rfl,q⟩:=q1
 cases r1
 exact wpAny_truthy_bool ⟨H1,I1,q⟩
theorem qB {e:Expr} {t:TE} (h:PE X e t) (he:∀ whole,isTrue e X.env whole=(do let v<-whole;standAt e.pos;holding [v] (truthy v)):=by intro _;rfl):PT X e (tB t):=by
 intro pins s σ H Q I hw
 refine isTrue_plain (f9 (h pins s σ H _ I hw) fun v s1 ⟨x,H1,I1,r1,q1⟩=>?_) (he _)
 obtain ⟨d,rfl,q⟩:=q1
 cases r1
 exact wpAny_truthy_bool ⟨H1,I1,q⟩
variable {tA tB':TT} {rest:List Expr}
def ae3 (t u:TT):TT:=fun σ H Q=>t σ H fun c H1=>if c=true then u σ H1 Q else Q false H1
def tOr (t u:TT):TT:=fun σ H Q=>t σ H fun c H1=>if c=true then Q true H1 else u σ H1 Q
def ae4 (t:TT):TT:=fun σ H Q=>t σ H fun c H1=>Q (!c) H1
theorem EU (ha:PT X a tA):PW X (.BoolOp .And [a] pos) tA:=by
 intro wh pins s σ H Q I h
 refine isTrue_and (f9 (ha pins s σ H Q I h) fun c s1 e=>?_)
 cases c with
 | true=>exact isTrue_and_nil e
 | false=>exact e
theorem vi (ha:PT X a tA):PW X (.BoolOp .Or [a] pos) tA:=by
 intro wh pins s σ H Q I h
 refine isTrue_or (f9 (ha pins s σ H Q I h) fun c s1 e=>?_)
 cases c with
 | false=>exact isTrue_or_nil e
 | true=>exact e
theorem J6 (ha:PT X a tA) (hb:PW X (.BoolOp .And (b::rest) pos) tB'):PW X (.BoolOp .And (a::b::rest) pos) (ae3 tA tB'):=by
 intro wh pins s σ H Q I h
 refine isTrue_and (f9 (ha pins s σ H _ I h) fun c s1 ⟨H1,I1,q1⟩=>?_)
 cases c with
 | true=>exact hb wh pins s1 σ H1 Q I1 q1
 | false=>exact ⟨H1,I1,q1⟩
theorem zY (ha:PT X a tA) (hb:PW X (.BoolOp .Or (b::rest) pos) tB'):PW X (.BoolOp .Or (a::b::rest) pos) (tOr tA tB'):=by
 intro wh pins s σ H Q I h
 refine isTrue_or (f9 (ha pins s σ H _ I h) fun c s1 ⟨H1,I1,q1⟩=>?_)
 cases c with
 | true=>exact ⟨H1,I1,q1⟩
 | false=>exact hb wh pins s1 σ H1 Q I1 q1
theorem vj (ha:PT X a tA):PT X (.UnaryOp .Not a pos) (ae4 tA):=by
 intro pins s σ H Q I h
 exact isTrue_not (ha pins s σ H (fun c H1=>Q (!c) H1) I h)
def abH (ta tb:TE):TE:=fun σ H Q=>ta σ H fun x H1=>∃ c,x=.bl c/\if c=true then tb σ H1 Q else Q (.bl false) H1
def ae5 (ta tb:TE):TE:=fun σ H Q=>ta σ H fun x H1=>∃ c,x=.bl c/\if c=true then Q (.bl true) H1 else tb σ H1 Q
theorem Fm {op} {t:TE} (h:PE X a t):PE X (.BoolOp op [a] pos) t:=fun pins s σ H Q I hw=>BoolOp_one (h pins s σ H Q I hw)
theorem Cu (ha:PE X a ta) (hb:PE X (.BoolOp .And (b::rest) pos) tb):PE X (.BoolOp .And (a::b::rest) pos) (abH ta tb):=by
 intro pins s σ H Q I h
 refine BoolOp_and (f9 (ha pins s σ H _ I h) fun v s1 ⟨x,H1,I1,r1,q1⟩=>?_)
 obtain ⟨c,rfl,q1⟩:=q1
 cases r1
 refine wpAny_truthy_bool ?_
 cases c with
 | true=>exact hb pins s1 σ H1 Q I1 q1
 | false=>exact ⟨.bl false,H1,I1,rfl,q1⟩
theorem abI (ha:PE X a ta) (hb:PE X (.BoolOp .Or (b::rest) pos) tb):PE X (.BoolOp .Or (a::b::rest) pos) (ae5 ta tb):=by
 intro pins s σ H Q I h
 refine BoolOp_or (f9 (ha pins s σ H _ I h) fun v s1 ⟨x,H1,I1,r1,q1⟩=>?_)
 obtain ⟨c,rfl,q1⟩:=q1
 cases r1
 refine wpAny_truthy_bool ?_
 cases c with
 | false=>exact hb pins s1 σ H1 Q I1 q1
 | true=>exact ⟨.bl true,H1,I1,rfl,q1⟩
def tIf (t:TT) (ta tb:TE):TE:=fun σ H Q=>t σ H fun c H1=>if c=true then ta σ H1 Q else tb σ H1 Q
theorem xo {c:Expr} (hc:PT X c tA) (ha:PE X a ta) (hb:PE X b tb):PE X (.IfExp c a b pos) (tIf tA ta tb):=by
 intro pins s σ H Q I h
 refine wpAny_IfExp (f9 (hc pins s σ H _ I h) fun d s1 ⟨H1,I1,q1⟩=>?_)
 cases d with
 | true=>exact ha pins s1 σ H1 Q I1 q1
 | false=>exact hb pins s1 σ H1 Q I1 q1
end
def bO (K:ab) (H:Hp) (a:Addr) (xs:List V):Prop:=
 Rd H a (.lst xs)\/
  ∃ (o:Obj) (cq:Array Value) (n:Nat),K.lookup a=some o/\o.cls=.type "list"/\o.dict=none/\o.data=.seq cq n/\cq.size<=sizeLine/\Vals xs cq.toList
def oX (K:ab) (H:Hp) (a:Addr) (xs:List V):Prop:=
 Rd H a (.tup xs)\/
  ∃ (o:Obj) (cq:Array Value) (n:Nat),K.lookup a=some o/\o.cls=.type "tuple"/\o.data=.seq cq n/\cq.size<=sizeLine/\Vals xs cq.toList
def ae6:Value->Option V
 | .none=>some .jU
 | .bool b=>some (.bl b)
 | .int i _=>some (.int i)
 | .str x _=>some (.str x)
 | .bytes b _=>some (.J4 b)
 | .float b _=>some (.Y1 b)
 | .ref a=>some (.ref a)
 | .type n=>some (.ty n)
 | _=>none
theorem RelV.abs {x:V} {u:Value} (r:RelV x u):ae6 u=some x:=by
 cases x with
 | jU=>cases r;rfl
 | bl _=>cases r;rfl
 | int _=>obtain ⟨t,rfl⟩:=r;rfl
 | str _=>obtain ⟨t,rfl⟩:=r;rfl
 | J4 _=>obtain ⟨t,rfl⟩:=r;rfl
 | Y1 _=>obtain ⟨t,rfl⟩:=r;rfl
 | ref _=>cases r;rfl
 | ty _=>cases r;rfl
theorem RelV.inj {x y:V} {u:Value} (r:RelV x u) (q:RelV y u):x=y:=aj.inj (r.abs.symm.trans q.abs)
theorem Vals.inj:∀ {xs ys:List V} {us:List Value},Vals xs us->Vals ys us->xs=ys
 | _,_,_,.nil,.nil=>rfl
 | _,_,_,.cons r t,.cons r' t'=>by rw [r.inj r',Vals.inj t t']
section
variable {X:Cx} {pins:List (Addr×Obj)} {σ:St} {H:Hp} {s:Shared} {a:Addr} {xs ys:List V}
theorem bO.of {K:ab} (h:H a=some (.lst xs)):bO K H a xs:=.inl (.inl h)
theorem oX.of {K:ab} (h:H a=some (.tup xs)):oX K H a xs:=.inl (.inl h)
theorem Inv.list (I:Inv X pins σ H s) (h:bO X.K H a xs):∃ cq:List Value,Vals xs cq/\PlainL s.heap a cq.toArray/\xs.length<=sizeLine:=by
 rcases h with h | ⟨o,cq,n,hk,hc,hd,hs,hz,r⟩
 ·obtain ⟨z,cq,n,r,e⟩:=h.ok I.cU
  exact ⟨cq,r,⟨_,n,e,rfl,rfl,rfl⟩,z⟩
 ·refine ⟨cq.toList,r,⟨o,n,I.MP a o hk,hc,hd,by simpa using hs⟩,?_⟩
  have e:=r.length
  simp only [mB] at e
  omega
theorem Inv.tuple (I:Inv X pins σ H s) (h:oX X.K H a xs):∃ cq:List Value,Vals xs cq/\IsTup s.heap a cq.toArray/\xs.length<=sizeLine:=by
 rcases h with h | ⟨o,cq,n,hk,hc,hs,hz,r⟩
 ·obtain ⟨z,cq,r,p⟩:=h.ok I.cU
  exact ⟨cq,r,p,z⟩
 ·refine ⟨cq.toList,r,⟨o,I.MP a o hk,hc,n,by simpa using hs⟩,?_⟩
  have e:=r.length
  simp only [mB] at e
  omega
theorem Inv.Bs (I:Inv X pins σ H s) (h:bO X.K H a xs) (h':bO X.K H a ys):xs=ys:=by
 obtain ⟨cq,r,⟨o,n,e,_,_,d⟩,_⟩:=I.list h
 obtain ⟨its',r',⟨o',n',e',_,_,d'⟩,_⟩:=I.list h'
 rw [e] at e';cases e'
 rw [d] at d'
 injection d' with d1 _
 have:cq=its':=by simpa using congrArg Array.toList d1
 subst this
 exact r.inj r'
theorem Inv.Sg (I:Inv X pins σ H s) (h:oX X.K H a xs) (h':oX X.K H a ys):xs=ys:=by
 obtain ⟨cq,r,⟨o,e,_,n,d⟩,_⟩:=I.tuple h
 obtain ⟨its',r',⟨o',e',_,n',d'⟩,_⟩:=I.tuple h'
 rw [e] at e';cases e'
 rw [d] at d'
 injection d' with d1 _
 have:cq=its':=by simpa using congrArg Array.toList d1
 subst this
 exact r.inj r'
end
abbrev Cx.Hy (X:Cx) (E:Value->Shared->Prop):Cx:={ X with xe:=E }
abbrev Cx.nox (X:Cx):Cx:=X.Hy fun _ _=>False
theorem Cx.Ok.Hy {X:Cx} (ok:X.Ok) (E:Value->Shared->Prop):(X.Hy E).Ok:=
 ⟨ok.mod,ok.kind,ok.glob,ok.blt,ok.above,ok.inj,ok.has,ok.cab,ok.hd,ok.frames,ok.stk,ok.exf,ok.bs,ok.TN,ok.Ua,ok.Ub,ok.Bq,ok.WU⟩
theorem Cx.Ok.xp {X:Cx} {E:Value->Shared->Prop} (ok:(X.Hy E).Ok):X.Ok:=
 ⟨ok.mod,ok.kind,ok.glob,ok.blt,ok.above,ok.inj,ok.has,ok.cab,ok.hd,ok.frames,ok.stk,ok.exf,ok.bs,ok.TN,ok.Ua,ok.Ub,ok.Bq,ok.WU⟩
section
variable {X:Cx} {pins:List (Addr×Obj)} {σ:St} {H:Hp} {s:Shared} {E:Value->Shared->Prop}
theorem Inv.Hy (I:Inv X pins σ H s) (E:Value->Shared->Prop):Inv (X.Hy E) pins σ H s:=⟨I.ok.Hy E,I.os,I.bare,I.base,I.loc,I.cell,I.free,I.tF,I.pin,I.cU,I.len⟩
theorem Inv.xp (I:Inv (X.Hy E) pins σ H s):Inv X pins σ H s:=⟨I.ok.xp,I.os,I.bare,I.base,I.loc,I.cell,I.free,I.tF,I.pin,I.cU,I.len⟩
theorem SP.xp {D:Ends} {f:Flow} {s':Shared} (h:SP (X.Hy E) pins D f s'):SP X pins D f s':=by
 cases f with
 | next=>obtain ⟨f7,H',I,q⟩:=h;exact ⟨f7,H',I.xp,q⟩
 | brk=>obtain ⟨f7,H',I,q⟩:=h;exact ⟨f7,H',I.xp,q⟩
 | cont=>obtain ⟨f7,H',I,q⟩:=h;exact ⟨f7,H',I.xp,q⟩
 | ret u=>obtain ⟨v,f7,H',I,r,q⟩:=h;exact ⟨v,f7,H',I.xp,r,q⟩
theorem Rm.nox {st:List Stmt} {t:TS} (h:Rm X.nox st t):Rm X st t:=fun pins s σ H D I hw=>
 wpAny_mono (h pins s σ H D (I.Hy _) hw) (fun _ _ q=>q.xp) fun _ _ z=>False.elim z
end
section
variable {X:Cx} {st:Stmt} {rest:List Stmt} {t u:TS} {e:Expr} {te:TE} {pos:Pos}
def abJ:TS:=fun D σ H=>D.nx σ H
def ae7 (t u:TS):TS:=fun D σ H=>t { D with nx:=u D } σ H
theorem bt:Rm X [] abJ:=fun _ _ σ H _ I h=>wpAny_execs_nil ⟨σ,H,I,h⟩
theorem ag (h1:PS X st t) (h2:Rm X rest u):Rm X (st::rest) (ae7 t u):=by
 intro pins s σ H D I h
 refine wpAny_execs_cons (f9 (h1 pins s σ H { D with nx:=u D } I h) fun f s1 q=>?_)
 cases f with
 | next=>
  obtain ⟨f7,H',I',q⟩:=q
  exact h2 pins s1 f7 H' D I' q
 | ret v=>exact q
 | brk=>exact q
 | cont=>exact q
theorem ak (h1:PS X st t):Rm X [st] t:=by
 intro pins s σ H D I h
 refine wpAny_execs_cons (f9 (h1 pins s σ H D I h) fun f s1 q=>?_)
 cases f with
 | next=>exact wpAny_execs_nil q
 | ret v=>exact q
 | brk=>exact q
 | cont=>exact q
def abK:TS:=fun D σ H=>D.ct σ H
theorem MR:PS X (.Continue pos) abK:=fun _ _ σ H _ I h=>wpAny_Continue ⟨σ,H,I,h⟩
theorem Inv.quiet {pins:List (Addr×Obj)} {σ:St} {H:Hp} {s:Shared} (I:Inv X pins σ H s):interactive X.env=false:=by simp [interactive,I.ok.kind]
def abL (te:TE):TS:=fun D σ H=>te σ H fun _ H1=>D.nx σ H1
theorem cO (he:PE X e te) (hs:swapsWith e none pos.line X.env=pure false:=by rfl):PS X (.Expr e pos) (abL te):=by
 intro pins s σ H D I h
 exact wpAny_Expr_any (f9 (he pins s σ H _ I h) fun v s1 ⟨x,H1,I1,r1,q1⟩=>⟨σ,H1,I1,q1⟩) I.quiet hs
def abM (te:TE):TS:=fun D σ H=>te σ H D.rt
theorem aK (he:PE X e te):PS X (.Return (some e) pos) (abM te):=by
 intro pins s σ H D I h
 exact wpAny_Return_some (f9 (he pins s σ H _ I h) fun v s1 ⟨x,H1,I1,r1,q1⟩=>⟨x,σ,H1,I1,r1,q1⟩)
def ae8 (c:TT) (t u:TS):TS:=fun D σ H=>c σ H fun b H1=>if b=true then t D σ H1 else u D σ H1
theorem cx {c:Expr} {a b:List Stmt} {tc:TT} (hc:PT X c tc) (ha:Rm X a t) (hb:Rm X b u):PS X (.If c a b pos) (ae8 tc t u):=by
 intro pins s σ H D I h
 refine wpAny_If (f9 (hc pins s σ H _ I h) fun d s1 ⟨H1,I1,q1⟩=>?_)
 cases d with
 | true=>exact ha pins s1 σ H1 D I1 q1
 | false=>exact hb pins s1 σ H1 D I1 q1
end
abbrev TG:=V->St->Hp->(St->Hp->Prop)->Prop
abbrev Yp:=List V->St->Hp->(St->Hp->Prop)->Prop
def PG (X:Cx) (target:Expr) (t:TG):Prop:=
 ∀ (pins:List (Addr×Obj)) (s:Shared) (σ:St) (H:Hp) (v:V) (u:Value) (Q:St->Hp->Prop),Inv X pins σ H s->RelV v u->t v σ H Q->
  wpAny (model X.prog X.w) X.A (assign target X.env u) (fun _ s'=>∃ f7 H',Inv X pins f7 H' s'/\Q f7 H') X.xe s
def PGs (X:Cx) (ts:List Expr) (t:Yp):Prop:=
 ∀ (pins:List (Addr×Obj)) (s:Shared) (σ:St) (H:Hp) (vs:List V) (us:List Value) (Q:St->Hp->Prop),Inv X pins σ H s->Vals vs us->t vs σ H Q->
  wpAny (model X.prog X.w) X.A (assignInOrder ((assignEach ts X.env).map (·.2)) us) (fun _ s'=>∃ f7 H',Inv X pins f7 H' s'/\Q f7 H') X.xe s
abbrev TIp:=V->V->Hp->VK->Prop
def PIp (X:Cx) (op:Operator) (t:TIp):Prop:=
 ∀ (pins:List (Addr×Obj)) (s:Shared) (σ:St) (H:Hp) (x y:V) (v u:Value) (Q:VK),Inv X pins σ H s->RelV x v->RelV y u->t x y H Q->
  wpAny (model X.prog X.w) X.A (inplaceOp op v u) (EP X pins σ Q) X.xe s
section
variable {X:Cx} {pos:Pos}
def Jc (i:Nat):TG:=fun v σ H Q=>Q (σ.set i (some v)) H
theorem WV {i:Nat} {x:Str} (hN:X.N.Nodup) (hi:X.N[i]?=some x) (hx:Loc X.env.scope x) (hf:X.fn x=true\/X.env.scope.names.lookup x=some .local:=by first | exact .inl rfl | exact .inr rfl | assumption):PG X (.Name x pos) (Jc i):=by
 intro pins s σ H v u Q I r h
 exact wpAny_assign_Name (Fj I hN hi hx r (fun s' I'=>⟨_,H,I',h⟩) hf)
def ae_:Yp:=fun vs σ H Q=>vs=[]/\Q σ H
def abO (t:TG) (u:Yp):Yp:=fun vs σ H Q=>∃ v r,vs=v::r/\t v σ H fun f7 H'=>u r f7 H' Q
theorem J7:PGs X [] ae_:=by
 intro pins s σ H vs us Q I r h
 obtain ⟨e,h⟩:=h
 subst e
 cases r
 exact assignInOrder_nil ⟨σ,H,I,h⟩
theorem uP {e:Expr} {es:List Expr} {t:TG} {u:Yp} (h1:PG X e t) (h2:PGs X es u)
  (hs:(assignEach (e::es) X.env).map (·.2)=assign e X.env::(assignEach es X.env).map (·.2):=by rfl):PGs X (e::es) (abO t u):=by
 intro pins s σ H vs us Q I r h
 obtain ⟨v,vr,e1,h⟩:=h
 subst e1
 cases r with
 | cons r rr=>
  rw [hs]
  refine assignInOrder_cons (f9 (h1 pins s σ H _ _ _ I r h) fun _ s1 ⟨σ1,H1,I1,q1⟩=>?_)
  exact h2 pins s1 σ1 H1 _ _ Q I1 rr q1
def abP (K:ab) (n:Nat) (t:Yp):TG:=fun v σ H Q=>∃ a xs,v=.ref a/\oX K H a xs/\xs.length=n/\t xs σ H Q
theorem Y8 {es:List Expr} {k:Nat} {t:Yp} {n:Nat} (hc:X.calm=true) (h:PGs X es t)
  (hn:(assignEach es X.env).length=n:=by rfl) (Pj:(assignEach es X.env).findIdx? (·.1)=none:=by rfl):PG X (.Tuple es k pos) (abP X.K n t):=by
 intro pins s σ H v u Q I r hw
 obtain ⟨a,xs,e1,hq,hl,hw⟩:=hw
 subst e1
 cases r
 obtain ⟨cq,rv,ht,hz⟩:=I.tuple hq
 refine assign_Tuple_tuple (I.ok.hd hc) ht (by simp [hn,<-hl,rv.length]) Pj fun h' hx=>?_
 have I1:Inv X pins σ H { s with heap:=h' }:=I.kept (t':=s.toks) fun b o e=>hx b o (cj (a8 e)) e
 exact h pins _ σ H xs _ Q I1 (by simpa using rv) hw
def Y9 (te:TE) (g:TG):TS:=fun D σ H=>te σ H fun x H1=>g x σ H1 D.nx
theorem Y_ {i:Nat} {x:Str} {e:Expr} {te:TE} {pos':Pos} (hN:X.N.Nodup) (hi:X.N[i]?=some x) (hx:Loc X.env.scope x) (he:PE X e te) (hs:swapsWith e (some (.Name x pos')) pos.line X.env=pure false:=by rfl) (hf:X.fn x=true\/X.env.scope.names.lookup x=some .local:=by first | exact .inl rfl | exact .inr rfl | assumption):
  PS X (.Assign [.Name x pos'] e pos) (Y9 te (Jc i)):=by
 intro pins s σ H D I h
 refine wpAny_Assign_Name (f9 (he pins s σ H _ I h) fun v s1 ⟨y,H1,I1,r1,q1⟩=>?_) hs
 exact Fj I1 hN hi hx r1 (fun s2 I2=>⟨_,H1,I2,q1⟩) hf
def afa (i:Nat) (te:TE) (ti:TIp):TS:=fun D σ H=>∃ x,σ[i]?=some (some x)/\te σ H fun y H1=>ti x y H1 fun z H2=>D.nx (σ.set i (some z)) H2
theorem Ai {i:Nat} {x:Str} {e:Expr} {te:TE} {op:Operator} {ti:TIp} {pos':Pos} (hN:X.N.Nodup) (hi:X.N[i]?=some x) (hx:Loc X.env.scope x) (he:PE X e te) (ho:PIp X op ti) (hf:X.fn x=true\/X.env.scope.names.lookup x=some .local:=by first | exact .inl rfl | exact .inr rfl | assumption):
  PS X (.AugAssign (.Name x pos') op e pos) (afa i te ti):=by
 intro pins s σ H D I h
 obtain ⟨v,e1,h⟩:=h
 obtain ⟨m,hn,hl⟩:=I.loc
 have vis:Vis X.env.scope x:=by rcases hx with k | k;exact .inl k;exact .inr (.inl k)
 obtain ⟨u,r,l⟩:=hl i x v hi e1 vis
 refine wpAny_AugAssign_Name ?_
 have go:wpAny (model X.prog X.w) X.A (eval e X.env) (fun w qA=>wpAny (model X.prog X.w) X.A (inplaceOp op u w) (fun r MS=>wpAny (model X.prog X.w) X.A (storeName X.env x r) (fun _=>SP X pins D .next) X.xe MS) X.xe qA) X.xe s:=by
  refine f9 (he pins s σ H _ I h) fun w s1 ⟨y,H1,I1,r1,q1⟩=>?_
  refine f9 (ho pins s1 σ H1 v y u w _ I1 r r1 q1) fun z s2 ⟨zv,H2,I2,r2,q2⟩=>?_
  exact Fj I2 hN hi hx r2 (fun s3 I3=>⟨_,H2,I3,q2⟩) hf
 rcases l with ⟨hk,hm⟩ | ⟨hk,c,hc,Fl⟩
 ·exact wpAny_loadName_local I.ok.kind hk hn hm go
 ·rcases hk with hk | hk
  ·exact wpAny_loadName_cell I.ok.kind hk hc Fl go
  ·rcases hx with k | k
   ·have:X.env.scope.names.lookup x=some .free:=hk
    rw [k] at this;cases this
   ·have:X.env.scope.names.lookup x=some .free:=hk
    rw [k] at this;cases this
def ipI (f:Int->Int->Int):TIp:=fun x y H Q=>∃ i j,x=.int i/\y=.int j/\Q (.int (f i j)) H
theorem Cv:PIp X .Add (ipI fun i j=>i+j):=by
 intro pins s σ H x y v u Q I r1 r2 h
 obtain ⟨i,j,e1,e2,q⟩:=h
 subst e1;subst e2
 obtain ⟨t,rfl⟩:=r1
 obtain ⟨t',rfl⟩:=r2
 exact iadd_int ⟨.int _,H,I.tok _,⟨_,rfl⟩,q⟩
end
section
variable {X:Cx} {pos:Pos}
def Za (c:TT) (tb:TS):TS:=fun D σ H=>∃ W:Nat->St->Hp->Prop,(∃ m,W m σ H)/\∀ m σ H,W m σ H->
 c σ H fun b H1=>if b=true then ∃ N:St->Hp->Prop,(∀ f7 H',N f7 H'->∃ m',m'<m/\W m' f7 H')/\tb { D with nx:=N,ct:=N,bk:=D.nx } σ H1 else D.nx σ H1
theorem MT {c:Expr} {body:List Stmt} {tc:TT} {tb:TS} (hp:PassesOwn (model X.prog X.w) X.A X.env X.xe) (hc:PT X c tc) (hb:Rm X body tb):PS X (.While c body [] pos) (Za tc tb):=by
 intro pins s σ H D I h
 obtain ⟨W,⟨m0,w0⟩,turn⟩:=h
 refine wpAny_While (codeAny_whileLoop (fun n s'=>∃ f7 H',Inv X pins f7 H' s'/\W n f7 H') ?_ m0 ⟨σ,H,I,w0⟩)
 rintro n s1 ⟨σ1,H1,I1,w1⟩
 refine wpAny_passesOwn hp (f9 (hc pins s1 σ1 H1 _ I1 (turn n σ1 H1 w1)) fun b s2 ⟨H2,I2,q2⟩=>?_)
 cases b with
 | true=>
  obtain ⟨N,hN,q2⟩:=q2
  rw [if_pos rfl]
  refine wpAny_passesOwn hp (f9 (hb pins s2 σ1 H2 _ I2 q2) fun f s3 q3=>?_)
  cases f with
  | next=>
   obtain ⟨Ui,H3,I3,n3⟩:=q3
   obtain ⟨m',hm,w3⟩:=hN Ui H3 n3
   exact ⟨m',hm,Ui,H3,I3,w3⟩
  | cont=>
   obtain ⟨Ui,H3,I3,n3⟩:=q3
   obtain ⟨m',hm,w3⟩:=hN Ui H3 n3
   exact ⟨m',hm,Ui,H3,I3,w3⟩
  | brk=>exact q3
  | ret v=>exact q3
 | false=>
  rw [if_neg a6]
  exact wpAny_execs_nil ⟨σ1,H2,I2,q2⟩
end
structure It where
 go:Nat->Hp->Prop
 Pz:Nat->Hp->V->Hp->Prop
 stop:Nat->Hp->Prop
def Aj (X:Cx) (pins:List (Addr×Obj)) (H:Hp) (b:Addr):Prop:=
 H b=none/\b≠X.env.locals/\b∉X.fs/\(b∈X.ex\/X.Hx.heap.objs.size<=b)/\(∀ x c,X.env.cells.lookup x=some c->c≠b)/\∀ p∈X.pn++pins,p.1≠b
theorem Inv.J8 {X:Cx} {pins:List (Addr×Obj)} {σ:St} {H H':Hp} {s:Shared} {b:Addr} (I:Inv X pins σ H s) (hb:s.heap.objs.size<=b) (hn:H' b=none):Aj X pins H' b:=by
 refine ⟨hn,rM (bo I.lt hb),I.Y3 hb,.inr (bB I.sz hb),fun x c e z=>?_,fun p hp z=>?_⟩
 ·obtain ⟨v,q⟩:=I.cell x c e
  exact absurd (bo q.lt (by rw [z];exact hb)) (fG _)
 ·exact absurd (bo (a8 (I.pin p hp).1) (by rw [z];exact hb)) (fG _)
structure Turn (P:Program) (w:World) (K:ab) (tg:Expr) (J:It) (fp:List Addr) (it:Addr) (tn:Nat->Heap->Prop):Prop where
 mem:it∈fp
 obj:∀ i h,tn i h->∀ b∈fp,∃ o,h.get? b=some o/\∀ v,o.data≠.cell v
 keep:∀ i h h',tn i h->(∀ b∈fp,∀ o,h.get? b=some o->h'.get? b=some o)->tn i h'
 item:∀ (X:Cx),X.prog=P->X.w=w->X.K=K->X.calm=true->∀ (i:Nat) (pins:List (Addr×Obj)) (s:Shared) (σ:St) (H:Hp) (E:Value->Shared->Prop),Inv X pins σ H s->(∀ b∈fp,Aj X pins H b)->tn i s.heap->J.go i H->
  wpAny (model P w) X.A (pyNext (.ref it)) (fun r s1=>∃ u,r=some u/\
   wpAny (model P w) X.A (letOwnedTupleGo tg (.ref it) u) (fun _ s2=>∃ x H',Inv X pins σ H' s2/\RelV x u/\J.Pz i H x H'/\tn (i+1) s2.heap/\∀ b∈fp,H' b=none) E s1) E s
 done:∀ (X:Cx),X.prog=P->X.w=w->X.K=K->X.calm=true->∀ (i:Nat) (pins:List (Addr×Obj)) (s:Shared) (σ:St) (H:Hp) (E:Value->Shared->Prop),Inv X pins σ H s->(∀ b∈fp,Aj X pins H b)->tn i s.heap->J.stop i H->
  wpAny (model P w) X.A (pyNext (.ref it)) (fun r s1=>r=none/\Inv X pins σ H s1) E s
 self:∀ (A:Around) (i:Nat) (s:Shared) (Q:Value->Shared->Prop) (E:Value->Shared->Prop),tn i s.heap->Q (.ref it) s->wpAny (model P w) A (pyIter (.ref it)) Q E s
abbrev TI:=St->Hp->(It->Hp->Prop)->Prop
def PIE (X:Cx) (pins:List (Addr×Obj)) (σ:St) (tg:Expr) (R:It->Hp->Prop) (itv:Value) (s2:Shared):Prop:=
 ∃ (it:Addr) (fp:List Addr) (tn:Nat->Heap->Prop) (J:It) (H':Hp),itv=.ref it/\Inv X pins σ H' s2/\Turn X.prog X.w X.K tg J fp it tn/\tn 0 s2.heap/\(∀ b∈fp,Aj X pins H' b)/\R J H'
def PI (X:Cx) (tg iter:Expr) (wi:TI):Prop:=
 ∀ (pins:List (Addr×Obj)) (s:Shared) (σ:St) (H:Hp) (R:It->Hp->Prop),Inv X pins σ H s->wi σ H R->
  wpAny (model X.prog X.w) X.A (eval iter X.env) (fun v s1=>wpAny (model X.prog X.w) X.A (pyIter v) (PIE X pins σ tg R) X.xe s1) X.xe s
theorem Fn {M:Model} {A:Around} {E:Value->Shared->Prop} {s:Shared} {tg:Expr} {it:Addr} {u:Value} {o:Obj} {n:String} {vs:Array Value} {Q:Unit->Shared->Prop} (ho:s.heap.get? it=some o) (hc:o.cls=.type n) (hd:o.data=.fields vs)
    (hn:["enumerate","zip","dict_itemiterator","dict_reverseitemiterator","odict_iterator","itertools.zip_longest","itertools.pairwise"].contains n=false) (hQ:Q () s):wpAny M A (letOwnedTupleGo tg (.ref it) u) Q E s:=by
  unfold letOwnedTupleGo
  cases tg<;>first
    | exact wpAny_pure hQ
    | (cases u<;>first
        | exact wpAny_pure hQ
        | (refine wpAny_bind (wpAny_load ho ?_)
           rw [hc,hd]
           show wpAny M A (if (["enumerate","zip","dict_itemiterator","dict_reverseitemiterator","odict_iterator","itertools.zip_longest","itertools.pairwise"].contains n&&vs[0]?==some (rawInt _))=true then _ else _) Q E s
           rw [if_neg (by intro h;rw [hn,jc] at h;cases h)]
           exact wpAny_pure hQ))
def Uj (K:ab) (a:Addr):It:=
 ⟨fun i H=>∃ xs x,bO K H a xs/\xs[i]?=some x,fun i H x H'=>H'=H/\∀ xs,bO K H a xs->xs[i]?=some x,fun i H=>∃ xs,bO K H a xs/\xs.length<=i⟩
def Itt (K:ab) (a:Addr):It:=
 ⟨fun i H=>∃ xs x,oX K H a xs/\xs[i]?=some x,fun i H x H'=>H'=H/\∀ xs,oX K H a xs->xs[i]?=some x,fun i H=>∃ xs,oX K H a xs/\xs.length<=i⟩
def WD (lo:Int) (n:Nat):It:=⟨fun i _=>i<n,fun i H x H'=>H'=H/\x=.int (lo+i),fun i _=>n<=i⟩
theorem Sh {P:Program} {w:World} {K:ab} {tg:Expr} (a it:Addr):Turn P w K tg (Uj K a) [it] it (fun i h=>h.IsListIter it a i) where
 mem:=by simp
 obj:=fun i h st b hb=>by
  have e:b=it:=by simpa using hb
  subst e
  obtain ⟨o,e,c,d⟩:=st
  exact ⟨o,e,fun v z=>by rw [d] at z;cases z⟩
 keep:=fun i h h' st k=>st.at fun o e=>k it (by simp) o e
 item:=by
  intro X hP hw hK hc i pins s σ H E I hf st hg
  subst hP hw hK
  obtain ⟨xs,x,hq,hx⟩:=hg
  obtain ⟨cq,rv,p,hz⟩:=I.list hq
  obtain ⟨u,hu,ru⟩:=rv.get hx
  obtain ⟨f0,f1,f2,f3,f4,f5⟩:=hf it (by simp)
  refine wpAny_pyNext_list_item st p.isList (x:=u) (by simpa using hu) fun h' Cs sb=>?_
  have I1:Inv X pins σ H { s with heap:=h' }:=I.turned (t':=s.toks) (fun b o hb e=>(sb.2 b hb).trans e) f0 f1 f3 f4 f5
  obtain ⟨o,e,c,d⟩:=id Cs
  exact ⟨u,rfl,Fn (s:={ s with heap:=h' }) e c d (by decide) ⟨x,H,I1,ru,⟨rfl,fun ys hy=>by rw [I.Bs hy hq];exact hx⟩,Cs,fun b hb=>(hf b hb).1⟩⟩
 done:=by
  intro X hP hw hK hc i pins s σ H E I hf st hg
  subst hP hw hK
  obtain ⟨xs,hq,hx⟩:=hg
  obtain ⟨cq,rv,p,hz⟩:=I.list hq
  obtain ⟨f0,f1,f2,f3,f4,f5⟩:=hf it (by simp)
  have hl:=rv.length
  exact wpAny_pyNext_list_end (I.ok.hd hc) st p.isList (by simp;omega) fun h' eb=>⟨rfl,I.turned (t':=s.toks) (fun b o hb e=>eb b o hb e) f0 f1 f3 f4 f5⟩
 self:=fun _ _ _ _ _ st h=>wpAny_pyIter_listiter st h
theorem PB {P:Program} {w:World} {K:ab} {tg:Expr} (a it:Addr):Turn P w K tg (Itt K a) [it] it (fun i h=>h.IsTupleIter it a i) where
 mem:=by simp
 obj:=fun i h st b hb=>by
  have e:b=it:=by simpa using hb
  subst e
  obtain ⟨o,e,c,d⟩:=st
  exact ⟨o,e,fun v z=>by rw [d] at z;cases z⟩
 keep:=fun i h h' st k=>st.at fun o e=>k it (by simp) o e
 item:=by
  intro X hP hw hK hc i pins s σ H E I hf st hg
  subst hP hw hK
  obtain ⟨xs,x,hq,hx⟩:=hg
  obtain ⟨cq,rv,p,hz⟩:=I.tuple hq
  obtain ⟨u,hu,ru⟩:=rv.get hx
  obtain ⟨f0,f1,f2,f3,f4,f5⟩:=hf it (by simp)
  refine wpAny_pyNext_tuple_item st (show s.heap.IsTuple a cq.toArray from p) (x:=u) (by simpa using hu) fun h' Cs sb=>?_
  have I1:Inv X pins σ H { s with heap:=h' }:=I.turned (t':=s.toks) (fun b o hb e=>(sb.2 b hb).trans e) f0 f1 f3 f4 f5
  obtain ⟨o,e,c,d⟩:=id Cs
  exact ⟨u,rfl,Fn (s:={ s with heap:=h' }) e c d (by decide) ⟨x,H,I1,ru,⟨rfl,fun ys hy=>by rw [I.Sg hy hq];exact hx⟩,Cs,fun b hb=>(hf b hb).1⟩⟩
 done:=by
  intro X hP hw hK hc i pins s σ H E I hf st hg
  subst hP hw hK
  obtain ⟨xs,hq,hx⟩:=hg
  obtain ⟨cq,rv,p,hz⟩:=I.tuple hq
  obtain ⟨f0,f1,f2,f3,f4,f5⟩:=hf it (by simp)
  have hl:=rv.length
  exact wpAny_pyNext_tuple_end (I.ok.hd hc) st (show s.heap.IsTuple a cq.toArray from p) (by simp;omega) fun h' eb=>⟨rfl,I.turned (t':=s.toks) (fun b o hb e=>eb b o hb e) f0 f1 f3 f4 f5⟩
 self:=fun _ _ _ _ _ st h=>wpAny_pyIter_tupleiter st h
theorem PD {P:Program} {w:World} {K:ab} {tg:Expr} (it:Addr) (lo:Int) (n:Nat):Turn P w K tg (WD lo n) [it] it (fun i h=>IsRangeIter h it (lo+(i:Nat)*1) ((n:Int) - (i:Nat)) 1) where
 mem:=by simp
 obj:=fun i h st b hb=>by
  have e:b=it:=by simpa using hb
  subst e
  exact ⟨_,st,fun v z=>by
   have z':Data.fields _=Data.cell v:=z
   cases z'⟩
 keep:=fun i h h' st k=>k it (by simp) _ st
 item:=by
  intro X hP hw hK hc i pins s σ H E I hf st hg
  subst hP hw hK
  obtain ⟨f0,f1,f2,f3,f4,f5⟩:=hf it (by simp)
  have W:=Walks.range (prog:=X.prog) (w:=X.w) (I.ok.hd hc) it lo 1 n
  refine W.item i s _ _ hg st fun v h' tk hv Cs kk=>?_
  obtain ⟨t,rfl⟩:=hv
  have I1:Inv X pins σ H { s with heap:=h',toks:=tk }:=I.turned (fun b o hb e=>kk b o (by simpa using hb) e) f0 f1 f3 f4 f5
  refine ⟨_,rfl,Fn (s:={ s with heap:=h',toks:=tk }) (n:="range_iterator") Cs rfl rfl (by decide) ⟨.int (lo+i),H,I1,⟨t,?_⟩,⟨rfl,rfl⟩,Cs,fun b hb=>(hf b hb).1⟩⟩
  rw [Int.mul_one]
 done:=by
  intro X hP hw hK hc i pins s σ H E I hf st hg
  subst hP hw hK
  obtain ⟨f0,f1,f2,f3,f4,f5⟩:=hf it (by simp)
  exact wpAny_pyNext_range_end (I.ok.hd hc) st (by have:n<=i:=hg;omega) fun h' eb=>⟨rfl,I.turned (t':=s.toks) (fun b o hb e=>eb b o hb e) f0 f1 f3 f4 f5⟩
 self:=fun _ _ _ _ _ st h=>wpAny_pyIter_rangeiter st h
section
variable {X:Cx} {tg:Expr}
def abR (K:ab) (tl:TE):TI:=fun σ H R=>tl σ H fun x H1=>∃ a,x=.ref a/\(∃ xs,bO K H1 a xs)/\R (Uj K a) H1
def afd (K:ab) (tl:TE):TI:=fun σ H R=>tl σ H fun x H1=>∃ a,x=.ref a/\(∃ xs,oX K H1 a xs)/\R (Itt K a) H1
theorem fv {l:Expr} {tl:TE} (hl:PE X l tl):PI X tg l (abR X.K tl):=by
 intro pins s σ H R I h
 refine f9 (hl pins s σ H _ I h) fun v s1 ⟨x,H1,I1,r1,q1⟩=>?_
 obtain ⟨a,e,⟨xs,hq⟩,q⟩:=q1
 subst e
 cases r1
 obtain ⟨cq,rv,p,hz⟩:=I1.list hq
 refine wpAny_pyIter_list p.isList ?_
 refine ⟨s1.heap.objs.size,[s1.heap.objs.size],_,_,H1,rfl,I1.kept (t':=s1.toks) fun b o e=>aA _ e,Sh a _,⟨_,aQ _ rfl,rfl,rfl⟩,fun b hb=>?_,q⟩
 have e:b=s1.heap.objs.size:=by simpa using hb
 subst e
 exact I1.J8 (au _) (I1.cU.fresh (au _))
theorem Uk {l:Expr} {tl:TE} (hl:PE X l tl):PI X tg l (afd X.K tl):=by
 intro pins s σ H R I h
 refine f9 (hl pins s σ H _ I h) fun v s1 ⟨x,H1,I1,r1,q1⟩=>?_
 obtain ⟨a,e,⟨xs,hq⟩,q⟩:=q1
 subst e
 cases r1
 obtain ⟨cq,rv,p,hz⟩:=I1.tuple hq
 refine wpAny_pyIter_tuple (show s1.heap.IsTuple a cq.toArray from p) ?_
 refine ⟨s1.heap.objs.size,[s1.heap.objs.size],_,_,H1,rfl,I1.kept (t':=s1.toks) fun b o e=>aA _ e,PB a _,⟨_,aQ _ rfl,rfl,rfl⟩,fun b hb=>?_,q⟩
 have e:b=s1.heap.objs.size:=by simpa using hb
 subst e
 exact I1.J8 (au _) (I1.cU.fresh (au _))
theorem MU {pins:List (Addr×Obj)} {σ:St} {H:Hp} {s:Shared} {R:It->Hp->Prop} {E:Value->Shared->Prop} {lo hi:Int} {t u v:Tok} {tk:Nat} (I:Inv X pins σ H s) (h1:-(2 ^ 62)<=lo) (h2:lo<2 ^ 62) (h3:-(2 ^ 62)<=hi) (h4:hi<2 ^ 62)
  (q:R (WD lo (hi - lo).toNat) H):wpAny (model X.prog X.w) X.A (pyIter (.ref s.heap.objs.size)) (PIE X pins σ tg R) E { s with heap:=s.heap.push { cls:=.type "range",data:=.fields #[.int lo t,.int hi u,.int 1 v] },toks:=tk }:=by
 refine wpAny_pyIter_range (IsRange.new ..) (small_one h1 h2 h3 h4) ?_
 have I1:Inv X pins σ H { s with heap:=s.heap.push { cls:=.type "range",data:=.fields #[.int lo t,.int hi u,.int 1 v] },toks:=tk }:=I.kept fun b o e=>aA _ e
 refine ⟨(s.heap.push { cls:=.type "range",data:=.fields #[.int lo t,.int hi u,.int 1 v] }).objs.size,[(s.heap.push { cls:=.type "range",data:=.fields #[.int lo t,.int hi u,.int 1 v] }).objs.size],_,_,H,rfl,
  I1.kept (t':=tk) fun b o e=>aA _ e,PD _ lo (hi - lo).toNat,?_,fun b hb=>?_,q⟩
 ·have e1:lo+((0:Nat):Int)*1=lo:=by simp
  have e2:(((hi - lo).toNat:Nat):Int) - ((0:Nat):Int)=Builtin.Range.rangeSize lo hi 1:=by rw [rangeSize_one];split<;>omega
  show IsRangeIter _ _ (lo+((0:Nat):Int)*1) ((((hi - lo).toNat:Nat):Int) - ((0:Nat):Int)) 1
  rw [e1,e2]
  exact aQ _ rfl
 ·have e:b=(s.heap.push { cls:=.type "range",data:=.fields #[.int lo t,.int hi u,.int 1 v] }).objs.size:=by simpa using hb
  subst e
  exact I1.J8 (au _) (I1.cU.fresh (au _))
def abS (ta:TA):TI:=fun σ H R=>ta σ H fun vs H1=>∃ j:Int,vs=[.int j]/\-(2 ^ 62)<=j/\j<2 ^ 62/\R (WD 0 j.toNat) H1
def abT (ta:TA):TI:=fun σ H R=>ta σ H fun vs H1=>∃ i j:Int,vs=[.int i,.int j]/\(-(2 ^ 62)<=i/\i<2 ^ 62/\-(2 ^ 62)<=j/\j<2 ^ 62)/\R (WD i (j - i).toNat) H1
theorem Cw {a:Expr} {ta:TA} {p pos:Pos} (hg:Gl X "range") (hm:X.mg "range"=none) (ha:PA X [a] ta) (hs:starEach [a] X.env=[(false,eval a X.env)]:=by rfl):PI X tg (.Call (.Name "range" p) [a] [] pos) (abS ta):=by
 intro pins s σ H R I h
 refine Call_ (tY I hg hm boot_range (PyProof.Rows.callWith_type1 (f9 (ha pos pins s σ H _ I h) fun us s1 ⟨vs,H1,I1,r1,q1⟩=>?_) hs rfl))
 obtain ⟨j,e,q1,q2,q⟩:=q1
 subst e
 cases r1 with
 | cons r rr=>
  cases rr
  obtain ⟨t,rfl⟩:=r
  exact call_range_1 (MU I1 (by omega) (by omega) q1 q2 (by simpa using q))
theorem uQ {a b:Expr} {ta:TA} {p pos:Pos} (hg:Gl X "range") (hm:X.mg "range"=none) (ha:PA X [a,b] ta) (hs:starEach [a,b] X.env=[(false,eval a X.env),(false,eval b X.env)]:=by rfl) (WE:starEach [b] X.env=[(false,eval b X.env)]:=by rfl):
  PI X tg (.Call (.Name "range" p) [a,b] [] pos) (abT ta):=by
 intro pins s σ H R I h
 refine Call_ (tY I hg hm boot_range (PyProof.Rows.callWith_type1 (f9 (ha pos pins s σ H _ I h) fun us s1 ⟨vs,H1,I1,r1,q1⟩=>?_) (by rw [hs,WE]) (by rw [WE];rfl)))
 obtain ⟨i,j,e,⟨q1,q2,q3,q4⟩,q⟩:=q1
 subst e
 cases r1 with
 | cons r rr=>
  cases rr with
  | cons r' rr=>
   cases rr
   obtain ⟨t,rfl⟩:=r
   obtain ⟨t',rfl⟩:=r'
   exact call_range_2 (MU I1 q1 q2 q3 q4 q)
def afe (wi:TI) (g:TG) (tb:TS):TS:=fun D σ H=>wi σ H fun J H1=>∃ W:Nat->Nat->St->Hp->Prop,(∃ m,W 0 m σ H1)/\∀ i m σ H,W i m σ H->
 (J.stop i H/\D.nx σ H)\/(J.go i H/\∃ N:St->Hp->Prop,(∀ f7 H',N f7 H'->∃ m',m'<m/\W (i+1) m' f7 H')/\∀ x H',J.Pz i H x H'->g x σ H' fun kH H2=>tb { D with nx:=N,ct:=N,bk:=D.nx } kH H2)
def Fo (fp:List Addr) (h:Heap):List (Addr×Obj):=fp.filterMap fun b=>(h.get? b).map fun o=>(b,o)
theorem Ak {fp:List Addr} {h:Heap} {b:Addr} {o:Obj} (hb:b∈fp) (e:h.get? b=some o):(b,o)∈Fo fp h:=List.mem_filterMap.mpr ⟨b,hb,by rw [e];rfl⟩
theorem Sj {fp:List Addr} {h:Heap} {p:Addr×Obj} (hp:p∈Fo fp h):p.1∈fp/\h.get? p.1=some p.2:=by
 obtain ⟨b,hb,e⟩:=List.mem_filterMap.mp hp
 cases q:h.get? b with
 | none=>rw [q] at e;cases e
 | some o=>
  rw [q] at e
  have e':(b,o)=p:=aj.inj e
  subst e'
  exact ⟨hb,q⟩
theorem Inv.pinned {pins:List (Addr×Obj)} {σ:St} {H:Hp} {s:Shared} {fp:List Addr} (I:Inv X pins σ H s) (hf:∀ b∈fp,Aj X pins H b) (ho:∀ b∈fp,∃ o,s.heap.get? b=some o/\∀ v,o.data≠.cell v):Inv X (pins++Fo fp s.heap) σ H s:=
 I.zp fun p hp=>(bS.mp hp).elim (fun z=>I.pin p (bq _ z)) fun z=>by
  obtain ⟨hb,e⟩:=Sj z
  obtain ⟨f0,f1,f2,_⟩:=hf p.1 hb
  obtain ⟨o,e',d⟩:=ho p.1 hb
  rw [e] at e';cases e'
  exact ⟨e,f0,f1,f2,d⟩
theorem Inv.Bt {pins pl:List (Addr×Obj)} {σ:St} {H:Hp} {s:Shared} (I:Inv X (pins++pl) σ H s):Inv X pins σ H s:=I.zp fun p hp=>I.pin p (bq _ (lE _ hp))
theorem gE {iter:Expr} {body:List Stmt} {wi:TI} {g:TG} {tb:TS} {pos:Pos} (hp:PassesOwn (model X.prog X.w) X.A X.env X.xe) (hc:X.calm=true) (hi:PI X tg iter wi) (hg:PG X tg g) (hb:Rm X body tb)
  (hs:∀ x,foldedSetIterable iter X.env x=pure x:=by intro _;rfl):PS X (.For tg iter body [] pos) (afe wi g tb):=by
 intro pins s σ H D I h
 refine wpAny_For (f9 (hi pins s σ H _ I h) fun v s1 h1=>f9 h1 fun itv s2 h2=>?_) hs
 obtain ⟨it,fp,tn,J,H2,e,I2,T,st2,f2,W,⟨m0,w0⟩,turn⟩:=h2
 subst e
 have PF:∀ {H':Hp},(∀ b∈fp,H' b=none)->∀ b∈fp,Aj X pins H' b:=fun hn b hb=>⟨hn b hb,(f2 b hb).2⟩
 refine codeAny_forLoop_any (fun n s'=>∃ i f7 H',Inv X pins f7 H' s'/\tn i s'.heap/\(∀ b∈fp,H' b=none)/\W i n f7 H') ?_ m0 ⟨0,σ,H2,I2,st2,fun b hb=>(f2 b hb).1,w0⟩
 rintro n s3 ⟨i,Ui,H3,I3,st3,fr3,w3⟩
 rcases turn i n Ui H3 w3 with ⟨stop,qn⟩ | ⟨go,N,hN,step⟩
 ·refine wpAny_passesOwn hp (f9 (T.done X rfl rfl rfl hc i pins s3 Ui H3 X.xe I3 (PF fr3) st3 stop) fun r s4 ⟨hr,I4⟩=>?_)
  subst hr
  exact wpAny_execs_nil ⟨Ui,H3,I4,qn⟩
 ·refine wpAny_passesOwn hp (f9 (T.item X rfl rfl rfl hc i pins s3 Ui H3 X.xe I3 (PF fr3) st3 go) fun r s4 ⟨u,hr,h4⟩=>?_)
  subst hr
  refine wpAny_passesOwn hp (f9 h4 fun _ s5 ⟨x,H5,I5,r5,y5,st5,fr5⟩=>?_)
  have I5':=I5.pinned (PF fr5) (T.obj _ _ st5)
  refine wpAny_passesOwn hp (f9 (hg _ s5 Ui H5 x u _ I5' r5 (step x H5 y5)) fun _ s6 ⟨σ6,H6,I6,q6⟩=>?_)
  refine wpAny_passesOwn hp (f9 (hb _ s6 σ6 H6 _ I6 q6) fun f s7 q7=>?_)
  have again:∀ {Ul:St} {H7:Hp},Inv X (pins++Fo fp s5.heap) Ul H7 s7->N Ul H7->∃ m,m<n/\∃ i f7 H',Inv X pins f7 H' s7/\tn i s7.heap/\(∀ b∈fp,H' b=none)/\W i m f7 H':=fun {Ul H7} I7 n7=>by
   obtain ⟨m',hm,w7⟩:=hN Ul H7 n7
   refine ⟨m',hm,i+1,Ul,H7,I7.Bt,T.keep _ _ _ st5 fun b hb o e=>(I7.pin (b,o) (bq _ (bq _ (Ak hb e)))).1,fun b hb=>?_,w7⟩
   obtain ⟨o,e,d⟩:=T.obj _ _ st5 b hb
   exact (I7.pin (b,o) (bq _ (bq _ (Ak hb e)))).2.1
  cases f with
  | next=>obtain ⟨Ul,H7,I7,n7⟩:=q7;exact again I7 n7
  | cont=>obtain ⟨Ul,H7,I7,n7⟩:=q7;exact again I7 n7
  | brk=>obtain ⟨Ul,H7,I7,q7⟩:=q7;exact ⟨Ul,H7,I7.Bt,q7⟩
  | ret v=>obtain ⟨x7,Ul,H7,I7,r7,q7⟩:=q7;exact ⟨x7,Ul,H7,I7.Bt,r7,q7⟩
end
theorem oo {K:ab} {a:Addr} {xs:List V} {g:TG} {tb:TS} {D:Ends} {σ:St} {H:Hp} (Pv:Nat->St->Hp->Prop) (h0:Pv 0 σ H) (hl:∀ i σ H,i<=xs.length->Pv i σ H->bO K H a xs)
  (hs:∀ i x σ H,xs[i]?=some x->let E:Ends:={ D with nx:=Pv (i+1),ct:=Pv (i+1),bk:=D.nx };Pv i σ H->g x σ H fun kH H2=>tb E kH H2) (hd:∀ σ H,Pv xs.length σ H->D.nx σ H):
  ∃ W:Nat->Nat->St->Hp->Prop,(∃ m,W 0 m σ H)/\∀ i m σ H,W i m σ H->
   ((Uj K a).stop i H/\D.nx σ H)\/((Uj K a).go i H/\∃ N:St->Hp->Prop,(∀ f7 H',N f7 H'->∃ m',m'<m/\W (i+1) m' f7 H')/\∀ x H',(Uj K a).Pz i H x H'->g x σ H' fun kH H2=>tb { D with nx:=N,ct:=N,bk:=D.nx } kH H2):=by
 refine ⟨fun i m σ H=>m=xs.length - i/\i<=xs.length/\Pv i σ H,⟨xs.length,by simp,a0 _,h0⟩,?_⟩
 rintro i m σ H ⟨rfl,hi,p⟩
 have q:=hl i σ H hi p
 by_cases iX:i<xs.length
 ·refine .inr ⟨⟨xs,xs[i],q,by simp [iX]⟩,Pv (i+1),fun f7 H' p'=>⟨xs.length - (i+1),by omega,rfl,iX,p'⟩,fun x H' y=>?_⟩
  obtain ⟨e,y⟩:=y
  subst e
  exact hs i x σ _ (y xs q) p
 ·have e:i=xs.length:=by omega
  subst e
  exact .inl ⟨⟨xs,q,au _⟩,hd σ H p⟩
theorem Rn {K:ab} {a:Addr} {xs:List V} {g:TG} {tb:TS} {D:Ends} {σ:St} {H:Hp} (Pv:Nat->St->Hp->Prop) (h0:Pv 0 σ H) (hl:∀ i σ H,i<=xs.length->Pv i σ H->oX K H a xs)
  (hs:∀ i x σ H,xs[i]?=some x->let E:Ends:={ D with nx:=Pv (i+1),ct:=Pv (i+1),bk:=D.nx };Pv i σ H->g x σ H fun kH H2=>tb E kH H2) (hd:∀ σ H,Pv xs.length σ H->D.nx σ H):
  ∃ W:Nat->Nat->St->Hp->Prop,(∃ m,W 0 m σ H)/\∀ i m σ H,W i m σ H->
   ((Itt K a).stop i H/\D.nx σ H)\/((Itt K a).go i H/\∃ N:St->Hp->Prop,(∀ f7 H',N f7 H'->∃ m',m'<m/\W (i+1) m' f7 H')/\∀ x H',(Itt K a).Pz i H x H'->g x σ H' fun kH H2=>tb { D with nx:=N,ct:=N,bk:=D.nx } kH H2):=by
 refine ⟨fun i m σ H=>m=xs.length - i/\i<=xs.length/\Pv i σ H,⟨xs.length,by simp,a0 _,h0⟩,?_⟩
 rintro i m σ H ⟨rfl,hi,p⟩
 have q:=hl i σ H hi p
 by_cases iX:i<xs.length
 ·refine .inr ⟨⟨xs,xs[i],q,by simp [iX]⟩,Pv (i+1),fun f7 H' p'=>⟨xs.length - (i+1),by omega,rfl,iX,p'⟩,fun x H' y=>?_⟩
  obtain ⟨e,y⟩:=y
  subst e
  exact hs i x σ _ (y xs q) p
 ·have e:i=xs.length:=by omega
  subst e
  exact .inl ⟨⟨xs,q,au _⟩,hd σ H p⟩
theorem nj {lo:Int} {n:Nat} {g:TG} {tb:TS} {D:Ends} {σ:St} {H:Hp} (Pv:Nat->St->Hp->Prop) (h0:Pv 0 σ H)
  (hs:∀ i σ H,i<n->let E:Ends:={ D with nx:=Pv (i+1),ct:=Pv (i+1),bk:=D.nx };Pv i σ H->g (.int (lo+i)) σ H fun kH H2=>tb E kH H2) (hd:∀ σ H,Pv n σ H->D.nx σ H):
  ∃ W:Nat->Nat->St->Hp->Prop,(∃ m,W 0 m σ H)/\∀ i m σ H,W i m σ H->
   ((WD lo n).stop i H/\D.nx σ H)\/((WD lo n).go i H/\∃ N:St->Hp->Prop,(∀ f7 H',N f7 H'->∃ m',m'<m/\W (i+1) m' f7 H')/\∀ x H',(WD lo n).Pz i H x H'->g x σ H' fun kH H2=>tb { D with nx:=N,ct:=N,bk:=D.nx } kH H2):=by
 refine ⟨fun i m σ H=>m=n - i/\i<=n/\Pv i σ H,⟨n,by simp,a0 _,h0⟩,?_⟩
 rintro i m σ H ⟨rfl,hi,p⟩
 by_cases iX:i<n
 ·refine .inr ⟨iX,Pv (i+1),fun f7 H' p'=>⟨n - (i+1),by omega,rfl,iX,p'⟩,fun x H' y=>?_⟩
  obtain ⟨e,y⟩:=y
  subst e y
  exact hs i σ _ iX p
 ·have e:i=n:=by omega
  subst e
  exact .inl ⟨au _,hd σ H p⟩
abbrev R2:=V->V->Hp->VK->Prop
def Ht (X:Cx) (f:Value->Value->Sem Value) (r:R2):Prop:=
 ∀ (pins:List (Addr×Obj)) (s:Shared) (σ:St) (H:Hp) (x y:V) (v u:Value) (Q:VK),Inv X pins σ H s->RelV x v->RelV y u->r x y H Q->
  wpAny (model X.prog X.w) X.A (f v u) (EP X pins σ Q) X.xe s
def UnR (X:Cx) (f:Value->Sem Value) (r:V->Hp->VK->Prop):Prop:=
 ∀ (pins:List (Addr×Obj)) (s:Shared) (σ:St) (H:Hp) (x:V) (v:Value) (Q:VK),Inv X pins σ H s->RelV x v->r x H Q->
  wpAny (model X.prog X.w) X.A (f v) (EP X pins σ Q) X.xe s
def r0 (X:Cx) (f:Value) (r:List V->Hp->VK->Prop):Prop:=
 ∀ (pins:List (Addr×Obj)) (s:Shared) (σ:St) (H:Hp) (xs:List V) (us:List Value) (Q:VK),Inv X pins σ H s->Vals xs us->r xs H Q->
  wpAny (model X.prog X.w) X.A (call f us) (EP X pins σ Q) X.xe s
def afg (X:Cx) (r:V->Hp->(Bool->Hp->Prop)->Prop):Prop:=
 ∀ (pins:List (Addr×Obj)) (s:Shared) (σ:St) (H:Hp) (x:V) (v:Value) (Q:Bool->Hp->Prop),Inv X pins σ H s->RelV x v->r x H Q->
  wpAny (model X.prog X.w) X.A (truthy v) (TP X pins σ Q) X.xe s
def TU (r:R2) (ta tb:TE):TE:=fun σ H Q=>ta σ H fun x H1=>tb σ H1 fun y H2=>r x y H2 Q
def tUn (r:V->Hp->VK->Prop) (ta:TE):TE:=fun σ H Q=>ta σ H fun x H1=>r x H1 Q
def rI (C:Int->Int->Prop) (g:Int->Int->V):R2:=fun x y H Q=>∃ i j,x=.int i/\y=.int j/\C i j/\Q (g i j) H
def Um (g:Int->Int->V):R2:=fun x y H Q=>∃ i j,x=.int i/\y=.int j/\Q (g i j) H
def rU (g:Int->V):V->Hp->VK->Prop:=fun x H Q=>∃ i,x=.int i/\Q (g i) H
section
variable {X:Cx} {a b c:Expr} {ta tb tc:TE} {pos:Pos}
theorem Zb (ha:PE X a ta) (hb:PE X b tb) {pins:List (Addr×Obj)} {s:Shared} {σ:St} {H:Hp} {R:V->V->Hp->Prop} (I:Inv X pins σ H s)
  (h:ta σ H fun x H1=>tb σ H1 fun y H2=>R x y H2) {Q:Value->Shared->Prop} {f:Value->Value->Sem Value}
  (hf:∀ v u s2 x y H2,Inv X pins σ H2 s2->RelV x v->RelV y u->R x y H2->wpAny (model X.prog X.w) X.A (f v u) Q X.xe s2):
  wpAny (model X.prog X.w) X.A (eval a X.env) (fun v cY=>wpAny (model X.prog X.w) X.A (eval b X.env) (fun u qA=>wpAny (model X.prog X.w) X.A (f v u) Q X.xe qA) X.xe cY) X.xe s:=by
 refine f9 (ha pins s σ H _ I h) fun v s1 ⟨x,H1,I1,r1,q1⟩=>?_
 refine f9 (hb pins s1 σ H1 _ I1 q1) fun u s2 ⟨y,H2,I2,r2,q2⟩=>?_
 exact hf v u s2 x y H2 I2 r1 r2 q2
theorem cB {op:Operator} {r:R2} (ho:Ht X (binaryOp op) r) (ha:PE X a ta) (hb:PE X b tb):PE X (.BinOp a op b pos) (TU r ta tb):=by
 intro pins s σ H Q I h
 exact wpAny_BinOp (Zb ha hb I h fun v u s2 x y H2 I2 rx ry q=>ho pins s2 σ H2 x y v u Q I2 rx ry q)
theorem Jd {op:UnaryOp} {r:V->Hp->VK->Prop} (ho:UnR X (unaryOp op) r) (ha:PE X a ta):PE X (.UnaryOp op a pos) (tUn r ta):=by
 intro pins s σ H Q I h
 exact UnaryOp_ (f9 (ha pins s σ H _ I h) fun v s1 ⟨x,H1,I1,r1,q1⟩=>ho pins s1 σ H1 x v Q I1 r1 q1)
theorem opI {f:Value->Value->Sem Value} {C:Int->Int->Prop} {g:Int->Int->Int}
  (rule:∀ (i j:Int) (t u:Tok) (s:Shared) (Q:Value->Shared->Prop) (E:Value->Shared->Prop),C i j->Q (.int (g i j) s.toks) { s with toks:=s.toks+1 }->wpAny (model X.prog X.w) X.A (f (.int i t) (.int j u)) Q E s):
  Ht X f (rI C fun i j=>.int (g i j)):=by
 intro pins s σ H x y v u Q I rx ry h
 obtain ⟨i,j,rfl,rfl,hc,q⟩:=h
 obtain ⟨t,rfl⟩:=rx
 obtain ⟨t',rfl⟩:=ry
 exact rule i j t t' s _ _ hc ⟨.int (g i j),H,I.tok _,⟨_,rfl⟩,q⟩
theorem abU {f:Value->Value->Sem Value} {g:Int->Int->Int}
  (rule:∀ (i j:Int) (t u:Tok) (s:Shared) (Q:Value->Shared->Prop) (E:Value->Shared->Prop),Q (.int (g i j) s.toks) { s with toks:=s.toks+1 }->wpAny (model X.prog X.w) X.A (f (.int i t) (.int j u)) Q E s):
  Ht X f (Um fun i j=>.int (g i j)):=by
 intro pins s σ H x y v u Q I rx ry h
 obtain ⟨i,j,rfl,rfl,q⟩:=h
 obtain ⟨t,rfl⟩:=rx
 obtain ⟨t',rfl⟩:=ry
 exact rule i j t t' s _ _ ⟨.int (g i j),H,I.tok _,⟨_,rfl⟩,q⟩
theorem WW {f:Value->Value->Sem Value} {g:Int->Int->Bool}
  (rule:∀ (i j:Int) (t u:Tok) (s:Shared) (Q:Value->Shared->Prop) (E:Value->Shared->Prop),Q (.bool (g i j)) s->wpAny (model X.prog X.w) X.A (f (.int i t) (.int j u)) Q E s):
  Ht X f (Um fun i j=>.bl (g i j)):=by
 intro pins s σ H x y v u Q I rx ry h
 obtain ⟨i,j,rfl,rfl,q⟩:=h
 obtain ⟨t,rfl⟩:=rx
 obtain ⟨t',rfl⟩:=ry
 exact rule i j t t' s _ _ ⟨.bl (g i j),H,I,rfl,q⟩
def afh (i j:Int):Prop:=0<j/\j<1073741824
def WX (i j:Int):Prop:=(-(2 ^ 64)<i/\i<2 ^ 64)\/(-(2 ^ 64)<j/\j<2 ^ 64)
theorem WX.ok {i j:Int} (h:WX i j):IntMulOk i j:=by
 rcases h with ⟨h1,h2⟩ | ⟨h1,h2⟩
 ·exact .of_left (intBits_le_64 h1 h2)
 ·exact .of_right (intBits_le_64 h1 h2)
theorem oq:Ht X (binaryOp .Add) (Um fun i j=>.int (i+j)):=abU fun _ _ _ _ _ _ _ q=>add_int q
theorem iE:Ht X (binaryOp .Sub) (Um fun i j=>.int (i - j)):=abU fun _ _ _ _ _ _ _ q=>sub_int q
theorem Cy:Ht X (binaryOp .Mult) (rI WX fun i j=>.int (i*j)):=opI fun _ _ _ _ _ _ _ hc q=>mul_int q hc.ok
theorem WY:Ht X (binaryOp .FloorDiv) (rI afh fun i j=>.int (i / j)):=opI fun i j _ _ _ _ _ hc q=>by
 have h1:(0:Int)<j:=hc.1
 have h2:j<1073741824:=hc.2
 exact floordiv_int (by omega) (by rw [Int.fdiv_eq_ediv_of_nonneg i (by omega)];exact q) (.inl (PyProof.noPylong_small (by omega)))
theorem unI {f:Value->Sem Value} {g:Int->Int}
  (rule:∀ (i:Int) (t:Tok) (s:Shared) (Q:Value->Shared->Prop) (E:Value->Shared->Prop),Q (.int (g i) s.toks) { s with toks:=s.toks+1 }->wpAny (model X.prog X.w) X.A (f (.int i t)) Q E s):
  UnR X f (rU fun i=>.int (g i)):=by
 intro pins s σ H x v Q I rx h
 obtain ⟨i,rfl,q⟩:=h
 obtain ⟨t,rfl⟩:=rx
 exact rule i t s _ _ ⟨.int (g i),H,I.tok _,⟨_,rfl⟩,q⟩
theorem Cz:UnR X (unaryOp .USub) (rU fun i=>.int (-i)):=unI fun _ _ _ _ _ q=>neg_int q
end
def abV:V->V->Bool
 | .jU,.jU=>true | .jU,.int _=>true | .int _,.jU=>true | .jU,.bl _=>true | .bl _,.jU=>true | .jU,.str _=>true | .str _,.jU=>true
 | .int _,.int _=>true | .bl _,.bl _=>true | .str _,.str _=>true | .J4 _,.J4 _=>true
 | .int _,.str _=>true | .str _,.int _=>true | .bl _,.str _=>true | .str _,.bl _=>true
 | _,_=>false
def rEq:R2:=fun x y H Q=>abV x y=true/\Q (.bl (decide (x=y))) H
def rNe:R2:=fun x y H Q=>abV x y=true/\Q (.bl (!decide (x=y))) H
theorem Ro {i j:Int}:decide (V.int i=V.int j)=(i==j):=by
 rw [mL]
 simp
theorem Uo {i j:Bool}:decide (V.bl i=V.bl j)=(i==j):=by
 rw [mL]
 simp
theorem Rp {i j:Str}:decide (V.str i=V.str j)=(i==j):=by
 rw [mL]
 simp
theorem Rq {i j:Array UInt8}:decide (V.J4 i=V.J4 j)=(i.toList==j.toList):=by
 rw [mL]
 cases i
 cases j
 simp
section
variable {X:Cx} {a b c:Expr} {ta tb tc:TE} {pos:Pos}
theorem eN {pins:List (Addr×Obj)} {σ:St} {H:Hp} {s:Shared} {Q:VK} {k k':Bool} (I:Inv X pins σ H s) (q:Q (.bl k) H) (e:k=k'):EP X pins σ Q (.bool k') s:=by
 subst e
 exact ⟨.bl k,H,I,rfl,q⟩
theorem gh:Ht X (compareOp .Eq) rEq:=by
 intro pins s σ H x y v u Q I rx ry h
 obtain ⟨hs,q⟩:=h
 cases x with
 | jU=>
  cases rx
  cases y with
  | jU=>cases ry;exact PySem.EqNone.eq_none_none (eN I q (by simp))
  | bl j=>cases ry;exact PySem.EqNone.eq_none_bool (eN I q (by simp))
  | int j=>obtain ⟨t',rfl⟩:=ry;exact PySem.EqNone.eq_none_int (eN I q (by simp))
  | str j=>obtain ⟨t',rfl⟩:=ry;exact PySem.EqNone.eq_none_str (eN I q (by simp))
  | _=>exact absurd (show false=true from hs) a6
 | bl i=>
  cases rx
  cases y with
  | jU=>cases ry;exact PySem.EqNone.eq_bool_none (eN I q (by simp))
  | bl j=>cases ry;exact eq_bool (eN I q Uo)
  | str j=>obtain ⟨t',rfl⟩:=ry;exact PySem.EqMixed.eq_bool_str (eN I q (by simp))
  | _=>exact absurd (show false=true from hs) a6
 | int i=>
  obtain ⟨t,rfl⟩:=rx
  cases y with
  | jU=>cases ry;exact PySem.EqNone.eq_int_none (eN I q (by simp))
  | int j=>obtain ⟨t',rfl⟩:=ry;exact eq_int (eN I q Ro)
  | str j=>obtain ⟨t',rfl⟩:=ry;exact PySem.EqMixed.eq_int_str (eN I q (by simp))
  | _=>exact absurd (show false=true from hs) a6
 | str i=>
  obtain ⟨t,rfl⟩:=rx
  cases y with
  | jU=>cases ry;exact PySem.EqNone.eq_str_none (eN I q (by simp))
  | bl j=>cases ry;exact PySem.EqMixed.eq_str_bool (eN I q (by simp))
  | int j=>obtain ⟨t',rfl⟩:=ry;exact PySem.EqMixed.eq_str_int (eN I q (by simp))
  | str j=>obtain ⟨t',rfl⟩:=ry;exact eq_str (eN I q Rp)
  | _=>exact absurd (show false=true from hs) a6
 | J4 i=>
  obtain ⟨t,rfl⟩:=rx
  cases y with
  | J4 j=>obtain ⟨t',rfl⟩:=ry;exact PySem.W.eq_bytes (eN I q Rq)
  | _=>exact absurd (show false=true from hs) a6
 | _=>cases y<;>exact absurd (show false=true from hs) a6
theorem uR:Ht X (compareOp .NotEq) rNe:=by
 intro pins s σ H x y v u Q I rx ry h
 obtain ⟨hs,q⟩:=h
 cases x with
 | jU=>
  cases rx
  cases y with
  | jU=>cases ry;exact PySem.EqNone.ne_none_none (eN I q (by simp))
  | bl j=>cases ry;exact PySem.EqNone.ne_none_bool (eN I q (by simp))
  | int j=>obtain ⟨t',rfl⟩:=ry;exact PySem.EqNone.ne_none_int (eN I q (by simp))
  | str j=>obtain ⟨t',rfl⟩:=ry;exact PySem.EqNone.ne_none_str (eN I q (by simp))
  | _=>exact absurd (show false=true from hs) a6
 | bl i=>
  cases rx
  cases y with
  | jU=>cases ry;exact PySem.EqNone.ne_bool_none (eN I q (by simp))
  | bl j=>cases ry;exact ne_bool (eN I q (congrArg not Uo))
  | str j=>obtain ⟨t',rfl⟩:=ry;exact PySem.EqMixed.ne_bool_str (eN I q (by simp))
  | _=>exact absurd (show false=true from hs) a6
 | int i=>
  obtain ⟨t,rfl⟩:=rx
  cases y with
  | jU=>cases ry;exact PySem.EqNone.ne_int_none (eN I q (by simp))
  | int j=>obtain ⟨t',rfl⟩:=ry;exact ne_int (eN I q (congrArg not Ro))
  | str j=>obtain ⟨t',rfl⟩:=ry;exact PySem.EqMixed.ne_int_str (eN I q (by simp))
  | _=>exact absurd (show false=true from hs) a6
 | str i=>
  obtain ⟨t,rfl⟩:=rx
  cases y with
  | jU=>cases ry;exact PySem.EqNone.ne_str_none (eN I q (by simp))
  | bl j=>cases ry;exact PySem.EqMixed.ne_str_bool (eN I q (by simp))
  | int j=>obtain ⟨t',rfl⟩:=ry;exact PySem.EqMixed.ne_str_int (eN I q (by simp))
  | str j=>obtain ⟨t',rfl⟩:=ry;exact ne_str (eN I q (congrArg not Rp))
  | _=>exact absurd (show false=true from hs) a6
 | J4 i=>
  obtain ⟨t,rfl⟩:=rx
  cases y with
  | J4 j=>obtain ⟨t',rfl⟩:=ry;exact PySem.W.ne_bytes (eN I q (congrArg not Rq))
  | _=>exact absurd (show false=true from hs) a6
 | _=>cases y<;>exact absurd (show false=true from hs) a6
theorem Je:Ht X (compareOp .Lt) (Um fun i j=>.bl (decide (i<j))):=WW fun _ _ _ _ _ _ _ q=>lt_int q
theorem Yq:Ht X (compareOp .LtE) (Um fun i j=>.bl (decide (i<=j))):=WW fun _ _ _ _ _ _ _ q=>le_int q
theorem Jf:Ht X (compareOp .Gt) (Um fun i j=>.bl (decide (j<i))):=WW fun _ _ _ _ _ _ _ q=>gt_int q
theorem Up:Ht X (compareOp .GtE) (Um fun i j=>.bl (decide (j<=i))):=WW fun _ _ _ _ _ _ _ q=>ge_int q
theorem bP (b:Expr) {op:CmpOp} (h:op≠.In:=by decide) (h2:op≠.NotIn:=by decide):behindInMarks op b=false:=by
 have e1:(op==CmpOp.In)=false:=by cases op<;>first | rfl | exact absurd rfl h
 have e2:(op==CmpOp.NotIn)=false:=by cases op<;>first | rfl | exact absurd rfl h2
 cases b<;>simp [behindInMarks,e1,e2]
theorem kx {op:CmpOp} {r:R2} (ho:Ht X (compareOp op) r) (ha:PE X a ta) (hb:PE X b tb) (hm:behindInMarks op b=false):PE X (.Compare a [op] [b] pos) (TU r ta tb):=by
 intro pins s σ H Q I h
 exact wpAny_Compare1 (Zb ha hb I h fun v u s2 x y H2 I2 rx ry q=>ho pins s2 σ H2 x y v u Q I2 rx ry q) hm
def abW (t:TE):TT:=fun σ H Q=>t σ H fun x H'=>∃ k,x=.bl k/\Q k H'
theorem bu {op:CmpOp} {r:R2} (ho:Ht X (compareOp op) r) (ha:PE X a ta) (hb:PE X b tb) (hm:behindInMarks op b=false):PT X (.Compare a [op] [b] pos) (abW (TU r ta tb)):=by
 intro pins s σ H Q I h
 refine wpAny_isTrue_Compare1 (f9 (ha pins s σ H _ I h) fun v s1 ⟨x,H1,I1,r1,q1⟩=>f9 (hb pins s1 σ H1 _ I1 q1) fun u s2 ⟨y,H2,I2,r2,q2⟩=>
  f9 (ho pins s2 σ H2 x y v u _ I2 r1 r2 q2) fun c s3 ⟨z,H3,I3,r3,k,e,q3⟩=>?_) hm
 subst e
 cases r3
 exact wpAny_truthy_bool ⟨H3,I3,q3⟩
def abX (K:ab) (x:V) (H:Hp) (k:Bool):Prop:=
 match x with
 | .jU=>k=false
 | .bl b=>k=b
 | .int i=>k=(i != 0)
 | .str y=>y.length<=sizeLine/\k=((y.length:Int) != 0)
 | .J4 y=>y.size<=sizeLine/\k=((y.size:Int) != 0)
 | .ref p=>(∃ xs,bO K H p xs/\k=!xs.isEmpty)\/(∃ xs,oX K H p xs/\k=!xs.isEmpty)\/∃ kvs,H p=some (.dK kvs)/\k=!kvs.isEmpty
 | _=>False
theorem PH {κ:Type} {kvs:List (κ×V)} {vs:List (κ×Value)} (r:KV kvs vs):(!vs.isEmpty)=!kvs.isEmpty:=by
 cases r<;>rfl
theorem Fp {xs:List V} {cq:List Value} (r:Vals xs cq):(!cq.toArray.isEmpty)=!xs.isEmpty:=by
 cases r<;>simp
theorem CA:(sizeLine:Nat)<2 ^ 63:=by rw [sizeLine_eq];decide
theorem Zc:afg X (fun x H Q=>∃ k,abX X.K x H k/\Q k H):=by
 intro pins s σ H x v Q I rx h
 obtain ⟨k,e,q⟩:=h
 have hl:=CA
 have hs:sizeLine=16777216:=sizeLine_eq
 cases x with
 | jU=>
  cases rx
  have e':k=false:=e
  subst e'
  exact truthy_none ⟨H,I,q⟩
 | bl b=>
  cases rx
  have e':k=b:=e
  subst e'
  exact wpAny_truthy_bool ⟨H,I,q⟩
 | int i=>
  obtain ⟨t,rfl⟩:=rx
  have e':k=(i != 0):=e
  subst e'
  exact PySem.P.truthy_int ⟨H,I,q⟩
 | str y=>
  obtain ⟨t,rfl⟩:=rx
  obtain ⟨hy,e'⟩:y.length<=sizeLine/\k=((y.length:Int) != 0):=e
  subst e'
  exact PySem.P.truthy_str (by omega) ⟨H,I.tok _,q⟩
 | J4 y=>
  obtain ⟨t,rfl⟩:=rx
  obtain ⟨hy,e'⟩:y.size<=sizeLine/\k=((y.size:Int) != 0):=e
  subst e'
  exact PySem.W.truthy_bytes (by omega) ⟨H,I.tok _,q⟩
 | ref p=>
  cases rx
  have e':(∃ xs,bO X.K H p xs/\k=!xs.isEmpty)\/(∃ xs,oX X.K H p xs/\k=!xs.isEmpty)\/∃ kvs,H p=some (.dK kvs)/\k=!kvs.isEmpty:=e
  rcases e' with ⟨xs,hx,e'⟩ | ⟨xs,hx,e'⟩ | ⟨kvs,hx,e'⟩
  ·subst e'
   obtain ⟨cq,r,pl,hz⟩:=I.list hx
   have hlen:=r.length
   exact wpAny_truthy_list pl.isList (by simp only [aU];omega) ⟨H,I.tok _,by rw [Fp r];exact q⟩
  ·subst e'
   obtain ⟨cq,r,pl,hz⟩:=I.tuple hx
   have hlen:=r.length
   exact truthy_tuple pl (by simp only [aU];omega) ⟨H,I.tok _,by rw [Fp r];exact q⟩
  ·subst e'
   obtain ⟨hz,hS,vs,r,m⟩:kvs.length<=sizeLine/\(p==sysModules)=false/\∃ vs,KV kvs vs/\s.heap.DictOf (dQ X.prog X.w) p vs:=I.cU p _ hx
   have hlen:kvs.length=vs.length:=Paired.length r
   exact wpAny_truthy_dict hS m (by omega) ⟨H,I.tok _,by rw [PH r];exact q⟩
 | _=>exact (show False from e).elim
theorem Fq (ha:PE X a ta) (he:∀ whole,isTrue a X.env whole=(do let v<-whole;standAt a.pos;holding [v] (truthy v))):
  PT X a (fun σ H Q=>ta σ H fun x H'=>∃ k,abX X.K x H' k/\Q k H'):=by
 intro pins s σ H Q I h
 exact isTrue_plain (f9 (ha pins s σ H _ I h) fun v s1 ⟨x,H1,I1,r1,q1⟩=>Zc pins s1 σ H1 x v Q I1 r1 q1) (he _)
theorem gF:Ht X (binaryOp .Add) (fun x y H Q=>∃ i j,x=.str i/\y=.str j/\i.length+j.length<=sizeLine/\Q (.str (i++j)) H):=by
 intro pins s σ H x y v u Q I rx ry h
 obtain ⟨i,j,rfl,rfl,hz,q⟩:=h
 obtain ⟨t,rfl⟩:=rx
 obtain ⟨t',rfl⟩:=ry
 exact add_str (fun t' tk=>⟨.str (i++j),H,I.tok _,⟨_,rfl⟩,q⟩) hz
theorem vals1 {x:V} {us:List Value} (r:Vals [x] us):∃ u,us=[u]/\RelV x u:=by
 cases r with
 | cons r1 r2=>cases r2;exact ⟨_,rfl,r1⟩
theorem vals2 {x y:V} {us:List Value} (r:Vals [x,y] us):∃ u w',us=[u,w']/\RelV x u/\RelV y w':=by
 cases r with
 | cons r1 r2=>
  cases r2 with
  | cons r3 r4=>cases r4;exact ⟨_,_,rfl,r1,r3⟩
theorem Sk (hc:X.calm=true):r0 X (.builtin "min") (fun xs H Q=>∃ i j,xs=[.int i,.int j]/\Q (.int (if j<i then j else i)) H):=by
 intro pins s σ H xs us Q I r h
 obtain ⟨i,j,rfl,q⟩:=h
 obtain ⟨u,w',rfl,⟨t,rfl⟩,⟨t',rfl⟩⟩:=vals2 r
 refine min_two_ints (I.ok.hd hc) fun h' tk k=>⟨_,H,I.kept k,?_,q⟩
 by_cases hj:j<i
 ·rw [if_pos hj,if_pos hj];exact ⟨_,rfl⟩
 ·rw [if_neg hj,if_neg hj];exact ⟨_,rfl⟩
theorem rC:r0 X (.type "str") (fun xs H Q=>∃ i,xs=[.int i]/\i.natAbs.log2<1920/\Q (.str (toString i)) H):=by
 intro pins s σ H xs us Q I r h
 obtain ⟨i,rfl,hz,q⟩:=h
 obtain ⟨u,rfl,t,rfl⟩:=vals1 r
 exact PySem.P.str_of_int hz ⟨.str _,H,I.tok _,⟨_,rfl⟩,q⟩
theorem MV:r0 X (.builtin "ord") (fun xs H Q=>∃ x,xs=[.str x]/\x.length=1/\Q (.int (x.cps.getD 0 0:Nat)) H):=by
 intro pins s σ H xs us Q I r h
 obtain ⟨x,rfl,hz,q⟩:=h
 obtain ⟨u,rfl,t,rfl⟩:=vals1 r
 exact ord_of_one hz ⟨.int _,H,I.tok _,⟨_,rfl⟩,q⟩
end
structure Sl (h:Heap) (x dx C:Addr) (mA:Str->Option Value):Prop where
 obj:h.get? x=some (fZ C dx)
 ns:h.Ns1 dx mA
 ne:dx≠x
theorem Sm {h:Heap} {dx:Addr} {mA:Str->Option Value} (n:h.Ns1 dx mA):∃ od,h.get? dx=some od/\∀ name,PySem.W.lookIn name od=some (mA name):=by
 obtain ⟨o,es,ep,ho,hd,hk,_,hm⟩:=n
 refine ⟨o,ho,fun name=>?_⟩
 have e:=hm name
 unfold nsFind findBy at e
 rw [<- Array.find?_toList] at e
 unfold PySem.W.lookIn
 rw [hd]
 dsimp only
 split
 ·rename_i y q
  rw [q] at e
  exact congrArg some e
 ·rename_i q
  rw [q] at e
  have a:es.toList.any (·.refKey)=false:=by
   rw [List.any_eq_false]
   intro y hy
   obtain ⟨z,t,Hz⟩:=hk y (Array.mem_toList_iff.mp hy)
   simp [DictEntry.refKey,Hz]
  have a':¬ es.toList.any (·.refKey)=true:=by rw [a];exact a6
  rw [if_neg a']
  exact congrArg some e
theorem Sl.look {h:Heap} {x dx C:Addr} {mA:Str->Option Value} (I:Sl h x dx C mA):∃ od,PySem.W.InstAt h x (fZ C dx) C (some od)/\∀ name,PySem.W.lookIn name od=some (mA name):=
 let ⟨od,ho,hl⟩:=Sm I.ns
 ⟨od,⟨I.obj,rfl,rfl,ho⟩,hl⟩
section
variable {prog:Program} {w:World} {A:Around} {E:Value->Shared->Prop} {s:Shared} {K:ab} {x dx C f:Addr} {mA:Str->Option Value} {name:Str} {v:Value}
theorem get_map {expr:Bool} {Q:Value->Shared->Prop} (X:K.In s.heap) (I:Sl s.heap x dx C mA) (hg:jd K C name=true) (hh:iw K C=true)
  (ha:br K (.ref C) name=some none) (hv:mA name=some v) (hv':PySem.W.handedIn v=true) (h:Q v { s with toks:=s.toks+1 }):
  wpAny (model prog w) A (getAttr (.ref x) name expr) Q E s:=by
 obtain ⟨od,J,hl⟩:=I.look
 exact PySem.W.get_value X J (PySem.W.plainGet_of hg).1 (PySem.W.findObj_own hh ha rfl (by rw [hl,hv])) hv' h
theorem WZ {ns:List Str} {Q:Unit->Shared->Prop} (X:K.In s.heap) (I:Sl s.heap x dx C mA)
  (hs:br K (.ref C) "__setattr__"=some (some (.builtin "object.__setattr__"))) (hp:kD K C=true) (ht:PySem.W.takerIn K C name=some none) (hh:iw K C=true)
  (hw:PySem.Within mA ns) (hsz:ns.length<=sizeLine)
  (h:∀ h',Sl h' x dx C (fun y=>if y=name then some v else mA y)->dk dx s.heap h'->Q () { s with heap:=h',toks:=s.toks+2 }):
  wpAny (model prog w) A (setAttr (.ref x) name v) Q E s:=by
 obtain ⟨od,J,hl⟩:=I.look
 refine PySem.W.set_plain X J hs (PySem.W.osa_open (s:={ s with toks:=s.toks+1 }) (r:=none) X J hp ht fun b=>?_)
 obtain ⟨cd,hc,Uc⟩:=PySem.W.any_some hh
 have hx:s.heap.get? x=some ⟨.ref C,some dx,.plain,#[]⟩:=I.obj
 refine wpAny_bind (wpAny_pure (wpAny_bind (wpAny_bind (wpAny_loadPart hx (wpAny_bind (PySem.W.Looks.here (s:={ s with toks:=s.toks+1 }) (PySem.W.looks_clsIn X hc) ?_))))))
 rw [Uc]
 refine wpAny_pure (a:=some dx) (wpAny_bind (wpAny_pure (wpAny_bind ?_)))
 refine wpAny_nsSet1 (s:={ s with toks:=s.toks+1 }) I.ns fun h' hn2 WE=>?_
 obtain ⟨oD,esD,epD,hoD,hdD,hcD⟩:=hn2.count (PySem.Within.cons name v hw)
 refine wpAny_bind (wpAny_lookBehind hoD (by rw [hdD];exact pastItsLine_dict (bB hcD (by rw [aq];omega))) ?_)
 exact wpAny_pure (h _ ⟨(WE.2 _ (Ne.symm I.ne)).trans I.obj,hn2,I.ne⟩ WE)
theorem Uq {R:Result->Shared->Prop} {vs:List Value} {kw:List (Str×Value)} (X:K.In s.heap) (hm:mM K C=true)
  (hi:br K (.ref C) "__init__"=some (some (.ref f))) (hf:PySem.W.typeIn K (.ref f)=some (.type "function"))
  (h:codeAny (model prog w) (A.under (.builtin "type.__call__" ⟨.ref C::vs,kw⟩)) (.call (.ref f) ⟨.ref (s.heap.objs.size+1)::vs,kw⟩) (PySem.W.InitBack (s.heap.objs.size+1) R)
   { s with heap:=(s.heap.push dJ).push (fZ C s.heap.objs.size) }):
  codeAny (model prog w) A (.call (.ref C) ⟨vs,kw⟩) R s:=by
 obtain ⟨hh,g,d,t,os⟩:=s
 exact PySem.W.make_core (PySem.W.makes_of X hm) (PySem.W.looks_findIn X hi) (fun self=>PySem.W.bind_fn X self hf) (.inl rfl) h
end
def ji (f:Str) (v:V):List (Str×V)->List (Str×V)
 | []=>[(f,v)]
 | (g,x)::r=>if g=f then (g,v)::r else (g,x)::ji f v r
theorem DP (f g:Str) (v:V):∀ fs:List (Str×V),(ji f v fs).lookup g=if g=f then some v else fs.lookup g
 | []=>by
  show gA g [(f,v)]=_
  by_cases h:g=f
  ·have hb:(g==f)=true:=beq_iff_eq.mpr h
   simp only [gA,hb,if_pos h]
  ·have hb:(g==f)=false:=beq_eq_false_iff_ne.mpr h
   simp only [gA,hb,if_neg h]
 | (k,x)::r=>by
  have ih:=DP f g v r
  rw [show ji f v ((k,x)::r)=(if k=f then (k,v)::r else (k,x)::ji f v r) from rfl]
  by_cases hk:k=f
  ·rw [if_pos hk]
   by_cases h:g=k
   ·have hb:(g==k)=true:=beq_iff_eq.mpr h
    simp only [gA,hb,if_pos (h.trans hk)]
   ·have hb:(g==k)=false:=beq_eq_false_iff_ne.mpr h
    simp only [gA,hb,if_neg (fun e:g=f=>h (e.trans hk.symm))]
  ·rw [if_neg hk]
   by_cases h:g=k
   ·have hb:(g==k)=true:=beq_iff_eq.mpr h
    simp only [gA,hb,if_neg (fun e:g=f=>hk (h.symm.trans e))]
   ·have hb:(g==k)=false:=beq_eq_false_iff_ne.mpr h
    simp only [gA,hb]
    exact ih
theorem CB (f:Str) (v:V):∀ fs:List (Str×V),f∈(ji f v fs).map (·.1)/\∀ g,g∈fs.map (·.1)->g∈(ji f v fs).map (·.1)
 | []=>⟨by simp [ji],fun g h=>by simp at h⟩
 | (k,x)::r=>by
  obtain ⟨i1,i2⟩:=CB f v r
  rw [show ji f v ((k,x)::r)=(if k=f then (k,v)::r else (k,x)::ji f v r) from rfl]
  by_cases hk:k=f
  ·rw [if_pos hk]
   subst hk
   exact ⟨by simp,fun g h=>by simpa using h⟩
  ·rw [if_neg hk]
   refine ⟨?_,fun g h=>?_⟩
   ·rw [aC]
    exact ba _ i1
   ·rw [aC] at h ⊢
    rcases aw.mp h with e | e
    ·exact aw.mpr (.inl e)
    ·exact ba _ (i2 g e)
theorem DQ (f:Str) (v:V):∀ fs:List (Str×V),(ji f v fs).length<=fs.length+1
 | []=>by simp [ji]
 | (k,x)::r=>by
  have ih:=DQ f v r
  rw [show ji f v ((k,x)::r)=(if k=f then (k,v)::r else (k,x)::ji f v r) from rfl]
  by_cases hk:k=f
  ·rw [if_pos hk,aq,aq];omega
  ·rw [if_neg hk,aq,aq];omega
theorem Ct.some_of {v:V} {o:Option Value} (r:Ct (some v) o):∃ u,o=some u/\RelV v u:=by
 cases o with
 | none=>exact (show False from r).elim
 | some u=>exact ⟨u,rfl,r⟩
theorem Sn {v:V} {u:Value} (r:RelV v u):PySem.W.handedIn u=true:=by
 cases v with
 | jU=>cases (show u=Value.none from r);rfl
 | bl b=>cases (show u=Value.bool b from r);rfl
 | int i=>obtain ⟨t,e⟩:=(show ∃ t,u=Value.int i t from r);cases e;rfl
 | str x=>obtain ⟨t,e⟩:=(show ∃ t,u=Value.str x t from r);cases e;rfl
 | J4 b=>obtain ⟨t,e⟩:=(show ∃ t,u=Value.bytes b t from r);cases e;rfl
 | Y1 b=>obtain ⟨t,e⟩:=(show ∃ t,u=Value.float b t from r);cases e;rfl
 | ref a=>cases (show u=Value.ref a from r);rfl
 | ty n=>cases (show u=Value.type n from r);rfl
section
variable {P:Program} {w:World} {H H':Hp} {h h':Heap} {a C dx:Addr} {fs fs':List (Str×V)}
theorem Rr (cU:w8 P w H h) (e:H a=some (.ins C dx fs)):∃ mA,Sl h a dx C mA/\(∀ f,Ct (fs.lookup f) (mA f))/\PySem.Within mA (fs.map (·.1))/\fs.length<=1000/\H dx=some (.own a):=by
 obtain ⟨d,z,ne,ob,mA,n,r,q⟩:=(show f6 P w H h a (.ins C dx fs) from cU a _ e)
 exact ⟨mA,⟨ob,n,ne⟩,r,q,z,d⟩
end
structure So (K:ab) (C:Addr):Prop where
 pg:jd K C Str.empty=true
 hd:iw K C=true
 po:kD K C=true
 sa:br K (.ref C) "__setattr__"=some (some (.builtin "object.__setattr__"))
theorem So.get {K:ab} {C:Addr} (c:So K C) (f:Str):jd K C f=true:=c.pg
def iF (K:ab) (C:Addr) (f:Str):Prop:=br K (.ref C) f=some none
theorem iF.abY {K:ab} {C:Addr} {f:Str} (n:iF K C f):PySem.W.takerIn K C f=some none:=by
 unfold PySem.W.takerIn
 rw [show br K (.ref C) f=some none from n]
 rfl
structure Con (K:ab) (C:Addr) (f:Str) (v:V) (u:Value):Prop where
 at_:br K (.ref C) f=some (some u)
 rel:RelV v u
 get:PySem.W.specialIn K u "__get__"=some none
 cp:PySem.W.copiedNames.contains f=false
structure Meth (K:ab) (C:Addr) (m:Str) (f:Addr):Prop where
 at_:br K (.ref C) m=some (some (.ref f))
 fn:rN K (.ref f)=true
 kp:c6 K (.ref f)=true
section
variable {X:Cx} {pins:List (Addr×Obj)} {σ:St} {H:Hp} {s:Shared} {a C dx:Addr} {fs:List (Str×V)} {f:Str} {v:V} {A:Around} {E:Value->Shared->Prop}
theorem Fs {b:Bool} {Q:Value->Shared->Prop} (I:Inv X pins σ H s) (e:H a=some (.ins C dx fs)) (c:So X.K C) (n:iF X.K C f) (l:fs.lookup f=some v)
  (h:∀ u s',Inv X pins σ H s'->RelV v u->Q u s'):wpAny (model X.prog X.w) A (getAttr (.ref a) f b) Q E s:=by
 obtain ⟨mA,O,r,_,_,_⟩:=Rr I.cU e
 obtain ⟨u,hu,ru⟩:=Ct.some_of (v:=v) (o:=mA f) (by rw [<- l];exact r f)
 exact get_map I.MP O (c.get f) c.hd n hu (Sn ru) (h u _ (I.tok _) ru)
theorem Ft {y:V} {u:Value} {Q:Unit->Shared->Prop} (I:Inv X pins σ H s) (e:H a=some (.ins C dx fs)) (c:So X.K C) (n:iF X.K C f) (hl:fs.length<1000) (ry:RelV y u)
  (h:∀ s',Inv X pins σ (upd H a (.ins C dx (ji f y fs))) s'->Q () s'):wpAny (model X.prog X.w) A (setAttr (.ref a) f u) Q E s:=by
 obtain ⟨mA,O,r,wi,_,ho⟩:=Rr I.cU e
 have hz:(fs.map (·.1)).length<=sizeLine:=by rw [U,sizeLine_eq];omega
 refine WZ I.MP O c.sa c.po n.abY c.hd wi hz fun h' O' sb=>h _ ?_
 have hd:∃ o,h'.get? dx=some o:=let ⟨o,_,_,e',_⟩:=O'.ns;⟨o,e'⟩
 refine I.write (x:=a) (e:=dx) (by rw [e];exact True.intro) (.inr ho) (fun b q hb z=>(sb.2 b hb).trans z) hd ?_
 refine ⟨by rw [aD O.ne];exact ho,?_,O.ne,O'.obj,_,O'.ns,fun g=>?_,fun g hg=>?_⟩
 ·have:=DQ f y fs;omega
 ·show Ct ((ji f y fs).lookup g) (if g=f then some u else mA g)
  rw [DP]
  by_cases q:g=f
  ·rw [if_pos q,if_pos q];exact ry
  ·rw [if_neg q,if_neg q];exact r g
 ·by_cases q:g=f
  ·rw [q];exact (CB f y fs).1
  ·refine (CB f y fs).2 g (wi g fun z=>hg ?_)
   show (if g=f then some u else mA g)=none
   rw [if_neg q];exact z
theorem Inv.made (I:Inv X pins σ H s):Inv X pins σ (upd (upd H s.heap.objs.size (.own (s.heap.objs.size+1))) (s.heap.objs.size+1) (.ins C s.heap.objs.size []))
  { s with heap:=(s.heap.push dJ).push (fZ C s.heap.objs.size) }:=by
 have e1:(s.heap.push dJ).get? s.heap.objs.size=some dJ:=aQ s.heap rfl
 have e2:((s.heap.push dJ).push (fZ C s.heap.objs.size)).get? (s.heap.objs.size+1)=some (fZ C s.heap.objs.size):=by
  have:=aQ (s.heap.push dJ) (o:=fZ C s.heap.objs.size) rfl
  rwa [cR] at this
 have e3:(s.heap.push dJ).Ns s.heap.objs.size (fun _=>none):=⟨dJ,#[],_,e1,rfl,(fun e he=>absurd he (by simp)),fun _=>rfl⟩
 have I1:=I.laid (a:=s.heap.objs.size) (o:=.own (s.heap.objs.size+1)) (h':=s.heap.push dJ) (t':=s.toks) (fun b u q=>aA _ q) (au _) ⟨_,e1⟩
 refine I1.laid (a:=s.heap.objs.size+1) (o:=.ins C s.heap.objs.size []) (t':=s.toks) (fun b u q=>aA _ q) (Nat.le_of_eq (cR _ _)) ?_
 have ne:s.heap.objs.size≠s.heap.objs.size+1:=cj (Nat.lt_succ_self _)
 refine ⟨by rw [aD ne,ae],a0 _,ne,e2,fun _=>none,(Heap.Ns1.of_empty e3).at fun o q=>aA _ q,fun _=>True.intro,fun y hy=>absurd rfl hy⟩
theorem W0 {prog:Program} {w:World} {env:Env} {e:Expr} {f:Str} {pos:Pos} {s:Shared} {Q:Value->Shared->Prop} (hb:attributeBase e f env (eval e env)=eval e env)
  (h:wpAny (model prog w) A (eval e env) (fun o cY=>wpAny (model prog w) A (getAttr o f true) Q E cY) E s):wpAny (model prog w) A (eval (.Attribute e f pos) env) Q E s:=
 Attribute_any_ h (by rw [arm_eval_Attribute,hb])
end
def abZ (K:ab) (ta:TE) (f:Str):TE:=fun σ H Q=>ta σ H fun x H1=>∃ a C dx fs v,x=.ref a/\H1 a=some (.ins C dx fs)/\So K C/\iF K C f/\fs.lookup f=some v/\Q v H1
def afi (K:ab) (ta tv:TE) (f:Str):TS:=fun D σ H=>tv σ H fun y H1=>ta σ H1 fun x H2=>∃ a C dx fs,x=.ref a/\H2 a=some (.ins C dx fs)/\So K C/\iF K C f/\fs.length<1000/\
 D.nx σ (upd H2 a (.ins C dx (ji f y fs)))
def ab0 (X:Cx) (op:Operator) (rd:V->V->Hp->VK->Prop):Prop:=
 ∀ (pins:List (Addr×Obj)) (s:Shared) (σ:St) (H:Hp) (x y:V) (u v:Value) (Q:VK),Inv X pins σ H s->RelV x u->RelV y v->rd x y H Q->wpAny (model X.prog X.w) X.A (inplaceOp op u v) (EP X pins σ Q) X.xe s
def W2 (K:ab) (ta tv:TE) (rd:V->V->Hp->VK->Prop) (f:Str):TS:=fun D σ H=>ta σ H fun x H1=>∃ a C dx fs v,x=.ref a/\H1 a=some (.ins C dx fs)/\So K C/\iF K C f/\fs.lookup f=some v/\
 tv σ H1 fun y H2=>rd v y H2 fun z H3=>∃ dx' fs',H3 a=some (.ins C dx' fs')/\fs'.length<1000/\D.nx σ (upd H3 a (.ins C dx' (ji f z fs')))
section
variable {X:Cx} {o e value:Expr} {f:Str} {pos pos' HA:Pos} {ta tv:TE}
theorem bb (he:PE X e ta) (hb:attributeBase e f X.env (eval e X.env)=eval e X.env):PE X (.Attribute e f pos) (abZ X.K ta f):=by
 intro pins s σ H Q I h
 refine W0 hb (f9 (he pins s σ H _ I h) fun u s1 ⟨x,H1,I1,rx,a,C,dx,fs,v,ex,ea,c,n,l,q⟩=>?_)
 subst ex
 obtain rfl:u=Value.ref a:=rx
 exact Fs I1 ea c n l fun u' s2 I2 ru=>⟨v,H1,I2,ru,q⟩
theorem dY (ha:PE X o ta) (hv:PE X value tv) (hs:swapsWith value (some (.Attribute o f pos')) pos.line X.env=pure false):PS X (.Assign [.Attribute o f pos'] value pos) (afi X.K ta tv f):=by
 intro pins s σ H D I h
 refine plainObj_wpAny_Assign_Attribute (f9 (hv pins s σ H _ I h) fun u s1 ⟨y,H1,I1,ry,q⟩=>f9 (ha pins s1 σ H1 _ I1 q) fun ov s2 ⟨x,H2,I2,rx,a,C,dx,fs,ex,ea,c,n,l,q2⟩=>?_) hs
 subst ex
 obtain rfl:ov=Value.ref a:=rx
 exact Ft I2 ea c n l ry fun s3 I3=>⟨σ,_,I3,q2⟩
theorem Sq {op:Operator} {rd:V->V->Hp->VK->Prop} (ha:PE X o ta) (hv:PE X value tv) (hop:ab0 X op rd):PS X (.AugAssign (.Attribute o f HA) op value pos) (W2 X.K ta tv rd f):=by
 intro pins s σ H D I h
 refine wpAny_AugAssign_AttributeAny (f9 (ha pins s σ H _ I h) fun ov s1 ⟨x,H1,I1,rx,a,C,dx,fs,v,ex,ea,c,n,l,q⟩=>?_)
 subst ex
 obtain rfl:ov=Value.ref a:=rx
 refine Fs I1 ea c n l fun u s2 I2 ru=>f9 (hv pins s2 σ H1 _ I2 q) fun w3 s3 ⟨y,H2,I3,ry,q3⟩=>f9 (hop pins s3 σ H2 v y u w3 _ I3 ru ry q3) fun w4 s4 ⟨z,H3,I4,rz,dx',fs',ea',l',q4⟩=>?_
 exact Ft I4 ea' c n l' rz fun s5 I5=>⟨σ,_,I5,q4⟩
def afk:V->V->Hp->VK->Prop:=fun x y H Q=>∃ i j,x=.int i/\y=.int j/\Q (.int (i - j)) H
theorem Zd:ab0 X .Sub afk:=by
 rintro pins s σ H x y u v Q I rx ry ⟨i,j,rfl,rfl,q⟩
 obtain ⟨t,rfl⟩:=(show ∃ t,u=Value.int i t from rx)
 obtain ⟨t',rfl⟩:=(show ∃ t',v=Value.int j t' from ry)
 exact PyProof.Rows.isub_int ⟨.int (i - j),H,I.tok _,⟨_,rfl⟩,q⟩
end
section
variable {X:Cx} {pins:List (Addr×Obj)} {σ:St} {H:Hp} {s:Shared} {A:Around} {E:Value->Shared->Prop} {Q:Value->Shared->Prop} {c:Value} {b:Bool}
inductive Fu (K:ab) (H:Hp):V->Value->Prop where
 | jU:Fu K H .jU (.type "NoneType")
 | bl (x:Bool):Fu K H (.bl x) (.type "bool")
 | int (i:Int):Fu K H (.int i) (.type "int")
 | str (x:Str):Fu K H (.str x) (.type "str")
 | Y1 (x:UInt64):Fu K H (.Y1 x) (.type "float")
 | lst {a:Addr} {xs:List V} (e:H a=some (.lst xs)):Fu K H (.ref a) (.type "list")
 | oW {a:Addr} {o:Obj} {xs:List V} (e:H a=some (.oW o (.lst xs))):Fu K H (.ref a) (.type "list")
 | tup {a:Addr} {xs:List V} (e:H a=some (.tup xs)):Fu K H (.ref a) (.type "tuple")
 | dK {a:Addr} {kvs:List (Key×V)} (e:H a=some (.dK kvs)):Fu K H (.ref a) (.type "dict")
 | dT {a:Addr} {kvs:List (List Key×V)} (e:H a=some (.dT kvs)):Fu K H (.ref a) (.type "dict")
 | ins {a C dx:Addr} {fs:List (Str×V)} (e:H a=some (.ins C dx fs)) (cl:So K C) (ha:br K (.ref C) "__class__"=some (some (.builtin "object.__class__")))
   (hn:PySem.W.specialIn K (.builtin "object.__class__") "__get__"=some (some (.builtin "getset_descriptor.__get__"))) (htk:PySem.W.takesIn K (.builtin "object.__class__")=some true)
   (hm:PySem.W.mroIn K C (.type "object")=some true):Fu K H (.ref a) (.ref C)
end
structure kE (k:Nat) (A:Around):Prop where
 hd:A.handled=none
 dp:A.depth+3*k+5<recursionLimit
 un:A.units+16*k+200<cLine
theorem kE.mono {j k:Nat} {A:Around} (r:kE k A) (h:j<=k):kE j A:=⟨r.hd,by have:=r.dp;omega,by have:=r.un;omega⟩
theorem kE.deeper {k:Nat} {A:Around} (r:kE (k+1) A) (env:Env):kE k (A.deeper env):=
 ⟨r.hd,by have:=r.dp;show A.depth+1+3*k+5<_;omega,by have:=r.un;show A.units+3+16*k+200<_;omega⟩
theorem kE.in1 {k:Nat} {A:Around} (r:kE (k+1) A):kE k A.in1:=
 ⟨r.hd,by have:=r.dp;show A.depth+3*k+5<_;omega,by have:=r.un;show A.units+1+16*k+200<_;omega⟩
theorem PJ {A:Around} {C:Addr} {us:List Value} {kw:List (Str×Value)}:(A.under (.builtin "type.__call__" ⟨.ref C::us,kw⟩)).depth=A.depth+1:=by
 first | rfl | simp [Around.under,Code.weight,Code.isCreation,Code.isGuard,Code.isCaller,Code.frames,Code.isFrame,guardIds]
theorem PK {A:Around} {C:Addr} {us:List Value} {kw:List (Str×Value)}:(A.under (.builtin "type.__call__" ⟨.ref C::us,kw⟩)).units=A.units+1:=by
 first | rfl | simp [Around.under,Code.cUnits,Code.frames,Code.isFrame]
theorem kE.make {k:Nat} {A:Around} (r:kE (k+1) A) (C:Addr) (us:List Value) (kw:List (Str×Value)):kE k (A.under (.builtin "type.__call__" ⟨.ref C::us,kw⟩)):=
 ⟨r.hd,by have:=r.dp;rw [PJ];omega,by have:=r.un;rw [PK];omega⟩
theorem kE.depth {k:Nat} {A:Around} (r:kE k A):A.depth<recursionLimit:=by have:=r.dp;omega
theorem kE.units {k:Nat} {A:Around} (r:kE k A):A.units+64<cLine:=by have:=r.un;omega
def Ur:TA:=fun _ H Q=>Q [] H
def Fv (ta:TE) (tr:TA):TA:=fun σ H Q=>ta σ H fun x H1=>tr σ H1 fun xs H2=>Q (x::xs) H2
section
variable {X:Cx} {e:Expr} {es:List Expr} {te:TE} {t:TA} {pos:Pos}
theorem ai:PA X [] Ur:=fun _ _ _ _ H Q I h=>Calls.spliced_nil ⟨[],H,I,.nil,h⟩
theorem aa (ha:PE X e te) (hr:PA X es t) (hs:starEach (e::es) X.env=(false,eval e X.env)::starEach es X.env:=by rfl):PA X (e::es) (Fv te t):=by
 intro pos pins s σ H Q I h
 rw [hs]
 show wpAny _ _ (spliced ((false,eval e X.env)::backTo pos (starEach es X.env))) _ _ s
 refine Calls.spliced_cons (f9 (ha pins s σ H _ I h) fun u s1 ⟨x,H1,I1,r1,q1⟩=>?_)
 exact f9 (hr pos pins s1 σ H1 _ I1 q1) fun us s2 ⟨xs,H2,I2,r2,q2⟩=>⟨x::xs,H2,I2,.cons r1 r2,q2⟩
def afl (t:TA):TE:=fun σ H Q=>t σ H fun xs H1=>xs.length<=sizeLine/\∀ p,H1 p=none->Q (.ref p) (upd H1 p (.tup xs))
def ab1 (t:TA):TE:=fun σ H Q=>t σ H fun xs H1=>xs.length<=sizeLine/\∀ p,H1 p=none->Q (.ref p) (upd H1 p (.lst xs))
theorem r6 {x1} (h:PA X es t):PE X (.Tuple es x1 pos) (afl t):=by
 intro pins s σ H Q I hq
 refine wpAny_Tuple_spliced (f9 (h pos pins s σ H _ I hq) fun us s1 ⟨xs,H1,I1,r,z,q⟩=>⟨by rw [<- r.length];exact z,?_⟩)
 have hf:H1 s1.heap.objs.size=none:=I1.cU.fresh (au _)
 refine ⟨.ref s1.heap.objs.size,upd H1 s1.heap.objs.size (.tup xs),I1.laid (t':=s1.toks) (fun b u e=>aA _ e) (au _) ?_,rfl,q _ hf⟩
 exact ⟨z,us,r,⟨_,aQ _ rfl,rfl,_,rfl⟩⟩
theorem bw (h:PA X es t):PE X (.List es pos) (ab1 t):=by
 intro pins s σ H Q I hq
 refine wpAny_List_spliced (f9 (h pos pins s σ H _ I hq) fun us s1 ⟨xs,H1,I1,r,z,q⟩=>⟨by rw [<- r.length];exact z,?_⟩)
 have hf:H1 s1.heap.objs.size=none:=I1.cU.fresh (au _)
 refine ⟨.ref s1.heap.objs.size,upd H1 s1.heap.objs.size (.lst xs),I1.laid (t':=s1.toks) (fun b u e=>aA _ e) (au _) ?_,rfl,q _ hf⟩
 exact ⟨z,us,0,r,aQ _ rfl⟩
end
abbrev Sp:=List V->Hp->VK->XK->Prop
abbrev TV:=List Env->Hp->Shared->XK->Value->Shared->Prop
structure Fw (P:Program) (w:World) (K:ab) (mg:Str->Option Value) (base:Heap) (A:Around) (outer:List Env) (s:Shared) (H:Hp):Prop where
 frames:A.frames=some outer
 mod:Mod K mg base
 bs:∀ b o,base.get? b=some o->s.heap.get? b=some o/\H b=none
 TN:base.objs.size<=s.heap.objs.size
 Bq:s.heap.FunFrames base outer
 WU:∀ b∈T_ outer,H b=none
 cU:w8 P w H s.heap
 bare:AllBare s.gens
def CE (outer:List Env) (P:Program) (w:World) (H:Hp) (s:Shared) (Q:VK) (u:Value) (s':Shared):Prop:=
 ∃ v H',s'.os=s.os/\AllBare s'.gens/\Un (T_ outer) [] H H' s.heap s'.heap/\w8 P w H' s'.heap/\RelV v u/\Q v H'
def CR (CX:TV) (outer:List Env) (P:Program) (w:World) (H:Hp) (s:Shared) (Q:VK) (E:XK) (r:Result) (s':Shared):Prop:=
 match r with
 | .ok (.ret u)=>CE outer P w H s Q u s'
 | .ok _=>False
 | .error e=>CX outer H s E e s'
structure bY (P:Program) (w:World) (K:ab) (mg:Str->Option Value) (base:Heap) (CX:TV) (k:Nat) (f:Addr) (fd:FuncData) (ps:List Str) (sp:Sp):Prop where
 len:∀ vs H Q E,sp vs H Q E->vs.length=ps.length
 run:∀ (A:Around) (outer:List Env) (s:Shared) (H:Hp) (args:Args) (us:List Value) (vs:List V) (Q:VK) (E:XK),kE k A->Fw P w K mg base A outer s H->BindsTo s fd args (ps.zip us)->Vals vs us->sp vs H Q E->
  codeAny (model P w) A (.call (.ref f) args) (CR CX outer P w H s Q E) s
theorem bY.mono {P:Program} {w:World} {K:ab} {mg:Str->Option Value} {base:Heap} {CX:TV} {j k:Nat} {f:Addr} {fd:FuncData} {ps:List Str} {sp:Sp} (F:bY P w K mg base CX j f fd ps sp) (h:j<=k):
  bY P w K mg base CX k f fd ps sp:=⟨F.len,fun A outer s H args us vs Q E hr=>F.run A outer s H args us vs Q E (hr.mono h)⟩
theorem bY.imp {P:Program} {w:World} {K:ab} {mg:Str->Option Value} {base:Heap} {CX:TV} {k:Nat} {f:Addr} {fd:FuncData} {ps:List Str} {sp sp':Sp} (F:bY P w K mg base CX k f fd ps sp)
  (h:∀ vs H Q E,sp' vs H Q E->sp vs H Q E):bY P w K mg base CX k f fd ps sp':=
 ⟨fun vs H Q E q=>F.len vs H Q E (h _ _ _ _ q),fun A outer s H args us vs Q E hr he hb hv hs=>F.run A outer s H args us vs Q E hr he hb hv (h _ _ _ _ hs)⟩
theorem Fw.make {P:Program} {w:World} {K:ab} {mg:Str->Option Value} {base:Heap} {A:Around} {outer:List Env} {s:Shared} {H:Hp} (e:Fw P w K mg base A outer s H) (C:Addr) (us:List Value) (kw:List (Str×Value)):
  Fw P w K mg base (A.under (.builtin "type.__call__" ⟨.ref C::us,kw⟩)) outer s H:=⟨by first | exact e.frames | (simpa [Around.under,Code.envs,Code.isFrame,pushEnvs] using e.frames),e.mod,e.bs,e.TN,e.Bq,e.WU,e.cU,e.bare⟩
theorem Fw.in1 {P:Program} {w:World} {K:ab} {mg:Str->Option Value} {base:Heap} {A:Around} {outer:List Env} {s:Shared} {H:Hp} (e:Fw P w K mg base A outer s H):
  Fw P w K mg base A.in1 outer s H:=⟨e.frames,e.mod,e.bs,e.TN,e.Bq,e.WU,e.cU,e.bare⟩
section
variable {X:Cx} {pins:List (Addr×Obj)} {σ:St} {H:Hp} {s s':Shared}
theorem Inv.Ze (I:Inv X pins σ H s):Fw X.prog X.w X.K X.mg X.base X.A X.stack s H:=
 ⟨I.ok.frames,I.ok.mod,I.bs,bB I.ok.TN I.sz,I.stack,I.Rk,I.cU,I.bare⟩
theorem Inv.after {Q:VK} {u:Value} (I:Inv X pins σ H s) (h:CE X.stack X.prog X.w H s Q u s'):EP X pins σ Q u s':=by
 obtain ⟨v,H',os,bare,un,cU,r,q⟩:=h
 obtain ⟨hh,g,d,t,os'⟩:=s'
 obtain rfl:os'=s.os:=os
 exact ⟨v,H',I.call (h':=hh) (g':=g) (d':=d) (t':=t) (ch:=[]) un cU bare (fun b z=>absurd z (by simp)),r,q⟩
end
def Us (sp:Sp) (Jg:List V) (E:XK) (t:TA):TE:=fun σ H Q=>t σ H fun vs H1=>sp (vs++Jg) H1 Q E
def Yr (C:Addr) (sp:Sp) (Jg:List V) (E:XK) (t:TA):TE:=fun σ H Q=>t σ H fun vs H1=>∀ x dx,H1 x=none->H1 dx=none->dx≠x->
 sp (.ref x::(vs++Jg)) (upd (upd H1 dx (.own x)) x (.ins C dx [])) (fun v H2=>v=.jU/\Q (.ref x) H2) E
def Binds (K:ab) (fd:FuncData) (ps:List Str) (ds:List Value):Prop:=
 ∀ (s:Shared) (us:List Value),K.In s.heap->(us++ds).length=ps.length->BindsTo s fd ⟨us,[]⟩ (ps.zip (us++ds))
theorem Binds.all {K:ab} {fd:FuncData} {ps:List Str} (h:∀ us:List Value,us.length=ps.length->bindArgs fd ⟨us,[]⟩=pure (ps.zip us)):Binds K fd ps []:=fun s us _ hl=>by
 rw [cb] at hl ⊢
 exact .of_eq (h us hl)
def Passes (CX:TV) (X:Cx) (E:XK):Prop:=∀ (pins:List (Addr×Obj)) (σ:St) (H:Hp) (s:Shared) (e:Value) (s':Shared),Inv X pins σ H s->CX X.stack H s E e s'->X.xe e s'
section
variable {X:Cx} {CX:TV} {k:Nat} {f C:Addr} {fd:FuncData} {ps:List Str} {sp:Sp} {Jg:List V} {ds:List Value} {E:XK} {x m:Str} {p pos apos:Pos} {e o:Expr} {es:List Expr} {ta:TE} {t:TA}
theorem Ut {pins:List (Addr×Obj)} {σ:St} {H:Hp} {s:Shared} {Q:VK} {us:List Value} {vs:List V} (F:bY X.prog X.w X.K X.mg X.base CX k f fd ps sp) (hr:kE k X.A) (hb:Binds X.K fd ps ds) (hd:Vals Jg ds) (hx:Passes CX X E)
  (I:Inv X pins σ H s) (r:Vals vs us) (h:sp (vs++Jg) H Q E):wpAny (model X.prog X.w) X.A (call (.ref f) us) (EP X pins σ Q) X.xe s:=by
 have r2:Vals (vs++Jg) (us++ds):=r.append hd
 have hl:(us++ds).length=ps.length:=by rw [<- r2.length];exact F.len _ _ _ _ h
 refine wpAny_call (codeAny_mono (F.run X.A X.stack s H ⟨us,[]⟩ (us++ds) (vs++Jg) Q E hr I.Ze (hb s us I.MP hl) r2 h) fun r s' hq=>?_)
 cases r with
 | error e=>exact hx pins σ H s e s' I hq
 | ok fl=>
  cases fl with
  | ret u=>exact I.after hq
  | next=>exact False.elim hq
  | brk=>exact False.elim hq
  | cont=>exact False.elim hq
theorem aN (F:bY X.prog X.w X.K X.mg X.base CX k f fd ps sp) (hr:kE k X.A) (hg:Gl X x) (hm:X.mg x=some (.ref f)) (hk:c6 X.K (.ref f)=true) (hb:Binds X.K fd ps ds) (hd:Vals Jg ds) (hx:Passes CX X E)
  (ha:PA X (e::es) t) (Uu:(x==("__debug__":Str))=false:=by decide) (he:starEach (e::es) X.env=(false,eval e X.env)::starEach es X.env:=by rfl) (kF:(backTo pos (starEach es X.env)).any (·.1)=false:=by rfl):
  PE X (.Call (.Name x p) (e::es) [] pos) (Us sp Jg E t):=by
 intro pins s σ H Q I h
 refine wpAny_Call_Name_kw (ET I hg hm ?_ Uu)
 refine sW (h₀:=X.base) I.ok.mod.Y2 hk (f9 (ha pos pins s σ H _ I h) fun us s1 ⟨vs,H1,I1,r,q⟩=>⟨I1.MP,?_⟩) he kF
 exact Ut F hr hb hd hx I1 r q
structure Mk (K:ab) (C f:Addr):Prop where
 makes:mM K C=true
 init:br K (.ref C) "__init__"=some (some (.ref f))
 fn:rN K (.ref f)=true
 kp:c6 K (.ref C)=true
theorem MW {pins:List (Addr×Obj)} {σ:St} {H:Hp} {s:Shared} {Q:VK} {us:List Value} {vs:List V} (M:Mk X.K C f) (F:bY X.prog X.w X.K X.mg X.base CX k f fd ps sp) (hr:kE (k+1) X.A) (hb:Binds X.K fd ps ds) (hd:Vals Jg ds)
  (hx:Passes CX X E) (I:Inv X pins σ H s) (r:Vals vs us)
  (h:∀ x dx,H x=none->H dx=none->dx≠x->sp (.ref x::(vs++Jg)) (upd (upd H dx (.own x)) x (.ins C dx [])) (fun v H2=>v=.jU/\Q (.ref x) H2) E):
  wpAny (model X.prog X.w) X.A (call (.ref C) us) (EP X pins σ Q) X.xe s:=by
 have hq:=h (s.heap.objs.size+1) s.heap.objs.size (I.cU.fresh (lF _)) (I.cU.fresh (au _)) (cj (Nat.lt_succ_self _))
 have I2:=Inv.made (C:=C) I
 have r2:Vals (V.ref (s.heap.objs.size+1)::(vs++Jg)) (Value.ref (s.heap.objs.size+1)::(us++ds)):=.cons rfl (r.append hd)
 have hl:(Value.ref (s.heap.objs.size+1)::us++ds).length=ps.length:=by
  have e:=r2.length
  rw [F.len _ _ _ _ hq] at e
  exact e.symm
 refine wpAny_call (Uq (f:=f) I.MP M.makes M.init (beq_iff_eq.mp M.fn) (codeAny_mono (F.run _ X.stack _ _ ⟨Value.ref (s.heap.objs.size+1)::us,[]⟩ (Value.ref (s.heap.objs.size+1)::(us++ds)) _ _ E (hr.make C us [])
  (I2.Ze.make C us []) (hb _ (Value.ref (s.heap.objs.size+1)::us) I2.MP hl) r2 hq) fun r s' Uv=>?_))
 cases r with
 | error e=>exact hx pins σ _ _ e s' I2 Uv
 | ok fl=>
  cases fl with
  | ret u=>
   obtain ⟨v,H',I3,rv,ev,q3⟩:=I2.after Uv
   subst ev
   exact ⟨rv,⟨V.ref (s.heap.objs.size+1),H',I3,rfl,q3⟩⟩
  | next=>exact False.elim Uv
  | brk=>exact False.elim Uv
  | cont=>exact False.elim Uv
theorem EV (M:Mk X.K C f) (F:bY X.prog X.w X.K X.mg X.base CX k f fd ps sp) (hr:kE (k+1) X.A) (hg:Gl X x) (hm:X.mg x=some (.ref C)) (hb:Binds X.K fd ps ds) (hd:Vals Jg ds) (hx:Passes CX X E)
  (ha:PA X (e::es) t) (Uu:(x==("__debug__":Str))=false:=by decide) (he:starEach (e::es) X.env=(false,eval e X.env)::starEach es X.env:=by rfl) (kF:(backTo pos (starEach es X.env)).any (·.1)=false:=by rfl):
  PE X (.Call (.Name x p) (e::es) [] pos) (Yr C sp Jg E t):=by
 intro pins s σ H Q I h
 refine wpAny_Call_Name_kw (ET I hg hm ?_ Uu)
 refine sW (h₀:=X.base) I.ok.mod.Y2 M.kp (f9 (ha pos pins s σ H _ I h) fun us s1 ⟨vs,H1,I1,r,q⟩=>⟨I1.MP,?_⟩) he kF
 exact MW M F hr hb hd hx I1 r q
theorem MX (M:Mk X.K C f) (F:bY X.prog X.w X.K X.mg X.base CX k f fd ps sp) (hr:kE (k+1) X.A) (hg:Gl X x) (hm:X.mg x=some (.ref C)) (hb:Binds X.K fd ps ds) (hd:Vals Jg ds) (hx:Passes CX X E)
  (Uu:(x==("__debug__":Str))=false:=by decide):PE X (.Call (.Name x p) [] [] pos) (Yr C sp Jg E Ur):=by
 intro pins s σ H Q I h
 refine wpAny_Call_Name_kw (ET I hg hm ?_ Uu)
 exact PySem.W.callWith_K0 I.MP M.kp (MW (us:=[]) M F hr hb hd hx I .nil h)
end
section
variable {X:Cx} {CX:TV} {k:Nat} {f C:Addr} {fd:FuncData} {ps ks:List Str} {sp:Sp} {E:XK} {x m:Str} {p pos apos akk:Pos} {e o:Expr} {es:List Expr} {kws:List Keyword} {te ta:TE} {t tk:TA} {nm:Option Str}
structure afm (K:ab) (fd:FuncData) (ps ks:List Str) (g:List Value->List Value->List Value) (gV:List V->List V->List V):Prop where
 to:∀ (s:Shared) (us ws:List Value),K.In s.heap->(g us ws).length=ps.length->BindsTo s fd ⟨us,ks.zip ws⟩ (ps.zip (g us ws))
 rel:∀ {vs:List V} {us:List Value} {zs:List V} {ws:List Value},Vals vs us->Vals zs ws->Vals (gV vs zs) (g us ws)
variable {g:List Value->List Value->List Value} {gV:List V->List V->List V}
end
structure a4 (N P:List Str) (sc:Scope):Prop where
 kind:sc.kind=.function
 co:sc.isCoroutine=false
 gen:sc.isGenerator=false
 nd:N.Nodup
 pre:N.take P.length=P
 par:∀ x∈P,sc.names.lookup x=some .local\/sc.names.lookup x=some .cell
 Zf:∀ y∈sc.names,y.2≠.free
theorem Jh {kindOf:Str->Option NameKind} {x:Str}:∀ {binds:List (Str×Value)} {m:Str->Option Value},(∀ v,(x,v)∉binds)->bindL kindOf binds m x=m x
 | [],_,_=>rfl
 | (n,v)::r,m,h=>by
  unfold bindL
  rw [Jh fun w hw=>h w (ba _ hw)]
  split
  ·have:x≠n:=by rintro rfl;exact h v bC
   simp [this]
  ·rfl
theorem Ji {kindOf:Str->Option NameKind} {x:Str}:∀ {binds:List (Str×Value)} {m:Str->Option Value},(∀ v,(x,v)∉binds)->bindC kindOf binds m x=m x
 | [],_,_=>rfl
 | (n,v)::r,m,h=>by
  unfold bindC
  rw [Ji fun w hw=>h w (ba _ hw)]
  split
  ·rfl
  ·have:x≠n:=by rintro rfl;exact h v bC
   simp [this]
theorem Jj {kindOf:Str->Option NameKind} {x:Str} {v:Value}:∀ {P:List Str} {vs:List Value} {i:Nat} {m:Str->Option Value},P.Nodup->P[i]?=some x->vs[i]?=some v->kindOf x=some .local->
  bindL kindOf (P.zip vs) m x=some v
 | [],_,_,_,_,h,_,_=>by simp at h
 | _::_,[],_,_,_,_,h,_=>by simp at h
 | p::P,w::vs,0,m,nd,h1,h2,hk=>by
  simp at h1 h2;subst h1;subst h2
  show bindL kindOf ((p,w)::P.zip vs) m p=_
  unfold bindL
  rw [Jh fun v hv=>(cE.mp nd).1 (List.of_mem_zip hv).1,if_pos hk]
  simp
 | p::P,w::vs,i+1,m,nd,h1,h2,hk=>by
  show bindL kindOf ((p,w)::P.zip vs) m x=_
  unfold bindL
  exact Jj (i:=i) (cE.mp nd).2 (by simpa using h1) (by simpa using h2) hk
theorem Jk {kindOf:Str->Option NameKind} {x:Str} {v:Value}:∀ {P:List Str} {vs:List Value} {i:Nat} {m:Str->Option Value},P.Nodup->P[i]?=some x->vs[i]?=some v->kindOf x≠some .local->
  bindC kindOf (P.zip vs) m x=some v
 | [],_,_,_,_,h,_,_=>by simp at h
 | _::_,[],_,_,_,_,h,_=>by simp at h
 | p::P,w::vs,0,m,nd,h1,h2,hk=>by
  simp at h1 h2;subst h1;subst h2
  show bindC kindOf ((p,w)::P.zip vs) m p=_
  unfold bindC
  rw [Ji fun v hv=>(cE.mp nd).1 (List.of_mem_zip hv).1,if_neg hk]
  simp
 | p::P,w::vs,i+1,m,nd,h1,h2,hk=>by
  show bindC kindOf ((p,w)::P.zip vs) m x=_
  unfold bindC
  exact Jk (i:=i) (cE.mp nd).2 (by simpa using h1) (by simpa using h2) hk
def start (N:List Str) (vs:List V):St:=vs.map some++List.replicate (N.length - vs.length) none
def PL (CX:TV) (P:Program) (w:World) (K:ab) (mg:Str->Option Value) (base:Heap) (N:List Str) (qual:Str) (scope:Scope) (f:Addr) (cd:Value) (A:Around) (outer:List Env) (s:Shared) (H:Hp) (E:XK):Cx where
 prog:=P
 w:=w
 K:=K
 mg:=mg
 base:=base
 A:=A.deeper (envOfC qual scope s.heap.objs.size f cd)
 N:=N
 Hx:=s
 Ym:=H
 env:=envOfC qual scope s.heap.objs.size f cd
 outer:=outer
 stack:=envOfC qual scope s.heap.objs.size f cd::outer
 ex:=[]
 calm:=true
 fn:=fun _=>true
 pn:=[]
 xe:=fun e s'=>wpAny (model P w) (A.deeper (envOfC qual scope s.heap.objs.size f cd)) (leaving (envOfC qual scope s.heap.objs.size f cd) e) (fun _ PM=>CX outer H s E e PM) (fun e' PM=>CX outer H s E e' PM) s'
theorem MY {sc:Scope} {n:Nat} {x:Str} (h:sc.names.lookup x=some .cell):∃ c,(cellsFrom n sc.names []).lookup x=some c:=by
 have q:=PySem.W.cellsFrom_some sc.names n [] (.inl h)
 exact Option.isSome_iff_exists.mp q
theorem Sr {CX:TV} {P:Program} {w:World} {K:ab} {mg:Str->Option Value} {base:Heap} {N ps:List Str} {qual:Str} {scope:Scope} {f:Addr} {cd:Value} {A:Around} {outer:List Env} {s s1:Shared} {H:Hp} {E:XK} {us:List Value} {vs:List V}
  (S:a4 N ps scope) (hd:A.handled=none) (e0:Fw P w K mg base A outer s H) (hl:vs.length=ps.length) (r:Vals vs us)
  (x:InCallC s s.heap.objs.size (bindL (envOfC qual scope s.heap.objs.size f cd).kindOf (ps.zip us) fun _=>none) (cellsFrom (s.heap.objs.size+1) scope.names []) (bindC (envOfC qual scope s.heap.objs.size f cd).kindOf (ps.zip us) fun _=>none) s1):
  Inv (PL CX P w K mg base N qual scope f cd A outer s H E) [] (start N vs) H s1:=by
 have kF:ps.length<=N.length:=by have:=congrArg iA S.pre;rw [bK] at this;omega
 obtain ⟨h1,tk,rfl,hk⟩:=x.done
 have Uw:∀ b:Addr,b∉(PL CX P w K mg base N qual scope f cd A outer s H E).ex:=fun b z=>absurd (show b∈([]:List Addr) from z) (by simp)
 refine ⟨⟨e0.mod,S.kind,rfl,rfl,au _,fun y z c h1 h2=>?_,fun y hy=>?_,fun y c _ h=>?_,fun _=>hd,Around.frames_deeper e0.frames,.inr ⟨rfl,rfl⟩,fun b z=>absurd z (Uw b),e0.bs,e0.TN,fun b _ _=>Uw b,fun b z=>absurd z (Uw b),e0.Bq,e0.WU⟩,
  rfl,e0.bare,Un.kept hk,⟨_,x.toInCall.ns,fun i y v h1 h2 h3=>?_⟩,fun y c h=>⟨_,x.cell y c h⟩,e0.cU.fresh (au _),fun y c h=>?_,fun p hp=>absurd (show p∈([]:List (Addr×Obj)) from hp) (by simp),e0.cU.kept hk,?_⟩
 ·exact name_of_addr x.apart (PySem.mem_of_lookup h1) (PySem.mem_of_lookup h2)
 ·have hy:scope.names.lookup y=some .cell\/scope.names.lookup y=some .free:=hy
  rcases hy with hy | hy
  ·exact MY hy
  ·exact absurd rfl (S.Zf _ (PySem.mem_of_lookup hy))
 ·exact Nat.le_of_lt (x.above y c (PySem.mem_of_lookup h))
 ·have hi:i<vs.length:=by
   unfold start at h2
   by_cases hi:i<vs.length
   ·exact hi
   ·rw [lG (by simpa using hi)] at h2
    rw [List.getElem?_replicate] at h2
    split at h2<;>cases h2
  have ha:vs[i]?=some v:=by
   unfold start at h2
   rw [List.getElem?_append_left (by simpa using hi),ax] at h2
   cases e:vs[i]? with
   | none=>rw [e] at h2;cases h2
   | some a=>rw [e] at h2;cases h2;rfl
  obtain ⟨u,hu,rv⟩:=r.get ha
  have hp:ps[i]?=some y:=by
   rw [<- S.pre,List.getElem?_take_of_lt (by omega)];exact h1
  have ndP:ps.Nodup:=by rw [<- S.pre];exact S.nd.sublist (List.take_sublist _ _)
  refine ⟨u,rv,?_⟩
  rcases S.par y (aT hp) with k | k
  ·exact .inl ⟨k,Jj ndP hp hu k⟩
  ·obtain ⟨c,e⟩:=MY (n:=s.heap.objs.size+1) k
   refine .inr ⟨.inl k,c,e,?_⟩
   have q:=x.cell y c e
   rw [Jk ndP hp hu (by show scope.names.lookup y≠_;rw [k];decide)] at q
   exact q
 ·exact e0.cU.fresh (Nat.le_of_lt (x.above y c (PySem.mem_of_lookup h)))
 ·unfold start
  show _=N.length
  rw [ao,U,List.length_replicate]
  omega
theorem Ys {CX:TV} {P:Program} {w:World} {K:ab} {mg:Str->Option Value} {base:Heap} {k:Nat} {f:Addr} {name qual:Str} {params:Arguments} {body:List Stmt} {scope:Scope} {dV kV doc pm eW ct oc:Value} {an od:Option Addr}
  {Hu:Array (Option Value)} {N ps:List Str} {sp:Sp} (lk:K.lookup f=some ⟨oc,od,.func (dW name qual params body scope dV kV doc pm an eW ct),Hu⟩) (MQ:lH K eW qual=true) (S:a4 N ps scope)
  (len:∀ vs H Q E,sp vs H Q E->vs.length=ps.length)
  (xq:∀ (A:Around) (outer:List Env) (s:Shared) (H:Hp) (vs:List V) (Q:VK) (E:XK),kE k (A.deeper (envOfC qual scope s.heap.objs.size f eW))->sp vs H Q E->
   ∃ t,Rm (PL CX P w K mg base N qual scope f eW A outer s H E) body t/\t { nx:=fun _ H'=>Q .jU H',rt:=Q } (start N vs) H):
  bY P w K mg base CX (k+1) f (dW name qual params body scope dV kV doc pm an eW ct) ps sp:=by
 refine ⟨len,fun A outer s H args us vs Q E hr e0 hb r WG=>?_⟩
 have hl:=len _ _ _ _ WG
 have KX:K.In s.heap:=e0.mod.Y2.keeps fun b o e=>(e0.bs b o e).1
 have lim:s.heap.NoLimit:=e0.mod.nolimit.keeps fun b o e=>(e0.bs b o e).1
 have ab2:∀ y∈ps.zip us,scope.names.lookup y.1=some .local\/(scope.names.lookup y.1=some .cell/\((cellsFrom (s.heap.objs.size+1) scope.names []).lookup y.1).isSome=true):=fun ⟨n,v⟩ hy=>by
  rcases S.par n (List.of_mem_zip hy).1 with q | q
  ·exact .inl q
  ·exact .inr ⟨q,PySem.W.cellsFrom_some _ _ _ (.inl q)⟩
 refine codeAny_call_function hr.depth (KX _ _ lk) rfl S.co S.gen rfl (PySem.W.codeRec_of KX MQ) (hb _ _ _ _ ?_)
 refine wpAny_newFunctionEnv_cells S.kind ab2 fun env he s1 x=>?_
 subst he
 refine ⟨lim.keeps x.toInCall.keep,codeAny_func ?_⟩
 obtain ⟨t,ht,hq⟩:=xq A outer s H vs Q E (hr.deeper _) WG
 have I:Inv (PL CX P w K mg base N qual scope f eW A outer s H E) [] (start N vs) H s1:=Sr S hr.hd e0 hl r x
 refine wpAny_mono (ht [] s1 (start N vs) H _ I hq) (fun fl s' hs=>?_) fun e s' hs=>hs
 have fin:∀ {f7:St} {H':Hp} {v:V} {u:Value},Inv (PL CX P w K mg base N qual scope f eW A outer s H E) [] f7 H' s'->RelV v u->Q v H'->CE outer P w H s Q u s':=
  fun {f7 H' v u} J rv q=>⟨v,H',J.os,J.bare,J.base,J.cU,rv,q⟩
 cases fl with
 | ret u=>
  obtain ⟨v,f7,H',J,rv,q⟩:=hs
  exact fin J rv q
 | next=>
  obtain ⟨f7,H',J,q⟩:=hs
  exact fin (v:=V.jU) (u:=Value.none) J rfl q
 | brk=>
  obtain ⟨_,_,_,q⟩:=hs
  exact False.elim q
 | cont=>
  obtain ⟨_,_,_,q⟩:=hs
  exact False.elim q
section
variable {X:Cx} {x:Str} {p pos:Pos} {e:Expr} {es:List Expr} {t:TA} {id T:String} {r:List V->Hp->VK->Prop}
def tCB (r:List V->Hp->VK->Prop) (t:TA):TE:=fun σ H Q=>t σ H fun vs H1=>r vs H1 Q
theorem b8 (hc:r0 X (.builtin id) r) (hg:Gl X x) (hm:X.mg x=none) (hv:bootBuiltins x=some (.builtin id)) (ha:PA X (e::es) t) (hn:x≠"__name__":=by decide) (Uu:(x==("__debug__":Str))=false:=by decide)
  (he:starEach (e::es) X.env=(false,eval e X.env)::starEach es X.env:=by rfl) (kF:(backTo pos (starEach es X.env)).any (·.1)=false:=by rfl):PE X (.Call (.Name x p) (e::es) [] pos) (tCB r t):=by
 intro pins s σ H Q I h
 refine wpAny_Call_Name_kw (tY I hg hm hv ?_ hn Uu)
 exact PyProof.Rows.callWith_builtin1 (f9 (ha pos pins s σ H _ I h) fun us s1 ⟨vs,H1,I1,r1,q1⟩=>hc pins s1 σ H1 vs us Q I1 r1 q1) he kF
theorem i5 (hc:r0 X (.type T) r) (hg:Gl X x) (hm:X.mg x=none) (hv:bootBuiltins x=some (.type T)) (ha:PA X (e::es) t) (hn:x≠"__name__":=by decide) (Uu:(x==("__debug__":Str))=false:=by decide)
  (he:starEach (e::es) X.env=(false,eval e X.env)::starEach es X.env:=by rfl) (kF:(backTo pos (starEach es X.env)).any (·.1)=false:=by rfl):PE X (.Call (.Name x p) (e::es) [] pos) (tCB r t):=by
 intro pins s σ H Q I h
 refine wpAny_Call_Name_kw (tY I hg hm hv ?_ hn Uu)
 exact PyProof.Rows.callWith_type1 (f9 (ha pos pins s σ H _ I h) fun us s1 ⟨vs,H1,I1,r1,q1⟩=>hc pins s1 σ H1 vs us Q I1 r1 q1) he kF
end
end L2
namespace HT
open PySem PyProof.Rows
section
open PySem.SeqAt
open PySem.AutoSeq1 (wpAny_loadPart')
open PySem.MeetsSeq PySem.MeetsSeq2 PySem.MeetsSeq3
end
section
variable {prog:Program} {w:World} {A:Around} {E:Value->Shared->Prop} {s:Shared}
def MZ (n d:Nat):Option Int->Nat
 | none=>d
 | some v=>if v<0 then (v+(n:Int)).toNat else min v.toNat n
theorem M0 (n d:Nat):MZ n d none=d:=rfl
theorem EW (n d k:Nat):MZ n d (some (k:Int))=min k n:=by
 show (if (k:Int)<0 then ((k:Int)+(n:Int)).toNat else min (k:Int).toNat n)=min k n
 rw [if_neg (by omega),Int.toNat_natCast]
end
end HT
namespace L2
open PySem PySem.Spec PyProof.Rows
abbrev TO:=St->Hp->(Option Int->Hp->Prop)->Prop
def PO (X:Cx) (e:Option Expr) (t:TO):Prop:=
 ∀ (pins:List (Addr×Obj)) (s:Shared) (σ:St) (H:Hp) (Q:Option Int->Hp->Prop),Inv X pins σ H s->t σ H Q->
  wpAny (model X.prog X.w) X.A (evalPart e X.env) (fun u s'=>∃ o H',Inv X pins σ H' s'/\IsPart u o/\Q o H') X.xe s
def J9:TO:=fun _ H Q=>Q none H
def Ux (t:TE):TO:=fun σ H Q=>t σ H fun x H1=>∃ i,x=.int i/\Q (some i) H1
section
variable {X:Cx} {e:Expr} {te:TE} {lo hi:Option Expr} {tl th:TO} {pos p2:Pos}
theorem Bu:PO X none J9:=by
 intro pins s σ H Q I h
 rw [evalPart_none]
 exact wpAny_pure ⟨none,H,I,.none,h⟩
theorem rD (h:PE X e te):PO X (some e) (Ux te):=by
 intro pins s σ H Q I hw
 rw [evalPart_some]
 refine f9 (h pins s σ H _ I hw) fun u s1 ⟨x,H1,I1,r1,q1⟩=>?_
 obtain ⟨i,rfl,q⟩:=q1
 obtain ⟨t,rfl⟩:=r1
 exact ⟨some i,H1,I1,.int i t,q⟩
def SlR (X:Cx) (r:V->Option Int->Option Int->Hp->VK->Prop):Prop:=
 ∀ (pins:List (Addr×Obj)) (s:Shared) (σ:St) (H:Hp) (x:V) (v vl vu:Value) (lo hi:Option Int) (sl:Addr) (Q:VK),Inv X pins σ H s->RelV x v->s.heap.IsSliceOf sl vl vu .none->IsPart vl lo->IsPart vu hi->r x lo hi H Q->
  ∃ T id,typeLookup (.type T) "__getitem__"=pure (some (.builtin id))/\s.TypeIs v T/\wpAny (model X.prog X.w) X.A (getItem v (.ref sl)) (EP X pins σ Q) X.xe s
def tSl (r:V->Option Int->Option Int->Hp->VK->Prop) (te:TE) (tl th:TO):TE:=fun σ H Q=>te σ H fun x H1=>tl σ H1 fun l H2=>th σ H2 fun u H3=>r x l u H3 Q
theorem r8 {r:V->Option Int->Option Int->Hp->VK->Prop} (hr:SlR X r) (he:PE X e te) (hl:PO X lo tl) (hu:PO X hi th):PE X (.Subscript e (.Slice lo hi none p2) pos) (tSl r te tl th):=by
 intro pins s σ H Q I h
 refine Subscript_ (f9 (he pins s σ H _ I h) fun v s1 ⟨x,H1,I1,r1,q1⟩=>?_)
 refine wpAny_Slice (f9 (hl pins s1 σ H1 _ I1 q1) fun vl s2 ⟨l,H2,I2,pl,q2⟩=>f9 (hu pins s2 σ H2 _ I2 q2) fun vu s3 ⟨u,H3,I3,pu,q3⟩=>?_)
 rw [evalPart_none]
 refine wpAny_pure ?_
 have I4:Inv X pins σ H3 { s3 with heap:=s3.heap.push { cls:=.type "slice",data:=.fields #[vl,vu,.none] } }:=I3.kept (t':=s3.toks) fun b ob q=>aA _ q
 obtain ⟨T,id,hT,ht,hg⟩:=hr pins { s3 with heap:=s3.heap.push { cls:=.type "slice",data:=.fields #[vl,vu,.none] } } σ H3 x v vl vu l u s3.heap.objs.size Q I4 r1 (Heap.IsSliceOf.new ..) pl pu q3
 show wpAny (model X.prog X.w) X.A (subscriptTail e (.Slice lo hi none p2) v (.ref s3.heap.objs.size)) (EP X pins σ Q) X.xe { s3 with heap:=s3.heap.push { cls:=.type "slice",data:=.fields #[vl,vu,.none] } }
 exact tail_any (ops:=[.ref s3.heap.objs.size,v]) ht hT hg (by with_unfolding_all rfl)
def qe (xs:List V) (lo hi:Option Int):List V:=(xs.drop (HT.MZ xs.length 0 lo)).take (HT.MZ xs.length xs.length hi - HT.MZ xs.length 0 lo)
theorem M7 (xs:List V) (lo hi:Option Int):(qe xs lo hi).length<=xs.length:=by
 unfold qe
 rw [bK,dh]
 omega
end
def Yt (n:Nat) (i:Int):Option Nat:=if 0<=i then (if i<n then some i.toNat else none) else if -(n:Int)<=i then some (i+n).toNat else none
def M8 {α:Type} (xs:List α) (i:Int):Option α:=(Yt xs.length i).bind fun j=>xs[j]?
theorem W3 {n:Nat} {i:Int} {j:Nat} (h:Yt n i=some j):seqIndex? i n=some j/\j<n/\-(n:Int)<=i/\i<n:=by
 unfold Yt at h
 by_cases h0:0<=i
 ·rw [if_pos h0] at h
  by_cases h1:i<n
  ·rw [if_pos h1] at h
   have e:i.toNat=j:=aj.inj h
   exact ⟨by rw [seqIndex_of h0 h1,e],by omega,by omega,h1⟩
  ·rw [if_neg h1] at h;cases h
 ·rw [if_neg h0] at h
  by_cases h1:-(n:Int)<=i
  ·rw [if_pos h1] at h
   have e:(i+n).toNat=j:=aj.inj h
   exact ⟨by rw [seqIndex_neg (by omega) h1,e],by omega,h1,by omega⟩
  ·rw [if_neg h1] at h;cases h
theorem J_ {α:Type} {xs:List α} {i:Int} {v:α} (h:M8 xs i=some v):∃ j,seqIndex? i xs.length=some j/\xs[j]?=some v/\j<xs.length/\-(xs.length:Int)<=i/\i<xs.length:=by
 unfold M8 at h
 cases e:Yt xs.length i with
 | none=>rw [e] at h;cases h
 | some j=>
  rw [e] at h
  obtain ⟨h1,h2,h3,h4⟩:=W3 e
  exact ⟨j,h1,h,h2,h3,h4⟩
theorem bj {α:Type} {xs:List α} {j:Nat} {v:α} (h:xs[j]?=some v):M8 xs (j:Int)=some v:=by
 have hj:j<xs.length:=(aH.mp h).1
 have e:Yt xs.length (j:Int)=some j:=by
  unfold Yt
  rw [if_pos (by omega),if_pos (by omega)];simp
 unfold M8;rw [e];exact h
theorem Uy {α:Type} (xs:List α) (v:α):M8 (xs++[v]) (-1)=some v:=by
 have hl:(xs++[v]).length=xs.length+1:=by simp
 have e:Yt (xs++[v]).length (-1)=some xs.length:=by
  unfold Yt
  rw [hl,if_neg (by decide),if_pos (by omega)]
  congr 1
  omega
 unfold M8
 rw [e]
 show (xs++[v])[xs.length]?=some v
 simp
def W4 (b:Expr):Prop:=∀ o i,subscripted b false o i=operate [o,i] (getItem o i)
def IxR (X:Cx) (r:R2):Prop:=
 ∀ (value slice:Expr) (pins:List (Addr×Obj)) (s:Shared) (σ:St) (H:Hp) (x y:V) (v u:Value) (Q:VK),Inv X pins σ H s->RelV x v->RelV y u->r x y H Q->
  subscripted slice false v u=operate [v,u] (getItem v u)->wpAny (model X.prog X.w) X.A (subscriptTail value slice v u) (EP X pins σ Q) X.xe s
def Ss (X:Cx) (id:String) (r:V->List V->Hp->VK->Prop):Prop:=
 ∀ (pins:List (Addr×Obj)) (s:Shared) (σ:St) (H:Hp) (x:V) (xs:List V) (v:Value) (us:List Value) (Q:VK),Inv X pins σ H s->RelV x v->Vals xs us->r x xs H Q->
  wpAny (model X.prog X.w) X.A (call (.builtin id) (v::us)) (EP X pins σ Q) X.xe s
section
variable {X:Cx} {a b:Expr} {ta tb:TE} {pos:Pos}
theorem bQ {r:R2} (hr:IxR X r) (ha:PE X a ta) (hb:PE X b tb) (hs:W4 b):PE X (.Subscript a b pos) (TU r ta tb):=by
 intro pins s σ H Q I h
 exact Subscript_ (Zb ha hb I h fun v u s2 x y H2 I2 rx ry q=>hr a b pins s2 σ H2 x y v u Q I2 rx ry q (hs _ _))
def W5 (K:ab):R2:=fun x y H Q=>∃ p xs i v,x=.ref p/\y=.int i/\bO K H p xs/\M8 xs i=some v/\Q v H
def Zg (K:ab):R2:=fun x y H Q=>∃ p xs i v,x=.ref p/\y=.int i/\oX K H p xs/\M8 xs i=some v/\Q v H
def afo:R2:=fun x y H Q=>∃ z i c,x=.str z/\y=.int i/\z.length<=sizeLine/\M8 z.cps.toList i=some c/\Q (.str ⟨#[c]⟩) H
theorem bI:IxR X (W5 X.K):=by
 intro value slice pins s σ H x y v u Q I rx ry h hs
 obtain ⟨p,xs,i,z,rfl,rfl,hq,he,q⟩:=h
 cases rx
 obtain ⟨t,rfl⟩:=ry
 obtain ⟨cq,r,pl,hz⟩:=I.list hq
 obtain ⟨j,h1,h2,h3,h4,h5⟩:=J_ he
 obtain ⟨w,ew,rw'⟩:=r.get h2
 have hl:=r.length
 have hn:=CA
 have fin:EP X pins σ Q w s:=⟨z,H,I,rw',q⟩
 by_cases h0:0<=i
 ·have hj:i.toNat=j:=by
   rw [seqIndex_of h0 h5] at h1
   exact aj.inj h1
  exact item_listR pl.isList h0 (by omega) (by rw [hj];simpa using ew) fin hs
 ·have hj:(i+(cq.toArray.size:Int)).toNat=j:=by
   rw [seqIndex_neg (by omega) h4] at h1
   rw [aU,<-hl]
   exact aj.inj h1
  exact subscriptTail_builtinR (x:=w) pl.isList.typeIs slot_list_getitem.lookup
   (wpAny_getItem_list_neg (Q:=fun r s'=>r=w/\EP X pins σ Q r s') pl.isList (by omega) (by rw [aU]<;>omega) (by omega) (by rw [hj];simpa using ew) ⟨rfl,fin⟩) hs
theorem fS:IxR X (Zg X.K):=by
 intro value slice pins s σ H x y v u Q I rx ry h hs
 obtain ⟨p,xs,i,z,rfl,rfl,hq,he,q⟩:=h
 cases rx
 obtain ⟨t,rfl⟩:=ry
 obtain ⟨cq,r,pl,hz⟩:=I.tuple hq
 obtain ⟨j,h1,h2,h3,h4,h5⟩:=J_ he
 obtain ⟨w,ew,rw'⟩:=r.get h2
 have hl:=r.length
 have hn:=CA
 have fin:EP X pins σ Q w s:=⟨z,H,I,rw',q⟩
 exact subscriptTail_builtinR (x:=w) pl.typeIs slot_tuple_getitem.lookup
  (getItem_tuple (j:=j) (Q:=fun r s'=>r=w/\EP X pins σ Q r s') pl (by omega) (by omega) (by rw [aU,<-hl];exact h1) (by simpa using ew) ⟨rfl,fin⟩) hs
theorem Zh:IxR X afo:=by
 intro value slice pins s σ H x y v u Q I rx ry h hs
 obtain ⟨z,i,c,rfl,rfl,hz,he,q⟩:=h
 obtain ⟨t,rfl⟩:=rx
 obtain ⟨t',rfl⟩:=ry
 obtain ⟨j,h1,h2,h3,h4,h5⟩:=J_ he
 have hl:z.cps.toList.length=z.length:=by simp [Str.length]
 rw [hl] at h1 h4 h5
 have hn:=CA
 exact tail_any (typeIs_str s z t) slot_str_getitem.lookup (getItem_str (c:=c) (by
  have e1:decide (i < -(2 ^ 63:Int))=false:=decide_eq_false (by omega)
  have e2:decide (i>=2 ^ 63)=false:=decide_eq_false (by omega)
  rw [e1,e2,Bool.or_false]) (by rw [h1];simpa using h2) ⟨.str ⟨#[c]⟩,H,I.tok _,⟨_,rfl⟩,q⟩) hs
theorem Ka (lo hi:Option Int) (n:Nat):(sliceBounds lo hi none n).1=((HT.MZ n 0 lo:Nat):Int)/\(sliceBounds lo hi none n).2.1=((HT.MZ n n hi:Nat):Int)/\(sliceBounds lo hi none n).2.2=1:=by
 refine ⟨?_,?_,rfl⟩
 ·cases lo with
  | none=>simp [sliceBounds,HT.MZ]
  | some i=>
   simp only [sliceBounds,HT.MZ,Option.getD_none,show (1:Int) > 0 by decide,if_true]
   by_cases h:i<0
   ·simp only [h,if_true]<;>omega
   ·simp only [h,if_false]<;>omega
 ·cases hi with
  | none=>simp [sliceBounds,HT.MZ]
  | some i=>
   simp only [sliceBounds,HT.MZ,Option.getD_none,show (1:Int) > 0 by decide,if_true]
   by_cases h:i<0
   ·simp only [h,if_true]<;>omega
   ·simp only [h,if_false]<;>omega
theorem HB (cq:List Value) (lo hi:Option Int):slicePick cq.toArray lo hi none=((cq.drop (HT.MZ cq.length 0 lo)).take (HT.MZ cq.length cq.length hi - HT.MZ cq.length 0 lo)).toArray:=by
 obtain ⟨h1,h2,h3⟩:=Ka lo hi cq.toArray.size
 unfold slicePick
 rw [h1,h2,h3]
 simp only [sliceRange_one,pick_run,aU]<;>rfl
def Zi (K:ab):V->Option Int->Option Int->Hp->VK->Prop:=fun x lo hi H Q=>∃ a xs,x=.ref a/\bO K H a xs/\∀ p,H p=none->Q (.ref p) (upd H p (.lst (qe xs lo hi)))
theorem vk:SlR X (Zi X.K):=by
 intro pins s σ H x v vl vu lo hi sl Q I rx hs pl pu h
 obtain ⟨a,xs,rfl,hx,q⟩:=h
 cases rx
 obtain ⟨cq,r,ht,hz⟩:=I.list hx
 have hlen:=r.length
 refine ⟨"list",_,slot_list_getitem.lookup,ht.isList.typeIs,?_⟩
 refine wpAny_getItem_list_slice ht.isList hs pl pu .none (by simp) ?_ (by rw [aU]<;>omega)
 rw [HB,<-hlen]
 refine ⟨.ref s.heap.objs.size,_,I.laid (t':=s.toks) (o:=.lst (qe xs lo hi)) (fun b ob q=>aA _ q) (au _) ?_,rfl,q _ (I.cU.fresh (au _))⟩
 exact ⟨bB (M7 xs lo hi) hz,_,0,(r.drop (HT.MZ xs.length 0 lo)).take (HT.MZ xs.length xs.length hi - HT.MZ xs.length 0 lo),aQ _ rfl⟩
def r9:V->Bool
 | .jU=>true
 | .bl _=>true
 | .int _=>true
 | .str _=>true
 | _=>false
def Rt:V->V->Bool
 | .jU,.jU=>true
 | .bl a,.bl b=>a==b
 | .bl a,.int b=>(if a then 1 else 0)==b
 | .int a,.bl b=>a==(if b then 1 else 0)
 | .int a,.int b=>a==b
 | .str a,.str b=>a==b
 | _,_=>false
theorem Zj {A:Around} {s:Shared} {y x:V} {u v:Value} (ry:RelV y u) (rx:RelV x v) (fy:r9 y=true) (fx:r9 x=true):SeqAt.EqAt A s u v (Rt y x):=by
 cases y with
 | jU=>
  cases ry
  cases x with
  | jU=>cases rx;exact SeqAt.EqAt.same _
  | bl b=>cases rx;exact SeqAt.EqAt.none_bool b
  | int b=>obtain ⟨t,rfl⟩:=rx;exact SeqAt.EqAt.none_int b t
  | str b=>obtain ⟨t,rfl⟩:=rx;exact SeqAt.EqAt.none_str b t
  | _=>exact absurd (show false=true from fx) a6
 | bl a=>
  cases ry
  cases x with
  | jU=>cases rx;exact SeqAt.EqAt.bool_none a
  | bl b=>cases rx;exact SeqAt.EqAt.bool_bool a b
  | int b=>obtain ⟨t,rfl⟩:=rx;exact SeqAt.EqAt.bool_int a b t
  | str b=>obtain ⟨t,rfl⟩:=rx;exact SeqAt.EqAt.bool_str a b t
  | _=>exact absurd (show false=true from fx) a6
 | int a=>
  obtain ⟨t',rfl⟩:=ry
  cases x with
  | jU=>cases rx;exact SeqAt.EqAt.int_none a t'
  | bl b=>cases rx;exact SeqAt.EqAt.int_bool a t' b
  | int b=>obtain ⟨t,rfl⟩:=rx;exact SeqAt.EqAt.int_int a t' b t
  | str b=>obtain ⟨t,rfl⟩:=rx;exact SeqAt.EqAt.int_str a t' b t
  | _=>exact absurd (show false=true from fx) a6
 | str a=>
  obtain ⟨t',rfl⟩:=ry
  cases x with
  | jU=>cases rx;exact SeqAt.EqAt.str_none a t'
  | bl b=>cases rx;exact SeqAt.EqAt.str_bool a t' b
  | int b=>obtain ⟨t,rfl⟩:=rx;exact SeqAt.EqAt.str_int a t' b t
  | str b=>obtain ⟨t,rfl⟩:=rx;exact SeqAt.EqAt.str_str a t' b t
  | _=>exact absurd (show false=true from fx) a6
 | _=>exact absurd (show false=true from fy) a6
def Pk (x:V) (u:Value):Bool:=match u with
 | .none=>Rt .jU x
 | .bool b=>Rt (.bl b) x
 | .int i _=>Rt (.int i) x
 | .str z _=>Rt (.str z) x
 | _=>false
theorem Kb {x y:V} {u:Value} (r:RelV y u) (f:r9 y=true):Pk x u=Rt y x:=by
 cases y with
 | jU=>cases r;rfl
 | bl b=>cases r;rfl
 | int i=>obtain ⟨t,rfl⟩:=r;rfl
 | str z=>obtain ⟨t,rfl⟩:=r;rfl
 | _=>exact absurd (show false=true from f) a6
theorem Bv {x:V}:∀ {xs:List V} {us:List Value},Vals xs us->xs.all r9=true->us.any (Pk x)=xs.any fun y=>Rt y x
 | _,_,.nil,_=>rfl
 | y::xs,u::us,.cons r t,f=>by
  rw [kl,aG] at f
  rw [fH,fH,Kb r f.1,Bv t f.2]
theorem uS {A:Around} {s:Shared} {x:V} {v:Value} (rx:RelV x v) (fx:r9 x=true):∀ {xs:List V} {us:List Value},Vals xs us->xs.all r9=true->∀ u∈us,SeqAt.EqAt A s u v (Pk x u)
 | _,_,.nil,_=>fun u hu=>by cases hu
 | y::xs,u::us,.cons r t,f=>fun u' hu=>by
  rw [kl,aG] at f
  rcases aw.mp hu with rfl | hu
  ·rw [Kb r f.1];exact Zj r rx f.1 fx
  ·exact uS rx fx t f.2 u' hu
def Kc (x:V) (xs:List V):Bool:=xs.any fun y=>Rt y x
def rIn (K:ab) (neg:Bool):R2:=fun x y H Q=>∃ p xs,y=.ref p/\(bO K H p xs\/oX K H p xs)/\r9 x=true/\xs.all r9=true/\Q (.bl (if neg then !Kc x xs else Kc x xs)) H
theorem Su:Ht X (compareOp .In) (rIn X.K false):=by
 intro pins s σ H x y v u Q I rx ry h
 obtain ⟨p,xs,rfl,hq,fx,fs,q⟩:=h
 cases ry
 rcases hq with hq | hq
 ·obtain ⟨cq,r,pl,hz⟩:=I.list hq
  refine SeqAt.in_listAt (Pk x) pl.isList (fun w hw=>uS rx fx r fs w (by simpa using hw)) ⟨.bl _,H,I,rfl,?_⟩
  rw [show cq.toArray.any (Pk x)=cq.any (Pk x) by simp,Bv r fs]
  exact q
 ·obtain ⟨cq,r,pl,hz⟩:=I.tuple hq
  refine SeqAt.in_tupleAt (Pk x) pl (fun w hw=>uS rx fx r fs w (by simpa using hw)) ⟨.bl _,H,I,rfl,?_⟩
  rw [show cq.toArray.any (Pk x)=cq.any (Pk x) by simp,Bv r fs]
  exact q
theorem eR:Ht X (compareOp .NotIn) (rIn X.K true):=by
 intro pins s σ H x y v u Q I rx ry h
 obtain ⟨p,xs,rfl,hq,fx,fs,q⟩:=h
 cases ry
 rcases hq with hq | hq
 ·obtain ⟨cq,r,pl,hz⟩:=I.list hq
  refine SeqAt.notIn_listAt (Pk x) pl.isList (fun w hw=>uS rx fx r fs w (by simpa using hw)) ⟨.bl _,H,I,rfl,?_⟩
  rw [show cq.toArray.any (Pk x)=cq.any (Pk x) by simp,Bv r fs]
  exact q
 ·obtain ⟨cq,r,pl,hz⟩:=I.tuple hq
  refine SeqAt.notIn_tupleAt (Pk x) pl (fun w hw=>uS rx fx r fs w (by simpa using hw)) ⟨.bl _,H,I,rfl,?_⟩
  rw [show cq.toArray.any (Pk x)=cq.any (Pk x) by simp,Bv r fs]
  exact q
theorem bT:r0 X (.builtin "len") (fun xs H Q=>∃ p ys,xs=[.ref p]/\(bO X.K H p ys\/oX X.K H p ys)/\Q (.int ys.length) H):=by
 intro pins s σ H xs us Q I r h
 obtain ⟨p,ys,rfl,hq,q⟩:=h
 obtain ⟨u,rfl,rx⟩:=vals1 r
 cases rx
 have hn:=CA
 rcases hq with hq | hq
 ·obtain ⟨cq,r',pl,hz⟩:=I.list hq
  have hlen:=r'.length
  exact Calls.call_len_list pl.isList (by simp only [aU]<;>omega) ⟨.int ys.length,H,I.tok _,⟨s.toks+1,by rw [aU,hlen]⟩,q⟩
 ·obtain ⟨cq,r',pl,hz⟩:=I.tuple hq
  have hlen:=r'.length
  exact len_tuple pl (by simp only [aU]<;>omega) ⟨.int ys.length,H,I.tok _,⟨s.toks+1,by rw [aU,hlen]⟩,q⟩
theorem Bw:r0 X (.builtin "len") (fun xs H Q=>∃ z,xs=[.str z]/\z.length<=sizeLine/\Q (.int z.length) H):=by
 intro pins s σ H xs us Q I r h
 obtain ⟨z,rfl,hz,q⟩:=h
 obtain ⟨u,rfl,t,rfl⟩:=vals1 r
 have hn:=CA
 exact len_str (by omega) ⟨.int z.length,H,I.tok _,⟨_,rfl⟩,q⟩
theorem Kd:r0 X (.type "list") (fun xs H Q=>∃ p ys,xs=[.ref p]/\(bO X.K H p ys\/oX X.K H p ys)/\∀ l,H l=none->Q (.ref l) (upd H l (.lst ys))):=by
 intro pins s σ H xs us Q I r h
 obtain ⟨p,ys,rfl,hq,q⟩:=h
 obtain ⟨u,rfl,rx⟩:=vals1 r
 cases rx
 have fin:∀ (cq:List Value),Vals ys cq->ys.length<=sizeLine->∀ (h':Heap) (c':Nat),(∀ b o',s.heap.get? b=some o'->h'.get? b=some o')->
   h'.get? s.heap.objs.size=some { cls:=.type "list",dict:=none,data:=.seq cq.toArray c',slots:=#[] }->EP X pins σ Q (.ref s.heap.objs.size) { s with heap:=h' }:=fun cq r' hz h' c' kp e=>
  ⟨.ref s.heap.objs.size,_,I.laid (t':=s.toks) kp (au _) (show f6 X.prog X.w _ h' _ (.lst ys) from ⟨hz,cq,c',r',e⟩),rfl,q _ (I.cU.fresh (au _))⟩
 rcases hq with hq | hq
 ·obtain ⟨cq,r',pl,hz⟩:=I.list hq
  have hlen:=r'.length
  obtain ⟨o,ho,hc,n,hd⟩:=pl.isList
  exact call_list_seq p (.inl rfl) ho hc hd (fun h' c' kp e=>fin cq r' hz h' c' kp e) (by simp only [aU]<;>omega)
 ·obtain ⟨cq,r',pl,hz⟩:=I.tuple hq
  have hlen:=r'.length
  obtain ⟨o,ho,hc,n,hd⟩:=pl
  exact call_list_seq p (.inr rfl) ho hc hd (fun h' c' kp e=>fin cq r' hz h' c' kp e) (by simp only [aU]<;>omega)
theorem pY:r0 X (.type "tuple") (fun xs H Q=>∃ p ys,xs=[.ref p]/\((bO X.K H p ys/\∀ l,H l=none->Q (.ref l) (upd H l (.tup ys)))\/(oX X.K H p ys/\Q (.ref p) H))):=by
 intro pins s σ H xs us Q I r h
 obtain ⟨p,ys,rfl,h⟩:=h
 obtain ⟨u,rfl,rx⟩:=vals1 r
 cases rx
 rcases h with ⟨hq,q⟩ | ⟨hq,q⟩
 ·obtain ⟨cq,r',pl,hz⟩:=I.list hq
  have hlen:=r'.length
  refine call_tuple_list pl.isList (fun h' kp=>?_) (by simp only [aU]<;>omega)
  have I1:Inv X pins σ H { s with heap:=h' }:=I.kept (t':=s.toks) kp
  have I2:Inv X pins σ (upd H h'.objs.size (.tup ys)) { s with heap:=h'.push { cls:=.type "tuple",data:=.seq cq.toArray } }:=
   I1.laid (t':=s.toks) (fun b o e=>aA _ e) (au _) (show f6 X.prog X.w _ _ _ (.tup ys) from ⟨hz,cq,r',IsTup.new _ _⟩)
  exact ⟨.ref h'.objs.size,_,I2,rfl,q _ (I1.cU.fresh (au _))⟩
 ·obtain ⟨cq,r',pl,hz⟩:=I.tuple hq
  exact call_tuple_same pl ⟨.ref p,H,I,rfl,q⟩
def tyV (K:ab) (T:String) (x:V) (H:Hp):Prop:=match x with
 | .str _=>T="str"
 | .int _=>T="int"
 | .ref p=>(T="list"/\∃ xs,bO K H p xs)\/(T="tuple"/\∃ o,K.lookup p=some o/\o.cls=.type "tuple"/\o.dict=none)\/
   (T="dict"/\((∃ kvs,H p=some (.dK kvs))\/∃ kvs,H p=some (.dT kvs)))\/(T="set"/\∃ S n,H p=some (.set S n))
 | _=>False
theorem Uz {pins:List (Addr×Obj)} {σ:St} {H:Hp} {s:Shared} {T:String} {x:V} {v:Value} (I:Inv X pins σ H s) (r:RelV x v) (ty:tyV X.K T x H):
  s.TypeIs v T/\∀ a,v=.ref a->∃ ob,s.heap.get? a=some ob/\ob.dict=none:=by
 cases x with
 | str z=>
  obtain ⟨t,rfl⟩:=r
  cases (show T="str" from ty)
  exact ⟨typeIs_str s z t,fun _ e=>nomatch e⟩
 | int i=>
  obtain ⟨t,rfl⟩:=r
  cases (show T="int" from ty)
  exact ⟨typeIs_int s i t,fun _ e=>nomatch e⟩
 | ref p=>
  cases r
  rcases ty with ⟨rfl,xs,hq⟩ | ⟨rfl,o,hk,hc,hd⟩ | ⟨rfl,hk⟩ | ⟨rfl,S,n,hk⟩
  ·obtain ⟨cq,_,pl,_⟩:=I.list hq
   refine ⟨pl.isList.typeIs,fun a e=>?_⟩
   cases e
   obtain ⟨o,n,e,c,hd,_⟩:=pl
   exact ⟨o,e,hd⟩
  ·refine ⟨⟨o,I.MP p o hk,hc⟩,fun a e=>?_⟩
   cases e
   exact ⟨o,I.MP _ o hk,hd⟩
  ·have z:∃ o,s.heap.get? p=some o/\o.ExactDict:=by
    rcases hk with ⟨kvs,hk⟩ | ⟨kvs,hk⟩
    ·obtain ⟨_,_,_,_,o,_,_,e,ex,_⟩:=I.cU p _ hk
     exact ⟨o,e,ex⟩
    ·obtain ⟨_,_,_,_,o,_,_,e,ex,_⟩:=I.cU p _ hk
     exact ⟨o,e,ex⟩
   obtain ⟨o,e,ex⟩:=z
   refine ⟨⟨o,e,ex.1⟩,fun a e2=>?_⟩
   cases e2
   exact ⟨o,e,ex.2.1⟩
  ·obtain ⟨o,_,_,_,e,ex,_⟩:=I.cU p _ hk
   refine ⟨⟨o,e,ex.1⟩,fun a e2=>?_⟩
   cases e2
   exact ⟨o,e,ex.2.1⟩
 | _=>exact False.elim ty
def afq (K:ab) (T:String) (r:V->List V->Hp->VK->Prop) (to:TE):TE:=fun σ H Q=>to σ H fun x H1=>tyV K T x H1/\r x [] H1 Q
def tBM (K:ab) (T:String) (r:V->List V->Hp->VK->Prop) (to:TE) (t:TA):TE:=fun σ H Q=>to σ H fun x H1=>tyV K T x H1/\t σ H1 fun xs H2=>r x xs H2 Q
variable {o e:Expr} {es:List Expr} {to:TE} {t:TA} {name:Str} {apos mr:Pos} {T id:String} {r:V->List V->Hp->VK->Prop}
theorem Zk (pa:PlainAttrs T) (slot:Slot T name id) (WH:typeOf (.builtin id)=pure (.type "method_descriptor")) (hm:Ss X id r) (ho:PE X o to)
  (qf:attributeBase o name X.env (eval o X.env)=eval o X.env:=by rfl) (qg:(apos.endLine==mr.line)=true:=by rfl):PE X (.Call (.Attribute o name apos) [] [] mr) (afq X.K T r to):=by
 intro pins s σ H Q I h
 refine wpAny_Call_method0_late qf qg (f9 (ho pins s σ H _ I h) fun v s1 ⟨x,H1,I1,r1,ty,q1⟩=>?_)
 obtain ⟨h1,h2⟩:=Uz I1 r1 ty
 exact ⟨T,id,pa,slot,WH,h1,h2,Calls.callWith_builtin rfl (PySem.evalArgs_none (hm pins s1 σ H1 x [] v [] Q I1 r1 .nil q1))⟩
theorem gG (pa:PlainAttrs T) (slot:Slot T name id) (WH:typeOf (.builtin id)=pure (.type "method_descriptor")) (hm:Ss X id r) (ho:PE X o to) (ha:PA X (e::es) t)
  (qf:attributeBase o name X.env (eval o X.env)=eval o X.env:=by rfl)
  (xi:((backTo mr (starEach (e::es) X.env)).all (fun x=>!x.1)&&(backToKw mr (keywordEach [] X.env)).all (fun x=>x.1.isSome)
   && decide ((e::es).length+([]:List Keyword).length+(if ([]:List Keyword).isEmpty then 0 else 1)<30))=true:=by rfl)
  (qg:(apos.endLine==mr.line)=true:=by rfl) (hs:starEach (e::es) X.env=(false,eval e X.env)::starEach es X.env:=by rfl) (Fx:(backTo mr (starEach es X.env)).any (·.1)=false:=by rfl):
  PE X (.Call (.Attribute o name apos) (e::es) [] mr) (tBM X.K T r to t):=by
 intro pins s σ H Q I h
 refine wpAny_Call_method_late qf xi qg rfl (f9 (ho pins s σ H _ I h) fun v s1 ⟨x,H1,I1,r1,ty,q1⟩=>?_)
 obtain ⟨h1,h2⟩:=Uz I1 r1 ty
 refine ⟨T,id,pa,slot,WH,h1,h2,?_⟩
 have hA:=ha mr pins s1 σ H1 _ I1 q1
 rw [hs] at hA ⊢
 refine Calls.callWith_builtin (by show (false||(backTo mr (starEach es X.env)).any (·.1))=false;rw [Fx]<;>rfl) (Calls.evalArgs_plain ?_)
 exact f9 hA fun us s2 ⟨vs,H2,I2,r2,q2⟩=>hm pins s2 σ H2 x vs v us Q I2 r1 r2 q2
end
def MtM (X:Cx) (id:String) (r:V->List V->Hp->VK->Prop):Prop:=
 ∀ (pins:List (Addr×Obj)) (s:Shared) (σ:St) (H:Hp) (x:V) (xs:List V) (v:Value) (us:List Value) (Q:VK),Inv X pins σ H s->RelV x v->Vals xs us->r x xs H Q->
  wpAny (model X.prog X.w) X.A (call (.builtin id) (v::us)) (EP X pins σ Q) X.xe s
theorem Vals.one:∀ {x:V} {us:List Value},Vals [x] us->∃ u,us=[u]/\RelV x u
 | _,_,.cons r .nil=>⟨_,rfl,r⟩
theorem Vals.zero:∀ {us:List Value},Vals [] us->us=[]
 | _,.nil=>rfl
theorem Vals.dropLast {xs:List V} {us:List Value} (h:Vals xs us):Vals xs.dropLast us.dropLast:=by
 induction h with
 | nil=>exact .nil
 | cons r t ih=>
  cases t with
  | nil=>exact .nil
  | cons q t'=>exact .cons r ih
theorem PN {α:Type} (l:List α):l.eraseIdx (l.length - 1)=l.dropLast:=by
 induction l with
 | nil=>rfl
 | cons a r ih=>
  cases r with
  | nil=>rfl
  | cons b r=>
   have e:(a::b::r).length - 1=((b::r).length - 1)+1:=by
    have h1:(a::b::r).length=r.length+2:=rfl
    have h2:(b::r).length=r.length+1:=rfl
    omega
   rw [e,List.eraseIdx_cons_succ,ih]
   all_goals rfl
section
variable {X:Cx} {pins:List (Addr×Obj)} {σ:St} {H:Hp} {s:Shared} {l b:Addr} {xs ys zs:List V}
theorem Inv.W6 {cq its':List Value} {n:Nat} {f:Array Value->Array Value} {t':Nat} (I:Inv X pins σ H s) (hH:H l=some (.lst xs))
  (e:s.heap.get? l=some { cls:=.type "list",data:=.seq cq.toArray n }) (hf:f cq.toArray=its'.toArray) (hv:Vals ys its') (hz:ys.length<=sizeLine):
  Inv X pins σ (upd H l (.lst ys)) { s with heap:=s.heap.update l (Obj.mapSeq f),toks:=t' }:=by
 have q:=PySem.IsL.update e f
 rw [hf] at q
 refine I.write (x:=l) (e:=l) (by rw [hH];exact trivial) (.inl rfl) (fun b' u hb hu=>(Heap.get?_update_other s.heap (Obj.mapSeq f) (Ne.symm hb)).trans hu) ⟨_,q⟩ ?_
 exact ⟨hz,its',_,hv,q⟩
theorem Inv.afr {cq:List Value} {t':Nat} (I:Inv X pins σ H s) (hv:Vals ys cq) (hz:ys.length<=sizeLine):
  Inv X pins σ (upd H s.heap.objs.size (.lst ys)) { s with heap:=s.heap.push { cls:=.type "list",data:=.seq cq.toArray },toks:=t' }:=
 I.laid (fun _ _ q=>aA _ q) (au _) ⟨hz,cq,0,hv,aQ _ rfl⟩
theorem Inv.fresh (I:Inv X pins σ H s):H s.heap.objs.size=none:=I.cU.fresh (au _)
theorem Inv.PQ (I:Inv X pins σ H s) (hH:H l=some (.lst xs)):xs.length<=sizeLine/\∃ (cq:List Value) (n:Nat),Vals xs cq/\xs.length=cq.length/\s.heap.get? l=some { cls:=.type "list",data:=.seq cq.toArray n }:=by
 obtain ⟨z,cq,n,r,e⟩:=I.cU l _ hH
 exact ⟨z,cq,n,r,r.length,e⟩
theorem M9 {n:Nat} (h:n<=sizeLine):Builtin.List.listTooLong n=false:=by
 unfold Builtin.List.listTooLong
 exact decide_eq_false (by omega)
end
section
variable {X:Cx}
def W7:V->List V->Hp->VK->Prop:=fun x vs H Q=>∃ l xs y,x=.ref l/\vs=[y]/\H l=some (.lst xs)/\xs.length<sizeLine/\Q .jU (upd H l (.lst (xs++[y])))
theorem d8:MtM X "list.append" W7:=by
 intro pins s σ H x vs v us Q I rx rv h
 obtain ⟨l,xs,y,rfl,rfl,hH,hz,q⟩:=h
 cases rx
 obtain ⟨u,rfl,ru⟩:=rv.one
 obtain ⟨z,cq,n,r,hl,e⟩:=I.PQ hH
 refine call_meets F.slot_list_append ⟨_,e,rfl⟩ F.entry_list_append (F.args_list_append_2 _ _) (PySem.list_append l cq.toArray n u (by rw [aU];omega)) ⟨e,?_⟩
 refine ⟨.jU,_,I.W6 (its':=cq++[u]) hH e (by simp) (r.append (.cons ru .nil)) ?_,rfl,q⟩
 rw [ao,cP]
 omega
def W8:V->List V->Hp->VK->Prop:=fun x vs H Q=>∃ l b xs zs,x=.ref l/\vs=[.ref b]/\H l=some (.lst xs)/\H b=some (.lst zs)/\xs.length+zs.length<=sizeLine/\Q .jU (upd H l (.lst (xs++zs)))
theorem CC:MtM X "list.extend" W8:=by
 intro pins s σ H x vs v us Q I rx rv h
 obtain ⟨l,b,xs,zs,rfl,rfl,hH,hB,hz,q⟩:=h
 cases rx
 obtain ⟨u,rfl,ru⟩:=rv.one
 cases ru
 obtain ⟨z,cq,n,r,hl,e⟩:=I.PQ hH
 obtain ⟨z2,xr,n2,r2,Fy,e2⟩:=I.PQ hB
 have hsz:cq.toArray.size+xr.toArray.size<=sizeLine:=by rw [aU,aU];omega
 have UA:¬ (!cq.toArray.isEmpty&&Builtin.List.listTooLong (cq.toArray.size+xr.toArray.size))=true:=by
  rw [M9 hsz,Bool.and_false]
  exact a6
 refine call_meets F.slot_list_extend ⟨_,e,rfl⟩ F.entry_list_extend (F.args_list_extend_2 _ _)
  (AutoSeq1.list_extend_list_list_0 l cq.toArray n b xr.toArray n2 UA (by rw [aU];omega) (by omega)) ⟨e,e2,?_⟩
 refine ⟨.jU,_,I.W6 (its':=cq++xr) hH e (by simp) (r.append r2) ?_,rfl,q⟩
 rw [ao]
 omega
def afs:V->List V->Hp->VK->Prop:=fun x vs H Q=>∃ l xs y,x=.ref l/\vs=[]/\H l=some (.lst xs)/\xs[xs.length - 1]?=some y/\Q y (upd H l (.lst xs.dropLast))
theorem Zl:MtM X "list.pop" afs:=by
 intro pins s σ H x vs v us Q I rx rv h
 obtain ⟨l,xs,y,rfl,rfl,hH,hy,q⟩:=h
 cases rx
 have hus:=rv.zero
 subst hus
 obtain ⟨z,cq,n,r,hl,e⟩:=I.PQ hH
 obtain ⟨u,hu,ru⟩:=r.get hy
 have WI:cq.toArray[cq.toArray.size - 1]?=some u:=by
  show cq.toArray[cq.length - 1]?=some u
  rw [<- Array.getElem?_toList,<-hl]
  exact hu
 refine call_meets F.slot_list_pop ⟨_,e,rfl⟩ F.entry_list_pop (F.args_list_pop_1 _) (MeetsSeq.list_pop_last l cq.toArray n u WI (by rw [aU];omega)) ⟨e,?_⟩
 refine ⟨y,_,I.W6 (its':=cq.dropLast) hH e ?_ r.dropLast ?_,ru,q⟩
 ·show cq.toArray.eraseIdxIfInBounds (cq.toArray.size - 1)=cq.dropLast.toArray
  rw [aU,List.eraseIdxIfInBounds_toArray,PN]
 ·rw [List.length_dropLast]
  omega
def Zm:R2:=fun x y H Q=>∃ l b xs zs,x=.ref l/\y=.ref b/\H l=some (.lst xs)/\H b=some (.lst zs)/\xs.length+zs.length<=sizeLine/\∀ p,H p=none->Q (.ref p) (upd H p (.lst (xs++zs)))
theorem r_:Ht X (binaryOp .Add) Zm:=by
 intro pins s σ H x y v u Q I rx ry h
 obtain ⟨l,b,xs,zs,rfl,rfl,hH,hB,hz,q⟩:=h
 cases rx
 cases ry
 obtain ⟨z,cq,n,r,hl,e⟩:=I.PQ hH
 obtain ⟨z2,xr,n2,r2,Fy,e2⟩:=I.PQ hB
 refine PySem.P.add_list e e2 ?_ (by rw [aU,aU];omega)
 have ea:cq.toArray++xr.toArray=(cq++xr).toArray:=by simp
 rw [ea]
 exact ⟨.ref _,_,I.afr (t':=s.toks) (r.append r2) (by rw [ao];omega),rfl,q _ I.fresh⟩
end
section
variable {prog:Program} {w:World} {A:Around} {E:Value->Shared->Prop} {s:Shared}
set_option maxRecDepth 100000 in
end
section
variable {X:Cx}
end
theorem Vals.ints:∀ {ns:List Int} {us:List Value},Vals (ns.map V.int) us->IntsAre us ns
 | [],us,h=>by
  rw [iB] at h
  cases h
  exact IntsAre.nil
 | n::ns,us,h=>by
  rw [aC] at h
  cases h with
  | cons r t=>
   obtain ⟨k,rfl⟩:=r
   exact IntsAre.cons n k (Vals.ints t)
theorem Bx:∀ {us:List Value} {ns:List Int},IntsAre us ns->Vals (ns.map V.int) us
 | _,_,.nil=>by rw [iB];exact Paired.nil
 | _,_,.cons n t h=>by rw [aC];exact Paired.cons (show RelV (V.int n) (Value.int n t) from ⟨t,rfl⟩) (Bx h)
theorem Vals.strs:∀ {xs:List Str} {us:List Value},Vals (xs.map V.str) us->StrsAre us xs
 | [],us,h=>by
  rw [iB] at h
  cases h
  exact StrsAre.nil
 | x::xs,us,h=>by
  rw [aC] at h
  cases h with
  | cons r t=>
   obtain ⟨k,rfl⟩:=r
   exact StrsAre.cons x k (Vals.strs t)
theorem By:∀ {us:List Value} {xs:List Str},StrsAre us xs->Vals (xs.map V.str) us
 | _,_,.nil=>by rw [iB];exact Paired.nil
 | _,_,.cons x t h=>by rw [aC];exact Paired.cons (show RelV (V.str x) (Value.str x t) from ⟨t,rfl⟩) (By h)
theorem Vals.bls:∀ {bs:List Bool} {us:List Value},Vals (bs.map V.bl) us->us=bs.map Value.bool
 | [],us,h=>by
  rw [iB] at h
  cases h
  rfl
 | b::bs,us,h=>by
  rw [aC] at h
  cases h with
  | cons r t=>
   cases r
   rw [Vals.bls t,aC]
theorem Vals.W9 {a:Addr} {us:List Value} (r:Vals [V.ref a] us):us=[Value.ref a]:=by
 cases r with
 | cons r t=>
  cases t
  cases r
  rfl
section
variable {prog:Program} {w:World} {A:Around} {E:Value->Shared->Prop} {s:Shared} {l:Addr} {cq:List Value} {ns:List Int} {Q:Value->Shared->Prop}
theorem W_ (hh:A.handled=none) (hl:s.heap.IsList l cq.toArray) (hi:IntsAre cq ns)
  (h:∀ h' tk t',(∀ b o,s.heap.get? b=some o->h'.get? b=some o)->Q (.int ns.sum t') { s with heap:=h',toks:=tk }):wpAny (model prog w) A (call (.builtin "sum") [.ref l]) Q E s:=by
 obtain ⟨xs,e⟩:=hi.allInts.items
 have hn:numsOf (intItems xs).toList=ns:=by rw [<- e];exact hi.numsOf
 rw [nums_intItems] at hn
 rw [e] at hl
 refine PySem.sum_intListG hh hl fun h' tk t' hk=>?_
 have:=h h' tk t' hk
 rw [preSum_eq,cI (by simp),hn];exact this
end
section
variable {X:Cx}
def aft (K:ab):List V->Hp->VK->Prop:=fun vs H Q=>∃ (a:Addr) (ns:List Int),vs=[V.ref a]/\bO K H a (ns.map V.int)/\Q (.int ns.sum) H
theorem Zn (hc:X.calm=true):r0 X (.builtin "sum") (aft X.K):=by
 intro pins s σ H vs us Q I r h
 obtain ⟨a,ns,rfl,hs,q⟩:=h
 obtain ⟨cq,rv,hl,_⟩:=I.list hs
 rw [Vals.W9 r]
 exact W_ (I.ok.hd hc) hl.isList rv.ints fun h' tk t' hk=>⟨.int _,H,I.kept hk,⟨_,rfl⟩,q⟩
end
section
variable {X:Cx}
def UB (K:ab):V->List V->Hp->VK->Prop:=fun x xs H Q=>∃ (a:Addr) (ys:List V) (y:V) (j:Nat) (z:V),x=V.ref a/\xs=[y]/\bO K H a ys/\r9 y=true/\ys.all r9=true/\ys[j]?=some z/\Rt z y=true/\
 (∀ (m:Nat) (z':V),m<j->ys[m]?=some z'->Rt z' y=false)/\Q (.int (j:Nat)) H
theorem Ru {ys:List V} (f:ys.all r9=true) {j:Nat} {z:V} (h:ys[j]?=some z):r9 z=true:=bA.mp f z (aT h)
theorem Fz:Ss X "list.index" (UB X.K):=by
 intro pins s σ H x xs v us Q I rx rxs h
 obtain ⟨a,ys,y,j,z,rfl,rfl,hs,fy,fys,hz,hzj,tG,q⟩:=h
 cases rx
 cases rxs with
 | cons ry rt=>
  rename_i uy ut
  cases rt
  obtain ⟨cq,rv,⟨⟨cls,dd,data,sl⟩,n,ho,hc,hdn,hd⟩,hlen⟩:=I.list hs
  simp only at hc hd
  subst hc hd
  obtain ⟨u,hu,ru⟩:=rv.get hz
  obtain ⟨hjl,hje⟩:=aH.mp hu
  have hvl:=rv.length
  have hj:j<cq.toArray.size:=by simpa using hjl
  have hsl:=sizeLine_eq
  refine call_meets je ⟨_,ho,rfl⟩ PySem.F.entry_list_index (PySem.F.args_list_index_2 _ _)
   (SeqAt.list_indexAt a cq.toArray n dd sl uy (Pk y) j hj (by omega) ?_ ?_) ⟨ho,fun u' hu'=>uS ry fy rv fys u' (by simpa using hu'),?_⟩
  ·have e1:cq.toArray[j]=u:=by simpa using hje
   rw [e1,Kb ru (Ru fys hz)]
   exact hzj
  ·intro m hm hmj
   have Zo:m<cq.length:=by simpa using hm
   have hmy:m<ys.length:=by omega
   have WI:ys[m]?=some ys[m]:=a7 hmy
   obtain ⟨u2,Zp,ru2⟩:=rv.get WI
   obtain ⟨_,hme⟩:=aH.mp Zp
   have e1:cq.toArray[m]=u2:=by simpa using hme
   rw [e1,Kb ru2 (Ru fys WI)]
   exact tG m _ hmj WI
  ·exact ⟨.int (j:Nat),H,I.tok _,⟨_,rfl⟩,q⟩
end
section
variable {X:Cx}
end
theorem UC {prog:Program} {w:World} {A:Around} {E:Value->Shared->Prop} {s:Shared} {l:Addr} {items:Array Value} {Q:Value->Shared->Prop} (hl:s.heap.IsList l items)
  (h:∀ qA:Shared,qA={ s with heap:=s.heap.push { cls:=.type "list_iterator",data:=.fields #[.ref l,.int 0 0] } }->
   (qA.heap.IsListIter s.heap.objs.size l 0/\qA.heap.IsList l items)->l≠s.heap.objs.size->Q (.ref s.heap.objs.size) qA):wpAny (model prog w) A (pyIter (.ref l)) Q E s:=by
 have iX:l<s.heap.objs.size:=by obtain ⟨_,e,_⟩:=hl;exact a8 e
 exact wpAny_pyIter_list hl (h _ rfl ⟨⟨_,aQ _ rfl,rfl,rfl⟩,hl.push _⟩ (cj iX))
theorem M_ {prog:Program} {w:World} {A:Around} {bs:List Bool} {cq:List Value} (e:cq=bs.map Value.bool):
  TruthOf prog w A (fun i v=>cq.toArray[i]?=some v) (fun i=>bs.getD i false):=fun i v s Q E hv hq=>by
 have hv':cq[i]?=some v:=by simpa using hv
 rw [e,ax] at hv'
 obtain ⟨b,hb,rfl⟩:=aZ.mp hv'
 have hg:bs.getD i false=b:=by rw [bD,hb]<;>rfl
 have Uv:Q (bs.getD i false) s:=hq
 rw [hg] at Uv
 exact wpAny_truthy_bool Uv
theorem any_range:∀ bs:List Bool,(aY bs.length).any (fun i=>bs.getD i false)=bs.any id
 | []=>rfl
 | b::bs=>by
  rw [aq,dC,fH,List.any_map,fH,<-any_range bs]
  all_goals rfl
section
variable {X:Cx}
def afw (K:ab):List V->Hp->VK->Prop:=fun vs H Q=>∃ (a:Addr) (bs:List Bool),vs=[V.ref a]/\bO K H a (bs.map V.bl)/\Q (.bl (bs.any id)) H
theorem UD (hc:X.calm=true):r0 X (.builtin "any") (afw X.K):=by
 intro pins s σ H vs us Q I r h
 obtain ⟨a,bs,rfl,hs,q⟩:=h
 obtain ⟨cq,rv,hl,_⟩:=I.list hs
 rw [Vals.W9 r]
 have hb:=rv.bls
 refine call_any_walk (UC hl.isList fun qA e2 st tH=>?_)
 subst e2
 refine ⟨_,_,_,_,_,_,_,rfl,Walks.list (A:=X.A.in1) (I.ok.hd hc) _ a tH cq.toArray,st,M_ hb,fun h' tk hk=>?_⟩
 refine ⟨.bl _,H,I.kept fun b o eo=>hk b o (fun Zq=>?_) (aA _ eo),?_,q⟩
 ·rcases aw.mp Zq with e1 | Zq
  ·exact absurd (e1▸a8 eo) (fG _)
  ·cases Zq
 ·show Value.bool _=Value.bool _
  rw [<- any_range,hb,aU,U]
end
mutual
inductive Dp (K:ab) (H:Hp):V->PyData->Prop
 | jU:Dp K H .jU .none
 | bl (b:Bool):Dp K H (.bl b) (.bool b)
 | int (i:Int):Dp K H (.int i) (.int i)
 | str (x:Str):Dp K H (.str x) (.str x)
 | lst {a:Addr} {xs:List V} {ds:List PyData}:bO K H a xs->DR K H xs ds->Dp K H (.ref a) (.list ds)
 | tup {a:Addr} {xs:List V} {ds:List PyData}:oX K H a xs->DR K H xs ds->Dp K H (.ref a) (.tuple ds)
inductive DR (K:ab) (H:Hp):List V->List PyData->Prop
 | nil:DR K H [] []
 | cons {v:V} {vs:List V} {d:PyData} {ds:List PyData}:Dp K H v d->DR K H vs ds->DR K H (v::vs) (d::ds)
end
section
variable {X:Cx} {pins:List (Addr×Obj)} {σ:St} {H:Hp} {s:Shared}
mutual
theorem Dp.reads (I:Inv X pins σ H s):∀ (d:PyData) (v:V) (u:Value),Dp X.K H v d->RelV v u->∃ as,Reads s.heap u d as
 | .none,_,_,h,r=>by
  cases h
  cases r
  exact ⟨_,Reads.none⟩
 | .bool b,_,_,h,r=>by
  cases h
  cases r
  exact ⟨_,Reads.bool b⟩
 | .int i,_,_,h,r=>by
  cases h
  obtain ⟨t,rfl⟩:=r
  exact ⟨_,Reads.int i t⟩
 | .str x,_,_,h,r=>by
  cases h
  obtain ⟨t,rfl⟩:=r
  exact ⟨_,Reads.str x t⟩
 | .list ds,_,_,h,r=>by
  cases h with
  | lst hs ha=>
   cases r
   obtain ⟨cq,rv,⟨o,n,ho,hc,_,hd⟩,_⟩:=I.list hs
   obtain ⟨as,hr⟩:=Dp.readsAll I ds _ cq ha rv
   exact ⟨_,Reads.list ho hc hd hr⟩
 | .tuple ds,_,_,h,r=>by
  cases h with
  | tup hs ha=>
   cases r
   obtain ⟨cq,rv,⟨o,ho,hc,n,hd⟩,_⟩:=I.tuple hs
   obtain ⟨as,hr⟩:=Dp.readsAll I ds _ cq ha rv
   exact ⟨_,Reads.tuple ho hc hd hr⟩
 | .dict _,_,_,h,_=>by cases h
theorem Dp.readsAll (I:Inv X pins σ H s):∀ (ds:List PyData) (vs:List V) (us:List Value),DR X.K H vs ds->Vals vs us->∃ as,ReadsAll s.heap us ds as
 | [],_,_,h,r=>by
  cases h
  cases r
  exact ⟨_,ReadsAll.nil⟩
 | d::ds,_,_,h,r=>by
  cases h with
  | cons h1 h2=>
   cases r with
   | cons r1 r2=>
    obtain ⟨as,q1⟩:=Dp.reads I d _ _ h1 r1
    obtain ⟨bs,q2⟩:=Dp.readsAll I ds _ _ h2 r2
    exact ⟨_,ReadsAll.cons q1 q2⟩
end
end
section
variable {X:Cx}
def afx (K:ab):R2:=fun x y H Q=>∃ d e,Dp K H x d/\Dp K H y e/\SeqAt.shaped d=true/\SeqAt.shaped e=true/\Q (.bl (PyData.eqv d e)) H
def afy (K:ab):R2:=fun x y H Q=>∃ d e,Dp K H x d/\Dp K H y e/\SeqAt.shaped d=true/\SeqAt.shaped e=true/\Q (.bl (!PyData.eqv d e)) H
theorem UE (hu:X.A.units+64<cLine):Ht X (compareOp .Eq) (afx X.K):=by
 intro pins s σ H x y v u Q I rx ry h
 obtain ⟨d,e,hd,he,sd,se,q⟩:=h
 obtain ⟨as,r1⟩:=Dp.reads I d x v hd rx
 obtain ⟨bs,r2⟩:=Dp.reads I e y u he ry
 exact SeqAt.compareEq_shaped r1 r2 sd se hu ⟨.bl _,H,I,rfl,q⟩
theorem PR (hu:X.A.units+64<cLine):Ht X (compareOp .NotEq) (afy X.K):=by
 intro pins s σ H x y v u Q I rx ry h
 obtain ⟨d,e,hd,he,sd,se,q⟩:=h
 obtain ⟨as,r1⟩:=Dp.reads I d x v hd rx
 obtain ⟨bs,r2⟩:=Dp.reads I e y u he ry
 exact SeqAt.compareNe_shaped r1 r2 sd se hu ⟨.bl _,H,I,rfl,q⟩
end
abbrev UG (h:Heap) (c:Addr) (v:Option Value):Prop:=h.IsCell c v
def afz (scope sc:Scope):Scope:=
 { scope with names:=scope.names.map fun (n,k)=>if (k==.free&&sc.kind==.function&&sc.names.lookup n==some .cell) then (n,.cell) else (n,k) }
def fh (cells:List (Str×Addr)):List (Str×NameKind)->List (Str×Addr)->List (Str×Addr)
 | [],acc=>acc
 | (n,k)::r,acc=>if k==.free then fh cells r ((n,(cells.lookup n).getD 0)::acc) else fh cells r acc
theorem Bz (env:Env) (f:Str×NameKind->List (Str×Addr)->Sem (ForInStep (List (Str×Addr))))
  (hf:∀ n k c,f (n,k) c=if k==.free then (do let a<-cellOf env n;pure (.yield ((n,a)::c))) else pure (.yield c)):
  ∀ (names:List (Str×NameKind)) (acc:List (Str×Addr)),(∀ y∈names,y.2=.free->∃ c,env.cells.lookup y.1=some c)->forIn names acc f=pure (fh env.cells names acc)
 | [],acc,_=>by rw [List.forIn_nil];rfl
 | (n,k)::r,acc,h=>by
  rw [rb,hf]
  have ih:=fun acc=>Bz env f hf r acc fun y hy=>h y (ba _ hy)
  unfold fh
  by_cases hk:(k==NameKind.free)=true
  ·rw [if_pos hk,if_pos hk]
   obtain ⟨c,hc⟩:=h (n,k) bC (by simpa using hk)
   have e:cellOf env n=pure c:=by unfold cellOf;rw [hc]
   rw [e]
   have e2:(env.cells.lookup n).getD 0=c:=by rw [hc];rfl
   rw [e2]
   exact ih _
  ·rw [if_neg hk,if_neg hk]
   exact ih _
theorem FA {scope:Scope} {env:Env} (h:∀ y∈scope.names,y.2=.free->∃ c,env.cells.lookup y.1=some c):closureFor scope env=pure (fh env.cells scope.names []):=by
 simp only [closureFor]
 rw [Bz env _ (fun n k c=>rfl) scope.names [] h]
 rfl
theorem mem_lookup {α:Type}:∀ {l:List (Str×α)} {n:Str} {c:α},(n,c)∈l->∃ c',l.lookup n=some c'
 | (k,v)::r,n,c,h=>by
  rw [dD]
  cases hb:n==k with
  | true=>exact ⟨_,rfl⟩
  | false=>
   rcases aw.mp h with e | h
   ·cases e;simp at hb
   ·exact mem_lookup h
theorem tI {cells:List (Str×Addr)}:∀ {names:List (Str×NameKind)} {acc:List (Str×Addr)} {n:Str} {c:Addr},(n,c)∈fh cells names acc->(n,c)∈acc\/((n,.free)∈names/\c=(cells.lookup n).getD 0)
 | [],_,_,_,h=>.inl h
 | (m,k)::r,acc,n,c,h=>by
  unfold fh at h
  split at h
  ·rename_i hk
   have hk:k=.free:=by simpa using hk
   rcases tI h with h | ⟨h1,h2⟩
   ·rcases aw.mp h with e | h
    ·cases e;exact .inr ⟨hk▸bC,rfl⟩
    ·exact .inl h
   ·exact .inr ⟨ba _ h1,h2⟩
  ·rcases tI h with h | ⟨h1,h2⟩
   ·exact .inl h
   ·exact .inr ⟨ba _ h1,h2⟩
theorem xu {cells:List (Str×Addr)}:∀ {names:List (Str×NameKind)} {acc:List (Str×Addr)} {p:Str×Addr},p∈acc->p∈fh cells names acc
 | [],_,_,h=>h
 | (m,k)::r,acc,p,h=>by
  unfold fh
  split
  ·exact xu (ba _ h)
  ·exact xu h
theorem tJ {cells:List (Str×Addr)}:∀ {names:List (Str×NameKind)} {acc:List (Str×Addr)} {n:Str},(n,.free)∈names->(n,(cells.lookup n).getD 0)∈fh cells names acc
 | (m,k)::r,acc,n,h=>by
  unfold fh
  rcases aw.mp h with e | h
  ·cases e
   exact xu bC
  ·split
   ·exact tJ h
   ·exact tJ h
theorem uT:∀ {names:List (Str×NameKind)} {h:Heap} {acc:List (Str×Addr)} {x:Str} {c:Addr},(x,c)∈cellsFrom h.objs.size names acc->
  (x,c)∈acc\/((x,.cell)∈names/\h.objs.size<=c/\UG (pushCells h names) c none)
 | [],_,_,_,_,h=>.inl h
 | (n,k)::r,h,acc,x,c,hm=>by
  unfold cellsFrom at hm
  unfold pushCells
  split at hm
  ·rename_i hk
   rw [if_pos hk]
   have hk:k=.cell:=by simpa using hk
   rw [<- cR h { cls:=.type "cell",data:=.cell none }] at hm
   rcases uT hm with hm | ⟨h1,h2,h3⟩
   ·rcases aw.mp hm with e | hm
    ·cases e
     exact .inr ⟨hk▸bC,au _,_,pushCells_keeps r _ _ _ (aQ _ rfl),rfl⟩
    ·exact .inl hm
   ·rw [cR] at h2
    exact .inr ⟨ba _ h1,oJ h2,h3⟩
  ·rename_i hk
   rw [if_neg hk]
   rcases uT hm with hm | ⟨h1,h2,h3⟩
   ·exact .inl hm
   ·exact .inr ⟨ba _ h1,h2,h3⟩
theorem zq:∀ {names:List (Str×NameKind)} {n:Nat} {acc:List (Str×Addr)} {p:Str×Addr},p∈acc->p∈cellsFrom n names acc
 | [],_,_,_,h=>h
 | (m,k)::r,n,acc,p,h=>by
  unfold cellsFrom
  split
  ·exact zq (ba _ h)
  ·exact zq h
theorem CF:∀ {names:List (Str×NameKind)} {n:Nat} {acc:List (Str×Addr)} {x:Str},(x,.cell)∈names->∃ c,(x,c)∈cellsFrom n names acc
 | (m,k)::r,n,acc,x,h=>by
  unfold cellsFrom
  rcases aw.mp h with e | h
  ·cases e
   exact ⟨n,zq bC⟩
  ·split
   ·exact CF h
   ·exact CF h
theorem CG:∀ {names:List (Str×NameKind)} {h:Heap} {acc:List (Str×Addr)} {x y:Str} {c:Addr},(∀ p∈acc,p.2<h.objs.size)->(∀ x y c,(x,c)∈acc->(y,c)∈acc->x=y)->
  (x,c)∈cellsFrom h.objs.size names acc->(y,c)∈cellsFrom h.objs.size names acc->x=y
 | [],_,_,_,_,_,_,hi,h1,h2=>hi _ _ _ h1 h2
 | (n,k)::r,h,acc,x,y,c,hl,hi,h1,h2=>by
  unfold cellsFrom at h1 h2
  split at h1
  ·rename_i hk
   rw [if_pos hk] at h2
   rw [<- cR h { cls:=.type "cell",data:=.cell none }] at h1 h2
   refine CG (h:=h.push _) (fun p hp=>?_) (fun x y c a b=>?_) h1 h2
   ·rw [cR]
    rcases aw.mp hp with rfl | hp
    ·exact Nat.lt_succ_self _
    ·exact Nat.lt_succ_of_lt (hl p hp)
   ·rcases aw.mp a with e | a<;>rcases aw.mp b with e' | b
    ·cases e;cases e';rfl
    ·cases e;exact absurd (hl _ b) (fG _)
    ·cases e';exact absurd (hl _ a) (fG _)
    ·exact hi _ _ _ a b
  ·rename_i hk
   rw [if_neg hk] at h2
   exact CG hl hi h1 h2
theorem Na {M:Model} {A:Around} {E:Value->Shared->Prop} {s:Shared} {scope:Scope} {globals:Addr} {closure:List (Str×Addr)} {qual:Str} {func:Option Addr} {code:Value} {around:Env} {builtins:Addr} {Q:Env->Shared->Prop}
  (h:Q (newEnv scope s.heap.objs.size globals (cellsFrom (s.heap.objs.size+1) scope.names closure) qual func code (some around) builtins)
   { s with heap:=pushCells (s.heap.push { cls:=.type "dict",data:=.dict #[] }) scope.names }):
  wpAny M A (newFunctionEnv scope globals closure [] qual func code (some around) builtins) Q E s:=by
 simp only [newFunctionEnv,Option.isSome_some,if_true]
 refine wpAny_bind (wpAny_alloc ?_)
 refine wpAny_bind (wpAny_layCells _ (fun n k c=>rfl) scope.names closure _ _ ?_)
 rw [show ({ s with heap:=s.heap.push { cls:=.type "dict",data:=.dict #[] } }:Shared).heap.objs.size=s.heap.objs.size+1 from cR ..]
 rw [List.forIn_nil]
 exact wpAny_bind (wpAny_pure (wpAny_pure h))
theorem xw {sc:Scope}:∀ {names:List (Str×NameKind)} {x:Str} {k:NameKind},
  (names.map fun (n,k)=>if (k==NameKind.free&&sc.kind==.function&&sc.names.lookup n==some .cell) then (n,NameKind.cell) else (n,k)).lookup x=some k->
  ∃ k',names.lookup x=some k'/\(k=k'\/(k'=.free/\k=.cell))
 | [],_,_,h=>by simp at h
 | (n,UH)::r,x,k,h=>by
  have ih:=@xw sc r x k
  have h':gA x ((if (UH==NameKind.free&&sc.kind==.function&&sc.names.lookup n==some .cell)=true then (n,NameKind.cell) else (n,UH))::(r.map _))=some k:=h
  cases hx:x==n with
  | true=>
   simp only [dD,hx]
   by_cases hc:(UH==NameKind.free&&sc.kind==.function&&sc.names.lookup n==some .cell)=true
   ·rw [if_pos hc] at h'
    simp only [dD,hx] at h'
    cases h'
    simp only [aG,beq_iff_eq] at hc
    exact ⟨UH,rfl,.inr ⟨hc.1.1,rfl⟩⟩
   ·rw [if_neg hc] at h'
    simp only [dD,hx] at h'
    cases h'
    exact ⟨_,rfl,.inl rfl⟩
  | false=>
   simp only [dD,hx]
   by_cases hc:(UH==NameKind.free&&sc.kind==.function&&sc.names.lookup n==some .cell)=true
   ·rw [if_pos hc] at h'
    simp only [dD,hx] at h'
    exact ih h'
   ·rw [if_neg hc] at h'
    simp only [dD,hx] at h'
    exact ih h'
structure Nb (N:List Str) (sc scope:Scope) (own:List (Str×Nat)):Prop where
 kind:scope.kind=.function
 uniq:∀ y∈scope.names,scope.names.lookup y.1=some y.2
 ix:∀ p∈own,N[p.2]?=some p.1
 free:∀ y∈scope.names,y.2=.free->sc.names.lookup y.1=some .cell\/sc.names.lookup y.1=some .free
 own:∀ y∈scope.names,y.2=.local\/y.2=.cell->y.1∈own.map (·.1)\/y.1∉N
def wipe (σ:St):List Nat->St
 | []=>σ
 | v::vs=>(wipe σ vs).set v none
theorem xx (σ:St):∀ vs:List Nat,(wipe σ vs).length=σ.length
 | []=>rfl
 | v::vs=>by unfold wipe;rw [List.length_set,xx σ vs]
theorem CH {σ:St} {i:Nat} {x:V}:∀ {vs:List Nat},(wipe σ vs)[i]?=some (some x)->σ[i]?=some (some x)/\i∉vs
 | [],h=>⟨h,by simp⟩
 | v::vs,h=>by
  unfold wipe at h
  by_cases hi:v=i
  ·subst hi
   by_cases hv:v<(wipe σ vs).length
   ·rw [oH hv] at h;cases h
   ·rw [oY (by simpa using hv)] at h;cases h
  ·rw [qy hi] at h
   obtain ⟨h1,h2⟩:=CH h
   exact ⟨h1,by simp only [aw,not_or];exact ⟨fun e=>hi e.symm,h2⟩⟩
abbrev Cx.Ke (X:Cx) (s:Shared) (H:Hp) (scope:Scope) (oj:Env) (fp:List Addr):Cx:={ X with Hx:=s,Ym:=H,env:=oj,outer:=X.stack,ex:=fp,fn:=fun x=>scope.names.lookup x==some .cell,pn:=[],xe:=fun _ _=>False }
section
variable {X:Cx} {pins:List (Addr×Obj)} {σ:St} {H:Hp} {s:Shared}
theorem Nc {scope:Scope} {own:List (Str×Nat)} {fp:List Addr} (I:Inv X pins σ H s) (ok:Nb X.N X.env.scope scope own) (hN:X.N.Nodup) (hfp:∀ b∈fp,Aj X pins H b/\b<s.heap.objs.size):
  Inv (X.Ke s H scope (compEnvC scope (cellsFrom (s.heap.objs.size+1) scope.names (fh X.env.cells scope.names [])) s.heap.objs.size X.env) fp) [] (wipe σ (own.map (·.2))) H { s with heap:=pushCells (s.heap.push { cls:=.type "dict",data:=.dict #[] }) scope.names }:=by
 have zX:∀ y∈scope.names,y.2=.free->∃ c,X.env.cells.lookup y.1=some c:=fun y hy e=>by
  rcases ok.free y hy e with k | k
  ·exact I.ok.has _ (.inl k)
  ·exact I.ok.has _ (.inr k)
 generalize Nd:compEnvC scope (cellsFrom (s.heap.objs.size+1) scope.names (fh X.env.cells scope.names [])) s.heap.objs.size X.env=oj
 have kp:∀ b o,s.heap.get? b=some o->(pushCells (s.heap.push { cls:=.type "dict",data:=.dict #[] }) scope.names).get? b=some o:=fun b o e=>pushCells_keeps _ _ _ _ (aA _ e)
 have hL:oj.locals=s.heap.objs.size:=by rw [<- Nd];rfl
 have EX:oj.cells=cellsFrom (s.heap.objs.size+1) scope.names (fh X.env.cells scope.names []):=by rw [<- Nd];rfl
 have hsc:oj.scope=afz scope X.env.scope:=by rw [<- Nd];rfl
 rw [<- cR s.heap { cls:=.type "dict",data:=.dict #[] }] at EX
 have cm:∀ {y c},(y,c)∈fh X.env.cells scope.names []->X.env.cells.lookup y=some c/\c<s.heap.objs.size:=fun {y c} hm=>by
  rcases tI hm with hm | ⟨h1,rfl⟩
  ·cases hm
  ·obtain ⟨c,hc⟩:=zX _ h1 rfl
   rw [hc]
   obtain ⟨w,z⟩:=I.cell _ _ hc
   exact ⟨rfl,z.lt⟩
 have mem:∀ {y c},oj.cells.lookup y=some c->(X.env.cells.lookup y=some c/\c<s.heap.objs.size)\/(s.heap.objs.size+1<=c/\UG (pushCells (s.heap.push { cls:=.type "dict",data:=.dict #[] }) scope.names) c none):=fun {y c} e=>by
  rw [EX] at e
  rcases uT (PySem.mem_of_lookup e) with hm | ⟨_,h2,h3⟩
  ·exact .inl (cm hm)
  ·rw [cR] at h2;exact .inr ⟨h2,h3⟩
 have look:∀ {y},scope.names.lookup y=some .free->∃ c,oj.cells.lookup y=some c/\X.env.cells.lookup y=some c:=fun {y} hl=>by
  have hy:(y,NameKind.free)∈scope.names:=PySem.mem_of_lookup hl
  obtain ⟨c',e'⟩:=mem_lookup (zq (names:=scope.names) (n:=(s.heap.push { cls:=.type "dict",data:=.dict #[] }).objs.size) (tJ (cells:=X.env.cells) (acc:=[]) hy))
  rw [<- EX] at e'
  refine ⟨c',e',?_⟩
  rw [EX] at e'
  rcases uT (PySem.mem_of_lookup e') with hm | ⟨h1,_,_⟩
  ·exact (cm hm).1
  ·have:=ok.uniq _ h1
   rw [hl] at this;cases this
 have okB:(X.Ke s H scope oj fp).Ok:=by
  refine ⟨I.ok.mod,by show oj.scope.kind=_;rw [hsc];exact ok.kind,by show oj.globals=_;rw [<- Nd];exact I.ok.glob,by show oj.builtins=_;rw [<- Nd];exact I.ok.blt,by show s.heap.objs.size<=oj.locals;rw [hL];exact au _,
   fun y z c e1 e2=>?_,fun y hy=>?_,fun y c z e=>?_,I.ok.hd,I.ok.frames,.inl rfl,fun b hb=>⟨?_,fun y c e z=>?_⟩,I.bs,bB I.ok.TN I.sz,fun b o e hb=>?_,fun b hb z=>?_,I.stack,I.Rk⟩
  ·have e1:oj.cells.lookup y=some c:=e1
   have e2:oj.cells.lookup z=some c:=e2
   rw [EX] at e1 e2
   refine CG (fun p hp=>?_) (fun y z c a b=>I.ok.inj y z c (cm a).1 (cm b).1) (PySem.mem_of_lookup e1) (PySem.mem_of_lookup e2)
   rw [cR]
   exact Nat.lt_succ_of_lt (cm (y:=p.1) (c:=p.2) hp).2
  ·show ∃ c,oj.cells.lookup y=some c
   have key:∀ k,oj.kindOf y=some k->(k=.cell\/k=.free)->∃ c,oj.cells.lookup y=some c:=fun k hk TX=>by
    unfold Env.kindOf at hk
    rw [hsc] at hk
    obtain ⟨k',e,r⟩:=xw hk
    have:k'=.cell\/k'=.free:=by
     rcases r with rfl | ⟨rfl,_⟩
     ·exact TX
     ·exact .inr rfl
    rcases this with rfl | rfl
    ·obtain ⟨c,hm⟩:=CF (n:=(s.heap.push { cls:=.type "dict",data:=.dict #[] }).objs.size) (acc:=fh X.env.cells scope.names []) (PySem.mem_of_lookup e)
     obtain ⟨c',e'⟩:=mem_lookup hm
     exact ⟨c',by rw [EX];exact e'⟩
    ·obtain ⟨c,h1,_⟩:=look e
     exact ⟨c,h1⟩
   rcases hy with hy | hy
   ·exact key _ hy (.inl rfl)
   ·exact key _ hy (.inr rfl)
  ·have z:(scope.names.lookup y==some NameKind.cell)=true:=z
   have z:scope.names.lookup y=some .cell:=by simpa using z
   have e:oj.cells.lookup y=some c:=e
   rw [EX] at e
   rcases uT (PySem.mem_of_lookup e) with hm | ⟨_,h2,_⟩
   ·rcases tI hm with hm | ⟨h1,_⟩
    ·cases hm
    ·have q:=ok.uniq _ h1
     rw [z] at q;cases q
   ·rw [cR] at h2
    exact oJ h2
  ·show b≠oj.locals
   rw [hL];exact cj (hfp b hb).2
  ·have e:oj.cells.lookup y=some c:=e
   rcases mem e with ⟨h1,_⟩ | ⟨h1,_⟩
   ·exact (hfp b hb).1.2.2.2.2.1 y c h1 z
   ·have h2:s.heap.objs.size+1<=b:=by rw [<- z];exact h1
    exact absurd (bo (hfp b hb).2 (oJ h2)) (fG _)
  ·rcases (hfp b hb).1.2.2.2.1 with z | z
   ·exact I.ok.Ua b o e z
   ·exact absurd (bo (a8 e) (bB I.ok.TN z)) (fG _)
  ·rcases aw.mp (I.Pw b z) with z | z
   ·exact (hfp b hb).1.2.1 z
   ·exact (hfp b hb).1.2.2.1 z
 refine ⟨okB,rfl,I.bare,Un.kept kp,⟨fun _=>none,?_,fun i y av e1 e2 e3=>?_⟩,fun y c e=>?_,?_,fun y c e=>?_,fun p hp=>?_,I.cU.kept kp,by rw [xx];exact I.len⟩
 ·show Heap.Ns _ oj.locals _
  rw [hL]
  exact Heap.Ns.keeps (Heap.Ns.new ..) fun b o e=>pushCells_keeps _ _ _ _ e
 ·obtain ⟨e2,tH⟩:=CH e2
  have hfr:scope.names.lookup y=some .free/\(oj.kindOf y=some .cell\/oj.kindOf y=some .free):=by
   have key:∀ k,oj.scope.names.lookup y=some k->k=.local\/k=.cell\/k=.free->scope.names.lookup y=some .free/\(oj.kindOf y=some .cell\/oj.kindOf y=some .free):=fun k hk TX=>by
    have hk0:=hk
    rw [hsc] at hk
    obtain ⟨k',e,r⟩:=xw hk
    have no:¬ (k'=.local\/k'=.cell):=fun hh=>by
     rcases ok.own _ (PySem.mem_of_lookup e) hh with e' | e'
     ·obtain ⟨p,hp,hpy⟩:=aO.mp e'
      have e3:=ok.ix p hp
      have:p.1=y:=hpy
      rw [this] at e3
      exact tH (aO.mpr ⟨p,hp,Fi hN e3 e1⟩)
     ·exact e' (aT e1)
    rcases r with rfl | ⟨rfl,rfl⟩
    ·rcases TX with rfl | rfl | rfl
     ·exact absurd (.inl rfl) no
     ·exact absurd (.inr rfl) no
     ·exact ⟨e,.inr hk0⟩
    ·exact ⟨e,.inl hk0⟩
   have e3:Vis oj.scope y:=e3
   rcases e3 with e3 | e3 | e3
   ·exact key _ e3 (.inl rfl)
   ·exact key _ e3 (.inr (.inl rfl))
   ·exact key _ e3 (.inr (.inr rfl))
  obtain ⟨m,hn,hl⟩:=I.loc
  have afB:Vis X.env.scope y:=(ok.free _ (PySem.mem_of_lookup hfr.1) rfl).elim (fun k=>.inr (.inl k)) (fun k=>.inr (.inr k))
  obtain ⟨w,r,q⟩:=hl i y av e1 e2 afB
  refine ⟨w,r,.inr ⟨hfr.2,?_⟩⟩
  obtain ⟨c,h1,h2⟩:=look hfr.1
  rcases q with ⟨k,_⟩ | ⟨_,c',e',z⟩
  ·have k:X.env.scope.names.lookup y=some .local:=k
   rcases ok.free _ (PySem.mem_of_lookup hfr.1) rfl with k' | k'<;>rw [show X.env.scope.names.lookup y=_ from k'] at k<;>cases k
  ·rw [h2] at e';cases e'
   exact ⟨c,h1,z.keeps kp⟩
 ·have e:oj.cells.lookup y=some c:=e
  rcases mem e with ⟨h1,_⟩ | ⟨_,z⟩
  ·obtain ⟨w,z⟩:=I.cell y c h1
   exact ⟨w,z.keeps kp⟩
  ·exact ⟨_,z⟩
 ·show H oj.locals=none
  rw [hL];exact I.cU.fresh (au _)
 ·have e:oj.cells.lookup y=some c:=e
  rcases mem e with ⟨h1,_⟩ | ⟨h1,_⟩
  ·exact I.tF y c h1
  ·exact I.cU.fresh (oJ h1)
 ·exact absurd (show p∈([]:List (Addr×Obj))++[] from hp) (by simp)
theorem Zr {E:Value->Shared->Prop} {D:Addr} {xs:List V} {y:V} {v:Value} {Q:Value->Shared->Prop} (I:Inv X pins σ H s) (hD:H D=some (.lst xs)) (hz:xs.length<sizeLine) (r:RelV y v)
  (h:∀ s',Inv X pins σ (upd H D (.lst (xs++[y]))) s'->Q .none s'):wpAny (model X.prog X.w) X.A (call (.builtin "list.append") [.ref D,v]) Q E s:=by
 obtain ⟨hz',cq,n,ri,e⟩:=I.cU D _ hD
 have hl:=ri.length
 refine append_at (hsz:=by rw [aU];omega) e fun h' sb Pu=>?_
 refine h { s with heap:=h' } (I.write (t':=s.toks) (by rw [hD];trivial) (.inl rfl) (fun b u hb q=>(sb.2 b hb).trans q) ⟨_,Pu⟩ ⟨by rw [ao];exact hz,cq++[v],n+1,ri.append (.cons r .nil),?_⟩)
 rw [Pu]
 simp
def PTs (X:Cx) (ifs:List Expr) (t:TT):Prop:=
 ∀ (pins:List (Addr×Obj)) (s:Shared) (σ:St) (H:Hp) (Q:Bool->Hp->Prop),Inv X pins σ H s->t σ H Q->
  wpAny (model X.prog X.w) X.A (forIn ifs true fun c r=>if r=true then do let ok<-isTrue c X.env (eval c X.env);pure (ForInStep.yield ok) else pure (ForInStep.yield r)) (TP X pins σ Q) X.xe s
def PU:TT:=fun _ H Q=>Q true H
theorem kz:PTs X [] PU:=fun _ _ _ H _ I h=>wpAny_tests_nil ⟨H,I,h⟩
theorem Xa {c:Expr} {t:TT} (h:PT X c t):PTs X [c] t:=fun pins s σ H Q I hw=>wpAny_tests_one (h pins s σ H Q I hw)
end
theorem Sv {α:Type} {t:Sem α} {Q Q':α->Shared->Prop} {M:Model} {A:Around} {E:Value->Shared->Prop} {s:Shared} (h:wpAny M A t Q (fun _ _=>False) s) (hQ:∀ a s,Q a s->Q' a s):wpAny M A t Q' E s:=wpAny_mono h hQ fun _ _ z=>False.elim z
theorem Kf {prog:Program} {w:World} {A:Around} {R:Result->Shared->Prop} {s:Shared} {elt target iter:Expr} {ifs:List Expr} {scope:Scope} {pos:Pos} {it acc:Value} {env:Env} (I:Nat->Shared->Prop)
  (turn:∀ n s,I n s->wpAny (model prog w) A (pyNext it) (fun r cY=>match r with
   | none=>R (.ok .next) cY
   | some v=>wpAny (model prog w) A (letOwnedTupleGo target it v) (fun _ Yu=>wpAny (model prog w) A (assign target env v) (fun _ qA=>
     wpAny (model prog w) A (forIn ifs true fun c r=>if r=true then do let ok<-isTrue c env (eval c env);pure (ForInStep.yield ok) else pure (ForInStep.yield r)) (fun ok MS=>
      if ok=true then wpAny (model prog w) A (eval elt env) (fun x ab6=>
       wpAny (model prog w) A (call (.builtin "list.append") [acc,x]) (fun _ ab7=>∃ m,m<n/\I m ab7) (notedBy (model prog w) A env fun e s'=>R (.error e) s') ab6) (notedBy (model prog w) A env fun e s'=>R (.error e) s') MS
      else ∃ m,m<n/\I m MS) (notedBy (model prog w) A env fun e s'=>R (.error e) s') qA) (notedBy (model prog w) A env fun e s'=>R (.error e) s') Yu) (notedBy (model prog w) A env fun e s'=>R (.error e) s') cY) (notedBy (model prog w) A env fun e s'=>R (.error e) s') s)
  (n:Nat) (h:I n s):
  codeAny (model prog w) A (.compLoop (.ListComp elt [⟨target,iter,ifs,0⟩] scope pos) 0 it acc env) R s:=by
 refine codeAny_loop rfl I (fun n s hI=>?_) n h
 show wpAny _ A ((compTurn (.ListComp elt [⟨target,iter,ifs,0⟩] scope pos) 0 it acc env).onRaise (fun x=>do noteFrame x env;theTreesLotGoes x)) _ _ s
 refine wpAny_noted ?_
 rw [compTurn_list]
 refine wpAny_bind (wpAny_standAt (wpAny_bind (wpAny_mono (turn n s hI) (fun r cY Sw=>?_) fun _ _ h'=>h')))
 cases r with
 | none=>exact wpAny_pure Sw
 | some v=>
  refine wpAny_bind (wpAny_mono Sw (fun _ Yu ab8=>?_) fun _ _ h'=>h')
  refine wpAny_bind (wpAny_mono ab8 (fun _ qA UI=>wpAny_bind (wpAny_mono UI (fun ok MS Xb=>?_) fun _ _ h'=>h')) fun _ _ h'=>h')
  cases ok with
  | false=>exact wpAny_pure ⟨rfl,Xb⟩
  | true=>
   exact wpAny_bind (wpAny_bind (wpAny_mono Xb (fun x ab6 afC=>wpAny_bind (wpAny_mono afC (fun _ ab7 afD=>wpAny_pure (wpAny_pure ⟨rfl,afD⟩)) fun _ _ h'=>h')) fun _ _ h'=>h'))
section
variable {X:Cx}
def tLc (wi:TI) (g:TG) (tt:TT) (te:TE) (vs:List Nat):TE:=fun σ H Q=>wi σ H fun J H1=>∀ D,H1 D=none->∃ W:Nat->Nat->Hp->Prop,(∃ m,W 0 m (upd H1 D (.lst [])))/\∀ i m H,W i m H->
 (J.stop i H/\Q (.ref D) H)\/(J.go i H/\∃ Nx:Hp->Prop,(∀ H',Nx H'->∃ m',m'<m/\W (i+1) m' H')/\∀ x H',J.Pz i H x H'->g x (wipe σ vs) H' fun kH H2=>wipe kH vs=wipe σ vs/\tt kH H2 fun b H3=>
  if b=true then te kH H3 fun y H4=>∃ acc,H4 D=some (.lst acc)/\acc.length<sizeLine/\Nx (upd H4 D (.lst (acc++[y]))) else Nx H3)
theorem Rv {pins:List (Addr×Obj)} {s:Shared} {σ:St} {H:Hp} {Q:VK} {elt tg iter:Expr} {ifs:List Expr} {scope:Scope} {own:List (Str×Nat)} {pos pos':Pos} {wi:TI} {g:TG} {tt:TT} {te:TE} {use:Option (Value->Sem Unit)} {Qf:Value->Shared->Prop}
  (hc:X.calm=true) (hN:X.N.Nodup) (I:Inv X pins σ H s) (hi:PI X tg iter wi) (ok:Nb X.N X.env.scope scope own)
  (hg:∀ (s:Shared) (H:Hp) (C:Addr) (cl:List (Str×Addr)) (fp:List Addr),PG (X.Ke s H scope (compEnvC scope cl C X.env) fp) tg g) (ht:∀ (s:Shared) (H:Hp) (C:Addr) (cl:List (Str×Addr)) (fp:List Addr),PTs (X.Ke s H scope (compEnvC scope cl C X.env) fp) ifs tt)
  (he:∀ (s:Shared) (H:Hp) (C:Addr) (cl:List (Str×Addr)) (fp:List Addr),PE (X.Ke s H scope (compEnvC scope cl C X.env) fp) elt te) (hs:∀ x,foldedSetIterable iter X.env x=pure x)
  (h:tLc wi g tt te (own.map (·.2)) σ H Q)
  (hRR:∀ D C s' m H',Inv X pins σ H' s'->Q (.ref D) H'->s'.heap.Ns C m->Aj X pins H' C->compPost (model X.prog X.w) X.A X.xe use Qf (.ref D) C (.ok .next) s'):
  wpAny (model X.prog X.w) X.A (comprehension (.ListComp elt [⟨tg,iter,ifs,0⟩] scope pos) scope X.env pos' (newList []) false (eval iter X.env) use) Qf X.xe s:=by
 have zX:∀ y∈scope.names,y.2=.free->∃ c,X.env.cells.lookup y.1=some c:=fun y hy e=>by
  rcases ok.free y hy e with k | k
  ·exact I.ok.has _ (.inl k)
  ·exact I.ok.has _ (.inr k)
 refine wpAny_comprehension_free (use:=use) rfl hs (FA zX) ok.kind (fun y hy e=>by rw [ok.uniq y hy,e])
  (f9 (hi pins s σ H _ I h) fun xv s1 hx=>f9 hx fun itv s2 h2=>?_)
 obtain ⟨it,fp,tn,J,H2,e,I2,T,st2,f2,q⟩:=h2
 subst e
 refine wpAny_newObj_type (Na ?_) (by show 0<=sizeLine;decide)
 generalize hD:s2.heap.objs.size=D
 have hDn:H2 D=none:=I2.cU.fresh (Nat.le_of_eq hD)
 obtain ⟨W,⟨m0,w0⟩,turn⟩:=q D hDn
 generalize hs3:({ s2 with heap:=s2.heap.push { cls:=.type "list",data:=.seq ([]:List Value).toArray } }:Shared)=s3
 have I3:Inv X pins σ (upd H2 D (.lst [])) s3:=by
  rw [<- hs3]
  refine I2.laid (t':=s2.toks) (fun b o e=>aA _ e) (Nat.le_of_eq hD) ⟨a0 _,[],0,.nil,?_⟩
  rw [<- hD]
  exact aQ _ rfl
 have h3:s3.heap=s2.heap.push { cls:=.type "list",data:=.seq ([]:List Value).toArray }:=by rw [<- hs3]
 have sz:∀ b∈fp,b<s2.heap.objs.size:=fun b hb=>by
  obtain ⟨o,e,_⟩:=T.obj _ _ st2 b hb
  exact a8 e
 have f3:∀ b∈fp,Aj X pins (upd H2 D (.lst [])) b/\b<s3.heap.objs.size:=fun b hb=>by
  have iX:=sz b hb
  refine ⟨⟨?_,(f2 b hb).2⟩,by rw [h3,cR];exact Nat.lt_succ_of_lt iX⟩
  rw [aD (by rw [<- hD];exact cj iX)]
  exact (f2 b hb).1
 have st3:tn 0 s3.heap:=T.keep _ _ _ st2 fun b _ o e=>by rw [h3];exact aA _ e
 have I4:=Nc I3 ok hN f3
 have pg:=hg s3 (upd H2 D (.lst [])) s3.heap.objs.size (cellsFrom (s3.heap.objs.size+1) scope.names (fh X.env.cells scope.names [])) fp
 have pt:=ht s3 (upd H2 D (.lst [])) s3.heap.objs.size (cellsFrom (s3.heap.objs.size+1) scope.names (fh X.env.cells scope.names [])) fp
 have pe:=he s3 (upd H2 D (.lst [])) s3.heap.objs.size (cellsFrom (s3.heap.objs.size+1) scope.names (fh X.env.cells scope.names [])) fp
 show codeAny _ _ (.compStart (.ListComp elt [⟨tg,iter,ifs,0⟩] scope pos) 0 (.ref it) (.ref D) (compEnvC scope (cellsFrom (s3.heap.objs.size+1) scope.names (fh X.env.cells scope.names [])) s3.heap.objs.size X.env)) (compPost (model X.prog X.w) X.A X.xe use Qf (.ref D) s3.heap.objs.size) { s3 with heap:=pushCells (s3.heap.push { cls:=.type "dict",data:=.dict #[] }) scope.names }
 have nfp:∀ b∈fp,(upd H2 D (.lst [])) b=none:=fun b hb=>(f3 b hb).1.1
 generalize hce:compEnvC scope (cellsFrom (s3.heap.objs.size+1) scope.names (fh X.env.cells scope.names [])) s3.heap.objs.size X.env=ce at I4 pg pt pe ⊢
 have cL:ce.locals=s3.heap.objs.size:=by subst hce;rfl
 generalize hH3:upd H2 D (.lst [])=H3 at I3 I4 pg pt pe w0 nfp f3
 generalize hs4:({ s3 with heap:=pushCells (s3.heap.push { cls:=.type "dict",data:=.dict #[] }) scope.names }:Shared)=s4 at I4 ⊢
 have st4:tn 0 s4.heap:=T.keep _ _ _ st3 fun b _ o e=>by rw [<- hs4];exact pushCells_keeps _ _ _ _ (aA _ e)
 have PF:∀ {f7:St} {H':Hp} {s':Shared},Inv (X.Ke s3 H3 scope ce fp) [] f7 H' s'->(∀ b∈fp,H' b=none)->∀ b∈fp,Aj (X.Ke s3 H3 scope ce fp) [] H' b:=fun {f7 H' s'} I' hn b hb=>
  ⟨hn b hb,(I'.ok.exf b hb).1,I'.ok.Ub b hb,.inl hb,fun x c e=>(I'.ok.exf b hb).2 x c e,fun p hp=>absurd (show p∈([]:List (Addr×Obj))++[] from hp) (by simp)⟩
 have loop:codeAny (model X.prog X.w) X.A (.compLoop (.ListComp elt [⟨tg,iter,ifs,0⟩] scope pos) 0 (.ref it) (.ref D) ce) (compPost (model X.prog X.w) X.A X.xe use Qf (.ref D) s3.heap.objs.size) s4:=by
  refine Kf (fun n s'=>∃ i H',Inv (X.Ke s3 H3 scope ce fp) [] (wipe σ (own.map (·.2))) H' s'/\tn i s'.heap/\(∀ b∈fp,H' b=none)/\W i n H') ?_ m0 ⟨0,H3,I4,st4,nfp,w0⟩
  rintro n s5 ⟨i,H5,I5,st5,n5,w5⟩
  rcases turn i n H5 w5 with ⟨stop,qq⟩ | ⟨go,Nx,hNx,step⟩
  ·have td:=T.done (X.Ke s3 H3 scope ce fp) rfl rfl rfl hc i [] s5 _ H5 (fun _ _=>False) I5 (PF I5 n5) st5 stop
   refine Sv td fun r s6 ⟨hr,I6⟩=>?_
   subst hr
   have I7:Inv X pins σ H5 s6:=I3.abG (ch:=fp) I6.os I6.base I6.cU I6.bare fun b hb=>⟨(f3 b hb).1.2.2.2.1,(f3 b hb).1.2.1,(f3 b hb).1.2.2.2.2.1,(f3 b hb).1.2.2.2.2.2⟩
   have nC:H5 s3.heap.objs.size=none:=by
    have z:H5 ce.locals=none:=I6.free
    rw [cL] at z
    exact z
   obtain ⟨m,hn,_⟩:=I6.loc
   have hn:s6.heap.Ns ce.locals m:=hn
   rw [cL] at hn
   exact hRR D s3.heap.objs.size s6 m H5 I7 qq hn (I3.J8 (au _) nC)
  ·have ti:=T.item (X.Ke s3 H3 scope ce fp) rfl rfl rfl hc i [] s5 _ H5 (fun _ _=>False) I5 (PF I5 n5) st5 go
   refine Sv ti fun r s6 ⟨u,hr,h6⟩=>?_
   subst hr
   refine Sv h6 fun _ s7 ⟨x,H7,I7,r7,y7,st7,n7⟩=>?_
   have I7':=I7.pinned (PF I7 n7) (T.obj _ _ st7)
   refine Sv (pg _ s7 _ H7 x u _ I7' r7 (step x H7 y7)) fun _ s8 ⟨σ8,H8,I8,hw8,q8⟩=>?_
   refine Sv (pt _ s8 σ8 H8 _ I8 q8) fun b s9 ⟨H9,I9,q9⟩=>?_
   have fin:∀ {s':Shared} {H':Hp},Inv (X.Ke s3 H3 scope ce fp) ([]++Fo fp s7.heap) σ8 H' s'->Nx H'->∃ m,m<n/\∃ i H',Inv (X.Ke s3 H3 scope ce fp) [] (wipe σ (own.map (·.2))) H' s'/\tn i s'.heap/\(∀ b∈fp,H' b=none)/\W i m H':=fun {s' H'} I' nx=>by
    obtain ⟨m',hm,w'⟩:=hNx H' nx
    have ab9:∀ b∈fp,∀ o,s7.heap.get? b=some o->s'.heap.get? b=some o/\H' b=none:=fun b hb o e=>
     let z:=I'.pin (b,o) (bq _ (bq _ (Ak hb e)))
     ⟨z.1,z.2.1⟩
    have hl:(wipe σ (own.map (·.2))).length=σ8.length:=by rw [<- hw8,xx]
    refine ⟨m',hm,i+1,H',(I'.Bt (pins:=[])).weak hl (fun j v e=>?_),T.keep _ _ _ st7 fun b hb o e=>(ab9 b hb o e).1,fun b hb=>?_,w'⟩
    ·rw [<- hw8] at e
     exact (CH e).1
    ·obtain ⟨o,e,_⟩:=T.obj _ _ st7 b hb
     exact (ab9 b hb o e).2
   cases b with
   | false=>
    simp only [bW,if_false] at q9 ⊢
    exact fin I9 q9
   | true=>
    simp only [if_true] at q9 ⊢
    refine Sv (pe _ s9 σ8 H9 _ I9 q9) fun z s10 ⟨yv,H10,I10,r10,acc,afG,afH,nx⟩=>?_
    exact Zr (X:=X.Ke s3 H3 scope ce fp) I10 afG afH r10 fun s11 I11=>fin I11 nx
 exact codeAny_compStart_list loop (T.self X.A 0 _ _ _ st4 loop)
theorem tK {elt tg iter:Expr} {ifs:List Expr} {scope:Scope} {own:List (Str×Nat)} {pos:Pos} {wi:TI} {g:TG} {tt:TT} {te:TE} (hc:X.calm=true) (hN:X.N.Nodup) (hi:PI X tg iter wi) (ok:Nb X.N X.env.scope scope own)
  (hg:∀ (s:Shared) (H:Hp) (C:Addr) (cl:List (Str×Addr)) (fp:List Addr),PG (X.Ke s H scope (compEnvC scope cl C X.env) fp) tg g) (ht:∀ (s:Shared) (H:Hp) (C:Addr) (cl:List (Str×Addr)) (fp:List Addr),PTs (X.Ke s H scope (compEnvC scope cl C X.env) fp) ifs tt)
  (he:∀ (s:Shared) (H:Hp) (C:Addr) (cl:List (Str×Addr)) (fp:List Addr),PE (X.Ke s H scope (compEnvC scope cl C X.env) fp) elt te) (hs:∀ x,foldedSetIterable iter X.env x=pure x:=by intro _;rfl):
  PE X (.ListComp elt [⟨tg,iter,ifs,0⟩] scope pos) (tLc wi g tt te (own.map (·.2))):=by
 intro pins s σ H Q I h
 rw [eval_ListComp]
 refine Rv hc hN I hi ok hg ht he hs h fun D C s' m H' I' q hn f=>⟨m,hn,fun Yv sb=>?_⟩
 obtain ⟨f0,f1,f2,f3,f4,f5⟩:=f
 exact ⟨.ref D,H',I'.turned (t':=s'.toks) (fun b o hb e=>(sb.2 b hb).trans e) f0 f1 f3 f4 f5,rfl,q⟩
theorem UJ {i:Nat} {y:Str} {py:Pos} {elt tg iter:Expr} {ifs:List Expr} {scope:Scope} {own:List (Str×Nat)} {pos ab_:Pos} {wi:TI} {g:TG} {tt:TT} {te:TE} (hc:X.calm=true) (hN:X.N.Nodup) (hy:X.N[i]?=some y) (hyl:X.env.scope.names.lookup y=some .local)
  (hsw:swapsWith (.ListComp elt [⟨tg,iter,ifs,0⟩] scope pos) (some (.Name y py)) ab_.line X.env=pure true) (hi:PI X tg iter wi) (ok:Nb X.N X.env.scope scope own)
  (hg:∀ (s:Shared) (H:Hp) (C:Addr) (cl:List (Str×Addr)) (fp:List Addr),PG (X.Ke s H scope (compEnvC scope cl C X.env) fp) tg g) (ht:∀ (s:Shared) (H:Hp) (C:Addr) (cl:List (Str×Addr)) (fp:List Addr),PTs (X.Ke s H scope (compEnvC scope cl C X.env) fp) ifs tt)
  (he:∀ (s:Shared) (H:Hp) (C:Addr) (cl:List (Str×Addr)) (fp:List Addr),PE (X.Ke s H scope (compEnvC scope cl C X.env) fp) elt te) (hs:∀ x,foldedSetIterable iter X.env x=pure x:=by intro _;rfl):
  PS X (.Assign [.Name y py] (.ListComp elt [⟨tg,iter,ifs,0⟩] scope pos) ab_) (Y9 (tLc wi g tt te (own.map (·.2))) (Jc i)):=by
 intro pins s σ H D I h
 rw [exec_Assign_Name_used _ _ _ _ hsw]
 refine wpAny_bind (wpAny_standAt (wpAny_bind ?_))
 show wpAny _ X.A (do let _<-comprehension (.ListComp elt [⟨tg,iter,ifs,0⟩] scope pos) scope X.env (firstIterPos [⟨tg,iter,ifs,0⟩] pos) (newList []) false (eval iter X.env) (some (assign (.Name y py) X.env))) _ _ s
 have h:tLc wi g tt te (own.map (·.2)) σ H (fun x H1=>Jc i x σ H1 D.nx):=h
 refine wpAny_bind (f9 (Rv (Qf:=fun _ s'=>SP X pins D .next s') hc hN I hi ok hg ht he hs h fun L C s' m H' I' q hn f=>?_) fun _ s' hq=>wpAny_pure (wpAny_pure hq))
 show wpAny _ _ (assign (.Name y py) X.env (.ref L)) _ _ _
 refine wpAny_assign_Name (Jb (v:=V.ref L) I' hN hy (.inl hyl) rfl (fun s2 I2 ⟨a,sb,ha⟩=>?_) (.inr hyl))
 obtain ⟨f0,f1,f2,f3,f4,f5⟩:=f
 have haC:C≠a:=by
  rcases ha with z | z
  ·rw [z];exact f1
  ·exact fun e=>f4 y a z e.symm
 refine ⟨m,hn.sameBut sb haC,fun h3 sb3=>?_⟩
 exact ⟨_,H',I2.turned (t':=s2.toks) (fun b o hb e=>(sb3.2 b hb).trans e) f0 f1 f3 f4 f5,q⟩
theorem Xc {elt:Expr} {gs:List Comprehension} {scope:Scope} {pos py:Pos} {y:Str} {l:Nat} {env:Env} (hk:env.scope.kind=.function) (hy:env.scope.names.lookup y=some .local) (hl:(py.line==pos.line)=true)
  (ha:(scope.names.any fun (n,k)=>n==y&&(k==.local||k==.cell))=false):swapsWith (.ListComp elt gs scope pos) (some (.Name y py)) l env=pure true:=by
 have ky:env.kindOf y=some .local:=hy
 have hb:env.blockKind=.function:=by unfold Env.blockKind;rw [hk];rfl
 unfold swapsWith
 simp only [hb,ky,ha,Expr.pos,hl]
 rfl
end
theorem UK {lo:Int} {n:Nat} {g:TG} {tt:TT} {te:TE} {vs:List Nat} {σ:St} {H1:Hp} {D:Addr} {Qd:Hp->Prop} (Pv:Nat->Hp->Prop) (h0:Pv 0 (upd H1 D (.lst [])))
  (hs:∀ i H,i<n->Pv i H->g (.int (lo+i)) (wipe σ vs) H fun kH H2=>wipe kH vs=wipe σ vs/\tt kH H2 fun b H3=>
   if b=true then te kH H3 fun y H4=>∃ acc,H4 D=some (.lst acc)/\acc.length<sizeLine/\Pv (i+1) (upd H4 D (.lst (acc++[y]))) else Pv (i+1) H3) (hd:∀ H,Pv n H->Qd H):
  ∃ W:Nat->Nat->Hp->Prop,(∃ m,W 0 m (upd H1 D (.lst [])))/\∀ i m H,W i m H->
   ((WD lo n).stop i H/\Qd H)\/((WD lo n).go i H/\∃ Nx:Hp->Prop,(∀ H',Nx H'->∃ m',m'<m/\W (i+1) m' H')/\∀ x H',(WD lo n).Pz i H x H'->g x (wipe σ vs) H' fun kH H2=>wipe kH vs=wipe σ vs/\tt kH H2 fun b H3=>
    if b=true then te kH H3 fun y H4=>∃ acc,H4 D=some (.lst acc)/\acc.length<sizeLine/\Nx (upd H4 D (.lst (acc++[y]))) else Nx H3):=by
 refine ⟨fun i m H=>m=n - i/\i<=n/\Pv i H,⟨n,by simp,a0 _,h0⟩,?_⟩
 rintro i m H ⟨rfl,hi,p⟩
 by_cases iX:i<n
 ·refine .inr ⟨iX,Pv (i+1),fun H' p'=>⟨n - (i+1),by omega,rfl,iX,p'⟩,fun x H' y=>?_⟩
  obtain ⟨e,y⟩:=y
  subst e y
  exact hs i _ iX p
 ·have e:i=n:=by omega
  subst e
  exact .inl ⟨au _,hd H p⟩
theorem Xd {K:ab} {a:Addr} {xs:List V} {g:TG} {tt:TT} {te:TE} {vs:List Nat} {σ:St} {H1:Hp} {D:Addr} {Qd:Hp->Prop} (Pv:Nat->Hp->Prop) (h0:Pv 0 (upd H1 D (.lst []))) (hl:∀ i H,i<=xs.length->Pv i H->bO K H a xs)
  (hs:∀ i x H,xs[i]?=some x->Pv i H->g x (wipe σ vs) H fun kH H2=>wipe kH vs=wipe σ vs/\tt kH H2 fun b H3=>
   if b=true then te kH H3 fun y H4=>∃ acc,H4 D=some (.lst acc)/\acc.length<sizeLine/\Pv (i+1) (upd H4 D (.lst (acc++[y]))) else Pv (i+1) H3) (hd:∀ H,Pv xs.length H->Qd H):
  ∃ W:Nat->Nat->Hp->Prop,(∃ m,W 0 m (upd H1 D (.lst [])))/\∀ i m H,W i m H->
   ((Uj K a).stop i H/\Qd H)\/((Uj K a).go i H/\∃ Nx:Hp->Prop,(∀ H',Nx H'->∃ m',m'<m/\W (i+1) m' H')/\∀ x H',(Uj K a).Pz i H x H'->g x (wipe σ vs) H' fun kH H2=>wipe kH vs=wipe σ vs/\tt kH H2 fun b H3=>
    if b=true then te kH H3 fun y H4=>∃ acc,H4 D=some (.lst acc)/\acc.length<sizeLine/\Nx (upd H4 D (.lst (acc++[y]))) else Nx H3):=by
 refine ⟨fun i m H=>m=xs.length - i/\i<=xs.length/\Pv i H,⟨xs.length,by simp,a0 _,h0⟩,?_⟩
 rintro i m H ⟨rfl,hi,p⟩
 have q:=hl i H hi p
 by_cases iX:i<xs.length
 ·refine .inr ⟨⟨xs,xs[i],q,by simp [iX]⟩,Pv (i+1),fun H' p'=>⟨xs.length - (i+1),by omega,rfl,iX,p'⟩,fun x H' y=>?_⟩
  obtain ⟨e,y⟩:=y
  subst e
  exact hs i x _ (y xs q) p
 ·have e:i=xs.length:=by omega
  subst e
  exact .inl ⟨⟨xs,q,au _⟩,hd H p⟩
def aca (N:List Str) (sc scope:Scope) (own:List (Str×Nat)):Bool:=
 (match scope.kind with | .function=>true | _=>false)&&(scope.names.all fun y=>decide (scope.names.lookup y.1=some y.2))&&(own.all fun p=>decide (N[p.2]?=some p.1))&&
  (scope.names.all fun y=>match y.2 with
   | .free=>(match sc.names.lookup y.1 with | some .cell=>true | some .free=>true | _=>false)
   | .local=>decide (y.1∈own.map (·.1))||decide (y.1∉N)
   | .cell=>decide (y.1∈own.map (·.1))||decide (y.1∉N)
   | _=>true)
theorem gH {N:List Str} {sc scope:Scope} {own:List (Str×Nat)} (h:aca N sc scope own=true):Nb N sc scope own:=by
 unfold aca at h
 simp only [aG,bA,decide_eq_true_eq] at h
 obtain ⟨⟨⟨h1,h2⟩,h3⟩,h4⟩:=h
 refine ⟨?_,h2,h3,fun y hy e=>?_,fun y hy e=>?_⟩
 ·split at h1
  ·assumption
  ·cases h1
 ·have q:=h4 y hy
  simp only [e] at q
  split at q<;>first | exact .inl (by assumption) | exact .inr (by assumption) | cases q
 ·have q:=h4 y hy
  rcases e with e | e<;>(simp only [e,Bool.or_eq_true,decide_eq_true_eq] at q;exact q)
section
variable {prog:Program} {w:World} {A:Around} {R:Result->Shared->Prop} {s:Shared} {elt t0 i0 t1 i1:Expr} {akD akE:List Expr} {scope:Scope} {pos:Pos} {it acc:Value} {env:Env}
end
section
variable {X:Cx}
end
section
variable {κ:Type} [DecidableEq κ]
def jj (kvs:List (κ×V)) (k:κ):Option V:=(kvs.find? fun kv=>decide (kv.1=k)).map (·.2)
def putK (kvs:List (κ×V)) (k:κ) (v:V):List (κ×V):=
 if (kvs.any fun kv=>decide (kv.1=k))=true then kvs.map (fun kv=>if kv.1=k then (kv.1,v) else kv) else kvs++[(k,v)]
def w9 (kvs:List (κ×V)) (k:κ):List (κ×V):=kvs.filter fun kv=>decide (kv.1≠k)
theorem i6 {p:κ×V} {r:List (κ×V)} {k:κ} (e:p.1=k):jj (p::r) k=some p.2:=by simp [jj,ff,e]
theorem g8 {p:κ×V} {r:List (κ×V)} {k:κ} (e:¬ p.1=k):jj (p::r) k=jj r k:=by simp [jj,ff,e]
theorem FC (k:κ):∀ kvs:List (κ×V),(kvs.any fun kv=>decide (kv.1=k))=(jj kvs k).isSome
 | []=>rfl
 | p::r=>by
  rw [fH]
  by_cases e:p.1=k
  ·simp only [i6 e,decide_eq_true e,Bool.true_or,Option.isSome_some]
  ·rw [g8 e,decide_eq_false e,Bool.false_or];exact FC k r
theorem DS (kvs:List (κ×V)) (k:κ) (v:V):(putK kvs k v).length<=kvs.length+1:=by
 unfold putK
 split
 ·rw [U];omega
 ·rw [ao,aq,rf];omega
theorem Nf {kvs:List (κ×V)} {k:κ} (v:V) (h:jj kvs k=none):putK kvs k v=kvs++[(k,v)]:=by
 unfold putK
 rw [FC,h]
 exact if_neg (by decide)
theorem Ct.rO {o:Option V} {u:Option Value} (r:Ct o u):o.isSome=u.isSome:=by
 cases o with
 | none=>cases u with
  | none=>rfl
  | some _=>exact (show False from r).elim
 | some _=>cases u with
  | none=>exact (show False from r).elim
  | some _=>rfl
theorem KV.val {kvs:List (κ×V)} {vs:List (κ×Value)} (r:KV kvs vs) (k:κ):Ct (jj kvs k) (valueAt vs k):=by
 unfold KV at r
 induction r with
 | nil=>exact True.intro
 | @cons p q ps qs h t ih=>
  obtain ⟨h1,h2⟩:=h
  by_cases e:p.1=k
  ·have e':q.1=k:=h1.symm.trans e
   have b:valueAt (q::qs) k=some q.2:=by simp [valueAt,ff,e']
   rw [i6 e,b];exact h2
  ·have e':¬ q.1=k:=fun z=>e (h1.trans z)
   have b:valueAt (q::qs) k=valueAt qs k:=by simp [valueAt,ff,e']
   rw [g8 e,b];exact ih
theorem KV.any {kvs:List (κ×V)} {vs:List (κ×Value)} (r:KV kvs vs) (k:κ):(kvs.any fun kv=>decide (kv.1=k))=vs.any fun kv=>decide (kv.1=k):=by
 unfold KV at r
 induction r with
 | nil=>rfl
 | cons h t ih=>rw [fH,fH,ih,h.1]
theorem KV.Zs {kvs:List (κ×V)} {vs:List (κ×Value)} (r:KV kvs vs) (k:κ) {y:V} {u:Value} (ry:RelV y u):
  KV (kvs.map fun kv=>if kv.1=k then (kv.1,y) else kv) (vs.map fun kv=>if kv.1=k then (kv.1,u) else kv):=by
 unfold KV at r ⊢
 induction r with
 | nil=>exact .nil
 | @cons p q ps qs h t ih=>
  rw [aC,aC]
  refine .cons ?_ ih
  obtain ⟨h1,h2⟩:=h
  by_cases e:p.1=k
  ·rw [if_pos e,if_pos (h1.symm.trans e)];exact ⟨h1,ry⟩
  ·rw [if_neg e,if_neg (fun z=>e (h1.trans z))];exact ⟨h1,h2⟩
theorem KV.put {kvs:List (κ×V)} {vs:List (κ×Value)} (r:KV kvs vs) (k:κ) {y:V} {u:Value} (ry:RelV y u):KV (putK kvs k y) (stored vs k u):=by
 unfold putK stored
 rw [r.any k]
 by_cases e:(vs.any fun kv=>decide (kv.1=k))=true
 ·rw [if_pos e,if_pos e];exact r.Zs k ry
 ·rw [if_neg e,if_neg e];exact Paired.snoc r ⟨rfl,ry⟩
theorem KV.length {kvs:List (κ×V)} {vs:List (κ×Value)} (r:KV kvs vs):kvs.length=vs.length:=Paired.length r
theorem UL (kvs:List (κ×V)) (k:κ):(w9 kvs k).length<=kvs.length:=ku _ _
end
theorem FD {P:Program} {w:World} {k:Key} {u:Value} (r:RelV (kV k) u):(dQ P w).is k u=true:=by
 cases k with
 | inl i=>obtain ⟨t,e⟩:=(show ∃ t,u=Value.int i t from r);subst e;exact xn P w i t
 | inr x=>obtain ⟨t,e⟩:=(show ∃ t,u=Value.str x t from r);subst e;exact MO P w x t
theorem Jl {P:Program} {w:World}:∀ {ks:List Key} {us:List Value},Vals (ks.map kV) us->ItemsAre (dQ P w) ks us
 | [],_,r=>by rw [iB] at r;cases r;exact .nil
 | k::ks,_,r=>by
  rw [aC] at r
  cases r with
  | cons h t=>exact .cons (FD h) (Jl t)
abbrev KT (H:Hp):List (List Key×V)->List (List Key×Addr×Value)->Prop:=Paired fun p q=>p.1=q.1/\H q.2.1=some (.tup (p.1.map kV))/\RelV p.2 q.2.2
theorem KT.val {H:Hp} {kvs:List (List Key×V)} {xs:List (List Key×Addr×Value)} (r:KT H kvs xs) (k:List Key):Ct (jj kvs k) ((atKey xs k).map (·.2)):=by
 induction r with
 | nil=>exact True.intro
 | @cons p q ps qs h t ih=>
  obtain ⟨h1,_,h2⟩:=h
  by_cases e:p.1=k
  ·have e':q.1=k:=h1.symm.trans e
   have b:atKey (q::qs) k=some q.2:=by simp [atKey,ff,e']
   rw [i6 e,b];exact h2
  ·have e':¬ q.1=k:=fun z=>e (h1.trans z)
   have b:atKey (q::qs) k=atKey qs k:=by simp [atKey,ff,e']
   rw [g8 e,b];exact ih
theorem KT.Zs {H:Hp} {kvs:List (List Key×V)} {xs:List (List Key×Addr×Value)} (r:KT H kvs xs) (k:List Key) {y:V} {u:Value} (ry:RelV y u):
  KT H (kvs.map fun kv=>if kv.1=k then (kv.1,y) else kv) (xs.map (putAt k u)):=by
 induction r with
 | nil=>exact .nil
 | @cons p q ps qs h t ih=>
  rw [aC,aC]
  refine .cons ?_ ih
  obtain ⟨h1,h2,h3⟩:=h
  unfold putAt
  by_cases e:p.1=k
  ·rw [if_pos e,if_pos (h1.symm.trans e)];exact ⟨h1,h2,ry⟩
  ·rw [if_neg e,if_neg (fun z=>e (h1.trans z))];exact ⟨h1,h2,h3⟩
theorem KT.put {H:Hp} {kvs:List (List Key×V)} {xs:List (List Key×Addr×Value)} (r:KT H kvs xs) (k:List Key) {b:Addr} {y:V} {u:Value} (hb:H b=some (.tup (k.map kV))) (ry:RelV y u):
  KT H (putK kvs k y) (storedH xs k b u):=by
 have e:(kvs.any fun kv=>decide (kv.1=k))=(atKey xs k).isSome:=by
  rw [FC,(r.val k).rO,oK]
 unfold putK storedH
 rw [e]
 by_cases q:(atKey xs k).isSome=true
 ·rw [if_pos q,if_pos q];exact r.Zs k ry
 ·rw [if_neg q,if_neg q];exact Paired.snoc r ⟨rfl,hb,ry⟩
theorem KT.keeps {H H':Hp} {kvs:List (List Key×V)} {xs:List (List Key×Addr×Value)} (r:KT H kvs xs) (ht:∀ b ys,H b=some (.tup ys)->H' b=some (.tup ys)):KT H' kvs xs:=
 Paired.Pp r fun _ _ z=>⟨z.1,ht _ _ z.2.1,z.2.2⟩
section
variable {P:Program} {w:World} {H:Hp} {h:Heap} {a:Addr}
theorem Yw {u:HO} (ok:w8 P w H h) (e:Rd H a u):f6 P w H h a u:=e.ok ok
theorem Rw {kvs:List (Key×V)} (ok:w8 P w H h) (e:Rd H a (.dK kvs)):kvs.length<=sizeLine/\(a==sysModules)=false/\∃ vs,KV kvs vs/\h.DictOf (dQ P w) a vs:=
 show f6 P w H h a (.dK kvs) from Yw ok e
theorem acb {kvs:List (Key×V)} (ok:w8 P w H h) (e:H a=some (.dK kvs)):kvs.length<=sizeLine/\(a==sysModules)=false/\∃ vs,KV kvs vs/\h.DictOf (dQ P w) a vs:=Rw ok (.inl e)
theorem Al {ks:List Key} (ok:w8 P w H h) (e:H a=some (.tup (ks.map kV))):(tupleKind (dQ P w)).is h ks a:=by
 obtain ⟨_,cq,r,o,h1,h2,n,h3⟩:=(show f6 P w H h a (.tup (ks.map kV)) from ok a _ e)
 exact ⟨o,cq.toArray,n,h1,h2,h3,by simpa using Jl r⟩
theorem Rx {kvs:List (List Key×V)} (ok:w8 P w H h) (e:Rd H a (.dT kvs)):kvs.length<=sizeLine/\(a==sysModules)=false/\
  ∃ xs,KT H kvs xs/\h.DictOfH (tupleKind (dQ P w)) a xs:=by
 obtain ⟨z,y,xs,r,o,es,ep,h1,h2,h3,h4,h5⟩:=(show f6 P w H h a (.dT kvs) from Yw ok e)
 refine ⟨z,y,xs,r,o,es,ep,h1,h2,h3,h4,fun x hx=>?_,h5⟩
 have all:∀ {l:List (List Key×V)} {m:List (List Key×Addr×Value)},KT H l m->∀ x∈m,(tupleKind (dQ P w)).is h x.1 x.2.1:=by
  intro l m q
  induction q with
  | nil=>intro x hx;exact nomatch hx
  | @cons p q ps qs hq t ih=>
   intro x hx
   rcases aw.mp hx with e | hx
   ·subst e
    exact Al ok (by rw [<- hq.1];exact hq.2.1)
   ·exact ih x hx
 exact all r x hx
theorem Ry {kvs:List (List Key×V)} (ok:w8 P w H h) (e:H a=some (.dT kvs)):kvs.length<=sizeLine/\(a==sysModules)=false/\
  ∃ xs,KT H kvs xs/\h.DictOfH (tupleKind (dQ P w)) a xs:=Rx ok (.inl e)
end
def FE (H:Hp) (a:Addr) (y:V) (r:Option V):Prop:=
 (∃ kvs k,Rd H a (.dK kvs)/\y=kV k/\r=jj kvs k)\/∃ kvs k b,Rd H a (.dT kvs)/\y=.ref b/\H b=some (.tup (k.map kV))/\r=jj kvs k
def Ng (H:Hp) (a:Addr) (y v:V) (H':Hp):Prop:=
 (∃ kvs k,H a=some (.dK kvs)/\y=kV k/\kvs.length<sizeLine/\H'=upd H a (.dK (putK kvs k v)))\/
 ∃ kvs k b,H a=some (.dT kvs)/\y=.ref b/\H b=some (.tup (k.map kV))/\kvs.length<sizeLine/\H'=upd H a (.dT (putK kvs k v))
theorem FE.t {H:Hp} {a b:Addr} {kvs:List (List Key×V)} {k:List Key} (e:H a=some (.dT kvs)) (eb:H b=some (.tup (k.map kV))):FE H a (.ref b) (jj kvs k):=.inr ⟨kvs,k,b,.inl e,rfl,eb,rfl⟩
theorem Ng.t {H:Hp} {a b:Addr} {kvs:List (List Key×V)} {k:List Key} {v:V} (e:H a=some (.dT kvs)) (eb:H b=some (.tup (k.map kV))) (hl:kvs.length<sizeLine):
  Ng H a (.ref b) v (upd H a (.dT (putK kvs k v))):=.inr ⟨kvs,k,b,e,rfl,eb,hl,rfl⟩
section
variable {X:Cx} {pins:List (Addr×Obj)} {σ:St} {H:Hp} {s:Shared} {a:Addr} {y v:V} {u r:Value} {o:Option V} {A:Around} {E:Value->Shared->Prop}
theorem Inv.big (I:Inv X pins σ H s):sysModules<s.heap.objs.size:=by
 have h:mainGlobals<s.heap.objs.size:=(I.mod.glob.keeps I.bk).lt
 exact Nat.lt_trans (by decide) h
theorem afI {Q:Value->Shared->Prop} (hu:A.units+1<cLine) (I:Inv X pins σ H s) (g:FE H a y o) (ry:RelV y u) (h:∀ s',Inv X pins σ H s'->Q (.bool o.isSome) s'):
  wpAny (model X.prog X.w) A (compareOp .In u (.ref a)) Q E s:=by
 rcases g with ⟨kvs,k,e,ey,l⟩ | ⟨kvs,k,b,e,ey,eb,l⟩
 ·subst ey
  obtain ⟨z,hd,vs,rel,dd⟩:=Rw I.cU e
  refine wpAny_in_of (FD ry) hd dd.mapOf ?_
  rw [<- (rel.val k).rO,<-l]
  exact h _ (I.tok _)
 ·subst ey
  cases (show u=Value.ref b from ry)
  obtain ⟨z,hd,xs,rel,dd⟩:=Rx I.cU e
  refine wpAny_in_heap (tupleKind_room_in1 hu) (Al I.cU eb) hd dd ?_
  have q:=(rel.val k).rO
  rw [oK] at q
  rw [<- q,<-l]
  exact h _ (I.tok _)
theorem Xe {Q:Value->Shared->Prop} (hu:A.units+1<cLine) (I:Inv X pins σ H s) (g:FE H a y o) (ry:RelV y u) (h:∀ s',Inv X pins σ H s'->Q (.bool (!o.isSome)) s'):
  wpAny (model X.prog X.w) A (compareOp .NotIn u (.ref a)) Q E s:=by
 rcases g with ⟨kvs,k,e,ey,l⟩ | ⟨kvs,k,b,e,ey,eb,l⟩
 ·subst ey
  obtain ⟨z,hd,vs,rel,dd⟩:=Rw I.cU e
  refine wpAny_notIn_of (FD ry) hd dd.mapOf ?_
  rw [<- (rel.val k).rO,<-l]
  exact h _ (I.tok _)
 ·subst ey
  cases (show u=Value.ref b from ry)
  obtain ⟨z,hd,xs,rel,dd⟩:=Rx I.cU e
  refine wpAny_notIn_heap (tupleKind_room_in1 hu) (Al I.cU eb) hd dd ?_
  have q:=(rel.val k).rO
  rw [oK] at q
  rw [<- q,<-l]
  exact h _ (I.tok _)
theorem BA {h':Heap} {t':Nat} {ob:HO} (I:Inv X pins σ H s) (mu:Yl (H a)) (hs:dk a s.heap h') (he:∃ q,h'.get? a=some q) (new:f6 X.prog X.w (upd H a ob) h' a ob):
  Inv X pins σ (upd H a ob) { s with heap:=h',toks:=t' }:=
 I.write (x:=a) (e:=a) mu (.inl rfl) (fun b q hb z=>(hs.2 b hb).trans z) he new
theorem Zt {P:Program} {w:World} {H':Hp} {h':Heap} {kvs:List (Key×V)} {vs:List (Key×Value)} (z:kvs.length<=sizeLine) (hd:(a==sysModules)=false) (rel:KV kvs vs) (dd:h'.DictOf (dQ P w) a vs):
  f6 P w H' h' a (.dK kvs):=⟨z,hd,vs,rel,dd⟩
theorem Sx {H':Hp} {Q:Unit->Shared->Prop} (hu:A.units+1<cLine) (I:Inv X pins σ H s) (g:Ng H a y v H') (ry:RelV y u) (rv:RelV v r) (h:∀ s',Inv X pins σ H' s'->Q () s'):
  wpAny (model X.prog X.w) A (setItem (.ref a) u r) Q E s:=by
 rcases g with ⟨kvs,k,e,ey,l,eH⟩ | ⟨kvs,k,b,e,ey,eb,l,eH⟩
 ·subst ey eH
  obtain ⟨z,hd,vs,rel,dd⟩:=acb I.cU e
  have hz:vs.length<=sizeLine:=by rw [<- rel.length];exact z
  have hl:(putK kvs k v).length<=sizeLine:=by have:=DS kvs k v;omega
  refine wpAny_setItem_pairs (hsz:=hz) (FD ry) dd fun h' WJ hs=>h _ ?_
  have he:∃ q,h'.get? a=some q:=let ⟨q,_,_,hq,_⟩:=WJ;⟨q,hq⟩
  exact BA I (by rw [e];exact True.intro) hs he (Zt hl hd (rel.put k rv) WJ)
 ·subst ey eH
  cases (show u=Value.ref b from ry)
  obtain ⟨z,hd,xs,rel,dd⟩:=Ry I.cU e
  have hz:xs.length<=sizeLine:=by rw [<- Paired.length rel];exact z
  have hl:(putK kvs k v).length<=sizeLine:=by have:=DS kvs k v;omega
  refine wpAny_setItem_heap (hsz:=hz) (tupleKind_room_in1 hu) (Al I.cU eb) dd fun h' WJ hs=>h _ ?_
  obtain ⟨q,es,ep,hq,h2,h3,h4,_,h5⟩:=WJ
  refine BA I (by rw [e];exact True.intro) hs ⟨q,hq⟩ ⟨hl,hd,_,(rel.put k eb rv).keeps fun c ys ec=>?_,q,es,ep,hq,h2,h3,h4,h5⟩
  rw [aD (dX ec e (fun z=>nomatch z))]
  exact ec
end
section
variable {X:Cx} {pins:List (Addr×Obj)} {σ:St} {H:Hp} {s:Shared} {a:Addr} {kvs:List (Key×V)} {k:Key} {u:Value} {A:Around} {E:Value->Shared->Prop}
end
def Zu (i:Expr):Prop:=∀ ov iv,subscripted i false ov iv=operate [ov,iv] (getItem ov iv)
theorem Rz {prog:Program} {w:World} {A:Around} {E:Value->Shared->Prop} {s:Shared} {env:Env} {value slice:Expr} {pos:Pos} {T id:String} {Q:Value->Shared->Prop}
  (hl:typeLookup (.type T) "__getitem__"=pure (some (.builtin id))) (hs:Zu slice)
  (h:wpAny (model prog w) A (eval value env) (fun o cY=>wpAny (model prog w) A (eval slice env) (fun i qA=>qA.TypeIs o T/\wpAny (model prog w) A (getItem o i) Q E qA) E cY) E s):
  wpAny (model prog w) A (eval (.Subscript value slice pos) env) Q E s:=by
 refine Subscript_ (wpAny_mono h (fun o cY Sw=>wpAny_mono Sw (fun i qA UI=>?_) fun _ _ x=>x) fun _ _ x=>x)
 obtain ⟨hT,UI⟩:=UI
 unfold subscriptTail
 refine wpAny_bind ?_
 rw [getitemInPython_of_ne hT.not_modules]
 refine wpAny_bind (wpAny_specialOf hT hl ?_)
 have fin:wpAny (model prog w) A (subscripted slice false o i) (fun r MS=>wpAny (model prog w) A (letTemporaryGo value o r >>= fun _=>pure r) Q E MS) E qA:=by
  rw [hs o i]
  exact wpAny_operating (wpAny_mono UI (fun r MS Xb=>wpAny_bind (wpAny_letTemporaryGo (wpAny_pure Xb))) fun _ _ x=>x)
 first
  | exact wpAny_pure (wpAny_bind fin)
  | exact wpAny_bind (wpAny_pure (wpAny_bind fin))
  | exact wpAny_bind fin
def afJ (ty td:TE):TE:=fun σ H Q=>ty σ H fun y H1=>td σ H1 fun x H2=>∃ a o,x=.ref a/\FE H2 a y o/\Q (.bl o.isSome) H2
def Xf (ty td:TE):TE:=fun σ H Q=>ty σ H fun y H1=>td σ H1 fun x H2=>∃ a o,x=.ref a/\FE H2 a y o/\Q (.bl (!o.isSome)) H2
def acd (td ty tv:TE):TS:=fun D σ H=>tv σ H fun v H1=>td σ H1 fun x H2=>ty σ H2 fun y H3=>∃ a H4,x=.ref a/\Ng H3 a y v H4/\D.nx σ H4
section
variable {X:Cx} {o i e value:Expr} {pos pos' HA:Pos} {td ty tv:TE}
theorem PV (hu:X.A.units+1<cLine) (hi:PE X i ty) (ho:PE X o td):PC X .In i o (afJ ty td):=by
 intro pins s σ H Q I h
 refine f9 (hi pins s σ H _ I h) fun iv s1 ⟨y,H1,I1,ry,q1⟩=>f9 (ho pins s1 σ H1 _ I1 q1) fun u s2 ⟨x,H2,I2,rx,a,ov,ex,g,q2⟩=>?_
 subst ex
 obtain rfl:u=Value.ref a:=rx
 exact afI hu I2 g ry fun s3 I3=>⟨.bl ov.isSome,H2,I3,rfl,q2⟩
theorem Jm (hu:X.A.units+1<cLine) (hi:PE X i ty) (ho:PE X o td):PC X .NotIn i o (Xf ty td):=by
 intro pins s σ H Q I h
 refine f9 (hi pins s σ H _ I h) fun iv s1 ⟨y,H1,I1,ry,q1⟩=>f9 (ho pins s1 σ H1 _ I1 q1) fun u s2 ⟨x,H2,I2,rx,a,ov,ex,g,q2⟩=>?_
 subst ex
 obtain rfl:u=Value.ref a:=rx
 exact Xe hu I2 g ry fun s3 I3=>⟨.bl (!ov.isSome),H2,I3,rfl,q2⟩
theorem EY (hu:X.A.units+1<cLine) (ho:PE X o td) (hi:PE X i ty) (hv:PE X value tv) (hs:swapsWith value (some (.Subscript o i pos')) pos.line X.env=pure false):
  PS X (.Assign [.Subscript o i pos'] value pos) (acd td ty tv):=by
 intro pins s σ H D I h
 refine wpAny_Assign_Subscript (f9 (hv pins s σ H _ I h) fun r s1 ⟨v,H1,I1,rv,q1⟩=>f9 (ho pins s1 σ H1 _ I1 q1) fun u s2 ⟨x,H2,I2,rx,q2⟩=>f9 (hi pins s2 σ H2 _ I2 q2) fun iv s3 ⟨y,H3,I3,ry,a,H4,ex,g,q3⟩=>?_) hs
 subst ex
 obtain rfl:u=Value.ref a:=rx
 exact Sx hu I3 g ry rv fun s4 I4=>⟨σ,H4,I4,q3⟩
end
theorem Nh {P:Program} {w:World} {H:Hp} (h:Heap) (hb:sysModules<h.objs.size):f6 P w H (h.push { cls:=.type "dict",data:=.dict #[] }) h.objs.size (.dT []):=
 ⟨a0 _,beq_eq_false_iff_ne.mpr (Ne.symm (cj hb)),[],.nil,_,#[],0,aQ _ rfl,⟨rfl,rfl,rfl⟩,rfl,rfl,jf⟩
def Zv:TE:=fun _ H Q=>∀ p,H p=none->Q (.ref p) (upd H p (.dT []))
section
variable {X:Cx} {pos:Pos}
theorem Ni:PE X (.Dict [] [] pos) Zv:=fun pins s σ H Q I h=>
 wpAny_Dict_empty ⟨.ref s.heap.objs.size,_,I.laid (a:=s.heap.objs.size) (o:=.dT []) (t':=s.toks) (fun _ _ q=>aA _ q) (au _) (Nh s.heap I.big),rfl,h _ (I.cU.fresh (au _))⟩
end
structure M1 (X:Cx) (o:Expr) (m:Str) (apos:Pos) (e:Expr) (mr:Pos):Prop where
 base:attributeBase o m X.env (eval o X.env)=eval o X.env
 few:((backTo mr (starEach [e] X.env)).all (fun x=>!x.1)&&(backToKw mr (keywordEach [] X.env)).all (fun x=>x.1.isSome)
  && decide (([e]:List Expr).length+([]:List Keyword).length+(if ([]:List Keyword).isEmpty then 0 else 1)<30))=true
 line:(apos.endLine==mr.line)=true
 trees:backTo mr (starEach [e] X.env)=[(false,eval e X.env)]
structure M2 (X:Cx) (o:Expr) (m:Str) (apos:Pos) (e f:Expr) (mr:Pos):Prop where
 base:attributeBase o m X.env (eval o X.env)=eval o X.env
 few:((backTo mr (starEach [e,f] X.env)).all (fun x=>!x.1)&&(backToKw mr (keywordEach [] X.env)).all (fun x=>x.1.isSome)
  && decide (([e,f]:List Expr).length+([]:List Keyword).length+(if ([]:List Keyword).isEmpty then 0 else 1)<30))=true
 line:(apos.endLine==mr.line)=true
 trees:backTo mr (starEach [e,f] X.env)=[(false,eval e X.env),(false,eval f X.env)]
def IsD (H:Hp) (a:Addr):Prop:=(∃ kvs,Rd H a (.dK kvs))\/∃ kvs,Rd H a (.dT kvs)
theorem Zw {X:Cx} {pins:List (Addr×Obj)} {σ:St} {H:Hp} {s:Shared} {a:Addr} (I:Inv X pins σ H s) (d:IsD H a):
  s.TypeIs (.ref a) "dict"/\(∀ b,Value.ref a=.ref b->∃ ob,s.heap.get? b=some ob/\ob.dict=none)/\(a==sysModules)=false:=by
 rcases d with ⟨kvs,e⟩ | ⟨kvs,e⟩
 ·obtain ⟨_,hd,vs,_,dd⟩:=Rw I.cU e
  refine ⟨dd.typeIs,fun b q=>?_,hd⟩
  cases q
  obtain ⟨ob,_,_,h1,h2,_⟩:=dd
  exact ⟨ob,h1,h2.2.1⟩
 ·obtain ⟨_,hd,xs,_,dd⟩:=Rx I.cU e
  refine ⟨dd.typeIs,fun b q=>?_,hd⟩
  cases q
  obtain ⟨ob,_,_,h1,h2,_⟩:=dd
  exact ⟨ob,h1,h2.2.1⟩
section
variable {X:Cx} {pins:List (Addr×Obj)} {σ:St} {H:Hp} {s:Shared} {a:Addr} {y d:V} {u r:Value} {o:Option V} {A:Around} {E:Value->Shared->Prop}
end
section
variable {X:Cx} {o e f:Expr} {apos mr:Pos} {td ty tx:TE}
end
section
variable {X:Cx} {pins:List (Addr×Obj)} {σ:St} {H:Hp} {s:Shared} {a:Addr} {kvs:List (Key×V)} {A:Around} {E:Value->Shared->Prop}
end
section
variable {X:Cx} {pins:List (Addr×Obj)} {σ:St} {H:Hp} {s:Shared} {a:Addr} {y:V} {u:Value} {A:Around} {E:Value->Shared->Prop}
end
section
variable {prog:Program} {w:World} {A:Around} {E:Value->Shared->Prop}
end
section
variable {X:Cx}
end
section
variable {X:Cx} {pins:List (Addr×Obj)} {σ:St} {H:Hp} {s:Shared} {h':Heap}
theorem Inv.Xg {t':Nat} {ch:List Addr} (I:Inv X pins σ H s) (k:∀ b o,b∉ch->s.heap.get? b=some o->h'.get? b=some o) (hf:∀ b∈ch,Aj X pins H b):Inv X pins σ H { s with heap:=h',toks:=t' }:=by
 have Ud:∀ b u,H b=some u->b∉ch:=fun b u e z=>by
  have q:=(hf b z).1
  rw [q] at e;cases e
 refine I.step (g':=s.gens) (d':=s.drawn) (ch:=ch) (fun b hb=>⟨(hf b hb).2.2.2.1,(hf b hb).2.1,(hf b hb).2.2.2.2.1,(hf b hb).2.2.2.2.2⟩) (fun b o _ _ hc e _=>k b o hc e) (fun b o _ _ hc e _=>⟨o.slots,k b o hc e⟩)
  (fun _ _ _ _ n=>n) (fun b o hc e=>⟨o,k b o hc e⟩) (fun _ _ e=>e) (fun _ _ _ e=>e) (fun b ps e=>⟨#[],by rw [e];simp⟩) (fun m hm=>?_) (fun b u e=>?_) I.bare
 ·obtain ⟨o,es,ep,ho,r⟩:=hm
  exact ⟨o,es,ep,k _ o (fun z=>(hf _ z).2.1 rfl) ho,r⟩
 ·refine (I.cU b u e).EC (fun c v hc q=>k c v ?_ q) (fun _ q=>q) fun _ _ q=>q
  rcases hc with z | z
  ·rw [z];exact Ud b u e
  ·exact Ud c _ z
theorem Inv.Jn {t':Nat} {ch:List Addr} {T:Addr} {ob:HO} (I:Inv X pins σ H s) (k:∀ b o,b∉ch->s.heap.get? b=some o->h'.get? b=some o) (hf:∀ b∈ch,Aj X pins H b) (hT:s.heap.objs.size<=T)
  (new:f6 X.prog X.w (upd H T ob) h' T ob):Inv X pins σ (upd H T ob) { s with heap:=h',toks:=t' }:=by
 have hn:H T=none:=I.cU.fresh hT
 have Ud:∀ b u,H b=some u->b∉ch:=fun b u e z=>by
  have q:=(hf b z).1
  rw [q] at e;cases e
 refine I.step (g':=s.gens) (d':=s.drawn) (ch:=ch) (fun b hb=>⟨(hf b hb).2.2.2.1,(hf b hb).2.1,(hf b hb).2.2.2.2.1,(hf b hb).2.2.2.2.2⟩) (fun b o _ _ hc e _=>k b o hc e) (fun b o _ _ hc e _=>⟨o.slots,k b o hc e⟩)
  (fun b o _ e n=>?_) (fun b o hc e=>⟨o,k b o hc e⟩) (fun b xs e=>?_) (fun b o u e=>?_) (fun b ps e=>⟨#[],?_⟩) (fun m hm=>?_) (fun b u e=>?_) I.bare
 ·rw [aD (cj (bo (a8 e) hT))];exact n
 ·rw [aD (aV e hn)];exact e
 ·rw [aD (aV e hn)];exact e
 ·rw [aD (aV e hn),e];simp
 ·obtain ⟨o,es,ep,ho,r⟩:=hm
  exact ⟨o,es,ep,k _ o (fun z=>(hf _ z).2.1 rfl) ho,r⟩
 ·by_cases hb:b=T
  ·subst hb
   rw [ae] at e
   cases e
   exact new
  ·rw [aD hb] at e
   refine (I.cU b u e).EC (fun c v hc q=>k c v ?_ q) (fun c q=>by rw [aD (aV q hn)];exact q) fun c xs q=>by rw [aD (aV q hn)];exact q
   rcases hc with z | z
   ·rw [z];exact Ud b u e
   ·exact Ud c _ z
theorem Inv.lock {d:Addr} {u:HO} (I:Inv X pins σ H s) (h:H d=some u) (mu:Yl (some u)):∃ od,Inv X pins σ (upd H d (.oW od u)) s:=by
 have x:=I.cU d u h
 have ex:∃ od,s.heap.get? d=some od:=by
  cases u with
  | lst xs=>obtain ⟨_,_,_,_,e⟩:=x;exact ⟨_,e⟩
  | dK kvs=>obtain ⟨_,_,_,_,o,_,_,e,_⟩:=x;exact ⟨o,e⟩
  | dT kvs=>obtain ⟨_,_,_,_,o,_,_,e,_⟩:=x;exact ⟨o,e⟩
  | set S n=>obtain ⟨o,_,_,_,e,_⟩:=x;exact ⟨o,e⟩
  | ins C dx fs=>obtain ⟨_,_,_,e,_⟩:=x;exact ⟨_,e⟩
  | ext φ=>obtain ⟨_,⟨_,e⟩,_⟩:=x;exact ⟨_,e⟩
  | _=>exact False.elim mu
 obtain ⟨od,e⟩:=ex
 have new:f6 X.prog X.w (upd H d (.oW od u)) s.heap d (.oW od u):=by
  refine ⟨e,x.EC (fun b v _ q=>q) (fun b q=>?_) fun b xs q=>?_⟩
  ·rw [aD (fun z=>by rw [z,h] at q;cases q;exact mu)];exact q
  ·rw [aD (fun z=>by rw [z,h] at q;cases q;exact mu)];exact q
 exact ⟨od,I.write (x:=d) (e:=d) (t':=s.toks) (h':=s.heap) (by rw [h];exact mu) (.inl rfl) (fun b v _ q=>q) ⟨od,e⟩ new⟩
theorem Inv.RA {d:Addr} {u:HO} (I:Inv X pins σ H s) (h:H d=some u) (mu:Yl (some u)):∀ o' u',X.Ym d≠some (.oW o' u'):=fun o' u' e=>by
 have q:=I.base.Fh d o' u' e
 rw [h] at q
 cases q
 exact mu
theorem Inv.unlock {d:Addr} {od:Obj} {u:HO} (I:Inv X pins σ H s) (h:H d=some (.oW od u)) (hn:∀ o' u',X.Ym d≠some (.oW o' u')):Inv X pins σ (upd H d u) s:=by
 have neH:∀ b o,H b=some o->(∀ o' u',o≠.oW o' u')->b≠d:=fun b o e tH z=>by
  rw [z,h] at e
  cases e
  exact tH _ _ rfl
 have neN:∀ b,H b=none->b≠d:=fun b e z=>by rw [z,h] at e;cases e
 refine ⟨I.ok,I.os,I.bare,⟨I.base.keep,I.base.slot,fun b o e n hx=>?_,I.base.there,fun b xs e=>?_,fun b o x e=>?_,fun b ps e=>?_⟩,I.loc,I.cell,?_,fun x c e=>?_,fun p hp=>?_,fun b o e=>?_,I.len⟩
 ·rw [aD (neN b (I.base.free b o e n hx))];exact I.base.free b o e n hx
 ·have q:=I.base.J5 b xs e
  rw [aD (neH b _ q (fun _ _ z=>nomatch z))];exact q
 ·have q:=I.base.Fh b o x e
  rw [aD (fun z=>by rw [z] at e;exact hn _ _ e)];exact q
 ·obtain ⟨m,q⟩:=I.base.Hv b ps e
  exact ⟨m,by rw [aD (neH b _ q (fun _ _ z=>nomatch z))];exact q⟩
 ·rw [aD (neN _ I.free)];exact I.free
 ·rw [aD (neN c (I.tF x c e))];exact I.tF x c e
 ·obtain ⟨e,n,r⟩:=I.pin p hp
  exact ⟨e,by rw [aD (neN _ n)];exact n,r⟩
 ·by_cases hb:b=d
  ·rw [hb,ae] at e
   cases e
   rw [hb]
   obtain ⟨_,x⟩:=I.cU d _ h
   exact x.EC (fun c v _ q=>q) (fun c q=>by rw [aD (neH c _ q (fun _ _ z=>nomatch z))];exact q) fun c xs q=>by rw [aD (neH c _ q (fun _ _ z=>nomatch z))];exact q
  ·rw [aD hb] at e
   exact (I.cU b o e).EC (fun c v _ q=>q) (fun c q=>by rw [aD (neH c _ q (fun _ _ z=>nomatch z))];exact q) fun c xs q=>by rw [aD (neH c _ q (fun _ _ z=>nomatch z))];exact q
end
def ace (t:TS):TS:=fun D σ H=>∃ d u,H d=some u/\Yl (some u)/\∀ od,t ⟨fun f7 H'=>H' d=some (.oW od u)/\D.nx f7 (upd H' d u),fun v H'=>H' d=some (.oW od u)/\D.rt v (upd H' d u),fun f7 H'=>H' d=some (.oW od u)/\D.bk f7 (upd H' d u),fun f7 H'=>H' d=some (.oW od u)/\D.ct f7 (upd H' d u)⟩ σ (upd H d (.oW od u))
section
variable {X:Cx}
theorem Kg {st:Stmt} {t:TS} (h:PS X st t):PS X st (ace t):=by
 intro pins s σ H D I hw
 obtain ⟨d,u,hd,mu,hw⟩:=hw
 obtain ⟨od,I1⟩:=I.lock hd mu
 refine f9 (h pins s σ _ _ I1 (hw od)) fun f s1 q=>?_
 cases f with
 | next=>obtain ⟨f7,H',I2,e,q⟩:=q;exact ⟨f7,_,I2.unlock e (I.RA hd mu),q⟩
 | brk=>obtain ⟨f7,H',I2,e,q⟩:=q;exact ⟨f7,_,I2.unlock e (I.RA hd mu),q⟩
 | cont=>obtain ⟨f7,H',I2,e,q⟩:=q;exact ⟨f7,_,I2.unlock e (I.RA hd mu),q⟩
 | ret v=>obtain ⟨x,f7,H',I2,r,e,q⟩:=q;exact ⟨x,f7,_,I2.unlock e (I.RA hd mu),r,q⟩
theorem FF {tg:Expr} {pins:List (Addr×Obj)} {σ:St} {H:Hp} {s:Shared} {R:It->Hp->Prop} {J:It} {tn:Nat->Heap->Prop} {tk:Nat} (I:Inv X pins σ H s) (o:Obj)
  (T:Turn X.prog X.w X.K tg J [s.heap.objs.size] s.heap.objs.size tn) (st:tn 0 (s.heap.push o)) (q:R J H):PIE X pins σ tg R (.ref s.heap.objs.size) { s with heap:=s.heap.push o,toks:=tk }:=by
 refine ⟨s.heap.objs.size,[s.heap.objs.size],tn,J,H,rfl,I.kept fun b ob e=>aA _ e,T,st,fun b hb=>?_,q⟩
 have e:b=s.heap.objs.size:=by simpa using hb
 subst e
 exact I.J8 (au _) (I.cU.fresh (au _))
end
def Itc (lo c:Int) (n:Nat):It:=⟨fun i _=>i<n,fun i H x H'=>H'=H/\x=.int (lo+(i:Nat)*c),fun i _=>n<=i⟩
theorem Nj {P:Program} {w:World} {K:ab} {tg:Expr} (it:Addr) (lo c:Int) (n:Nat):Turn P w K tg (Itc lo c n) [it] it (fun i h=>IsRangeIter h it (lo+(i:Nat)*c) ((n:Int) - (i:Nat)) c) where
 mem:=by simp
 obj:=fun i h st b hb=>by
  have e:b=it:=by simpa using hb
  subst e
  exact ⟨_,st,fun v z=>nomatch z⟩
 keep:=fun i h h' st k=>k it (by simp) _ st
 item:=by
  intro X hP hw hK hc i pins s σ H E I hf st hg
  subst hP hw hK
  obtain ⟨f0,f1,f2,f3,f4,f5⟩:=hf it (by simp)
  have W:=Walks.range (prog:=X.prog) (w:=X.w) (I.ok.hd hc) it lo c n
  refine W.item i s _ _ hg st fun v h' tk hv Cs kk=>?_
  obtain ⟨t,rfl⟩:=hv
  have I1:Inv X pins σ H { s with heap:=h',toks:=tk }:=I.turned (fun b o hb e=>kk b o (by simpa using hb) e) f0 f1 f3 f4 f5
  exact ⟨_,rfl,Fn (s:={ s with heap:=h',toks:=tk }) (n:="range_iterator") Cs rfl rfl (by decide) ⟨.int (lo+(i:Nat)*c),H,I1,⟨t,rfl⟩,⟨rfl,rfl⟩,Cs,fun b hb=>(hf b hb).1⟩⟩
 done:=by
  intro X hP hw hK hc i pins s σ H E I hf st hg
  subst hP hw hK
  obtain ⟨f0,f1,f2,f3,f4,f5⟩:=hf it (by simp)
  exact wpAny_pyNext_range_end (I.ok.hd hc) st (by have:n<=i:=hg;omega) fun h' eb=>⟨rfl,I.turned (t':=s.toks) (fun b o hb e=>eb b o hb e) f0 f1 f3 f4 f5⟩
 self:=fun A i s Q E st h=>wpAny_pyIter_rangeiter st h
def RgC (i j c:Int) (n:Nat):Prop:=c≠0/\c.natAbs<1073741824/\Builtin.Range.small i j c=true/\Builtin.Range.rangeSize i j c=n
theorem RgC.neg {i j:Int} (ha:-(2 ^ 62)<=i) (RB:i<2 ^ 62) (hb:-(2 ^ 62)<=j) (hb':j<2 ^ 62):RgC i j (-1) (i - j).toNat:=
 ⟨by decide,by decide,PySem.W.small_down ha RB hb hb',PySem.W.rangeSize_downNat i j⟩
def ach (ta:TA):TI:=fun σ H R=>ta σ H fun vs H1=>∃ (i j c:Int) (n:Nat),vs=[.int i,.int j,.int c]/\RgC i j c n/\R (Itc i c n) H1
section
variable {X:Cx} {tg:Expr}
theorem Sy {a b c:Expr} {ta:TA} {p pos:Pos} (hg:Gl X "range") (hm:X.mg "range"=none) (ha:PA X [a,b,c] ta)
  (hs:starEach [a,b,c] X.env=(false,eval a X.env)::starEach [b,c] X.env:=by rfl) (kF:(backTo pos (starEach [b,c] X.env)).any (·.1)=false:=by rfl):
  PI X tg (.Call (.Name "range" p) [a,b,c] [] pos) (ach ta):=by
 intro pins s σ H R I h
 refine Call_ (tY I hg hm boot_range (PyProof.Rows.callWith_type1 (f9 (ha pos pins s σ H _ I h) fun us s1 ⟨vs,H1,I1,r1,q1⟩=>?_) hs kF))
 obtain ⟨i,j,k,n,e,⟨c0,c1,c2,c3⟩,q⟩:=q1
 subst e
 cases r1 with
 | cons r rr=>
  cases rr with
  | cons r' rr=>
   cases rr with
   | cons r'' rr=>
    cases rr
    obtain ⟨t,rfl⟩:=r
    obtain ⟨t',rfl⟩:=r'
    obtain ⟨t'',rfl⟩:=r''
    refine call_range_3 c0 ?_ (.inl (PyProof.noPylong_small c1))
    refine wpAny_pyIter_range (IsRange.new ..) c2 ?_
    have I2:Inv X pins σ H1 { s1 with heap:=s1.heap.push { cls:=.type "range",data:=.fields #[.int i t,.int j t',.int k t''] } }:=I1.kept (t':=s1.toks) fun b o e=>aA _ e
    refine FF (tk:=s1.toks) I2 _ (Nj _ i k n) ?_ q
    have e1:i+((0:Nat):Int)*k=i:=by simp
    have e2:(n:Int) - ((0:Nat):Int)=Builtin.Range.rangeSize i j k:=by rw [c3];simp
    show IsRangeIter _ _ (i+((0:Nat):Int)*k) ((n:Int) - ((0:Nat):Int)) k
    rw [e1,e2]
    exact aQ _ rfl
end
theorem PX {lo c:Int} {n:Nat} {g:TG} {tb:TS} {D:Ends} {σ:St} {H:Hp} (Pv:Nat->St->Hp->Prop) (h0:Pv 0 σ H)
  (hs:∀ i σ H,i<n->let E:Ends:={ D with nx:=Pv (i+1),ct:=Pv (i+1),bk:=D.nx };Pv i σ H->g (.int (lo+(i:Nat)*c)) σ H fun kH H2=>tb E kH H2) (hd:∀ σ H,Pv n σ H->D.nx σ H):
  ∃ W:Nat->Nat->St->Hp->Prop,(∃ m,W 0 m σ H)/\∀ i m σ H,W i m σ H->
   ((Itc lo c n).stop i H/\D.nx σ H)\/((Itc lo c n).go i H/\∃ N:St->Hp->Prop,(∀ f7 H',N f7 H'->∃ m',m'<m/\W (i+1) m' f7 H')/\∀ x H',(Itc lo c n).Pz i H x H'->g x σ H' fun kH H2=>tb { D with nx:=N,ct:=N,bk:=D.nx } kH H2):=by
 refine ⟨fun i m σ H=>m=n - i/\i<=n/\Pv i σ H,⟨n,by simp,a0 _,h0⟩,?_⟩
 rintro i m σ H ⟨rfl,hi,p⟩
 by_cases iX:i<n
 ·refine .inr ⟨iX,Pv (i+1),fun f7 H' p'=>⟨n - (i+1),by omega,rfl,iX,p'⟩,fun x H' y=>?_⟩
  obtain ⟨e,y⟩:=y
  subst e y
  exact hs i σ _ iX p
 ·have e:i=n:=by omega
  subst e
  exact .inl ⟨au _,hd σ H p⟩
section
variable {X:Cx} {tg:Expr}
end
def Yx (x:Str):It:=⟨fun i _=>i<x.cps.size,fun i H v H'=>H'=H/\∃ c,x.cps[i]?=some c/\v=.str ⟨#[c]⟩,fun i _=>x.cps.size<=i⟩
theorem Nk {P:Program} {w:World} {K:ab} {tg:Expr} (it:Addr) (x:Str) (t:Tok) (ty:String) (WH:ty="str_ascii_iterator"\/ty="str_iterator"):
  Turn P w K tg (Yx x) [it] it (fun i h=>h.IsStrIter it ty x t i) where
 mem:=by simp
 obj:=fun i h st b hb=>by
  have e:b=it:=by simpa using hb
  subst e
  obtain ⟨o,e,c,d⟩:=st
  exact ⟨o,e,fun v z=>by rw [d] at z;cases z⟩
 keep:=fun i h h' st k=>let ⟨o,ho,r⟩:=st;⟨o,k it (by simp) o ho,r⟩
 item:=by
  intro X hP hw hK hc i pins s σ H E I hf st hg
  subst hP hw hK
  obtain ⟨f0,f1,f2,f3,f4,f5⟩:=hf it (by simp)
  have W:Walks X.prog X.w X.A it [it] [it] x.cps.size (SignAt x) (fun i h=>h.IsStrIter it ty x t i):=by
   rcases WH with e | e
   ·rw [e];exact Walks.strAscii (I.ok.hd hc) it x t
   ·rw [e];exact Walks.strWide (I.ok.hd hc) it x t
  have tG:["enumerate","zip","dict_itemiterator","dict_reverseitemiterator","odict_iterator","itertools.zip_longest","itertools.pairwise"].contains ty=false:=by
   rcases WH with e | e
   ·rw [e];decide
   ·rw [e];decide
  refine W.item i s _ _ hg st fun v h' tk hv Cs kk=>?_
  obtain ⟨c,u,hcx,rfl⟩:=hv
  have I1:Inv X pins σ H { s with heap:=h',toks:=tk }:=I.turned (fun b o hb e=>kk b o (by simpa using hb) e) f0 f1 f3 f4 f5
  obtain ⟨oi,e,cc,dd⟩:=id Cs
  exact ⟨_,rfl,Fn (s:={ s with heap:=h',toks:=tk }) e cc dd tG ⟨.str ⟨#[c]⟩,H,I1,⟨u,rfl⟩,⟨rfl,c,hcx,rfl⟩,Cs,fun b hb=>(hf b hb).1⟩⟩
 done:=by
  intro X hP hw hK hc i pins s σ H E I hf st hg
  subst hP hw hK
  obtain ⟨f0,f1,f2,f3,f4,f5⟩:=hf it (by simp)
  have hx:x.cps[i]?=none:=Array.getElem?_eq_none hg
  rcases WH with e | e
  ·rw [e] at st
   exact wpAny_pyNext_ascii_end (I.ok.hd hc) st hx fun h' eb=>⟨rfl,I.turned (t':=s.toks) (fun b o hb e=>eb b o hb e) f0 f1 f3 f4 f5⟩
  ·rw [e] at st
   exact wpAny_pyNext_wide_end (I.ok.hd hc) st hx fun h' eb=>⟨rfl,I.turned (t':=s.toks) (fun b o hb e=>eb b o hb e) f0 f1 f3 f4 f5⟩
 self:=fun A i s Q E st h=>by
  rcases WH with e | e
  ·rw [e] at st;exact wpAny_pyIter_striter_ascii st h
  ·rw [e] at st;exact wpAny_pyIter_striter_wide st h
def afK (te:TE):TI:=fun σ H R=>te σ H fun v H1=>∃ x,v=.str x/\R (Yx x) H1
theorem UM {X:Cx} {tg e:Expr} {te:TE} (he:PE X e te):PI X tg e (afK te):=by
 intro pins s σ H R I h
 refine f9 (he pins s σ H _ I h) fun v s1 ⟨y,H1,I1,r1,x,ex,q⟩=>?_
 subst ex
 obtain ⟨t,rfl⟩:=r1
 cases ha:x.cps.all (·<128)
 ·exact wpAny_pyIter_wide ha (FF (tk:=s1.toks) I1 _ (Nk _ x t "str_iterator" (.inr rfl)) ⟨_,aQ _ rfl,rfl,rfl⟩ q)
 ·exact wpAny_pyIter_ascii ha (FF (tk:=s1.toks) I1 _ (Nk _ x t "str_ascii_iterator" (.inl rfl)) ⟨_,aQ _ rfl,rfl,rfl⟩ q)
section
variable {prog:Program} {w:World} {A:Around} {E:Value->Shared->Prop} {s:Shared}
theorem Jo {d:Addr} {o:Obj} {es:Array DictEntry} {ep:Nat} {Q:Value->Shared->Prop} (hd:(d==sysModules)=false) (ho:s.heap.get? d=some o) (hc:o.ExactDict) (Xh:o.data=.dict es ep)
  (hQ:Q (.ref s.heap.objs.size) { s with heap:=s.heap.push { cls:=.type "dict_keyiterator",data:=.fields #[.ref d,.int 0 0,.int es.size 0,.int ep 0] } }):
  wpAny (model prog w) A (pyIter (.ref d)) Q E s:=by
 have hT:s.TypeIs (.ref d) "dict":=⟨o,ho,hc.1⟩
 refine wpAny_pyIter_slot hT F.slot_dict_iter (wpAny_call_entry F.slot_dict_iter hT F.entry_dict_iter ?_ (F.args_dict_iter_1 _))
 unfold Builtin.«dict.__iter__»
 refine wpAny_bind ?_
 unfold Builtin.Dict.dictSlotNone
 refine wpAny_bind (wpAny_notOrdered_dict hT ?_)
 show wpAny _ _ (pure (Value.ref d)) _ _ s
 refine wpAny_pure ?_
 show wpAny _ _ (Builtin.Dict.showsAll d >>= _) _ _ s
 unfold Builtin.Dict.showsAll
 rw [if_neg (by rw [hd];exact a6)]
 refine wpAny_bind (wpAny_pure ?_)
 refine wpAny_bind (wpAny_dictEntries ho Xh ?_)
 refine wpAny_bind (wpAny_dictEpoch ho Xh ?_)
 refine wpAny_bind (wpAny_newObj_type (wpAny_pure ⟨_,rfl,"dict_keyiterator",_,⟨_,aQ _ rfl,rfl⟩,F.slot_dict_keyiterator_next.lookup,?_⟩))
 simpa [rawInt] using hQ
theorem HC {it d:Addr} {i n ep:Nat} {od:Obj} {es:Array DictEntry} {en:DictEntry} {Q:Option Value->Shared->Prop} (hit:s.heap.IsKeyIter it d i n ep) (MM:s.heap.get? d=some od) (hdd:od.data=.dict es ep)
  (hsz:es.size=n) (hx:es[i]?=some en) (hQ:∀ h',h'.IsKeyIter it d (i+1) n ep->dk it s.heap h'->Q (some en.key) { s with heap:=h' }):wpAny (model prog w) A (pyNext (.ref it)) Q E s:=by
 obtain ⟨o,ho,hc,hd⟩:=id hit
 unfold pyNext
 refine wpAny_bind (wpAny_attempt (wpAny_callSpecial?_slot (name:=Str.ofString "__next__") hit.typeIs F.slot_dict_keyiterator_next
  (wpAny_call_entry F.slot_dict_keyiterator_next hit.typeIs F.entry_dict_keyiterator_next ?_ (F.args_dict_keyiterator_next_1 _))))
 refine wpAny_bind (wpAny_pure ?_)
 refine wpAny_bind ?_
 refine wpAny_bind ?_
 first | refine wpAny_bind (wpAny_typeNameOfWhole_keyiter hit.typeIs (wpAny_pure ?_)) | refine wpAny_bind (wpAny_typeNameOf_keyiter hit.typeIs (wpAny_pure ?_))
 refine wpAny_bind (wpAny_fieldsOf ho hd ?_)
 have Nl:Builtin.Dict_items.ownsTuple "dict_keyiterator"=false:=by decide
 simp only [Nl,bW,if_false]
 show wpAny _ _ (if (Value.ref d==Value.none)=true then _ else _) _ _ s
 rw [if_neg (show ¬ ((Value.ref d==Value.none)=true) from a6)]
 refine wpAny_bind (wpAny_pure ?_)
 refine wpAny_bind (wpAny_dictEntries MM hdd ?_)
 rw [if_neg (by rw [hsz];simp)]
 refine wpAny_bind (wpAny_pure ?_)
 refine wpAny_bind (wpAny_dictEpoch MM hdd ?_)
 rw [if_neg (by simp)]
 refine wpAny_pure ?_
 obtain ⟨afL,hen⟩:=Array.getElem?_eq_some_iff.mp hx
 simp only [show ¬ ((i:Int)<0) from by omega,if_false,Int.toNat_natCast,Array.getElem?_eq_getElem afL]
 refine wpAny_bind ?_
 first | refine wpAny_bind (wpAny_typeNameOfWhole_keyiter hit.typeIs (wpAny_pure ?_)) | refine wpAny_bind (wpAny_typeNameOf_keyiter hit.typeIs (wpAny_pure ?_))
 refine wpAny_bind (wpAny_isOneOf_keyiter hit.typeIs ?_)
 show wpAny _ _ (setField (.ref it) 1 (rawInt ((i:Int)+1)) >>= _) _ _ s
 refine wpAny_bind (wpAny_setField ho hd (by simp) ?_)
 have Xi:(s.heap.update it (Obj.mapFields (·.setIfInBounds 1 (rawInt ((i:Int)+1))))).IsKeyIter it d (i+1) n ep:=
  ⟨_,Heap.get?_update_self _ ho (Obj.isFreed_of_fields (Obj.data_mapFields hd _)),(Obj.cls_mapFields ..).trans hc,by rw [Obj.data_mapFields hd];simp [rawInt]⟩
 refine wpAny_bind (wpAny_holding ?_)
 refine wpAny_bind (wpAny_isOneOf_keyiter (s:={ s with heap:=s.heap.update it (Obj.mapFields (·.setIfInBounds 1 (rawInt ((i:Int)+1)))) }) Xi.typeIs ?_)
 show wpAny _ _ (pure es[i].key) _ _ _
 rw [hen]
 exact wpAny_pure (wpAny_pure ⟨_,rfl,wpAny_pure (hQ _ Xi (dk.update ..))⟩)
theorem BB {it d:Addr} {i n ep:Nat} {od:Obj} {es:Array DictEntry} {Q:Option Value->Shared->Prop} (hh:A.handled=none) (hit:s.heap.IsKeyIter it d i n ep) (MM:s.heap.get? d=some od) (hdd:od.data=.dict es ep)
  (hsz:es.size=n) (hge:n<=i) (hQ:∀ h',Heap.ExtBut it s.heap h'->Q none { s with heap:=h' }):wpAny (model prog w) A (pyNext (.ref it)) Q E s:=by
 obtain ⟨o,ho,hc,hd⟩:=id hit
 unfold pyNext
 refine wpAny_bind (wpAny_attempt (wpAny_callSpecial?_slot (name:=Str.ofString "__next__") hit.typeIs F.slot_dict_keyiterator_next
  (wpAny_call_entry F.slot_dict_keyiterator_next hit.typeIs F.entry_dict_keyiterator_next ?_ (F.args_dict_keyiterator_next_1 _))))
 refine wpAny_bind (wpAny_pure ?_)
 refine wpAny_bind ?_
 refine wpAny_bind ?_
 first | refine wpAny_bind (wpAny_typeNameOfWhole_keyiter hit.typeIs (wpAny_pure ?_)) | refine wpAny_bind (wpAny_typeNameOf_keyiter hit.typeIs (wpAny_pure ?_))
 refine wpAny_bind (wpAny_fieldsOf ho hd ?_)
 have Nl:Builtin.Dict_items.ownsTuple "dict_keyiterator"=false:=by decide
 simp only [Nl,bW,if_false]
 show wpAny _ _ (if (Value.ref d==Value.none)=true then _ else _) _ _ s
 rw [if_neg (show ¬ ((Value.ref d==Value.none)=true) from a6)]
 refine wpAny_bind (wpAny_pure ?_)
 refine wpAny_bind (wpAny_dictEntries MM hdd ?_)
 rw [if_neg (by rw [hsz];simp)]
 refine wpAny_bind (wpAny_pure ?_)
 refine wpAny_bind (wpAny_dictEpoch MM hdd ?_)
 rw [if_neg (by simp)]
 refine wpAny_pure ?_
 have afN:es.size<=i:=by rw [hsz];exact hge
 simp only [show ¬ ((i:Int)<0) from by omega,if_false,Int.toNat_natCast,Array.getElem?_eq_none afN]
 refine wpAny_bind ?_
 first | refine wpAny_bind (wpAny_typeNameOfWhole_keyiter hit.typeIs (wpAny_pure ?_)) | refine wpAny_bind (wpAny_typeNameOf_keyiter hit.typeIs (wpAny_pure ?_))
 show wpAny _ _ (setField (.ref it) 0 .none >>= _) _ _ s
 refine wpAny_bind (wpAny_setField ho hd (by simp) ?_)
 show wpAny _ _ (newExc (.type "StopIteration") [] >>= _) _ _ _
 refine wpAny_bind ?_
 simp only [newExc,newTuple]
 refine wpAny_bind (wpAny_newObj_type ?_ (by size_fits))
 refine wpAny_bind (m:=firstArgMember _ _) (wpAny_of_eq (a:=Value.none) (by first | rfl | (simp only [firstArgMember];rfl)) ?_)
 refine wpAny_newObj_type ?_ (by size_fits)
 simp only [raiseNew]
 refine wpAny_bind (wpAny_handled ?_)
 rw [show A.in1.handled=none from hh]
 refine wpAny_bind (wpAny_pure (wpAny_throw ?_))
 refine wpAny_bind (wpAny_isInstance (T:="StopIteration") (b:=true) ⟨_,aQ _ rfl,rfl⟩ isSubtype_stop ?_)
 exact wpAny_pure (hQ _ (((dk.update ..).extBut.push _).push _))
end
theorem Zx {κ:Type} {kvs:List (κ×V)} {vs:List (κ×Value)} (h:KV kvs vs):∀ {i:Nat} {k:κ} {v:V},kvs[i]?=some (k,v)->∃ u,vs[i]?=some (k,u)/\RelV v u:=by
 unfold KV at h
 induction h with
 | nil=>intro i k v e;simp at e
 | @cons a b Pq Pr r t ih=>
  intro i k v e
  cases i with
  | zero=>
   simp only [oe,aj.injEq] at e
   subst e
   refine ⟨b.2,?_,r.2⟩
   simp only [oe]
   exact congrArg some (Prod.ext r.1.symm rfl)
  | succ j=>
   simp only [List.getElem?_cons_succ] at e ⊢
   exact ih e
theorem PY {α β:Type} {G:α->β->Prop} {Pq:List α} {Pr:List β} (h:Paired G Pq Pr):∀ {i:Nat} {a:α},Pq[i]?=some a->∃ b,Pr[i]?=some b/\G a b:=by
 induction h with
 | nil=>intro i a e;simp at e
 | @cons a b Pq Pr r t ih=>
  intro i a' e
  cases i with
  | zero=>
   simp only [oe,aj.injEq] at e
   subst e
   exact ⟨b,rfl,r⟩
  | succ j=>
   simp only [List.getElem?_cons_succ] at e ⊢
   exact ih e
theorem UN {k:Key} {u:Value} (h:DO k u=true):RelV (kV k) u:=by
 rcases gg h with ⟨i,t,rfl,rfl⟩ | ⟨x,t,rfl,rfl⟩
 ·exact ⟨t,rfl⟩
 ·exact ⟨t,rfl⟩
section
variable {X:Cx} {pins:List (Addr×Obj)} {σ:St} {H:Hp} {s:Shared} {d:Addr} {o:Obj}
theorem Inv.Zy {kvs:List (Key×V)} (I:Inv X pins σ H s) (h:H d=some (.oW o (.dK kvs))):
  (d==sysModules)=false/\s.heap.get? d=some o/\o.ExactDict/\∃ (es:Array DictEntry) (ep:Nat) (vs:List (Key×Value)),o.data=.dict es ep/\es.size=kvs.length/\KV kvs vs/\s.heap.DictAt (dQ X.prog X.w) d vs ep:=by
 obtain ⟨hd,z,hs,vs,kv,o',es,ep,ho,hx,HD,r⟩:=I.cU d _ h
 rw [hd] at ho
 cases ho
 refine ⟨hs,hd,hx,es,ep,vs,HD,?_,kv,o,es,hd,hx,HD,r⟩
 have l1:=r.2.1.length
 have l2:kvs.length=vs.length:=Paired.length kv
 rw [mB] at l1
 omega
theorem Inv.Zz {kvs:List (List Key×V)} (I:Inv X pins σ H s) (h:H d=some (.oW o (.dT kvs))):
  (d==sysModules)=false/\s.heap.get? d=some o/\o.ExactDict/\∃ (es:Array DictEntry) (ep:Nat),o.data=.dict es ep/\es.size=kvs.length/\
   ∀ (i:Nat) (k:List Key) (v:V),kvs[i]?=some (k,v)->∃ (en:DictEntry) (q:Addr),es[i]?=some en/\en.key=.ref q/\H q=some (.tup (k.map kV)):=by
 obtain ⟨hd,z,hs,xs,pr,o',es,ep,ho,hx,HD,he,_⟩:=I.cU d _ h
 rw [hd] at ho
 cases ho
 refine ⟨hs,hd,hx,es,ep,HD,?_,fun i k v e=>?_⟩
 ·have l1:es.size=xs.length:=size_of_entries he
  have l2:kvs.length=xs.length:=Paired.length pr
  omega
 ·obtain ⟨b,hb,e1,e2,_⟩:=PY pr e
  have q:=entry_at he i
  rw [hb] at q
  exact ⟨_,b.2.1,q,rfl,e2⟩
end
def Itk (d:Addr) (o:Obj) (kvs:List (Key×V)):It:=
 ⟨fun i H=>H d=some (.oW o (.dK kvs))/\i<kvs.length,fun i H x H'=>H'=H/\∃ k v,kvs[i]?=some (k,v)/\x=kV k,fun i H=>H d=some (.oW o (.dK kvs))/\kvs.length<=i⟩
def UO (d:Addr) (o:Obj) (kvs:List (List Key×V)):It:=
 ⟨fun i H=>H d=some (.oW o (.dT kvs))/\i<kvs.length,fun i H x H'=>H'=H/\∃ (k:List Key) (v:V) (q:Addr),kvs[i]?=some (k,v)/\x=.ref q/\H q=some (.tup (k.map kV)),fun i H=>H d=some (.oW o (.dT kvs))/\kvs.length<=i⟩
theorem EZ {o:Obj} {es TQ:Array DictEntry} {ep TR:Nat} (h:o.data=.dict es ep) (h':o.data=.dict TQ TR):TQ=es/\TR=ep:=by
 rw [h] at h'
 cases h'
 exact ⟨rfl,rfl⟩
section
variable {P:Program} {w:World} {K:ab} {tg:Expr} {d:Addr} {o:Obj} {es:Array DictEntry} {ep:Nat}
theorem Sz {kvs:List (Key×V)} (it:Addr) (MM:o.data=.dict es ep):Turn P w K tg (Itk d o kvs) [it] it (fun i h=>h.IsKeyIter it d i kvs.length ep) where
 mem:=by simp
 obj:=fun i h st b hb=>by
  have e:b=it:=by simpa using hb
  subst e
  obtain ⟨oi,e,c,dd⟩:=st
  exact ⟨oi,e,fun v z=>by rw [dd] at z;cases z⟩
 keep:=fun i h h' st k=>st.at fun oi e=>k it (by simp) oi e
 item:=by
  intro X hP hw hK hc i pins s σ H E I hf st hg
  subst hP hw hK
  obtain ⟨hd,hi⟩:=hg
  obtain ⟨f0,f1,f2,f3,f4,f5⟩:=hf it (by simp)
  obtain ⟨hs,fj,hx,TQ,TR,vs,HD,hsz,kv,hm⟩:=I.Zy hd
  obtain ⟨rfl,rfl⟩:=EZ MM HD
  obtain ⟨⟨k,v⟩,hkv⟩:∃ p,kvs[i]?=some p:=⟨kvs[i],a7 hi⟩
  obtain ⟨u,hu,ru⟩:=Zx kv hkv
  have hl:kvs.length=vs.length:=Paired.length kv
  rw [hl] at st
  refine wpAny_pyNext_dict_item st hm hu fun key h' Hz Cs sb=>?_
  have I1:Inv X pins σ H { s with heap:=h' }:=I.turned (t':=s.toks) (fun b ob hb e=>(sb.2 b hb).trans e) f0 f1 f3 f4 f5
  obtain ⟨oi,e,c,dd⟩:=id Cs
  refine ⟨key,rfl,Fn (s:={ s with heap:=h' }) e c dd (by decide) ⟨kV k,H,I1,UN (show DO k key=true from Hz),⟨rfl,k,v,hkv,rfl⟩,?_,fun b hb=>(hf b hb).1⟩⟩
  show h'.IsKeyIter it d (i+1) kvs.length _
  rw [hl]
  exact Cs
 done:=by
  intro X hP hw hK hc i pins s σ H E I hf st hg
  subst hP hw hK
  obtain ⟨hd,hi⟩:=hg
  obtain ⟨f0,f1,f2,f3,f4,f5⟩:=hf it (by simp)
  obtain ⟨hs,fj,hx,TQ,TR,vs,HD,hsz,kv,hm⟩:=I.Zy hd
  obtain ⟨rfl,rfl⟩:=EZ MM HD
  exact BB (I.ok.hd hc) st fj HD hsz hi fun h' eb=>⟨rfl,I.turned (t':=s.toks) (fun b ob hb e=>eb b ob hb e) f0 f1 f3 f4 f5⟩
 self:=fun A i s Q E st h=>wpAny_pyIter_keyiter st h
theorem PZ {kvs:List (List Key×V)} (it:Addr) (MM:o.data=.dict es ep):Turn P w K tg (UO d o kvs) [it] it (fun i h=>h.IsKeyIter it d i kvs.length ep) where
 mem:=by simp
 obj:=fun i h st b hb=>by
  have e:b=it:=by simpa using hb
  subst e
  obtain ⟨oi,e,c,dd⟩:=st
  exact ⟨oi,e,fun v z=>by rw [dd] at z;cases z⟩
 keep:=fun i h h' st k=>st.at fun oi e=>k it (by simp) oi e
 item:=by
  intro X hP hw hK hc i pins s σ H E I hf st hg
  subst hP hw hK
  obtain ⟨hd,hi⟩:=hg
  obtain ⟨f0,f1,f2,f3,f4,f5⟩:=hf it (by simp)
  obtain ⟨hs,fj,hx,TQ,TR,HD,hsz,ent⟩:=I.Zz hd
  obtain ⟨rfl,rfl⟩:=EZ MM HD
  obtain ⟨⟨k,v⟩,hkv⟩:∃ p,kvs[i]?=some p:=⟨kvs[i],a7 hi⟩
  obtain ⟨en,q,hen,Hz,hq⟩:=ent i k v hkv
  refine HC st fj HD hsz hen fun h' Cs sb=>?_
  have I1:Inv X pins σ H { s with heap:=h' }:=I.turned (t':=s.toks) (fun b ob hb e=>(sb.2 b hb).trans e) f0 f1 f3 f4 f5
  obtain ⟨oi,e,c,dd⟩:=id Cs
  exact ⟨en.key,rfl,Fn (s:={ s with heap:=h' }) e c dd (by decide) ⟨.ref q,H,I1,Hz,⟨rfl,k,v,q,hkv,rfl,hq⟩,Cs,fun b hb=>(hf b hb).1⟩⟩
 done:=by
  intro X hP hw hK hc i pins s σ H E I hf st hg
  subst hP hw hK
  obtain ⟨hd,hi⟩:=hg
  obtain ⟨f0,f1,f2,f3,f4,f5⟩:=hf it (by simp)
  obtain ⟨hs,fj,hx,TQ,TR,HD,hsz,ent⟩:=I.Zz hd
  obtain ⟨rfl,rfl⟩:=EZ MM HD
  exact BB (I.ok.hd hc) st fj HD hsz hi fun h' eb=>⟨rfl,I.turned (t':=s.toks) (fun b ob hb e=>eb b ob hb e) f0 f1 f3 f4 f5⟩
 self:=fun A i s Q E st h=>by
  refine wpAny_pyIter_slot st.typeIs F.slot_dict_keyiterator_iter (wpAny_call_entry F.slot_dict_keyiterator_iter st.typeIs F.entry_dict_keyiterator_iter ?_ (F.args_dict_keyiterator_iter_1 _))
  show wpAny _ _ (ret (.ref it)) _ _ s
  exact wpAny_pure ⟨_,rfl,"dict_keyiterator",_,st.typeIs,F.slot_dict_keyiterator_next.lookup,h⟩
end
def acm (td:TE):TI:=fun σ H R=>td σ H fun x H1=>∃ d o,x=.ref d/\((∃ kvs,H1 d=some (.oW o (.dK kvs))/\R (Itk d o kvs) H1)\/∃ kvs,H1 d=some (.oW o (.dT kvs))/\R (UO d o kvs) H1)
section
variable {X:Cx} {tg e:Expr} {td:TE} {apos mr:Pos}
theorem RC (he:PE X e td):PI X tg e (acm td):=by
 intro pins s σ H R I h
 refine f9 (he pins s σ H _ I h) fun u s1 ⟨x,H1,I1,rx,d,o,ex,q⟩=>?_
 subst ex
 obtain rfl:u=Value.ref d:=rx
 rcases q with ⟨kvs,hd,q⟩ | ⟨kvs,hd,q⟩
 ·obtain ⟨hs,fj,hx,es,ep,vs,HD,hsz,kv,hm⟩:=I1.Zy hd
  refine Jo hs fj hx HD (FF (tk:=s1.toks) I1 _ (Sz _ HD) ⟨_,aQ _ rfl,rfl,?_⟩ q)
  rw [hsz]<;>rfl
 ·obtain ⟨hs,fj,hx,es,ep,HD,hsz,ent⟩:=I1.Zz hd
  refine Jo hs fj hx HD (FF (tk:=s1.toks) I1 _ (PZ _ HD) ⟨_,aQ _ rfl,rfl,?_⟩ q)
  rw [hsz]<;>rfl
end
theorem SA:bootBuiltins "zip"=some (.type "zip"):=by decide +kernel
def Itz (K:ab) (a b:Addr):It:=
 ⟨fun i H=>∃ (xs ys:List V) (x y:V),bO K H a xs/\bO K H b ys/\xs[i]?=some x/\ys[i]?=some y,
  fun i H v H'=>∃ T x y,v=.ref T/\H T=none/\H'=upd H T (.tup [x,y])/\(∀ xs,bO K H a xs->xs[i]?=some x)/\∀ ys,bO K H b ys->ys[i]?=some y,
  fun i H=>∃ xs ys:List V,bO K H a xs/\bO K H b ys/\(xs.length<=i\/ys.length<=i)⟩
theorem UP {P:Program} {w:World} {K:ab} {elts:List Expr} {kk:Nat} {HA:Pos} {a b z TI TO i1 i2:Addr} (D:ZipApart z TI TO i1 i2 a b):
  Turn P w K (.Tuple elts kk HA) (Itz K a b) [z,TI,TO,i1,i2] z (fun i h=>IsZip h z TI TO .none/\IsPair h TI (.ref i1) (.ref i2)/\(∃ x y,IsPair h TO x y)/\h.IsListIter i1 a i/\h.IsListIter i2 b i) where
 mem:=by simp
 obj:=fun i h st c hc=>by
  obtain ⟨hz,UQ,⟨x,y,WK⟩,⟨o1,e1,_,d1⟩,⟨o2,e2,_,d2⟩⟩:=st
  have e':c=z\/c=TI\/c=TO\/c=i1\/c=i2:=by simpa using hc
  rcases e' with q | q | q | q | q
  ·rw [q];exact ⟨_,hz,fun v q=>nomatch q⟩
  ·rw [q];exact ⟨_,UQ,fun v q=>nomatch q⟩
  ·rw [q];exact ⟨_,WK,fun v q=>nomatch q⟩
  ·rw [q];exact ⟨o1,e1,fun v q=>by rw [d1] at q;cases q⟩
  ·rw [q];exact ⟨o2,e2,fun v q=>by rw [d2] at q;cases q⟩
 keep:=fun i h h' st k=>by
  obtain ⟨hz,UQ,⟨x,y,WK⟩,h1,h2⟩:=st
  exact ⟨k z (by simp) _ hz,k TI (by simp) _ UQ,⟨x,y,k TO (by simp) _ WK⟩,h1.at fun o q=>k i1 (by simp) o q,h2.at fun o q=>k i2 (by simp) o q⟩
 item:=by
  intro X hP hw hK hc i pins s σ H E I hf st hg
  subst hP hw hK
  obtain ⟨hz,UQ,⟨x0,y0,WK⟩,h1,h2⟩:=st
  obtain ⟨xs,ys,x,y,hqx,hqy,hx,hy⟩:=hg
  obtain ⟨cq,rv,p,_⟩:=I.list hqx
  obtain ⟨xr,ZA,p2,_⟩:=I.list hqy
  obtain ⟨u,hu,ru⟩:=rv.get hx
  obtain ⟨u2,Zp,ru2⟩:=ZA.get hy
  have hzl:z<s.heap.objs.size:=a8 hz
  refine wpAny_pyNext_zip_item D hz UQ WK h1 h2 p.isList p2.isList (x:=u) (y:=u2) (by simpa using hu) (by simpa using Zp) fun h' z' TO' h1' h2' hT hsz hk=>?_
  refine ⟨_,rfl,wpAny_letOwnedTupleGo_zip (s:={ s with heap:=h' }) z' fun Yv z'' sb=>?_⟩
  have SD:Yv.get? s.heap.objs.size=some { cls:=.type "tuple",data:=.seq #[u,u2] }:=(sb.2 _ (rM hzl)).trans hT
  have new:f6 X.prog X.w (upd H s.heap.objs.size (.tup [x,y])) Yv s.heap.objs.size (.tup [x,y]):=
   ⟨by show 2<=sizeLine;decide,[u,u2],.cons ru (.cons ru2 .nil),⟨_,SD,rfl,_,rfl⟩⟩
  have I1:Inv X pins σ (upd H s.heap.objs.size (.tup [x,y])) { s with heap:=Yv }:=
   I.Jn (t':=s.toks) (ch:=[z,TI,TO,i1,i2]) (fun c o hb q=>(sb.2 c (fun q'=>hb (by simp [q']))).trans (hk c o (fun q'=>hb (by simp [q'])) (fun q'=>hb (by simp [q'])) (fun q'=>hb (by simp [q'])) (fun q'=>hb (by simp [q'])) q)) hf (au _) new
  refine ⟨.ref s.heap.objs.size,_,I1,rfl,⟨_,x,y,rfl,I.cU.fresh (au _),rfl,fun l hl=>by rw [I.Bs hl hqx];exact hx,fun l hl=>by rw [I.Bs hl hqy];exact hy⟩,⟨z'',?_,⟨u,u2,?_⟩,?_,?_⟩,fun c SE=>?_⟩
  ·exact (sb.2 _ D.TIz).trans (hk _ _ D.TIz D.TITO D.TIi1 D.TIi2 UQ)
  ·exact (sb.2 _ D.TOz).trans TO'
  ·exact h1'.at fun o q=>(sb.2 _ D.i1z).trans q
  ·exact h2'.at fun o q=>(sb.2 _ D.i2z).trans q
  ·have iX:c<s.heap.objs.size:=by
    have e':c=z\/c=TI\/c=TO\/c=i1\/c=i2:=by simpa using SE
    rcases e' with q | q | q | q | q
    ·rw [q];exact hzl
    ·rw [q];exact a8 UQ
    ·rw [q];exact a8 WK
    ·rw [q];obtain ⟨_,e1,_⟩:=h1;exact a8 e1
    ·rw [q];obtain ⟨_,e2,_⟩:=h2;exact a8 e2
   rw [aD (cj iX)]
   exact (hf c SE).1
 done:=by
  intro X hP hw hK hc i pins s σ H E I hf st hg
  subst hP hw hK
  obtain ⟨hz,UQ,⟨x0,y0,WK⟩,h1,h2⟩:=st
  obtain ⟨xs,ys,hqx,hqy,afP⟩:=hg
  obtain ⟨cq,rv,p,_⟩:=I.list hqx
  obtain ⟨xr,ZA,p2,_⟩:=I.list hqy
  have l1:=rv.length
  have l2:=ZA.length
  have he:cq.toArray[i]?=none\/xr.toArray[i]?=none:=by
   rcases afP with q | q
   ·exact .inl (by simp;omega)
   ·exact .inr (by simp;omega)
  exact wpAny_pyNext_zip_end (I.ok.hd hc) D hz UQ WK h1 h2 p.isList p2.isList he fun h' hk=>⟨rfl,I.Xg (t':=s.toks) (ch:=[z,TI,TO,i1,i2]) (fun c o hb q=>
   hk c o (fun q'=>hb (by simp [q'])) (fun q'=>hb (by simp [q'])) (fun q'=>hb (by simp [q'])) (fun q'=>hb (by simp [q'])) q) hf⟩
 self:=fun A i s Q E st h=>wpAny_pyIter_zip st.1 h
def afQ (K:ab) (ta:TA):TI:=fun σ H R=>ta σ H fun vs H1=>∃ a b xs ys,vs=[.ref a,.ref b]/\bO K H1 a xs/\bO K H1 b ys/\R (Itz K a b) H1
theorem ZC {X:Cx} {e e2:Expr} {ta:TA} {p pos HA:Pos} {elts:List Expr} {kk:Nat} (hg:Gl X "zip") (hm:X.mg "zip"=none) (ha:PA X [e,e2] ta)
  (hs:starEach [e,e2] X.env=(false,eval e X.env)::starEach [e2] X.env:=by rfl) (kF:(backTo pos (starEach [e2] X.env)).any (·.1)=false:=by rfl):
  PI X (.Tuple elts kk HA) (.Call (.Name "zip" p) [e,e2] [] pos) (afQ X.K ta):=by
 intro pins s σ H R I h
 refine Call_ (tY I hg hm SA (PyProof.Rows.callWith_type1 (f9 (ha pos pins s σ H _ I h) fun us s1 ⟨vs,H1,I1,r1,q1⟩=>?_) hs kF))
 obtain ⟨a,b,xs,ys,ex,hqx,hqy,q⟩:=q1
 subst ex
 cases r1 with
 | cons r rr=>
  cases rr with
  | cons r' rr=>
   cases rr
   cases r
   cases r'
   obtain ⟨cq,rv,p1,_⟩:=I1.list hqx
   obtain ⟨xr,ZA,p2,_⟩:=I1.list hqy
   have la:a<s1.heap.objs.size:=p1.lt
   have lb:b<s1.heap.objs.size:=p2.lt
   refine call_zip_2 p1.isList p2.isList fun h' hz UQ WK h1 h2 hsz hk=>wpAny_pyIter_zip hz ?_
   have I2:Inv X pins σ H1 { s1 with heap:=h' }:=I1.kept (t':=s1.toks) hk
   refine ⟨s1.heap.objs.size+4,[s1.heap.objs.size+4,s1.heap.objs.size+2,s1.heap.objs.size+3,s1.heap.objs.size,s1.heap.objs.size+1],_,_,H1,rfl,I2,UP (PySem.W.ktu_apart s1.heap.objs.size a b la lb),⟨hz,UQ,⟨_,_,WK⟩,h1,h2⟩,fun c SE=>?_,q⟩
   have e':c=s1.heap.objs.size+4\/c=s1.heap.objs.size+2\/c=s1.heap.objs.size+3\/c=s1.heap.objs.size\/c=s1.heap.objs.size+1:=by simpa using SE
   have hle:s1.heap.objs.size<=c:=by
    rcases e' with z | z | z | z | z
    ·rw [z];exact md _ _
    ·rw [z];exact md _ _
    ·rw [z];exact md _ _
    ·rw [z];exact au _
    ·rw [z];exact md _ _
   exact I1.J8 hle (I1.cU.fresh hle)
end L2
section
namespace afR
open PySem PyProof.Rows
end afR
end
section
namespace TL
open PySem PySem.Builtin PySem.Builtin.Str PySem.StrLaws
abbrev tl (x:Str):List Nat:=x.cps.toList
theorem xy (x:Str):x.length=(tl x).length:=by simp [tl,Str.length]
theorem FG {x y:Str} (h:tl x=tl y):x=y:=Str.ext' (Array.toList_inj.mp h)
theorem CI (x y:Str):tl (x++y)=tl x++tl y:=by
 show (x++y).cps.toList=_
 rw [Str.cps_append,Array.toList_append]
theorem FH:∀ {l m:List Str},l.map tl=m.map tl->l=m
 | [],[],_=>rfl
 | [],_::_,h=>by simp at h
 | _::_,[],h=>by simp at h
 | x::l,y::m,h=>by
  rw [aC,aC] at h
  injection h with h1 h2
  rw [FG h1,FH h2]
def pre (S l:List Nat):Bool:=l.take S.length==S
def ED (S:List Nat):Nat->List Nat->List Nat->List (List Nat)
 | _,acc,[]=>[acc]
 | 0,acc,c::r=>if pre S (c::r)=true then acc::ED S (S.length - 1) [] r else ED S 0 (acc++[c]) r
 | k+1,acc,_::r=>ED S k acc r
theorem E1 (S:List Nat) (k:Nat) (acc:List Nat):ED S k acc []=[acc]:=by cases k<;>rfl
theorem RD {S acc r:List Nat} {c:Nat} (h:pre S (c::r)=true):ED S 0 acc (c::r)=acc::ED S (S.length - 1) [] r:=by
 show (if pre S (c::r)=true then acc::ED S (S.length - 1) [] r else ED S 0 (acc++[c]) r)=_
 rw [if_pos h]
theorem Nm {S acc r:List Nat} {c:Nat} (h:pre S (c::r)=false):ED S 0 acc (c::r)=ED S 0 (acc++[c]) r:=by
 show (if pre S (c::r)=true then acc::ED S (S.length - 1) [] r else ED S 0 (acc++[c]) r)=_
 rw [if_neg (by rw [h];exact a6)]
theorem Nn (S:List Nat):∀ (k:Nat) (acc l:List Nat),ED S k acc l=ED S 0 acc (l.drop k)
 | 0,_,_=>by rw [List.drop_zero]
 | k+1,acc,[]=>by rw [List.drop_nil,E1,E1]
 | k+1,acc,c::r=>by
  show ED S k acc r=ED S 0 acc (r.drop k)
  exact Nn S k acc r
theorem Xj {S:List Nat} (hS:S≠[]):pre S []=false:=by
 cases S with
 | nil=>exact absurd rfl hS
 | cons s S=>rfl
theorem Np {s c:Nat} (S r:List Nat) (h:c≠s):pre (s::S) (c::r)=false:=by
 cases hp:pre (s::S) (c::r) with
 | false=>rfl
 | true=>
  have e:(c::r).take (s::S).length=s::S:=eq_of_beq hp
  rw [aq,List.take_succ_cons] at e
  injection e with e1 e2
  exact absurd e1 h
theorem UR (S r:List Nat):pre S (S++r)=true:=by
 show ((S++r).take S.length==S)=true
 have e:(S++r).take S.length=S:=List.take_left
 rw [e]<;>exact beq_self_eq_true S
theorem BC {L:List Nat} {a:Nat} (h:a<L.length):∃ c,L.drop a=c::L.drop (a+1):=⟨L[a],cw h⟩
theorem Kh (S L:List Nat):∀ (m a:Nat) (acc:List Nat),a+m<=L.length->(∀ k,a<=k->k<a+m->pre S (L.drop k)=false)->
  ED S 0 acc (L.drop a)=ED S 0 (acc++(L.drop a).take m) (L.drop (a+m))
 | 0,a,acc,_,_=>by rw [List.take_zero,cb,Nat.add_zero]
 | m+1,a,acc,h,hn=>by
  have iX:a<L.length:=by omega
  obtain ⟨c,e⟩:=BC iX
  have h0:=hn a (au _) (by omega)
  have ih:=Kh S L m (a+1) (acc++[c]) (by omega) (fun k h1 h2=>hn k (by omega) (by omega))
  have e2:a+1+m=a+(m+1):=by omega
  rw [e2] at ih
  rw [e] at h0
  rw [e,Nm h0,ih,List.take_succ_cons,bX]<;>rfl
theorem US (L:List Nat) (a b:Nat):(L.drop a).drop b=L.drop (a+b):=by
 first
  | rw [sX]
  | rw [sX,Nat.add_comm]
theorem ZD {S L:List Nat} (hS:S≠[]) {c:Nat} {acc:List Nat} (h:pre S (L.drop c)=true):ED S 0 acc (L.drop c)=acc::ED S 0 [] (L.drop (c+S.length)):=by
 rw [<- US]
 cases e:L.drop c with
 | nil=>rw [e,Xj hS] at h;cases h
 | cons d r=>
  rw [e] at h
  rw [RD h,Nn]
  cases S with
  | nil=>exact absurd rfl hS
  | cons s S=>rfl
theorem UT {x y:Str} (hy:tl y≠[]) (i:Nat):At x y x.length i↔pre (tl y) ((tl x).drop i)=true:=by
 have hx:=xy x
 have hl:=xy y
 constructor
 ·intro h
  have h2:=h.2
  rw [subAt_eq,hl] at h2
  exact h2
 ·intro h
  have e:((tl x).drop i).take (tl y).length=tl y:=eq_of_beq h
  have e1:=congrArg iA e
  rw [bK,dh] at e1
  have e2:0<(tl y).length:=iZ.mpr hy
  refine ⟨by omega,?_⟩
  rw [subAt_eq,hl]
  exact h
theorem Yy {x y:Str} (hy:tl y≠[]) {i:Nat} (h:¬ At x y x.length i):pre (tl y) ((tl x).drop i)=false:=by
 cases hp:pre (tl y) ((tl x).drop i) with
 | false=>rfl
 | true=>exact absurd ((UT hy i).mpr hp) h
theorem afS {y:Str} (hy:tl y≠[]):1<=y.length:=by
 have e2:0<(tl y).length:=iZ.mpr hy
 rw [xy y]
 exact e2
theorem Jp (x:Str) (i j:Nat):tl (strSub x i j)=((tl x).drop i).take (j - i):=strSub_toList x i j
theorem HE (x:Str) (i:Nat):tl (strSub x i x.length)=(tl x).drop i:=by
 rw [Jp,xy x]
 exact cI (by rw [dh]<;>omega)
theorem Jq {x y:Str} (hy:tl y≠[]):∀ (aco:List Nat) (a f:Nat),a<=(tl x).length->ChainG x y x.length a aco f->(∀ k,f<=k->¬ At x y x.length k)->
  (partsFrom x y.length a aco).map tl=ED (tl y) 0 [] ((tl x).drop a)
 | [],a,f,ha,h,hn=>by
  have e:f=a:=h
  subst e
  show [tl (strSub x f x.length)]=_
  have run:=Kh (tl y) (tl x) ((tl x).length - f) f [] (by omega) (fun k h1 _=>Yy hy (hn k h1))
  have e2:f+((tl x).length - f)=(tl x).length:=by omega
  rw [e2,me,E1,jZ,cI (by rw [dh]<;>omega)] at run
  rw [run,HE]
 | c::r,a,f,ha,h,hn=>by
  obtain ⟨h1,h2,h3,h4⟩:=h
  have hc:c+y.length<=x.length:=h2.1
  have hx:=xy x
  have hl:=xy y
  have ih:=Jq hy r (c+y.length) f (by omega) h4 hn
  show tl (strSub x a c)::(partsFrom x y.length (c+y.length) r).map tl=_
  have run:=Kh (tl y) (tl x) (c - a) a [] (by omega) (fun k k1 k2=>Yy hy (h3 k k1 (by omega)))
  have e2:a+(c - a)=c:=by omega
  rw [e2,jZ,ZD hy ((UT hy c).mp h2)] at run
  rw [run,ih,Jp,hl]
theorem SF (x y:Str) (hy:tl y≠[]) (hk:¬ Builtin.Str.strKind x<Builtin.Str.strKind y):(Txt.split x y).map tl=ED (tl y) 0 [] (tl x):=by
 obtain ⟨f,g,hn⟩:=occ_tight x y (afS hy)
 have key:=Jq hy _ 0 f (a0 _) g hn
 rw [List.drop_zero] at key
 have Jr:occurrences x y 0 x.length (x.length+1)=[]->[x].map tl=ED (tl y) 0 [] (tl x):=fun ho=>by
  rw [ho] at key
  rw [<- key]
  show [tl x]=[tl (strSub x 0 x.length)]
  rw [sub_whole]
 unfold Txt.split
 by_cases h1:(decide (x.length<y.length)||decide (Builtin.Str.strKind x<Builtin.Str.strKind y))=true
 ·rw [if_pos h1]
  have iX:x.length<y.length:=by
   simp only [Bool.or_eq_true,decide_eq_true_eq] at h1
   rcases h1 with h | h
   ·exact h
   ·exact absurd h hk
  refine Jr ?_
  cases ho:occurrences x y 0 x.length (x.length+1) with
  | nil=>rfl
  | cons c r=>
   rw [ho] at g
   have hc:c+y.length<=x.length:=g.2.1.1
   omega
 ·rw [if_neg h1]
  by_cases h2:(occurrences x y 0 x.length (x.length+1)).isEmpty=true
  ·rw [if_pos h2]
   exact Jr (List.isEmpty_iff.mp h2)
  ·rw [if_neg h2,partsBetween_eq]
   exact key
theorem Xk {x y:Str} (h:y.cps.all (·<256)=true):¬ Builtin.Str.strKind x<Builtin.Str.strKind y:=by
 have e:Builtin.Str.strKind y=1:=by unfold PySem.Builtin.Str.strKind;rw [if_pos h]
 rw [e]
 unfold PySem.Builtin.Str.strKind
 split
 ·omega
 ·split<;>omega
def ot (S:List Nat):List (List Nat)->List Nat
 | []=>[]
 | [p]=>p
 | p::q::r=>p++(S++ot S (q::r))
theorem E2 (y:Str):∀ parts:List Str,tl (Str.join y parts)=ot (tl y) (parts.map tl)
 | []=>rfl
 | [_]=>rfl
 | x::z::r=>by
  show tl (x++y++Str.join y (z::r))=tl x++(tl y++ot (tl y) ((z::r).map tl))
  rw [CI,CI,E2 y (z::r),bX]
theorem join_eq (y:Str) (parts:List Str):Txt.join y parts=Str.join y parts:=glued_eq_join y parts
def Nq (n:Nat):List Nat:=(oM 10 n).map Char.toNat
theorem P0 (n:Nat):tl (Str.ofString (toString ((n:Nat):Int)))=Nq n:=PySem.W.KIN.signs_num n
theorem zZ:∀ d:Nat,d<10->(Nat.digitChar d).toNat=48+d:=by decide
theorem Ki {n:Nat} (h:n<10):Nq n=[48+n]:=by
 unfold Nq
 rw [Nat.toDigits_of_lt_base h]
 show [(Nat.digitChar n).toNat]=_
 rw [zZ n h]
theorem SH {n:Nat} (h:10<=n):Nq n=Nq (n / 10)++[48+n % 10]:=by
 have hm:n % 10<10:=Nat.mod_lt n (by decide)
 have t:oM 10 (n / 10)++oM 10 (n % 10)=oM 10 (10*(n / 10)+n % 10):=Nat.toDigits_append_toDigits (by decide) (by omega) hm
 rw [Nat.div_add_mod] at t
 show (oM 10 n).map Char.toNat=_
 rw [<- t,aX,Nat.toDigits_of_lt_base hm]
 show (oM 10 (n / 10)).map Char.toNat++[(Nat.digitChar (n % 10)).toNat]=_
 rw [zZ _ hm]<;>rfl
theorem UU {n k:Nat} (hk:0<k) (h:n<10 ^ k):(Nq n).length<=k:=by
 have z:=PyProof.Rows.toString_length_le (v:=(n:Int)) (by omega) hk (by
  have e:((10:Int) ^ k)=((10 ^ k:Nat):Int):=by
   first
    | exact (Int.natCast_pow 10 k).symm
    | simp
  rw [e]
  first | exact Int.ofNat_lt.mpr h | omega)
 rw [xy,P0] at z
 exact z
end TL
end
namespace L2
open PySem PySem.Spec PyProof.Rows
theorem Js:∀ l:List (Str×Tok),Vals ((l.map (·.1)).map V.str) (strValues l)
 | []=>.nil
 | p::r=>.cons ⟨p.2,rfl⟩ (Js r)
theorem vm:∀ {ys:List Str} {us:List Value},Vals (ys.map V.str) us->StrsAre us ys
 | [],_,.nil=>.nil
 | y::ys,_,.cons r t=>by
  obtain ⟨k,rfl⟩:=r
  exact .cons y k (vm t)
def FI (ys:List Str):Hp->VK->Prop:=fun H Q=>∀ p,H p=none->Q (.ref p) (upd H p (.lst (ys.map V.str)))
section
variable {X:Cx} {pins:List (Addr×Obj)} {σ:St} {H:Hp} {s:Shared} {Q:VK}
theorem CJ {l:List (Str×Tok)} {ys:List Str} {k:Nat} (I:Inv X pins σ H s) (e:l.map (·.1)=ys) (hz:ys.length<=sizeLine) (h:FI ys H Q):
  EP X pins σ Q (.ref s.heap.objs.size) { s with toks:=k,heap:=s.heap.push { cls:=.type "list",data:=.seq (strValues l).toArray } }:=by
 have hp:=I.cU.fresh (au _)
 refine ⟨.ref s.heap.objs.size,upd H s.heap.objs.size (.lst (ys.map V.str)),I.laid (fun b u q=>aA _ q) (au _) ⟨by rw [U];exact hz,strValues l,_,?_,aQ _ rfl⟩,rfl,h _ hp⟩
 rw [<- e]
 exact Js l
end
section
variable {X:Cx}
theorem UW:Ss X "str.split" (fun x xs H Q=>∃ a b,x=.str a/\xs=[.str b]/\(b.length==0)=false/\a.length+2<=sizeLine/\FI (Txt.split a b) H Q):=by
 intro pins s σ H x xs v us Q I rx rs h
 obtain ⟨a,b,rfl,rfl,hb,hz,h⟩:=h
 obtain ⟨t,rfl⟩:=rx
 cases rs with
 | cons r1 rs=>
  cases rs
  obtain ⟨u,rfl⟩:=r1
  have hl:(Txt.split a b).length<=sizeLine:=bB (PyProof.Rows.split_le a b) hz
  have hn:(Builtin.Str.partsBetween a (Builtin.Str.occurrences a b 0 a.length (a.length+1)) b.length).length<=sizeLine:=by
   have e1:=StrLaws.occ_length_le a b 0 a.length (a.length+1)
   rw [length_partsBetween];omega
  cases h1:(decide (a.length<b.length)||decide (Builtin.Str.strKind a<Builtin.Str.strKind b))
  ·cases hf:(Builtin.Str.occurrences a b 0 a.length (a.length+1)).isEmpty
   ·refine call_meets F.slot_str_split (typeIs_str _ _ _) F.entry_str_split (F.args_str_split_2 _ _) (meets_str_split_sep a b t u h1 hb hf (by omega) hn) ?_
    show EP X pins σ Q (.ref s.heap.objs.size) { s with toks:=_,heap:=s.heap.push { cls:=.type "list",data:=.seq (strsFrom s.toks (Builtin.Str.partsBetween a (Builtin.Str.occurrences a b 0 a.length (a.length+1)) b.length)).toArray } }
    rw [strsFrom_eq]
    exact CJ (ys:=Txt.split a b) I ((numbered_texts _ _).trans ((if_neg (ne_true_of_eq_false h1)).trans (if_neg (ne_true_of_eq_false hf))).symm) hl h
   ·refine call_meets F.slot_str_split (typeIs_str _ _ _) F.entry_str_split (F.args_str_split_2 _ _) (meets_str_split_not_found a b t u h1 hb hf) ?_
    exact CJ (l:=[(a,t)]) (ys:=Txt.split a b) (k:=s.toks) I ((if_neg (ne_true_of_eq_false h1)).trans (if_pos hf)).symm hl h
  ·refine call_meets F.slot_str_split (typeIs_str _ _ _) F.entry_str_split (F.args_str_split_2 _ _) (meets_str_split_cannot_occur a b t u h1) ?_
   exact CJ (l:=[(a,t)]) (ys:=Txt.split a b) (k:=s.toks) I (if_pos h1).symm hl h
theorem Xl:Ss X "str.join" (fun x xs H Q=>∃ a p,∃ ys:List Str,x=.str a/\xs=[.ref p]/\(bO X.K H p (ys.map V.str)\/oX X.K H p (ys.map V.str))/\
  (ys.map (·.length)).sum+ys.length*a.length<=16777216/\Q (.str (Txt.join a ys)) H):=by
 intro pins s σ H x xs v us Q I rx rs h
 obtain ⟨a,p,ys,rfl,rfl,hp,hz,h⟩:=h
 obtain ⟨t,rfl⟩:=rx
 cases rs with
 | cons r1 rs=>
  cases rs
  cases r1
  rcases hp with hp | hp
  ·obtain ⟨cq,r,⟨o,n,ho,hc,_,hd⟩,_⟩:=I.list hp
   exact PyProof.Rows.join_list (items:=cq.toArray) ⟨o,ho,hc,n,hd⟩ (by rw [List.toList_toArray];exact vm r) hz fun t' k=>⟨.str _,H,I.tok k,⟨t',rfl⟩,h⟩
  ·obtain ⟨cq,r,ht,_⟩:=I.tuple hp
   exact PyProof.Rows.join_tuple (items:=cq.toArray) ht (by rw [List.toList_toArray];exact vm r) hz fun t' k=>⟨.str _,H,I.tok k,⟨t',rfl⟩,h⟩
theorem mt0 {id:String} {C:Str->Prop} {g:Str->V} (rule:∀ (a:Str) (t:Tok) (s:Shared) (Q:Value->Shared->Prop),C a->(∀ (u:Value) (k:Nat),RelV (g a) u->Q u { s with toks:=k })->
  wpAny (model X.prog X.w) X.A (call (.builtin id) [.str a t]) Q X.xe s):Ss X id (fun x xs H Q=>∃ a,x=.str a/\xs=[]/\C a/\Q (g a) H):=by
 intro pins s σ H x xs v us Q I rx rs h
 obtain ⟨a,rfl,rfl,hc,h⟩:=h
 obtain ⟨t,rfl⟩:=rx
 cases rs
 exact rule a t s _ hc fun u k r=>⟨g a,H,I.tok k,r,h⟩
theorem P_:Ss X "str.isdigit" (fun x xs H Q=>∃ a,x=.str a/\xs=[]/\True/\Q (.bl (Txt.isdigit a)) H):=
 mt0 (C:=fun _=>True) (g:=fun a=>.bl (Txt.isdigit a)) fun _ _ s _ _ h=>PySem.SC.isdigit (h _ s.toks rfl)
theorem BD:r0 X (.type "int") (fun xs H Q=>∃ a n,xs=[.str a]/\PySem.intText? a=some n/\a.length<=640/\Q (.int n) H):=by
 intro pins s σ H xs us Q I rs h
 obtain ⟨a,n,rfl,hn,hl,h⟩:=h
 cases rs with
 | cons r1 rs=>
  cases rs
  obtain ⟨t,rfl⟩:=r1
  exact PySem.W.KIN.call_text hn hl ⟨.int n,H,I.tok _,⟨_,rfl⟩,h⟩
end
section
variable {X:Cx} {o e:Expr} {to te:TE}
def tM0 (r:V->List V->Hp->VK->Prop) (to:TE):TE:=fun σ H Q=>to σ H fun x H1=>(∃ a,x=.str a)/\r x [] H1 Q
def tM1 (r:V->List V->Hp->VK->Prop) (to te:TE):TE:=fun σ H Q=>to σ H fun x H1=>(∃ a,x=.str a)/\te σ H1 fun y H2=>r x [y] H2 Q
theorem acp {id:String} {name:Str} {apos pos:Pos} {r:V->List V->Hp->VK->Prop} (slot:Slot "str" name id) (ty:typeOf (.builtin id)=pure (.type "method_descriptor")) (rule:Ss X id r) (ho:PE X o to)
  (qf:attributeBase o name X.env (eval o X.env)=eval o X.env:=by rfl) (qg:(apos.endLine==pos.line)=true:=by rfl):PE X (.Call (.Attribute o name apos) [] [] pos) (tM0 r to):=by
 intro pins s σ H Q I h
 refine PySem.Call_method0 qf qg (f9 (ho pins s σ H _ I h) fun v s1 ⟨x,H1,I1,r1,q1⟩=>?_)
 obtain ⟨⟨a,rfl⟩,q1⟩:=q1
 obtain ⟨t,rfl⟩:=_root_.id r1
 exact ⟨"str",_,F.plainAttrs_str,slot,ty,typeIs_str _ _ _,(fun _ e=>nomatch e),Calls.callWith_builtin rfl (PySem.evalArgs_none (rule pins s1 σ H1 _ [] _ [] Q I1 r1 .nil q1))⟩
theorem Yz {id:String} {name:Str} {apos pos:Pos} {r:V->List V->Hp->VK->Prop} (slot:Slot "str" name id) (ty:typeOf (.builtin id)=pure (.type "method_descriptor")) (rule:Ss X id r) (ho:PE X o to) (he:PE X e te)
  (hs:starEach [e] X.env=[(false,eval e X.env)]:=by rfl) (qf:attributeBase o name X.env (eval o X.env)=eval o X.env:=by rfl) (qg:(apos.endLine==pos.line)=true:=by rfl):
  PE X (.Call (.Attribute o name apos) [e] [] pos) (tM1 r to te):=by
 intro pins s σ H Q I h
 refine PySem.Call_method1 qf hs qg (f9 (ho pins s σ H _ I h) fun v s1 ⟨x,H1,I1,r1,q1⟩=>?_)
 obtain ⟨⟨a,rfl⟩,q1⟩:=q1
 obtain ⟨t,rfl⟩:=_root_.id r1
 refine ⟨"str",_,F.plainAttrs_str,slot,ty,typeIs_str _ _ _,(fun _ e=>nomatch e),Calls.callWith_builtin rfl (Calls.evalArgs_plain (Calls.spliced_cons ?_))⟩
 exact f9 (he pins s1 σ H1 _ I1 q1) fun u s2 ⟨y,H2,I2,r2,q2⟩=>Calls.spliced_nil (rule pins s2 σ H2 _ [y] _ [u] Q I2 r1 (.cons r2 .nil) q2)
theorem UX {apos pos:Pos} (ho:PE X o to) (he:PE X e te) (hs:starEach [e] X.env=[(false,eval e X.env)]:=by rfl) (qf:attributeBase o "split" X.env (eval o X.env)=eval o X.env:=by rfl) (qg:(apos.endLine==pos.line)=true:=by rfl):
  PE X (.Call (.Attribute o "split" apos) [e] [] pos) (tM1 (fun x xs H Q=>∃ a b,x=.str a/\xs=[.str b]/\(b.length==0)=false/\a.length+2<=sizeLine/\FI (Txt.split a b) H Q) to te):=
 Yz F.slot_str_split F.type_str_split UW ho he hs qf qg
theorem E3 {apos pos:Pos} (ho:PE X o to) (he:PE X e te) (hs:starEach [e] X.env=[(false,eval e X.env)]:=by rfl) (qf:attributeBase o "join" X.env (eval o X.env)=eval o X.env:=by rfl) (qg:(apos.endLine==pos.line)=true:=by rfl):
  PE X (.Call (.Attribute o "join" apos) [e] [] pos) (tM1 (fun x xs H Q=>∃ a p,∃ ys:List Str,x=.str a/\xs=[.ref p]/\(bO X.K H p (ys.map V.str)\/oX X.K H p (ys.map V.str))/\
   (ys.map (·.length)).sum+ys.length*a.length<=16777216/\Q (.str (Txt.join a ys)) H) to te):=
 Yz F.slot_str_join F.type_str_join Xl ho he hs qf qg
end
section
variable {X:Cx}
end
end L2
namespace Att
open PySem PySem.W PySem.Calls PyProof.Rows
section
variable {prog:Program} {w:World} {A:Around} {E:Value->Shared->Prop} {s:Shared} {K:Frag}
end
end Att
namespace L2
open PySem PySem.Spec PyProof.Rows
abbrev KOf {K:ab} {h:Heap} (_:K.In h):ab:=K
def inClass (s:Stmt) (j:Nat):Stmt:=match s with
 | .ClassDef _ _ _ body _ _ _ _ _ _ _=>body.getD j (.Pass ⟨0,0,0,0⟩)
 | _=>.Pass ⟨0,0,0,0⟩
def ou (s:Stmt):Arguments:=match s with
 | .FunctionDef _ a _ _ _ _ _ _ _ _=>a
 | _=>{ posonlyargs:=[],args:=[],vararg:=none,kwonlyargs:=[],kw_defaults:=[],kwarg:=none,defaults:=[] }
def jG (s:Stmt):List Stmt:=match s with
 | .FunctionDef _ _ b _ _ _ _ _ _ _=>b
 | _=>[]
def aE (s:Stmt):Scope:=match s with
 | .FunctionDef _ _ _ _ _ _ sc _ _ _=>sc
 | _=>{ kind:=.function,names:=[],isGenerator:=false,isCoroutine:=false }
abbrev fw:TV:=fun _ _ _ _ _ _=>False
abbrev E0:XK:=fun _ _ _=>False
theorem bp {X:Cx}:Passes fw X E0:=fun _ _ _ _ _ _ _ h=>h.elim
structure cJ (K:ab) (x qual:Str) (st:Stmt) (f:Addr) (fd:FuncData):Prop where
 ex:∃ (oc:Value) (od:Option Addr) (kV doc pm:Value) (an:Option Addr) (eW ct:Value) (Hu:Array (Option Value)),
  fd=dW x qual (ou st) (jG st) (aE st) .none kV doc pm an eW ct/\K.lookup f=some ⟨oc,od,.func fd,Hu⟩/\lH K eW qual=true
 kp:c6 K (.ref f)=true
section
variable {P:Program} {w:World} {K:ab} {mg:Str->Option Value} {base:Heap}
theorem cJ.ok {x qual:Str} {st:Stmt} {f:Addr} {fd:FuncData} {N ps:List Str} {k:Nat} {sp:Sp} (F:cJ K x qual st f fd) (S:a4 N ps (aE st)) (len:∀ vs H Q E,sp vs H Q E->vs.length=ps.length)
  (xq:∀ (eW:Value) (A:Around) (outer:List Env) (s:Shared) (H:Hp) (vs:List V) (Q:VK) (E:XK),kE k (A.deeper (envOfC qual (aE st) s.heap.objs.size f eW))->sp vs H Q E->
   ∃ t,Rm (PL fw P w K mg base N qual (aE st) f eW A outer s H E).nox (jG st) t/\t { nx:=fun _ H'=>Q .jU H',rt:=Q } (start N vs) H):bY P w K mg base fw (k+1) f fd ps sp:=by
 obtain ⟨oc,od,kV,doc,pm,an,eW,ct,Hu,rfl,lk,MQ⟩:=F.ex
 refine Ys lk MQ S len fun A outer s H vs Q E hr WG=>?_
 obtain ⟨t,h,q⟩:=xq eW A outer s H vs Q E hr WG
 exact ⟨t,h.nox,q⟩
theorem cJ.binds {x qual:Str} {st:Stmt} {f:Addr} {fd:FuncData} {ps:List Str} (F:cJ K x qual st f fd)
  (h:∀ (kV doc pm:Value) (an:Option Addr) (eW ct:Value) (us:List Value),us.length=ps.length->bindArgs (dW x qual (ou st) (jG st) (aE st) .none kV doc pm an eW ct) ⟨us,[]⟩=pure (ps.zip us)):Binds K fd ps []:=by
 obtain ⟨oc,od,kV,doc,pm,an,eW,ct,Hu,rfl,lk,MQ⟩:=F.ex
 exact .all (h kV doc pm an eW ct)
end
theorem xA {A:Around} {k:Nat} (hr:kE k A):A.units+1<cLine:=nc (Nat.add_le_add_left (by decide:1<=64) _) hr.units
section
variable {X:Cx}
theorem pv (i:Nat) {x:Str} {pos:Pos} (hN:X.N[i]?=some x:=by rfl) (hv:Vis X.env.scope x:=by first | exact Or.inl rfl | exact Or.inr (Or.inl rfl) | exact Or.inr (Or.inr rfl)) (hd:(x==("__debug__":Str))=false:=by decide)
  (MQ:(x==("__classdict__":Str))=false:=by decide):PE X (.Name x pos) (Br i):=Y7 hN hv hd MQ
end
theorem cC {A B:Prop} (h:B):if false=true then A else B:=by
 rw [if_neg a6]
 exact h
theorem cz {A B:Prop} (h:A):if true=true then A else B:=by
 rw [if_pos rfl]
 exact h
def aM (H H':Hp):Prop:=∀ b o,H b=some o->H' b=some o
theorem aM.refl (H:Hp):aM H H:=fun _ _ h=>h
theorem aM.trans {H H1 H2:Hp} (a:aM H H1) (b:aM H1 H2):aM H H2:=fun c o h=>b c o (a c o h)
theorem aM.free {H H':Hp} (e:aM H H') {l:Addr} (h:H' l=Option.none):H l=Option.none:=by
 cases q:H l with
 | none=>rfl
 | some o=>
  rw [e l o q] at h
  cases h
theorem aM.seq {K:ab} {H H':Hp} {a:Addr} {xs:List V} (e:aM H H') (h:bO K H a xs):bO K H' a xs:=by
 rcases h with (h | ⟨o,h⟩) | h
 ·exact .inl (.inl (e _ _ h))
 ·exact .inl (.inr ⟨o,e _ _ h⟩)
 ·exact .inr h
section
variable {κ:Type} [DecidableEq κ]
theorem Jt {p:κ×V} {r:List (κ×V)} {k:κ} (e:p.1=k):w9 (p::r) k=w9 r k:=by
 unfold w9
 rw [eK,if_neg (by simp [e])]
theorem CK {p:κ×V} {r:List (κ×V)} {k:κ} (e:¬ p.1=k):w9 (p::r) k=p::w9 r k:=by
 unfold w9
 rw [eK,if_pos (by simp [e])]
theorem Nr:∀ {kvs:List (κ×V)} {k:κ},¬ k∈kvs.map (·.1)->w9 kvs k=kvs
 | [],_,_=>rfl
 | p::r,k,h=>by
  have h':¬ k∈r.map (·.1):=fun m=>by
   obtain ⟨q,hq,e⟩:=aO.mp m
   exact h (aO.mpr ⟨q,aw.mpr (Or.inr hq),e⟩)
  rw [CK fun e=>h (aO.mpr ⟨p,aw.mpr (Or.inl rfl),e⟩),Nr h']
end
theorem at_of {xs:List V} {z:Int} {j:Nat} {v:V} (e:z=(j:Int)) (h:xs[j]?=some v):M8 xs z=some v:=by
 rw [e]
 exact bj h
theorem aM.made {H H1:Hp} {x dx C:Addr} (nx:H x=Option.none) (nd:H dx=Option.none) (k:∀ b o,(upd (upd H dx (.own x)) x (.ins C dx [])) b=some o->b≠x->H1 b=some o):aM H H1:=fun b o e=>
 k b o (by rw [aD (aV e nx),aD (aV e nd)];exact e) (aV e nx)
end L2
section
namespace L2
open PySem PySem.Spec PyProof.Rows
open PySem.W (WData Codec OpenSpec Well WellAll ReadsW ReadsAllW)
mutual
inductive Dw (K:ab) (H:Hp):V->WData->Prop
 | jU:Dw K H .jU .none
 | bl (b:Bool):Dw K H (.bl b) (.bool b)
 | int (i:Int):Dw K H (.int i) (.int i)
 | str (x:Str):Dw K H (.str x) (.str x)
 | J4 (b:Array UInt8):Dw K H (.J4 b) (.bytes b.toList)
 | lst {a:Addr} {xs:List V} {ds:List WData}:bO K H a xs->xB K H xs ds->Dw K H (.ref a) (.list ds)
 | tup {a:Addr} {xs:List V} {ds:List WData}:oX K H a xs->xB K H xs ds->Dw K H (.ref a) (.tuple ds)
inductive xB (K:ab) (H:Hp):List V->List WData->Prop
 | nil:xB K H [] []
 | cons {v:V} {vs:List V} {d:WData} {ds:List WData}:Dw K H v d->xB K H vs ds->xB K H (v::vs) (d::ds)
end
theorem RE {K:ab} {H:Hp}:∀ ns:List Int,xB K H (ns.map V.int) (ns.map WData.int)
 | []=>.nil
 | n::r=>.cons (.int n) (RE r)
theorem RF {K:ab} {H:Hp}:∀ (ns:List Int) (xs:List V),xB K H xs (ns.map WData.int)->xs=ns.map V.int
 | [],xs,h=>by
  cases h
  rfl
 | n::r,xs,h=>by
  cases h with
  | cons h1 h2=>
   cases h1
   rw [RF r _ h2]<;>rfl
section
variable {P:Program} {w:World} {K:ab} {H:Hp} {h:Heap} {R:PySem.W.WRecords} {cl:Str->Option Addr}
theorem ZE {a:Addr} {xs:List V} (cU:w8 P w H h) (KX:K.In h) (q:bO K H a xs):∃ (cq:List Value) (o:Obj) (n:Nat),Vals xs cq/\h.get? a=some o/\o.cls=.type "list"/\o.data=.seq cq.toArray n:=by
 rcases q with q | ⟨o,cq,n,e,hc,_,hd,_,hv⟩
 ·obtain ⟨_,cq,n,hv,e⟩:=(show f6 P w H h a (.lst xs) from q.ok cU)
  exact ⟨cq,_,n,hv,e,rfl,rfl⟩
 ·exact ⟨cq.toList,o,n,hv,KX _ _ e,hc,by simp [hd]⟩
theorem ZF {a:Addr} {xs:List V} (cU:w8 P w H h) (KX:K.In h) (q:oX K H a xs):∃ (cq:List Value) (o:Obj) (n:Nat),Vals xs cq/\h.get? a=some o/\o.cls=.type "tuple"/\o.data=.seq cq.toArray n:=by
 rcases q with q | ⟨o,cq,n,e,hc,hd,_,hv⟩
 ·obtain ⟨_,cq,hv,o,e,hc,n,hd⟩:=(show f6 P w H h a (.tup xs) from q.ok cU)
  exact ⟨cq,o,n,hv,e,hc,hd⟩
 ·exact ⟨cq.toList,o,n,hv,KX _ _ e,hc,by simp [hd]⟩
mutual
theorem Dw.reads (cU:w8 P w H h) (KX:K.In h):∀ (d:WData) (v:V) (u:Value),Dw K H v d->RelV v u->∃ as,ReadsW R cl h u d as
 | .none,_,_,x,r=>by
  cases x
  cases r
  exact ⟨_,ReadsW.none⟩
 | .bool b,_,_,x,r=>by
  cases x
  cases r
  exact ⟨_,ReadsW.bool b⟩
 | .int i,_,_,x,r=>by
  cases x
  obtain ⟨t,rfl⟩:=r
  exact ⟨_,ReadsW.int i t⟩
 | .str s,_,_,x,r=>by
  cases x
  obtain ⟨t,rfl⟩:=r
  exact ⟨_,ReadsW.str s t⟩
 | .bytes b,_,_,x,r=>by
  cases x
  obtain ⟨t,rfl⟩:=r
  exact ⟨_,ReadsW.bytes _ t⟩
 | .list ds,_,_,x,r=>by
  cases x with
  | lst hs ha=>
   cases r
   obtain ⟨cq,o,n,rv,ho,hc,hd⟩:=ZE cU KX hs
   obtain ⟨as,hr⟩:=Dw.readsAll cU KX ds _ cq ha rv
   exact ⟨_,ReadsW.list ho hc hd hr⟩
 | .tuple ds,_,_,x,r=>by
  cases x with
  | tup hs ha=>
   cases r
   obtain ⟨cq,o,n,rv,ho,hc,hd⟩:=ZF cU KX hs
   obtain ⟨as,hr⟩:=Dw.readsAll cU KX ds _ cq ha rv
   exact ⟨_,ReadsW.tuple ho hc hd hr⟩
 | .float _,_,_,x,_=>by cases x
 | .dict _,_,_,x,_=>by cases x
 | .bytearray _,_,_,x,_=>by cases x
 | .set _,_,_,x,_=>by cases x
 | .frozenset _,_,_,x,_=>by cases x
 | .obj _ _,_,_,x,_=>by cases x
theorem Dw.readsAll (cU:w8 P w H h) (KX:K.In h):∀ (ds:List WData) (vs:List V) (us:List Value),xB K H vs ds->Vals vs us->∃ as,ReadsAllW R cl h us ds as
 | [],_,_,x,r=>by
  cases x
  cases r
  exact ⟨_,ReadsAllW.nil⟩
 | d::ds,_,_,x,r=>by
  cases x with
  | cons h1 h2=>
   cases r with
   | cons r1 r2=>
    obtain ⟨as,q1⟩:=Dw.reads cU KX d _ _ h1 r1
    obtain ⟨bs,q2⟩:=Dw.readsAll cU KX ds _ _ h2 r2
    exact ⟨_,ReadsAllW.cons q1 q2⟩
end
end
mutual
def RG:WData->Bool
 | .none=>true
 | .bool _=>true
 | .int _=>true
 | .str _=>true
 | .bytes _=>true
 | .list xs=>EE xs
 | .tuple xs=>EE xs
 | _=>false
def EE:List WData->Bool
 | []=>true
 | x::r=>RG x&&EE r
end
theorem Nt {α:Type} {f:α->WData} (h:∀ a,RG (f a)=true):∀ l:List α,EE (l.map f)=true
 | []=>rfl
 | x::r=>by
  show (RG (f x)&&EE (r.map f))=true
  rw [h x,Nt h r]<;>rfl
theorem xC:∀ (c:Codec) (a:c.denote),RG (c.enc a)=true
 | .unit,_=>rfl
 | .bool,_=>rfl
 | .int _ _,_=>rfl
 | .nat _ _,_=>rfl
 | .u8,_=>rfl
 | .bytes _ _,_=>rfl
 | .text _ _ _ _,_=>rfl
 | .list _ _ c,a=>Nt (fun x=>xC c x) a
 | .pair c d,a=>by
  show (RG (c.enc a.1)&&(RG (d.enc a.2)&&true))=true
  rw [xC c a.1,xC d a.2]<;>rfl
 | .triple c d e,a=>by
  show (RG (c.enc a.1)&&(RG (d.enc a.2.1)&&(RG (e.enc a.2.2)&&true)))=true
  rw [xC c a.1,xC d a.2.1,xC e a.2.2]<;>rfl
 | .option c,none=>rfl
 | .option c,some x=>xC c x
theorem Ju:∀ (cs:List Codec) (a:Codec.denoteAll cs),EE (Codec.encAll cs a)=true
 | [],_=>rfl
 | c::cs,a=>by
  show (RG (c.enc a.1)&&EE (Codec.encAll cs a.2))=true
  rw [xC c a.1,Ju cs a.2]<;>rfl
theorem Am:∀ {xs:List WData} {d:WData},d∈xs->d.weight<=WData.weightAll xs
 | [],d,h=>absurd h (by simp)
 | x::r,d,h=>by
  show d.weight<=x.weight+1+WData.weightAll r
  rcases aw.mp h with e | m
  ·rw [e]
   omega
  ·have z:=Am m
   omega
def toV:Value->V
 | .none=>.jU
 | .bool b=>.bl b
 | .int i _=>.int i
 | .str x _=>.str x
 | .bytes b _=>.J4 b
 | .ref a=>.ref a
 | _=>.jU
def SI (A:List Addr):Value->Prop
 | .none=>True
 | .bool _=>True
 | .int _ _=>True
 | .str _ _=>True
 | .bytes _ _=>True
 | .ref a=>a∈A
 | _=>False
theorem SI.mono {A B:List Addr} (h:∀ a∈A,a∈B):∀ {u:Value},SI A u->SI B u:=fun {u} x=>by
 cases u with
 | ref a=>exact h a x
 | none=>trivial
 | bool b=>trivial
 | int i t=>trivial
 | str s t=>trivial
 | bytes b t=>trivial
 | _=>exact False.elim x
theorem UY {A:List Addr} {u:Value} (x:SI A u):RelV (toV u) u:=by
 cases u with
 | ref a=>rfl
 | none=>rfl
 | bool b=>rfl
 | int i t=>exact ⟨t,rfl⟩
 | str s t=>exact ⟨t,rfl⟩
 | bytes b t=>exact ⟨t,rfl⟩
 | _=>exact False.elim x
theorem uU {A:List Addr}:∀ {vs:List Value},(∀ u∈vs,SI A u)->Vals (vs.map toV) vs
 | [],_=>.nil
 | u::r,h=>.cons (UY (h u (bC ..))) (uU fun x hx=>h x (ba _ hx))
def z5 (h:Heap) (A:List Addr) (a:Addr):Prop:=∃ vs:List Value,vs.length<=sizeLine/\(∀ u∈vs,SI A u)/\
 (h.get? a=some { cls:=.type "list",data:=.seq vs.toArray }\/h.get? a=some { cls:=.type "tuple",data:=.seq vs.toArray })
theorem z5.mono {h:Heap} {A B:List Addr} {a:Addr} (k:∀ a∈A,a∈B) (x:z5 h A a):z5 h B a:=by
 obtain ⟨vs,h1,h2,h3⟩:=x
 exact ⟨vs,h1,fun u hu=>(h2 u hu).mono k,h3⟩
theorem tL {P:Params} {h:Heap}:∀ {vs:List Value} {ds:List WData},WellAll P h vs ds->vs.length=ds.length
 | _,_,.nil=>rfl
 | _,_,.cons _ b=>by
  show _+1=_+1
  rw [tL b]
theorem Jv {P:Params} {h:Heap} {v:Value} {ds:List WData} (x:Well P h v (.list ds)):∃ (a:Addr) (vs:List Value),v=.ref a/\h.get? a=some { cls:=.type "list",data:=.seq vs.toArray }/\WellAll P h vs ds:=by
 cases x with
 | list ho rE=>exact ⟨_,_,rfl,ho,rE⟩
theorem FJ {P:Params} {h:Heap} {v:Value} {ds:List WData} (x:Well P h v (.tuple ds)):∃ (a:Addr) (vs:List Value),v=.ref a/\h.get? a=some { cls:=.type "tuple",data:=.seq vs.toArray }/\WellAll P h vs ds:=by
 cases x with
 | tuple ho rE=>exact ⟨_,_,rfl,ho,rE⟩
theorem Jw {P:Params} {h:Heap} {us:List Value} {d:WData} {ds:List WData} (x:WellAll P h us (d::ds)):∃ (v:Value) (vs:List Value),us=v::vs/\Well P h v d/\WellAll P h vs ds:=by
 cases x with
 | cons a b=>exact ⟨_,_,rfl,a,b⟩
theorem RH {n:Nat} (h:n<=1048576):n<=sizeLine:=bB h (by decide)
section
variable {P:Params} {h:Heap}
mutual
theorem UZ:∀ (d:WData) (v:Value),Well P h v d->RG d=true->d.weight<=1048576->∃ A:List Addr,SI A v/\∀ a∈A,z5 h A a
 | .none,_,x,_,_=>by
  cases x
  exact ⟨[],trivial,fun a m=>absurd m (by simp)⟩
 | .bool b,_,x,_,_=>by
  cases x
  exact ⟨[],trivial,fun a m=>absurd m (by simp)⟩
 | .int i,_,x,_,_=>by
  cases x
  exact ⟨[],trivial,fun a m=>absurd m (by simp)⟩
 | .str s,_,x,_,_=>by
  cases x
  exact ⟨[],trivial,fun a m=>absurd m (by simp)⟩
 | .bytes b,_,x,_,_=>by
  cases x
  exact ⟨[],trivial,fun a m=>absurd m (by simp)⟩
 | .list ds,_,x,p,z=>by
  obtain ⟨a,vs,rfl,ho,rE⟩:=Jv x
  have z2:WData.weightAll ds<=1048576:=z
  obtain ⟨A,h1,h2⟩:=BE ds _ rE p fun d hd=>bB (Am hd) z2
  have k:∀ b∈A,b∈a::A:=fun b hb=>ba _ hb
  refine ⟨a::A,bC ..,fun b hb=>?_⟩
  rcases aw.mp hb with e | m
  ·rw [e]
   exact ⟨vs,RH (by rw [tL rE];exact bB (PySem.W.length_le_weightAllW ds) z2),fun u hu=>(h1 u hu).mono k,.inl ho⟩
  ·exact (h2 b m).mono k
 | .tuple ds,_,x,p,z=>by
  obtain ⟨a,vs,rfl,ho,rE⟩:=FJ x
  have z2:WData.weightAll ds<=1048576:=z
  obtain ⟨A,h1,h2⟩:=BE ds _ rE p fun d hd=>bB (Am hd) z2
  have k:∀ b∈A,b∈a::A:=fun b hb=>ba _ hb
  refine ⟨a::A,bC ..,fun b hb=>?_⟩
  rcases aw.mp hb with e | m
  ·rw [e]
   exact ⟨vs,RH (by rw [tL rE];exact bB (PySem.W.length_le_weightAllW ds) z2),fun u hu=>(h1 u hu).mono k,.inr ho⟩
  ·exact (h2 b m).mono k
 | .float _,_,_,p,_=>cF (show false=true from p)
 | .dict _,_,_,p,_=>cF (show false=true from p)
 | .bytearray _,_,_,p,_=>cF (show false=true from p)
 | .set _,_,_,p,_=>cF (show false=true from p)
 | .frozenset _,_,_,p,_=>cF (show false=true from p)
 | .obj _ _,_,_,p,_=>cF (show false=true from p)
theorem BE:∀ (ds:List WData) (vs:List Value),WellAll P h vs ds->EE ds=true->(∀ d∈ds,d.weight<=1048576)->∃ A:List Addr,(∀ u∈vs,SI A u)/\∀ a∈A,z5 h A a
 | [],_,x,_,_=>by
  cases x
  exact ⟨[],fun u m=>absurd m (by simp),fun a m=>absurd m (by simp)⟩
 | d::ds,_,x,p,z=>by
  obtain ⟨v,vs,rfl,x1,x2⟩:=Jw x
  have q:RG d=true/\EE ds=true:=Bool.and_eq_true_iff.mp p
  obtain ⟨A,a1,a2⟩:=UZ d v x1 q.1 (z d (bC ..))
  obtain ⟨B,b1,b2⟩:=BE ds vs x2 q.2 fun e he=>z e (ba _ he)
  have kA:∀ b∈A,b∈A++B:=fun b hb=>bS.mpr (.inl hb)
  have kB:∀ b∈B,b∈A++B:=fun b hb=>bS.mpr (.inr hb)
  refine ⟨A++B,fun u hu=>?_,fun b hb=>?_⟩
  ·rcases aw.mp hu with e | m
   ·rw [e]
    exact a1.mono kA
   ·exact (b1 u m).mono kB
  ·rcases bS.mp hb with m | m
   ·exact (a2 b m).mono kA
   ·exact (b2 b m).mono kB
end
end
def Xm (o:Obj):Option HO:=match o.data with
 | .seq vs _=>if (o.cls==Value.type "list")=true then some (.oW o (.lst (vs.toList.map toV))) else some (.oW o (.tup (vs.toList.map toV)))
 | _=>none
def si (K:ab) (h:Heap) (A:List Addr):Hp:=fun b=>if b∈A then (if (K.lookup b).isNone=true then (h.get? b).bind Xm else none) else none
theorem Nu (vs:List Value):Xm { cls:=.type "list",data:=.seq vs.toArray }=some (.oW { cls:=.type "list",data:=.seq vs.toArray } (.lst (vs.map toV))):=by
 show (if (Value.type "list"==Value.type "list")=true then some (HO.oW { cls:=.type "list",data:=.seq vs.toArray } (.lst (vs.toArray.toList.map toV))) else some (HO.oW { cls:=.type "list",data:=.seq vs.toArray } (.tup (vs.toArray.toList.map toV))))=_
 rw [if_pos (beq_self_eq_true _)]
theorem Nv (vs:List Value):Xm { cls:=.type "tuple",data:=.seq vs.toArray }=some (.oW { cls:=.type "tuple",data:=.seq vs.toArray } (.tup (vs.map toV))):=by
 show (if (Value.type "tuple"==Value.type "list")=true then some (HO.oW { cls:=.type "tuple",data:=.seq vs.toArray } (.lst (vs.toArray.toList.map toV))) else some (HO.oW { cls:=.type "tuple",data:=.seq vs.toArray } (.tup (vs.toArray.toList.map toV))))=_
 rw [if_neg (by decide)]
section
variable {P:Program} {w:World} {K:ab} {h:Heap} {A:List Addr}
theorem E4 {b:Addr} {o:Obj} (hb:b∈A) (hk:K.lookup b=none) (e:h.get? b=some o):si K h A b=Xm o:=by
 unfold si
 rw [if_pos hb,hk,if_pos (show (none:Option Obj).isNone=true from rfl),e]<;>rfl
theorem Xn {b:Addr} {u:HO} (q:si K h A b=some u):b∈A/\K.lookup b=none:=by
 unfold si at q
 by_cases hb:b∈A
 ·rw [if_pos hb] at q
  cases hk:K.lookup b with
  | none=>exact ⟨hb,rfl⟩
  | some o=>
   rw [hk,if_neg (by simp)] at q
   cases q
 ·rw [if_neg hb] at q
  cases q
theorem BF (ar:∀ a∈A,z5 h A a) {b:Addr} {u:HO} (q:si K h A b=some u):K.lookup b=none/\∃ vs:List Value,vs.length<=sizeLine/\(∀ u∈vs,SI A u)/\
    ((h.get? b=some { cls:=.type "list",data:=.seq vs.toArray }/\u=.oW { cls:=.type "list",data:=.seq vs.toArray } (.lst (vs.map toV)))\/
     (h.get? b=some { cls:=.type "tuple",data:=.seq vs.toArray }/\u=.oW { cls:=.type "tuple",data:=.seq vs.toArray } (.tup (vs.map toV)))):=by
  obtain ⟨hb,hk⟩:=Xn q
  obtain ⟨vs,h1,h2,h3⟩:=ar b hb
  refine ⟨hk,vs,h1,h2,?_⟩
  rcases h3 with e | e
  · rw [E4 hb hk e,Nu] at q
    exact .inl ⟨e,(aj.inj q).symm⟩
  · rw [E4 hb hk e,Nv] at q
    exact .inr ⟨e,(aj.inj q).symm⟩
theorem E5 {c c':Value} {vs us:List Value} (e:(some { cls:=c,data:=.seq vs.toArray }:Option Obj)=some { cls:=c',data:=.seq us.toArray }):c=c'/\vs=us:=by
 have e1:=aj.inj e
 have e2:c=c':=congrArg Obj.cls e1
 have e3:Data.seq vs.toArray=Data.seq us.toArray:=congrArg Obj.data e1
 injection e3 with e4
 refine ⟨e2,?_⟩
 have e5:=congrArg Array.toList e4
 simpa using e5
theorem afV (KX:K.In h) (ar:∀ a∈A,z5 h A a) {a:Addr} {vs:List Value} (ha:a∈A) (e:h.get? a=some { cls:=.type "list",data:=.seq vs.toArray }):(∀ u∈vs,SI A u)/\bO K (si K h A) a (vs.map toV):=by
 obtain ⟨us,h1,h2,h3⟩:=ar a ha
 have hu:us=vs:=by
  rcases h3 with q | q
  ·rw [e] at q
   exact (E5 q).2.symm
  ·rw [e] at q
   exact absurd (Value.type.inj (E5 q).1) (by decide)
 subst hu
 refine ⟨h2,?_⟩
 cases hk:K.lookup a with
 | none=>exact .inl (.inr ⟨_,by rw [E4 ha hk e,Nu]⟩)
 | some o=>
  have e2:=KX a o hk
  rw [e] at e2
  obtain rfl:=aj.inj e2
  exact .inr ⟨_,us.toArray,_,hk,rfl,rfl,rfl,by rw [aU];exact h1,by simpa using uU h2⟩
theorem afW (KX:K.In h) (ar:∀ a∈A,z5 h A a) {a:Addr} {vs:List Value} (ha:a∈A) (e:h.get? a=some { cls:=.type "tuple",data:=.seq vs.toArray }):(∀ u∈vs,SI A u)/\oX K (si K h A) a (vs.map toV):=by
 obtain ⟨us,h1,h2,h3⟩:=ar a ha
 have hu:us=vs:=by
  rcases h3 with q | q
  ·rw [e] at q
   exact absurd (Value.type.inj (E5 q).1) (by decide)
  ·rw [e] at q
   exact (E5 q).2.symm
 subst hu
 refine ⟨h2,?_⟩
 cases hk:K.lookup a with
 | none=>exact .inl (.inr ⟨_,by rw [E4 ha hk e,Nv]⟩)
 | some o=>
  have e2:=KX a o hk
  rw [e] at e2
  obtain rfl:=aj.inj e2
  exact .inr ⟨_,us.toArray,_,hk,rfl,rfl,by rw [aU];exact h1,by simpa using uU h2⟩
mutual
theorem ZG {Pm:Params} (KX:K.In h) (ar:∀ a∈A,z5 h A a):∀ (d:WData) (v:Value),Well Pm h v d->RG d=true->SI A v->Dw K (si K h A) (toV v) d
 | .none,_,x,_,_=>by
  cases x
  exact .jU
 | .bool b,_,x,_,_=>by
  cases x
  exact .bl b
 | .int i,_,x,_,_=>by
  cases x
  exact .int i
 | .str s,_,x,_,_=>by
  cases x
  exact .str s
 | .bytes b,_,x,_,_=>by
  cases x
  have z:=Dw.J4 (K:=K) (H:=si K h A) b.toArray
  exact z
 | .list ds,_,x,p,hu=>by
  obtain ⟨a,vs,rfl,ho,rE⟩:=Jv x
  obtain ⟨h2,hs⟩:=afV KX ar hu ho
  exact .lst hs (Kj KX ar ds _ rE p h2)
 | .tuple ds,_,x,p,hu=>by
  obtain ⟨a,vs,rfl,ho,rE⟩:=FJ x
  obtain ⟨h2,hs⟩:=afW KX ar hu ho
  exact .tup hs (Kj KX ar ds _ rE p h2)
 | .float _,_,_,p,_=>cF (show false=true from p)
 | .dict _,_,_,p,_=>cF (show false=true from p)
 | .bytearray _,_,_,p,_=>cF (show false=true from p)
 | .set _,_,_,p,_=>cF (show false=true from p)
 | .frozenset _,_,_,p,_=>cF (show false=true from p)
 | .obj _ _,_,_,p,_=>cF (show false=true from p)
theorem Kj {Pm:Params} (KX:K.In h) (ar:∀ a∈A,z5 h A a):∀ (ds:List WData) (vs:List Value),WellAll Pm h vs ds->EE ds=true->(∀ u∈vs,SI A u)->xB K (si K h A) (vs.map toV) ds
 | [],_,x,_,_=>by
  cases x
  exact .nil
 | d::ds,_,x,p,hu=>by
  obtain ⟨v,vs,rfl,x1,x2⟩:=Jw x
  have q:RG d=true/\EE ds=true:=Bool.and_eq_true_iff.mp p
  exact .cons (ZG KX ar d v x1 q.1 (hu _ (bC ..))) (Kj KX ar ds vs x2 q.2 fun u m=>hu u (ba _ m))
end
end
theorem FK {ds:List WData} (h:WData.layableAll ds=true):∀ d∈ds,d.weight<=1048576:=fun d hd=>
 (PySem.W.layableW_iff.mp (bA.mp h d hd)).2.2
theorem FL:∀ (cs:List Codec) (a:Codec.denoteAll cs),(Codec.encAll cs a).length=cs.length
 | [],_=>rfl
 | c::cs,a=>by
  show (Codec.encAll cs a.2).length+1=cs.length+1
  rw [FL cs a.2]
end L2
namespace TS
open Vbrezy
def Val (z:Int):Prop:=z=1\/z=0\/z=-1
theorem E6 (r:Rules) (c:Comb):Val (resultOf r c):=by
 unfold resultOf Val
 simp only
 repeat' split
 all_goals (first | exact .inl rfl | exact .inr (.inl rfl) | exact .inr (.inr rfl))
theorem Kk (r:Rules) (g:Game):Val (now r g):=E6 _ _
theorem FN (b:Bool):∀ {l:List Int},l≠[]->pick b l∈l
 | [],h=>absurd rfl h
 | n::q,_=>by
  have mx:∀ (q:List Int) (n:Int),q.foldl max n∈n::q:=fun q=>by
   induction q with
   | nil=>intro n;exact ay.mpr rfl
   | cons a q ih=>
    intro n
    rw [c7]
    rcases aw.mp (ih (max n a)) with e | e
    ·rw [e]
     by_cases h:n<=a
     ·rw [Int.max_eq_right h];exact .tail _ (.head _)
     ·rw [Int.max_eq_left (by omega)];exact .head _
    ·exact .tail _ (.tail _ e)
  have mn:∀ (q:List Int) (n:Int),q.foldl min n∈n::q:=fun q=>by
   induction q with
   | nil=>intro n;exact ay.mpr rfl
   | cons a q ih=>
    intro n
    rw [c7]
    rcases aw.mp (ih (min n a)) with e | e
    ·rw [e]
     by_cases h:n<=a
     ·rw [Int.min_eq_left h];exact .head _
     ·rw [Int.min_eq_right (by omega)];exact .tail _ (.head _)
    ·exact .tail _ (.tail _ e)
  show (if b=true then q.foldl max n else q.foldl min n)∈_
  split
  ·exact mx q n
  ·exact mn q n
theorem Xo:∀ {l:List Int} {y:Int},y∈l->y<=pick true l
 | n::q,y,h=>by
  have mx:∀ (q:List Int) (n y:Int),y=n\/y∈q->y<=q.foldl max n:=fun q=>by
   induction q with
   | nil=>intro n y h;rcases h with h | h<;>first | (rw [h];exact Int.le_refl _) | cases h
   | cons a q ih=>
    intro n y h
    rw [c7]
    rcases h with h | h
    ·exact Int.le_trans (by rw [h];exact Int.le_max_left ..) (ih (max n a) (max n a) (.inl rfl))
    ·rcases aw.mp h with h | h
     ·exact Int.le_trans (by rw [h];exact Int.le_max_right ..) (ih (max n a) (max n a) (.inl rfl))
     ·exact ih _ y (.inr h)
  exact mx q n y (aw.mp h)
theorem Xp:∀ {l:List Int} {y:Int},y∈l->pick false l<=y
 | n::q,y,h=>by
  have mn:∀ (q:List Int) (n y:Int),y=n\/y∈q->q.foldl min n<=y:=fun q=>by
   induction q with
   | nil=>intro n y h;rcases h with h | h<;>first | (rw [h];exact Int.le_refl _) | cases h
   | cons a q ih=>
    intro n y h
    rw [c7]
    rcases h with h | h
    ·exact Int.le_trans (ih (min n a) (min n a) (.inl rfl)) (by rw [h];exact Int.min_le_left ..)
    ·rcases aw.mp h with h | h
     ·exact Int.le_trans (ih (min n a) (min n a) (.inl rfl)) (by rw [h];exact Int.min_le_right ..)
     ·exact ih _ y (.inr h)
  exact mn q n y (aw.mp h)
theorem BG (r:Rules) (g:Game):moves r g≠[]:=by
 intro e
 have h:0∈moves r g:=by
  unfold moves
  refine g6.mpr ⟨bS.mpr (.inl (cH.mpr (by omega))),?_⟩
  unfold mayMove;rw [if_pos rfl]
 rw [e] at h;cases h
theorem bound_val {k:Nat} {a b:Int} (ha:Val a) (hb:Val b):Val (bound k a b):=by
 unfold bound
 split
 ·exact hb
 ·split
  ·rcases Int.le_total a b with h | h
   ·rw [Int.min_eq_left h];exact ha
   ·rw [Int.min_eq_right h];exact hb
  ·rcases Int.le_total a b with h | h
   ·rw [Int.max_eq_right h];exact hb
   ·rw [Int.max_eq_left h];exact ha
theorem CL (r:Rules) (k:Nat):∀ (t:Nat) (g:Game),Val (value r k t g)
 | 0,g=>Kk r g
 | t+1,g=>by
  show Val (bound k (now r g) (pick (g.turn==0) ((moves r g).map fun m=>value r k t (moved g m))))
  refine bound_val (Kk r g) ?_
  have h:=FN (g.turn==0) (l:=(moves r g).map fun m=>value r k t (moved g m)) (fun e=>BG r g (rp.mp e))
  obtain ⟨m,_,e⟩:=aO.mp h
  rw [<- e]
  exact CL r k t (moved g m)
def rk (u:Nat) (z:Int):Int:=if u=0 then z+1 else -(z+1)
theorem RI {zs:List Int} {u:Nat} {z:Int} (hm:z∈zs) (hx:∀ y∈zs,rk u y<=rk u z):pick (u==0) zs=z:=by
 have tH:zs≠[]:=fun e=>by rw [e] at hm;cases hm
 have h1:=FN (u==0) tH
 by_cases hu:u=0
 ·subst hu
  have h2:z<=pick true zs:=Xo hm
  have h3:=hx _ h1
  unfold rk at h3
  rw [if_pos rfl,if_pos rfl] at h3
  have h3:pick true zs+1<=z+1:=h3
  show pick true zs=z
  omega
 ·have e:(u==0)=false:=beq_eq_false_iff_ne.mpr hu
  rw [e] at h1 ⊢
  have h2:pick false zs<=z:=Xp hm
  have h3:=hx _ h1
  unfold rk at h3
  rw [if_neg hu,if_neg hu] at h3
  omega
theorem Nw {r:Rules} {k:Nat} {g:Game} {i m:Nat} (hi:(moves r g)[i]?=some m)
  (hx:∀ (j m':Nat),(moves r g)[j]?=some m'->rk g.turn (value r k (g.left - 1) (moved g m'))<=rk g.turn (value r k (g.left - 1) (moved g m))/\(j<i->rk g.turn (value r k (g.left - 1) (moved g m'))<rk g.turn (value r k (g.left - 1) (moved g m)))):bestMove r k g=m:=by
 have ha:ahead r k g=value r k (g.left - 1) (moved g m):=by
  unfold ahead
  refine RI (aO.mpr ⟨m,aT hi,rfl⟩) fun y hy=>?_
  obtain ⟨m',hm',rfl⟩:=aO.mp hy
  obtain ⟨j,hj⟩:=List.mem_iff_getElem?.mp hm'
  exact (hx j m' hj).1
 unfold bestMove
 simp only [ha]
 have key:∀ (l:List Nat) (i:Nat),l[i]?=some m->(∀ j m',l[j]?=some m'->j<i->value r k (g.left - 1) (moved g m')≠value r k (g.left - 1) (moved g m))->
   l.find? (fun m'=>value r k (g.left - 1) (moved g m')==value r k (g.left - 1) (moved g m))=some m:=by
  intro l
  induction l with
  | nil=>intro i h;simp at h
  | cons a l ih=>
   intro i h hn
   cases i with
   | zero=>
    have e:a=m:=aj.inj h
    subst e
    rw [List.find?_cons_of_pos (by simp)]
   | succ i=>
    have h0:=hn 0 a rfl (by omega)
    rw [List.find?_cons_of_neg (by simpa using h0)]
    exact ih i h fun j m' hj iX=>hn (j+1) m' hj (by omega)
 rw [key _ i hi fun j m' hj iX e=>?_]
 ·rfl
 ·have:=(hx j m' hj).2 iX
  rw [e] at this
  omega
theorem FO (n k:Nat):power n (k+1)=power n k*n:=Nat.mul_comm _ _
theorem Ny {n:Nat} (hn:n<=7):∀ k,power n k<=7 ^ k
 | 0=>au _
 | k+1=>by
  rw [FO,oN]
  exact Nat.mul_le_mul (Ny hn k) hn
theorem CM {r:Rules} {g:Game} (hn:r.n=2\/r.n=3) (hl:g.order.length=2*r.n) (m:Nat):m∈moves r g↔mayMove r g m=true:=by
 unfold moves
 rw [g6]
 refine ⟨fun h=>h.2,fun h=>⟨?_,h⟩⟩
 rw [bS,cH,aO]
 by_cases h0:m=0
 ·exact .inl (by omega)
 unfold mayMove at h
 rw [if_neg h0] at h
 by_cases h1:m<100
 ·rw [if_pos h1] at h
  by_cases h2:m - 1<g.order.length
  ·exact .inl (by omega)
  ·rw [oY (by omega)] at h
   cases h
 ·rw [if_neg h1] at h
  by_cases h2:m - 100<g.order.length
  ·exact .inr ⟨m - 100,cH.mpr (by omega),by omega⟩
  ·rw [oY (i:=m - 100) (by omega)] at h
   cases hq:(if m=100 then none else g.order[m - 101]?) with
   | none=>rw [hq] at h;cases h
   | some a=>rw [hq] at h;cases h
def mQ (r:Rules) (k:Nat) (tl:Int):Nat->Game->List Int->Option (List Nat×Game)
 | 0,g,l=>if l.isEmpty=true then some ([],g) else none
 | t+1,g,l=>
  if (g.turn:Int)=tl then match l with
   | []=>none
   | m::q=>if 0<=m/\m.toNat∈moves r g then (mQ r k tl t (moved g m.toNat) q).map fun y=>(m.toNat::y.1,y.2) else none
  else (mQ r k tl t (moved g (bestMove r k g)) l).map fun y=>(bestMove r k g::y.1,y.2)
theorem zr (r:Rules) (k:Nat):∀ (t:Nat) (g:Game),mQ r k (-1) t g []=some (lineFrom r k t g)
 | 0,g=>rfl
 | t+1,g=>by
  show (if (g.turn:Int)=-1 then none else (mQ r k (-1) t (moved g (bestMove r k g)) []).map fun y=>(bestMove r k g::y.1,y.2))=_
  rw [if_neg (by omega),zr r k t]
  rfl
theorem Nz {r:Rules} {g:Game} (ht:g.turn<=1) (m:Nat):(moved g m).turn<=1:=by
 show 1 - g.turn<=1;omega
theorem Qa:∀ (k:Nat) (l:List Nat),(swapAt k l).length=l.length
 | 0,[]=>rfl
 | 0,[_]=>rfl
 | 0,_::_::_=>rfl
 | k+1,[]=>rfl
 | k+1,x::l=>by
  show (swapAt k l).length+1=l.length+1
  rw [Qa k l]
theorem xD:∀ (k:Nat) (l:List Nat),(swapAt k l).Perm l
 | 0,[]=>.refl _
 | 0,[_]=>.refl _
 | 0,_::_::_=>.swap ..
 | k+1,[]=>.refl _
 | k+1,x::l=>(xD k l).cons x
theorem oZ (g:Game) (m:Nat):(moved g m).order.Perm g.order:=by
 show (if m=0 then g.order else if m<100 then swapAt (m - 2) g.order else swapAt (m - 101) g.order).Perm _
 repeat' split
 ·exact .refl _
 ·exact xD _ _
 ·exact xD _ _
theorem CN {r:Rules} (k:Nat) (hn:r.n=2\/r.n=3) {x:Nat} (hx:x<=1):∀ (t:Nat) (g:Game) (l:List Int),g.turn<=1->g.order.length=2*r.n->
  mQ r k (1 - (x:Int)) t g l=if (l.all fun m=>decide (0<=m))=false then none else duel r k x t g (l.map bF)
 | 0,g,l,_,_=>by
  show (if l.isEmpty=true then some ([],g) else none)=_
  cases l with
  | nil=>rfl
  | cons a l=>
   show none=if ((a::l).all fun m=>decide (0<=m))=false then none else (none:Option (List Nat×Game))
   split<;>rfl
 | t+1,g,l,ht,hl=>by
  have Ue:∀ m,(moved g m).order.length=2*r.n:=fun m=>by rw [(oZ g m).length_eq];exact hl
  by_cases h:g.turn=x
  ·have e:mQ r k (1 - (x:Int)) (t+1) g l=(mQ r k (1 - (x:Int)) t (moved g (bestMove r k g)) l).map fun y=>(bestMove r k g::y.1,y.2):=by
    show (if (g.turn:Int)=1 - (x:Int) then _ else _)=_
    rw [if_neg (by omega)]
   have e2:duel r k x (t+1) g (l.map bF)=(duel r k x t (moved g (bestMove r k g)) (l.map bF)).map fun y=>(bestMove r k g::y.1,y.2):=by
    show (if g.turn=x then _ else _)=_
    rw [if_pos h]
   rw [e,e2,CN k hn hx t _ l (Nz (r:=r) ht _) (Ue _)]
   split<;>rfl
  ·have Bo:(g.turn:Int)=1 - (x:Int):=by omega
   cases l with
   | nil=>
    have e2:duel r k x (t+1) g []=none:=by
     show (if g.turn=x then _ else none)=_
     rw [if_neg h]
    have e:mQ r k (1 - (x:Int)) (t+1) g []=none:=by
     show (if (g.turn:Int)=1 - (x:Int) then none else _)=_
     rw [if_pos Bo]
    rw [e]
    show none=if (true=false) then none else duel r k x (t+1) g []
    rw [if_neg (by simp),e2]
   | cons a l=>
    have e:mQ r k (1 - (x:Int)) (t+1) g (a::l)=if 0<=a/\a.toNat∈moves r g then (mQ r k (1 - (x:Int)) t (moved g a.toNat) l).map fun y=>(a.toNat::y.1,y.2) else none:=by
     show (if (g.turn:Int)=1 - (x:Int) then _ else _)=_
     rw [if_pos Bo]
    have e2:duel r k x (t+1) g ((a::l).map bF)=if mayMove r g a.toNat=true then (duel r k x t (moved g a.toNat) (l.map bF)).map fun y=>(a.toNat::y.1,y.2) else none:=by
     show (if g.turn=x then _ else (if mayMove r g a.toNat=true then _ else none))=_
     rw [if_neg h]
    rw [e,e2]
    have e3:((a::l).all fun m=>decide (0<=m))=(decide (0<=a)&&l.all fun m=>decide (0<=m)):=rfl
    rw [e3]
    by_cases ha:0<=a
    ·rw [decide_eq_true ha,eQ]
     by_cases hm:a.toNat∈moves r g
     ·rw [if_pos ⟨ha,hm⟩,if_pos ((CM hn hl _).mp hm),CN k hn hx t _ l (Nz (r:=r) ht _) (Ue _)]
      split<;>rfl
     ·rw [if_neg (fun q=>hm q.2),if_neg (fun q=>hm ((CM hn hl _).mpr q))]
      split<;>rfl
    ·rw [decide_eq_false ha,jc,if_neg (fun q=>ha q.1),if_pos rfl]
def SG:List Nat:=[32,48,49,50,51,52,53,54,55,56,57,66,82,97,98,99,100,101,102,103,104,105,106,107,108,109,110,111,112,113,114,115,116,117,118,119,120,121,122]
def sg (b:Nat):Nat:=if b∈SG then b else 63
theorem FP {b:Nat} (h:b∈SG):sg b=b:=if_pos h
theorem CO {b:Nat} (h:b∉SG):sg b=63:=if_neg h
theorem U0 {b c:Nat} (hc:c∈SG):sg b=c↔b=c:=by
 by_cases h:b∈SG
 ·rw [FP h]
 ·rw [CO h]
  constructor
  ·intro e;rw [<- e] at hc;exact absurd hc (by decide)
  ·intro e;rw [e] at h;exact absurd hc h
theorem acq (b:Nat):sg b<=122:=by
 by_cases h:b∈SG
 ·rw [FP h]
  have:∀ x∈SG,x<=122:=by decide
  exact this b h
 ·rw [CO h];decide
theorem U1 {W:List Nat} (hW:∀ c∈W,c∈SG) (w:List Nat):w.map sg=W↔w=W:=by
 induction W generalizing w with
 | nil=>simp
 | cons c W ih=>
  cases w with
  | nil=>simp
  | cons b w=>
   rw [aC,pU.injEq,pU.injEq,U0 (hW c (.head _)),ih (fun x hx=>hW x (.tail _ hx))]
theorem U2 (l:List Nat):splitAt 32 (l.map sg)=(splitAt 32 l).map (·.map sg):=by
 induction l with
 | nil=>rfl
 | cons b l ih=>
  show (if sg b=32 then []::splitAt 32 (l.map sg) else match splitAt 32 (l.map sg) with | []=>[[sg b]] | w::q=>(sg b::w)::q)=_
  rw [ih]
  have e:splitAt 32 (b::l)=if b=32 then []::splitAt 32 l else match splitAt 32 l with | []=>[[b]] | w::q=>(b::w)::q:=rfl
  rw [e]
  by_cases h:b=32
  ·rw [if_pos h,if_pos ((U0 (by decide)).mpr h)];rfl
  ·rw [if_neg h,if_neg (fun q=>h ((U0 (by decide)).mp q))]
   cases splitAt 32 l<;>rfl
theorem U3 (b:Nat):(48<=sg b/\sg b<=57)↔(48<=b/\b<=57):=by
 by_cases h:b∈SG
 ·rw [FP h]
 ·rw [CO h]
  constructor
  ·intro q;omega
  ·intro q
   have:∀ x,48<=x/\x<=57->x∈SG:=by
    intro x hx
    have:x=48\/x=49\/x=50\/x=51\/x=52\/x=53\/x=54\/x=55\/x=56\/x=57:=by omega
    rcases this with rfl | rfl | rfl | rfl | rfl | rfl | rfl | rfl | rfl | rfl<;>decide
   exact absurd (this b q) h
theorem Jx {b:Nat} (h:48<=b/\b<=57):b∈SG:=by
 have:b=48\/b=49\/b=50\/b=51\/b=52\/b=53\/b=54\/b=55\/b=56\/b=57:=by omega
 rcases this with rfl | rfl | rfl | rfl | rfl | rfl | rfl | rfl | rfl | rfl<;>decide
theorem HF (w:List Nat):(w.map sg).all (fun c=>decide (48<=c/\c<=57))=w.all (fun c=>decide (48<=c/\c<=57)):=by
 rw [List.all_map]
 congr 1
 funext b
 exact decide_eq_decide.mpr (U3 b)
theorem uV:∀ {w:List Nat},w.all (fun c=>decide (48<=c/\c<=57))=true->w.map sg=w
 | [],_=>rfl
 | b::w,h=>by
  rw [kl,aG] at h
  rw [aC,uV h.2,FP (Jx (of_decide_eq_true h.1))]
theorem Jy (w:List Nat):numberIn (w.map sg)=numberIn w:=by
 unfold numberIn digitsOnly
 rw [HF,U]
 by_cases hd:w.all (fun c=>decide (48<=c/\c<=57))=true
 ·rw [uV hd]
 ·have hd:w.all (fun c=>decide (48<=c/\c<=57))=false:=by simpa using hd
  rw [hd];simp
theorem Xq {n:Nat} (hn:n<=9) (w:List Nat):boatIn n (w.map sg)=boatIn n w:=by
 match w with
 | []=>rfl
 | [_]=>rfl
 | _::_::_::_=>rfl
 | [c,d]=>
  show (if sg d<49\/48+n<sg d then none else if sg c=82 then some (sg d - 49) else if sg c=66 then some (sg d - 49+n) else none)=if d<49\/48+n<d then none else if c=82 then some (d - 49) else if c=66 then some (d - 49+n) else none
  by_cases hd:d∈SG
  ·rw [FP hd]
   by_cases hc:c∈SG
   ·rw [FP hc]
   ·have h1:c≠82:=fun e=>hc (by rw [e];decide)
    have h2:c≠66:=fun e=>hc (by rw [e];decide)
    rw [CO hc,if_neg h1,if_neg h2,if_neg (show ¬ (63:Nat)=82 by decide),if_neg (show ¬ (63:Nat)=66 by decide)]
  ·rw [CO hd,if_pos (show (63:Nat)<49\/48+n<63 from .inr (by omega))]
   rw [if_pos]
   refine Classical.byContradiction fun q=>hd (Jx ?_)
   omega
theorem DT {α β:Type} (f:α->Option β) (g:α->α) (h:∀ a,f (g a)=f a) (l:List α):allSome f (l.map g)=allSome f l:=by
 induction l with
 | nil=>rfl
 | cons a l ih=>
  show (match f (g a),allSome f (l.map g) with | some b,some m=>some (b::m) | _,_=>none)=_
  rw [h,ih];rfl
theorem RJ {L:List (List Nat)} (hL:∀ W∈L,∀ c∈W,c∈SG) (w:List Nat):(L.findIdx? fun x=>x==w.map sg)=L.findIdx? fun x=>x==w:=by
 have e:∀ x∈L,(x==w.map sg)=(x==w):=fun x hx=>by
  have:=U1 (hL x hx) w
  by_cases h:w=x
  ·subst h
   rw [this.mpr rfl]
  ·have h2:¬ x=w.map sg:=fun q=>h (this.mp q.symm)
   rw [beq_eq_false_iff_ne.mpr h2,beq_eq_false_iff_ne.mpr (fun q=>h q.symm)]
 induction L with
 | nil=>rfl
 | cons x L ih=>
  rw [cD,cD,e x (.head _),ih (fun W hW=>hL W (.tail _ hW)) (fun y hy=>e y (.tail _ hy))]
theorem An {W:List Nat} (hW:∀ c∈W,c∈SG) (w:List Nat):(w.map sg=W)=(w=W):=propext (U1 hW w)
theorem U4 (s:Setup) (hn:s.rules.n<=9) (i:Nat) (ws:List Bytes):taken s i (ws.map (·.map sg))=taken s i ws:=by
 cases ws with
 | nil=>rfl
 | cons k r=>
  have h1:allSome numberIn (r.map (·.map sg))=allSome numberIn r:=DT _ _ Jy r
  have h2:allSome (boatIn s.rules.n) (r.map (·.map sg))=allSome (boatIn s.rules.n) r:=DT _ _ (Xq hn) r
  rw [aC]
  unfold taken
  simp only [h1,h2,An (W:=BOATS) (by decide),An (W:=POINTS) (by decide),An (W:=TIE) (by decide),An (W:=ORDER) (by decide),An (W:=TURN) (by decide),An (W:=LEFT) (by decide),An (W:=CAN) (by decide)]
  match r with
  | []=>rfl
  | [w]=>
   simp only [aC,iB,Jy,RJ (L:=ties) (by decide),RJ (L:=teams) (by decide)]
  | _::_::_=>rfl
def numOf (w:List Nat):Int:=match numberIn w with
 | some n=>(n:Int)
 | none=>-1
theorem o4 {w:List Nat} {n:Nat} (h:numberIn w=some n):numOf w=n:=by unfold numOf;rw [h]
theorem o5 {w:List Nat} (h:numberIn w=none):numOf w=-1:=by unfold numOf;rw [h]
theorem DU:∀ (r:List Bytes),allSome numberIn r=if (-1:Int)∈r.map numOf then none else some ((r.map numOf).map bF)
 | []=>rfl
 | w::r=>by
  rw [allSome,DU r,aC]
  cases h:numberIn w with
  | none=>rw [o5 h,if_pos (bC ..)]
  | some n=>
   rw [o4 h]
   by_cases hm:(-1:Int)∈r.map numOf
   ·rw [if_pos hm,if_pos (.tail _ hm)]
   ·rw [if_neg hm,if_neg]
    ·rfl
    ·intro q
     rcases aw.mp q with e | e
     ·omega
     ·exact hm e
theorem FQ:∀ (w:List Nat) (a:Nat),(w.all (fun c=>decide (48<=c/\c<=57)))=true->w.foldl (fun n c=>n*10+(c - 48)) a<(a+1)*10 ^ w.length
 | [],a,_=>by simp
 | c::w,a,h=>by
  rw [kl,aG] at h
  have hc:=of_decide_eq_true h.1
  have:=FQ w (a*10+(c - 48)) h.2
  rw [c7,aq,oN]
  refine bo this ?_
  have e:(a+1)*(10 ^ w.length*10)=(a*10+10)*10 ^ w.length:=by rw [Nat.mul_comm (10 ^ w.length) 10,<-Nat.mul_assoc];congr 1;omega
  rw [e]
  exact fO _ (by omega)
theorem SJ {w:List Nat} {n:Nat} (h:numberIn w=some n):n<10000:=by
 unfold numberIn at h
 split at h
 ·rename_i hd
  have e:=aj.inj h
  rw [<- e]
  unfold digitsOnly at hd
  rw [aG,aG,aG] at hd
  have:=FQ w 0 hd.2.2.1
  have hl:=of_decide_eq_true hd.2.1
  refine bo this ?_
  rw [Nat.zero_add,Nat.one_mul]
  exact lI (by decide) hl
 ·cases h
theorem tM:∀ {l o:List Nat},l.Nodup->(∀ x∈l,x∈o)->o.length=l.length->o.Perm l
 | [],o,_,_,h=>by
  have:o=[]:=fR.mp h
  rw [this]
 | a::l,o,hn,hs,h=>by
  have ha:a∈o:=hs a (.head _)
  have hp:=List.perm_cons_erase ha
  obtain ⟨h1,h2⟩:=cE.mp hn
  refine hp.trans (List.Perm.cons a (tM h2 (fun x hx=>?_) ?_))
  ·have tH:x≠a:=fun e=>h1 (e▸hx)
   exact (List.mem_erase_of_ne tH).mpr (hs x (.tail _ hx))
  ·have:=hp.length_eq
   rw [aq] at this h
   omega
theorem lQ (n:Nat) (o:List Nat):isOrder n o=true↔o.Perm (aY (2*n)):=by
 unfold isOrder
 rw [aG]
 constructor
 ·intro ⟨h1,h2⟩
  refine tM List.nodup_range (fun x hx=>?_) (by rw [ck];exact eq_of_beq h1)
  have:=bA.mp h2 x hx
  exact dj.mp this
 ·intro h
  refine ⟨by rw [h.length_eq,ck];exact beq_self_eq_true _,bA.mpr fun x hx=>?_⟩
  exact dj.mpr (h.mem_iff.mpr hx)
theorem CP {n:Nat} (hn:n=2\/n=3) {b:Nat} (hb:b<2*n):boatIn n (boatName n b)=some b:=by
 rcases hn with rfl | rfl
 ·have:b=0\/b=1\/b=2\/b=3:=by omega
  rcases this with rfl | rfl | rfl | rfl<;>rfl
 ·have:b=0\/b=1\/b=2\/b=3\/b=4\/b=5:=by omega
  rcases this with rfl | rfl | rfl | rfl | rfl | rfl<;>rfl
theorem SK {n:Nat} {w:List Nat} {b:Nat} (h:boatIn n w=some b):b<2*n/\w=boatName n b:=by
 unfold boatIn at h
 split at h
 ·rename_i c d
  split at h
  ·cases h
  ·rename_i hd
   split at h
   ·rename_i hc
    have e:=aj.inj h
    subst e
    unfold boatName
    rw [if_pos (by omega),hc]
    exact ⟨by omega,by rw [show 49+(d - 49)=d by omega]⟩
   ·split at h
    ·rename_i hc
     have e:=aj.inj h
     subst e
     unfold boatName
     rw [if_neg (by omega),hc]
     exact ⟨by omega,by rw [show 49+(d - 49+n - n)=d by omega]⟩
    ·cases h
 ·cases h
theorem BH {n:Nat} (hn:n=2\/n=3) {a b:Nat} (ha:a<2*n) (hb:b<2*n) (h:boatName n a=boatName n b):a=b:=by
 have e1:=CP hn ha
 rw [h,CP hn hb] at e1
 exact (aj.inj e1).symm
def namesOf (n:Nat):List Bytes:=(aY (2*n)).map (boatName n)
theorem tZ {n:Nat} (hn:n=2\/n=3):∀ {o:List Nat},(∀ b∈o,b<2*n)->allSome (boatIn n) (o.map (boatName n))=some o
 | [],_=>rfl
 | b::o,h=>by
  rw [aC,allSome,CP hn (h b (.head _)),tZ hn fun x hx=>h x (.tail _ hx)]
theorem j0 {n:Nat}:∀ {r:List Bytes} {o:List Nat},allSome (boatIn n) r=some o->(∀ b∈o,b<2*n)/\r=o.map (boatName n)
 | [],o,h=>by
  have e:[]=o:=aj.inj h
  subst e
  exact ⟨(fun _ q=>nomatch q),rfl⟩
 | w::r,o,h=>by
  rw [allSome] at h
  cases h1:boatIn n w with
  | none=>rw [h1] at h;cases h
  | some b=>
   cases h2:allSome (boatIn n) r with
   | none=>rw [h1,h2] at h;cases h
   | some m=>
    rw [h1,h2] at h
    have e:=aj.inj h
    subst e
    obtain ⟨q1,q2⟩:=j0 h2
    obtain ⟨q3,q4⟩:=SK h1
    refine ⟨fun x hx=>?_,by rw [aC,<-q2,<-q4]⟩
    rcases aw.mp hx with e | e
    ·rw [e];exact q3
    ·exact q1 x e
theorem DV {n:Nat} (hn:n=2\/n=3) (r:List Bytes):r.Perm (namesOf n)↔∃ o,allSome (boatIn n) r=some o/\isOrder n o=true:=by
 constructor
 ·intro h
  have key:∀ (r:List Bytes),(∀ w∈r,w∈namesOf n)->∃ o:List Nat,(∀ b∈o,b<2*n)/\r=o.map (boatName n):=by
   intro r
   induction r with
   | nil=>intro _;exact ⟨[],(fun _ q=>nomatch q),rfl⟩
   | cons w r ih=>
    intro hr
    obtain ⟨o,h1,h2⟩:=ih fun x hx=>hr x (.tail _ hx)
    obtain ⟨b,hb,e⟩:=aO.mp (hr w (.head _))
    refine ⟨b::o,fun x hx=>?_,by rw [aC,<-h2,e]⟩
    rcases aw.mp hx with q | q
    ·rw [q];exact cH.mp hb
    ·exact h1 x q
  obtain ⟨o,h1,rfl⟩:=key r fun w hw=>h.mem_iff.mp hw
  refine ⟨o,tZ hn h1,(lQ n o).mpr ?_⟩
  refine tM List.nodup_range (fun x hx=>?_) ?_
  ·have:boatName n x∈o.map (boatName n):=h.mem_iff.mpr (aO.mpr ⟨x,hx,rfl⟩)
   obtain ⟨y,hy,e⟩:=aO.mp this
   rw [<- BH hn (h1 y hy) (cH.mp hx) e]
   exact hy
  ·have:=h.length_eq
   unfold namesOf at this
   rw [U,U] at this
   exact this
 ·intro ⟨o,h1,h2⟩
  obtain ⟨q1,rfl⟩:=j0 h1
  exact ((lQ n o).mp h2).map _
theorem RK:∀ (w:List Nat) (a:Nat),a*10 ^ w.length<=w.foldl (fun n c=>n*10+(c - 48)) a
 | [],a=>by simp
 | c::w,a=>by
  have:=RK w (a*10+(c - 48))
  rw [c7,aq,oN]
  refine bB ?_ this
  have e:a*(10 ^ w.length*10)=(a*10)*10 ^ w.length:=by rw [Nat.mul_comm (10 ^ w.length) 10,<-Nat.mul_assoc]
  rw [e]
  exact fO _ (by omega)
theorem BI {w:List Nat} {n:Nat} (h:numberIn w=some n) (hn:n<10):w=[48+n]:=by
 unfold numberIn at h
 split at h
 ·rename_i hd
  have e:=aj.inj h
  unfold digitsOnly at hd
  rw [aG,aG,aG] at hd
  obtain ⟨h1,h2,h3,h4⟩:=hd
  match w,e with
  | [],_=>simp at h1
  | [c],e=>
   have hc:48<=c/\c<=57:=by simpa using h3
   have e:0*10+(c - 48)=n:=e
   rw [show 48+n=c by omega]
  | c::d::w,e=>
   rw [kl,aG] at h3
   have hc:=of_decide_eq_true h3.1
   have tH:c≠48:=by
    intro q
    subst q
    simp at h4
   have:=RK (d::w) (0*10+(c - 48))
   rw [c7] at e
   rw [e] at this
   rw [aq,oN] at this
   have hp:1<=10 ^ w.length:=Nat.pos_of_ne_zero (by simp)
   have:1*(1*10)<=(0*10+(c - 48))*(10 ^ w.length*10):=Nat.mul_le_mul (by omega) (fO _ hp)
   omega
 ·cases h
def DW (s:Setup) (n:Nat):Setup:={ s with rules:={ s.rules with n:=n } }
theorem FR (s:Setup) (k:Bytes) (r:List Bytes):taken s 0 (k::r)=if k=BOATS/\r=[[50]] then some (DW s 2) else if k=BOATS/\r=[[51]] then some (DW s 3) else none:=by
 show (match r with
   | [w]=>(match numberIn w with
    | some n=>if k=BOATS/\2<=n/\n<=3 then some (DW s n) else none
    | none=>none)
   | _=>none)=_
 match r with
 | []=>simp
 | [w]=>
  cases h:numberIn w with
  | none=>
   have h2:w≠[50]:=fun e=>by rw [e] at h;cases h
   have h3:w≠[51]:=fun e=>by rw [e] at h;cases h
   simp [h,h2,h3]
  | some n=>
   simp only [h]
   by_cases hk:k=BOATS
   ·by_cases h2:n=2
    ·subst h2
     have:=BI h (by decide)
     subst this
     simp [hk]
    ·by_cases h3:n=3
     ·subst h3
      have:=BI h (by decide)
      subst this
      simp [hk]
     ·rw [if_neg (by omega),if_neg,if_neg]
      ·intro q
       have:w=[51]:=by simpa using q.2
       subst this
       rw [show numberIn [51]=some 3 from rfl] at h
       exact h3 (aj.inj h).symm
      ·intro q
       have:w=[50]:=by simpa using q.2
       subst this
       rw [show numberIn [50]=some 2 from rfl] at h
       exact h2 (aj.inj h).symm
   ·simp [hk]
 | _::_::_=>simp
def z7:List Int->Bool
 | a::b::l=>decide (b<=a)||z7 (b::l)
 | _=>false
theorem DX:∀ (l:List Int),(∀ z∈l,0<=z)->rises (l.map bF)=!z7 l
 | [],_=>rfl
 | [_],_=>rfl
 | a::b::l,h=>by
  show (decide (a.toNat<b.toNat)&&rises ((b::l).map bF))=!(decide (b<=a)||z7 (b::l))
  rw [DX (b::l) fun z hz=>h z (.tail _ hz)]
  have ha:=h a (.head _)
  have hb:=h b (.tail _ (.head _))
  by_cases q:b<=a
  ·rw [decide_eq_true q,decide_eq_false (by omega)];rfl
  ·rw [decide_eq_false q,decide_eq_true (by omega)];simp
theorem Jz:∀ (l:List Int),z7 l=(aY (l.length - 1)).any fun j=>decide (l.getD (j+1) 0<=l.getD j 0)
 | []=>rfl
 | [_]=>rfl
 | a::b::l=>by
  show (decide (b<=a)||z7 (b::l))=(aY (l.length+1)).any _
  rw [Jz (b::l),dC,fH,List.any_map]
  rfl
def vn (s:Setup) (ps:List Nat):Setup:={ s with rules:={ s.rules with points:=ps } }
theorem Kl (s:Setup) (k:Bytes) (r:List Bytes):taken s 1 (k::r)=if k=POINTS/\r.length=2*s.rules.n/\¬ (-1:Int)∈r.map numOf/\z7 (r.map numOf)=false then some (vn s ((r.map numOf).map bF)) else none:=by
 show (match allSome numberIn r with
   | some ps=>if k=POINTS/\ps.length=2*s.rules.n/\rises ps=true then some (vn s ps) else none
   | none=>none)=_
 rw [DU]
 by_cases hm:(-1:Int)∈r.map numOf
 ·rw [if_pos hm,if_neg (fun q=>q.2.2.1 hm)]
 ·rw [if_neg hm]
  have hp:∀ z∈r.map numOf,0<=z:=fun z hz=>by
   obtain ⟨w,hw,rfl⟩:=aO.mp hz
   cases h:numberIn w with
   | none=>exact absurd (aO.mpr ⟨w,hw,o5 h⟩) hm
   | some n=>rw [o4 h];omega
  simp only [DX _ hp,U]
  by_cases hk:k=POINTS
  ·by_cases hl:r.length=2*s.rules.n
   ·by_cases hf:z7 (r.map numOf)=false
    ·rw [if_pos ⟨hk,hl,by rw [hf];rfl⟩,if_pos ⟨hk,hl,hm,hf⟩]
    ·rw [if_neg (fun q=>hf (by simpa using q.2.2)),if_neg (fun q=>hf q.2.2.2)]
   ·rw [if_neg (fun q=>hl q.2.1),if_neg (fun q=>hl q.2.1)]
  ·rw [if_neg (fun q=>hk q.1),if_neg (fun q=>hk q.1)]
def E7 (s:Setup) (t:Nat):Setup:={ s with rules:={ s.rules with tie:=t } }
theorem Km (s:Setup) (k:Bytes) (r:List Bytes):taken s 2 (k::r)=if k=TIE/\r.length=1/\r.headD []∈ties then some (E7 s (ties.idxOf (r.headD []))) else none:=by
 show (match r with
   | [w]=>(match ties.findIdx? fun x=>x==w with
    | some t=>if k=TIE then some (E7 s t) else none
    | none=>none)
   | _=>none)=_
 match r with
 | []=>simp
 | [w]=>
  by_cases hw:w∈ties
  ·have:w=[100,114,97,119]\/w=[102,105,114,115,116]\/w=[108,97,115,116]:=by simpa [ties] using hw
   rcases this with rfl | rfl | rfl
   ·by_cases hk:k=TIE
    ·simp [hk,ties,cD,mN]
    ·simp [hk,ties,cD]
   ·by_cases hk:k=TIE
    ·simp [hk,ties,cD,mN]
    ·simp [hk,ties,cD]
   ·by_cases hk:k=TIE
    ·simp [hk,ties,cD,mN]
    ·simp [hk,ties,cD]
  ·have:(ties.findIdx? fun x=>x==w)=none:=by
    rw [List.findIdx?_eq_none_iff]
    intro x hx
    exact beq_eq_false_iff_ne.mpr fun e=>hw (e▸hx)
   simp only [this]
   rw [if_neg (fun q=>hw q.2.2)]
 | _::_::_=>simp
def CQ (s:Setup) (o:List Nat):Setup:={ s with game:={ s.game with order:=o } }
theorem Kn (s:Setup) (k:Bytes) (r:List Bytes):taken s 3 (k::r)=match allSome (boatIn s.rules.n) r with
  | some o=>if k=ORDER/\isOrder s.rules.n o=true then some (CQ s o) else none
  | none=>none:=rfl
def BJ (s:Setup) (t:Nat):Setup:={ s with game:={ s.game with turn:=t } }
theorem Ko (s:Setup) (k:Bytes) (r:List Bytes):taken s 4 (k::r)=if k=TURN/\r.length=1/\r.headD []∈teams then some (BJ s (teams.idxOf (r.headD []))) else none:=by
 show (match r with
   | [w]=>(match teams.findIdx? fun x=>x==w with
    | some t=>if k=TURN then some (BJ s t) else none
    | none=>none)
   | _=>none)=_
 match r with
 | []=>simp
 | [w]=>
  by_cases hw:w∈teams
  ·have:w=[82]\/w=[66]:=by simpa [teams] using hw
   rcases this with rfl | rfl
   ·by_cases hk:k=TURN
    ·simp [hk,teams,cD,mN]
    ·simp [hk,teams,cD]
   ·by_cases hk:k=TURN
    ·simp [hk,teams,cD,mN]
    ·simp [hk,teams,cD]
  ·have:(teams.findIdx? fun x=>x==w)=none:=by
    rw [List.findIdx?_eq_none_iff]
    intro x hx
    exact beq_eq_false_iff_ne.mpr fun e=>hw (e▸hx)
   simp only [this]
   rw [if_neg (fun q=>hw q.2.2)]
 | _::_::_=>simp
def BK (s:Setup) (n:Nat):Setup:={ s with game:={ s.game with left:=n } }
theorem Kp (s:Setup) (k:Bytes) (r:List Bytes):taken s 5 (k::r)=if k=LEFT/\r.length=1/\0<=numOf (r.headD [])/\numOf (r.headD [])<=20 then some (BK s (numOf (r.headD [])).toNat) else none:=by
 show (match r with
   | [w]=>(match numberIn w with
    | some n=>if k=LEFT/\n<=20 then some (BK s n) else none
    | none=>none)
   | _=>none)=_
 match r with
 | []=>simp
 | [w]=>
  have eh:List.headD [w] []=w:=rfl
  cases h:numberIn w with
  | none=>
   rw [if_neg (fun q=>by have z:=q.2.2.1;rw [eh,o5 h] at z;exact absurd z (by decide))]
   simp only [h]
  | some n=>
   have en:numOf (List.headD [w] [])=n:=o4 h
   by_cases hk:k=LEFT/\n<=20
   ·rw [if_pos ⟨hk.1,rfl,by rw [en];omega,by rw [en];omega⟩,en]
    simp only [h,if_pos hk]
    rfl
   ·rw [if_neg (fun q=>hk ⟨q.1,by have z:=q.2.2.2;rw [en] at z;omega⟩)]
    simp only [h,if_neg hk]
 | _::_::_=>simp
def Kq (s:Setup) (p:Nat×Nat):Setup:={ s with rules:={ s.rules with can:=s.rules.can++[p] } }
theorem Kr (s:Setup) (i:Nat) (hi:6<=i) (k:Bytes) (r:List Bytes):taken s i (k::r)=match allSome (boatIn s.rules.n) r with
  | some [a,b]=>if k=CAN/\a≠b/\s.rules.can.contains (a,b)=false then some (Kq s (a,b)) else none
  | _=>none:=by
 unfold taken
 simp only
 rw [if_neg (by omega),if_neg (by omega),if_neg (by omega),if_neg (by omega),if_neg (by omega),if_neg (by omega)]
 rfl
def gJ (st:List Bytes×Bytes) (b:Nat):List Bytes×Bytes:=if b=10 then (st.1++[st.2],[]) else (st.1,st.2++[b])
theorem U5 (c:Nat):∀ t:Bytes,splitAt c t≠[]
 | []=>by simp [splitAt]
 | b::l=>by
  show (if b=c then []::splitAt c l else match splitAt c l with | []=>[[b]] | w::q=>(b::w)::q)≠[]
  split
  ·simp
  ·split<;>simp
theorem Ao:∀ (t:Bytes) (L:List Bytes) (l:Bytes),∃ w q,splitAt 10 t=w::q/\(t.foldl gJ (L,l)).1++[(t.foldl gJ (L,l)).2]=L++(l++w)::q
 | [],L,l=>⟨[],[],rfl,by simp⟩
 | b::t,L,l=>by
  by_cases h:b=10
  ·obtain ⟨w,q,e1,e2⟩:=Ao t (L++[l]) []
   refine ⟨[],w::q,?_,?_⟩
   ·show (if b=10 then []::splitAt 10 t else _)=_
    rw [if_pos h,e1]
   ·rw [c7]
    have e:gJ (L,l) b=(L++[l],[]):=if_pos h
    rw [e,e2]
    simp
  ·obtain ⟨w,q,e1,e2⟩:=Ao t L (l++[b])
   refine ⟨b::w,q,?_,?_⟩
   ·show (if b=10 then []::splitAt 10 t else match splitAt 10 t with | []=>[[b]] | w::q=>(b::w)::q)=_
    rw [if_neg h,e1]
   ·rw [c7]
    have e:gJ (L,l) b=(L,l++[b]):=if_neg h
    rw [e,e2]
    simp
theorem t6 (t:Bytes):linesIn t=if (t.foldl gJ ([],[])).2=[] then (t.foldl gJ ([],[])).1 else (t.foldl gJ ([],[])).1++[(t.foldl gJ ([],[])).2]:=by
 obtain ⟨w,q,e1,e2⟩:=Ao t [] []
 have e:splitAt 10 t=(t.foldl gJ ([],[])).1++[(t.foldl gJ ([],[])).2]:=by rw [e2,e1];rfl
 unfold linesIn
 simp only [e]
 rw [List.getLast?_append]
 simp only [List.getLast?_singleton,Option.some_or,aj.injEq,List.dropLast_concat]
theorem xE:∀ (t:Bytes) (L:List Bytes) (l:Bytes),(t.foldl gJ (L,l)).1.length<=L.length+t.length
 | [],_,_=>au _
 | b::t,L,l=>by
  rw [c7]
  unfold gJ
  split
  ·have:=xE t (L++[l]) []
   rw [ao] at this
   rw [aq]
   simp at this
   exact bB this (by omega)
  ·exact bB (xE t L _) (by rw [aq];omega)
theorem zt:∀ (t:Bytes) (L:List Bytes) (l:Bytes),((t.foldl gJ (L,l)).1.map iA).sum+(t.foldl gJ (L,l)).2.length<=(L.map iA).sum+l.length+t.length
 | [],_,_=>au _
 | b::t,L,l=>by
  rw [c7]
  unfold gJ
  split
  ·refine bB (zt t (L++[l]) []) ?_
   rw [aX,List.sum_append,aq]
   simp
   try omega
  ·refine bB (zt t L _) ?_
   have e:(l++[b]).length=l.length+1:=by simp
   have e2:(b::t).length=t.length+1:=rfl
   show _+(l++[b]).length+_<=_
   omega
theorem RL {L:List Bytes} {l:Bytes} (h:l∈L):l.length<=(L.map iA).sum:=by
 induction L with
 | nil=>cases h
 | cons x L ih=>
  rw [aC,uL]
  rcases aw.mp h with e | e
  ·rw [e];omega
  ·have:=ih e;omega
theorem U6 {t l:Bytes} (h:l∈linesIn t):l.length<=t.length:=by
 rw [t6] at h
 have hs:=zt t [] []
 simp at hs
 split at h
 ·have:=RL h;omega
 ·rcases bS.mp h with q | q
  ·have:=RL q;omega
  ·rw [ay.mp q];omega
theorem SM (t:Bytes):(linesIn t).length<=t.length+1:=by
 rw [t6]
 have:=xE t [] []
 simp at this
 split
 ·omega
 ·rw [ao,cP];omega
structure kG (s:Setup) (i:Nat):Prop where
 n0:i=0->s.rules.n=0
 n:0<i->s.rules.n=2\/s.rules.n=3
 RM:1<i->s.rules.points.length=2*s.rules.n
 lt:∀ p∈s.rules.points,p<10000
 tie:s.rules.tie<=2
 ord:3<i->s.game.order.Perm (aY (2*s.rules.n))
 turn:s.game.turn<=1
 left:s.game.left<=20
 can:∀ p∈s.rules.can,p.1<2*s.rules.n/\p.2<2*s.rules.n/\p.1≠p.2
 nd:s.rules.can.Nodup
 cn:i<6->s.rules.can=[]
theorem acr:kG empty 0:=⟨fun _=>rfl,fun h=>absurd h (by omega),fun h=>absurd h (by omega),(fun _ h=>nomatch h),a0 _,fun h=>absurd h (by omega),a0 _,a0 _,(fun _ h=>nomatch h),jf,fun _=>rfl⟩
theorem kG.le9 {s:Setup} {i:Nat} (h:kG s i):s.rules.n<=9:=by
 by_cases hi:i=0
 ·rw [h.n0 hi];omega
 ·rcases h.n (by omega) with e | e<;>rw [e]<;>omega
theorem U7 {α:Type} [BEq α] [LawfulBEq α] {l:List α} {x:α} (h:x∈l):l.idxOf x<l.length:=List.idxOf_lt_length_iff.mpr h
theorem Qb {s t:Setup} {i:Nat} {ws:List Bytes} (hf:kG s i) (h:taken s i ws=some t):kG t (if i<6 then i+1 else i):=by
 cases ws with
 | nil=>cases h
 | cons k r=>
  by_cases h0:i=0
  ·subst h0
   rw [FR] at h
   have key:∀ n,n=2\/n=3->kG (DW s n) 1:=fun n hn=>⟨fun q=>absurd q (by omega),fun _=>hn,fun q=>absurd q (by omega),hf.lt,hf.tie,fun q=>absurd q (by omega),hf.turn,hf.left,(fun p hp=>by
    have e:s.rules.can=[]:=hf.cn (by omega)
    have hp:p∈s.rules.can:=hp
    rw [e] at hp
    cases hp),hf.nd,fun _=>hf.cn (by omega)⟩
   split at h
   ·rw [<- aj.inj h];exact key 2 (.inl rfl)
   ·split at h
    ·rw [<- aj.inj h];exact key 3 (.inr rfl)
    ·cases h
  by_cases h1:i=1
  ·subst h1
   rw [Kl] at h
   split at h
   ·rename_i hc
    rw [<- aj.inj h]
    refine ⟨fun q=>absurd q (by decide),fun _=>hf.n (by omega),fun _=>?_,fun p hp=>?_,hf.tie,fun q=>absurd q (by decide),hf.turn,hf.left,hf.can,hf.nd,fun _=>hf.cn (by omega)⟩
    ·show ((r.map numOf).map bF).length=2*s.rules.n
     rw [U,U];exact hc.2.1
    ·have hp:p∈(r.map numOf).map bF:=hp
     obtain ⟨z,hz,rfl⟩:=aO.mp hp
     obtain ⟨w,hw,rfl⟩:=aO.mp hz
     cases hn:numberIn w with
     | none=>rw [o5 hn];decide
     | some n=>rw [o4 hn];have:=SJ hn;show (n:Int).toNat<10000;omega
   ·cases h
  by_cases h2:i=2
  ·subst h2
   rw [Km] at h
   split at h
   ·rename_i hc
    rw [<- aj.inj h]
    refine ⟨fun q=>absurd q (by decide),fun _=>hf.n (by omega),fun _=>hf.RM (by omega),hf.lt,?_,fun q=>absurd q (by decide),hf.turn,hf.left,hf.can,hf.nd,fun _=>hf.cn (by omega)⟩
    have:=U7 hc.2.2
    have e:ties.length=3:=rfl
    show ties.idxOf (r.headD [])<=2
    omega
   ·cases h
  by_cases h3:i=3
  ·subst h3
   rw [Kn] at h
   cases ho:allSome (boatIn s.rules.n) r with
   | none=>rw [ho] at h;cases h
   | some o=>
    rw [ho] at h
    simp only at h
    split at h
    ·rename_i hc
     rw [<- aj.inj h]
     exact ⟨fun q=>absurd q (by decide),fun _=>hf.n (by omega),fun _=>hf.RM (by omega),hf.lt,hf.tie,fun _=>(lQ _ _).mp hc.2,hf.turn,hf.left,hf.can,hf.nd,fun _=>hf.cn (by omega)⟩
    ·cases h
  by_cases h4:i=4
  ·subst h4
   rw [Ko] at h
   split at h
   ·rename_i hc
    rw [<- aj.inj h]
    refine ⟨fun q=>absurd q (by decide),fun _=>hf.n (by omega),fun _=>hf.RM (by omega),hf.lt,hf.tie,fun _=>hf.ord (by omega),?_,hf.left,hf.can,hf.nd,fun _=>hf.cn (by omega)⟩
    have:=U7 hc.2.2
    have e:teams.length=2:=rfl
    show teams.idxOf (r.headD [])<=1
    omega
   ·cases h
  by_cases h5:i=5
  ·subst h5
   rw [Kp] at h
   split at h
   ·rename_i hc
    rw [<- aj.inj h]
    refine ⟨fun q=>absurd q (by decide),fun _=>hf.n (by omega),fun _=>hf.RM (by omega),hf.lt,hf.tie,fun _=>hf.ord (by omega),hf.turn,?_,hf.can,hf.nd,fun q=>absurd q (by decide)⟩
    show (numOf (r.headD [])).toNat<=20
    omega
   ·cases h
  ·have h6:6<=i:=by omega
   rw [Kr s i h6] at h
   rw [if_neg (by omega)]
   cases ho:allSome (boatIn s.rules.n) r with
   | none=>rw [ho] at h;cases h
   | some o=>
    rw [ho] at h
    match o,ho,h with
    | [],_,h=>cases h
    | [_],_,h=>cases h
    | _::_::_::_,_,h=>cases h
    | [a,b],ho,h=>
     simp only at h
     split at h
     ·rename_i hc
      rw [<- aj.inj h]
      obtain ⟨q1,_⟩:=j0 ho
      have Pn:(a,b)∉s.rules.can:=fun m=>by
       have:=dj.mpr m
       rw [hc.2.2] at this;cases this
      refine ⟨fun q=>absurd q (by omega),fun _=>hf.n (by omega),fun _=>hf.RM (by omega),hf.lt,hf.tie,fun _=>hf.ord (by omega),hf.turn,hf.left,fun p hp=>?_,?_,fun q=>absurd q (by omega)⟩
      ·have hp:p∈s.rules.can++[(a,b)]:=hp
       rcases bS.mp hp with m | m
       ·exact hf.can p m
       ·rw [ay.mp m]
        exact ⟨q1 a (.head _),q1 b (.tail _ (.head _)),hc.2.1⟩
      ·show (s.rules.can++[(a,b)]).Nodup
       rw [oO]
       refine ⟨hf.nd,by simp,fun x hx y hy e=>?_⟩
       rw [ay.mp hy] at e
       exact Pn (e▸hx)
     ·cases h
theorem SN {sh:Int->Option (Nat×Nat)} {f:Nat} {cs:List (List (List Int))} (h:PyFlat.calls sh f []=some cs):cs=[]:=by
 cases f<;>exact (aj.inj h).symm
theorem Qc {sh:Int->Option (Nat×Nat)} {f:Nat} {p:Int} {r:List Int} {cs:List (List (List Int))} (h:PyFlat.calls sh f (p::r)=some cs):
  ∃ (n k:Nat) (xs:List (List Int)) (t:List Int) (RN:List (List (List Int))) (f':Nat),sh p=some (n,k)/\n<=r.length/\PyFlat.rows k (r.drop n)=some (xs,t)/\cs=((p::r.take n)::xs)::RN/\PyFlat.calls sh f' t=some RN:=by
 cases f with
 | zero=>cases h
 | succ f=>
  unfold PyFlat.calls at h
  cases hc:PyFlat.call sh (p::r) with
  | none=>rw [hc] at h;cases h
  | some ct=>
   obtain ⟨c,t⟩:=ct
   rw [hc] at h
   simp only at h
   cases RO:PyFlat.calls sh f t with
   | none=>rw [RO] at h;cases h
   | some RN=>
    rw [RO] at h
    have e:=aj.inj h
    unfold PyFlat.call at hc
    simp only at hc
    cases hs:sh p with
    | none=>rw [hs] at hc;cases hc
    | some nk=>
     obtain ⟨n,k⟩:=nk
     rw [hs] at hc
     simp only at hc
     by_cases hl:r.length<n
     ·rw [if_pos hl] at hc;cases hc
     ·rw [if_neg hl] at hc
      cases hr:PyFlat.rows k (r.drop n) with
      | none=>rw [hr] at hc;cases hc
      | some xt=>
       obtain ⟨xs,t'⟩:=xt
       rw [hr] at hc
       have e2:=aj.inj hc
       injection e2 with e3 e4
       subst e3 e4
       exact ⟨n,k,xs,t',RN,f,rfl,by omega,hr,e.symm,RO⟩
theorem SO {r:List Int} {xs:List (List Int)} {t:List Int} (h:PyFlat.rows 0 r=some (xs,t)):xs=[]/\t=r:=by
 have e:=aj.inj h
 injection e with e1 e2
 exact ⟨e1.symm,e2.symm⟩
theorem U8 {r:List Int} {xs:List (List Int)} {t:List Int} (h:PyFlat.rows 1 r=some (xs,t)):∃ (m:Nat) (r':List Int),r=(m:Int)::r'/\m<=r'.length/\xs=[r'.take m]/\t=r'.drop m:=by
 unfold PyFlat.rows at h
 cases hr:PyFlat.row r with
 | none=>rw [hr] at h;cases h
 | some xt=>
  obtain ⟨x,s⟩:=xt
  rw [hr] at h
  simp only at h
  have e:=aj.inj h
  injection e with e1 e2
  subst e1 e2
  cases r with
  | nil=>cases hr
  | cons n r'=>
   unfold PyFlat.row at hr
   simp only at hr
   split at hr
   ·rename_i hn
    have e:=aj.inj hr
    injection e with e1 e2
    subst e1 e2
    exact ⟨n.toNat,r',by rw [Int.toNat_of_nonneg hn.1],hn.2,rfl,rfl⟩
   ·cases hr
def gK:List (Nat×Nat):=[(0,1),(0,0),(0,0),(0,0),(0,0),(0,1),(1,0),(1,0),(0,0),(1,0),(0,0),(1,0),(1,0),(1,0),(1,0),(2,1),(0,0),(2,0),(2,0),(0,1),(2,0)]
theorem NA {p:Int} {nk:Nat×Nat} (h:PyVbrezy.shape p=some nk):∃ i:Nat,p=(i:Int)/\gK[i]?=some nk:=by
 have hp:0<=p/\p<=20:=by
  refine Classical.byContradiction fun hn=>?_
  unfold PyVbrezy.shape at h
  rw [if_neg (by omega),if_neg (by omega),if_neg (by omega),if_neg (by omega),if_neg (by omega),if_neg (by omega),if_neg (by omega),if_neg (by omega),if_neg (by omega),if_neg (by omega),if_neg (by omega),if_neg (by omega),if_neg (by omega),if_neg (by omega),if_neg (by omega),if_neg (by omega),if_neg (by omega),if_neg (by omega),if_neg (by omega),if_neg (by omega),if_neg (by omega)] at h
  cases h
 have key:∀ i:Nat,i<21->PyVbrezy.shape (i:Int)=gK[i]?:=by decide
 refine ⟨p.toNat,by omega,?_⟩
 rw [<- key p.toNat (by omega),Int.toNat_of_nonneg hp.1]
 exact h
structure sj where
 no:Nat
 gQ:List Int
 rows:List (List Int)
def sj.ok (c:sj):Prop:=gK[c.no]?=some (c.gQ.length,c.rows.length)
def sj.flat (c:sj):List (List Int):=((c.no:Int)::c.gQ)::c.rows
theorem SQ {l:List Int} {at_ f:Nat} {cs:List (List (List Int))} (h:PyFlat.calls PyVbrezy.shape f (l.drop at_)=some cs) (iX:at_<l.length):
    ∃ (c:sj) (RN:List (List (List Int))) (f':Nat),c.ok/\l[at_]?=some (c.no:Int)/\at_+1+c.gQ.length<=l.length/\c.gQ=(l.drop (at_+1)).take c.gQ.length/\cs=c.flat::RN/\
      ((c.rows=[]/\PyFlat.calls PyVbrezy.shape f' (l.drop (at_+1+c.gQ.length))=some RN)\/
       ∃ m:Nat,l[at_+1+c.gQ.length]?=some (m:Int)/\at_+1+c.gQ.length+1+m<=l.length/\c.rows=[(l.drop (at_+1+c.gQ.length+1)).take m]/\PyFlat.calls PyVbrezy.shape f' (l.drop (at_+1+c.gQ.length+1+m))=some RN):=by
  have hd:l.drop at_=l[at_]::l.drop (at_+1):=cw iX
  rw [hd] at h
  obtain ⟨n,k,xs,t,RN,f',hs,hn,hr,RO,EX⟩:=Qc h
  obtain ⟨i,hi,hfm⟩:=NA hs
  rw [dh] at hn
  have U9:((l.drop (at_+1)).take n).length=n:=by rw [bK,dh];omega
  have hk:k=0\/k=1:=by
    have hm:=aT hfm
    have:∀ q∈gK,q.2=0\/q.2=1:=by decide
    exact this _ hm
  rw [sX] at hr
  have eg:l[at_]?=some (i:Int):=by rw [a7 iX,hi]
  rcases hk with rfl | rfl
  · obtain ⟨rfl,rfl⟩:=SO hr
    refine ⟨⟨i,(l.drop (at_+1)).take n,[]⟩,RN,f',?_,eg,?_,?_,?_,.inl ⟨rfl,?_⟩⟩
    · show gK[i]?=some (_,0);rw [U9];exact hfm
    · show at_+1+((l.drop (at_+1)).take n).length<=_;rw [U9];omega
    · show _=(l.drop (at_+1)).take ((l.drop (at_+1)).take n).length;rw [U9]
    · rw [RO];unfold sj.flat;rw [hi]
    · show PyFlat.calls _ _ (l.drop (at_+1+((l.drop (at_+1)).take n).length))=_;rw [U9];exact EX
  · obtain ⟨m,r',Xr,hm,rfl,rfl⟩:=U8 hr
    have Ks:at_+1+n<l.length:=by
      have:=congrArg iA Xr
      rw [dh,aq] at this
      omega
    have hd2:l.drop (at_+1+n)=l[at_+1+n]::l.drop (at_+1+n+1):=cw Ks
    rw [hd2] at Xr
    injection Xr with e1 e2
    subst e2
    rw [dh] at hm
    refine ⟨⟨i,(l.drop (at_+1)).take n,[(l.drop (at_+1+n+1)).take m]⟩,RN,f',?_,eg,?_,?_,?_,.inr ⟨m,?_,?_,?_,?_⟩⟩
    · show gK[i]?=some (_,1);rw [U9];exact hfm
    · show at_+1+((l.drop (at_+1)).take n).length<=_;rw [U9];omega
    · show _=(l.drop (at_+1)).take ((l.drop (at_+1)).take n).length;rw [U9]
    · rw [RO];unfold sj.flat;rw [hi]
    · show l[at_+1+((l.drop (at_+1)).take n).length]?=_;rw [U9,a7 Ks,e1]
    · show at_+1+((l.drop (at_+1)).take n).length+1+m<=_;rw [U9];omega
    · show _=[(l.drop (at_+1+((l.drop (at_+1)).take n).length+1)).take m];rw [U9]
    · show PyFlat.calls _ _ (l.drop (at_+1+((l.drop (at_+1)).take n).length+1+m))=_
      rw [U9]
      rw [sX] at EX
      exact EX
end TS
namespace TS
open Vbrezy PySem PySem.Spec PyProof.Rows
theorem t8 {α:Type} {R:α->α->Prop} (acs:∀ a b,R a b->R b a->a=b):∀ {l m:List α},l.Pairwise R->m.Pairwise R->l.Perm m->l=m
 | [],m,_,_,p=>by rw [p.nil_eq]
 | a::l,[],_,_,p=>absurd p.symm.nil_eq (by simp)
 | a::l,b::m,h1,h2,p=>by
  obtain ⟨g1,g2⟩:=ng.mp h1
  obtain ⟨k1,k2⟩:=ng.mp h2
  have e:a=b:=by
   rcases aw.mp (p.mem_iff.mp (bC (a:=a))) with e | ha
   ·exact e
   ·rcases aw.mp (p.mem_iff.mpr (bC (a:=b))) with e | hb
    ·exact e.symm
    ·exact acs a b (g1 b hb) (k1 a ha)
  subst e
  rw [t8 acs g2 k2 (List.Perm.cons_inv p)]
theorem NB:∀ a b:List Nat,ltCps a b=false->ltCps b a=false->a=b
 | [],[],_,_=>rfl
 | [],_::_,h,_=>by cases h
 | _::_,[],_,h=>by cases h
 | x::a,y::b,h1,h2=>by
  have h1:(decide (x<y)||(x==y&&ltCps a b))=false:=h1
  have h2:(decide (y<x)||(y==x&&ltCps b a))=false:=h2
  rw [Bool.or_eq_false_iff] at h1 h2
  have e:x=y:=by
   have q1:=of_decide_eq_false h1.1
   have q2:=of_decide_eq_false h2.1
   omega
  subst e
  have r1:ltCps a b=false:=by simpa using h1.2
  have r2:ltCps b a=false:=by simpa using h2.2
  rw [NB a b r1 r2]
theorem JA:∀ a b c:List Nat,ltCps b a=false->ltCps c b=false->ltCps c a=false
 | [],_,[],_,_=>rfl
 | [],[],_::_,_,h=>h
 | [],_::_,_::_,_,_=>rfl
 | _::_,[],_,h,_=>by cases h
 | _::_,_::_,[],_,h=>by cases h
 | x::a,y::b,z::c,h1,h2=>by
  have h1:(decide (y<x)||(y==x&&ltCps b a))=false:=h1
  have h2:(decide (z<y)||(z==y&&ltCps c b))=false:=h2
  show (decide (z<x)||(z==x&&ltCps c a))=false
  rw [Bool.or_eq_false_iff] at h1 h2 ⊢
  have q1:=of_decide_eq_false h1.1
  have q2:=of_decide_eq_false h2.1
  refine ⟨decide_eq_false (by omega),?_⟩
  by_cases e:z=x
  ·subst e
   have e2:y=z:=by omega
   subst e2
   have r1:ltCps b a=false:=by simpa using h1.2
   have r2:ltCps c b=false:=by simpa using h2.2
   rw [JA a b c r1 r2];simp
  ·simp [e]
def leS (a b:Str):Prop:=ltCps b.cps.toList a.cps.toList=false
theorem U_ (a b:Str) (h1:leS a b) (h2:leS b a):a=b:=by
 have e:=NB _ _ h2 h1
 obtain ⟨a⟩:=a
 obtain ⟨b⟩:=b
 have e2:a=b:=Array.toList_inj.mp e
 rw [e2]
theorem w_:∀ (l:List Str) (p:Str),risingS p l=true->(p::l).Pairwise leS
 | [],p,_=>by simp
 | x::r,p,h=>by
  have h:(!ltCps x.cps.toList p.cps.toList&&risingS x r)=true:=h
  rw [aG] at h
  have ih:=w_ r x h.2
  have hp:leS p x:=by unfold leS;simpa using h.1
  refine ng.mpr ⟨fun y hy=>?_,ih⟩
  rcases aw.mp hy with e | hy
  ·rw [e];exact hp
  ·have:=(ng.mp ih).1 y hy
   exact JA _ _ _ hp this
theorem uW:∀ {l:List Str},sortedS l=true->l.Pairwise leS
 | [],_=>.nil
 | x::r,h=>w_ r x h
theorem Qe {l m l' m':List Str} (p1:l'.Perm l) (s1:sortedS l'=true) (p2:m'.Perm m) (s2:sortedS m'=true):l'=m'↔l.Perm m:=by
 constructor
 ·intro e;subst e;exact p1.symm.trans p2
 ·intro h
  exact t8 U_ (uW s1) (uW s2) ((p1.trans h).trans p2.symm)
theorem FT (m:Nat):((aY m).map fun (n:Nat)=>(n:Int)).Pairwise (·<=·):=by
 rw [List.pairwise_map]
 refine List.Pairwise.imp ?_ (List.pairwise_lt_range (n:=m))
 intro a b h
 omega
theorem Qg {l l':List Int} {m:Nat} (p1:l'.Perm l) (s1:l'.Pairwise (·<=·)):l'=(aY m).map (fun (n:Nat)=>(n:Int))↔l.Perm ((aY m).map fun (n:Nat)=>(n:Int)):=by
 constructor
 ·intro e;rw [<- e];exact p1.symm
 ·intro h
  exact t8 (fun a b h1 h2=>by omega) s1 (FT m) (p1.trans h)
theorem Qh {n:Nat} {l:List Int}:(¬ ((l.all fun z=>inside z 0 (2*(n:Int) - 1))=false\/isOrder n (l.map bF)=false))↔l.Perm ((aY (2*n)).map fun (n:Nat)=>(n:Int)):=by
 constructor
 ·intro h
  have h1:(l.all fun z=>inside z 0 (2*(n:Int) - 1))=true:=by
   cases q:(l.all fun z=>inside z 0 (2*(n:Int) - 1)) with
   | true=>rfl
   | false=>exact absurd (.inl q) h
  have h2:isOrder n (l.map bF)=true:=by
   cases q:isOrder n (l.map bF) with
   | true=>rfl
   | false=>exact absurd (.inr q) h
  have p:=((lQ n _).mp h2).map fun (n:Nat)=>(n:Int)
  rw [a9] at p
  have e:l.map ((fun (n:Nat)=>(n:Int))∘bF)=l:=by
   conv=>rhs;rw [<- og l]
   refine cf fun z hz=>?_
   have:=bA.mp h1 z hz
   unfold inside at this
   rw [aG] at this
   have:=of_decide_eq_true this.1
   show ((z.toNat:Nat):Int)=z
   omega
  rw [e] at p
  exact p
 ·intro p h
  rcases h with h | h
  ·have:(l.all fun z=>inside z 0 (2*(n:Int) - 1))=true:=bA.mpr fun z hz=>by
    obtain ⟨m,hm,rfl⟩:=aO.mp (p.mem_iff.mp hz)
    have:=cH.mp hm
    unfold inside
    rw [decide_eq_true (by omega),decide_eq_true (by omega)];rfl
   rw [h] at this;cases this
  ·have:isOrder n (l.map bF)=true:=(lQ n _).mpr (by
    have q:=p.map bF
    rw [a9] at q
    have e:(aY (2*n)).map (bF∘fun (n:Nat)=>(n:Int))=aY (2*n):=by
     conv=>rhs;rw [<- og (aY (2*n))]
     exact cf fun z _=>rfl
    rw [e] at q
    exact q)
   rw [h] at this;cases this
end TS
namespace TS
open PySem
open Sem (wp)
section
variable {prog:Program} {w:World} {K:Type} [DecidableEq K] (knd:KeyKind prog w K)
abbrev kI (K:Type):=Sum K (List K)
inductive rF (h:Heap):kI K->Value->Prop
 | key {k:K} {v:Value}:knd.is k v=true->rF h (.inl k) v
 | tup {ks:List K} {b:Addr}:IsTupleKey knd h ks b->rF h (.inr ks) (.ref b)
inductive sm (h:Heap):List (kI K)->List Value->Prop
 | nil:sm h [] []
 | cons {k:kI K} {v:Value} {ks:List (kI K)} {vs:List Value}:rF knd h k v->sm h ks vs->sm h (k::ks) (v::vs)
def mR (h:Heap) (ks:List (kI K)) (a:Addr):Prop:=∃ o items n,h.get? a=some o/\o.cls=.type "tuple"/\o.data=.seq items n/\sm knd h ks items.toList
variable {knd}
theorem rF.inj {h:Heap} {x y:kI K} {v:Value} (hx:rF knd h x v) (hy:rF knd h y v):x=y:=by
 cases hx with
 | key h1=>
  cases hy with
  | key h2=>rw [knd.inj _ _ _ h1 h2]
  | tup h2=>have:=knd.byValue _ _ h1;simp [carriedByValue] at this
 | tup h1=>
  cases hy with
  | key h2=>have:=knd.byValue _ _ h2;simp [carriedByValue] at this
  | tup h2=>rw [h1.inj h2]
theorem sm.inj {h:Heap} {x y:List (kI K)} {vs:List Value} (hx:sm knd h x vs) (hy:sm knd h y vs):x=y:=by
 induction hx generalizing y with
 | nil=>cases hy;rfl
 | cons h1 _ ih=>
  cases hy with
  | cons h2 t2=>rw [h1.inj h2,ih t2]
theorem mR.typeIs {s:Shared} {ks:List (kI K)} {a:Addr} (x:mR knd s.heap ks a):s.TypeIs (.ref a) "tuple":=let ⟨o,_,_,ho,hc,_⟩:=x;⟨o,ho,hc⟩
theorem mR.inj {h:Heap} {a:Addr} {x y:List (kI K)} (hx:mR knd h x a) (hy:mR knd h y a):x=y:=by
 obtain ⟨o,items,n,ho,_,hd,hi⟩:=hx
 obtain ⟨o',afY,n',Pu,_,Uc,ZH⟩:=hy
 obtain rfl:o=o':=aj.inj (ho.symm.trans Pu)
 rw [hd] at Uc
 injection Uc with h1 _
 subst h1
 exact hi.inj ZH
theorem mR.keeps {h h':Heap} {ks:List (kI K)} {a d:Addr} {o:Obj} {es ep} (x:mR knd h ks a) (ho:h.get? d=some o) (hd:o.data=.dict es ep) (hs:dk d h h'):mR knd h' ks a:=by
 obtain ⟨o',items,n,Pu,hc,Uc,hi⟩:=x
 have tH:a≠d:=by
  rintro rfl
  obtain rfl:o'=o:=aj.inj (Pu.symm.trans ho)
  rw [hd] at Uc;exact nomatch Uc
 refine ⟨o',items,n,(hs.2 a tH).trans Pu,hc,Uc,?_⟩
 clear Uc
 generalize items.toList=vs at hi
 induction hi with
 | nil=>exact .nil
 | cons h1 _ ih=>
  refine .cons ?_ ih
  cases h1 with
  | key q=>exact .key q
  | tup q=>exact .tup (q.keeps ho hd hs)
def FU (knd:KeyKind prog w K):kI K->Int
 | .inl k=>knd.hash k
 | .inr ks=>tupleKeyHash knd ks
def FV:kI K->Nat
 | .inl _=>1
 | .inr ks=>ks.length+1
def FW (knd:KeyKind prog w K) (ks:List (kI K)):Int:=reduceHash (Builtin.Tuple.tupleHashOf (ks.map (FU knd)))
variable {A:Around} {E:Value->Shared->Prop} {s:Shared}
theorem SR {k:kI K} {v:Value} {Q:Int->Shared->Prop} (hu:A.units<cLine) (hk:rF knd s.heap k v) (h:Q (FU knd k) { s with toks:=s.toks+FV k }):wpAny (model prog w) A (pyHash v) Q E s:=by
 cases hk with
 | key q=>exact knd.pyHash q h
 | tup q=>exact wpAny_pyHash_tuple hu q h
theorem BL {ks:List (kI K)} {a:Addr} {Q:Int->Shared->Prop} (hu:A.units+2<cLine) (hk:mR knd s.heap ks a) (h:Q (FW knd ks) { s with toks:=s.toks+((ks.map FV).sum+1) }):
  wpAny (model prog w) A (pyHash (.ref a)) Q E s:=by
 have hT:=hk.typeIs
 obtain ⟨o,items,n,ho,_,hd,hi⟩:=hk
 unfold pyHash
 first | unfold pyHashByItsType | skip
 first | refine wpAny_bind (wpAny_cRoomFor_or (.inr (by omega)) ?_) | skip
 refine wpAny_bind (wpAny_specialOf hT F.slot_tuple_hash.lookup ?_)
 show wpAny _ _ (if (some (Value.builtin "tuple.__hash__")==some Value.none)=true then _ else _) Q E s
 rw [if_neg (by rw [beq_builtin_none];exact a6)]
 refine wpAny_bind (wpAny_specialOf hT F.slot_tuple_hash.lookup ?_)
 show wpAny _ _ (callSpecialIfBoundUnlessNone? (.ref a) "__hash__" _ >>= _) Q E s
 refine wpAny_bind (wpAny_callSpecialIfBoundUnlessNone?_slot hT F.slot_tuple_hash (wpAny_call_entry F.slot_tuple_hash hT F.entry_tuple_hash ?_ (F.args_tuple_hash_1 _)))
 show wpAny _ _ (Builtin.Tuple.tupleItemsOf (.ref a) >>= _) _ _ s
 refine wpAny_bind (wpAny_tupleItemsOf ho hd ?_)
 refine wpAny_bind ?_
 rw [<- sY]
 refine wpAny_forIn_list _
  (fun rest (b:Array Int) s'=>∃ done left,ks=done++left/\sm knd s.heap left rest/\b.toList=done.map (FU knd)/\s'={ s with toks:=s.toks+(done.map FV).sum })
  _ ?_ ?_ _ _ ⟨[],ks,rfl,hi,rfl,rfl⟩
 ·rintro x rest b s' ⟨done,left,rfl,hl,hb,rfl⟩
  cases hl with
  | @cons k _ ks' _ h1 Ue=>
   refine wpAny_bind (SR (by show A.units+1<cLine;omega) h1 ?_)
   have e:({ s with toks:=s.toks+(done.map FV).sum+FV k }:Shared)={ s with toks:=s.toks+((done++[k]).map FV).sum }:=by
    rw [aX,List.sum_append];simp [uM]
   first
    | exact wpAny_pure ⟨done++[k],ks',by simp,Ue,by simp [hb],e⟩
    | exact wpAny_bind (wpAny_pure (wpAny_pure ⟨done++[k],ks',by simp,Ue,by simp [hb],e⟩))
 ·rintro b s' ⟨done,left,rfl,hl,hb,rfl⟩
  cases hl
  rw [cb] at h
  show wpAny _ _ (retInt (Builtin.Tuple.tupleHashOf b.toList)) _ _ _
  rw [hb]
  refine wpAny_ret_mkInt ?_
  show wpAny _ _ (if (decide (-(2:Int) ^ 63<=Builtin.Tuple.tupleHashOf (done.map (FU knd)))&&decide (Builtin.Tuple.tupleHashOf (done.map (FU knd))<2 ^ 63))=true then _ else _) Q E _
  unfold FW reduceHash at h
  by_cases hr:(decide (-(2:Int) ^ 63<=Builtin.Tuple.tupleHashOf (done.map (FU knd)))&&decide (Builtin.Tuple.tupleHashOf (done.map (FU knd))<2 ^ 63))=true
  ·rw [if_pos hr]
   rw [if_pos hr] at h
   exact wpAny_pure (by simpa [uM] using h)
  ·rw [if_neg hr]
   rw [if_neg hr] at h
   exact wpAny_bind (wpAny_rule (wpAny_pure (by simpa [uM] using h)))
theorem Xs {x y:kI K} {u v:Value} {Q:Bool->Shared->Prop} (hu:A.units<cLine) (hx:rF knd s.heap x u) (hy:rF knd s.heap y v) (YA:x.isLeft=y.isLeft) (h:Q (decide (x=y)) s):wpAny (model prog w) A (eqBool u v) Q E s:=by
 cases hx with
 | @key k _ q=>
  cases hy with
  | @key k' _ q'=>
   refine knd.eqBool q q' ?_
   have e:decide (k=k')=decide ((Sum.inl k:kI K)=Sum.inl k'):=decide_eq_decide.mpr (by simp)
   rw [e];exact h
  | tup q'=>cases YA
 | @tup ks _ q=>
  cases hy with
  | key q'=>cases YA
  | @tup ks' _ q'=>
   refine wpAny_eqBool_tuple hu q q' ?_
   have e:decide (ks=ks')=decide ((Sum.inr ks:kI K)=Sum.inr ks'):=decide_eq_decide.mpr (by simp)
   rw [e];exact h
def Shape (x y:List (kI K)):Prop:=x.map Sum.isLeft=y.map Sum.isLeft
theorem Kt {x y:List (kI K)} {a b:Addr} {P:Fin->Shared->Prop} (hu:A.units<cLine) (hsh:Shape x y) (hx:mR knd s.heap x a) (hy:mR knd s.heap y b) (h:P (.done (.ret (.bool (decide (x=y))))) s):
  wpAny (model prog w) A (Builtin.«tuple.__eq__» ⟨[.ref a,.ref b],[]⟩) P E s:=by
 have hTb:=hy.typeIs
 obtain ⟨oa,xs,na,lP,_,hda,hia⟩:=hx
 obtain ⟨ob,ys,nb,Xt,_,Uu,hib⟩:=hy
 show wpAny _ _ (isInstance (.ref b) (.type "tuple") >>= _) _ _ s
 refine wpAny_bind (wpAny_isInstance hTb isSubtype_tuple_tuple ?_)
 simp only [km,bW,if_false]
 refine wpAny_bind (wpAny_tupleItemsOf lP hda ?_)
 refine wpAny_bind (wpAny_tupleItemsOf Xt Uu ?_)
 refine wpAny_bind ?_
 refine wpAny_forIn_list _
  (fun rest r s'=>r.1=none/\s'=s/\∃ x' y' xs' ys',rest=List.zip xs' ys'/\sm knd s.heap x' xs'/\sm knd s.heap y' ys'/\Shape x' y'/\decide (x'=y')=decide (x=y)/\(xs'.length==ys'.length)=(xs.size==ys.size))
  _ ?_ ?_ _ _ ⟨rfl,rfl,x,y,xs.toList,ys.toList,rfl,hia,hib,hsh,rfl,by simp⟩
 ·rintro ⟨u,v⟩ rest r s' ⟨hr,rfl,x',y',xs',ys',hz,hx',WI,hS,Xu,hlen⟩
  cases hx' with
  | nil=>simp at hz
  | @cons k1 u' x'' af0 h1 af1=>
   cases WI with
   | nil=>simp at hz
   | @cons k2 v' y'' af2 h2 af3=>
    simp only [List.zip_cons_cons,pU.injEq,Prod.mk.injEq] at hz
    obtain ⟨⟨rfl,rfl⟩,rfl⟩:=hz
    unfold Shape at hS
    rw [aC,aC,pU.injEq] at hS
    refine wpAny_bind (Xs (x:=k1) (y:=k2) hu h1 h2 hS.1 ?_)
    by_cases hk:k1=k2
    ·subst hk
     rw [decide_eq_true rfl]
     simp only [km,bW,if_false]
     refine wpAny_pure ⟨rfl,rfl,x'',y'',af0,af2,rfl,af1,af3,hS.2,?_,by simpa using hlen⟩
     rw [<- Xu]
     by_cases hxy:x''=y''
     ·simp [hxy]
     ·simp [hxy]
    ·rw [decide_eq_false hk]
     simp only [Bool.not_false,if_true]
     have hf:decide (x=y)=false:=by rw [<- Xu];simp [hk]
     rw [hf] at h
     exact wpAny_bind (wpAny_pure (wpAny_pure (wpAny_pure h)))
 ·rintro ⟨r1,r2⟩ s' ⟨hr,rfl,x',y',xs',ys',hz,hx',WI,hS,Xu,hlen⟩
  simp only at hr
  subst hr
  refine wpAny_pure ?_
  have ZI:(xs.size==ys.size)=decide (x=y):=by
   rw [<- Xu,<-hlen]
   cases hx' with
   | nil=>
    cases WI with
    | nil=>simp
    | cons _ _=>simp
   | cons _ _=>
    cases WI with
    | nil=>simp
    | cons _ _=>simp at hz
  show P (.done (.ret (.bool (xs.size==ys.size)))) s'
  rw [ZI];exact h
theorem NC (n:Nat) {ks:List K} {a:Addr} {Q:Bool->Shared->Prop} (hk:IsTupleKey knd s.heap ks a) (h:Q true s):wpAny (model prog w) A (eqIsQuiet (n+1) (.ref a)) Q E s:=by
 have hT:=hk.typeIs
 obtain ⟨o,items,m,ho,_,hd,hi⟩:=hk
 unfold eqIsQuiet
 refine wpAny_bind (wpAny_specialOf hT F.slot_tuple_eq.lookup ?_)
 show wpAny _ _ (isInstance (.ref a) (.type "tuple") >>= _) _ _ s
 refine wpAny_bind (wpAny_isInstance hT isSubtype_tuple_tuple ?_)
 simp only [km,bW,if_false]
 refine wpAny_bind (wpAny_seqItems ho hd ?_)
 refine wpAny_bind ?_
 show wpAny _ _ (forIn items _ _) _ _ s
 rw [<- sY]
 refine wpAny_forIn_list _ (fun rest r s'=>r.1=none/\s'=s/\∀ v∈rest,carriedByValue v=true) _ ?_ ?_ _ _ ⟨rfl,rfl,hi.byValue⟩
 ·rintro v rest r s' ⟨hr,rfl,rE⟩
  rw [eqIsQuiet_byValue _ (rE v bC)]
  refine wpAny_bind (wpAny_pure ?_)
  simp only [km,bW,if_false]
  exact wpAny_pure ⟨rfl,rfl,fun u hu'=>rE u (ba _ hu')⟩
 ·rintro ⟨r1,r2⟩ s' ⟨hr,rfl,_⟩
  simp only at hr
  subst hr
  exact wpAny_pure h
theorem Qi {ks:List (kI K)} {a:Addr} {Q:Bool->Shared->Prop} (hk:mR knd s.heap ks a) (h:Q true s):wpAny (model prog w) A (eqIsQuiet 8 (.ref a)) Q E s:=by
 have hT:=hk.typeIs
 obtain ⟨o,items,n,ho,_,hd,hi⟩:=hk
 unfold eqIsQuiet
 refine wpAny_bind (wpAny_specialOf hT F.slot_tuple_eq.lookup ?_)
 show wpAny _ _ (isInstance (.ref a) (.type "tuple") >>= _) _ _ s
 refine wpAny_bind (wpAny_isInstance hT isSubtype_tuple_tuple ?_)
 simp only [km,bW,if_false]
 refine wpAny_bind (wpAny_seqItems ho hd ?_)
 refine wpAny_bind ?_
 show wpAny _ _ (forIn items _ _) _ _ s
 rw [<- sY]
 refine wpAny_forIn_list _ (fun rest r s'=>r.1=none/\s'=s/\∃ left,sm knd s.heap left rest) _ ?_ ?_ _ _ ⟨rfl,rfl,ks,hi⟩
 ·rintro v rest r s' ⟨hr,rfl,left,rE⟩
  cases rE with
  | @cons k _ ks' _ h1 Ue=>
   cases h1 with
   | key q=>
    rw [eqIsQuiet_byValue _ (knd.byValue _ _ q)]
    refine wpAny_bind (wpAny_pure ?_)
    simp only [km,bW,if_false]
    exact wpAny_pure ⟨rfl,rfl,_,Ue⟩
   | tup q=>
    refine wpAny_bind (NC 6 q ?_)
    simp only [km,bW,if_false]
    exact wpAny_pure ⟨rfl,rfl,_,Ue⟩
 ·rintro ⟨r1,r2⟩ s' ⟨hr,rfl,_⟩
  simp only at hr
  subst hr
  exact wpAny_pure h
theorem BM {x y:List (kI K)} {a b:Addr} {Q:Bool->Shared->Prop} (hu:A.units+2<cLine) (hsh:Shape x y) (hx:mR knd s.heap x a) (hy:mR knd s.heap y b) (h:Q (decide (x=y)) s):
  wpAny (model prog w) A (eqBool (.ref a) (.ref b)) Q E s:=by
 unfold eqBool
 try with_reducible refine wpAny_holding ?_
 show wpAny _ _ (if (Value.ref a==Value.ref b)=true then _ else _) Q E s
 by_cases hab:(Value.ref a==Value.ref b)=true
 ·rw [if_pos hab]
  have e:a=b:=by have:=eq_of_beq hab;injection this
  subst e
  obtain rfl:=hx.inj hy
  exact wpAny_bind (wpAny_rule (wpAny_pure (by simpa using h)))
 ·rw [if_neg hab]
  exact wpAny_bind (wpAny_richCompare_same_room (op:=.Eq) hx.typeIs hy.typeIs F.slot_tuple_eq
   (wpAny_call_entry F.slot_tuple_eq hx.typeIs F.entry_tuple_eq (Kt (by show A.units+1<cLine;omega) hsh hx hy ⟨_,rfl,(fun e=>nomatch e),wpAny_truthy_bool h⟩) (F.args_tuple_eq_2 _ _)) (by omega))
end
abbrev Xv (K:Type):=List K×K×K
def EF {K:Type} (k:Xv K):List (kI K):=[.inr k.1,.inl k.2.1,.inl k.2.2]
theorem ND {K:Type} {a b:Xv K} (h:EF a=EF b):a=b:=by
 obtain ⟨a1,a2,a3⟩:=a
 obtain ⟨b1,b2,b3⟩:=b
 unfold EF at h
 injection h with h1 h
 injection h with h2 h
 injection h with h3 _
 injection h1 with h1
 injection h2 with h2
 injection h3 with h3
 subst h1 h2 h3
 rfl
def uX {prog:Program} {w:World} {K:Type} [DecidableEq K] (knd:KeyKind prog w K):HeapKind prog w (Xv K) where
 is:=fun h k a=>mR knd h (EF k) a
 hash:=fun k=>FW knd (EF k)
 draws:=fun k=>((EF k).map FV).sum+1
 room:=fun A=>A.units+2<cLine
 inj:=fun hx hy=>ND (hx.inj hy)
 keeps:=fun x ho hd hs=>x.keeps ho hd hs
 pyHash:=fun hu hk h=>BL hu hk h
 eqBool:=fun {A E s x y a b Q} hu hx hy h=>BM (x:=EF x) (y:=EF y) hu (show Shape (EF x) (EF y) from rfl) hx hy (by
  have e:decide (EF x=EF y)=decide (x=y):=decide_eq_decide.mpr ⟨ND,fun e=>by rw [e]⟩
  rw [e];exact h)
 quiet:=fun hk h=>Qi hk h
open Sem (wp)
section
variable {prog:Program} {w:World} {K:Type} [DecidableEq K] {knd:HeapKind prog w K} {A:Around} {E:Value->Shared->Prop} {s:Shared} {d a:Addr} {k:K} {xs:List (K×Addr×Value)}
theorem CT {α β:Type} (f:α->β):∀ (l:List α) (j:Nat),(l.map f).eraseIdx j=(l.eraseIdx j).map f
 | [],_=>rfl
 | _::_,0=>rfl
 | x::l,j+1=>by
  show f x::(l.map f).eraseIdx j=f x::(l.eraseIdx j).map f
  rw [CT f l j]
theorem Ku {j:Nat} {p:Addr×Value} {Q:Option DictEntry->Shared->Prop} (hu:knd.room A) (Hz:knd.is s.heap k a) (hm:s.heap.DictOfH knd d xs) (hj:xs[j]?=some (k,p)) (hsz:xs.length<=sizeLine)
  (acx:∀ h',h'.DictOfH knd d (xs.eraseIdx j)->dk d s.heap h'->Q (some (entryOfKey knd (k,p))) { s with heap:=h',toks:=s.toks+knd.draws k }):
  wpAny (model prog w) A (Builtin.Dict.takeOut d (.ref a)) Q E s:=by
 obtain ⟨o,es,ep,ho,hc,hd,he,his,hn⟩:=hm
 unfold Builtin.Dict.takeOut
 try with_reducible refine wpAny_holding ?_
 refine wpAny_bind (knd.pyHash hu Hz ?_)
 refine wpAny_bind (wpAny_dictFind_heap (s:={ s with toks:=s.toks+knd.draws k }) hu Hz ho hd he his hn ?_ ?_)
 ·intro tG
  exact absurd hj (tG j p)
 ·intro j' p' ZJ
  obtain rfl:j'=j:=idxH_unique hn ZJ hj
  rw [hj] at ZJ
  cases ZJ
  refine wpAny_bind (wpAny_dictEntries (s:={ s with toks:=s.toks+knd.draws k }) ho hd ?_)
  rw [entry_at he j',hj]
  have hes:es.size<=sizeLine:=by rw [size_of_entries he];exact hsz
  refine wpAny_bind (wpAny_updateDictKeys (hz:=hes) (s:={ s with toks:=s.toks+knd.draws k }) ho hd (wpAny_pure (acx _ ⟨_,_,ep+1,Heap.get?_update_self _ ho (Obj.isFreed_of_dict (Obj.data_mapDictKeys hd _)),
   hc.mapDictKeys _,Obj.data_mapDictKeys hd _,?_,?_,?_⟩ (dk.update ..))))
  ·rw [<- CT,<-he]
   obtain ⟨l⟩:=es
   simp
  ·intro x hx
   exact knd.keeps (his x (List.mem_of_mem_eraseIdx hx)) ho hd (dk.update ..)
  ·rw [<- CT]
   exact hn.sublist (List.eraseIdx_sublist ..)
theorem Va (knd:HeapKind prog w K) (d a:Addr):
  MeetsIn prog w (Builtin.«dict.pop» ⟨[.ref d,.ref a],[]⟩) (fun A R s=>knd.room A.in1/\∃ k xs j p,knd.is s.heap k a/\s.heap.DictOfH knd d xs/\xs.length<=sizeLine/\xs[j]?=some (k,p)/\
   ∀ h',h'.DictOfH knd d (xs.eraseIdx j)->dk d s.heap h'->R (.ok (.ret p.2)) { s with heap:=h',toks:=s.toks+knd.draws k }):=
 .of_wp fun A R s ⟨hu,k,xs,j,p,Hz,hm,hsz,hj,h⟩=>by
  unfold Builtin.«dict.pop»
  refine wpAny_bind ?_
  unfold Builtin.Dict.keyAndDefault
  refine wpAny_bind (wpAny_notOrdered_dict hm.typeIs ?_)
  show wpAny _ _ (pure (d,Value.ref a,none)) _ _ s
  refine wpAny_pure ?_
  have acy:(keyPart (Value.ref a)).isSome=false:=rfl
  simp only [acy,bW,if_false]
  obtain ⟨o,es,ep,ho,hc,hd,he,his,hn⟩:=id hm
  refine wpAny_bind (wpAny_dictEntries ho hd (wpAny_bind (wpAny_pure ?_)))
  have tH:es.isEmpty=false:=by
   have e:=size_of_entries he
   have iX:=(aH.mp hj).1
   rw [Array.isEmpty_eq_false_iff]
   intro z
   rw [z] at e
   simp at e
   omega
  simp only [tH,bW,if_false]
  refine wpAny_bind (Ku hu Hz hm hj hsz fun h' hm' hs'=>?_)
  simp only [Option.isNone_some,bW,if_false]
  exact wpAny_bind (wpAny_letGo (wpAny_pure ⟨p.2,rfl,h h' hm' hs'⟩))
end
end TS
namespace TS
open PySem PyProof.Rows
open Sem (wp)
open AutoSeq1 (wpAny_loadPart')
abbrev BN (t:Tok):List (Str×Value):=[(Str.ofString "start",.int 1 t)]
theorem xj (l:Addr) (items:Array Value) (n:Nat) (dct:Option Addr) (sl:Array (Option Value)) (t:Tok):
  Meets (Builtin.«enumerate.__new__» ⟨[.type "enumerate",.ref l],BN t⟩) (fun _ R s=>s.heap.get? l=some { cls:=.type "list",dict:=dct,data:=.seq items n,slots:=sl }/\
   R (.ok (.ret (.ref (s.heap.push { cls:=.type "list_iterator",data:=.fields #[.ref l,.int 0 0] }).objs.size)))
    { s with heap:=(s.heap.push { cls:=.type "list_iterator",data:=.fields #[.ref l,.int 0 0] }).push { cls:=.type "enumerate",data:=.fields #[.none,.bool false,.ref s.heap.objs.size,rawInt 1,.none,.none] } }):=
 .of_wp fun prog w A R s h=>by
  obtain ⟨hp,g,d,tk,os⟩:=s;obtain ⟨hl,h⟩:=h
  have af4:=sub_enumerate
  have hL:Heap.IsList (Shared.heap ⟨hp,g,d,tk,os⟩) l items:=⟨_,hl,rfl,n,rfl⟩
  wp_walk using wpAny_loadPart' hl
  refine wpAny_stack_any fun st=>wpAny_pure ?_
  split
  ·rename_i c _ _ _ _ _
   cases (c==Value.type "enumerate")
   ·wp_walk using wpAny_loadPart' hl,wpAny_pyIter_list hL
    exact ⟨_,rfl,h⟩
   ·wp_walk using wpAny_loadPart' hl,wpAny_pyIter_list hL
    exact ⟨_,rfl,h⟩
  ·wp_walk using wpAny_loadPart' hl,wpAny_pyIter_list hL
   exact ⟨_,rfl,h⟩
section
variable {prog:Program} {w:World} {A:Around} {E:Value->Shared->Prop} {s:Shared}
theorem EG {T newId Qj:String} {Bn Bi:Builtin} {args:List Value} {kw:List (Str×Value)} {S:PySem.Spec} {Q ZK:Value->Shared->Prop} (ft:TypeCalled T newId Qj)
  (hct:checkTypeCall T ⟨args,kw⟩=pure ()) (hcn:checkBuiltinCall newId ⟨.type T::args,kw⟩=pure ())
  (ZL:entryFor table newId=some Bn) (ZM:entryFor table Qj=some Bi) (g:Meets (Bn ⟨.type T::args,kw⟩) S)
  (h:S A.in1 (wants ZK E) s)
  (acB:∀ obj cY,ZK obj cY->cY.TypeIs obj T/\argsOk Qj ⟨obj::args,kw⟩/\∃ Si,Meets (Bi ⟨obj::args,kw⟩) Si/\Si A.in1 (wants (fun r qA=>r=.none/\Q obj qA) E) cY):
  wpAny (model prog w) A (call (.type T) args kw) Q E s:=by
 obtain ⟨c,tl,akV⟩:=ft.mro
 have aiv:=ft.made
 have af4:=ft.sub
 refine wpAny_call (codeAny_of_tree ?_)
 show wpAny _ _ (callAny (.type T) _) _ _ _
 refine wpAny_pure ⟨Code.quiet_builtin _ (by decide +kernel),codeAny_builtin F.entry_type_call ?_⟩
 rw [Around.under_plain (weight_type_call_type T args kw) (units_type_call_type T args kw)]
 have h1:=ft.notType
 have h2:=ft.canCreate
 repeat (any_goals (first | assumption | wp_step))
 refine codeAny_mono (codeAny_call_builtin ft.plain ZL (wpAny_of_eq hcn (g prog w A.in1 _ s h))) fun r cY hr=>?_
 cases r with
 | error e=>exact hr
 | ok fl=>
  cases fl with
  | ret obj=>
   obtain ⟨hT,cU,Si,gi,hsi⟩:=acB _ _ hr
   have hli:=ft.init.lookup
   have hbi:=ft.init.bind obj
   repeat (any_goals (first | assumption | wp_step))
   refine codeAny_mono (codeAny_call_builtin ft.init.plain ZM (ft.init.check _ _ _ _ _ _ _ _ hT cU (gi prog w A.in1 _ cY hsi))) fun af5 qA Vb=>?_
   cases af5 with
   | error e=>exact Vb
   | ok acC=>
    cases acC with
    | ret r=>
     obtain ⟨rfl,hq⟩:=Vb
     repeat (any_goals (first | assumption | wp_step))
    | _=>exact Vb.elim
  | _=>exact hr.elim
theorem Ap {T newId:String} {self:Value} {rest:List Value} {kw:List (Str×Value)} (hl:typeLookup (.type T) "__init__"=pure (some (.builtin "object.__init__")))
  (hm:Bind.madeBy (.type T)=pure (some newId)) (tH:(some newId != some "object.__new__")=true):
  Meets (Builtin.«object.__init__» ⟨self::rest,kw⟩) (fun _ R s=>s.TypeIs self T/\R (.ok (.ret .none)) s):=by
 refine Meets.of_wp fun prog w A R s hs=>?_
 obtain ⟨hT,hq⟩:=hs
 cases rest with
 | nil=>
  cases kw with
  | nil=>exact wpAny_pure ⟨_,rfl,hq⟩
  | cons a kw=>
   repeat (any_goals (first | assumption | wp_step))
   exact ⟨_,rfl,hq⟩
 | cons a rest=>
  repeat (any_goals (first | assumption | wp_step))
  exact ⟨_,rfl,hq⟩
theorem FX (a:Value) (t:Tok):checkTypeCall "enumerate" ⟨[a],BN t⟩=pure ():=by kernel_rfl
theorem HG (a:Value) (t:Tok):checkBuiltinCall "enumerate.__new__" ⟨[.type "enumerate",a],BN t⟩=pure ():=by kernel_rfl
theorem FY (a b:Value) (t:Tok):argsOk "object.__init__" ⟨[a,b],BN t⟩:=by unfold argsOk;kernel_rfl
theorem xF {l:Addr} {items:Array Value} {t:Tok} {Q:Value->Shared->Prop} (hL:s.heap.IsList l items)
  (h:∀ h',IsEnum h' (s.heap.objs.size+1) s.heap.objs.size 1 .none->h'.IsListIter s.heap.objs.size l 0->h'.objs.size=s.heap.objs.size+2->
   (∀ b o,s.heap.get? b=some o->h'.get? b=some o)->Q (.ref (s.heap.objs.size+1)) { s with heap:=h' }):
  wpAny (model prog w) A (call (.type "enumerate") [.ref l] (BN t)) Q E s:=by
 obtain ⟨⟨c,dct,dt,sl⟩,hl,hc,n,hd⟩:=hL
 replace hc:c=.type "list":=hc
 replace hd:dt=.seq items n:=hd
 subst hc hd
 refine EG (ZK:=fun obj cY=>cY.TypeIs obj "enumerate"/\Q obj cY) F.called_enumerate (FX _ t) (HG _ t) F.entry_enumerate_new F.entry_object_init (xj l items n dct sl t) ⟨hl,?_⟩
  fun obj _ hq=>⟨hq.1,FY obj _ t,_,Ap F.called_enumerate.init.lookup F.called_enumerate.made (by decide),hq.1,rfl,hq.2⟩
 have hz:(s.heap.push { cls:=.type "list_iterator",data:=.fields #[.ref l,.int 0 0] }).objs.size=s.heap.objs.size+1:=cR ..
 show _/\_
 rw [hz]
 have he:IsEnum ((s.heap.push { cls:=.type "list_iterator",data:=.fields #[.ref l,.int 0 0] }).push
   { cls:=.type "enumerate",data:=.fields #[.none,.bool false,.ref s.heap.objs.size,rawInt 1,.none,.none] }) (s.heap.objs.size+1) s.heap.objs.size 1 .none:=by
  have:=aQ (s.heap.push { cls:=.type "list_iterator",data:=.fields #[.ref l,.int 0 0] })
   (o:={ cls:=.type "enumerate",data:=.fields #[.none,.bool false,.ref s.heap.objs.size,rawInt 1,.none,.none] }) rfl
  rw [hz] at this;exact this
 refine ⟨⟨_,he,rfl⟩,h _ he ⟨_,aA _ (aQ _ rfl),rfl,rfl⟩ (by rw [cR,hz]) fun b o x=>aA _ (aA _ x)⟩
theorem EH {pos:Pos} {T:String} {args:List (Bool×Sem Value)} {keywords:List (Option Str×Sem Value)} {Q:Value->Shared->Prop}
  (Fx:args.any (·.1)=false) (hkw:keywords.any (·.1.isNone)=false)
  (h:wpAny (model prog w) A (evalArgs (.type T) true args keywords) (fun a cY=>wpAny (model prog w) A (call (.type T) a.pos a.kw) Q E cY) E s):
  wpAny (model prog w) A (callWith pos (.type T) [] args keywords) Q E s:=by
 unfold callWith
 refine wpAny_bind (wpAny_holding (wpAny_mono h (fun a cY Sw=>wpAny_bind (wpAny_standAt ?_)) fun _ _ x=>x))
 simp only [Fx,hkw,Bool.or_false]
 refine wpAny_bind (wpAny_pure ?_)
 exact wpAny_bind (wpAny_mono Sw (fun r qA hr=>wpAny_bind (wpAny_holding (wpAny_point (wpAny_pure hr)))) fun _ _ x=>x)
end
end TS
namespace TS
open PySem PySem.Spec PyProof.Rows L2
def GV (mg:Str->Option Value) (x:Str) (v:V):Prop:=∃ u,mg x=some u/\RelV v u
theorem eX {X:Cx} {x:Str} {v:V} {pos:Pos} (hg:Gl X x) (hm:GV X.mg x v) (hd:(x==("__debug__":Str))=false:=by decide):PE X (.Name x pos) (tC v):=by
 intro pins s σ H Q I h
 obtain ⟨u,hm,r⟩:=hm
 exact ET I hg hm ⟨v,H,I,r,h⟩ hd
def KTup (K:ab) (a:Addr) (xs:List V):Prop:=∃ (o:Obj) (cq:Array Value) (n:Nat),K.lookup a=some o/\o.cls=.type "tuple"/\o.dict=none/\o.data=.seq cq n/\cq.size<=sizeLine/\Vals xs cq.toList
theorem KTup.sq {K:ab} {a:Addr} {xs:List V} (h:KTup K a xs) (H:Hp):oX K H a xs:=by
 obtain ⟨o,cq,n,h1,h2,_,h3,h4,h5⟩:=h
 exact .inr ⟨o,cq,n,h1,h2,h3,h4,h5⟩
def Xw (K:ab) (a:Addr) (rows:List (Int×(V->Prop))):Prop:=
 (a==sysModules)=false/\∃ (o:Obj) (es:Array DictEntry) (ep:Nat) (us:List (Int×Tok×Value)),K.lookup a=some o/\o.ExactDict/\o.data=.dict es ep/\es.toList=us.map (fun q=>(⟨hashInt q.1,.int q.1 q.2.1,q.2.2⟩:DictEntry))/\
  Paired (fun (p:Int×(V->Prop)) (q:Int×Tok×Value)=>p.1=q.1/\∃ v,RelV v q.2.2/\p.2 v) rows us/\(rows.map (·.1)).Nodup
abbrev vN (n:Nat):V:=.int (n:Int)
theorem aM.new {H:Hp} {p:Addr} {o:HO} (h:H p=none):aM H (upd H p o):=fun b u e=>by
 rw [aD (aV e h)];exact e
theorem aM.cZ {H H':Hp} {p:Addr} {o:HO} (e:aM H H') (h:H p=none):aM H (upd H' p o):=fun b u q=>by
 rw [aD (aV q h)];exact e b u q
theorem take_snoc {α:Type} {l:List α} {i:Nat} {x:α} (h:l[i]?=some x):l.take (i+1)=l.take i++[x]:=by
 rw [List.take_succ,h];rfl
def Xx (K:ab):V->List V->Hp->VK->Prop:=fun x xs H Q=>∃ (a:Addr) (ns:List Int) (k:Int),x=V.ref a/\xs=[.int k]/\bO K H a (ns.map V.int)/\Q (.int (ns.count k:Nat)) H
theorem rP {X:Cx}:Ss X "list.count" (Xx X.K):=by
 intro pins s σ H x xs v us Q I rx rxs h
 obtain ⟨a,ns,k,rfl,rfl,hs,q⟩:=h
 cases rx
 obtain ⟨u,rfl,t,rfl⟩:=vals1 rxs
 obtain ⟨cq,rv,pl,_⟩:=I.list hs
 exact count_list_ints pl.isList rv.ints ⟨.int _,H,I.tok _,⟨_,rfl⟩,q⟩
theorem sr {K:ab} {a:Addr} {xs ys:List V} {g:TG} {te:TE} {vs:List Nat} {σ:L2.St} {H1:Hp} {D:Addr} {Qd:Hp->Prop} (hD:H1 D=none) (hx:bO K H1 a xs) (hl:ys.length=xs.length) (hz:ys.length<=sizeLine)
  (hs:∀ (i:Nat) (x y:V) (H:Hp) (R:V->Hp->Prop),xs[i]?=some x->ys[i]?=some y->aM H1 H->(∀ H4,aM H H4->R y H4)->g x (wipe σ vs) H fun kH H2=>wipe kH vs=wipe σ vs/\te kH H2 R)
  (hd:∀ H,aM H1 H->H D=some (.lst ys)->Qd H):
  ∃ W:Nat->Nat->Hp->Prop,(∃ m,W 0 m (upd H1 D (.lst [])))/\∀ i m H,W i m H->
   ((Uj K a).stop i H/\Qd H)\/((Uj K a).go i H/\∃ Nx:Hp->Prop,(∀ H',Nx H'->∃ m',m'<m/\W (i+1) m' H')/\∀ x H',(Uj K a).Pz i H x H'->g x (wipe σ vs) H' fun kH H2=>wipe kH vs=wipe σ vs/\PU kH H2 fun b H3=>
    if b=true then te kH H3 fun y H4=>∃ acc,H4 D=some (.lst acc)/\acc.length<sizeLine/\Nx (upd H4 D (.lst (acc++[y]))) else Nx H3):=by
 refine Xd (K:=K) (a:=a) (xs:=xs) (tt:=PU) (fun i H=>aM H1 H/\H D=some (.lst (ys.take i))) ⟨aM.new hD,ae⟩ (fun i H _ p=>p.1.seq hx) (fun i x H hi p=>?_) fun H p=>?_
 ·have iX:i<ys.length:=by rw [hl];exact (aH.mp hi).1
  have hy:ys[i]?=some ys[i]:=a7 iX
  simp only [PU,↓reduceIte]
  refine hs i x ys[i] H _ hi hy p.1 fun H4 s4=>?_
  refine ⟨ys.take i,s4 _ _ p.2,?_,?_,?_⟩
  ·rw [bK];omega
  ·exact aM.cZ (p.1.trans s4) hD
  ·rw [ae,take_snoc hy]
 ·refine hd H p.1 ?_
  have e:=p.2
  rw [<- hl,cA] at e
  exact e
theorem ZN {K:ab} {a b:Addr} {xs ys:List V} {g:TG} {tt:TT} {te:TE} {vs:List Nat} {σ:L2.St} {H1:Hp} {D:Addr} {Qd:Hp->Prop} (Pv:Nat->Hp->Prop) (h0:Pv 0 (upd H1 D (.lst []))) (hl:∀ i H,Pv i H->bO K H a xs/\bO K H b ys)
  (hs:∀ (i:Nat) (x y:V) (H:Hp) (T:Addr),xs[i]?=some x->ys[i]?=some y->Pv i H->H T=none->g (.ref T) (wipe σ vs) (upd H T (.tup [x,y])) fun kH H2=>wipe kH vs=wipe σ vs/\tt kH H2 fun b H3=>
   if b=true then te kH H3 fun y H4=>∃ acc,H4 D=some (.lst acc)/\acc.length<sizeLine/\Pv (i+1) (upd H4 D (.lst (acc++[y]))) else Pv (i+1) H3) (hd:∀ H,Pv (min xs.length ys.length) H->Qd H):
  ∃ W:Nat->Nat->Hp->Prop,(∃ m,W 0 m (upd H1 D (.lst [])))/\∀ i m H,W i m H->
   ((Itz K a b).stop i H/\Qd H)\/((Itz K a b).go i H/\∃ Nx:Hp->Prop,(∀ H',Nx H'->∃ m',m'<m/\W (i+1) m' H')/\∀ x H',(Itz K a b).Pz i H x H'->g x (wipe σ vs) H' fun kH H2=>wipe kH vs=wipe σ vs/\tt kH H2 fun b H3=>
    if b=true then te kH H3 fun y H4=>∃ acc,H4 D=some (.lst acc)/\acc.length<sizeLine/\Nx (upd H4 D (.lst (acc++[y]))) else Nx H3):=by
 refine ⟨fun i m H=>m=min xs.length ys.length - i/\i<=min xs.length ys.length/\Pv i H,⟨_,rfl,a0 _,h0⟩,?_⟩
 rintro i m H ⟨rfl,hi,p⟩
 obtain ⟨q1,q2⟩:=hl i H p
 by_cases iX:i<min xs.length ys.length
 ·have h1:i<xs.length:=by omega
  have h2:i<ys.length:=by omega
  refine .inr ⟨⟨xs,ys,xs[i],ys[i],q1,q2,a7 h1,a7 h2⟩,Pv (i+1),fun H' p'=>⟨_,by omega,rfl,iX,p'⟩,fun x H' y=>?_⟩
  obtain ⟨T,x1,y1,e1,hT,e2,k1,k2⟩:=y
  subst e1 e2
  exact hs i x1 y1 H T (k1 xs q1) (k2 ys q2) p hT
 ·have e:i=min xs.length ys.length:=by omega
  subst e
  exact .inl ⟨⟨xs,ys,q1,q2,by omega⟩,hd H p⟩
theorem Kv {X:Cx} {pos:Pos} {K:ab} {es:List Expr} {k:Nat} {t:Yp} (n:Nat) (hc:X.calm=true) (h:PGs X es t) (hK:X.K=K:=by rfl)
  (hn:(assignEach es X.env).length=n:=by rfl) (Pj:(assignEach es X.env).findIdx? (·.1)=none:=by rfl):PG X (.Tuple es k pos) (abP K n t):=by
 subst hK
 exact Y8 hc h hn Pj
theorem fk {α β:Type} {F:α->β->Prop}:∀ {l:List α} {m:List β} {i:Nat} {a:α},Paired F l m->l[i]?=some a->∃ b,m[i]?=some b/\F a b
 | _,_,_,_,.nil,h=>by simp at h
 | _,_,0,a,.cons r _,h=>⟨_,rfl,by have e:=aj.inj h;rw [<- e];exact r⟩
 | _,_,i+1,a,.cons _ q,h=>by
  obtain ⟨b,h1,h2⟩:=fk (i:=i) (a:=a) q h
  exact ⟨b,h1,h2⟩
def Aq (H:Hp) (B:Addr) (tw:List (List Nat)):Prop:=∃ as:List Addr,H B=some (.lst (as.map V.ref))/\Paired (fun a c=>H a=some (.lst (c.map vN))) as tw
theorem Aq.same {H H':Hp} {B:Addr} {tw:List (List Nat)} (h:Aq H B tw) (s:aM H H'):Aq H' B tw:=by
 obtain ⟨as,h1,h2⟩:=h
 exact ⟨as,s _ _ h1,h2.mono fun a c q=>s _ _ q⟩
structure rj (H0 H:Hp) (B:Addr) (tw:List (List Nat)):Prop where
 same:aM H0 H
 free:H0 B=none
 at_:∃ as:List Addr,H B=some (.lst (as.map V.ref))/\Paired (fun a c=>a≠B/\H a=some (.lst (c.map vN))) as tw
theorem rj.start {H:Hp} {B:Addr} (h:H B=none):rj H (upd H B (.lst [])) B []:=⟨aM.new h,h,[],ae,.nil⟩
theorem rj.on {H0 H H':Hp} {B:Addr} {tw:List (List Nat)} (g:rj H0 H B tw) (s:aM H H'):rj H0 H' B tw:=by
 obtain ⟨as,h1,h2⟩:=g.at_
 exact ⟨g.same.trans s,g.free,as,s _ _ h1,h2.mono fun a c q=>⟨q.1,s _ _ q.2⟩⟩
theorem rj.ll {H0 H:Hp} {B:Addr} {tw:List (List Nat)} (g:rj H0 H B tw):Aq H B tw:=by
 obtain ⟨as,h1,h2⟩:=g.at_
 exact ⟨as,h1,h2.mono fun a c q=>q.2⟩
theorem rj.more {H0 H H':Hp} {B p:Addr} {tw:List (List Nat)} {c:List Nat} (g:rj H0 H B tw) (s:aM H H') (hp:H' p=some (.lst (c.map vN))) (hn:p≠B) (hz:tw.length<sizeLine):
  ∃ xs,H' B=some (.lst xs)/\xs.length<sizeLine/\rj H0 (upd H' B (.lst (xs++[V.ref p]))) B (tw++[c]):=by
 obtain ⟨as,h1,h2⟩:=g.at_
 refine ⟨as.map V.ref,s _ _ h1,by rw [U,h2.length];exact hz,aM.cZ (g.same.trans s) g.free,g.free,as++[p],?_,?_⟩
 ·rw [ae,aX];rfl
 ·exact (h2.mono fun a c q=>⟨q.1,by rw [aD q.1];exact s _ _ q.2⟩).snoc ⟨hn,by rw [aD hn];exact hp⟩
theorem Qk (xs:List V) (j:Nat):qe xs none (some (j:Int))=xs.take j:=by
 unfold qe
 rw [HT.M0,HT.EW,List.drop_zero,Nat.sub_zero]
 by_cases h:j<=xs.length
 ·rw [rg h]
 ·rw [Nat.min_eq_right (by omega),cA,cI (by omega)]
theorem FZ (xs:List V) (j:Nat):qe xs (some (j:Int)) none=xs.drop j:=by
 unfold qe
 rw [HT.M0,HT.EW]
 by_cases h:j<=xs.length
 ·rw [rg h,cI (by rw [dh];omega)]
 ·rw [Nat.min_eq_right (by omega),me,oP (by omega)];simp
theorem TY {xs:List V} {z:Int} {j:Nat} {v:V} (e:z=(j:Int)) (h:xs[j]?=some v):M8 xs z=some v:=at_of e h
def Xy (tk tv:TE):TE:=fun σ H Q=>∀ p,H p=none->tk σ (upd H p (.dT [])) fun x H1=>tv σ H1 fun y H2=>∃ (b:Addr) (k:List Key),x=.ref b/\H2 b=some (.tup (k.map kV))/\H2 p=some (.dT [])/\Q (.ref p) (upd H2 p (.dT [(k,y)]))
theorem SS {X:Cx} {k v:Expr} {pos:Pos} {tk tv:TE} (hu:X.A.units+1<cLine) (hk:PE X k tk) (hv:PE X v tv):PE X (.Dict [some k] [v] pos) (Xy tk tv):=by
 intro pins s σ H Q I q
 have hn:=I.cU.fresh (au s.heap.objs.size)
 have I1:=I.laid (a:=s.heap.objs.size) (o:=.dT []) (h':=s.heap.push { cls:=.type "dict",data:=.dict #[] }) (t':=s.toks) (fun _ _ q=>aA _ q) (au _) (Nh s.heap I.big)
 rw [arm_eval_Dict,zip_pairTrees [some k] [v] X.env pos rfl rfl,dictDisplay_pairs _ (by simp [pairTrees]) (by show 1<17;decide)]
 refine wpAny_bind (wpAny_standAt (wpAny_bind ?_))
 unfold subDict
 refine wpAny_bind (wpAny_alloc ?_)
 refine wpAny_bind (wpAny_holding ?_)
 rw [if_pos (by show 1<=15;decide)]
 refine wpAny_bind (pairTrees_cons_walk (f9 (hk pins _ σ _ _ I1 (q _ hn)) fun kv s1 ⟨x,H1,J1,rx,q1⟩=>f9 (hv pins s1 σ H1 _ J1 q1) fun vv s2 ⟨y,H2,J2,ry,q2⟩=>pairTrees_nil_walk ?_))
 obtain ⟨b,kk,ex,hb,hp,q3⟩:=q2
 subst ex
 cases (show kv=Value.ref b from rx)
 refine wpAny_holding ?_
 rw [rb]
 obtain ⟨z,hd,xs,rel,dd⟩:=Ry J2.cU hp
 cases rel
 dsimp only
 refine wpAny_bind (wpAny_bind (wpAny_bind (wpAny_dictSet_heap (knd:=tupleKind (dQ X.prog X.w)) (show X.A.units<cLine by omega) (Al J2.cU hb) dd (fun h' WJ hs=>wpAny_pure ?_) (by show 0<=sizeLine;exact a0 _))))
 dsimp only
 rw [List.forIn_nil]
 refine wpAny_pure (wpAny_pure (wpAny_pure (wpAny_pure ?_)))
 obtain ⟨ob,es,ep,hq,h2,h3,h4,_,h5⟩:=WJ
 refine ⟨.ref s.heap.objs.size,_,BA (ob:=.dT [(kk,y)]) J2 (by rw [hp];exact True.intro) hs ⟨ob,hq⟩ ⟨by show 1<=sizeLine;decide,hd,_,(KT.put (kvs:=[]) (xs:=[]) .nil kk hb ry).keeps (fun c ys ec=>?_),ob,es,ep,hq,h2,h3,h4,h5⟩,rfl,q3⟩
 rw [aD (dX ec hp (fun z=>nomatch z))]
 exact ec
def bh (ex:List Addr) (H H':Hp):Prop:=∀ b o,H b=some o->b∉ex->H' b=some o
theorem bh.of {ex:List Addr} {H H':Hp} (s:aM H H'):bh ex H H':=fun b o e _=>s b o e
theorem bh.trans {ex:List Addr} {H H1 H2:Hp} (a:bh ex H H1) (b:bh ex H1 H2):bh ex H H2:=fun c o e n=>b c o (a c o e n) n
theorem bh.then {ex:List Addr} {H H1 H2:Hp} (a:bh ex H H1) (b:aM H1 H2):bh ex H H2:=fun c o e n=>b c o (a c o e n)
theorem bh.upd {ex:List Addr} {H H1:Hp} {p:Addr} {o:HO} (a:bh ex H H1) (h:p∈ex):bh ex H (upd H1 p o):=fun c u e n=>by
 rw [aD (fun q=>n (by rw [q];exact h))];exact a c u e n
theorem bh.cZ {ex:List Addr} {H H1:Hp} {p:Addr} {o:HO} (a:bh ex H H1) (h:H p=none):bh ex H (L2.upd H1 p o):=fun c u e n=>by
 rw [aD (aV e h)];exact a c u e n
theorem bh.mono {ex ex':List Addr} {H H1:Hp} (a:bh ex H H1) (h:∀ x∈ex,x∈ex'):bh ex' H H1:=fun c u e n=>a c u e fun m=>n (h c m)
theorem bh.nil {H H1:Hp} (a:bh [] H H1):aM H H1:=fun c u e=>a c u e (by simp)
theorem bh.drop {x:Addr} {ex:List Addr} {H H1:Hp} (a:bh (x::ex) H H1) (h:H x=none):bh ex H H1:=fun c u e n=>a c u e fun m=>by
 rcases aw.mp m with q | q
 ·exact aV e h q
 ·exact n q
theorem bh.seq {K:ab} {ex:List Addr} {H H':Hp} {a:Addr} {xs:List V} (e:bh ex H H') (n:a∉ex) (h:bO K H a xs):bO K H' a xs:=by
 rcases h with (h | ⟨o,h⟩) | h
 ·exact .inl (.inl (e _ _ h n))
 ·exact .inl (.inr ⟨o,e _ _ h n⟩)
 ·exact .inr h
theorem RP {H:Hp} {a b:Addr} {c:List Nat} {as:List Addr} (h:H a=some (.lst (c.map vN))) (hc:c≠[]) (h':H b=some (.lst (as.map V.ref))):a≠b:=by
 refine dX h h' fun q=>?_
 have q:=HO.lst.inj q
 cases c with
 | nil=>exact hc rfl
 | cons x c=>
  cases as with
  | nil=>cases q
  | cons y as=>exact nomatch (pU.inj q).1
end TS
namespace TS
theorem af6 {c A B:Prop} [Decidable c] (hc:c) (h:A):if c then A else B:=by rw [if_pos hc];exact h
end TS
namespace TS
open PySem PySem.Spec PyProof.Rows L2
section
variable {X:Cx} {K:ab}
theorem Kw {e:Expr} {f:Str} {pos:Pos} {ta:TE} (hK:X.K=K) (he:PE X e ta) (hb:attributeBase e f X.env (eval e X.env)=eval e X.env):PE X (.Attribute e f pos) (abZ K ta f):=by subst hK;exact bb he hb
theorem BO (hK:X.K=K):IxR X (W5 K):=by subst hK;exact bI
theorem Kx (hK:X.K=K):IxR X (Zg K):=by subst hK;exact fS
theorem SU (hK:X.K=K):Ss X "list.index" (UB K):=by subst hK;exact Fz
theorem ZO {o e:Expr} {es:List Expr} {to:TE} {t:TA} {name:Str} {apos mr:Pos} {T id:String} {r:V->List V->Hp->VK->Prop} (hK:X.K=K) (pa:PlainAttrs T) (slot:Slot T name id) (WH:typeOf (.builtin id)=pure (.type "method_descriptor")) (hm:Ss X id r) (ho:PE X o to) (ha:PA X (e::es) t)
  (qf:attributeBase o name X.env (eval o X.env)=eval o X.env:=by rfl)
  (xi:((backTo mr (starEach (e::es) X.env)).all (fun x=>!x.1)&&(backToKw mr (keywordEach [] X.env)).all (fun x=>x.1.isSome)
   && decide ((e::es).length+([]:List Keyword).length+(if ([]:List Keyword).isEmpty then 0 else 1)<30))=true:=by rfl)
  (qg:(apos.endLine==mr.line)=true:=by rfl) (hs:starEach (e::es) X.env=(false,eval e X.env)::starEach es X.env:=by rfl) (Fx:(backTo mr (starEach es X.env)).any (·.1)=false:=by rfl):
  PE X (.Call (.Attribute o name apos) (e::es) [] mr) (tBM K T r to t):=by subst hK;exact gG pa slot WH hm ho ha qf xi qg hs Fx
end
theorem gR {X:Cx} (i:Nat) {x:Str} {e:Expr} {te:TE} {pos pos':Pos} (hN:X.N.Nodup) (he:PE X e te) (hi:X.N[i]?=some x:=by rfl) (hx:Loc X.env.scope x:=by first | exact Or.inl rfl | exact Or.inr rfl) (hs:swapsWith e (some (.Name x pos')) pos.line X.env=pure false:=by rfl)
  (hf:X.fn x=true\/X.env.scope.names.lookup x=some .local:=by first | exact .inl rfl | exact .inr rfl | assumption):PS X (.Assign [.Name x pos'] e pos) (Y9 te (Jc i)):=Y_ hN hi hx he hs hf
theorem uY {X:Cx} (i:Nat) {x:Str} {pos:Pos} (hN:X.N.Nodup) (hi:X.N[i]?=some x:=by rfl) (hx:Loc X.env.scope x:=by first | exact Or.inl rfl | exact Or.inr rfl)
  (hf:X.fn x=true\/X.env.scope.names.lookup x=some .local:=by first | exact .inl rfl | exact .inr rfl | assumption):PG X (.Name x pos) (Jc i):=WV hN hi hx hf
theorem iY {N P:List Str} {sc:Scope} (h1:sc.kind=.function:=by rfl) (h2:sc.isCoroutine=false:=by rfl) (h3:sc.isGenerator=false:=by rfl) (h4:N.Nodup:=by decide +kernel) (h5:N.take P.length=P:=by rfl) (h6:∀ x∈P,sc.names.lookup x=some .local\/sc.names.lookup x=some .cell:=by decide +kernel) (h7:∀ y∈sc.names,y.2≠.free:=by decide +kernel):a4 N P sc:=⟨h1,h2,h3,h4,h5,h6,h7⟩
section
variable {K:ab} {x qual a b c d:Str} {st:Stmt} {f:Addr} {fd:FuncData}
theorem MN (F:cJ K x qual st f fd) (h:∀ (kV doc pm:Value) (an:Option Addr) (eW ct u1:Value),bindArgs (dW x qual (ou st) (jG st) (aE st) .none kV doc pm an eW ct) ⟨[u1],[]⟩=pure [(a,u1)]:=by intro _ _ _ _ _ _ _;rfl):Binds K fd [a] []:=
 F.binds (ps:=[a]) fun v1 v2 v3 v4 v5 v6 us hl=>match us,hl with | [u1],_=>h v1 v2 v3 v4 v5 v6 u1
theorem qC (F:cJ K x qual st f fd) (h:∀ (kV doc pm:Value) (an:Option Addr) (eW ct u1 u2:Value),bindArgs (dW x qual (ou st) (jG st) (aE st) .none kV doc pm an eW ct) ⟨[u1,u2],[]⟩=pure [(a,u1),(b,u2)]:=by intro _ _ _ _ _ _ _ _;rfl):Binds K fd [a,b] []:=
 F.binds (ps:=[a,b]) fun v1 v2 v3 v4 v5 v6 us hl=>match us,hl with | [u1,u2],_=>h v1 v2 v3 v4 v5 v6 u1 u2
theorem YB (F:cJ K x qual st f fd) (h:∀ (kV doc pm:Value) (an:Option Addr) (eW ct u1 u2 u3:Value),bindArgs (dW x qual (ou st) (jG st) (aE st) .none kV doc pm an eW ct) ⟨[u1,u2,u3],[]⟩=pure [(a,u1),(b,u2),(c,u3)]:=by intro _ _ _ _ _ _ _ _ _;rfl):Binds K fd [a,b,c] []:=
 F.binds (ps:=[a,b,c]) fun v1 v2 v3 v4 v5 v6 us hl=>match us,hl with | [u1,u2,u3],_=>h v1 v2 v3 v4 v5 v6 u1 u2 u3
theorem ZP (F:cJ K x qual st f fd) (h:∀ (kV doc pm:Value) (an:Option Addr) (eW ct u1 u2 u3 u4:Value),bindArgs (dW x qual (ou st) (jG st) (aE st) .none kV doc pm an eW ct) ⟨[u1,u2,u3,u4],[]⟩=pure [(a,u1),(b,u2),(c,u3),(d,u4)]:=by intro _ _ _ _ _ _ _ _ _ _;rfl):Binds K fd [a,b,c,d] []:=
 F.binds (ps:=[a,b,c,d]) fun v1 v2 v3 v4 v5 v6 us hl=>match us,hl with | [u1,u2,u3,u4],_=>h v1 v2 v3 v4 v5 v6 u1 u2 u3 u4
end
theorem szA:1<=sizeLine:=by decide
theorem szB:2<=sizeLine:=by decide
theorem cxK {CX P w K mg base N qual scope f cd A outer s H E}:(Cx.nox (PL CX P w K mg base N qual scope f cd A outer s H E)).K=K:=rfl
def top (i:Nat):Stmt:=PySem.Challenge.pw_teamsail_s01_answers.main.body.getD i (.Pass ⟨0,0,0,0⟩)
abbrev mS:Stmt:=top 1
abbrev o6:Stmt:=top 2
abbrev t_:Stmt:=top 3
abbrev vo:Stmt:=top 4
abbrev Ky:Stmt:=top 5
abbrev xG:Stmt:=top 6
abbrev ua:Stmt:=top 7
abbrev vp:Stmt:=top 8
abbrev qD:Stmt:=top 9
abbrev qE:Stmt:=inClass (top 12) 0
abbrev Ar:Stmt:=top 13
abbrev ub:Stmt:=top 14
abbrev As:Stmt:=top 15
abbrev xH:Stmt:=top 16
abbrev sv:Stmt:=top 17
abbrev xI:Stmt:=top 18
abbrev xJ:Stmt:=top 19
abbrev CU:Stmt:=top 20
abbrev Au:Stmt:=top 21
abbrev uc:Stmt:=top 22
abbrev ud:Stmt:=top 23
abbrev o7:Stmt:=top 24
abbrev Av:Stmt:=top 25
abbrev xK:Stmt:=top 26
abbrev xM:Stmt:=top 27
abbrev Aw:Stmt:=top 28
abbrev vq:Stmt:=top 38
abbrev CV:Stmt:=top 39
abbrev Ax:Stmt:=top 40
abbrev Ay:Stmt:=top 41
abbrev qF:Stmt:=top 42
abbrev xN:Stmt:=top 43
abbrev ue:Stmt:=top 44
abbrev vt:Stmt:=top 45
abbrev uf:Stmt:=top 46
abbrev Az:Stmt:=top 47
abbrev vw:Stmt:=top 48
abbrev xO:Stmt:=top 49
abbrev xP:Stmt:=top 50
abbrev AA:Stmt:=top 51
abbrev xQ:Stmt:=top 55
abbrev Ql:Stmt:=top 56
abbrev qG:Stmt:=top 57
abbrev CW:Stmt:=top 58
abbrev ow:Stmt:=inClass (top 65) 0
abbrev kJ:Stmt:=top 66
abbrev AB:Stmt:=top 67
abbrev iG:Stmt:=top 68
abbrev AD:Stmt:=top 69
abbrev xR:Stmt:=top 70
abbrev qH:Stmt:=top 71
abbrev gj:Stmt:=top 72
abbrev xS:Stmt:=top 73
abbrev AE:Stmt:=top 74
abbrev vx:Stmt:=top 75
abbrev AF:Stmt:=top 76
abbrev xT:Stmt:=top 77
abbrev qI:Stmt:=inClass (top 92) 0
abbrev s_load:Stmt:=top 93
abbrev xU:Stmt:=top 94
abbrev ug:Stmt:=top 95
abbrev vz:Stmt:=top 96
abbrev xV:Stmt:=top 97
abbrev vA:Stmt:=top 98
abbrev uh:Stmt:=top 99
abbrev vB:Stmt:=top 100
abbrev vC:Stmt:=top 101
abbrev xW:Stmt:=top 102
abbrev xX:Stmt:=top 103
abbrev sx:Stmt:=top 104
abbrev vD:Stmt:=top 105
abbrev xY:Stmt:=top 106
abbrev ui:Stmt:=top 107
abbrev xZ:Stmt:=top 108
abbrev x3:Stmt:=top 109
abbrev x4:Stmt:=top 110
abbrev x5:Stmt:=top 111
abbrev CY:Stmt:=top 112
abbrev AG:Stmt:=top 113
abbrev uj:Stmt:=top 114
abbrev vE:Stmt:=top 115
abbrev x6:Stmt:=top 116
abbrev vF:Stmt:=top 119
abbrev F0:Stmt:=top 120
abbrev CZ:Stmt:=top 121
set_option genInjectivity false in
structure uZ where
 dZ:Addr
 fm:FuncData
 fo:Addr
 gC:FuncData
 iH:Addr
 j4:FuncData
 jH:Addr
 lR:FuncData
 vG:Addr
 zu:FuncData
 kK:Addr
 nq:FuncData
 iI:Addr
 j5:FuncData
 jI:Addr
 lS:FuncData
 fT:Addr
 gU:FuncData
 eZ:Addr
 gW:FuncData
 mT:Addr
 o8:FuncData
 iJ:Addr
 j6:FuncData
 mU:Addr
 o9:FuncData
 kL:Addr
 nr:FuncData
 gL:Addr
 i7:FuncData
 kM:Addr
 nt:FuncData
 kN:Addr
 nu:FuncData
 o_:Addr
 rQ:FuncData
 mV:Addr
 pb:FuncData
 iK:Addr
 j7:FuncData
 iL:Addr
 j8:FuncData
 fq:Addr
 gD:FuncData
 mW:Addr
 ph:FuncData
 kO:Addr
 nv:FuncData
 kP:Addr
 ny:FuncData
 mX:Addr
 pk:FuncData
 jJ:Addr
 lT:FuncData
 pq:Addr
 rR:FuncData
 mY:Addr
 pw:FuncData
 mZ:Addr
 px:FuncData
 fU:Addr
 gX:FuncData
 kQ:Addr
 nz:FuncData
 iM:Addr
 j9:FuncData
 fz:Addr
 lU:FuncData
 eO:Addr
 j_:FuncData
 iN:Addr
 pz:FuncData
 fA:Addr
 lV:FuncData
 gk:Addr
 nE:FuncData
 gn:Addr
 nF:FuncData
 iO:Addr
 pA:FuncData
 kR:Addr
 nG:FuncData
 AH:Addr
 C0:FuncData
 fV:Addr
 gY:FuncData
 pB:Addr
 rS:FuncData
 dG:Addr
 fP:FuncData
 dn:Addr
 d9:FuncData
 m3:Addr
 pC:FuncData
 gM:Addr
 iP:FuncData
 jK:Addr
 kS:FuncData
 g9:Addr
 jk:FuncData
 dR:Addr
 e7:FuncData
 gp:Addr
 g_:FuncData
 kT:Addr
 nH:FuncData
 m4:Addr
 pD:FuncData
 jL:Addr
 lW:FuncData
 m5:Addr
 pE:FuncData
 kU:Addr
 nJ:FuncData
 e8:Addr
 gZ:FuncData
 AI:Addr
 C1:FuncData
 dH:Addr
 kW:FuncData
 c_:Addr
 ka:FuncData
 dv:Addr
 lX:FuncData
 d_:Addr
 nL:FuncData
 dw:Addr
 lY:FuncData
 da:Addr
 kb:FuncData
 dy:Addr
 lZ:FuncData
 dz:Addr
 l4:FuncData
 ed:Addr
 nM:FuncData
 ef:Addr
 nN:FuncData
 gN:Addr
 i8:FuncData
 dA:Addr
 l5:FuncData
 ek:Addr
 nO:FuncData
 dc:Addr
 kc:FuncData
 kX:Addr
 nQ:FuncData
 er:Addr
 nR:FuncData
 eC:Addr
 nT:FuncData
 eD:Addr
 nU:FuncData
 pF:Addr
 rT:FuncData
 fu:Addr
 pG:FuncData
 dg:Addr
 ke:FuncData
 dB:Addr
 l6:FuncData
 eE:Addr
 nV:FuncData
 jM:Addr
 l7:FuncData
 sy:Addr
 u0:FuncData
 kh:Addr
 nW:FuncData
 aF:Addr
 a5:Addr
 fJ:Addr
 x8:Addr
 fQ:Addr
 gq:Addr
 sA:Addr
 rG:Addr
 pZ:Addr
 vH:Addr
 tN:Addr
 kY:Addr
structure Txt (K:ab) (mg:Str->Option Value) (t:uZ):Prop where
 cM:cJ K "all_combinations" "all_combinations" mS t.dZ t.fm
 jN:mg "all_combinations"=some (.ref t.dZ)
 eF:cJ K "is_combination" "is_combination" o6 t.fo t.gC
 u5:mg "is_combination"=some (.ref t.fo)
 fB:cJ K "team_points" "team_points" t_ t.iH t.j4
 uk:mg "team_points"=some (.ref t.iH)
 hE:cJ K "tie_result" "tie_result" vo t.jH t.lR
 BP:mg "tie_result"=some (.ref t.jH)
 mJ:cJ K "judge" "judge" Ky t.vG t.zu
 zw:mg "judge"=some (.ref t.vG)
 jl:cJ K "team_wins" "team_wins" xG t.kK t.nq
 DY:mg "team_wins"=some (.ref t.kK)
 gr:cJ K "one_pass_on" "one_pass_on" ua t.iI t.j5
 z8:mg "one_pass_on"=some (.ref t.iI)
 hU:cJ K "next_level" "next_level" vp t.jI t.lS
 BQ:mg "next_level"=some (.ref t.jI)
 dS:cJ K "fewest_passes" "fewest_passes" qD t.fT t.gU
 qJ:mg "fewest_passes"=some (.ref t.fT)
 fW:cJ K "__init__" "Game.__init__" qE t.eZ t.gW
 iQ:cJ K "teams_of" "teams_of" Ar t.mT t.o8
 vI:mg "teams_of"=some (.ref t.mT)
 dq:cJ K "judge_order" "judge_order" ub t.iJ t.j6
 ki:mg "judge_order"=some (.ref t.iJ)
 iR:cJ K "moves_at" "moves_at" As t.mU t.o9
 vJ:mg "moves_at"=some (.ref t.mU)
 hZ:cJ K "moves_now" "moves_now" xH t.kL t.nr
 x9:mg "moves_now"=some (.ref t.kL)
 dM:cJ K "order_behind" "order_behind" sv t.gL t.i7
 ox:mg "order_behind"=some (.ref t.gL)
 jm:cJ K "make_move" "make_move" xI t.kM t.nt
 DZ:mg "make_move"=some (.ref t.kM)
 jn:cJ K "take_back" "take_back" xJ t.kN t.nu
 D0:mg "take_back"=some (.ref t.kN)
 l8:cJ K "is_boat" "is_boat" CU t.o_ t.rQ
 C2:mg "is_boat"=some (.ref t.o_)
 kZ:cJ K "is_order" "is_order" Au t.mV t.pb
 F1:mg "is_order"=some (.ref t.mV)
 eP:cJ K "counterpart" "counterpart" uc t.iK t.j7
 p6:mg "counterpart"=some (.ref t.iK)
 dr:cJ K "forget_past" "forget_past" ud t.iL t.j8
 kj:mg "forget_past"=some (.ref t.iL)
 eG:cJ K "exchange_teams" "exchange_teams" o7 t.fq t.gD
 u6:mg "exchange_teams"=some (.ref t.fq)
 k4:cJ K "add_pair" "add_pair" Av t.mW t.ph
 F2:mg "add_pair"=some (.ref t.mW)
 jo:cJ K "drop_pair" "drop_pair" xK t.kO t.nv
 D5:mg "drop_pair"=some (.ref t.kO)
 jq:cJ K "set_order" "set_order" xM t.kP t.ny
 D7:mg "set_order"=some (.ref t.kP)
 k5:cJ K "set_left" "set_left" Aw t.mX t.pk
 F3:mg "set_left"=some (.ref t.mX)
 fC:cJ K "boat_names" "boat_names" vq t.jJ t.lT
 rH:mg "boat_names"=some (.ref t.jJ)
 nX:cJ K "sign_of" "sign_of" CV t.pq t.rR
 JB:mg "sign_of"=some (.ref t.pq)
 k6:cJ K "words_of" "words_of" Ax t.mY t.pw
 F4:mg "words_of"=some (.ref t.mY)
 k7:cJ K "lines_of" "lines_of" Ay t.mZ t.px
 F5:mg "lines_of"=some (.ref t.mZ)
 e9:cJ K "means_nothing" "means_nothing" qF t.fU t.gX
 xa:mg "means_nothing"=some (.ref t.fU)
 gu:cJ K "number_of" "number_of" xN t.kQ t.nz
 tO:mg "number_of"=some (.ref t.kQ)
 fD:cJ K "may_be_left" "may_be_left" ue t.iM t.j9
 um:mg "may_be_left"=some (.ref t.iM)
 h9:cJ K "take_boats" "take_boats" vt t.fz t.lU
 Kz:mg "take_boats"=some (.ref t.fz)
 gv:cJ K "take_points" "take_points" uf t.eO t.j_
 HH:mg "take_points"=some (.ref t.eO)
 k8:cJ K "take_tie" "take_tie" Az t.iN t.pz
 Qm:mg "take_tie"=some (.ref t.iN)
 h_:cJ K "take_order" "take_order" vw t.fA t.lV
 KA:mg "take_order"=some (.ref t.fA)
 jr:cJ K "take_turn" "take_turn" xO t.gk t.nE
 NF:mg "take_turn"=some (.ref t.gk)
 js:cJ K "take_left" "take_left" xP t.gn t.nF
 NG:mg "take_left"=some (.ref t.gn)
 k9:cJ K "take_can" "take_can" AA t.iO t.pA
 Qn:mg "take_can"=some (.ref t.iO)
 jt:cJ K "take_line" "take_line" xQ t.kR t.nG
 D8:mg "take_line"=some (.ref t.kR)
 x_:cJ K "fill" "fill" Ql t.AH t.C0
 Vc:mg "fill"=some (.ref t.AH)
 e_:cJ K "written_lines" "written_lines" qG t.fV t.gY
 xc:mg "written_lines"=some (.ref t.fV)
 nY:cJ K "written" "written" CW t.pB t.rS
 JC:mg "written"=some (.ref t.pB)
 eS:cJ K "__init__" "Search.__init__" ow t.dG t.fP
 cV:cJ K "too_many_positions" "too_many_positions" kJ t.dn t.d9
 qh:mg "too_many_positions"=some (.ref t.dn)
 jO:cJ K "rank_for" "rank_for" AB t.m3 t.pC
 AJ:mg "rank_for"=some (.ref t.m3)
 k_:cJ K "best_for" "best_for" iG t.gM t.iP
 m6:mg "best_for"=some (.ref t.gM)
 iS:cJ K "value_at" "value_at" AD t.jK t.kS
 vK:mg "value_at"=some (.ref t.jK)
 ia:cJ K "new_value" "new_value" xR t.g9 t.jk
 D9:mg "new_value"=some (.ref t.g9)
 c4:cJ K "values_behind" "values_behind" qH t.dR t.e7
 jV:mg "values_behind"=some (.ref t.dR)
 tP:cJ K "best_move" "best_move" gj t.gp t.g_
 ya:mg "best_move"=some (.ref t.gp)
 ju:cJ K "value_now" "value_now" xS t.kT t.nH
 D_:mg "value_now"=some (.ref t.kT)
 lg:cJ K "best_now" "best_now" AE t.m4 t.pD
 F6:mg "best_now"=some (.ref t.m4)
 ib:cJ K "values_now" "values_now" vx t.jL t.lW
 BR:mg "values_now"=some (.ref t.jL)
 jP:cJ K "play_out" "play_out" AF t.m5 t.pE
 AK:mg "play_out"=some (.ref t.m5)
 jv:cJ K "best_line" "best_line" xT t.kU t.nJ
 Ea:mg "best_line"=some (.ref t.kU)
 fX:cJ K "__init__" "Desk.__init__" qI t.e8 t.gZ
 vL:cJ K "load" "load" s_load t.AI t.C1
 Qo:mg "load"=some (.ref t.AI)
 ic:cJ K "call_text" "call_text" xU t.dH t.kW
 NH:mg "call_text"=some (.ref t.dH)
 gw:cJ K "call_result" "call_result" ug t.c_ t.ka
 HI:mg "call_result"=some (.ref t.c_)
 ie:cJ K "call_combs" "call_combs" vz t.dv t.lX
 KC:mg "call_combs"=some (.ref t.dv)
 jw:cJ K "call_wins" "call_wins" xV t.d_ t.nL
 NI:mg "call_wins"=some (.ref t.d_)
 ig:cJ K "call_judge" "call_judge" vA t.dw t.lY
 KD:mg "call_judge"=some (.ref t.dw)
 gx:cJ K "call_passes" "call_passes" uh t.da t.kb
 HJ:mg "call_passes"=some (.ref t.da)
 ij:cJ K "call_table" "call_table" vB t.dy t.lZ
 KG:mg "call_table"=some (.ref t.dy)
 ik:cJ K "call_moves" "call_moves" vC t.dz t.l4
 KH:mg "call_moves"=some (.ref t.dz)
 jx:cJ K "call_move" "call_move" xW t.ed t.nM
 NJ:mg "call_move"=some (.ref t.ed)
 jy:cJ K "call_undo" "call_undo" xX t.ef t.nN
 NM:mg "call_undo"=some (.ref t.ef)
 c5:cJ K "goal_refusal" "goal_refusal" sx t.gN t.i8
 i9:mg "goal_refusal"=some (.ref t.gN)
 il:cJ K "call_value" "call_value" vD t.dA t.l5
 KI:mg "call_value"=some (.ref t.dA)
 jz:cJ K "call_best" "call_best" xY t.ek t.nO
 NN:mg "call_best"=some (.ref t.ek)
 gy:cJ K "call_values" "call_values" ui t.dc t.kc
 HK:mg "call_values"=some (.ref t.dc)
 ip:cJ K "told_play" "told_play" xZ t.kX t.nQ
 yb:mg "told_play"=some (.ref t.kX)
 jA:cJ K "call_line" "call_line" x3 t.er t.nR
 NO:mg "call_line"=some (.ref t.er)
 jB:cJ K "call_duel" "call_duel" x4 t.eC t.nT
 NP:mg "call_duel"=some (.ref t.eC)
 jC:cJ K "call_swap" "call_swap" x5 t.eD t.nU
 NQ:mg "call_swap"=some (.ref t.eD)
 l9:cJ K "is_pair" "is_pair" CY t.pF t.rT
 C3:mg "is_pair"=some (.ref t.pF)
 lh:cJ K "call_can" "call_can" AG t.fu t.pG
 Qp:mg "call_can"=some (.ref t.fu)
 gz:cJ K "call_cannot" "call_cannot" uj t.dg t.ke
 HL:mg "call_cannot"=some (.ref t.dg)
 iq:cJ K "call_order" "call_order" vE t.dB t.l6
 KJ:mg "call_order"=some (.ref t.dB)
 jD:cJ K "call_left" "call_left" x6 t.eE t.nV
 NR:mg "call_left"=some (.ref t.eE)
 ir:cJ K "read_calls" "read_calls" vF t.jM t.l7
 BS:mg "read_calls"=some (.ref t.jM)
 qi:cJ K "answer" "answer" F0 t.sy t.u0
 NS:mg "answer"=some (.ref t.sy)
 pH:cJ K "answers" "answers" CZ t.kh t.nW
 SV:mg "answers"=some (.ref t.kh)
 aI:So K t.aF
 Vd:Mk K t.aF t.eZ
 RQ:mg "Game"=some (.ref t.aF)
 bM:iF K t.aF "boats"
 cG:iF K t.aF "points"
 dI:iF K t.aF "tie"
 bN:iF K t.aF "order"
 cg:iF K t.aF "turn"
 bZ:iF K t.aF "left"
 cu:iF K t.aF "pairs"
 eT:iF K t.aF "past"
 g0:So K t.a5
 yc:Mk K t.a5 t.dG
 u7:mg "Search"=some (.ref t.a5)
 eU:iF K t.a5 "game"
 fK:iF K t.a5 "goal"
 dU:iF K t.a5 "known"
 zx:So K t.fJ
 Ve:Mk K t.fJ t.e8
 RR:mg "Desk"=some (.ref t.fJ)
 fE:iF K t.fJ "game"
 F7:mg "any"=none
 nZ:mg "enumerate"=none
 F8:mg "int"=none
 f_:mg "len"=none
 AL:mg "list"=none
 F9:mg "max"=none
 JD:mg "min"=none
 F_:mg "ord"=none
 jQ:mg "range"=none
 qj:mg "sorted"=none
 BU:mg "str"=none
 JE:mg "sum"=none
 rJ:mg "tuple"=none
 JF:mg "zip"=none
 BV:GV mg "LET_BY" (.int 100)
 Ga:GV mg "LINE_END" (.int 10)
 NT:GV mg "REMARK" (.int 35)
 Eb:GV mg "MOST_LEFT" (.int 20)
 z9:GV mg "MOST_DIGITS" (.int 4)
 Vf:GV mg "TIES" (.ref t.x8)
 Vg:KTup K t.x8 [(.str (Str.ofString "draw")),(.str (Str.ofString "first")),(.str (Str.ofString "last"))]
 u9:GV mg "LETTERS" (.ref t.fQ)
 rV:KTup K t.fQ [(.str (Str.ofString "R")),(.str (Str.ofString "B"))]
 RS:GV mg "SIGNS" (.str (Str.ofString " 0123456789BRabcdefghijklmnopqrstuvwxyz"))
 JG:GV mg "NO_SIGN" (.str (Str.ofString "?"))
 z_:GV mg "FIRST_WORDS" (.ref t.gq)
 Aa:KTup K t.gq [(.str (Str.ofString "boats")),(.str (Str.ofString "points")),(.str (Str.ofString "tie")),(.str (Str.ofString "order")),(.str (Str.ofString "turn")),(.str (Str.ofString "left")),(.str (Str.ofString "can"))]
 NU:GV mg "TAKERS" (.ref t.sA)
 NV:KTup K t.sA [(.ref t.fz),(.ref t.eO),(.ref t.iN),(.ref t.fA),(.ref t.gk),(.ref t.gn),(.ref t.iO)]
 yd:GV mg "LAST_KIND" (.int 6)
 u_:GV mg "MOST_POSITIONS" (.int 100000)
 pI:GV mg "WORST_FROM_NOW" (.int 1)
 qK:GV mg "BEST_FROM_NOW" (.int 2)
 KL:GV mg "RANKS" (.ref t.rG)
 RT:KTup K t.rG [(.int 1),(.int 2),(.int 0)]
 JH:GV mg "NO_TEAM" (.int (-1))
 BW:GV mg "MOST_BYTES" (.int 2000)
 AM:GV mg "NO_MATCH" (.int (-1))
 fL:GV mg "OUT_OF_RANGE" (.int (-2))
 mD:GV mg "NOT_ALLOWED" (.int (-3))
 uo:GV mg "NOTHING_NEW" (.int (-4))
 qL:GV mg "NO_TURNS_LEFT" (.int (-5))
 tQ:GV mg "NOTHING_TO_UNDO" (.int (-6))
 qk:GV mg "TOO_MANY_POSITIONS" (.int (-7))
 xf:GV mg "TEXT_TOO_LONG" (.int (-8))
 BX:GV mg "WRONG_LINE" (.int (-1000))
 Qq:GV mg "LOAD" (.int 0)
 BY:GV mg "TEAMS" (.ref t.pZ)
 BZ:KTup K t.pZ [(.int 0),(.int 1)]
 RU:GV mg "GOALS" (.ref t.vH)
 RV:KTup K t.vH [(.int 0),(.int 1),(.int 2)]
 RW:GV mg "FORMS" (.ref t.tN)
 RX:Xw K t.tN [(0,fun u=>∃ a,u=.ref a/\KTup K a [(.int 0),(.int 1)]),(1,fun u=>∃ a,u=.ref a/\KTup K a [(.int 0),(.int 0)]),(2,fun u=>∃ a,u=.ref a/\KTup K a [(.int 0),(.int 0)]),(3,fun u=>∃ a,u=.ref a/\KTup K a [(.int 0),(.int 0)]),(4,fun u=>∃ a,u=.ref a/\KTup K a [(.int 0),(.int 0)]),(5,fun u=>∃ a,u=.ref a/\KTup K a [(.int 0),(.int 1)]),(6,fun u=>∃ a,u=.ref a/\KTup K a [(.int 1),(.int 0)]),(7,fun u=>∃ a,u=.ref a/\KTup K a [(.int 1),(.int 0)]),(8,fun u=>∃ a,u=.ref a/\KTup K a [(.int 0),(.int 0)]),(9,fun u=>∃ a,u=.ref a/\KTup K a [(.int 1),(.int 0)]),(10,fun u=>∃ a,u=.ref a/\KTup K a [(.int 0),(.int 0)]),(11,fun u=>∃ a,u=.ref a/\KTup K a [(.int 1),(.int 0)]),(12,fun u=>∃ a,u=.ref a/\KTup K a [(.int 1),(.int 0)]),(13,fun u=>∃ a,u=.ref a/\KTup K a [(.int 1),(.int 0)]),(14,fun u=>∃ a,u=.ref a/\KTup K a [(.int 1),(.int 0)]),(15,fun u=>∃ a,u=.ref a/\KTup K a [(.int 2),(.int 1)]),(16,fun u=>∃ a,u=.ref a/\KTup K a [(.int 0),(.int 0)]),(17,fun u=>∃ a,u=.ref a/\KTup K a [(.int 2),(.int 0)]),(18,fun u=>∃ a,u=.ref a/\KTup K a [(.int 2),(.int 0)]),(19,fun u=>∃ a,u=.ref a/\KTup K a [(.int 0),(.int 1)]),(20,fun u=>∃ a,u=.ref a/\KTup K a [(.int 2),(.int 0)])]
 AN:GV mg "CARRIERS" (.ref t.kY)
 Gb:Xw K t.kY [(1,fun u=>u=(.ref t.dH)),(2,fun u=>u=(.ref t.c_)),(3,fun u=>u=(.ref t.dv)),(4,fun u=>u=(.ref t.d_)),(5,fun u=>u=(.ref t.dw)),(6,fun u=>u=(.ref t.da)),(7,fun u=>u=(.ref t.dy)),(8,fun u=>u=(.ref t.dz)),(9,fun u=>u=(.ref t.ed)),(10,fun u=>u=(.ref t.ef)),(11,fun u=>u=(.ref t.dA)),(12,fun u=>u=(.ref t.ek)),(13,fun u=>u=(.ref t.dc)),(14,fun u=>u=(.ref t.er)),(15,fun u=>u=(.ref t.eC)),(16,fun u=>u=(.ref t.eD)),(17,fun u=>u=(.ref t.fu)),(18,fun u=>u=(.ref t.dg)),(19,fun u=>u=(.ref t.dB)),(20,fun u=>u=(.ref t.eE))]
section
variable {K:ab} {mg:Str->Option Value} {t:uZ}
theorem dF:a4 ["boats","rows","place","longer","row","team"] ["boats"] (aE mS):=iY
theorem m7 (T:Txt K mg t):Binds K t.fm ["boats"] []:=MN T.cM
theorem B0:a4 ["row","boats"] ["row","boats"] (aE o6):=iY
theorem C4 (T:Txt K mg t):Binds K t.gC ["row","boats"] []:=qC T.eF
theorem oy:a4 ["points","teams","team","worth","holder"] ["points","teams","team"] (aE t_):=iY
theorem Ab (T:Txt K mg t):Binds K t.j4 ["points","teams","team"] []:=YB T.fB
theorem Ac:a4 ["tie","teams","loser"] ["tie","teams"] (aE vo):=iY
theorem KN (T:Txt K mg t):Binds K t.lR ["tie","teams"] []:=qC T.hE
theorem Gd:a4 ["points","tie","teams","first","second"] ["points","tie","teams"] (aE Ky):=iY
theorem B1 (T:Txt K mg t):Binds K t.zu ["points","tie","teams"] []:=YB T.mJ
theorem KO:a4 ["points","tie","teams","team"] ["points","tie","teams","team"] (aE xG):=iY
theorem NW (T:Txt K mg t):Binds K t.nq ["points","tie","teams","team"] []:=ZP T.jl
theorem sC:a4 ["teams","team","behind","k"] ["teams","team"] (aE ua):=iY
theorem HN (T:Txt K mg t):Binds K t.j5 ["teams","team"] []:=qC T.gr
theorem p7:a4 ["level","team","seen","reached","teams","behind"] ["level","team","seen"] (aE vp):=iY
theorem KP (T:Txt K mg t):Binds K t.lS ["level","team","seen"] []:=YB T.hU
theorem eI:a4 ["points","tie","teams","team","level","seen","count","reached"] ["points","tie","teams","team"] (aE qD):=iY
theorem xg (T:Txt K mg t):Binds K t.gU ["points","tie","teams","team"] []:=ZP T.dS
theorem C5:a4 ["self"] ["self"] (aE qE):=iY
theorem EI (T:Txt K mg t):Binds K t.gW ["self"] []:=MN T.fW
theorem ye:a4 ["game","order","boat"] ["game","order"] (aE Ar):=iY
theorem AO (T:Txt K mg t):Binds K t.o8 ["game","order"] []:=qC T.iQ
theorem Ge:a4 ["game","order"] ["game","order"] (aE ub):=iY
theorem mE (T:Txt K mg t):Binds K t.j6 ["game","order"] []:=qC T.dq
theorem ql:a4 ["game","order","turn","teams","moves","k"] ["game","order","turn"] (aE As):=iY
theorem AQ (T:Txt K mg t):Binds K t.o9 ["game","order","turn"] []:=YB T.iR
theorem KQ:a4 ["game"] ["game"] (aE xH):=iY
theorem Ec (T:Txt K mg t):Binds K t.nr ["game"] []:=MN T.hZ
theorem xh:a4 ["order","move","k"] ["order","move"] (aE sv):=iY
theorem sF (T:Txt K mg t):Binds K t.i7 ["order","move"] []:=qC T.dM
theorem KR:a4 ["game","move"] ["game","move"] (aE xI):=iY
theorem NX (T:Txt K mg t):Binds K t.nt ["game","move"] []:=qC T.jm
theorem B2:a4 ["game","before"] ["game"] (aE xJ):=iY
theorem NY (T:Txt K mg t):Binds K t.nu ["game"] []:=MN T.jn
theorem Qr:a4 ["game","number"] ["game","number"] (aE CU):=iY
theorem JI (T:Txt K mg t):Binds K t.rQ ["game","number"] []:=qC T.l8
theorem NZ:a4 ["game","row"] ["game","row"] (aE Au):=iY
theorem Qs (T:Txt K mg t):Binds K t.pb ["game","row"] []:=qC T.kZ
theorem Gf:a4 ["game","boat"] ["game","boat"] (aE uc):=iY
theorem uq (T:Txt K mg t):Binds K t.j7 ["game","boat"] []:=qC T.eP
theorem Gg:a4 ["game"] ["game"] (aE ud):=iY
theorem mF (T:Txt K mg t):Binds K t.j8 ["game"] []:=MN T.dr
theorem iu:a4 ["game","exchanged","pair","boat"] ["game"] (aE o7):=iY
theorem C6 (T:Txt K mg t):Binds K t.gD ["game"] []:=MN T.eG
theorem N1:a4 ["game","pair"] ["game","pair"] (aE Av):=iY
theorem Qt (T:Txt K mg t):Binds K t.ph ["game","pair"] []:=qC T.k4
theorem KS:a4 ["game","pair"] ["game","pair"] (aE xK):=iY
theorem N2 (T:Txt K mg t):Binds K t.nv ["game","pair"] []:=qC T.jo
theorem KU:a4 ["game","order"] ["game","order"] (aE xM):=iY
theorem N3 (T:Txt K mg t):Binds K t.ny ["game","order"] []:=qC T.jq
theorem N4:a4 ["game","turn","left"] ["game","turn","left"] (aE Aw):=iY
theorem Qu (T:Txt K mg t):Binds K t.pk ["game","turn","left"] []:=YB T.k5
theorem p8:a4 ["boats","names","letter","k"] ["boats"] (aE vq):=iY
theorem vM (T:Txt K mg t):Binds K t.lT ["boats"] []:=MN T.fC
theorem Gh:a4 ["byte","sign"] ["byte"] (aE CV):=iY
theorem SW (T:Txt K mg t):Binds K t.rR ["byte"] []:=MN T.nX
theorem yf:a4 ["line","byte"] ["line"] (aE Ax):=iY
theorem Qv (T:Txt K mg t):Binds K t.pw ["line"] []:=MN T.k6
theorem qm:a4 ["text","lines","line","byte"] ["text"] (aE Ay):=iY
theorem Qw (T:Txt K mg t):Binds K t.px ["text"] []:=MN T.k7
theorem C7:a4 ["line"] ["line"] (aE qF):=iY
theorem EJ (T:Txt K mg t):Binds K t.gX ["line"] []:=MN T.e9
theorem KW:a4 ["word"] ["word"] (aE xN):=iY
theorem yg (T:Txt K mg t):Binds K t.nz ["word"] []:=MN T.gu
theorem Gi:a4 ["turns"] ["turns"] (aE ue):=iY
theorem Ad (T:Txt K mg t):Binds K t.j9 ["turns"] []:=MN T.fD
theorem HP:a4 ["game","words"] ["game","words"] (aE vt):=iY
theorem KY (T:Txt K mg t):Binds K t.lU ["game","words"] []:=qC T.h9
theorem i_:a4 ["game","words","word","points","k"] ["game","words"] (aE uf):=iY
theorem HQ (T:Txt K mg t):Binds K t.j_ ["game","words"] []:=qC T.gv
theorem N5:a4 ["game","words"] ["game","words"] (aE Az):=iY
theorem Qx (T:Txt K mg t):Binds K t.pz ["game","words"] []:=qC T.k8
theorem p9:a4 ["game","words","names","word"] ["game","words"] (aE vw):=iY
theorem KZ (T:Txt K mg t):Binds K t.lV ["game","words"] []:=qC T.h_
theorem K0:a4 ["game","words"] ["game","words"] (aE xO):=iY
theorem N6 (T:Txt K mg t):Binds K t.nE ["game","words"] []:=qC T.jr
theorem K1:a4 ["game","words"] ["game","words"] (aE xP):=iY
theorem N7 (T:Txt K mg t):Binds K t.nF ["game","words"] []:=qC T.js
theorem yh:a4 ["game","words","names","pair"] ["game","words"] (aE AA):=iY
theorem Qy (T:Txt K mg t):Binds K t.pA ["game","words"] []:=qC T.k9
theorem rK:a4 ["game","taken","line","kind","words","take"] ["game","taken","line"] (aE xQ):=iY
theorem N8 (T:Txt K mg t):Binds K t.nG ["game","taken","line"] []:=YB T.jt
theorem zy:a4 ["game","text","lines","taken","number","line"] ["game","text"] (aE Ql):=iY
theorem ZQ (T:Txt K mg t):Binds K t.C0 ["game","text"] []:=qC T.x_
theorem eJ:a4 ["game","names","worth","boat","lines","pair"] ["game"] (aE qG):=iY
theorem EK (T:Txt K mg t):Binds K t.gY ["game"] []:=MN T.e_
theorem sG:a4 ["game","line","sign"] ["game"] (aE CW):=iY
theorem SX (T:Txt K mg t):Binds K t.rS ["game"] []:=MN T.nY
theorem AR:a4 ["self","game","goal"] ["self","game","goal"] (aE ow):=iY
theorem kC (T:Txt K mg t):Binds K t.fP ["self","game","goal"] []:=YB T.eS
theorem gP:a4 ["game","count","turn"] ["game"] (aE kJ):=iY
theorem yi (T:Txt K mg t):Binds K t.d9 ["game"] []:=MN T.cV
theorem N9:a4 ["team","result"] ["team","result"] (aE AB):=iY
theorem Gj (T:Txt K mg t):Binds K t.pC ["team","result"] []:=qC T.jO
theorem N_:a4 ["team","results"] ["team","results"] (aE iG):=iY
theorem pJ (T:Txt K mg t):Binds K t.iP ["team","results"] []:=qC T.k_
theorem Ed:a4 ["search","order","turn","left","position"] ["search","order","turn","left"] (aE AD):=iY
theorem AS (T:Txt K mg t):Binds K t.kS ["search","order","turn","left"] []:=ZP T.iS
theorem fF:a4 ["search","order","turn","left","now","pair","behind"] ["search","order","turn","left"] (aE xR):=iY
theorem Oa (T:Txt K mg t):Binds K t.jk ["search","order","turn","left"] []:=ZP T.ia
theorem pK:a4 ["search","order","turn","left","pairs","move"] ["search","order","turn","left"] (aE qH):=iY
theorem mK (T:Txt K mg t):Binds K t.e7 ["search","order","turn","left"] []:=ZP T.c4
theorem K2:a4 ["search","order","turn","left"] ["search","order","turn","left"] (aE gj):=iY
theorem Ee (T:Txt K mg t):Binds K t.g_ ["search","order","turn","left"] []:=ZP T.tP
theorem K3:a4 ["game","goal"] ["game","goal"] (aE xS):=iY
theorem Ob (T:Txt K mg t):Binds K t.nH ["game","goal"] []:=qC T.ju
theorem Ef:a4 ["game","goal","search"] ["game","goal"] (aE AE):=iY
theorem Qz (T:Txt K mg t):Binds K t.pD ["game","goal"] []:=qC T.lg
theorem HR:a4 ["game","goal"] ["game","goal"] (aE vx):=iY
theorem K4 (T:Txt K mg t):Binds K t.lW ["game","goal"] []:=qC T.ib
theorem fe:a4 ["game","goal","teller","row","search","order","turn","made","used","left","move"] ["game","goal","teller","row"] (aE AF):=iY
theorem Gk (T:Txt K mg t):Binds K t.pE ["game","goal","teller","row"] []:=ZP T.jP
theorem K5:a4 ["game","goal"] ["game","goal"] (aE xT):=iY
theorem Oc (T:Txt K mg t):Binds K t.nJ ["game","goal"] []:=qC T.jv
theorem C8:a4 ["self"] ["self"] (aE qI):=iY
theorem EL (T:Txt K mg t):Binds K t.gZ ["self"] []:=MN T.fX
theorem K6:a4 ["desk","text","game","wrong"] ["desk","text"] (aE s_load):=iY
theorem Vh (T:Txt K mg t):Binds K t.C1 ["desk","text"] []:=qC T.vL
theorem B3:a4 ["game","given","text"] ["game","given"] (aE xU):=iY
theorem Eg (T:Txt K mg t):Binds K t.kW ["game","given"] []:=qC T.ic
theorem Gm:a4 ["game","given"] ["game","given"] (aE ug):=iY
theorem HS (T:Txt K mg t):Binds K t.ka ["game","given"] []:=qC T.gw
theorem p_:a4 ["game","given","combinations","told","teams"] ["game","given"] (aE vz):=iY
theorem K7 (T:Txt K mg t):Binds K t.lX ["game","given"] []:=qC T.ie
theorem vO:a4 ["game","given","teams","results"] ["game","given"] (aE xV):=iY
theorem Od (T:Txt K mg t):Binds K t.nL ["game","given"] []:=qC T.jw
theorem Ae:a4 ["game","given","teams"] ["game","given"] (aE vA):=iY
theorem K8 (T:Txt K mg t):Binds K t.lY ["game","given"] []:=qC T.ig
theorem yj:a4 ["game","given","team"] ["game","given"] (aE uh):=iY
theorem HU (T:Txt K mg t):Binds K t.kb ["game","given"] []:=qC T.gx
theorem mG:a4 ["game","given","team","combinations","told","teams"] ["game","given"] (aE vB):=iY
theorem K9 (T:Txt K mg t):Binds K t.lZ ["game","given"] []:=qC T.ij
theorem Af:a4 ["game","given","moves"] ["game","given"] (aE vC):=iY
theorem K_ (T:Txt K mg t):Binds K t.l4 ["game","given"] []:=qC T.ik
theorem B4:a4 ["game","given","move"] ["game","given"] (aE xW):=iY
theorem Oe (T:Txt K mg t):Binds K t.nM ["game","given"] []:=qC T.jx
theorem La:a4 ["game","given"] ["game","given"] (aE xX):=iY
theorem Of (T:Txt K mg t):Binds K t.nN ["game","given"] []:=qC T.jy
theorem EM:a4 ["game","goal"] ["game","goal"] (aE sx):=iY
theorem lj (T:Txt K mg t):Binds K t.i8 ["game","goal"] []:=qC T.c5
theorem ur:a4 ["game","given","goal","refused"] ["game","given"] (aE vD):=iY
theorem Lb (T:Txt K mg t):Binds K t.l5 ["game","given"] []:=qC T.il
theorem vP:a4 ["game","given","goal","refused"] ["game","given"] (aE xY):=iY
theorem Og (T:Txt K mg t):Binds K t.nO ["game","given"] []:=qC T.jz
theorem ja:a4 ["game","given","goal","refused","pairs","told","pair"] ["game","given"] (aE ui):=iY
theorem HV (T:Txt K mg t):Binds K t.kc ["game","given"] []:=qC T.gy
theorem vQ:a4 ["game","play","moves","order"] ["game","play"] (aE xZ):=iY
theorem Eh (T:Txt K mg t):Binds K t.nQ ["game","play"] []:=qC T.ip
theorem vR:a4 ["game","given","goal","refused"] ["game","given"] (aE x3):=iY
theorem Oh (T:Txt K mg t):Binds K t.nR ["game","given"] []:=qC T.jA
theorem oz:a4 ["game","given","goal","team","refused","play"] ["game","given"] (aE x4):=iY
theorem Oi (T:Txt K mg t):Binds K t.nT ["game","given"] []:=qC T.jB
theorem Lc:a4 ["game","given"] ["game","given"] (aE x5):=iY
theorem Oj (T:Txt K mg t):Binds K t.nU ["game","given"] []:=qC T.jC
theorem QA:a4 ["game","pair"] ["game","pair"] (aE CY):=iY
theorem JJ (T:Txt K mg t):Binds K t.rT ["game","pair"] []:=qC T.l9
theorem Ei:a4 ["game","given","pair"] ["game","given"] (aE AG):=iY
theorem QB (T:Txt K mg t):Binds K t.pG ["game","given"] []:=qC T.lh
theorem yk:a4 ["game","given","pair"] ["game","given"] (aE uj):=iY
theorem HW (T:Txt K mg t):Binds K t.ke ["game","given"] []:=qC T.gz
theorem Ag:a4 ["game","given","order"] ["game","given"] (aE vE):=iY
theorem Ld (T:Txt K mg t):Binds K t.l6 ["game","given"] []:=qC T.iq
theorem vT:a4 ["game","given","team","left"] ["game","given"] (aE x6):=iY
theorem Ol (T:Txt K mg t):Binds K t.nV ["game","given"] []:=qC T.jD
theorem dN:a4 ["calls","pairs","at","number","form","given","k","size"] ["calls"] (aE vF):=iY
theorem Le (T:Txt K mg t):Binds K t.l7 ["calls"] []:=MN T.ir
theorem C9:a4 ["desk","number","given","carry_out"] ["desk","number","given"] (aE F0):=iY
theorem Vi (T:Txt K mg t):Binds K t.u0 ["desk","number","given"] []:=YB T.qi
theorem pL:a4 ["calls","desk","told","number","given","numbers"] ["calls"] (aE CZ):=iY
end
section
variable {X:Cx}
theorem ZR:PIp X .Mult (fun x y H Q=>∃ i j,x=.int i/\y=.int j/\WX i j/\Q (.int (i*j)) H):=by
 intro pins s σ H x y v u Q I r1 r2 h
 obtain ⟨i,j,e1,e2,hc,q⟩:=h
 subst e1;subst e2
 obtain ⟨t,rfl⟩:=r1
 obtain ⟨t',rfl⟩:=r2
 exact imul_int ⟨.int _,H,I.tok _,⟨_,rfl⟩,q⟩ hc.ok
theorem QC {o:Expr} {to:TE} {apos pos:Pos} (ho:PE X o to) (qf:attributeBase o "isdigit" X.env (eval o X.env)=eval o X.env:=by rfl) (qg:(apos.endLine==pos.line)=true:=by rfl):
  PE X (.Call (.Attribute o "isdigit" apos) [] [] pos) (tM0 (fun x xs H Q=>∃ a,x=.str a/\xs=[]/\True/\Q (.bl (Txt.isdigit a)) H) to):=
 acp F.slot_str_isdigit F.type_str_isdigit P_ ho qf qg
def Vj (K:ab):List V->Hp->VK->Prop:=fun vs H Q=>∃ (a:Addr) (ns:List Int),vs=[V.ref a]/\bO K H a (ns.map V.int)/\
 ∀ (WL:List Int) (p:Addr),WL.Perm ns->WL.Pairwise (·<=·)->H p=none->Q (.ref p) (upd H p (.lst (WL.map V.int)))
def SY (K:ab):List V->Hp->VK->Prop:=fun vs H Q=>∃ (a:Addr) (xs:List Str),vs=[V.ref a]/\bO K H a (xs.map V.str)/\
 ∀ (ys:List Str) (p:Addr),ys.Perm xs->sortedS ys=true->H p=none->Q (.ref p) (upd H p (.lst (ys.map V.str)))
theorem QD:r0 X (.builtin "sorted") (Vj X.K):=by
 intro pins s σ H vs us Q I r h
 obtain ⟨a,ns,rfl,hs,q⟩:=h
 obtain ⟨cq,rv,hl,hz⟩:=I.list hs
 rw [Vals.W9 r]
 have hi:=rv.ints
 have hz2:ns.length<=sizeLine:=by rw [U] at hz;exact hz
 refine PyProof.Rows.sorted_intsAny hl.isList hi (by rw [hi.length];exact hz2) fun out WL h1 h2 h3=>?_
 obtain ⟨ep,ZS⟩:=PyProof.Rows.sortedAll_at s.heap cq out
 have hlen:(WL.map V.int).length<=sizeLine:=by rw [U,h2.length_eq];exact hz2
 exact ⟨.ref _,upd H (s.heap.objs.size+1) (.lst (WL.map V.int)),I.laid (t':=s.toks) (fun _ _=>PyProof.Rows.sortedAll_old) (lF _) ⟨hlen,out.toList,ep,Bx h1,ZS⟩,rfl,q WL _ h2 h3 (I.cU.fresh (lF _))⟩
theorem Ej:r0 X (.builtin "sorted") (SY X.K):=by
 intro pins s σ H vs us Q I r h
 obtain ⟨a,xs,rfl,hs,q⟩:=h
 obtain ⟨cq,rv,hl,hz⟩:=I.list hs
 rw [Vals.W9 r]
 have YC:=rv.length
 rw [U] at YC hz
 refine PyProof.Rows.sorted_strsAny hl.isList rv.strs (by rw [<- YC];exact hz) fun out ys h1 h2 h3=>?_
 obtain ⟨ep,ZS⟩:=PyProof.Rows.sortedAll_at s.heap cq out
 have hlen:(ys.map V.str).length<=sizeLine:=by rw [U,h2.length_eq];exact hz
 exact ⟨.ref _,upd H (s.heap.objs.size+1) (.lst (ys.map V.str)),I.laid (t':=s.toks) (fun _ _=>PyProof.Rows.sortedAll_old) (lF _) ⟨hlen,out.toList,ep,By h1,ZS⟩,rfl,q ys _ h2 h3 (I.cU.fresh (lF _))⟩
theorem Om (n:Nat) (hn:n<=1000):Builtin.Range.small 0 (n:Int) 1=true:=by
 have hz:Builtin.Range.rangeSize 0 (n:Int) 1=n:=by
  unfold Builtin.Range.rangeSize
  simp
  omega
 have hf:∀ z:Int,0<=z->z<=1000->Builtin.Range.rangeFitsLong z=true:=fun z h1 h2=>by
  unfold Builtin.Range.rangeFitsLong
  simp
  omega
 unfold Builtin.Range.small
 rw [hz]
 simp
 exact ⟨⟨⟨⟨hf 0 (by omega) (by omega),hf _ (by omega) (by omega)⟩,hf 1 (by omega) (by omega)⟩,hf _ (by omega) (by omega)⟩,.inr (hf _ (by omega) (by omega))⟩
def QE (ta:TA):TE:=fun σ H Q=>ta σ H fun vs H1=>∃ n:Nat,vs=[.int (n:Int)]/\n<=1000/\∀ p,H1 p=none->Q (.ref p) (upd H1 p (.lst ((aY n).map vN)))
theorem Lf {e:Expr} {ta:TA} {p p2 pos Xz:Pos} (hg:Gl X "list") (hm:X.mg "list"=none) (tD:Gl X "range") (hm2:X.mg "range"=none) (ha:PA X [e] ta) (EX:X.calm=true:=by rfl)
  (hs:starEach [e] X.env=[(false,eval e X.env)]:=by rfl) (WE:starEach [.Call (.Name "range" p2) [e] [] Xz] X.env=[(false,eval (.Call (.Name "range" p2) [e] [] Xz) X.env)]:=by rfl):
  PE X (.Call (.Name "list" p) [.Call (.Name "range" p2) [e] [] Xz] [] pos) (QE ta):=by
 intro pins s σ H Q I h
 refine Call_ (tY I hg hm PyProof.Rows.boot_list (PyProof.Rows.callWith_type1 ?_ WE rfl))
 rw [WE]
 refine Calls.spliced_cons ?_
 refine Call_ (tY I tD hm2 boot_range (PyProof.Rows.callWith_type1 (f9 (ha Xz pins s σ H _ I h) fun us s1 ⟨vs,H1,I1,r1,q1⟩=>?_) hs rfl))
 obtain ⟨n,e,hn,q⟩:=q1
 subst e
 cases r1 with
 | cons r rr=>
  cases rr
  obtain ⟨t,rfl⟩:=r
  refine call_range_1 ?_
  have I2:Inv X pins σ H1 { s1 with heap:=s1.heap.push { cls:=.type "range",data:=.fields #[.int 0 s1.toks,.int (n:Int) t,.int 1 (s1.toks+1)] },toks:=s1.toks+1+1 }:=I1.kept (fun b u z=>aA _ z)
  refine Calls.spliced_nil ?_
  refine call_list_range (n:=n) (I.ok.hd EX) (r:=s1.heap.objs.size) (a:=0) (b:=(n:Int)) (c:=1) (aQ _ rfl) ?_ ?_ (by have:(2:Nat) ^ 24=16777216:=rfl;omega) fun h' tk acF c' hk hS' acH=>?_
  ·exact Om n hn
  ·unfold Builtin.Range.rangeSize
   simp
   omega
  ·refine ⟨.ref _,_,I2.laid (a:=_) (o:=.lst ((aY n).map vN)) hk (au _) ?_,rfl,q _ (I2.cU.fresh (au _))⟩
   refine ⟨by rw [U,ck,sizeLine_eq];omega,acF.toList,c',?_,by simpa using hS'⟩
   have key:∀ (m:Nat) (l:List Value) (k:Nat),l.length=m->(∀ i v,l[i]?=some v->∃ t,v=Value.int ((k+i:Nat):Int) t)->Vals ((aY m).map fun i=>vN (k+i)) l:=by
    intro m
    induction m with
    | zero=>
     intro l k hl _
     have:l=[]:=fR.mp hl
     subst this
     exact .nil
    | succ m ih=>
     intro l k hl hv
     cases l with
     | nil=>cases hl
     | cons v l=>
      rw [dC,aC,a9]
      refine .cons ?_ ?_
      ·obtain ⟨t,e⟩:=hv 0 v rfl
       exact ⟨t,e⟩
      ·have e:((aY m).map ((fun i=>vN (k+i))∘Nat.succ))=(aY m).map fun i=>vN (k+1+i):=by
        refine cf fun i _=>?_
        show vN (k+(i+1))=_
        rw [show k+(i+1)=k+1+i by omega]
       rw [e]
       refine ih l (k+1) (by simpa using hl) fun i v' h'=>?_
       obtain ⟨t,e⟩:=hv (i+1) v' h'
       exact ⟨t,by rw [e,show k+(i+1)=k+1+i by omega]⟩
   have:=key n acF.toList 0 (by rw [mB];exact acH.1) fun i v hv=>by
    obtain ⟨t,e⟩:=acH.2 i v (by simpa using hv)
    exact ⟨t,by rw [e];simp⟩
   simpa using this
theorem EN {prog:Program} {w:World} {K:Type} [DecidableEq K] (knd:HeapKind prog w K) (d:Addr) (hd:(d==sysModules)=false):
  MeetsIn prog w (Builtin.«dict.__len__» ⟨[.ref d],[]⟩) (fun _ R s=>∃ xs,s.heap.DictOfH knd d xs/\R (.ok (.ret (.int (xs.length:Nat) s.toks))) { s with toks:=s.toks+1 }):=
 .of_wp fun A R s ⟨xs,hm,h⟩=>by
  obtain ⟨o,es,ep,ho,hc,Xh,he,his,hn⟩:=hm
  show wpAny _ _ (dictSize d >>= _) _ _ s
  unfold dictSize
  refine wpAny_bind (wpAny_bind (wpAny_dictEntries ho Xh (wpAny_pure ?_)))
  show wpAny _ _ (Builtin.Dict.pendingCount d >>= _) _ _ s
  refine wpAny_bind (wpAny_pendingCount_other hd ?_)
  refine wpAny_ret_mkInt ?_
  have:es.size=xs.length:=size_of_entries he
  rw [Nat.add_zero,this];exact h
theorem JK:r0 X (.builtin "len") (fun xs H Q=>∃ a kvs,xs=[V.ref a]/\H a=some (.dT kvs)/\Q (.int (kvs.length:Nat)) H):=by
 intro pins s σ H xs us Q I r h
 obtain ⟨a,kvs,rfl,ha,q⟩:=h
 obtain ⟨u,rfl,ru⟩:=vals1 r
 cases ru
 obtain ⟨z,hd,ys,rel,dd⟩:=Ry I.cU ha
 have hl:=Paired.length rel
 have akZ:((ys.length:Nat):Int)<2 ^ 63:=by rw [sizeLine_eq] at z;omega
 refine Calls.call_function_entry kind_len plain_len entry_len (args_len1 _) ?_
 unfold Builtin.«len»
 refine wpAny_bind (m:=oneArg "len" _) (wpAny_pure ?_)
 refine wpAny_bind (m:=callSpecial? (.ref a) (Str.ofString "__len__")) (wpAny_callSpecial?_slot (name:=Str.ofString "__len__") dd.typeIs F.slot_dict_len
  (call_meetsIn F.slot_dict_len dd.typeIs F.entry_dict_len (F.args_dict_len_1 _) (EN (tupleKind (dQ X.prog X.w)) a hd) ⟨ys,dd,?_⟩))
 show wpAny _ _ _ _ _ { s with toks:=s.toks+1 }
 refine wpAny_bind (wpAny_holding (wpAny_pure ?_))
 refine wpAny_bind (wpAny_letGo ?_)
 show wpAny _ _ (if ((ys.length:Nat):Int)<0 then _ else _) _ _ _
 rw [if_neg (by omega)]
 show wpAny _ _ (if ((ys.length:Nat):Int)>=2 ^ 63 then _ else _) _ _ _
 rw [if_neg (by omega)]
 refine wpAny_bind (wpAny_mkInt (wpAny_pure ⟨_,rfl,?_⟩))
 rw [<- hl]
 exact ⟨.int _,H,I.tok _,⟨_,rfl⟩,q⟩
def ZT (td ty:TE):TE:=fun σ H Q=>td σ H fun x H1=>∃ a,x=.ref a/\(∃ kvs,H1 a=some (.dT kvs))/\ty σ H1 fun y H2=>∃ (kvs:List (List Key×V)) (b:Addr) (k:List Key) (v:V),H2 a=some (.dT kvs)/\y=.ref b/\H2 b=some (.tup (k.map kV))/\jj kvs k=some v/\
 Q v (upd H2 a (.dT (w9 kvs k)))
theorem KT.at {H:Hp} {k:List Key} {v:V}:∀ {kvs:List (List Key×V)} {xs:List (List Key×Addr×Value)},KT H kvs xs->jj kvs k=some v->(kvs.map (·.1)).Nodup->
  ∃ (j:Nat) (p:Addr×Value),xs[j]?=some (k,p)/\RelV v p.2/\KT H (w9 kvs k) (xs.eraseIdx j)
 | _,_,.nil,h,_=>by cases h
 | q::kvs,x::xs,.cons r t,h,hn=>by
  obtain ⟨h1,h2⟩:=cE.mp hn
  by_cases e:q.1=k
  ·rw [i6 e] at h
   have ev:q.2=v:=aj.inj h
   refine ⟨0,x.2,?_,by rw [<- ev];exact r.2.2,?_⟩
   ·show some x=_
    rw [<- e,r.1]
   ·rw [Jt e,Nr (by rw [<- e];exact h1)]
    exact t
  ·rw [g8 e] at h
   obtain ⟨j,p,a1,a2,a3⟩:=KT.at t h h2
   refine ⟨j+1,p,a1,a2,?_⟩
   rw [CK e]
   exact .cons r a3
theorem RY {H:Hp}:∀ {kvs:List (List Key×V)} {xs:List (List Key×Addr×Value)},KT H kvs xs->kvs.map (·.1)=xs.map (·.1)
 | _,_,.nil=>rfl
 | _,_,.cons r t=>by rw [aC,aC,r.1,RY t]
theorem Vk {o e:Expr} {td ty:TE} {apos mr:Pos} (hu:X.A.units+1<cLine) (ho:PE X o td) (he:PE X e ty) (qf:attributeBase o "pop" X.env (eval o X.env)=eval o X.env:=by rfl)
  (xi:((backTo mr (starEach [e] X.env)).all (fun x=>!x.1)&&(backToKw mr (keywordEach [] X.env)).all (fun x=>x.1.isSome)
   && decide (([e]:List Expr).length+([]:List Keyword).length+(if ([]:List Keyword).isEmpty then 0 else 1)<30))=true:=by rfl)
  (qg:(apos.endLine==mr.line)=true:=by rfl) (htr:backTo mr (starEach [e] X.env)=[(false,eval e X.env)]:=by rfl):PE X (.Call (.Attribute o "pop" apos) [e] [] mr) (ZT td ty):=by
 intro pins s σ H Q I h
 refine wpAny_Call_method qf xi qg PySem.F.plainAttrs_dict PySem.F.slot_dict_pop PySem.F.type_dict_pop (f9 (ho pins s σ H _ I h) fun u s1 ⟨x,H1,I1,rx,a,ex,⟨kv0,hd0⟩,q1⟩=>?_)
 subst ex
 obtain rfl:u=Value.ref a:=rx
 obtain ⟨t1,t2,_⟩:=Zw I1 (.inr ⟨kv0,.inl hd0⟩)
 refine ⟨t1,t2,?_⟩
 rw [htr]
 refine Calls.callWith_builtin rfl (Calls.evalArgs_plain (Calls.spliced_cons (f9 (he pins s1 σ H1 _ I1 q1) fun iv s2 ⟨y,H2,I2,ry,kvs,b,k,v,ea,ey,eb,l,q2⟩=>Calls.spliced_nil ?_)))
 subst ey
 cases (show iv=Value.ref b from ry)
 obtain ⟨z,hd,xs,rel,dd⟩:=Ry I2.cU ea
 obtain ⟨ob,es,ep,h1,h2,h3,h4,h5,h6⟩:=id dd
 have hn:(kvs.map (·.1)).Nodup:=by rw [RY rel];exact h6
 obtain ⟨j,p,hj,rv,af7⟩:=KT.at rel l hn
 have hz:xs.length<=sizeLine:=by rw [<- Paired.length rel];exact z
 refine call_meetsIn PySem.F.slot_dict_pop dd.typeIs PySem.F.entry_dict_pop (PySem.F.args_dict_pop_2 _ _) (Va (tupleKind (dQ X.prog X.w)) a b)
  ⟨tupleKind_room_in1 hu,k,xs,j,p,Al I2.cU eb,dd,hz,hj,fun h' WJ hs=>?_⟩
 obtain ⟨q',TQ,TR,Uv,g2,g3,g4,_,g5⟩:=WJ
 refine ⟨v,_,BA I2 (ob:=.dT (w9 kvs k)) (by rw [ea];exact True.intro) hs ⟨q',Uv⟩ ⟨bB (UL kvs k) z,hd,_,af7.keeps (fun c ys ec=>?_),q',TQ,TR,Uv,g2,g3,g4,g5⟩,rv,q2⟩
 rw [aD (dX ec ea (fun z=>nomatch z))]
 exact ec
end
abbrev qo:=Xv Key
def NK (H:Hp) (b:Addr) (k:qo):Prop:=∃ c,H b=some (.tup [.ref c,kV k.2.1,kV k.2.2])/\H c=some (.tup (k.1.map kV))
theorem NK.keeps {H H':Hp} {b:Addr} {k:qo} (h:NK H b k) (ht:∀ b ys,H b=some (.tup ys)->H' b=some (.tup ys)):NK H' b k:=
 let ⟨c,h1,h2⟩:=h;⟨c,ht _ _ h1,ht _ _ h2⟩
theorem RZ {P:Program} {w:World} {H:Hp} {h:Heap} {b:Addr} {k:qo} (ok:w8 P w H h) (e:NK H b k):(uX (dQ P w)).is h k b:=by
 obtain ⟨c,h1,h2⟩:=e
 obtain ⟨_,cq,r,o,g1,g2,n,g3⟩:=(show f6 P w H h b (.tup [.ref c,kV k.2.1,kV k.2.2]) from ok b _ h1)
 cases r with
 | cons r1 r=>
  cases r with
  | cons r2 r=>
   cases r with
   | cons r3 r=>
    cases r
    cases r1
    exact ⟨o,_,n,g1,g2,g3,.cons (.tup (Al ok h2)) (.cons (.key (FD r2)) (.cons (.key (FD r3)) .nil))⟩
def Ek (P:Program) (w:World) (d:Addr) (xs:List (qo×Addr×Value)):HO:=.ext fun h=>(d==sysModules)=false/\xs.length<=sizeLine/\∃ o es ep,h.get? d=some o/\o.ExactDict/\o.data=.dict es ep/\
 es.toList=xs.map (entryOfKey (uX (dQ P w)))/\(xs.map (·.1)).Nodup
abbrev Oo (H:Hp):List (qo×V)->List (qo×Addr×Value)->Prop:=Paired fun p q=>p.1=q.1/\NK H q.2.1 p.1/\RelV p.2 q.2.2
def sI (P:Program) (w:World) (H:Hp) (d:Addr) (kvs:List (qo×V)):Prop:=∃ xs,H d=some (Ek P w d xs)/\Oo H kvs xs
theorem sI.on {P:Program} {w:World} {H H':Hp} {d:Addr} {kvs:List (qo×V)} (h:sI P w H d kvs) (s:aM H H'):sI P w H' d kvs:=by
 obtain ⟨xs,h1,h2⟩:=h
 exact ⟨xs,s _ _ h1,Paired.Pp h2 fun _ _ z=>⟨z.1,z.2.1.keeps fun _ _ e=>s _ _ e,z.2.2⟩⟩
theorem Oo.val {H:Hp} {kvs:List (qo×V)} {xs:List (qo×Addr×Value)} (r:Oo H kvs xs) (k:qo):Ct (jj kvs k) ((atKey xs k).map (·.2)):=by
 induction r with
 | nil=>exact True.intro
 | @cons p q ps qs h t ih=>
  obtain ⟨h1,_,h2⟩:=h
  by_cases e:p.1=k
  ·have e':q.1=k:=h1.symm.trans e
   have b:atKey (q::qs) k=some q.2:=by simp [atKey,ff,e']
   rw [i6 e,b];exact h2
  ·have e':¬ q.1=k:=fun z=>e (h1.trans z)
   have b:atKey (q::qs) k=atKey qs k:=by simp [atKey,ff,e']
   rw [g8 e,b];exact ih
theorem Oo.put {H:Hp} {kvs:List (qo×V)} {xs:List (qo×Addr×Value)} (r:Oo H kvs xs) {k:qo} (hk:jj kvs k=none) {b:Addr} {y:V} {u:Value} (hb:NK H b k) (ry:RelV y u):
  Oo H (kvs++[(k,y)]) (storedH xs k b u):=by
 have e:atKey xs k=none:=by
  have q:=r.val k
  rw [hk] at q
  cases z:atKey xs k with
  | none=>rfl
  | some p=>rw [z] at q;exact q.elim
 rw [storedH_new e]
 exact Paired.snoc r ⟨rfl,hb,ry⟩
section
variable {X:Cx}
theorem Vl {P:Program} {w:World} {H:Hp} {h:Heap} {d:Addr} {kvs:List (qo×V)} (ok:w8 P w H h) (e:sI P w H d kvs):(d==sysModules)=false/\kvs.length<=sizeLine/\∃ xs,H d=some (Ek P w d xs)/\Oo H kvs xs/\h.DictOfH (uX (dQ P w)) d xs:=by
 obtain ⟨xs,h1,r⟩:=e
 obtain ⟨⟨hd,hz,o,es,ep,g1,g2,g3,g4,g5⟩,_⟩:=(show f6 P w H h d (Ek P w d xs) from ok d _ h1)
 refine ⟨hd,by rw [Paired.length r];exact hz,xs,h1,r,o,es,ep,g1,g2,g3,g4,fun x hx=>?_,g5⟩
 have all:∀ {l:List (qo×V)} {m:List (qo×Addr×Value)},Oo H l m->∀ x∈m,(uX (dQ P w)).is h x.1 x.2.1:=by
  intro l m q
  induction q with
  | nil=>intro x hx;exact nomatch hx
  | @cons p q ps qs hq t ih=>
   intro x hx
   rcases aw.mp hx with e | hx
   ·subst e
    exact RZ ok (by rw [<- hq.1];exact hq.2.1)
   ·exact ih x hx
 exact all r x hx
def af8 (P:Program) (w:World) (ty td:TE):TE:=fun σ H Q=>ty σ H fun y H1=>td σ H1 fun x H2=>∃ (a b:Addr) (k:qo) (kvs:List (qo×V)),x=.ref a/\y=.ref b/\NK H2 b k/\sI P w H2 a kvs/\Q (.bl (!(jj kvs k).isSome)) H2
def acI (P:Program) (w:World) (td ty:TE):TE:=fun σ H Q=>td σ H fun x H1=>ty σ H1 fun y H2=>∃ (a b:Addr) (k:qo) (kvs:List (qo×V)) (v:V),x=.ref a/\y=.ref b/\NK H2 b k/\sI P w H2 a kvs/\jj kvs k=some v/\Q v H2
def acJ (P:Program) (w:World) (td ty tv:TE):TS:=fun D σ H=>tv σ H fun v H1=>td σ H1 fun x H2=>ty σ H2 fun y H3=>∃ (a b:Addr) (k:qo) (kvs:List (qo×V)),x=.ref a/\y=.ref b/\NK H3 b k/\sI P w H3 a kvs/\jj kvs k=none/\kvs.length<sizeLine/\
 ∀ H4,sI P w H4 a (kvs++[(k,v)])->bh [a] H3 H4->D.nx σ H4
theorem C_ {A:Around} (hu:A.units+4<cLine):(uX (dQ P w)).room A.in1:=by
 show A.units+1+2<cLine
 omega
theorem S1 {i o:Expr} {ty td:TE} (hu:X.A.units+4<cLine) (hi:PE X i ty) (ho:PE X o td):PC X .NotIn i o (af8 X.prog X.w ty td):=by
 intro pins s σ H Q I h
 refine f9 (hi pins s σ H _ I h) fun iv s1 ⟨y,H1,I1,ry,q1⟩=>f9 (ho pins s1 σ H1 _ I1 q1) fun u s2 ⟨x,H2,I2,rx,a,b,k,kvs,ex,ey,hk,hd,q2⟩=>?_
 subst ex ey
 obtain rfl:u=Value.ref a:=rx
 cases (show iv=Value.ref b from ry)
 obtain ⟨h0,hz,xs,h1,r,dd⟩:=Vl I2.cU hd
 refine wpAny_notIn_heap (C_ hu) (RZ I2.cU hk) h0 dd ?_
 have q:=(r.val k).rO
 rw [oK] at q
 rw [<- q]
 exact ⟨.bl _,H2,I2.tok _,rfl,q2⟩
theorem XA {o i:Expr} {td ty:TE} {pos:Pos} (hu:X.A.units+4<cLine) (ho:PE X o td) (hi:PE X i ty) (hs:Zu i):PE X (.Subscript o i pos) (acI X.prog X.w td ty):=by
 intro pins s σ H Q I h
 refine Rz PySem.F.slot_dict_getitem.lookup hs (f9 (ho pins s σ H _ I h) fun u s1 ⟨x,H1,I1,rx,q1⟩=>f9 (hi pins s1 σ H1 _ I1 q1) fun iv s2 ⟨y,H2,I2,ry,a,b,k,kvs,v,ex,ey,hk,hd,hv,q2⟩=>?_)
 subst ex ey
 obtain rfl:u=Value.ref a:=rx
 cases (show iv=Value.ref b from ry)
 obtain ⟨h0,hz,xs,h1,r,dd⟩:=Vl I2.cU hd
 refine ⟨dd.typeIs,?_⟩
 obtain ⟨w',hw,rw'⟩:=Ct.some_of (v:=v) (o:=(atKey xs k).map (·.2)) (by rw [<- hv];exact r.val k)
 obtain ⟨p,hp,El⟩:=aZ.mp hw
 refine wpAny_getItem_heap (C_ hu) (RZ I2.cU hk) dd hp ?_
 rw [El]
 exact ⟨v,H2,I2.tok _,rw',q2⟩
theorem XB {o i value:Expr} {td ty tv:TE} {pos pos':Pos} (hu:X.A.units+4<cLine) (ho:PE X o td) (hi:PE X i ty) (hv:PE X value tv) (hs:swapsWith value (some (.Subscript o i pos')) pos.line X.env=pure false):
  PS X (.Assign [.Subscript o i pos'] value pos) (acJ X.prog X.w td ty tv):=by
 intro pins s σ H D I h
 refine wpAny_Assign_Subscript (f9 (hv pins s σ H _ I h) fun r s1 ⟨v,H1,I1,rv,q1⟩=>f9 (ho pins s1 σ H1 _ I1 q1) fun u s2 ⟨x,H2,I2,rx,q2⟩=>f9 (hi pins s2 σ H2 _ I2 q2) fun iv s3 ⟨y,H3,I3,ry,a,b,k,kvs,ex,ey,hk,hd,tG,iX,q3⟩=>?_) hs
 subst ex ey
 obtain rfl:u=Value.ref a:=rx
 cases (show iv=Value.ref b from ry)
 obtain ⟨h0,hz,xs,h1,rel,dd⟩:=Vl I3.cU hd
 have hl:=Paired.length rel
 refine wpAny_setItem_heap (hsz:=by omega) (C_ hu) (RZ I3.cU hk) dd fun h' WJ hsb=>?_
 obtain ⟨q,es,ep,hq,g2,g3,g4,_,g5⟩:=WJ
 have acK:=rel.put tG hk rv
 have Fy:=Paired.length acK
 rw [ao,cP] at Fy
 have new:f6 X.prog X.w (upd H3 a (Ek X.prog X.w a (storedH xs k b r))) h' a (Ek X.prog X.w a (storedH xs k b r)):=by
  refine ⟨⟨h0,by omega,q,es,ep,hq,g2,g3,g4,g5⟩,⟨q,hq⟩,fun j1 j2 ⟨z1,z2,o2,es2,ep2,z3,z4⟩ kk=>⟨z1,z2,o2,es2,ep2,kk _ z3,z4⟩⟩
 have I4:=BA (t':=s3.toks+(uX (dQ X.prog X.w)).draws k) I3 (by rw [h1];exact True.intro) hsb ⟨q,hq⟩ new
 have kp:∀ c ys,H3 c=some (.tup ys)->(upd H3 a (Ek X.prog X.w a (storedH xs k b r))) c=some (.tup ys):=fun c ys ec=>by
  rw [aD (dX ec h1 (fun z=>nomatch z))];exact ec
 exact ⟨σ,_,I4,q3 _ ⟨_,ae,Paired.Pp acK fun _ _ z=>⟨z.1,z.2.1.keeps kp,z.2.2⟩⟩ ((bh.of fun _ _ e=>e).upd (by simp))⟩
def ZU (P:Program) (w:World):TE:=fun _ H Q=>∀ p H',H p=none->sI P w H' p []->aM H H'->H' p≠none->(∀ b,b≠p->H' b=H b)->Q (.ref p) H'
theorem Vm {pos:Pos}:PE X (.Dict [] [] pos) (ZU X.prog X.w):=fun pins s σ H Q I h=>by
 have hn:=I.cU.fresh (au s.heap.objs.size)
 refine wpAny_Dict_empty ⟨.ref s.heap.objs.size,_,I.laid (a:=s.heap.objs.size) (o:=Ek X.prog X.w s.heap.objs.size []) (t':=s.toks) (fun _ _ q=>aA _ q) (au _) ?_,rfl,
  h _ _ hn ⟨[],ae,.nil⟩ (aM.new hn) (by rw [ae];simp) (fun b hb=>aD hb)⟩
 refine ⟨⟨beq_eq_false_iff_ne.mpr (Ne.symm (cj I.big)),a0 _,_,#[],0,aQ _ rfl,⟨rfl,rfl,rfl⟩,rfl,rfl,jf⟩,⟨_,aQ _ rfl⟩,fun j1 j2 ⟨z1,z2,o2,es2,ep2,z3,z4⟩ kk=>⟨z1,z2,o2,es2,ep2,kk _ z3,z4⟩⟩
theorem ZV {A:Around} {k:Nat} (hr:kE k A):A.units+4<cLine:=by have:=hr.un;omega
end
def Vn (K:ab) (a:Addr):It:=
 ⟨fun i H=>∃ (xs:List V) (x:V),bO K H a xs/\xs[i]?=some x,fun i H v H'=>∃ T x,v=.ref T/\H T=none/\H'=upd H T (.tup [.int (((i:Nat):Int)+1),x])/\∀ xs,bO K H a xs->xs[i]?=some x,fun i H=>∃ xs:List V,bO K H a xs/\xs.length<=i⟩
theorem Oq {prog:Program} {w:World} {A:Around} {it:Addr} {fp:List Addr} {n:Nat} {P:Nat->Value->Prop} {St:Nat->Heap->Prop} (D:Draws prog w A it fp n P St):
  Draws prog w A it fp (n+1) (fun i v=>∃ j,i=j+1/\P j v) (fun i h=>∃ j,i=j+1/\St j h) where
 live:=fun i h ⟨j,_,st⟩=>D.live j h st
 frame:=fun i h h' ⟨j,e,st⟩ k=>⟨j,e,D.frame j h h' st k⟩
 item:=fun i s Q E hi ⟨j,e,st⟩ hQ=>by
  subst e
  exact D.item j s Q E (by omega) st fun x h' tk hP Cs sb=>hQ x h' tk ⟨j,rfl,hP⟩ ⟨j+1,rfl,Cs⟩ sb
 done:=fun s Q E ⟨j,e,st⟩ hQ=>by
  have e2:j=n:=by omega
  subst e2
  exact D.done s Q E st hQ
theorem S4 {prog:Program} {w:World} {A:Around} {E:Value->Shared->Prop} {s:Shared} {e it l:Addr} {c:Int} {i:Nat} {items:Array Value} {old:Value} {Q:Option Value->Shared->Prop} (hh:A.handled=none)
  (he:IsEnum s.heap e it c old) (hit:s.heap.IsListIter it l i) (hl:s.heap.IsList l items) (hx:items[i]?=none)
  (hQ:∀ h',Heap.ExtBut it s.heap h'->Q none { s with heap:=h' }):wpAny (model prog w) A (pyNext (.ref e)) Q E s:=by
 have hT:s.TypeIs (.ref e) "enumerate":=⟨_,he,rfl⟩
 unfold pyNext
 refine wpAny_bind (wpAny_attempt (wpAny_callSpecial?_slot (name:=Str.ofString "__next__") hT F.slot_enumerate_next
  (wpAny_call_entry F.slot_enumerate_next hT F.entry_enumerate_next ?_ (F.args_enumerate_next_1 _))))
 show wpAny _ _ (field (.ref e) 2 >>= _) _ _ _
 refine wpAny_bind (wpAny_field he rfl (x:=.ref it) rfl ?_)
 refine wpAny_bind (wpAny_nextOf_list_end hh hit hl hx fun h' x ZS hx'=>?_)
 obtain ⟨o,ho,hc⟩:=hx'
 refine wpAny_bind (wpAny_isInstance (T:="StopIteration") (b:=true) ⟨o,ho,hc⟩ isSubtype_stop ?_)
 exact wpAny_pure (hQ _ ZS)
theorem QF {P:Program} {w:World} {K:ab} {elts:List Expr} {kk:Nat} {HA:Pos} (a e it:Addr):
  Turn P w K (.Tuple elts kk HA) (Vn K a) [e,it] e (fun i h=>(∃ old,IsEnum h e it (((i:Nat):Int)+1) old)/\h.IsListIter it a i/\e≠it) where
 mem:=by simp
 obj:=fun i h st b hb=>by
  obtain ⟨⟨old,he⟩,⟨o,ho,hc,hd⟩,_⟩:=st
  have e':b=e\/b=it:=by simpa using hb
  rcases e' with z | z
  ·rw [z];exact ⟨_,he,fun v q=>nomatch q⟩
  ·rw [z];exact ⟨o,ho,fun v q=>by rw [hd] at q;cases q⟩
 keep:=fun i h h' st k=>let ⟨⟨old,he⟩,hi,tH⟩:=st;⟨⟨old,k e (by simp) _ he⟩,hi.at fun o q=>k it (by simp) o q,tH⟩
 item:=by
  intro X hP hw hK hc i pins s σ H E I hf st hg
  subst hP hw hK
  obtain ⟨⟨old,he⟩,hit,tH⟩:=st
  obtain ⟨xs,x,hq,hx⟩:=hg
  obtain ⟨cq,rv,p,hz⟩:=I.list hq
  obtain ⟨u,hu,ru⟩:=rv.get hx
  have hel:e<s.heap.objs.size:=a8 he
  have hil:it<s.heap.objs.size:=by obtain ⟨_,q,_⟩:=hit;exact a8 q
  have hai:a≠it:=fun z=>by
   obtain ⟨o1,e1,c1,_⟩:=p.isList
   obtain ⟨o2,e2,c2,_⟩:=hit
   rw [z,e2] at e1;cases e1;rw [c2] at c1;exact absurd (Value.type.inj c1) (by decide)
  have hae:e≠a:=fun z=>by
   obtain ⟨o1,e1,c1,_⟩:=p.isList
   have he1:s.heap.get? e=some _:=he
   rw [z,e1] at he1;cases he1;exact absurd (Value.type.inj c1) (by decide)
  have D:=Oq (Draws.list (prog:=X.prog) (w:=X.w) (A:=X.A.in1) (I.ok.hd hc) it a hai cq.toArray)
  have hli:i<cq.toArray.size:=by
   have:=(aH.mp hu).1
   simpa using this
  refine wpAny_pyNext_enum_itemD (i:=i+1) D (by have e1:((i+1:Nat):Int)=(i:Int)+1:=(by omega);rw [e1];exact he) ⟨i,rfl,hit,p.isList⟩ (by omega) tH (by simp [tH,hae]) fun x2 h' tk hP ho ZW hT hsz hk=>?_
  obtain ⟨j2,ej,hP⟩:=hP
  obtain rfl:j2=i:=by omega
  have hx2:x2=u:=by
   have hP:cq.toArray[j2]?=some x2:=hP
   rw [show cq.toArray[j2]?=cq[j2]? by simp,hu] at hP
   exact (aj.inj hP).symm
  subst hx2
  obtain ⟨j3,ej3,Xi,_⟩:=ZW
  obtain rfl:j3=j2+1:=by omega
  have e1:((j2+1:Nat):Int)=(j2:Int)+1:=by omega
  rw [e1] at hT ho
  refine ⟨_,rfl,wpAny_letOwnedTupleGo_enum (s:={ s with heap:=h',toks:=tk+1 }) ho fun Yv ZS sb=>?_⟩
  have SD:Yv.get? s.heap.objs.size=some { cls:=.type "tuple",data:=.seq #[.int ((j2:Int)+1) tk,x2] }:=(sb.2 _ (rM hel)).trans hT
  have new:f6 X.prog X.w (upd H s.heap.objs.size (.tup [.int (((j2:Nat):Int)+1),x])) Yv s.heap.objs.size (.tup [.int (((j2:Nat):Int)+1),x]):=
   ⟨szB,[.int ((j2:Int)+1) tk,x2],.cons ⟨_,rfl⟩ (.cons ru .nil),⟨_,SD,rfl,_,rfl⟩⟩
  have I1:Inv X pins σ (upd H s.heap.objs.size (.tup [.int (((j2:Nat):Int)+1),x])) { s with heap:=Yv,toks:=tk+1 }:=
   I.Jn (ch:=[e,it]) (fun b ob hb q=>(sb.2 b (fun z=>hb (by simp [z]))).trans (hk b ob (fun z=>hb (by simp [z])) (fun z=>hb (by simp [z])) q)) hf (au _) new
  refine ⟨.ref s.heap.objs.size,_,I1,rfl,⟨_,x,rfl,I.cU.fresh (au _),rfl,fun ys hy=>by rw [I.Bs hy hq];exact hx⟩,⟨⟨x2,?_⟩,Xi.at fun o q=>(sb.2 it (Ne.symm tH)).trans q,tH⟩,fun b hb=>?_⟩
  ·have e1:((j2+1:Nat):Int)+1=(j2:Int)+1+1:=by omega
   rw [e1];exact ZS
  ·have hb':b<s.heap.objs.size:=by
    have e':b=e\/b=it:=by simpa using hb
    rcases e' with z | z
    ·rw [z];exact hel
    ·rw [z];exact hil
   rw [aD (cj hb')]
   exact (hf b hb).1
 done:=by
  intro X hP hw hK hc i pins s σ H E I hf st hg
  subst hP hw hK
  obtain ⟨⟨old,he⟩,hit,tH⟩:=st
  obtain ⟨xs,hq,hx⟩:=hg
  obtain ⟨cq,rv,p,hz⟩:=I.list hq
  obtain ⟨f0,f1,f2,f3,f4,f5⟩:=hf it (by simp)
  have hl:=rv.length
  exact S4 (I.ok.hd hc) he hit p.isList (by simp;omega) fun h' eb=>⟨rfl,I.turned (t':=s.toks) (fun b o hb q=>eb b o hb q) f0 f1 f3 f4 f5⟩
 self:=fun A i s Q E st h=>let ⟨⟨_,he⟩,_⟩:=st;wpAny_pyIter_enum he h
def ZX (K:ab) (ta:TA):TI:=fun σ H R=>ta σ H fun vs H1=>∃ a xs,vs=[.ref a]/\bO K H1 a xs/\R (Vn K a) H1
theorem Vo {X:Cx} {e:Expr} {ta:TA} {p pos HA kp cp:Pos} {elts:List Expr} {kk j:Nat} (hg:Gl X "enumerate") (hm:X.mg "enumerate"=none) (ha:PA X [e] ta) (hs:starEach [e] X.env=[(false,eval e X.env)]:=by rfl):
  PI X (.Tuple elts kk HA) (.Call (.Name "enumerate" p) [e] [⟨some "start",.Constant (.int 1) j cp,kp⟩] pos) (ZX X.K ta):=by
 intro pins s σ H R I h
 have RB:=ha pos pins s σ H _ I h
 rw [hs] at RB
 refine wpAny_Call_Name_kw (tY I hg hm boot_enumerate (EH (by rw [hs];rfl) rfl ?_))
 rw [hs]
 refine evalArgs_kwB rfl ?_
 refine f9 RB fun us s1 ⟨vs,H1,I1,r1,q1⟩=>?_
 refine kws_cons (env:=X.env) (pos:=pos) (name:="start") (kp:=kp) (rest:=[]) ?_
 obtain ⟨a,xs,ex,hq,q⟩:=q1
 subst ex
 refine f9 (az (X:=X) pins s1 σ H1 (fun v H2=>v=.int 1/\H2=H1) I1 ⟨rfl,rfl⟩) fun u s2 ⟨v,H2,I2,rv,ev,eH⟩=>?_
 subst ev eH
 obtain ⟨t,rfl⟩:=rv
 refine kws_nil ?_
 cases r1 with
 | cons r rr=>
  cases rr
  cases r
  obtain ⟨cq,rv,p',hz⟩:=I2.list hq
  refine xF (t:=t) p'.isList fun h' he hit hsz hk=>wpAny_pyIter_enum he ?_
  have I3:Inv X pins σ H2 { s2 with heap:=h' }:=I2.kept (t':=s2.toks) hk
  refine ⟨s2.heap.objs.size+1,[s2.heap.objs.size+1,s2.heap.objs.size],_,_,H2,rfl,I3,QF a (s2.heap.objs.size+1) s2.heap.objs.size,⟨⟨.none,he⟩,hit,Nat.succ_ne_self _⟩,fun b hb=>?_,q⟩
  have e':b=s2.heap.objs.size+1\/b=s2.heap.objs.size:=by simpa using hb
  have hle:s2.heap.objs.size<=b:=by
   rcases e' with z | z
   ·rw [z];exact md _ _
   ·rw [z];exact au _
  exact I2.J8 hle (I2.cU.fresh hle)
section
variable {X:Cx}
theorem XC {P:Program} {w:World} {K:ab} {h:Heap} {a:Addr} {rows:List (Int×(V->Prop))} (X:K.In h) (d:Xw K a rows):
  ∃ us:List (Int×Tok×Value),h.DictOf (dQ P w) a (us.map fun q=>((Sum.inl q.1:Key),q.2.2))/\Paired (fun (p:Int×(V->Prop)) (q:Int×Tok×Value)=>p.1=q.1/\∃ v,RelV v q.2.2/\p.2 v) rows us/\(us.map (·.1)).Nodup:=by
 obtain ⟨_,o,es,ep,us,h1,h2,h3,h4,h5,h6⟩:=d
 have keys:∀ {rows:List (Int×(V->Prop))} {us:List (Int×Tok×Value)},Paired (fun (p:Int×(V->Prop)) (q:Int×Tok×Value)=>p.1=q.1/\∃ v,RelV v q.2.2/\p.2 v) rows us->rows.map (·.1)=us.map (·.1):=by
  intro rows us r
  induction r with
  | nil=>rfl
  | cons q _ ih=>rw [aC,aC,ih,q.1]
 have hn:(us.map (·.1)).Nodup:=by rw [<- keys h5];exact h6
 refine ⟨us,⟨o,es,ep,X _ _ h1,h2,h3,fun e he=>?_,?_,?_⟩,h5,hn⟩
 ·have:e∈us.map (fun q=>(⟨hashInt q.1,.int q.1 q.2.1,q.2.2⟩:DictEntry)):=h4▸Array.mem_toList_iff.mpr he
  obtain ⟨q,_,rfl⟩:=aO.mp this
  exact ⟨.inl q.1,xn P w q.1 q.2.1,rfl⟩
 ·rw [h4]
  clear h4 h5 h6 hn h3
  induction us with
  | nil=>exact .nil
  | cons q us ih=>exact .cons (xn P w q.1 q.2.1) rfl ih
 ·rw [a9]
  have e:us.map ((fun x=>x.1)∘fun q=>((Sum.inl q.1:Key),q.2.2))=(us.map (·.1)).map fun i=>(Sum.inl i:Key):=by rw [a9];rfl
  rw [e]
  exact List.pairwise_map.mpr (List.Pairwise.imp (fun h e=>h (Sum.inl.inj e)) hn)
theorem XD {rows:List (Int×(V->Prop))} {us:List (Int×Tok×Value)} {i:Nat} {k:Int} {φ:V->Prop} (r:Paired (fun (p:Int×(V->Prop)) (q:Int×Tok×Value)=>p.1=q.1/\∃ v,RelV v q.2.2/\p.2 v) rows us) (hn:(us.map (·.1)).Nodup) (h:rows[i]?=some (k,φ)):
  ∃ u v,valueAt (us.map fun q=>((Sum.inl q.1:Key),q.2.2)) (Sum.inl k)=some u/\RelV v u/\φ v:=by
 obtain ⟨q,hq,e,v,rv,hv⟩:=fk r h
 have e:k=q.1:=e
 refine ⟨q.2.2,v,?_,rv,hv⟩
 clear r h
 induction us generalizing i with
 | nil=>simp at hq
 | cons x us ih=>
  rw [aC,cE] at hn
  cases i with
  | zero=>
   have ex:x=q:=aj.inj hq
   subst ex
   simp [valueAt,e]
  | succ i=>
   have hm:q∈us:=aT hq
   have tH:¬ x.1=k:=fun z=>hn.1 (aO.mpr ⟨q,hm,by rw [z,e]⟩)
   have:=ih hn.2 hq
   simpa [valueAt,ff,tH] using this
def acM (K:ab) (td ty:TE):TE:=fun σ H Q=>td σ H fun x H1=>ty σ H1 fun y H2=>∃ (a:Addr) (rows:List (Int×(V->Prop))) (i:Nat) (k:Int) (φ:V->Prop),x=.ref a/\Xw K a rows/\rows[i]?=some (k,φ)/\y=.int k/\∀ v,φ v->Q v H2
theorem Lg {o i:Expr} {td ty:TE} {pos:Pos} (hu:X.A.units+1<cLine) (ho:PE X o td) (hi:PE X i ty) (hs:Zu i):PE X (.Subscript o i pos) (acM X.K td ty):=by
 intro pins s σ H Q I h
 refine Rz PySem.F.slot_dict_getitem.lookup hs (f9 (ho pins s σ H _ I h) fun u s1 ⟨x,H1,I1,rx,q1⟩=>f9 (hi pins s1 σ H1 _ I1 q1) fun iv s2 ⟨y,H2,I2,ry,a,rows,j,k,φ,ex,kd,hj,ey,q2⟩=>?_)
 subst ex ey
 obtain rfl:u=Value.ref a:=rx
 obtain ⟨us,dd,r,hn⟩:=XC (P:=X.prog) (w:=X.w) I2.MP kd
 obtain ⟨u',v,hv,rv,hφ⟩:=XD r hn hj
 exact ⟨dd.typeIs,wpAny_getItem_of (FD (k:=.inl k) ry) dd.mapOf hv ⟨v,H2,I2.tok _,rv,q2 v hφ⟩⟩
theorem Gn {CX:TV} {k:Nat} {f:Addr} {fd:FuncData} {ps:List Str} {sp:Sp} {Jg:List V} {ds:List Value} {E:XK} {x:Str} {p pos:Pos} {e:Expr} {es:List Expr} {tf:TE} {t:TA}
  (F:bY X.prog X.w X.K X.mg X.base CX k f fd ps sp) (hr:kE k X.A) (hf:PE X (.Name x p) tf) (hk:c6 X.K (.ref f)=true) (hb:Binds X.K fd ps ds) (hd:Vals Jg ds) (hx:Passes CX X E)
  (ha:PA X (e::es) t) (he:starEach (e::es) X.env=(false,eval e X.env)::starEach es X.env:=by rfl) (kF:(backTo pos (starEach es X.env)).any (·.1)=false:=by rfl):
  PE X (.Call (.Name x p) (e::es) [] pos) (fun σ H Q=>tf σ H fun v H1=>v=.ref f/\t σ H1 fun vs H2=>sp (vs++Jg) H2 Q E):=by
 intro pins s σ H Q I h
 refine wpAny_Call_Name_kw (f9 (hf pins s σ H _ I h) fun u s0 ⟨v,H0,I0,rv,ev,q0⟩=>?_)
 subst ev
 obtain rfl:u=Value.ref f:=rv
 refine sW (h₀:=X.base) I0.ok.mod.Y2 hk (f9 (ha pos pins s0 σ H0 _ I0 q0) fun us s1 ⟨vs,H1,I1,r,q⟩=>⟨I1.MP,?_⟩) he kF
 exact Ut F hr hb hd hx I1 r q
theorem Lh {prog:Program} {w:World} {A:Around} {s:Shared} {P:Fin->Shared->Prop} {E:Value->Shared->Prop} {a:Addr} {o:Obj} {n:Nat} {x y z:Str} {t u v:Tok} (ho:s.heap.get? a=some o) (hc:o.cls=.type "tuple") (hd:o.data=.seq #[.str x t,.str y u] n)
  (hz:z=x\/(z=y/\z≠x)) (h:∀ tk,P (.done (.ret (.int (if z=x then 0 else 1) tk))) { s with toks:=tk+1 }):wpAny (model prog w) A (Builtin.«tuple.index» ⟨[.ref a,.str z v],[]⟩) P E s:=by
 have hT:s.TypeIs (.ref a) "tuple":=⟨o,ho,hc⟩
 unfold Builtin.«tuple.index»
 refine wpAny_bind (wpAny_of_eq (show selfAndSome "tuple.index" "index" 1 3 ⟨[.ref a,.str z v],[]⟩=pure (.ref a,[.str z v]) from rfl) ?_)
 show wpAny _ _ (Builtin.Tuple.tupleItemsOf (.ref a) >>= _) _ _ s
 refine wpAny_bind (wpAny_tupleItemsOf ho hd ?_)
 refine wpAny_bind (wpAny_pure ?_)
 refine wpAny_bind (wpAny_pure ?_)
 show wpAny _ _ (forIn [0:2] _ _ >>= _) _ _ s
 rw [Std.Legacy.Range.forIn_eq_forIn_range']
 show wpAny _ _ (forIn [0,1] _ _ >>= _) _ _ s
 rw [rb]
 show wpAny _ _ ((eqBool (.str x t) (.str z v) >>= _) >>= _ >>= _) _ _ s
 refine wpAny_bind (wpAny_bind (wpAny_bind (wpAny_eqBool_str ?_)))
 by_cases e:x=z
 ·rw [decide_eq_true e]
  simp only [if_true]
  refine wpAny_bind ?_
  refine wpAny_bind (m:=mkInt _) (wpAny_mkInt (wpAny_pure ?_))
  have h1:=h s.toks
  rw [if_pos e.symm] at h1
  exact wpAny_pure (wpAny_pure (wpAny_pure h1))
 ·rw [decide_eq_false e]
  simp only [bW,if_false]
  refine wpAny_pure ?_
  have e2:y=z:=by
   rcases hz with q | q
   ·exact absurd q.symm e
   ·exact q.1.symm
  show wpAny _ _ (forIn [1] _ _) _ _ s
  rw [rb]
  show wpAny _ _ ((eqBool (.str y u) (.str z v) >>= _) >>= _) _ _ s
  refine wpAny_bind (wpAny_bind (wpAny_eqBool_str ?_))
  rw [decide_eq_true e2]
  simp only [if_true]
  refine wpAny_bind ?_
  refine wpAny_bind (m:=mkInt _) (wpAny_mkInt (wpAny_pure ?_))
  have h1:=h s.toks
  rw [if_neg (fun q=>e q.symm)] at h1
  exact wpAny_pure (wpAny_pure (wpAny_pure h1))
def XE (K:ab):V->List V->Hp->VK->Prop:=fun v xs H Q=>∃ (a:Addr) (x y z:Str),v=V.ref a/\xs=[.str z]/\KTup K a [.str x,.str y]/\(z=x\/(z=y/\z≠x))/\Q (.int (if z=x then 0 else 1)) H
theorem S5:Ss X "tuple.index" (XE X.K):=by
 intro pins s σ H v0 xs v us Q I rx rxs h
 obtain ⟨a,x,y,z,rfl,rfl,⟨o,cq,n,h1,h2,_,h3,h4,h5⟩,hz,q⟩:=h
 cases rx
 obtain ⟨u,rfl,t,rfl⟩:=vals1 rxs
 have hits:∃ t u,cq=#[.str x t,.str y u]:=by
  obtain ⟨l⟩:=cq
  have h5:Vals [.str x,.str y] l:=h5
  cases h5 with
  | cons r1 r=>
   cases r with
   | cons r2 r=>
    cases r
    obtain ⟨t1,rfl⟩:=r1
    obtain ⟨t2,rfl⟩:=r2
    exact ⟨t1,t2,rfl⟩
 obtain ⟨t1,t2,rfl⟩:=hits
 refine wpAny_call_entry PySem.F.slot_tuple_index ⟨o,I.MP _ _ h1,h2⟩ PySem.F.entry_tuple_index (Lh (I.MP _ _ h1) h2 h3 hz fun tk=>⟨_,rfl,?_⟩) (PySem.F.args_tuple_index_2 _ _)
 exact ⟨.int _,H,I.tok _,⟨_,rfl⟩,q⟩
end
open Sem (wp)
open AutoSeq1 (wpAny_loadPart')
set_option maxRecDepth 8000 in
theorem EO (l:Addr) (items:Array Value) (n:Nat) (b:Addr) (Gp:Array Value) (n2:Nat) (dct:Option Addr) (sl:Array (Option Value)) (hs0:¬(!items.isEmpty&&Builtin.List.listTooLong (items.size+Gp.size))=true) (hs1:items.size<=sizeLine) (WE:items.size+Gp.size<=sizeLine+1):
  Meets (Builtin.«list.extend» ⟨[.ref l,.ref b],[]⟩) (fun _ R s=>s.heap.get? l=some { cls:=.type "list",dict:=none,data:=.seq items n,slots:=#[] }/\s.heap.get? b=some { cls:=.type "tuple",dict:=dct,data:=.seq Gp n2,slots:=sl }/\R (.ok (.ret Value.none)) { s with heap:=s.heap.update l (Obj.mapSeq fun x=>x++Gp),toks:=s.toks }):=
 .of_wp fun prog w A R s h=>by
  obtain ⟨hp,g,d,tk,os⟩:=s;obtain ⟨hl,hb,h⟩:=h;have f1:=AutoSeq1.idx_int;have f2:=AutoSeq1.sub_tuple_tuple;have f3:=AutoSeq1.sub_list_list;have f4:=AutoSeq1.sub_tuple_list;have f5:=AutoSeq1.sub_list_tuple;
  have hz':(items++Gp).size<=sizeLine+1:=by rw [Array.size_append];exact WE
  wp_walk using (wpAny_updateSeq hl rfl (hz:=hs1) (_hz':=hz')),wpAny_loadPart' hl,wpAny_loadPart' hb;exact ⟨_,rfl,h⟩
section
variable {X:Cx}
def Vp (K:ab):V->List V->Hp->VK->Prop:=fun x vs H Q=>∃ l b xs zs,x=.ref l/\vs=[.ref b]/\H l=some (.lst xs)/\oX K H b zs/\xs.length+zs.length<=sizeLine/\Q .jU (upd H l (.lst (xs++zs)))
theorem QG:MtM X "list.extend" (Vp X.K):=by
 intro pins s σ H x vs v us Q I rx rv h
 obtain ⟨l,b,xs,zs,rfl,rfl,hH,hB,hz,q⟩:=h
 cases rx
 obtain ⟨u,rfl,ru⟩:=rv.one
 cases ru
 obtain ⟨z,cq,n,r,hl,e⟩:=I.PQ hH
 obtain ⟨xr,r2,⟨o,e2,hc,n2,hd⟩,hz2⟩:=I.tuple hB
 have Fy:=r2.length
 obtain ⟨oc,od,dat,Hu⟩:=o
 obtain rfl:oc=.type "tuple":=hc
 obtain rfl:dat=.seq xr.toArray n2:=hd
 have hsz:cq.toArray.size+xr.toArray.size<=sizeLine:=by rw [aU,aU];omega
 have UA:¬ (!cq.toArray.isEmpty&&Builtin.List.listTooLong (cq.toArray.size+xr.toArray.size))=true:=by
  rw [M9 hsz,Bool.and_false]
  exact a6
 refine call_meets F.slot_list_extend ⟨_,e,rfl⟩ F.entry_list_extend (F.args_list_extend_2 _ _)
  (EO l cq.toArray n b xr.toArray n2 od Hu UA (by rw [aU];omega) (by omega)) ⟨e,e2,?_⟩
 refine ⟨.jU,_,I.W6 (its':=cq++xr) hH e (by simp) (r.append r2) ?_,rfl,q⟩
 rw [ao]
 omega
end
section
variable {prog:Program} {w:World} {A:Around} {E:Value->Shared->Prop} {l q I S:Addr} {xs:List V} {R:Result->Shared->Prop} {J:Shared->Prop}
theorem Vq (kf:Nat->Int) (hh:A.handled=none) (hlI:l≠I) (ZY:S≠I) (hl:∀ s,J s->∃ vs:List Value,s.heap.IsList l vs.toArray/\Vals xs vs)
  (hJ:∀ (s:Shared) (h':Heap) (tk:Nat),J s->(∀ b o,b∉[I,S]->s.heap.get? b=some o->h'.get? b=some o)->J { s with heap:=h',toks:=tk })
  (turn:∀ (i:Nat) (x:V) (v:Value),xs[i]?=some x->RelV x v->∀ (s:Shared) (oI oS:Obj),J s->s.heap.get? I=some oI->s.heap.get? S=some oS->(∀ x,oI.data≠.cell x)->(∀ x,oS.data≠.cell x)->
   wpAny (model prog w) A.in1 (call (.ref q) [v]) (fun z s'=>(∃ t,z=.int (kf i) t)/\J s'/\s'.heap.get? I=some oI/\s'.heap.get? S=some oS) (fun _ _=>False) s)
  (hR:∀ (i:Nat) (x:V) (v:Value) (s':Shared),xs[i]?=some x->RelV x v->(∀ j,j<xs.length->kf i>=kf j/\(j<i->kf i > kf j))->J s'->R (.ok (.ret v)) s'):
  ∀ (r j i:Nat) (s:Shared) (xb:V) (vb:Value) (tb:Tok) (c:Nat),xs.length - (j+1)=r->j+1<=xs.length->J s->s.heap.get? S=some (seqObj "list" #[vb,.int (kf i) tb] c)->s.heap.IsListIter I l (j+1)->xs[i]?=some xb->RelV xb vb->i<=j->
   (∀ j',j'<=j->kf i>=kf j'/\(j'<i->kf i > kf j'))->codeAny (model prog w) A (.builtin "max.loop" ⟨[.ref I,.ref q,.ref S],[]⟩) R s:=by
 have Ot:(toString "max"++toString ".loop":String)="max.loop":=by decide
 intro r
 induction r with
 | zero=>
  intro j i s xb vb tb c hr hj hs hS hit hxb ZZ hij R0
  have xk:j+1=xs.length:=by omega
  obtain ⟨vs,hlv,rel⟩:=hl s hs
  have W:=Walks.list (prog:=prog) (w:=w) (A:=A.in1) hh I l hlI vs.toArray
  have hsz:vs.toArray.size=xs.length:=by rw [aU,<-rel.length]
  refine codeAny_builtin oQ ?_
  rw [Around.under_plainId dE _]
  show wpAny _ A.in1 (seqItems? (.ref S) >>= _) _ _ _
  refine wpAny_bind (wpAny_seqItems hS rfl ?_)
  show wpAny _ A.in1 (tryCatch (pyNext (.ref I)) _ >>= _) _ _ _
  refine wpAny_bind (wpAny_tryCatch (W.done _ _ _ ⟨by rw [hsz,<-xk];exact hit,hlv⟩ fun h' tk' TX=>?_))
  have hS':=TX S _ (by simpa using ZY) hS
  have s1:=dk.update h' S (Obj.mapSeq fun _=>(#[]:Array Value))
  show wpAny _ A.in1 (updateSeq S (fun _=>#[]) >>= _) _ _ _
  refine wpAny_bind ?_
  refine wpAny_updateSeq hS' rfl (wpAny_bind (wpAny_letGo (wpAny_pure ?_)))
  refine hR i xb vb _ hxb ZZ (fun j' ZJ=>R0 j' (by omega)) ?_
  refine hJ s _ _ hs fun b o hb e=>?_
  have n1:b≠I:=fun z=>hb (by simp [z])
  have n2:b≠S:=fun z=>hb (by simp [z])
  exact (s1.2 b n2).trans (TX b o (by simpa using n1) e)
 | succ r ih=>
  intro j i s xb vb tb c hr hj hs hS hit hxb ZZ hij R0
  have iX:j+1<xs.length:=by omega
  obtain ⟨vs,hlv,rel⟩:=hl s hs
  have W:=Walks.list (prog:=prog) (w:=w) (A:=A.in1) hh I l hlI vs.toArray
  have hsz:vs.toArray.size=xs.length:=by rw [aU,<-rel.length]
  refine codeAny_builtin oQ ?_
  rw [Around.under_plainId dE _]
  show wpAny _ A.in1 (seqItems? (.ref S) >>= _) _ _ _
  refine wpAny_bind (wpAny_seqItems hS rfl ?_)
  show wpAny _ A.in1 (tryCatch (pyNext (.ref I)) _ >>= _) _ _ _
  refine wpAny_bind (wpAny_tryCatch (W.item (j+1) _ _ _ (by rw [hsz];exact iX) ⟨hit,hlv⟩ fun v h' tk' hP Vr TX=>?_))
  have hv:vs[j+1]?=some v:=by simpa using hP
  have hx:xs[j+1]?=some xs[j+1]:=a7 iX
  obtain ⟨v2,hv2,rv⟩:=rel.get hx
  rw [hv] at hv2
  cases hv2
  obtain ⟨oI',Z0,Y6,MM⟩:=id Vr.1
  have hS':=TX S _ (by simpa using ZY) hS
  have J1:J { s with heap:=h',toks:=tk' }:=hJ s h' tk' hs fun b o hb e=>TX b o (fun z=>hb (by simp at z;simp [z])) e
  show wpAny _ A.in1 (tryCatch (holding [v] (call (.ref q) [v])) _ >>= _) _ _ _
  refine wpAny_bind (wpAny_tryCatch (wpAny_holding (wpAny_mono (turn (j+1) _ v hx rv _ oI' _ J1 Z0 hS' (fun x z=>by rw [MM] at z;cases z) (fun x z=>by cases z)) (fun x PM he=>?_) fun _ _ hF=>hF.elim)))
  obtain ⟨⟨t2,rfl⟩,J2,hI2,YD⟩:=he
  have agc:PM.heap.IsListIter I l (j+1+1):=⟨oI',hI2,Y6,MM⟩
  show wpAny _ A.in1 (tryCatch (holding [v,.int (kf (j+1)) t2] (richCompare .Gt (.int (kf (j+1)) t2) (.int (kf i) tb) >>= _)) _ >>= _) _ _ _
  refine wpAny_bind (wpAny_tryCatch (wpAny_holding (wpAny_bind (CmpOf.ints_gt (prog:=prog) (w:=w) (A:=A.in1) (P:=fun i v=>∃ t,v=.int (kf i) t) kf (fun i v h=>h) (j+1) i _ _ _ _ _ ⟨t2,rfl⟩ ⟨tb,rfl⟩ ?_))))
  refine wpAny_bind (wpAny_holding (wpAny_truthy_bool ?_))
  refine wpAny_bind (wpAny_letGo (wpAny_pure ?_))
  by_cases hb':kf (j+1) > kf i
  ·have s1:=dk.update PM.heap S (Obj.mapSeq fun _=>#[v,.int (kf (j+1)) t2])
   obtain ⟨c2,Li⟩:∃ c2,(PM.heap.update S (Obj.mapSeq fun _=>#[v,.int (kf (j+1)) t2])).get? S=some (seqObj "list" #[v,.int (kf (j+1)) t2] c2):=⟨_,get?_update_seq YD fun _=>#[v,.int (kf (j+1)) t2]⟩
   simp only [hb',decide_true,if_true]
   refine wpAny_bind ?_
   refine wpAny_updateSeq YD rfl (wpAny_bind (wpAny_letGo ?_))
   rw [Ot]
   have hI3:=(s1.2 I ZY.symm).trans hI2
   refine wpAny_pure ⟨plainId_quiet dE _,ih (j+1) (j+1) _ _ v t2 c2 (by omega) iX (hJ PM _ PM.toks J2 (fun b o hb e=>(s1.2 b (fun z=>hb (by simp [z]))).trans e)) Li ⟨oI',hI3,Y6,MM⟩ hx rv (au _) fun j' ZJ=>?_⟩
   by_cases e:j'=j+1
   ·subst e
    exact ⟨by omega,fun _=>by omega⟩
   ·have YE:=R0 j' (by omega)
    have Vs:=YE.1
    exact ⟨by omega,fun _=>by omega⟩
  ·simp only [hb',decide_false,bW,if_false]
   refine wpAny_bind (wpAny_letGo ?_)
   rw [Ot]
   refine wpAny_pure ⟨plainId_quiet dE _,ih (j+1) i PM xb vb tb c (by omega) iX J2 YD agc hxb ZZ (by omega) fun j' ZJ=>?_⟩
   by_cases e:j'=j+1
   ·subst e
    exact ⟨by omega,fun _=>by omega⟩
   ·exact R0 j' (by omega)
end
def JL (P:Program) (w:World) (K:ab) (mg:Str->Option Value) (base:Heap) (N:List Str) (qual:Str) (scope:Scope) (f:Addr) (cd:Value) (cl:List (Str×Addr)) (A:Around) (outer:List Env) (s:Shared) (H:Hp):Cx where
 prog:=P
 w:=w
 K:=K
 mg:=mg
 base:=base
 A:=A.deeper (mf qual scope s.heap.objs.size f cd cl)
 N:=N
 Hx:=s
 Ym:=H
 env:=mf qual scope s.heap.objs.size f cd cl
 outer:=outer
 stack:=mf qual scope s.heap.objs.size f cd cl::outer
 ex:=[]
 calm:=true
 fn:=fun _=>false
 pn:=[]
 xe:=fun _ _=>False
structure yl (x y:Str) (sc:Scope):Prop where
 kind:sc.kind=.function
 co:sc.isCoroutine=false
 gen:sc.isGenerator=false
 cell:∀ z∈sc.names,z.2≠.cell
 par:sc.names.lookup x=some .local
 cap:sc.names.lookup y=some .free
 one:∀ z,sc.names.lookup z=some .free->z=y
 ne:x≠y
theorem XF {P:Program} {w:World} {K:ab} {mg:Str->Option Value} {base:Heap} {x y qual:Str} {scope:Scope} {f c' cy:Addr} {A:Around} {outer:List Env} {s:Shared} {H:Hp} {params:Arguments} {body:Expr} {pm E8 u uy:Value} {v vy:V} {t:TE} {Q:VK} {k:Nat}
  (S:yl x y scope) (hr:kE (k+1) A) (e0:Fw P w K mg base A outer s H)
  (ho:s.heap.get? f=some (cQ "<lambda>" qual params body scope [(y,cy)] pm c' E8)) (MQ:s.heap.CodeRec (.ref c') qual)
  (Gq:bindArgs (PySem.W.kla_fn "<lambda>" qual params body scope [(y,cy)] pm (.ref c') E8) ⟨[u],[]⟩=pure [(x,u)])
  (hc:s.heap.IsCell cy (some uy)) (hHc:H cy=none) (r:RelV v u) (ry:RelV vy uy)
  (xq:kE k (A.deeper (mf qual scope s.heap.objs.size f (.ref c') [(y,cy)]))->PE (JL P w K mg base [x,y] qual scope f (.ref c') [(y,cy)] A outer s H) body t) (hq:t [some v,some vy] H Q):
  codeAny (model P w) A (.call (.ref f) ⟨[u],[]⟩) (CR fw outer P w H s Q E0) s:=by
 refine PySem.W.kla_callFunE hr.depth ho rfl S.co S.gen rfl MQ ?_
 rw [Gq]
 have lim:s.heap.NoLimit:=e0.mod.nolimit.keeps fun b o e=>(e0.bs b o e).1
 refine wpAny_pure (wpAny_newFunctionEnv S.cell (fun z hz=>by rw [ay.mp hz];exact S.par) (fun h1 hns hsb=>⟨lim.fresh _ hsb,?_⟩) S.kind)
 show codeAny _ _ (.expr body (mf qual scope s.heap.objs.size f (.ref c') [(y,cy)])) _ _
 have hk1:∀ b o,s.heap.get? b=some o->h1.get? b=some o:=fun b o e=>hsb.extBut b o (cj (a8 e)) (aA _ e)
 refine PySem.W.kla_codeExpr ?_
 have Uw:∀ b:Addr,b∉(JL P w K mg base [x,y] qual scope f (.ref c') [(y,cy)] A outer s H).ex:=fun b z=>absurd (show b∈([]:List Addr) from z) (by simp)
 have R1:∀ z c,(JL P w K mg base [x,y] qual scope f (.ref c') [(y,cy)] A outer s H).env.cells.lookup z=some c->z=y/\c=cy:=fun z c e=>by
  have e:gA z [(y,cy)]=some c:=e
  rw [dD] at e
  cases hz:z==y with
  | true=>rw [hz] at e;exact ⟨eq_of_beq hz,(aj.inj e).symm⟩
  | false=>rw [hz] at e;cases e
 have YF:gA y [(y,cy)]=some cy:=by rw [dD,beq_self_eq_true]
 have I:Inv (JL P w K mg base [x,y] qual scope f (.ref c') [(y,cy)] A outer s H) [] [some v,some vy] H { s with heap:=h1,toks:=s.toks+[(x,u)].length }:=by
  refine ⟨⟨e0.mod,S.kind,rfl,rfl,au _,fun a b c h1 h2=>?_,fun a ha=>?_,fun a c hf _=>cF hf,fun _=>hr.hd,Around.frames_deeper e0.frames,.inr ⟨rfl,rfl⟩,fun b z=>absurd z (Uw b),e0.bs,e0.TN,fun b _ _=>Uw b,fun b z=>absurd z (Uw b),e0.Bq,e0.WU⟩,
   rfl,e0.bare,Un.kept hk1,⟨_,hns,fun i z av h1 h2 h3=>?_⟩,fun a c h=>?_,e0.cU.fresh (au _),fun a c h=>?_,fun p hp=>absurd (show p∈([]:List (Addr×Obj)) from hp) (by simp),e0.cU.kept hk1,rfl⟩
  ·exact (R1 a c h1).1.trans (R1 b c h2).1.symm
  ·have ha:scope.names.lookup a=some .cell\/scope.names.lookup a=some .free:=ha
   rcases ha with ha | ha
   ·exact absurd rfl (S.cell _ (PySem.mem_of_lookup ha))
   ·rw [S.one a ha];exact ⟨cy,YF⟩
  ·match i,h1,h2 with
   | 0,h1,h2=>
    have e1:x=z:=aj.inj h1
    have e2:v=av:=aj.inj (aj.inj h2)
    subst e1 e2
    refine ⟨u,r,.inl ⟨S.par,?_⟩⟩
    show gA x [(x,u)]=some u
    rw [dD,beq_self_eq_true]
   | 1,h1,h2=>
    have e1:y=z:=aj.inj h1
    have e2:vy=av:=aj.inj (aj.inj h2)
    subst e1 e2
    exact ⟨uy,ry,.inr ⟨.inr S.cap,cy,YF,hc.keeps hk1⟩⟩
   | i+2,h1,h2=>cases h1
  ·obtain ⟨rfl,rfl⟩:=R1 a c h
   exact ⟨_,hc.keeps hk1⟩
  ·obtain ⟨rfl,rfl⟩:=R1 a c h
   exact hHc
 refine wpAny_mono (xq (hr.deeper _) [] _ _ H Q I hq) (fun u' s' ⟨v',H',J,rv,q⟩=>?_) (fun _ _ hF=>hF.elim)
 exact ⟨v',H',J.os,J.bare,J.base,J.cU,rv,q⟩
def TabOk (H:Hp) (P:Addr) (qual:Str) (pos:Pos):Prop:=H P=some (.zo #[])\/∃ c',H P=some (.zo #[rawInt pos.line,rawInt pos.col,.ref c'])/\H c'=some (.ext fun h=>h.CodeRec (.ref c') qual)
theorem TabOk.on {H H':Hp} {P:Addr} {qual:Str} {pos:Pos} (h:TabOk H P qual pos) (s:aM H H'):TabOk H' P qual pos:=by
 rcases h with h | ⟨c,h1,h2⟩
 ·exact .inl (s _ _ h)
 ·exact .inr ⟨c,s _ _ h1,s _ _ h2⟩
section
variable {X:Cx} {pins:List (Addr×Obj)} {σ:L2.St} {H:Hp} {s:Shared}
theorem S6 {h':Heap} {t':Nat} {Pt c':Addr} {ps more:Array Value} {o:HO} (I:Inv X pins σ H s) (hP:H Pt=some (.zo ps)) (hx:Heap.ExtBut Pt s.heap h') (hP':h'.get? Pt=some { cls:=.none,data:=.fields (ps++more) }) (hc:s.heap.objs.size<=c')
  (tG:∀ xs,o≠.tup xs) (new:f6 X.prog X.w (upd (upd H c' o) Pt (.zo (ps++more))) h' c' o):Inv X pins σ (upd (upd H c' o) Pt (.zo (ps++more))) { s with heap:=h',toks:=t' }:=by
 have hcn:H c'=none:=I.cU.fresh hc
 have hcP:c'≠Pt:=fun e=>by rw [e,hP] at hcn;cases hcn
 have old:∀ b u,H b=some u->b≠Pt->(upd (upd H c' o) Pt (.zo (ps++more))) b=some u:=fun b u e n=>by rw [aD n,aD (aV e hcn)];exact e
 refine I.un ⟨fun b ob q n _ _=>hx b ob (fun e=>by rw [e,hP] at n;cases n) q,fun b ob q n _ _=>⟨ob.slots,hx b ob (fun e=>by rw [e,hP] at n;cases n) q⟩,fun b ob q n _=>?_,fun b ob q _=>?_,fun b xs e=>old b _ e (dX e hP (fun z=>nomatch z)),fun b ob u e=>old b _ e (dX e hP (fun z=>nomatch z)),fun b qs e=>?_⟩ ?_
 ·have n1:b≠Pt:=fun e=>by rw [e,hP] at n;cases n
  have n2:b≠c':=cj (bo (a8 q) hc)
  rw [aD n1,aD n2];exact n
 ·by_cases hb:b=Pt
  ·rw [hb];exact ⟨_,hP'⟩
  ·exact ⟨ob,hx b ob hb q⟩
 ·by_cases hb:b=Pt
  ·subst hb
   rw [hP] at e
   cases e
   exact ⟨more,ae⟩
  ·exact ⟨#[],by rw [old b _ e hb];simp⟩
 ·intro b u e
  by_cases hb:b=Pt
  ·subst hb
   rw [ae] at e
   cases e
   exact hP'
  ·rw [aD hb] at e
   by_cases hbc:b=c'
   ·subst hbc
    rw [ae] at e
    cases e
    exact new
   ·rw [aD hbc] at e
    refine (I.cU b u e).EC (fun c v Rl q=>hx c v ?_ q) (fun c q=>old c _ q (dX q hP (fun z=>nomatch z))) fun c xs q=>old c _ q (dX q hP (fun z=>nomatch z))
    rcases Rl with rfl | Rl
    ·exact hb
    ·exact dX Rl hP (fun z=>nomatch z)
theorem QH {h':Heap} {t':Nat} {ch:List Addr} (I:Inv X pins σ H s) (k:∀ b o,b∉ch->s.heap.get? b=some o->h'.get? b=some o) (hf:∀ b∈ch,Aj X pins H b):Inv X pins σ H { s with heap:=h',toks:=t' }:=by
 have Ud:∀ b u,H b=some u->b∉ch:=fun b u e z=>by
  have q:=(hf b z).1
  rw [q] at e;cases e
 refine I.step (g':=s.gens) (d':=s.drawn) (ch:=ch) (fun b hb=>⟨(hf b hb).2.2.2.1,(hf b hb).2.1,(hf b hb).2.2.2.2.1,(hf b hb).2.2.2.2.2⟩) (fun b o _ _ hc e _=>k b o hc e) (fun b o _ _ hc e _=>⟨o.slots,k b o hc e⟩)
  (fun _ _ _ _ n=>n) (fun b o hc e=>⟨o,k b o hc e⟩) (fun _ _ e=>e) (fun _ _ _ e=>e) (fun b ps e=>⟨#[],by rw [e];simp⟩) (fun m hm=>?_) (fun b u e=>?_) I.bare
 ·obtain ⟨o,es,ep,ho,r⟩:=hm
  exact ⟨o,es,ep,k _ o (fun z=>(hf _ z).2.1 rfl) ho,r⟩
 ·refine (I.cU b u e).EC (fun c v hc q=>k c v ?_ q) (fun _ q=>q) fun _ _ q=>q
  rcases hc with z | z
  ·rw [z];exact Ud b u e
  ·exact Ud c _ z
end
def BMain (base:Heap) (mg:Str->Option Value):Prop:=∃ bm o,mg "__builtins__"=some (.ref bm)/\bm≠builtinsNs/\bm≠mainGlobals/\base.get? bm=some o/\o.cls=.type "module"/\o.dict=some builtinsNs/\o.data=.plain
def acP (K:ab) (Pt:Addr) (lq:Str) (ym:Pos) (iy:Nat) (te tb:TE):TE:=fun σ H Q=>te σ H fun x H1=>∃ (a:Addr) (xs:List V) (ks:Nat->Int) (vy:V),x=.ref a/\bO K H1 a xs/\0<xs.length/\σ[iy]?=some (some vy)/\TabOk H1 Pt lq ym/\
 ∀ H2,TabOk H2 Pt lq ym->bh [Pt] H1 H2->(∀ i v,xs[i]?=some v->tb [some v,some vy] H2 fun z H3=>z=.int (ks i)/\H3=H2)/\
  ∀ i v,xs[i]?=some v->(∀ j,j<xs.length->ks i>=ks j/\(j<i->ks i > ks j))->Q v H2
section
variable {X:Cx}
theorem Z1 {pins:List (Addr×Obj)} {σ:L2.St} {H:Hp} {s:Shared} {Q:VK} {x y lq:Str} {lscope:Scope} {params:Arguments} {body:Expr} {tb:TE} {k:Nat} {a f c' cy:Addr} {xs:List V} {ks:Nat->Int} {vy:V} {uy pm E8:Value}
  (S:yl x y lscope) (Vt:X.calm=true) (hr:kE (k+2) X.A) (I:Inv X pins σ H s) (hs:bO X.K H a xs) (tH:0<xs.length)
  (ho:s.heap.get? f=some (cQ "<lambda>" lq params body lscope [(y,cy)] pm c' E8)) (Y5:H f=none) (hfl:f≠X.env.locals) (hff:f∉X.fs) (MQ:∀ h,w8 X.prog X.w H h->h.CodeRec (.ref c') lq)
  (Gq:∀ u,bindArgs (PySem.W.kla_fn "<lambda>" lq params body lscope [(y,cy)] pm (.ref c') E8) ⟨[u],[]⟩=pure [(x,u)])
  (Z2:X.env.kindOf y=some .cell) (Z3:X.env.cells.lookup y=some cy) (Fl:s.heap.IsCell cy (some uy)) (ry:RelV vy uy) {iy:Nat} (hiy:X.N[iy]?=some y) (hsy:σ[iy]?=some (some vy))
  (xq:∀ (A:Around) (outer:List Env) (s:Shared) (H:Hp),kE k (A.deeper (mf lq lscope s.heap.objs.size f (.ref c') [(y,cy)]))->PE (JL X.prog X.w X.K X.mg X.base [x,y] lq lscope f (.ref c') [(y,cy)] A outer s H) body tb)
  (ht:∀ i v,xs[i]?=some v->tb [some v,some vy] H fun z H3=>z=.int (ks i)/\H3=H) (hq:∀ i v,xs[i]?=some v->(∀ j,j<xs.length->ks i>=ks j/\(j<i->ks i > ks j))->Q v H):
  wpAny (model X.prog X.w) X.A (call (.builtin "max") [.ref a] [(Str.ofString "key",.ref f)]) (EP X pins σ Q) X.xe s:=by
 have Ot:(toString "max"++toString ".loop":String)="max.loop":=by decide
 obtain ⟨cq,rv,pl,hz⟩:=I.list hs
 have hlen:=rv.length
 have Z4:s.heap.IsList a cq.toArray:=pl.isList
 have Z5:a<s.heap.objs.size:=by obtain ⟨_,e,_⟩:=Z4;exact a8 e
 have hh:=I.ok.hd Vt
 have hfs:f<s.heap.objs.size:=a8 ho
 refine kmk_tree PySem.F.kind_max PySem.F.plain_max PySem.F.entry_max (kmk_max_key _ _) ?_
 show wpAny _ X.A.in1 (Builtin.Builtins.bindParams "max" ["key","default"] 0 ⟨[],[(Str.ofString "key",.ref f)]⟩ >>= _) _ _ s
 refine wpAny_bind (wpAny_of_eq (show Builtin.Builtins.bindParams "max" ["key","default"] 0 ⟨[],[(Str.ofString "key",.ref f)]⟩=pure [some (.ref f),none] from rfl) ?_)
 refine wpAny_bind (wpAny_pure ?_)
 refine wpAny_bind (wpAny_pyIter_list Z4 ?_)
 refine wpAny_bind (wpAny_newList ?_ (a0 _))
 rw [Ot]
 refine wpAny_pure ⟨plainId_quiet dE _,?_⟩
 obtain ⟨It,YG⟩:∃ b,b=s.heap.objs.size:=⟨_,rfl⟩
 have hS:(s.heap.push { cls:=.type "list_iterator",data:=.fields #[.ref a,.int 0 0] }).objs.size=It+1:=by rw [YG];exact size_push' ..
 rw [hS,<-YG]
 have gI:((s.heap.push { cls:=.type "list_iterator",data:=.fields #[.ref a,.int 0 0] }).push (seqObj "list" #[] 0)).get? It=some { cls:=.type "list_iterator",data:=.fields #[.ref a,.int 0 0] }:=by
  rw [YG];exact aA _ (aQ _ rfl)
 have gS:((s.heap.push { cls:=.type "list_iterator",data:=.fields #[.ref a,.int 0 0] }).push (seqObj "list" #[] 0)).get? (It+1)=some (seqObj "list" #[] 0):=by
  rw [<- hS];exact aQ _ rfl
 have kp0:∀ b o,s.heap.get? b=some o->((s.heap.push { cls:=.type "list_iterator",data:=.fields #[.ref a,.int 0 0] }).push (seqObj "list" #[] 0)).get? b=some o:=fun b o e=>aA _ (aA _ e)
 have haI:a≠It:=by rw [YG];exact cj Z5
 have ZY:It+1≠It:=by omega
 let J:Shared->Prop:=fun s'=>Inv X (pins++[(f,cQ "<lambda>" lq params body lscope [(y,cy)] pm c' E8)]) σ H s'
 have agi:∀ p∈pins++[(f,cQ "<lambda>" lq params body lscope [(y,cy)] pm c' E8)],s.heap.get? p.1=some p.2/\H p.1=none/\p.1≠X.env.locals/\p.1∉X.fs/\∀ v,p.2.data≠.cell v:=fun p hp=>by
  rcases bS.mp hp with hp | hp
  ·exact I.pin p (bq _ hp)
  ·rw [ay.mp hp]
   exact ⟨ho,Y5,hfl,hff,fun v z=>nomatch z⟩
 have I0:J s:=I.zp agi
 have fpI:Aj X (pins++[(f,cQ "<lambda>" lq params body lscope [(y,cy)] pm c' E8)]) H It:=I0.J8 (by rw [YG];exact au _) (I.cU.fresh (by rw [YG];exact au _))
 have fpS:Aj X (pins++[(f,cQ "<lambda>" lq params body lscope [(y,cy)] pm c' E8)]) H (It+1):=I0.J8 (by rw [YG];exact lF _) (I.cU.fresh (by rw [YG];exact lF _))
 have YH:∀ s',J s'->∃ vs:List Value,s'.heap.IsList a vs.toArray/\Vals xs vs:=fun s' I'=>by
  obtain ⟨its',rv',qp,_⟩:=Inv.list I' hs
  exact ⟨its',qp.isList,rv'⟩
 have hJ:∀ (s':Shared) (h':Heap) (tk:Nat),J s'->(∀ b o,b∉[It,It+1]->s'.heap.get? b=some o->h'.get? b=some o)->J { s' with heap:=h',toks:=tk }:=fun s' h' tk I' kk=>by
  refine QH (ch:=[It,It+1]) I' kk fun b hb=>?_
  rcases aw.mp hb with e | hb
  ·rw [e];exact fpI
  ·rw [ay.mp hb];exact fpS
 have turn:∀ (i:Nat) (x1:V) (v:Value),xs[i]?=some x1->RelV x1 v->∀ (s:Shared) (oI oS:Obj),J s->s.heap.get? It=some oI->s.heap.get? (It+1)=some oS->(∀ x,oI.data≠.cell x)->(∀ x,oS.data≠.cell x)->
   wpAny (model X.prog X.w) X.A.in1 (call (.ref f) [v]) (fun z s'=>(∃ t,z=.int (ks i) t)/\J s'/\s'.heap.get? It=some oI/\s'.heap.get? (It+1)=some oS) (fun _ _=>False) s:=by
  intro i x1 v hx1 rx s2 oI oS I2 hoI hoS nI nS
  have I2:Inv X (pins++[(f,cQ "<lambda>" lq params body lscope [(y,cy)] pm c' E8)]) σ H s2:=I2
  have pf:=I2.pin (f,cQ "<lambda>" lq params body lscope [(y,cy)] pm c' E8) (bq _ (bq _ (ay.mpr rfl)))
  have I3:Inv X (pins++[(f,cQ "<lambda>" lq params body lscope [(y,cy)] pm c' E8)]++[(It,oI),(It+1,oS)]) σ H s2:=I2.zp fun p hp=>by
   rcases bS.mp hp with hp | hp
   ·exact I2.pin p (bq _ hp)
   ·rcases aw.mp hp with e | hp
    ·rw [e];exact ⟨hoI,fpI.1,fpI.2.1,fpI.2.2.1,nI⟩
    ·rw [ay.mp hp];exact ⟨hoS,fpS.1,fpS.2.1,fpS.2.2.1,nS⟩
  obtain ⟨m,hn,hlk⟩:=I2.loc
  obtain ⟨uy2,ry2,lk⟩:=hlk iy y vy hiy hsy (.inr (.inl Z2))
  have Z6:s2.heap.IsCell cy (some uy2):=by
   rcases lk with ⟨z,_⟩ | ⟨_,c2,e2,z⟩
   ·rw [Z2] at z;cases z
   ·rw [Z3] at e2;cases e2;exact z
  refine wpAny_call (codeAny_mono (XF (x:=x) (y:=y) (k:=k) (v:=x1) (vy:=vy) (Q:=fun z H3=>z=.int (ks i)/\H3=H) S hr.in1 I3.Ze.in1 pf.1 (MQ _ I2.cU) (Gq v) Z6 (I2.tF y cy Z3) rx ry2 (fun WM=>xq _ _ _ _ WM) (ht i x1 hx1)) fun r s' hqq=>?_)
  cases r with
  | error e=>exact hqq.elim
  | ok fl=>
   cases fl with
   | ret u=>
    obtain ⟨z,H3,I4,rz,ez,eH⟩:=I3.after hqq
    subst ez eH
    obtain ⟨t,rfl⟩:=rz
    refine ⟨⟨t,rfl⟩,I4.zp fun p hp=>I4.pin p (bq _ (lE _ hp)),?_,?_⟩
    ·exact (I4.pin (It,oI) (bq _ (bq _ (.head _)))).1
    ·exact (I4.pin (It+1,oS) (bq _ (bq _ (.tail _ (.head _))))).1
   | next=>exact False.elim hqq
   | brk=>exact False.elim hqq
   | cont=>exact False.elim hqq
 have hR:∀ (i:Nat) (x1:V) (v:Value) (s':Shared),xs[i]?=some x1->RelV x1 v->(∀ j,j<xs.length->ks i>=ks j/\(j<i->ks i > ks j))->J s'->(match (Except.ok (Flow.ret v):Result) with | .ok (.ret v)=>EP X pins σ Q v s' | .ok _=>False | .error e=>X.xe e s'):=fun i x1 v s' hx1 rx hb I'=>by
  have I':Inv X (pins++[(f,cQ "<lambda>" lq params body lscope [(y,cy)] pm c' E8)]) σ H s':=I'
  exact ⟨x1,H,I'.zp fun p hp=>I'.pin p (bq _ (lE _ hp)),rx,hq i x1 hx1 hb⟩
 have W:=Walks.list (prog:=X.prog) (w:=X.w) (A:=X.A.in1) hh It a haI cq.toArray
 have hsz:cq.toArray.size=xs.length:=by rw [aU,<-hlen]
 have J0:J { s with heap:=(s.heap.push { cls:=.type "list_iterator",data:=.fields #[.ref a,.int 0 0] }).push (seqObj "list" #[] 0) }:=hJ s _ s.toks I0 fun b o _ e=>kp0 b o e
 refine codeAny_builtin oQ ?_
 rw [Around.under_plainId dE _]
 show wpAny _ X.A.in1 (seqItems? (.ref _) >>= _) _ _ _
 refine wpAny_bind (wpAny_seqItems gS rfl ?_)
 show wpAny _ X.A.in1 (tryCatch (pyNext (.ref It)) _ >>= _) _ _ _
 obtain ⟨vs0,agl,acR⟩:=YH _ J0
 have W:=Walks.list (prog:=X.prog) (w:=X.w) (A:=X.A.in1) hh It a haI vs0.toArray
 have agm:vs0.toArray.size=xs.length:=by rw [aU,<-acR.length]
 refine wpAny_bind (wpAny_tryCatch (W.item 0 _ _ _ (by rw [agm];exact tH) ⟨⟨_,gI,rfl,rfl⟩,agl⟩ fun v h' tk' hP Vr TX=>?_))
 have hv:vs0[0]?=some v:=by simpa using hP
 have hx0:xs[0]?=some xs[0]:=a7 tH
 obtain ⟨v2,hv2,ZA⟩:=acR.get hx0
 rw [hv] at hv2
 cases hv2
 obtain ⟨oI',Z0,Y6,MM⟩:=id Vr.1
 have gS':=TX (It+1) _ (by simpa using ZY) gS
 have J1:J { s with heap:=h',toks:=tk' }:=hJ { s with heap:=(s.heap.push { cls:=.type "list_iterator",data:=.fields #[.ref a,.int 0 0] }).push (seqObj "list" #[] 0) } h' tk' J0 fun b o hb e=>TX b o (fun z=>hb (by simp at z;simp [z])) e
 show wpAny _ X.A.in1 (tryCatch (holding [v] (call (.ref f) [v])) _ >>= _) _ _ _
 refine wpAny_bind (wpAny_tryCatch (wpAny_holding (wpAny_mono (turn 0 _ v hx0 ZA _ oI' _ J1 Z0 gS' (fun x z=>by rw [MM] at z;cases z) (fun x z=>by cases z)) (fun z PM he=>?_) fun _ _ hF=>hF.elim)))
 obtain ⟨⟨t2,rfl⟩,J2,hI2,YD⟩:=he
 have s1:=dk.update PM.heap (It+1) (Obj.mapSeq fun _=>#[v,.int (ks 0) t2])
 obtain ⟨c2,Li⟩:∃ c2,(PM.heap.update (It+1) (Obj.mapSeq fun _=>#[v,.int (ks 0) t2])).get? (It+1)=some (seqObj "list" #[v,.int (ks 0) t2] c2):=⟨_,get?_update_seq YD fun _=>#[v,.int (ks 0) t2]⟩
 show wpAny _ X.A.in1 (updateSeq (It+1) (fun _=>#[v,.int (ks 0) t2]) >>= _) _ _ _
 refine wpAny_bind ?_
 refine wpAny_updateSeq YD rfl ?_
 rw [Ot]
 have hI3:=(s1.2 It ZY.symm).trans hI2
 refine wpAny_pure ⟨plainId_quiet dE _,Vq (xs:=xs) (J:=J) ks hh haI ZY YH hJ turn hR _ 0 0 _ _ v t2 c2 rfl tH (hJ PM _ PM.toks J2 (fun b o hb e=>(s1.2 b (fun z=>hb (by simp [z]))).trans e)) Li ⟨oI',hI3,Y6,MM⟩ hx0 ZA (au _) fun j' ZJ=>?_⟩
 have e:j'=0:=by omega
 subst e
 exact ⟨by omega,fun z=>absurd z (by omega)⟩
theorem JM {e:Expr} {te tb:TE} {x y lq:Str} {lscope:Scope} {params:Arguments} {body:Expr} {p pos ym kp:Pos} {k iy:Nat} {c Pt:Addr} (hB:BMain X.base X.mg) (hg:Gl X "max") (hm:X.mg "max"=none) (YI:X.env.code=.ref c) (hC:pV X.K c Pt=true)
  (S:yl x y lscope) (hlq:X.env.qual++"<lambda>"=lq) (Z2:X.env.kindOf y=some .cell) (hiy:X.N[iy]?=some y) (hr:kE (k+2) X.A) (Vt:X.calm=true)
  (he:PE X e te)
  (xq:∀ (f:Addr) (cd:Value) (cl:List (Str×Addr)) (A:Around) (outer:List Env) (s:Shared) (H:Hp),kE k (A.deeper (mf lq lscope s.heap.objs.size f cd cl))->PE (JL X.prog X.w X.K X.mg X.base [x,y] lq lscope f cd cl A outer s H) body tb)
  (acS:∀ cells,fh cells lscope.names []=[(y,(cells.lookup y).getD 0)]:=by intro _;rfl) (agn:defaultsOf params X.env=([],[]):=by rfl)
  (Gq:∀ cl pm c' E8 u,bindArgs (PySem.W.kla_fn "<lambda>" lq params body lscope cl pm (.ref c') E8) ⟨[u],[]⟩=pure [(x,u)]:=by intro _ _ _ _ _;rfl)
  (hs:starEach [e] X.env=[(false,eval e X.env)]:=by rfl):
  PE X (.Call (.Name "max" p) [e] [⟨some "key",.Lambda params body lscope ym,kp⟩] pos) (acP X.K Pt lq ym iy te tb):=by
 intro pins s σ H Q I h
 refine wpAny_Call_Name_kw (tY I hg hm boot_max (callWith_kw ?_ (by rw [hs];rfl) (by rw [hs];rfl)))
 rw [hs]
 refine Calls.spliced_cons (f9 (he pins s σ H _ I h) fun u s1 ⟨xv,H1,I1,rx,a,xs,ks,vy,ex,hsq,tH,hsy,XG,ZI⟩=>Calls.spliced_nil ?_)
 subst ex
 obtain rfl:u=Value.ref a:=rx
 refine kws_cons (env:=X.env) (pos:=pos) (name:="key") (kp:=kp) (rest:=[]) ?_
 obtain ⟨cy,Z3⟩:=I1.ok.has y (.inl Z2)
 have EX:closureFor lscope X.env=pure [(y,cy)]:=by
  rw [FA (fun z hz ez=>?_),acS,Z3]
  ·rfl
  ·have hl:lscope.names.lookup z.1=some z.2\/True:=.inr trivial
   obtain ⟨zn,zk⟩:=z
   have ez:zk=.free:=ez
   subst ez
   have:=tJ (cells:=X.env.cells) (acc:=[]) hz
   rw [acS] at this
   have e2:=ay.mp this
   injection e2 with e3 e4
   rw [e3];exact ⟨cy,Z3⟩
 have hgl:s1.heap.Ns mainGlobals X.mg:=I1.mod.glob.keeps I1.bk
 have hCd:PySem.W.CodeHd s1.heap c Pt:=PySem.W.codeHd_of_K I1.MP hC
 have hgP:∀ {ps:Array Value},H1 Pt=some (.zo ps)->mainGlobals≠Pt:=fun hP z=>by
  obtain ⟨o,_,_,e,_⟩:=I1.mod.glob
  have:=(I1.bs _ _ e).2
  rw [z,hP] at this;cases this
 have hBA:∀ {ps:Array Value},H1 Pt=some (.zo ps)->s1.heap.BuiltinsAt X.mg Pt:=fun hP=>by
  obtain ⟨bm,o,b1,b2,b3,b4,b5,b6,b7⟩:=hB
  refine ⟨bm,o,b1,b2,b3,fun z=>?_,I1.bk _ _ b4,b5,b6,b7⟩
  have:=(I1.bs _ _ b4).2
  rw [z,hP] at this;cases this
 refine PySem.W.kla_eval agn ?_
 rw [hlq]
 have go:∀ (H2:Hp) (s2:Shared) (f c':Addr) (E8:Value) (cd':Value),Inv X pins σ H2 s2->TabOk H2 Pt lq ym->bh [Pt] H1 H2->s2.heap.get? f=some (cQ "<lambda>" lq params body lscope [(y,cy)] ((X.mg "__name__").getD .none) c' E8)->H2 f=none->f≠X.env.locals->f∉X.fs->
   (∀ h,w8 X.prog X.w H2 h->h.CodeRec (.ref c') lq)->wpAny (model X.prog X.w) X.A (evalAll ((backToKw pos (keywordEach [] X.env)).map (·.2))) (fun vs s'=>wpAny (model X.prog X.w) X.A (call (.builtin "max") [.ref a] (((backToKw pos (keywordEach [⟨some "key",.Lambda params body lscope ym,kp⟩] X.env)).filterMap (·.1)).zip (.ref f::vs))) (EP X pins σ Q) X.xe s') X.xe s2:=by
  intro H2 s2 f c' E8 cd' I2 Z7 se2 ho Y5 hfl hff MQ
  refine kws_nil ?_
  have hPa:a∉[Pt]:=fun z=>by
   have e:=ay.mp z
   subst e
   rcases XG with q | ⟨_,q,_⟩
   ·rcases hsq with (q2 | ⟨o,q2⟩) | ⟨o,_,_,q2,_⟩
    ·rw [q] at q2;cases q2
    ·rw [q] at q2;cases q2
    ·have:=I1.mod.Y2 a o q2
     have:=(I1.bs _ _ this).2
     rw [q] at this;cases this
   ·rcases hsq with (q2 | ⟨o,q2⟩) | ⟨o,_,_,q2,_⟩
    ·rw [q] at q2;cases q2
    ·rw [q] at q2;cases q2
    ·have:=I1.mod.Y2 a o q2
     have:=(I1.bs _ _ this).2
     rw [q] at this;cases this
  obtain ⟨Vs,Z8⟩:=ZI H2 Z7 se2
  obtain ⟨m,hn,hlk⟩:=I2.loc
  obtain ⟨uy,ry,lk⟩:=hlk iy y vy hiy hsy (.inr (.inl Z2))
  have Fl:s2.heap.IsCell cy (some uy):=by
   rcases lk with ⟨z,_⟩ | ⟨_,c2,e2,z⟩
   ·rw [Z2] at z;cases z
   ·rw [Z3] at e2;cases e2;exact z
  exact Z1 S Vt hr I2 (se2.seq hPa hsq) tH ho Y5 hfl hff MQ (Gq _ _ _ _) Z2 Z3 Fl ry hiy hsy (fun A outer s H WM=>xq _ _ _ A outer s H WM) Vs Z8
 rcases XG with hP | ⟨c0,hP,hc0⟩
 ·
  have hPo:s1.heap.get? Pt=some (PySem.W.tabObj #[]):=I1.cU Pt _ hP
  refine PySem.W.kla_makeFunction (mg:=X.mg) EX I1.ok.glob hgl YI hCd hPo trivial rfl (hgP hP) (hBA hP) fun c' E8 h' tk hx hge iX acT htb=>?_
  have ags:f6 X.prog X.w (upd (upd H1 c' (.ext fun h=>h.CodeRec (.ref c') lq)) Pt (.zo (#[]++#[rawInt ym.line,rawInt ym.col,.ref c']))) h' c' (.ext fun h=>h.CodeRec (.ref c') lq):=by
   obtain ⟨c2,oc,vs,tq,e2,g2,r2⟩:=id acT
   cases e2
   exact ⟨acT,⟨oc,g2⟩,fun h1 h2 ⟨c3,o3,v3,t3,e3,g3,r3⟩ kk=>by cases e3;exact ⟨_,o3,v3,t3,rfl,kk _ g3,r3⟩⟩
  have I2:Inv X pins σ (upd (upd H1 c' (.ext fun h=>h.CodeRec (.ref c') lq)) Pt (.zo (#[]++#[rawInt ym.line,rawInt ym.col,.ref c']))) { s1 with heap:=h',toks:=tk }:=S6 I1 hP hx htb hge (fun _ z=>nomatch z) ags
  have hcP:c'≠Pt:=fun z=>by
   have:=I1.cU.fresh hge
   rw [z,hP] at this;cases this
  have I3:Inv X pins σ (upd (upd H1 c' (.ext fun h=>h.CodeRec (.ref c') lq)) Pt (.zo (#[]++#[rawInt ym.line,rawInt ym.col,.ref c']))) { s1 with heap:=h'.push (cQ "<lambda>" lq params body lscope [(y,cy)] ((X.mg "__name__").getD .none) c' E8),toks:=tk }:=I2.kept (fun b o e=>aA _ e)
  refine go _ _ h'.objs.size c' E8 .none I3 (.inr ⟨c',?_,?_⟩) ?_ (aQ _ rfl) (I2.cU.fresh (au _)) (rM I2.lt) (I2.Y3 (au _)) (fun h hk=>?_)
  ·rw [ae];simp
  ·rw [aD hcP];exact ae
  ·exact bh.upd (bh.of (aM.new (I1.cU.fresh hge))) (by simp)
  ·exact (hk c' (.ext fun h=>h.CodeRec (.ref c') lq) (by rw [aD hcP];exact ae)).1
 ·
  have hPo:s1.heap.get? Pt=some (PySem.W.tabObj #[rawInt ym.line,rawInt ym.col,.ref c0]):=I1.cU Pt _ hP
  refine PySem.W.kla_makeFunctionHit (mg:=X.mg) (cv:=.ref c0) EX I1.ok.glob hgl YI hCd hPo (show TriplesOk [rawInt ym.line,rawInt ym.col,.ref c0] from trivial) ?_ (hBA hP) fun E8 h' tk hk hsz=>?_
  ·exact codeAmong_snoc (c:=.ref c0) [] trivial rfl
  have I2:Inv X pins σ H1 { s1 with heap:=h',toks:=tk }:=I1.kept hk
  have I3:Inv X pins σ H1 { s1 with heap:=h'.push (cQ "<lambda>" lq params body lscope [(y,cy)] ((X.mg "__name__").getD .none) c0 E8),toks:=tk }:=I2.kept (fun b o e=>aA _ e)
  exact go _ _ h'.objs.size c0 E8 .none I3 (.inr ⟨c0,hP,hc0⟩) (bh.of fun _ _ e=>e) (aQ _ rfl) (I2.cU.fresh (au _)) (rM I2.lt) (I2.Y3 (au _)) (fun h hk=>(hk c0 _ hc0).1)
end
theorem Dc {ns:List Nat} {i:Nat} {y:V} (h:(ns.map vN)[i]?=some y):∃ n,ns[i]?=some n/\y=vN n:=by
 rw [ax] at h
 obtain ⟨n,h1,h2⟩:=aZ.mp h
 exact ⟨n,h1,h2.symm⟩
theorem zip_get {α β:Type} {l:List α} {m:List β} {i:Nat} {x:α} {y:β} (h1:l[i]?=some x) (h2:m[i]?=some y):(l.zip m)[i]?=some (x,y):=by
 rw [List.getElem?_zip_eq_some];exact ⟨h1,h2⟩
theorem Vu (l:List (Nat×Nat)):∀ k:Nat,((l.foldl (fun a p=>a+p.2) k:Nat):Int)=k+(l.map fun p=>(p.2:Int)).sum:=by
 induction l with
 | nil=>intro k;simp
 | cons p l ih=>
  intro k
  rw [c7,ih,aC,uL]
  omega
section
variable {P:Program} {w:World} {K:ab} {mg:Str->Option Value} {base:Heap} {t:uZ}
def Gr (K:ab):Sp:=fun vs H Q _=>∃ (a b:Addr) (r:aR) (c:List Nat) (t:Nat),vs=[.ref a,.ref b,vN t]/\bO K H a (r.points.map vN)/\bO K H b (c.map vN)/\c.length<sizeLine/\∀ H',aM H H'->Q (vN (bU r c t)) H'
def S7 (l:List (Nat×Nat)) (t:Nat):List V:=((l.filter fun p=>p.1==t).map fun p=>(p.2:Int)).map V.int
theorem Vv (l:List (Nat×Nat)) (t:Nat):(S7 l t).length<=l.length:=by
 unfold S7
 rw [U,U]
 exact ku _ _
theorem yn (T:Txt K mg t):bY P w K mg base fw 1 t.iH t.j4 ["points","teams","team"] (Gr K):=by
 refine T.fB.ok oy (fun vs H Q E h=>?_) (fun eW A outer s H vs Q E hr h=>?_)
 ·obtain ⟨a,b,r,c,t,rfl,_⟩:=h
  rfl
 ·obtain ⟨a,b,r,c,u,rfl,ha,hb,hz,k⟩:=h
  refine ⟨_,(ak (aK (b8 (Zn rfl) (by rfl) T.JE boot_sum (aa (tK rfl oy.nd (ZC rfl T.JF (aa (pv 0) (aa (pv 1) ai))) (gH (own:=[("worth",3),("holder",4)]) (by kernel_rfl)) (fun _ _ _ _ _=>(Kv (K:=K) 2 rfl (uP (uY 3 oy.nd) (uP (uY 4 oy.nd) J7)))) (fun _ _ _ _ _=>(Xa (bu gh (pv 4) (pv 2) (bP _)))) (fun _ _ _ _ _=>(pv 3))) ai)))),?_⟩
  try dsimp only [cxK]
  refine ⟨_,rfl,_,rfl,a,b,_,_,rfl,ha,hb,fun D hD=>?_⟩
  refine ZN (xs:=r.points.map vN) (ys:=c.map vN) (fun i H'=>aM H H'/\H' D=some (.lst (S7 ((c.zip r.points).take i) u))) ⟨aM.new hD,ae⟩ (fun i H' p=>⟨p.1.seq ha,p.1.seq hb⟩) (fun i x y H' T hx hy p hT=>?_) fun H' p=>?_
  ·obtain ⟨n,hn,rfl⟩:=Dc hx
   obtain ⟨m,hm,rfl⟩:=Dc hy
   have acU:=zip_get hm hn
   have hlen:(S7 ((c.zip r.points).take i) u).length<sizeLine:=by
    refine nc (Vv _ _) (nc (List.length_take_le' _ _) ?_)
    rw [List.length_zip];omega
   refine ⟨T,_,rfl,oX.of ae,rfl,_,_,rfl,_,_,rfl,rfl,rfl,_,rfl,_,rfl,rfl,_,rfl,?_⟩
   have sT:aM H' (upd H' T (.tup [vN n,vN m])):=aM.new hT
   by_cases e:m=u
   ·subst e
    rw [decide_eq_true rfl]
    refine cz ⟨_,rfl,_,sT _ _ p.2,hlen,aM.cZ (p.1.trans sT) hD,?_⟩
    rw [ae,take_snoc acU]
    unfold S7
    rw [nh,eK,if_pos (by simp)]
    simp
   ·rw [decide_eq_false (by intro q;exact e (rZ.inj (V.int.inj q)))]
    refine cC ⟨p.1.trans sT,?_⟩
    rw [sT _ _ p.2,take_snoc acU]
    unfold S7
    rw [nh,eK,if_neg (by simp [e])]
    simp
  ·have e:=p.2
   rw [U,U,cI (by rw [List.length_zip];omega)] at e
   refine ⟨D,_,rfl,bO.of e,?_⟩
   have q:=k H' p.1
   have e2:(bU r c u:Int)=(((c.zip r.points).filter fun p=>p.1==u).map fun p=>(p.2:Int)).sum:=by
    unfold bU
    rw [Vu];simp
   rw [<- e2]
   exact q
def Dd (ns:List Int) (n:Nat):Bool:=decide ((ns.length:Int)=2*(n:Int))&&(decide (((ns.count 0:Nat):Int)=(n:Int))&&decide (((ns.count 1:Nat):Int)=(n:Int)))
def B5 (K:ab):Sp:=fun vs H Q _=>∃ (a:Addr) (ns:List Int) (n:Nat),vs=[.ref a,vN n]/\bO K H a (ns.map V.int)/\Q (.bl (Dd ns n)) H
theorem b_ (i j:Int):decide (V.int i=V.int j)=decide (i=j):=by
 by_cases h:i=j
 ·subst h;simp
 ·rw [decide_eq_false h,decide_eq_false (by intro q;exact h (V.int.inj q))]
theorem B6 (T:Txt K mg t):bY P w K mg base fw 1 t.fo t.gC ["row","boats"] (B5 K):=by
 refine T.eF.ok B0 (fun vs H Q E h=>?_) (fun eW A outer s H vs Q E hr h=>?_)
 ·obtain ⟨a,ns,n,rfl,_⟩:=h
  rfl
 ·obtain ⟨a,ns,n,rfl,ha,k⟩:=h
  refine ⟨_,(ak (aK (Cu (kx gh (b8 bT (by rfl) T.f_ boot_len (aa (pv 0) ai)) (cB Cy az (pv 1)) (bP _)) (Cu (kx gh (gG aB eL eM rP (pv 0) (aa az ai)) (pv 1) (bP _)) (Fm (kx gh (gG aB eL eM rP (pv 0) (aa az ai)) (pv 1) (bP _))))))),?_⟩
  try dsimp only [cxK]
  refine ⟨_,rfl,a,_,rfl,.inl ha,_,rfl,_,_,rfl,rfl,.inl ⟨by decide,by decide⟩,rfl,_,rfl,?_⟩
  rw [b_,U]
  unfold Dd at k
  by_cases e1:(ns.length:Int)=2*(n:Int)
  ·rw [decide_eq_true e1]
   rw [decide_eq_true e1,eQ] at k
   refine cz ⟨_,rfl,.inl ⟨rfl,_,ha⟩,a,ns,0,rfl,rfl,ha,_,rfl,rfl,_,rfl,?_⟩
   rw [b_]
   by_cases e2:((ns.count 0:Nat):Int)=(n:Int)
   ·rw [decide_eq_true e2]
    rw [decide_eq_true e2,eQ] at k
    refine cz ⟨_,rfl,.inl ⟨rfl,_,ha⟩,a,ns,1,rfl,rfl,ha,_,rfl,rfl,?_⟩
    rw [b_]
    exact k
   ·rw [decide_eq_false e2]
    rw [decide_eq_false e2,jc] at k
    exact cC k
  ·rw [decide_eq_false e1]
   rw [decide_eq_false e1,jc] at k
   exact cC k
def dm:Nat->Str
 | 0=>"draw"
 | 1=>"first"
 | _=>"last"
structure sJ (c:List Nat):Prop where
 ne:c≠[]
 le:∀ x∈c,x<=1
 len:c.length<=6
theorem six (n:Nat) (h:n<=6):n<sizeLine:=by rw [sizeLine_eq];omega
def yo (r:aR) (c:List Nat):Nat:=if r.tie=1 then c.headD 0 else c.getLastD 0
def HX (K:ab):Sp:=fun vs H Q _=>∃ (a:Addr) (r:aR) (c:List Nat),vs=[.str (dm r.tie),.ref a]/\bO K H a (c.map vN)/\sJ c/\r.tie<=2/\Q (.int (if r.tie=0 then 0 else 2 - (yo r c:Int))) H
theorem HY (T:Txt K mg t):bY P w K mg base fw 1 t.jH t.lR ["tie","teams"] (HX K):=by
 refine T.hE.ok Ac (fun vs H Q E h=>?_) (fun eW A outer s H vs Q E hr h=>?_)
 ·obtain ⟨a,r,c,rfl,_⟩:=h
  rfl
 ·obtain ⟨a,r,c,rfl,ha,hc,ht,k⟩:=h
  refine ⟨_,(ag (cx (bu gh (pv 0) i4 (bP _))
   (ak (aK az))
   bt)
   (ag (gR 2 Ac.nd (xo (bu gh (pv 0) i4 (bP _)) (bQ bI (pv 1) az (fun _ _=>rfl)) (bQ bI (pv 1) (Jd Cz az) (fun _ _=>rfl))))
   (ak (aK (cB iE az (pv 2)))))),?_⟩
  try dsimp only [cxK]
  refine ⟨_,rfl,rfl,_,rfl,?_⟩
  obtain ⟨z,hz⟩:∃ z,r.tie=z:=⟨_,rfl⟩
  have iX:0<c.length:=iZ.mpr hc.ne
  rw [hz] at k ht ⊢
  match z,ht with
  | 0,_=>
   rw [decide_eq_true (by rfl)]
   exact cz k
  | 1,_=>
   rw [decide_eq_false (by decide +kernel)]
   refine cC ⟨_,rfl,rfl,_,rfl,?_⟩
   rw [decide_eq_true (by rfl)]
   refine cz ⟨_,rfl,a,_,0,vN (c.headD 0),rfl,rfl,ha,?_,_,rfl,_,_,rfl,rfl,?_⟩
   ·refine bj (j:=0) ?_
    cases c with
    | nil=>exact absurd rfl hc.ne
    | cons x c=>rfl
   ·have e:yo r c=c.headD 0:=by unfold yo;rw [if_pos hz]
    rw [<- e];exact k
  | 2,_=>
   rw [decide_eq_false (by decide +kernel)]
   refine cC ⟨_,rfl,rfl,_,rfl,?_⟩
   rw [decide_eq_false (by decide +kernel)]
   refine cC ⟨_,rfl,_,rfl,a,_,_,vN (c.getLastD 0),rfl,rfl,ha,?_,_,rfl,_,_,rfl,rfl,?_⟩
   ·have e:c.map vN=(c.dropLast.map vN)++[vN (c.getLastD 0)]:=by
     have q:=List.dropLast_concat_getLast hc.ne
     have e2:c.getLastD 0=c.getLast hc.ne:=by rw [List.getLastD_eq_getLast?,List.getLast?_eq_some_getLast hc.ne];rfl
     rw [e2]
     have:c.map vN=(c.dropLast++[c.getLast hc.ne]).map vN:=by rw [q]
     rw [this,aX];rfl
    rw [e]
    exact Uy _ _
   ·have e:yo r c=c.getLastD 0:=by unfold yo;rw [if_neg (by rw [hz];decide)]
    rw [<- e];exact k
def Vw (r:aR) (c:List Nat):List Int:=[bR (bx r c),(bU r c 0:Int),(bU r c 1:Int)]
theorem Vx (r:aR) {c:List Nat} (h:sJ c):yo r c<=1:=by
 unfold yo
 split
 ·cases c with
  | nil=>exact a0 _
  | cons x c=>exact h.le x (bC ..)
 ·rw [List.getLastD_eq_getLast?,List.getLast?_eq_some_getLast h.ne]
  exact h.le _ (List.getLast_mem h.ne)
theorem XH {r:aR} {c:List Nat} (h:bU r c 0<bU r c 1):bR (bx r c)=1:=by
 unfold bx
 simp only [if_pos h]
 rfl
theorem XI {r:aR} {c:List Nat} (h:bU r c 1<bU r c 0):bR (bx r c)=2:=by
 unfold bx
 simp only [if_neg (Nat.lt_asymm h),if_pos h]
 rfl
theorem XJ {r:aR} {c:List Nat} (h:sJ c) (h1:¬ bU r c 0<bU r c 1) (h2:¬ bU r c 1<bU r c 0):bR (bx r c)=if r.tie=0 then 0 else 2 - (yo r c:Int):=by
 unfold bx
 simp only [if_neg h1,if_neg h2]
 by_cases e:r.tie=0
 ·rw [if_pos e,if_pos e];rfl
 ·rw [if_neg e,if_neg e]
  have hl:=Vx r h
  show bR (if yo r c=0 then -1 else 1)=_
  by_cases e2:yo r c=0
  ·rw [if_pos e2,e2];rfl
  ·have e3:yo r c=1:=by omega
   rw [if_neg e2,e3];rfl
def Vy (K:ab):Sp:=fun vs H Q _=>∃ (a b:Addr) (r:aR) (c:List Nat),vs=[.ref a,.str (dm r.tie),.ref b]/\bO K H a (r.points.map vN)/\bO K H b (c.map vN)/\sJ c/\r.tie<=2/\
 ∀ (H':Hp) (p:Addr),aM H H'->H p=none->H' p=some (.lst ((Vw r c).map V.int))->Q (.ref p) H'
theorem yp (T:Txt K mg t):bY P w K mg base fw 2 t.vG t.zu ["points","tie","teams"] (Vy K):=by
 refine T.mJ.ok Gd (fun vs H Q E h=>?_) (fun eW A outer s H vs Q E hr h=>?_)
 ·obtain ⟨a,b,r,c,rfl,_⟩:=h
  rfl
 ·obtain ⟨a,b,r,c,rfl,ha,hb,hc,ht,k⟩:=h
  refine ⟨_,(ag (gR 3 Gd.nd (aN (yn T) (hr.mono (by omega)) rfl T.uk T.fB.kp (Ab T) .nil bp (aa (pv 0) (aa (pv 2) (aa az ai)))))
   (ag (gR 4 Gd.nd (aN (yn T) (hr.mono (by omega)) rfl T.uk T.fB.kp (Ab T) .nil bp (aa (pv 0) (aa (pv 2) (aa az ai)))))
   (ag (cx (bu Je (pv 3) (pv 4) (bP _))
   (ak (aK (bw (aa az (aa (pv 3) (aa (pv 4) ai))))))
   bt)
   (ag (cx (bu Jf (pv 3) (pv 4) (bP _))
   (ak (aK (bw (aa az (aa (pv 3) (aa (pv 4) ai))))))
   bt)
   (ak (aK (bw (aa (aN (HY T) (hr.mono (by omega)) rfl T.BP T.hE.kp (KN T) .nil bp (aa (pv 1) (aa (pv 2) ai))) (aa (pv 3) (aa (pv 4) ai)))))))))),?_⟩
  try dsimp only [cxK]
  have hz:=six _ hc.len
  have fin:∀ (H2:Hp) (p:Addr) (z:Int),aM H H2->H2 p=none->z=bR (bx r c)->Q (.ref p) (upd H2 p (.lst [.int z,vN (bU r c 0),vN (bU r c 1)])):=fun H2 p z s2 hp e=>by
   subst e
   exact k _ p (s2.trans (aM.new hp)) (s2.free hp) ae
  refine ⟨_,rfl,_,rfl,a,b,r,c,0,rfl,ha,hb,hz,fun H1 s1=>?_⟩
  refine ⟨_,rfl,_,rfl,a,b,r,c,1,rfl,s1.seq ha,s1.seq hb,hz,fun H2 s2=>?_⟩
  have yq:=s1.trans s2
  refine ⟨_,rfl,_,rfl,_,_,rfl,rfl,_,rfl,?_⟩
  by_cases e1:bU r c 0<bU r c 1
  ·rw [decide_eq_true (by omega)]
   refine cz ⟨_,rfl,_,rfl,(by show 3<=sizeLine;decide),fun p hp=>?_⟩
   exact fin H2 p _ yq hp (XH e1).symm
  ·rw [decide_eq_false (by omega)]
   refine cC ⟨_,rfl,_,rfl,_,_,rfl,rfl,_,rfl,?_⟩
   by_cases e2:bU r c 1<bU r c 0
   ·rw [decide_eq_true (by omega)]
    refine cz ⟨_,rfl,_,rfl,(by show 3<=sizeLine;decide),fun p hp=>?_⟩
    exact fin H2 p _ yq hp (XI e2).symm
   ·rw [decide_eq_false (by omega)]
    refine cC ⟨_,rfl,_,rfl,b,r,c,rfl,yq.seq hb,hc,ht,_,rfl,_,rfl,(by show 3<=sizeLine;decide),fun p hp=>?_⟩
    exact fin H2 p _ yq hp (XJ hc e1 e2).symm
theorem S8 (r:aR) (c:List Nat) {u:Nat} (hu:u<=1):decide (bR (bx r c)=(u:Int)+1)=gB r u c:=by
 have hr:bx r c=1\/bx r c=0\/bx r c=-1:=by
  unfold bx
  simp only
  repeat' split
  all_goals (first | exact .inl rfl | exact .inr (.inl rfl) | exact .inr (.inr rfl))
 unfold gB
 match u,hu with
 | 0,_=>rcases hr with e | e | e<;>rw [e]<;>rfl
 | 1,_=>rcases hr with e | e | e<;>rw [e]<;>rfl
def Lj (K:ab):Sp:=fun vs H Q _=>∃ (a b:Addr) (r:aR) (c:List Nat) (u:Nat),vs=[.ref a,.str (dm r.tie),.ref b,vN u]/\bO K H a (r.points.map vN)/\bO K H b (c.map vN)/\sJ c/\r.tie<=2/\u<=1/\
 ∀ (H':Hp),aM H H'->Q (.bl (gB r u c)) H'
theorem Lk (T:Txt K mg t):bY P w K mg base fw 3 t.kK t.nq ["points","tie","teams","team"] (Lj K):=by
 refine T.jl.ok KO (fun vs H Q E h=>?_) (fun eW A outer s H vs Q E hr h=>?_)
 ·obtain ⟨a,b,r,c,u,rfl,_⟩:=h
  rfl
 ·obtain ⟨a,b,r,c,u,rfl,ha,hb,hc,ht,hu,k⟩:=h
  refine ⟨_,(ak (aK (kx gh (bQ bI (aN (yp T) (hr.mono (by omega)) rfl T.zw T.mJ.kp (B1 T) .nil bp (aa (pv 0) (aa (pv 1) (aa (pv 2) ai)))) az (fun _ _=>rfl)) (cB oq (pv 3) az) (bP _)))),?_⟩
  try dsimp only [cxK]
  refine ⟨_,rfl,_,rfl,_,rfl,a,b,r,c,rfl,ha,hb,hc,ht,fun H1 p s1 TZ hp=>?_⟩
  refine ⟨p,_,0,_,rfl,rfl,bO.of hp,rfl,_,rfl,_,_,rfl,rfl,rfl,?_⟩
  rw [b_,S8 r c hu]
  exact k H1 s1
end
section
variable {P:Program} {w:World} {K:ab} {mg:Str->Option Value} {base:Heap} {t:uZ}
def oA (c:List Nat) (k:Nat):List Nat:=c.take k++[c.getD (k+1) 0,c.getD k 0]++c.drop (k+2)
def lp (u:Nat) (c:List Nat) (m:Nat):List (List Nat):=(aY m).flatMap fun k=>if c.getD (k+1) 0=u/\¬ c.getD k 0=u then [oA c k] else []
theorem qa (u:Nat) (c:List Nat) (m:Nat):lp u c (m+1)=lp u c m++(if c.getD (m+1) 0=u/\¬ c.getD m 0=u then [oA c m] else []):=by
 unfold lp
 rw [rh,eV,jS]
theorem B7 (u:Nat) (c:List Nat):∀ m,(lp u c m).length<=m
 | 0=>au _
 | m+1=>by
  have h:=B7 u c m
  rw [qa,ao]
  split
  ·rw [cP];omega
  ·rw [rf];omega
theorem Em (u:Nat):∀ c:List Nat,lp u c (c.length - 1)=bV u c
 | []=>rfl
 | [x]=>rfl
 | x::y::l=>by
  have ih:=Em u (y::l)
  show lp u (x::y::l) (l.length+1)=_
  have ih:lp u (y::l) l.length=bV u (y::l):=ih
  unfold lp
  rw [dC,cT]
  show (if y=u/\¬ x=u then [oA (x::y::l) 0] else [])++_=(if x≠u/\y=u then [y::x::l] else [])++(bV u (y::l)).map fun c=>x::c
  congr 1
  ·by_cases h1:y=u<;>by_cases h2:x=u<;>simp [h1,h2,oA]
  ·rw [<- ih]
   unfold lp
   rw [pW,List.map_flatMap]
   congr 1
   funext k
   show (if (x::y::l).getD (k+2) 0=u/\¬ (x::y::l).getD (k+1) 0=u then [oA (x::y::l) (k+1)] else [])=(if (y::l).getD (k+1) 0=u/\¬ (y::l).getD k 0=u then [oA (y::l) k] else []).map fun c=>x::c
   have e1:(x::y::l).getD (k+2) 0=(y::l).getD (k+1) 0:=rfl
   have e2:(x::y::l).getD (k+1) 0=(y::l).getD k 0:=rfl
   rw [e1,e2]
   by_cases h:(y::l).getD (k+1) 0=u/\¬ (y::l).getD k 0=u
   ·rw [if_pos h,if_pos h];rfl
   ·rw [if_neg h,if_neg h];rfl
theorem Ou {c:List Nat} {k:Nat} (h:k<c.length):(c.map vN)[k]?=some (vN (c.getD k 0)):=by
 rw [ax,bD,a7 h];rfl
def Gs (K:ab):Sp:=fun vs H Q _=>∃ (a:Addr) (c:List Nat) (u:Nat),vs=[.ref a,vN u]/\bO K H a (c.map vN)/\sJ c/\∀ (H':Hp) (p:Addr),rj H H' p (bV u c)->Q (.ref p) H'
theorem Gu (T:Txt K mg t):bY P w K mg base fw 1 t.iI t.j5 ["teams","team"] (Gs K):=by
 refine T.gr.ok sC (fun vs H Q E h=>?_) (fun eW A outer s H vs Q E hr h=>?_)
 ·obtain ⟨a,c,u,rfl,_⟩:=h
  rfl
 ·obtain ⟨a,c,u,rfl,ha,hc,k⟩:=h
  refine ⟨_,(ag (gR 2 sC.nd (bw ai))
   (ag (gE PassesOwn.never rfl (uQ rfl T.jQ (aa az (aa (b8 bT (by rfl) T.f_ boot_len (aa (pv 0) ai)) ai))) (uY 3 sC.nd)
   (ak (cx (PW.pt (J6 (bu gh (bQ bI (pv 0) (pv 3) (fun _ _=>rfl)) (pv 1) (bP _)) (EU (bu uR (bQ bI (pv 0) (cB iE (pv 3) az) (fun _ _=>rfl)) (pv 1) (bP _)))))
   (ak (cO (gG aB bc bf d8 (pv 2) (aa (cB r_ (cB r_ (r8 vk (pv 0) Bu (rD (cB iE (pv 3) az))) (bw (aa (bQ bI (pv 0) (pv 3) (fun _ _=>rfl)) (aa (bQ bI (pv 0) (cB iE (pv 3) az) (fun _ _=>rfl)) ai)))) (r8 vk (pv 0) (rD (cB oq (pv 3) az)) Bu)) ai))))
   bt)))
   (ak (aK (pv 2))))),?_⟩
  try dsimp only [cxK]
  have hl:=hc.len
  have hz:=six _ hl
  refine ⟨a0 _,fun B hB=>?_⟩
  have G0:=rj.start hB
  refine ⟨_,rfl,a,_,rfl,.inl (G0.same.seq ha),1,_,rfl,⟨by decide,by decide,by rw [U];omega,by rw [U];omega⟩,?_⟩
  rw [U]
  refine nj (lo:=1) (n:=((c.length:Int) - 1).toNat) (fun i σ H'=>∃ v:Option V,σ=[some (.ref a),some (vN u),some (.ref B),v]/\rj H H' B (lp u c i)) ⟨none,rfl,G0⟩ ?_ ?_
  ·rintro i σ H' hi EE ⟨v,rfl,g⟩
   have Vz:i+1<c.length:=by omega
   have RB:=g.same.seq ha
   have e1:(1:Int)+(i:Int)=((i+1:Nat):Int):=by omega
   have e2:(1:Int)+(i:Int) - 1=((i:Nat):Int):=by omega
   refine ⟨_,rfl,_,rfl,a,_,_,_,rfl,rfl,RB,TY e1 (Ou Vz),_,rfl,rfl,_,rfl,?_⟩
   rw [b_]
   by_cases h1:c.getD (i+1) 0=u
   ·rw [decide_eq_true (by omega)]
    refine cz ⟨_,rfl,_,rfl,_,_,rfl,rfl,a,_,_,_,rfl,rfl,RB,TY e2 (Ou (by omega)),_,rfl,rfl,_,rfl,?_⟩
    rw [b_]
    by_cases h2:c.getD i 0=u
    ·rw [decide_eq_true (by omega)]
     refine cC ⟨_,rfl,?_⟩
     rw [qa,if_neg (fun q=>q.2 h2),cb]
     exact g
    ·rw [decide_eq_false (by omega)]
     obtain ⟨xs0,hx0⟩:∃ xs,H' B=some (.lst xs):=let ⟨as,q,_⟩:=g.at_;⟨_,q⟩
     refine cz ⟨_,rfl,.inl ⟨rfl,_,bO.of hx0⟩,?_⟩
     refine ⟨_,rfl,_,rfl,_,_,rfl,rfl,_,rfl,a,_,rfl,RB,fun p1 T3=>?_⟩
     have s1:=aM.new (o:=.lst (qe (c.map vN) none (some (1+(i:Int) - 1)))) T3
     refine ⟨_,rfl,_,rfl,a,_,_,_,rfl,rfl,s1.seq RB,TY e1 (Ou Vz),_,rfl,_,rfl,_,_,rfl,rfl,a,_,_,_,rfl,rfl,s1.seq RB,TY e2 (Ou (by omega)),(szB),fun p2 El=>?_⟩
     have s2:=aM.new (o:=.lst [vN (c.getD (i+1) 0),vN (c.getD i 0)]) El
     refine ⟨p1,p2,_,_,rfl,rfl,s2 _ _ ae,ae,?_,fun p3 hp3=>?_⟩
     ·rw [e2,Qk,bK,U]
      show _+2<=_
      rw [sizeLine_eq];omega
     have s3:=aM.new (o:=.lst (qe (c.map vN) none (some (1+(i:Int) - 1))++[vN (c.getD (i+1) 0),vN (c.getD i 0)])) hp3
     have De:=(s1.trans s2).trans s3
     refine ⟨_,rfl,_,rfl,_,_,rfl,rfl,_,rfl,a,_,rfl,De.seq RB,fun p4 XM=>?_⟩
     have s4:=aM.new (o:=.lst (qe (c.map vN) (some (1+(i:Int)+1)) none)) XM
     have e3:(1:Int)+(i:Int)+1=((i+2:Nat):Int):=by omega
     have eA:qe (c.map vN) none (some (1+(i:Int) - 1))=(c.take i).map vN:=by rw [e2,Qk,List.map_take]
     have eB:qe (c.map vN) (some (1+(i:Int)+1)) none=(c.drop (i+2)).map vN:=by rw [e3,FZ,List.map_drop]
     refine ⟨p3,p4,_,_,rfl,rfl,s4 _ _ ae,ae,?_,fun p5 hp5=>?_⟩
     ·rw [eA,eB,ao,U,U,bK,dh]
      show _+2+_<=_
      rw [sizeLine_eq];omega
     have s5:=aM.new (o:=.lst (qe (c.map vN) none (some (1+(i:Int) - 1))++[vN (c.getD (i+1) 0),vN (c.getD i 0)]++qe (c.map vN) (some (1+(i:Int)+1)) none)) hp5
     have s15:=(De.trans s4).trans s5
     have tH:p5≠B:=fun q=>by
      have z:=((De.trans s4) _ _ hx0)
      rw [<- q,hp5] at z
      cases z
     have hz2:(lp u c i).length<sizeLine:=nc (B7 u c i) (by omega)
     obtain ⟨xs,hxs,hzs,g'⟩:=g.more s15 (p:=p5) (c:=oA c i) (by rw [ae,eA,eB];unfold oA;rw [aX,aX];rfl) tH hz2
     refine ⟨B,xs,_,rfl,rfl,hxs,hzs,_,rfl,?_⟩
     rw [qa,if_pos ⟨h1,h2⟩]
     exact g'
   ·rw [decide_eq_false (by omega)]
    refine cC ⟨_,rfl,?_⟩
    rw [qa,if_neg (fun q=>h1 q.1),cb]
    exact g
  ·rintro σ H' ⟨v,rfl,g⟩
   refine ⟨_,rfl,?_⟩
   have e:((c.length:Int) - 1).toNat=c.length - 1:=by omega
   rw [e,Em] at g
   exact k H' B g
end
section
variable {P:Program} {w:World} {K:ab} {mg:Str->Option Value} {base:Heap} {t:uZ}
def keyOf (c:List Nat):List Key:=c.map fun (n:Nat)=>Sum.inl (n:Int)
theorem yr (c:List Nat):(keyOf c).map kV=c.map vN:=by
 unfold keyOf
 rw [a9]
 rfl
theorem S9 {c d:List Nat} (h:keyOf c=keyOf d):c=d:=by
 have q:=congrArg (List.map kV) h
 rw [yr,yr] at q
 have inj:∀ a b:Nat,vN a=vN b->a=b:=fun a b e=>rZ.inj (V.int.inj e)
 exact sZ inj |>.mp q
def lu (S:List (List Nat)):List (List Key×V):=S.map fun c=>(keyOf c,V.bl true)
theorem Ov (S:List (List Nat)) (c:List Nat):(jj (lu S) (keyOf c)).isSome=decide (c∈S):=by
 unfold lu
 induction S with
 | nil=>rfl
 | cons d S ih=>
  rw [aC]
  by_cases e:d=c
  ·subst e
   rw [i6 rfl,decide_eq_true (bC ..)];rfl
  ·rw [g8 (fun q=>e (S9 q)),ih]
   have:(c∈d::S)↔c∈S:=by
    rw [aw]
    exact ⟨fun h=>h.resolve_left fun q=>e q.symm,.inr⟩
   exact decide_eq_decide.mpr this.symm
theorem VA {S:List (List Nat)} {c:List Nat} (h:¬ c∈S):putK (lu S) (keyOf c) (V.bl true)=lu (S++[c]):=by
 have q:jj (lu S) (keyOf c)=none:=by
  have e:=Ov S c
  rw [decide_eq_false h] at e
  cases z:jj (lu S) (keyOf c) with
  | none=>rfl
  | some v=>rw [z] at e;cases e
 rw [Nf _ q]
 unfold lu
 rw [aX];rfl
def news:List (List Nat)->List (List Nat)->List (List Nat)
 | [],_=>[]
 | c::l,S=>if c∈S then news l S else c::news l (S++[c])
theorem rW (b:List Nat):∀ (l S:List (List Nat)),news (l++[b]) S=if b∈S++news l S then news l S else news l S++[b]
 | [],S=>by
  show (if b∈S then [] else [b])=_
  rw [show news [] S=[] from rfl,cb]
  rfl
 | c::l,S=>by
  have e:∀ x S',news (c::x) S'=if c∈S' then news x S' else c::news x (S'++[c]):=fun _ _=>rfl
  rw [jg,e,e]
  by_cases h:c∈S
  ·rw [if_pos h,if_pos h];exact rW b l S
  ·rw [if_neg h,if_neg h,rW b l (S++[c])]
   have e2:S++c::news l (S++[c])=S++[c]++news l (S++[c]):=by rw [bX];rfl
   rw [e2]
   by_cases h2:b∈S++[c]++news l (S++[c])
   ·rw [if_pos h2,if_pos h2]
   ·rw [if_neg h2,if_neg h2];rfl
theorem B8:∀ (l S:List (List Nat)),(news l S).length<=l.length
 | [],_=>au _
 | c::l,S=>by
  show (if c∈S then news l S else c::news l (S++[c])).length<=_
  split
  ·exact Nat.le_succ_of_le (B8 l S)
  ·exact pX (B8 l _)
structure NL (H H':Hp) (R d:Addr) (S L:List (List Nat)):Prop where
 same:bh [R,d] H H'
 at_:∃ as:List Addr,H' R=some (.lst (as.map V.ref))/\Paired (fun a c=>a≠R/\H' a=some (.lst (c.map vN))) as (news L S)
 seen:H' d=some (.dT (lu (S++news L S)))
theorem NL.on {H H' H2:Hp} {R d:Addr} {S L:List (List Nat)} (n:NL H H' R d S L) (s:aM H' H2):NL H H2 R d S L:=by
 obtain ⟨as,h1,h2⟩:=n.at_
 exact ⟨n.same.then s,⟨as,s _ _ h1,h2.mono fun a c q=>⟨q.1,s _ _ q.2⟩⟩,s _ _ n.seen⟩
theorem B9 {u:Nat}:∀ {c b:List Nat},sJ c->b∈bV u c->sJ b:=by
 intro c b h hb
 have key:∀ (c b:List Nat),b∈bV u c->b.Perm c:=by
  intro c
  induction c with
  | nil=>intro b hb;simp [bV] at hb
  | cons x c ih=>
   cases c with
   | nil=>intro b hb;simp [bV] at hb
   | cons y l=>
    intro b hb
    have hb:b∈(if x≠u/\y=u then [y::x::l] else [])++(bV u (y::l)).map fun c=>x::c:=hb
    rcases bS.mp hb with q | q
    ·split at q
     ·rw [ay.mp q];exact List.Perm.swap ..
     ·cases q
    ·obtain ⟨b',q1,rfl⟩:=aO.mp q
     exact (ih b' q1).cons x
 have p:=key c b hb
 refine ⟨fun e=>?_,fun x hx=>h.le x (p.mem_iff.mp hx),by rw [p.length_eq];exact h.len⟩
 subst e
 exact h.ne p.symm.eq_nil
theorem Ll (u:Nat) (l:List (List Nat)) (c:List Nat):a_ u (l++[c])=a_ u l++bV u c:=by
 unfold a_
 rw [eV,jS]
theorem HZ (u:Nat) {tw:List (List Nat)} {i:Nat} {c:List Nat} (h:tw[i]?=some c):a_ u tw=a_ u (tw.take i)++(bV u c++a_ u (tw.drop (i+1))):=by
 obtain ⟨hi,e⟩:=aH.mp h
 have q:tw=tw.take i++c::tw.drop (i+1):=by
  rw [<- e,<-cw hi,List.take_append_drop]
 conv=>lhs;rw [q]
 unfold a_
 rw [eV,cT]
def H_ (K:ab):Sp:=fun vs H Q _=>∃ (l d:Addr) (tw:List (List Nat)) (u:Nat) (S:List (List Nat)),vs=[.ref l,vN u,.ref d]/\Aq H l tw/\(∀ c∈tw,sJ c)/\H d=some (.dT (lu S))/\S.length+(a_ u tw).length<sizeLine/\
 ∀ (H':Hp) (p:Addr),bh [d] H H'->H p=none->Aq H' p (news (a_ u tw) S)->H' d=some (.dT (lu (S++news (a_ u tw) S)))->Q (.ref p) H'
theorem Ia (T:Txt K mg t):bY P w K mg base fw 2 t.jI t.lS ["level","team","seen"] (H_ K):=by
 refine T.hU.ok p7 (fun vs H Q E h=>?_) (fun eW A outer s H vs Q E hr h=>?_)
 ·obtain ⟨l,d,tw,u,S,rfl,_⟩:=h
  rfl
 ·obtain ⟨l,d,tw,u,S,rfl,hl,hT,hd,hz,k⟩:=h
  have hu:=xA hr
  refine ⟨_,(ag (gR 3 p7.nd (bw ai))
   (ag (gE PassesOwn.never rfl (fv (pv 0)) (uY 4 p7.nd)
   (ak (gE PassesOwn.never rfl (fv (aN (Gu T) (hr.mono (by omega)) rfl T.z8 T.gr.kp (HN T) .nil bp (aa (pv 4) (aa (pv 1) ai)))) (uY 5 p7.nd)
   (ak (cx (vh (Jm hu (i5 pY (by rfl) T.rJ boot_tuple (aa (pv 5) ai)) (pv 2)) (by with_unfolding_all rfl))
   (ag (EY hu (pv 2) (i5 pY (by rfl) T.rJ boot_tuple (aa (pv 5) ai)) mq rfl)
   (ak (cO (gG aB bc bf d8 (pv 3) (aa (pv 5) ai)))))
   bt)))))
   (ak (aK (pv 3))))),?_⟩
  try dsimp only [cxK]
  obtain ⟨ls,Ow,Fy⟩:=hl
  refine ⟨a0 _,fun R hR=>?_⟩
  have hRd:R≠d:=fun q=>by rw [q,hd] at hR;cases hR
  have hlR:l≠R:=aV Ow hR
  have hld:l≠d:=dX Ow hd (fun z=>nomatch z)
  have N0:NL H (upd H R (.lst [])) R d S []:=⟨bh.of (aM.new hR),⟨[],ae,.nil⟩,by rw [aD (Ne.symm hRd)];show _=some (HO.dT (lu (S++[])));rw [cb];exact hd⟩
  have nin:∀ {b:Addr},b≠R->b≠d->b∉[R,d]:=fun h1 h2 m=>by
   rcases aw.mp m with q | q
   ·exact h1 q
   ·exact h2 (ay.mp q)
  refine ⟨_,rfl,l,rfl,⟨_,bO.of (N0.same _ _ Ow (nin hlR hld))⟩,oo (K:=K) (a:=l) (xs:=ls.map V.ref) (fun i σ H'=>∃ v4 v5:Option V,σ=[some (.ref l),some (vN u),some (.ref d),some (.ref R),v4,v5]/\NL H H' R d S (a_ u (tw.take i)))
   ⟨none,none,rfl,N0⟩ (fun i σ H' _ ⟨_,_,_,n⟩=>bO.of (n.same _ _ Ow (nin hlR hld))) ?_ ?_⟩
  ·rintro i y σ H' hi EE ⟨v4,v5,rfl,n⟩
   rw [ax] at hi
   obtain ⟨a,ha,rfl⟩:=aZ.mp hi
   obtain ⟨c,hc,hac⟩:=fk Fy ha
   have Tc:sJ c:=hT c (aT hc)
   have haR:a≠R:=aV hac hR
   have had:a≠d:=dX hac hd (fun z=>nomatch z)
   have agw:=n.same _ _ hac (nin haR had)
   refine ⟨_,rfl,_,rfl,a,c,u,rfl,bO.of agw,Tc,fun H1 q G=>?_⟩
   obtain ⟨as0,hR1,_⟩:=n.at_
   have hqR:q≠R:=fun z=>by have:=G.free;rw [z,hR1] at this;cases this
   have hqd:q≠d:=fun z=>by have:=G.free;rw [z,n.seen] at this;cases this
   obtain ⟨qs,hq1,Z8⟩:=G.at_
   have n1:=n.on G.same
   refine ⟨q,rfl,⟨_,bO.of hq1⟩,oo (K:=K) (a:=q) (xs:=qs.map V.ref) (fun j σ H2=>∃ v5:Option V,σ=[some (.ref l),some (vN u),some (.ref d),some (.ref R),some (.ref a),v5]/\bh [R,d] H1 H2/\NL H H2 R d S (a_ u (tw.take i)++(bV u c).take j))
    ⟨v5,rfl,bh.of (fun _ _ e=>e),by rw [List.take_zero,cb];exact n1⟩ (fun j σ H2 _ ⟨_,_,sE,_⟩=>bO.of (sE _ _ hq1 (nin hqR hqd))) ?_ ?_⟩
   ·rintro j y σ H2 hj EE ⟨v5,rfl,sE,m⟩
    rw [ax] at hj
    obtain ⟨b,hb,rfl⟩:=aZ.mp hj
    obtain ⟨e,he,hbq,T8⟩:=fk Z8 hb
    have Te:sJ e:=B9 Tc (aT he)
    obtain ⟨as1,hR2,XN⟩:=m.at_
    have hbR:b≠R:=by
     have z:H1 R=some (.lst (as0.map V.ref)):=G.same _ _ hR1
     exact RP T8 Te.ne z
    have hbd:b≠d:=dX T8 (G.same _ _ n.seen) (fun z=>nomatch z)
    have Vs:=sE _ _ T8 (nin hbR hbd)
    refine ⟨_,rfl,b,_,rfl,.inl ⟨bO.of Vs,fun p1 T3=>?_⟩⟩
    have s1:=aM.new (o:=.tup (e.map vN)) T3
    refine ⟨_,rfl,d,_,rfl,FE.t (k:=keyOf e) (s1 _ _ m.seen) (by rw [yr];exact ae),_,rfl,?_⟩
    dsimp only [EE];rw [Ov,take_snoc he,<-bX]
    have hlen:(a_ u (tw.take i)++(bV u c).take j).length+1<=(a_ u tw).length:=by
     have hj:=(aH.mp he).1
     rw [HZ u hc,ao,ao,ao,bK]
     omega
    by_cases xk:e∈S++news (a_ u (tw.take i)++(bV u c).take j) S
    ·rw [decide_eq_true xk]
     refine cC ⟨_,rfl,sE.then s1,?_⟩
     have m1:=m.on s1
     refine ⟨m1.same,?_,?_⟩
     ·rw [rW,if_pos xk];exact m1.at_
     ·rw [rW,if_pos xk];exact m1.seen
    ·rw [decide_eq_false xk]
     refine cz ⟨_,rfl,_,rfl,b,_,rfl,.inl ⟨bO.of (s1 _ _ Vs),fun p2 El=>?_⟩⟩
     have s2:=aM.new (o:=.tup (e.map vN)) El
     have yq:=s1.trans s2
     have hkl:(lu (S++news (a_ u (tw.take i)++(bV u c).take j) S)).length<sizeLine:=by
      unfold lu
      rw [U,ao]
      have:=B8 (a_ u (tw.take i)++(bV u c).take j) S
      omega
     refine ⟨d,_,rfl,Ng.t (k:=keyOf e) (yq _ _ m.seen) (by rw [yr];exact ae) hkl,?_⟩
     rw [VA xk]
     have hR3:(upd (upd (upd H2 p1 (.tup (e.map vN))) p2 (.tup (e.map vN))) d (.dT (lu (S++news (a_ u (tw.take i)++(bV u c).take j) S++[e])))) R=some (.lst (as1.map V.ref)):=by
      rw [aD hRd];exact yq _ _ hR2
     refine ⟨_,rfl,.inl ⟨rfl,_,bO.of hR3⟩,_,rfl,R,_,_,rfl,rfl,hR3,?_,?_⟩
     ·rw [U,XN.length]
      have:=B8 (a_ u (tw.take i)++(bV u c).take j) S
      omega
     refine ⟨_,rfl,?_,?_,?_,?_⟩
     ·exact ((sE.then yq).upd (by simp)).upd (by simp)
     ·exact ((m.same.then yq).upd (by simp)).upd (by simp)
     ·rw [rW,if_neg xk]
      refine ⟨as1++[b],?_,?_⟩
      ·rw [ae,aX];rfl
      ·have kp:∀ {x:Addr} {o:HO},H2 x=some o->x≠R->x≠d->(upd (upd (upd (upd H2 p1 (.tup (e.map vN))) p2 (.tup (e.map vN))) d (.dT (lu (S++news (a_ u (tw.take i)++(bV u c).take j) S++[e])))) R (.lst (as1.map V.ref++[V.ref b]))) x=some o:=fun hx n1 n2=>by
        rw [aD n1,aD n2];exact yq _ _ hx
       refine (XN.mono fun x y z=>⟨z.1,kp z.2 z.1 ?_⟩).snoc ⟨hbR,kp Vs hbR hbd⟩
       exact dX z.2 m.seen (fun z=>nomatch z)
     ·rw [aD (Ne.symm hRd),ae,rW,if_neg xk,bX]
   ·rintro σ H2 ⟨v5,rfl,sE,m⟩
    refine ⟨_,_,rfl,?_⟩
    rw [U,Z8.length,cA] at m
    rw [take_snoc hc,Ll]
    exact m
  ·rintro σ H' ⟨v4,v5,rfl,n⟩
   refine ⟨_,rfl,?_⟩
   rw [U,Fy.length,cA] at n
   obtain ⟨as,h1,h2⟩:=n.at_
   exact k H' R (n.same.drop hR) hR ⟨as,h1,h2.mono fun _ _ q=>q.2⟩ n.seen
end
def yt (u:Nat) (c:List Nat):Nat->List (List Nat)×List (List Nat)
 | 0=>([c],[c])
 | k+1=>(news (a_ u (yt u c k).1) (yt u c k).2,(yt u c k).2++news (a_ u (yt u c k).1) (yt u c k).2)
def QI (u:Nat) (c:List Nat):Nat->List (List Nat)
 | 0=>[c]
 | k+1=>(a_ u (QI u c k)).eraseDups
def walk (u:Nat):Nat->List (List Nat)->List (List Nat)->List (List Nat)->Bool
 | 0,l,S,e=>l==e&&(decide (S.length+(a_ u l).length<=1000)&&news (a_ u l) S==[])
 | k+1,l,S,e=>l==e&&(decide (S.length+(a_ u l).length<=1000)&&walk u k (news (a_ u l) S) (S++news (a_ u l) S) (a_ u e).eraseDups)
theorem R3 (u:Nat) (c:List Nat):∀ (m k:Nat),walk u m (yt u c k).1 (yt u c k).2 (QI u c k)=true->
  (∀ j,j<=m->(yt u c (k+j)).1=QI u c (k+j)/\(yt u c (k+j)).2.length+(a_ u (yt u c (k+j)).1).length<=1000)/\(yt u c (k+m+1)).1=[]
 | 0,k,h=>by
  unfold walk at h
  rw [aG,aG] at h
  obtain ⟨h1,h2,h3⟩:=h
  refine ⟨fun j hj=>?_,eq_of_beq h3⟩
  obtain rfl:j=0:=by omega
  exact ⟨eq_of_beq h1,of_decide_eq_true h2⟩
 | m+1,k,h=>by
  unfold walk at h
  rw [aG,aG] at h
  obtain ⟨h1,h2,h3⟩:=h
  obtain ⟨q1,q2⟩:=R3 u c m (k+1) h3
  refine ⟨fun j hj=>?_,by have e:k+(m+1)+1=k+1+m+1:=(by omega);rw [e];exact q2⟩
  match j with
  | 0=>exact ⟨eq_of_beq h1,of_decide_eq_true h2⟩
  | j+1=>
   have e:k+(j+1)=k+1+j:=by omega
   rw [e]
   exact q1 j (by omega)
def VB:List (List Nat):=[[0,0,1,1],[0,1,0,1],[0,1,1,0],[1,0,0,1],[1,0,1,0],[1,1,0,0]]
def VC:List (List Nat):=[[0,0,0,1,1,1],[0,0,1,0,1,1],[0,0,1,1,0,1],[0,0,1,1,1,0],[0,1,0,0,1,1],[0,1,0,1,0,1],[0,1,0,1,1,0],[0,1,1,0,0,1],[0,1,1,0,1,0],[0,1,1,1,0,0],
 [1,0,0,0,1,1],[1,0,0,1,0,1],[1,0,0,1,1,0],[1,0,1,0,0,1],[1,0,1,0,1,0],[1,0,1,1,0,0],[1,1,0,0,0,1],[1,1,0,0,1,0],[1,1,0,1,0,0],[1,1,1,0,0,0]]
theorem zA:aJ 2 2=VB:=by simp [aJ,VB,List.replicate]
theorem zB:aJ 3 3=VC:=by simp [aJ,VC,List.replicate]
def E9 (n:Nat) (l:List (List Nat)):Bool:=l.all fun c=>[0,1].all fun u=>walk u (n*n) [c] [c] [c]
theorem walk2:E9 2 (aJ 2 2)=true:=by rw [zA];decide +kernel
theorem acZ:E9 3 (aJ 3 3)=true:=by rw [zB];decide +kernel
theorem levels {n u:Nat} {c:List Nat} (hn:n=2\/n=3) (hu:u<=1) (hc:c∈aJ n n):
  (∀ j,j<=n*n->(yt u c j).1=QI u c j/\(yt u c j).2.length+(a_ u (yt u c j).1).length<=1000)/\(yt u c (n*n+1)).1=[]:=by
 have h:E9 n (aJ n n)=true:=by
  rcases hn with rfl | rfl
  ·exact walk2
  ·exact acZ
 unfold E9 at h
 have h1:=bA.mp (bA.mp h c hc) u (by match u,hu with | 0,_=>decide | 1,_=>decide)
 have q:=R3 u c (n*n) 0 h1
 simpa using q
def Lm (n:Nat) (l:List (List Nat)):Bool:=l.all fun c=>decide (c≠[])&&(c.all (fun x=>decide (x<=1))&&decide (c.length=2*n))
theorem XO:Lm 2 (aJ 2 2)=true:=by rw [zA];decide +kernel
theorem XQ:Lm 3 (aJ 3 3)=true:=by rw [zB];decide +kernel
theorem sL {n:Nat} {c:List Nat} (hn:n=2\/n=3) (hc:c∈aJ n n):sJ c/\c.length=2*n:=by
 have h:Lm n (aJ n n)=true:=by
  rcases hn with rfl | rfl
  ·exact XO
  ·exact XQ
 have q:=bA.mp h c hc
 rw [aG,aG] at q
 obtain ⟨q1,q2,q3⟩:=q
 have q3:=of_decide_eq_true q3
 exact ⟨⟨of_decide_eq_true q1,fun x hx=>of_decide_eq_true (bA.mp q2 x hx),by rcases hn with rfl | rfl<;>omega⟩,q3⟩
theorem Gv {x:List Nat}:∀ {l S:List (List Nat)},x∈news l S->x∈l
 | [],_,h=>h
 | c::l,S,h=>by
  have h:x∈(if c∈S then news l S else c::news l (S++[c])):=h
  split at h
  ·exact ba _ (Gv h)
  ·rcases aw.mp h with q | q
   ·rw [q];exact bC ..
   ·exact ba _ (Gv q)
theorem JN {u:Nat} {c:List Nat} (h:sJ c):∀ k,∀ x∈(yt u c k).1,sJ x
 | 0,x,hx=>by rw [ay.mp hx];exact h
 | k+1,x,hx=>by
  have hx:x∈news (a_ u (yt u c k).1) (yt u c k).2:=hx
  obtain ⟨y,hy,q⟩:=List.mem_flatMap.mp (Gv hx)
  exact B9 (JN h k y hy) q
theorem XR (u:Nat) (c:List Nat):∀ k,(yt u c k).1.length<=(yt u c k).2.length
 | 0=>au _
 | k+1=>by
  show _<=((yt u c k).2++news (a_ u (yt u c k).1) (yt u c k).2).length
  rw [ao]
  exact Nat.le_add_left _ _
theorem Gw (r:aR) (u:Nat):∀ f k,oR r u f k []=none
 | 0,k=>rfl
 | f+1,k=>by
  show (if (([]:List (List Nat)).any (gB r u))=true then some k else oR r u f (k+1) (a_ u []).eraseDups)=none
  exact Gw r u f (k+1)
section
variable {P:Program} {w:World} {K:ab} {mg:Str->Option Value} {base:Heap} {t:uZ}
def Df (K:ab):Sp:=fun vs H Q _=>∃ (a b:Addr) (r:aR) (c:List Nat) (u:Nat),vs=[.ref a,.str (dm r.tie),.ref b,vN u]/\bO K H a (r.points.map vN)/\H b=some (.lst (c.map vN))/\c∈aJ r.n r.n/\(r.n=2\/r.n=3)/\r.tie<=2/\u<=1/\
 ∀ (H':Hp) (p:Addr),aM H H'->H p=none->H' p=some (.lst ((mI (du r u c)).map V.int))->Q (.ref p) H'
theorem va (T:Txt K mg t):bY P w K mg base fw 4 t.fT t.gU ["points","tie","teams","team"] (Df K):=by
 refine T.dS.ok eI (fun vs H Q E h=>?_) (fun eW A outer s H vs Q E hr h=>?_)
 ·obtain ⟨a,b,r,c,u,rfl,_⟩:=h
  rfl
 ·obtain ⟨a,b,r,c,u,rfl,ha,hb,hc,hn,ht,VD,k⟩:=h
  have hu:=xA hr
  obtain ⟨Tc,lc⟩:=sL hn hc
  obtain ⟨lv,ac0⟩:=levels hn VD hc
  have Ts:=JN (u:=u) Tc
  refine ⟨_,(ag (gR 4 eI.nd (bw (aa (pv 2) ai)))
   (ag (gR 5 eI.nd (SS hu (i5 pY (by rfl) T.rJ boot_tuple (aa (pv 2) ai)) mq))
   (ag (gR 6 eI.nd az)
   (ag (MT PassesOwn.never (Fq (pv 4) (fun _=>rfl))
   (ag (cx (qB (b8 (UD rfl) (by rfl) T.F7 boot_any (aa (tK rfl eI.nd (fv (pv 4)) (gH (own:=[("reached",7)]) (by kernel_rfl)) (fun _ _ _ _ _=>(uY 7 eI.nd)) (fun _ _ _ _ _=>kz) (fun _ _ _ _ _=>(aN (Lk T) (hr.mono (by omega)) rfl T.DY T.jl.kp (NW T) .nil bp (aa (pv 0) (aa (pv 1) (aa (pv 7) (aa (pv 3) ai))))))) ai)))
   (ak (aK (bw (aa az (aa (pv 6) ai)))))
   bt)
   (ag (gR 4 eI.nd (aN (Ia T) (hr.mono (by omega)) rfl T.BQ T.hU.kp (KP T) .nil bp (aa (pv 4) (aa (pv 3) (aa (pv 5) ai)))))
   (ak (Ai (i:=6) eI.nd rfl (by first | exact Or.inl rfl | exact Or.inr rfl) az Cv)))))
   (ak (aK (bw (aa az ai)))))))),?_⟩
  try dsimp only [cxK]
  refine ⟨_,rfl,(szA),fun l hl=>?_⟩
  have s1:=aM.new (o:=.lst [.ref b]) hl
  intro d hd
  have s2:=aM.new (o:=.dT []) hd
  refine ⟨_,rfl,b,_,rfl,.inl ⟨bO.of (s2 _ _ (s1 _ _ hb)),fun q hq=>?_⟩⟩
  have s3:=aM.new (o:=.tup (c.map vN)) hq
  refine ⟨q,keyOf c,rfl,by rw [yr];exact ae,s3 _ _ ae,?_⟩
  have hHd:H d=none:=s1.free hd
  have hbd:b≠d:=aV (s1 _ _ hb) hd
  have hld:l≠d:=aV (ae (H:=H)) hd
  have s03:=(s1.trans s2).trans s3
  refine ⟨fun m σ H'=>∃ (k:Nat) (l:Addr) (v7:Option V),σ=[some (.ref a),some (.str (dm r.tie)),some (.ref b),some (vN u),some (.ref l),some (.ref d),some (vN k),v7]/\m+k=r.n*r.n+2/\k<=r.n*r.n+1/\
   (k<=r.n*r.n->du r u c=oR r u (r.n*r.n - k) k (QI u c k))/\(k=r.n*r.n+1->du r u c=none)/\
   bh [d] H H'/\Aq H' l (yt u c k).1/\H' d=some (.dT (lu (yt u c k).2)),⟨r.n*r.n+2,0,l,none,rfl,rfl,by omega,fun _=>rfl,fun z=>by omega,?_,?_,ae⟩,?_⟩
  ·exact (bh.of s03).upd (by simp)
  ·refine ⟨[b],?_,.cons ?_ .nil⟩
   ·rw [aD hld];exact s3 _ _ (s2 _ _ ae)
   ·rw [aD hbd];exact s03 _ _ hb
  ·rintro m σ H' ⟨j,l,v7,rfl,hm,hj,pj,pe,sE,hL,hS⟩
   obtain ⟨ls,Ow,Fy⟩:=hL
   have sH:aM H H':=(sE.drop hHd).nil
   refine ⟨_,rfl,_,.inl ⟨_,bO.of Ow,rfl⟩,?_⟩
   have Z5:=Fy.length
   cases Z4:ls with
   | nil=>
    rw [Z4] at Z5
    have e0:(yt u c j).1=[]:=fR.mp Z5.symm
    refine cC ⟨(szA),fun p hp=>?_⟩
    have tG:du r u c=none:=by
     by_cases h1:j<=r.n*r.n
     ·rw [pj h1,<-(lv j h1).1,e0,Gw]
     ·exact pe (by omega)
    refine k _ p (sH.trans (aM.new hp)) (sH.free hp) ?_
    rw [ae,tG];rfl
   | cons l0 lr=>
    have XS:j<=r.n*r.n:=by
     by_cases h1:j<=r.n*r.n
     ·exact h1
     ·have h2:j=r.n*r.n+1:=by omega
      rw [h2,ac0,Z4] at Z5
      cases Z5
    rw [Z4] at Ow Fy
    refine af6 (by rfl) ?_
    clear Z4
    generalize hlr:l0::lr=ls' at Ow Fy
    refine ⟨fun f7 H''=>∃ (l:Addr) (v7:Option V),f7=[some (.ref a),some (.str (dm r.tie)),some (.ref b),some (vN u),some (.ref l),some (.ref d),some (vN (j+1)),v7]/\(j+1<=r.n*r.n->du r u c=oR r u (r.n*r.n - (j+1)) (j+1) (QI u c (j+1)))/\(j+1=r.n*r.n+1->du r u c=none)/\
     bh [d] H H''/\Aq H'' l (yt u c (j+1)).1/\H'' d=some (.dT (lu (yt u c (j+1)).2)),?_,?_⟩
    ·rintro f7 H'' ⟨l',v7',rfl,p1,p2,p3,p4,p5⟩
     exact ⟨m - 1,by omega,j+1,l',v7',rfl,by omega,by omega,p1,p2,p3,p4,p5⟩
    refine ⟨_,rfl,l,rfl,⟨_,bO.of Ow⟩,fun D hD=>?_⟩
    refine sr (K:=K) (a:=l) (xs:=ls'.map V.ref) (ys:=((yt u c j).1.map (gB r u)).map V.bl) hD (bO.of Ow) (by rw [U,U,U];exact Fy.length.symm) ?_ ?_ ?_
    ·rw [U,U]
     have z:=(lv j XS).2
     have z2:=XR u c j
     rw [sizeLine_eq];omega
    ·intro i x y H1 R hi hy XT fin
     rw [ax] at hi
     obtain ⟨e,he,rfl⟩:=aZ.mp hi
     obtain ⟨ce,hce,hee⟩:=fk Fy he
     rw [ax,ax,hce] at hy
     obtain rfl:V.bl (gB r u ce)=y:=aj.inj hy
     refine ⟨rfl,_,rfl,_,rfl,_,rfl,_,rfl,a,e,r,ce,u,rfl,(sH.trans XT).seq ha,bO.of (XT _ _ hee),Ts j ce (aT hce),ht,VD,fun H2 s2=>?_⟩
     exact fin H2 s2
    ·intro H1 XT AU
     refine ⟨D,_,rfl,bO.of AU,_,rfl,?_⟩
     have agz:(((yt u c j).1.map (gB r u)).any id)=(yt u c j).1.any (gB r u):=by rw [List.any_map];rfl
     rw [agz]
     by_cases hg:(yt u c j).1.any (gB r u)=true
     ·rw [hg]
      refine cz ⟨_,rfl,(szB),fun p hp=>?_⟩
      have Z9:du r u c=some j:=by
       rw [pj XS,<-(lv j XS).1]
       cases hf:r.n*r.n - j with
       | zero=>show (if _ then _ else _)=_;rw [if_pos hg]
       | succ f=>show (if _ then _ else _)=_;rw [if_pos hg]
      refine k _ p ((sH.trans XT).trans (aM.new hp)) ((sH.trans XT).free hp) ?_
      rw [ae,Z9];rfl
     ·have hg':(yt u c j).1.any (gB r u)=false:=by simpa using hg
      rw [hg']
      refine cC ⟨_,rfl,_,rfl,_,rfl,l,d,(yt u c j).1,u,(yt u c j).2,rfl,⟨ls',XT _ _ Ow,Fy.mono fun _ _ q=>XT _ _ q⟩,Ts j,XT _ _ hS,?_,fun H2 p sE2 hp hL2 YD=>?_⟩
      ·have z:=(lv j XS).2
       rw [sizeLine_eq];omega
      refine ⟨_,rfl,_,_,rfl,rfl,p,_,rfl,fun h1=>?_,fun h1=>?_,(sE.then XT).trans sE2,hL2,YD⟩
      ·rw [pj XS]
       obtain ⟨f,hf⟩:∃ f,r.n*r.n - j=f+1:=⟨r.n*r.n - j - 1,by omega⟩
       rw [hf]
       show (if (QI u c j).any (gB r u)=true then _ else _)=_
       rw [<- (lv j XS).1,if_neg hg]
       have e2:f=r.n*r.n - (j+1):=by omega
       rw [e2,(lv j XS).1];rfl
      ·rw [pj XS]
       have e2:r.n*r.n - j=0:=by omega
       rw [e2,<-(lv j XS).1]
       show (if _ then _ else _)=_
       rw [if_neg hg]
end
def Gx (n:Nat) (r:List Nat) (u:Nat):List (List Nat):=if r.count u<n then [r++[u]] else []
def ext (n:Nat) (r:List Nat):List (List Nat):=[0,1].flatMap (Gx n r)
def T4 (n:Nat):Nat->List (List Nat)
 | 0=>[[]]
 | k+1=>(T4 n k).flatMap (ext n)
def VE (n:Nat):Bool:=(aY (2*n+1)).all fun i=>decide ((T4 n i).length<=64)&&(T4 n i).all fun r=>decide (r.length<=6)
theorem agB:VE 2=true:=by decide +kernel
theorem agC:VE 3=true:=by decide +kernel
theorem S_ {n i:Nat} (hn:n=2\/n=3) (hi:i<=2*n):(T4 n i).length<=64/\∀ r∈T4 n i,r.length<=6:=by
 have h:VE n=true:=by
  rcases hn with rfl | rfl
  ·exact agB
  ·exact agC
 have q:=bA.mp h i (cH.mpr (by omega))
 rw [aG] at q
 exact ⟨of_decide_eq_true q.1,fun r hr=>of_decide_eq_true (bA.mp q.2 r hr)⟩
theorem XU {n:Nat} (hn:n=2\/n=3):T4 n (2*n)=aJ n n:=by
 rcases hn with rfl | rfl
 ·rw [zA];decide +kernel
 ·rw [zB];decide +kernel
theorem XW (n:Nat) (r:List Nat):(ext n r).length<=2:=by
 unfold ext Gx
 rw [cT,cT,List.flatMap_nil,cb,ao]
 split<;>split<;>simp
theorem Ox (n:Nat):∀ l:List (List Nat),(l.flatMap (ext n)).length<=2*l.length
 | []=>au _
 | r::l=>by
  rw [cT,ao,aq]
  have:=Ox n l
  have:=XW n r
  omega
theorem JO (n:Nat) (r:List Nat):∀ l:List Nat,(l.flatMap (Gx n r)).length<=l.length
 | []=>au _
 | u::l=>by
  rw [cT,ao,aq]
  have h1:=JO n r l
  have h2:(Gx n r u).length<=1:=by unfold Gx;split<;>simp
  omega
theorem count_cast (u:Nat):∀ l:List Nat,(l.map fun (n:Nat)=>(n:Int)).count (u:Int)=l.count u
 | []=>rfl
 | x::l=>by
  rw [aC,g7,g7,count_cast u l]
  by_cases h:x=u
  ·subst h;simp
  ·have:¬ (x:Int)=(u:Int):=by omega
   simp [h,this]
theorem XX (l:List Nat):l.map vN=(l.map fun (n:Nat)=>(n:Int)).map V.int:=by rw [a9];rfl
section
variable {P:Program} {w:World} {K:ab} {mg:Str->Option Value} {base:Heap} {t:uZ}
def zV:Sp:=fun vs H Q _=>∃ (n:Nat),vs=[vN n]/\(n=2\/n=3)/\∀ (H':Hp) (p:Addr),aM H H'->Aq H' p (aJ n n)->Q (.ref p) H'
theorem mw (T:Txt K mg t):bY P w K mg base fw 1 t.dZ t.fm ["boats"] zV:=by
 refine T.cM.ok dF (fun vs H Q E h=>?_) (fun eW A outer s H vs Q E hr h=>?_)
 ·obtain ⟨n,rfl,_⟩:=h
  rfl
 ·obtain ⟨n,rfl,hn,k⟩:=h
  refine ⟨_,(ag (gR 1 dF.nd (bw (aa (bw ai) ai)))
   (ag (gE PassesOwn.never rfl (Cw rfl T.jQ (aa (cB Cy az (pv 0)) ai)) (uY 2 dF.nd)
   (ag (gR 3 dF.nd (bw ai))
   (ag (gE PassesOwn.never rfl (fv (pv 1)) (uY 4 dF.nd)
   (ak (gE PassesOwn.never rfl (Uk (r6 (aa az (aa az ai)))) (uY 5 dF.nd)
   (ak (cx (bu Je (gG aB eL eM rP (pv 4) (aa (pv 5) ai)) (pv 0) (bP _))
   (ak (cO (gG aB bc bf d8 (pv 3) (aa (cB r_ (pv 4) (bw (aa (pv 5) ai))) ai))))
   bt)))))
   (ak (gR 1 dF.nd (pv 3))))))
   (ak (aK (pv 1))))),?_⟩
  try dsimp only [cxK]
  refine ⟨a0 _,fun p0 TZ=>⟨(szA),fun rl hrl=>?_⟩⟩
  have s0:=aM.new (o:=.lst []) TZ
  have s1:=aM.new (o:=.lst [.ref p0]) hrl
  refine ⟨_,rfl,_,_,rfl,rfl,.inl ⟨by decide,by decide⟩,_,rfl,by omega,by omega,?_⟩
  have en:(2*(n:Int)).toNat=2*n:=by omega
  rw [en]
  refine nj (lo:=0) (n:=2*n) (fun i σ H'=>∃ (rl:Addr) (v2 v3 v4 v5:Option V),σ=[some (vN n),some (.ref rl),v2,v3,v4,v5]/\aM H H'/\Aq H' rl (T4 n i)) ⟨rl,none,none,none,none,rfl,s0.trans s1,[p0],ae,.cons (s1 _ _ ae) .nil⟩ ?_ ?_
  ·rintro i σ H' hi EE ⟨rl,v2,v3,v4,v5,rfl,sH,rs,Xr,WM⟩
   obtain ⟨f1,f2⟩:=S_ hn (show i<=2*n by omega)
   refine ⟨a0 _,fun L hL=>?_⟩
   have G0:=rj.start hL
   refine ⟨_,rfl,rl,rfl,⟨_,bO.of (G0.same _ _ Xr)⟩,oo (K:=K) (a:=rl) (xs:=rs.map V.ref) (fun j σ H2=>∃ (v4 v5:Option V),σ=[some (vN n),some (.ref rl),some (.int (0+(i:Int))),some (.ref L),v4,v5]/\rj H' H2 L (((T4 n i).take j).flatMap (ext n)))
    ⟨v4,v5,rfl,G0⟩ (fun j σ H2 _ ⟨_,_,_,g⟩=>bO.of (g.same _ _ Xr)) ?_ ?_⟩
   ·rintro j y σ H2 hj EE ⟨v4,v5,rfl,g⟩
    rw [ax] at hj
    obtain ⟨a,ha,rfl⟩:=aZ.mp hj
    obtain ⟨c,hc,hac⟩:=fk WM ha
    have aly:c.length<=6:=f2 c (aT hc)
    have hjl:j<(T4 n i).length:=(aH.mp hc).1
    refine ⟨(szB),fun tp E_=>?_⟩
    have sT:=aM.new (o:=.tup [.int 0,.int 1]) E_
    have g1:=g.on sT
    refine ⟨tp,rfl,⟨_,oX.of ae⟩,Rn (K:=K) (a:=tp) (xs:=[0,1].map vN) (fun m σ H3=>∃ (v5:Option V),σ=[some (vN n),some (.ref rl),some (.int (0+(i:Int))),some (.ref L),some (.ref a),v5]/\H3 tp=some (.tup [.int 0,.int 1])/\rj H' H3 L (((T4 n i).take j).flatMap (ext n)++([0,1].take m).flatMap (Gx n c)))
     ⟨v5,rfl,ae,by rw [List.take_zero,List.flatMap_nil,cb];exact g1⟩ (fun m σ H3 _ ⟨_,_,ht,_⟩=>oX.of ht) ?_ ?_⟩
    ·rintro m y σ H3 hm EE ⟨v5,rfl,ht,g3⟩
     obtain ⟨u,hu,rfl⟩:=Dc hm
     have Z_:=g3.same _ _ hac
     refine ⟨_,rfl,.inl ⟨rfl,_,bO.of Z_⟩,_,rfl,a,_,_,rfl,rfl,bO.of (by rw [<- XX];exact Z_),_,rfl,_,_,rfl,rfl,_,rfl,?_⟩
     dsimp only [EE];rw [count_cast,take_snoc hu,eV,jS,<-bX]
     by_cases h1:c.count u<n
     ·rw [decide_eq_true (by omega)]
      obtain ⟨as3,hL3,hP3⟩:=g3.at_
      refine cz ⟨_,rfl,.inl ⟨rfl,_,bO.of hL3⟩,_,rfl,_,rfl,(szA),fun p1 T3=>?_⟩
      have s1:=aM.new (o:=.lst [vN u]) T3
      refine ⟨a,p1,_,_,rfl,rfl,s1 _ _ Z_,ae,?_,fun p2 El=>?_⟩
      ·rw [U]
       show _+1<=_
       rw [sizeLine_eq];omega
      have s2:=aM.new (o:=.lst (c.map vN++[vN u])) El
      have tH:p2≠L:=fun q=>by
       have z:=s1 _ _ hL3
       rw [<- q,El] at z
       cases z
      have hz:(((T4 n i).take j).flatMap (ext n)++([0,1].take m).flatMap (Gx n c)).length<sizeLine:=by
       rw [ao,sizeLine_eq]
       have h1:=Ox n ((T4 n i).take j)
       rw [bK] at h1
       have h2:=JO n c ([0,1].take m)
       rw [bK] at h2
       have h3:([0,1]:List Nat).length=2:=rfl
       omega
      obtain ⟨xs,hxs,hzs,g'⟩:=g3.more (s1.trans s2) (p:=p2) (c:=c++[u]) (by rw [ae,aX];rfl) tH hz
      refine ⟨L,xs,_,rfl,rfl,hxs,hzs,_,rfl,?_,?_⟩
      ·have agF:tp≠L:=dX ht hL3 (fun z=>nomatch z)
       rw [aD agF];exact (s1.trans s2) _ _ ht
      ·have e:Gx n c u=[c++[u]]:=by unfold Gx;rw [if_pos h1]
       rw [e];exact g'
     ·rw [decide_eq_false (by omega)]
      refine cC ⟨_,rfl,ht,?_⟩
      have e:Gx n c u=[]:=by unfold Gx;rw [if_neg h1]
      rw [e,cb];exact g3
    ·rintro σ H3 ⟨v5,rfl,ht,g3⟩
     refine ⟨_,_,rfl,?_⟩
     rw [take_snoc hc,eV,jS]
     exact g3
   ·rintro σ H2 ⟨v4,v5,rfl,g⟩
    rw [U,WM.length,cA] at g
    refine ⟨_,rfl,L,_,_,_,_,rfl,sH.trans g.same,g.ll⟩
  ·rintro σ H' ⟨rl,v2,v3,v4,v5,rfl,sH,hL⟩
   refine ⟨_,rfl,?_⟩
   rw [XU hn] at hL
   exact k H' rl sH hL
end
structure Raw where
 n:Nat
 points:List Nat
 tie:Str
 order:List Nat
 turn:Nat
 left:Nat
 can:List (Nat×Nat)
 past:List aP
def gf (n:Nat) (pa:Addr) (tie:Str) (oa:Addr) (turn left:Nat) (pd pl:Addr):List (Str×V):=
 [("boats",vN n),("points",.ref pa),("tie",.str tie),("order",.ref oa),("turn",vN turn),("left",vN left),("pairs",.ref pd),("past",.ref pl)]
section
variable {n:Nat} {pa:Addr} {tie:Str} {oa:Addr} {turn left:Nat} {pd pl:Addr}
theorem fM:(gf n pa tie oa turn left pd pl).lookup ("boats":Str)=some (vN n):=by kernel_rfl
theorem pM:(gf n pa tie oa turn left pd pl).lookup ("points":Str)=some (.ref pa):=by kernel_rfl
theorem AV:(gf n pa tie oa turn left pd pl).lookup ("tie":Str)=some (.str tie):=by kernel_rfl
theorem jb:(gf n pa tie oa turn left pd pl).lookup ("order":Str)=some (.ref oa):=by kernel_rfl
theorem qb:(gf n pa tie oa turn left pd pl).lookup ("turn":Str)=some (vN turn):=by kernel_rfl
theorem l_:(gf n pa tie oa turn left pd pl).lookup ("left":Str)=some (vN left):=by kernel_rfl
theorem lx:(gf n pa tie oa turn left pd pl).lookup ("pairs":Str)=some (.ref pd):=by kernel_rfl
theorem Fb:(gf n pa tie oa turn left pd pl).lookup ("past":Str)=some (.ref pl):=by kernel_rfl
theorem Ta {m:Nat}:ji "boats" (vN m) (gf n pa tie oa turn left pd pl)=gf m pa tie oa turn left pd pl:=by kernel_rfl
theorem QJ {m:Addr}:ji "points" (.ref m) (gf n pa tie oa turn left pd pl)=gf n m tie oa turn left pd pl:=by kernel_rfl
theorem XY {m:Str}:ji "tie" (.str m) (gf n pa tie oa turn left pd pl)=gf n pa m oa turn left pd pl:=by kernel_rfl
theorem vc {m:Addr}:ji "order" (.ref m) (gf n pa tie oa turn left pd pl)=gf n pa tie m turn left pd pl:=by kernel_rfl
theorem yu {m:Nat}:ji "turn" (vN m) (gf n pa tie oa turn left pd pl)=gf n pa tie oa m left pd pl:=by kernel_rfl
theorem B_ {m:Nat}:ji "left" (vN m) (gf n pa tie oa turn left pd pl)=gf n pa tie oa turn m pd pl:=by kernel_rfl
theorem Tb {m:Addr}:ji "pairs" (.ref m) (gf n pa tie oa turn left pd pl)=gf n pa tie oa turn left m pl:=by kernel_rfl
theorem VF {m:Addr}:ji "past" (.ref m) (gf n pa tie oa turn left pd pl)=gf n pa tie oa turn left pd m:=by kernel_rfl
end
def fi (p:Nat×Nat):List Key:=[Sum.inl (p.1:Int),Sum.inl (p.2:Int)]
theorem En {p q:Nat×Nat} (h:fi p=fi q):p=q:=by
 unfold fi at h
 injection h with h1 h2
 injection h2 with h2 _
 have e1:p.1=q.1:=rZ.inj (Sum.inl.inj h1)
 have e2:p.2=q.2:=rZ.inj (Sum.inl.inj h2)
 exact Prod.ext e1 e2
def gb (can:List (Nat×Nat)):List (List Key×V):=can.map fun p=>(fi p,V.bl true)
theorem zC (can:List (Nat×Nat)) (p:Nat×Nat):(jj (gb can) (fi p)).isSome=can.contains p:=by
 unfold gb
 induction can with
 | nil=>rfl
 | cons q can ih=>
  rw [aC,List.contains_cons]
  by_cases e:q=p
  ·subst e
   rw [i6 rfl];simp
  ·rw [g8 (fun z=>e (En z)),ih]
   have:(p==q)=false:=beq_eq_false_iff_ne.mpr (fun z=>e z.symm)
   rw [this,Bool.false_or]
theorem Ln {can:List (Nat×Nat)} {p:Nat×Nat} (h:can.contains p=false):putK (gb can) (fi p) (V.bl true)=gb (can++[p]):=by
 have q:jj (gb can) (fi p)=none:=by
  have e:=zC can p
  rw [h] at e
  cases z:jj (gb can) (fi p) with
  | none=>rfl
  | some v=>rw [z] at e;cases e
 rw [Nf _ q]
 unfold gb
 rw [aX];rfl
def aaa (H:Hp) (pl:Addr) (past:List aP):Prop:=
 ∃ ts:List Addr,H pl=some (.lst (ts.map V.ref))/\Paired (fun a (g:aP)=>∃ o,o≠pl/\H a=some (.tup [.ref o,vN g.turn,vN g.left])/\H o=some (.lst (g.order.map vN))) ts past.reverse
def mC (C:Addr) (H:Hp) (g pd pl:Addr) (x:Raw):Prop:=
 ∃ dx pa oa:Addr,H g=some (.ins C dx (gf x.n pa x.tie oa x.turn x.left pd pl))/\H pa=some (.lst (x.points.map vN))/\H oa=some (.lst (x.order.map vN))/\H pd=some (.dT (gb x.can))/\aaa H pl x.past/\pa≠pl/\oa≠pl
theorem mC.on {C:Addr} {H H':Hp} {g pd pl:Addr} {x:Raw} (h:mC C H g pd pl x) (s:aM H H'):mC C H' g pd pl x:=by
 obtain ⟨dx,pa,oa,h1,h2,h3,h4,⟨ts,h5,h6⟩,h7,h8⟩:=h
 exact ⟨dx,pa,oa,s _ _ h1,s _ _ h2,s _ _ h3,s _ _ h4,⟨ts,s _ _ h5,h6.mono fun a q ⟨o,z1,z2,z3⟩=>⟨o,z1,s _ _ z2,s _ _ z3⟩⟩,h7,h8⟩
section
variable {P:Program} {w:World} {K:ab} {mg:Str->Option Value} {base:Heap} {t:uZ}
def VG:Raw:=⟨0,[],"",[],0,0,[],[]⟩
def Lo (C:Addr):Sp:=fun vs H Q _=>∃ (g dx:Addr),vs=[.ref g]/\H g=some (.ins C dx [])/\∀ (H':Hp) (pd pl:Addr),mC C H' g pd pl VG->bh [g] H H'->H pd=none->H pl=none->Q .jU H'
theorem Dg (T:Txt K mg t):bY P w K mg base fw 1 t.eZ t.gW ["self"] (Lo t.aF):=by
 refine T.fW.ok C5 (fun vs H Q E h=>?_) (fun eW A outer s H vs Q E hr h=>?_)
 ·obtain ⟨g,dx,rfl,_⟩:=h
  rfl
 ·obtain ⟨g,dx,rfl,hg,k⟩:=h
  refine ⟨_,(ag (dY (pv 0) az rfl)
   (ag (dY (pv 0) (bw ai) rfl)
   (ag (dY (pv 0) i4 rfl)
   (ag (dY (pv 0) (bw ai) rfl)
   (ag (dY (pv 0) az rfl)
   (ag (dY (pv 0) az rfl)
   (ag (dY (pv 0) (Ni) rfl)
   (ak (dY (pv 0) (bw ai) rfl))))))))),?_⟩
  try dsimp only [cxK]
  have st:∀ {H1:Hp} {fs:List (Str×V)} (o:HO),bh [g] H H1->H1 g=some (.ins t.aF dx fs)->bh [g] H (upd H1 g o):=fun o z _=>z.upd (by simp)
  refine ⟨_,rfl,g,_,dx,_,rfl,hg,T.aI,T.bM,(by show 0<1000;decide),?_⟩
  have z1:bh [g] H (upd H g (.ins t.aF dx (ji "boats" (.int 0) []))):=(bh.of fun _ _ e=>e).upd (by simp)
  refine ⟨a0 _,fun pa my=>?_⟩
  have qM:pa≠g:=Ne.symm (aV ae my)
  refine ⟨_,rfl,g,_,dx,_,rfl,(by rw [aD (Ne.symm qM)];exact ae),T.aI,T.cG,of_decide_eq_true (by kernel_rfl),?_⟩
  refine ⟨_,rfl,g,_,dx,_,rfl,ae,T.aI,T.dI,of_decide_eq_true (by kernel_rfl),?_⟩
  refine ⟨a0 _,fun oa lP=>?_⟩
  have rm:oa≠g:=Ne.symm (aV ae lP)
  refine ⟨_,rfl,g,_,dx,_,rfl,(by rw [aD (Ne.symm rm)];exact ae),T.aI,T.bN,of_decide_eq_true (by kernel_rfl),?_⟩
  refine ⟨_,rfl,g,_,dx,_,rfl,ae,T.aI,T.cg,of_decide_eq_true (by kernel_rfl),?_⟩
  refine ⟨_,rfl,g,_,dx,_,rfl,ae,T.aI,T.bZ,of_decide_eq_true (by kernel_rfl),?_⟩
  intro pd ma
  have WN:pd≠g:=Ne.symm (aV ae ma)
  refine ⟨_,rfl,g,_,dx,_,rfl,(by rw [aD (Ne.symm WN)];exact ae),T.aI,T.cu,of_decide_eq_true (by kernel_rfl),?_⟩
  refine ⟨a0 _,fun pl kF=>?_⟩
  have npl:pl≠g:=Ne.symm (aV ae kF)
  refine ⟨_,rfl,g,_,dx,_,rfl,(by rw [aD (Ne.symm npl)];exact ae),T.aI,T.eT,of_decide_eq_true (by kernel_rfl),?_⟩
  have d1:oa≠pa:=by
   intro q;subst q;simp [upd,qM] at lP
  have d2:pd≠pa:=by
   intro q;subst q;simp [upd,qM,Ne.symm d1] at ma
  have d3:pd≠oa:=by
   intro q;subst q;simp [upd,rm] at ma
  have d4:pl≠pa:=by
   intro q;subst q;simp [upd,qM,Ne.symm d1,Ne.symm d2] at kF
  have d5:pl≠oa:=by
   intro q;subst q;simp [upd,rm,Ne.symm d3] at kF
  have d6:pl≠pd:=by
   intro q;subst q;simp [upd,WN] at kF
  have f1:H pd=none:=by simpa [upd,WN,d2,d3] using ma
  have f2:H pl=none:=by simpa [upd,npl,d4,d5,d6] using kF
  have f3:H pa=none:=by simpa [upd,qM] using my
  have f4:H oa=none:=by simpa [upd,rm,d1] using lP
  refine k _ pd pl ⟨dx,pa,oa,?_,?_,?_,?_,⟨[],?_,.nil⟩,Ne.symm d4,Ne.symm d5⟩ ?_ f1 f2
  ·rw [ae]
   exact congrArg (fun z=>some (HO.ins t.aF dx z)) (by kernel_rfl)
  ·simp [upd,qM,Ne.symm d1,Ne.symm d2,Ne.symm d4,VG]
  ·simp [upd,rm,Ne.symm d3,Ne.symm d5,VG]
  ·simp [upd,WN,Ne.symm d6,VG,gb]
  ·simp [upd,npl]
  ·refine bh.upd (bh.cZ (bh.upd (bh.cZ (bh.upd (bh.upd (bh.upd (bh.cZ (bh.upd (bh.upd (bh.cZ (bh.upd (bh.of fun _ _ e=>e) ?_) ?_) ?_) ?_) ?_) ?_) ?_) ?_) ?_) ?_) ?_) ?_
   all_goals first | exact f1 | exact f2 | exact f3 | exact f4 | simp
end
structure Ord (n:Nat) (o:List Nat):Prop where
 len:o.length=2*n
 lt:∀ b∈o,b<2*n
theorem VH {n b:Nat} (hn:n=2\/n=3) (h:b<2*n) (r:aR) (hr:r.n=n):b / n=di r b:=by
 unfold di
 rw [hr]
 rcases hn with rfl | rfl
 ·split<;>omega
 ·split<;>omega
theorem QK {r:aR} {o:List Nat} (hn:r.n=2\/r.n=3) (h:Ord r.n o):sJ (cN r o):=by
 refine ⟨fun e=>?_,fun x hx=>?_,?_⟩
 ·have z:=congrArg iA e
  unfold cN at z
  rw [U,h.len,rf] at z
  omega
 ·unfold cN at hx
  obtain ⟨b,_,rfl⟩:=aO.mp hx
  unfold di
  split<;>omega
 ·unfold cN
  rw [U,h.len];omega
section
variable {P:Program} {w:World} {K:ab} {mg:Str->Option Value} {base:Heap} {t:uZ}
def Oy (K:ab) (C:Addr):Sp:=fun vs H Q _=>∃ (g pd pl a:Addr) (x:Raw) (r:aR) (o:List Nat),vs=[.ref g,.ref a]/\mC C H g pd pl x/\r.n=x.n/\(x.n=2\/x.n=3)/\bO K H a (o.map vN)/\(∀ b∈o,b<2*x.n)/\o.length<=6/\
 ∀ (H':Hp) (p:Addr),aM H H'->H p=none->H' p=some (.lst ((cN r o).map vN))->Q (.ref p) H'
theorem yw (T:Txt K mg t):bY P w K mg base fw 1 t.mT t.o8 ["game","order"] (Oy K t.aF):=by
 refine T.iQ.ok ye (fun vs H Q E h=>?_) (fun eW A outer s H vs Q E hr h=>?_)
 ·obtain ⟨g,pd,pl,a,x,r,o,rfl,_⟩:=h
  rfl
 ·obtain ⟨g,pd,pl,a,x,r,o,rfl,hg,WO,hn,ha,ho,hl,k⟩:=h
  refine ⟨_,(ak (aK (tK rfl ye.nd (fv (pv 1)) (gH (own:=[("boat",2)]) (by kernel_rfl)) (fun _ _ _ _ _=>(uY 2 ye.nd)) (fun _ _ _ _ _=>kz) (fun _ _ _ _ _=>(cB WY (pv 2) (Kw (K:=K) rfl (pv 0) rfl)))))),?_⟩
  try dsimp only [cxK]
  refine ⟨_,rfl,a,rfl,⟨_,ha⟩,fun D hD=>?_⟩
  refine sr (K:=K) (a:=a) (xs:=o.map vN) (ys:=(cN r o).map vN) hD ha (by unfold cN;rw [U,U,U]) ?_ ?_ ?_
  ·unfold cN
   rw [U,U,sizeLine_eq];omega
  ·intro i x1 y H1 R hi hy s1 fin
   obtain ⟨b,hb,rfl⟩:=Dc hi
   obtain ⟨c,hc,rfl⟩:=Dc hy
   obtain ⟨dx,pa,oa,cK,_⟩:=hg.on s1
   refine ⟨rfl,_,rfl,_,rfl,g,_,dx,_,_,rfl,cK,T.aI,T.bM,fM,_,_,rfl,rfl,⟨by rcases hn with e | e<;>rw [e]<;>decide,by rcases hn with e | e<;>rw [e]<;>decide⟩,?_⟩
   have e:(b:Int) / (x.n:Int)=((c:Nat):Int):=by
    unfold cN at hc
    rw [ax,hb] at hc
    have hc:di r b=c:=aj.inj hc
    rw [<- hc,<-VH hn (ho b (aT hb)) r WO]
    exact (Int.natCast_ediv b x.n).symm
   show R (V.int ((b:Int) / (x.n:Int))) H1
   rw [e]
   exact fin _ (fun _ _ z=>z)
  ·intro H1 s1 AU
   exact k H1 D s1 hD AU
def Raw.rules (x:Raw) (tie:Nat):aR:=⟨x.n,x.points,tie,x.can⟩
def Gy (K:ab) (C:Addr):Sp:=fun vs H Q _=>∃ (g pd pl a:Addr) (x:Raw) (tie:Nat) (o:List Nat),vs=[.ref g,.ref a]/\mC C H g pd pl x/\x.tie=dm tie/\tie<=2/\(x.n=2\/x.n=3)/\bO K H a (o.map vN)/\Ord x.n o/\
 ∀ (H':Hp) (p:Addr),aM H H'->H p=none->H' p=some (.lst ((Vw (x.rules tie) (cN (x.rules tie) o)).map V.int))->Q (.ref p) H'
theorem ly (T:Txt K mg t):bY P w K mg base fw 3 t.iJ t.j6 ["game","order"] (Gy K t.aF):=by
 refine T.dq.ok Ge (fun vs H Q E h=>?_) (fun eW A outer s H vs Q E hr h=>?_)
 ·obtain ⟨g,pd,pl,a,x,tie,o,rfl,_⟩:=h
  rfl
 ·obtain ⟨g,pd,pl,a,x,tie,o,rfl,hg,agH,XZ,hn,ha,ho,k⟩:=h
  refine ⟨_,(ak (aK (aN (yp T) (hr.mono (by omega)) rfl T.zw T.mJ.kp (B1 T) .nil bp (aa (bb (pv 0) rfl) (aa (bb (pv 0) rfl) (aa (aN (yw T) (hr.mono (by omega)) rfl T.vI T.iQ.kp (AO T) .nil bp (aa (pv 0) (aa (pv 1) ai))) ai)))))),?_⟩
  try dsimp only [cxK]
  obtain ⟨dx,pa,oa,cK,my,_⟩:=id hg
  have QL:o.length<=6:=by rw [ho.len];omega
  refine ⟨_,rfl,g,_,dx,_,_,rfl,cK,T.aI,T.cG,pM,_,rfl,g,_,dx,_,_,rfl,cK,T.aI,T.dI,AV,_,rfl,_,rfl,g,pd,pl,a,x,x.rules tie,o,rfl,hg,rfl,hn,ha,ho.lt,QL,fun H1 p s1 TZ hp=>?_⟩
  refine ⟨pa,p,x.rules tie,_,by rw [agH];rfl,bO.of (s1 _ _ my),bO.of hp,QK hn ho,XZ,fun H2 q s2 hq0 hq=>?_⟩
  exact k H2 q (s1.trans s2) (s1.free hq0) hq
def jW (o:List Nat) (m:Nat):List Nat:=if m=0 then o else if m<100 then uN (m - 2) o else uN (m - 101) o
def placeOf (m:Nat):Nat:=if m<100 then m else m - 99
theorem Dh:∀ (k:Nat) (o:List Nat),k+1<o.length->uN k o=oA o k
 | 0,x::y::l,_=>rfl
 | k+1,x::l,h=>by
  have h:k+1+1<l.length+1:=h
  have ih:=Dh k l (by omega)
  show x::uN k l=_
  rw [ih];rfl
 | 0,[],h=>by simp at h
 | 0,[x],h=>by simp at h
 | k+1,[],h=>by simp at h
def ER (K:ab):Sp:=fun vs H Q _=>∃ (a:Addr) (o:List Nat) (m:Nat),vs=[.ref a,vN m]/\bO K H a (o.map vN)/\o.length<=6/\(m=0\/(2<=placeOf m/\placeOf m<=o.length/\¬ m=100))/\
 ∀ (H':Hp) (p:Addr),aM H H'->H p=none->H' p=some (.lst ((jW o m).map vN))->Q (.ref p) H'
theorem qN (T:Txt K mg t):bY P w K mg base fw 1 t.gL t.i7 ["order","move"] (ER K):=by
 refine T.dM.ok xh (fun vs H Q E h=>?_) (fun eW A outer s H vs Q E hr h=>?_)
 ·obtain ⟨a,o,m,rfl,_⟩:=h
  rfl
 ·obtain ⟨a,o,m,rfl,ha,hl,hm,k⟩:=h
  refine ⟨_,(ag (cx (bu gh (pv 1) az (bP _))
   (ak (aK (i5 Kd (by rfl) T.AL boot_list (aa (pv 0) ai))))
   bt)
   (ag (gR 2 xh.nd (xo (bu Je (pv 1) (eX rfl T.BV) (bP _)) (pv 1) (cB oq (cB iE (pv 1) (eX rfl T.BV)) az)))
   (ak (aK (cB r_ (cB r_ (r8 vk (pv 0) Bu (rD (cB iE (pv 2) az))) (bw (aa (bQ bI (pv 0) (cB iE (pv 2) az) (fun _ _=>rfl)) (aa (bQ bI (pv 0) (cB iE (pv 2) az) (fun _ _=>rfl)) ai)))) (r8 vk (pv 0) (rD (pv 2)) Bu)))))),?_⟩
  try dsimp only [cxK]
  refine ⟨_,rfl,rfl,_,rfl,?_⟩
  rw [b_]
  by_cases h0:m=0
  ·subst h0
   rw [decide_eq_true (by rfl)]
   refine cz ⟨_,rfl,a,_,rfl,.inl ha,fun p hp=>?_⟩
   exact k _ p (aM.new hp) hp ae
  ·rw [decide_eq_false (by omega)]
   obtain ⟨h2,h3,h4⟩:=hm.resolve_left h0
   have fin:∀ z:Int,z=((placeOf m:Nat):Int)->abM (TU Zm (TU Zm (tSl (Zi K) (Br 0) J9 (Ux (TU (Um fun i j=>.int (i - j)) (Br 2) (tC (.int 2))))) (ab1 (Fv (TU (W5 K) (Br 0) (TU (Um fun i j=>.int (i - j)) (Br 2) (tC (.int 1)))) (Fv (TU (W5 K) (Br 0) (TU (Um fun i j=>.int (i - j)) (Br 2) (tC (.int 2)))) Ur)))) (tSl (Zi K) (Br 0) (Ux (Br 2)) J9)) { nx:=fun _ H'=>Q .jU H',rt:=Q } [some (.ref a),some (vN m),some (.int z)] H:=by
    intro z e1
    subst e1
    obtain ⟨j,hj⟩:∃ j,placeOf m=j+2:=⟨placeOf m - 2,by omega⟩
    have e2:((placeOf m:Nat):Int) - 2=((j:Nat):Int):=by omega
    have e3:((placeOf m:Nat):Int) - 1=((j+1:Nat):Int):=by omega
    have eA:qe (o.map vN) none (some (((placeOf m:Nat):Int) - 2))=(o.take j).map vN:=by rw [e2,Qk,List.map_take]
    have eB:qe (o.map vN) (some ((placeOf m:Nat):Int)) none=(o.drop (j+2)).map vN:=by rw [FZ,List.map_drop,hj]
    refine ⟨_,rfl,_,rfl,_,_,rfl,rfl,_,rfl,a,_,rfl,ha,fun p1 T3=>?_⟩
    have s1:=aM.new (o:=.lst (qe (o.map vN) none (some (((placeOf m:Nat):Int) - 2)))) T3
    refine ⟨_,rfl,_,rfl,_,_,rfl,rfl,a,_,_,_,rfl,rfl,s1.seq ha,TY e3 (Ou (by omega)),_,rfl,_,rfl,_,_,rfl,rfl,a,_,_,_,rfl,rfl,s1.seq ha,TY e2 (Ou (by omega)),(szB),fun p2 El=>?_⟩
    have s2:=aM.new (o:=.lst [vN (o.getD (j+1) 0),vN (o.getD j 0)]) El
    refine ⟨p1,p2,_,_,rfl,rfl,s2 _ _ ae,ae,?_,fun p3 hp3=>?_⟩
    ·rw [eA,U,bK]
     show _+2<=_
     rw [sizeLine_eq];omega
    have s3:=aM.new (o:=.lst (qe (o.map vN) none (some (((placeOf m:Nat):Int) - 2))++[vN (o.getD (j+1) 0),vN (o.getD j 0)])) hp3
    have De:=(s1.trans s2).trans s3
    refine ⟨_,rfl,_,rfl,_,rfl,a,_,rfl,De.seq ha,fun p4 XM=>?_⟩
    have s4:=aM.new (o:=.lst (qe (o.map vN) (some ((placeOf m:Nat):Int)) none)) XM
    refine ⟨p3,p4,_,_,rfl,rfl,s4 _ _ ae,ae,?_,fun p5 hp5=>?_⟩
    ·rw [eA,eB,ao,U,U,bK,dh]
     show _+2+_<=_
     rw [sizeLine_eq];omega
    refine k _ p5 ((De.trans s4).trans (aM.new hp5)) ((De.trans s4).free hp5) ?_
    rw [ae,eA,eB]
    have eo:jW o m=oA o j:=by
     unfold jW
     rw [if_neg h0]
     unfold placeOf at hj h3
     by_cases hm1:m<100
     ·rw [if_pos hm1] at hj h3 ⊢
      rw [show m - 2=j by omega,Dh j o (by omega)]
     ·rw [if_neg hm1] at hj h3 ⊢
      rw [show m - 101=j by omega,Dh j o (by omega)]
    rw [eo]
    unfold oA
    rw [aX,aX];rfl
   refine cC ⟨_,rfl,_,_,rfl,rfl,_,rfl,?_⟩
   by_cases hm1:m<100
   ·rw [decide_eq_true (by omega)]
    refine cz ⟨_,rfl,?_⟩
    have e:placeOf m=m:=by unfold placeOf;rw [if_pos hm1]
    exact fin _ (by rw [e])
   ·rw [decide_eq_false (by omega)]
    refine cC ⟨_,rfl,_,_,rfl,rfl,_,_,rfl,rfl,?_⟩
    have e:placeOf m=m - 99:=by unfold placeOf;rw [if_neg hm1]
    have e2:(m:Int) - 100+1=((m - 99:Nat):Int):=by omega
    exact fin _ (by rw [e];exact e2)
end
theorem VI {r:aR} {g:aP} {i:Nat} (h:i+1<g.order.length) (h6:g.order.length<=6):
  bz r g (i+2)=(di r (g.order.getD (i+1) 0)==g.turn&&r.can.contains (g.order.getD (i+1) 0,g.order.getD i 0)):=by
 unfold bz
 rw [if_neg (by omega),if_pos (by omega),if_neg (by omega)]
 have e1:i+2 - 1=i+1:=by omega
 have e2:i+2 - 2=i:=by omega
 rw [e1,e2,bD,bD,a7 h,a7 (show i<g.order.length by omega)]
 rfl
theorem X0 {r:aR} {g:aP} {i:Nat} (h:i+1<g.order.length):bz r g (101+i)=(di r (g.order.getD i 0)==g.turn):=by
 unfold bz
 rw [if_neg (by omega),if_neg (by omega),if_neg (by omega)]
 have e1:101+i - 101=i:=by omega
 have e2:101+i - 100=i+1:=by omega
 rw [e1,e2,bD,a7 h,a7 (show i<g.order.length by omega)]
 rfl
def T5 (r:aR) (g:aP) (i:Nat):List Nat:=0::((aY i).map (·+2)).filter (bz r g)
def T6 (r:aR) (g:aP) (m i:Nat):List Nat:=T5 r g m++((aY i).map (101+·)).filter (bz r g)
theorem tR (p:Nat->Bool) (f:Nat->Nat) (i:Nat):((aY (i+1)).map f).filter p=((aY i).map f).filter p++(if p (f i)=true then [f i] else []):=by
 rw [rh,aX,nh]
 congr 1
 rw [aC,iB,eK,List.filter_nil]
theorem AW (p:Nat->Bool) (f:Nat->Nat) (i:Nat):(((aY i).map f).filter p).length<=i:=by
 refine bB (ku _ _) ?_
 rw [U,ck];exact au _
theorem VJ {r:aR} {g:aP} (hn:r.n=2\/r.n=3):T6 r g (2*r.n - 1) (2*r.n - 1)=bg r g:=by
 have h0:bz r g 0=true:=by unfold bz;rw [if_pos rfl]
 have h1:bz r g 1=false:=by
  unfold bz
  rw [if_neg (by decide),if_pos (by decide),if_pos rfl]
  cases g.order[1 - 1]?<;>rfl
 have agI:bz r g 100=false:=by
  unfold bz
  rw [if_neg (by decide),if_neg (by decide),if_pos rfl]
 unfold T6 T5 bg
 rw [nh]
 have e:∀ m:Nat,aY (m+2)=0::1::(aY m).map (·+2):=fun m=>by
  rw [dC,dC,aC,a9];rfl
 have e2:∀ m:Nat,(aY (m+1)).map (fun k=>100+k)=100::(aY m).map (101+·):=fun m=>by
  rw [dC,aC,a9]
  congr 1
  exact cf fun k _=>by show 100+(k+1)=101+k;omega
 obtain ⟨m,hm⟩:∃ m,2*r.n - 1=m:=⟨_,rfl⟩
 have hm1:2*r.n+1=m+2:=by omega
 have hm2:2*r.n=m+1:=by omega
 rw [hm,hm1,hm2,e,e2,eK,if_pos h0,eK,if_neg (by rw [h1];decide),eK,if_neg (by rw [agI];decide)]
section
variable {P:Program} {w:World} {K:ab} {mg:Str->Option Value} {base:Heap} {t:uZ}
theorem ac1 {r:aR} {o:List Nat} {k:Nat} (h:k<o.length):((cN r o).map vN)[k]?=some (vN (di r (o.getD k 0))):=by
 unfold cN
 rw [a9,ax,bD,a7 h];rfl
def Oz (K:ab) (C:Addr):Sp:=fun vs H Q _=>∃ (g pd pl a:Addr) (x:Raw) (r:aR) (y:aP),vs=[.ref g,.ref a,vN y.turn]/\mC C H g pd pl x/\r.n=x.n/\r.can=x.can/\(x.n=2\/x.n=3)/\bO K H a (y.order.map vN)/\Ord x.n y.order/\
 ∀ (H':Hp) (p:Addr),aM H H'->H p=none->H' p=some (.lst ((bg r y).map vN))->Q (.ref p) H'
theorem yx (T:Txt K mg t):bY P w K mg base fw 2 t.mU t.o9 ["game","order","turn"] (Oz K t.aF):=by
 refine T.iR.ok ql (fun vs H Q E h=>?_) (fun eW A outer s H vs Q E hr h=>?_)
 ·obtain ⟨g,pd,pl,a,x,r,y,rfl,_⟩:=h
  rfl
 ·obtain ⟨g,pd,pl,a,x,r,y,rfl,hg,WO,hrc,hn,ha,ho,k⟩:=h
  have hu:=xA hr
  have agJ:r.n=2\/r.n=3:=by rw [WO];exact hn
  have QL:y.order.length<=6:=by rw [ho.len];omega
  refine ⟨_,(ag (gR 3 ql.nd (aN (yw T) (hr.mono (by omega)) rfl T.vI T.iQ.kp (AO T) .nil bp (aa (pv 0) (aa (pv 1) ai))))
   (ag (gR 4 ql.nd (bw (aa az ai)))
   (ag (gE PassesOwn.never rfl (uQ rfl T.jQ (aa az (aa (cB oq (b8 bT (by rfl) T.f_ boot_len (aa (pv 1) ai)) az) ai))) (uY 5 ql.nd)
   (ak (cx (PW.pt (J6 (bu gh (bQ bI (pv 3) (cB iE (pv 5) az) (fun _ _=>rfl)) (pv 2) (bP _)) (EU (vh (PV hu (r6 (aa (bQ bI (pv 1) (cB iE (pv 5) az) (fun _ _=>rfl)) (aa (bQ bI (pv 1) (cB iE (pv 5) az) (fun _ _=>rfl)) ai))) (bb (pv 0) rfl)) (by with_unfolding_all rfl)))))
   (ak (cO (gG aB bc bf d8 (pv 4) (aa (pv 5) ai))))
   bt)))
   (ag (gE PassesOwn.never rfl (uQ rfl T.jQ (aa az (aa (b8 bT (by rfl) T.f_ boot_len (aa (pv 1) ai)) ai))) (uY 5 ql.nd)
   (ak (cx (bu gh (bQ bI (pv 3) (cB iE (pv 5) az) (fun _ _=>rfl)) (pv 2) (bP _))
   (ak (cO (gG aB bc bf d8 (pv 4) (aa (cB oq (eX rfl T.BV) (pv 5)) ai))))
   bt)))
   (ak (aK (pv 4))))))),?_⟩
  try dsimp only [cxK]
  refine ⟨_,rfl,_,rfl,g,pd,pl,a,x,r,y.order,rfl,hg,WO,hn,ha,ho.lt,QL,fun H1 c s1 hc0 hc=>?_⟩
  refine ⟨(szA),fun M hM=>?_⟩
  have s2:=aM.new (o:=.lst [.int 0]) hM
  have HM:H M=none:=s1.free hM
  have ncM:c≠M:=aV hc hM
  refine ⟨_,rfl,a,_,rfl,.inl ((s1.trans s2).seq ha),_,_,rfl,rfl,2,_,rfl,⟨by decide,by decide,by rw [U];omega,by rw [U];omega⟩,?_⟩
  rw [U]
  have en:(((y.order.length:Int)+1) - 2).toNat=2*r.n - 1:=by rw [ho.len,WO];omega
  rw [en]
  refine nj (lo:=2) (n:=2*r.n - 1) (fun i σ H'=>∃ v5:Option V,σ=[some (.ref g),some (.ref a),some (vN y.turn),some (.ref c),some (.ref M),v5]/\bh [M] H1 H'/\H' M=some (.lst ((T5 r y i).map vN))) ⟨none,rfl,bh.of s2,ae⟩ ?_ ?_
  ·rintro i σ H' hi EE ⟨v5,rfl,sE,T7⟩
   have sS:aM H1 H':=(sE.drop hM).nil
   have Vz:i+1<y.order.length:=by rw [ho.len,<-WO];omega
   have e1:(2:Int)+(i:Int) - 1=((i+1:Nat):Int):=by omega
   have e2:(2:Int)+(i:Int) - 2=((i:Nat):Int):=by omega
   have RB:=(s1.trans sS).seq ha
   have mm:=VI (r:=r) (g:=y) Vz QL
   have sk:(if bz r y (i+2)=true then [i+2] else [])=[]->T5 r y (i+1)=T5 r y i:=fun e=>by
    unfold T5
    rw [tR,e,cb]
   refine ⟨_,rfl,_,rfl,_,_,rfl,rfl,c,_,_,_,rfl,rfl,bO.of (sS _ _ hc),TY e1 (ac1 Vz),_,rfl,rfl,_,rfl,?_⟩
   rw [b_]
   by_cases h1:di r (y.order.getD (i+1) 0)=y.turn
   ·rw [decide_eq_true (by omega)]
    have YE:(di r (y.order.getD (i+1) 0)==y.turn)=true:=beq_iff_eq.mpr h1
    rw [YE,eQ] at mm
    refine cz ⟨_,rfl,_,rfl,_,_,rfl,rfl,a,_,_,_,rfl,rfl,RB,TY e1 (Ou Vz),_,rfl,_,rfl,_,_,rfl,rfl,a,_,_,_,rfl,rfl,RB,TY e2 (Ou (by omega)),(szB),fun tp E_=>?_⟩
    have s3:=aM.new (o:=.tup [vN (y.order.getD (i+1) 0),vN (y.order.getD i 0)]) E_
    obtain ⟨dx,pa,oa,cK,_,_,ma,_⟩:=hg.on ((s1.trans sS).trans s3)
    refine ⟨_,rfl,g,_,dx,_,_,rfl,cK,T.aI,T.cu,lx,pd,_,rfl,FE.t (k:=fi (y.order.getD (i+1) 0,y.order.getD i 0)) ma ae,_,rfl,?_⟩
    rw [zC,<-hrc,<-mm]
    by_cases h2:bz r y (i+2)=true
    ·rw [h2]
     have hM3:=s3 _ _ T7
     refine cz ⟨_,rfl,.inl ⟨rfl,_,bO.of hM3⟩,_,rfl,M,_,_,rfl,rfl,hM3,?_,_,rfl,?_,?_⟩
     ·rw [U]
      unfold T5
      have z:=AW (bz r y) (·+2) i
      rw [aq,sizeLine_eq];omega
     ·exact (sE.then s3).upd (by simp)
     ·rw [ae]
      have e:T5 r y (i+1)=T5 r y i++[i+2]:=by
       unfold T5
       rw [tR,if_pos h2];rfl
      rw [e,aX]
      have e3:(2:Int)+(i:Int)=((i+2:Nat):Int):=by omega
      rw [e3];rfl
    ·have h2':bz r y (i+2)=false:=by simpa using h2
     rw [h2']
     refine cC ⟨_,rfl,sE.then s3,?_⟩
     rw [sk (if_neg h2)];exact s3 _ _ T7
   ·rw [decide_eq_false (by omega)]
    have YE:(di r (y.order.getD (i+1) 0)==y.turn)=false:=beq_eq_false_iff_ne.mpr h1
    rw [YE,jc] at mm
    refine cC (cC ⟨_,rfl,sE,?_⟩)
    rw [sk (if_neg (by rw [mm];decide))];exact T7
  ·rintro σ H' ⟨v5,rfl,sE,T7⟩
   have sS:aM H1 H':=(sE.drop hM).nil
   refine ⟨_,rfl,a,_,rfl,.inl ((s1.trans sS).seq ha),1,_,rfl,⟨by decide,by decide,by rw [U];omega,by rw [U];omega⟩,?_⟩
   rw [U]
   have en:((y.order.length:Int) - 1).toNat=2*r.n - 1:=by rw [ho.len,WO];omega
   rw [en]
   refine nj (lo:=1) (n:=2*r.n - 1) (fun i σ H'=>∃ v5:Option V,σ=[some (.ref g),some (.ref a),some (vN y.turn),some (.ref c),some (.ref M),v5]/\bh [M] H1 H'/\H' M=some (.lst ((T6 r y (2*r.n - 1) i).map vN))) ⟨_,rfl,sE,?_⟩ ?_ ?_
   ·have e:T6 r y (2*r.n - 1) 0=T5 r y (2*r.n - 1):=by unfold T6;simp
    rw [e];exact T7
   ·rintro i σ H2 hi EE ⟨v5,rfl,sE,T7⟩
    have sS:aM H1 H2:=(sE.drop hM).nil
    have Vz:i+1<y.order.length:=by rw [ho.len,<-WO];omega
    have e1:(1:Int)+(i:Int) - 1=((i:Nat):Int):=by omega
    have mm:=X0 (r:=r) (g:=y) Vz
    refine ⟨_,rfl,_,rfl,_,_,rfl,rfl,c,_,_,_,rfl,rfl,bO.of (sS _ _ hc),TY e1 (ac1 (by omega)),_,rfl,rfl,_,rfl,?_⟩
    rw [b_]
    by_cases h1:di r (y.order.getD i 0)=y.turn
    ·rw [decide_eq_true (by omega)]
     have h2:bz r y (101+i)=true:=by rw [mm];exact beq_iff_eq.mpr h1
     refine cz ⟨_,rfl,.inl ⟨rfl,_,bO.of T7⟩,_,rfl,_,_,rfl,rfl,M,_,_,rfl,rfl,T7,?_,_,rfl,sE.upd (by simp),?_⟩
     ·rw [U]
      unfold T6 T5
      have z1:=AW (bz r y) (·+2) (2*r.n - 1)
      have z2:=AW (bz r y) (101+·) i
      rw [ao,aq,sizeLine_eq];omega
     ·rw [ae]
      have e:T6 r y (2*r.n - 1) (i+1)=T6 r y (2*r.n - 1) i++[101+i]:=by
       unfold T6
       rw [tR,if_pos h2,bX]
      rw [e,aX]
      have e3:(100:Int)+(1+(i:Int))=((101+i:Nat):Int):=by omega
      show some (HO.lst (_++[V.int ((100:Int)+(1+(i:Int)))]))=_
      rw [e3];rfl
    ·rw [decide_eq_false (by omega)]
     have h2:¬ bz r y (101+i)=true:=by rw [mm];simpa using h1
     refine cC ⟨_,rfl,sE,?_⟩
     have e:T6 r y (2*r.n - 1) (i+1)=T6 r y (2*r.n - 1) i:=by
      unfold T6
      rw [tR,if_neg h2,cb]
     rw [e];exact T7
   ·rintro σ H2 ⟨v5,rfl,sE,T7⟩
    refine ⟨_,rfl,?_⟩
    rw [VJ agJ] at T7
    exact k H2 M (s1.trans (sE.drop hM).nil) HM T7
def Raw.game (x:Raw):aP:=⟨x.order,x.turn,x.left⟩
def lz (x:Raw) (tie:Nat):List Nat:=if x.left=0 then [] else bg (x.rules tie) x.game
def Lp (C:Addr):Sp:=fun vs H Q _=>∃ (g pd pl:Addr) (x:Raw) (tie:Nat),vs=[.ref g]/\mC C H g pd pl x/\(x.n=2\/x.n=3)/\Ord x.n x.order/\
 ∀ (H':Hp) (p:Addr),aM H H'->H p=none->H' p=some (.lst ((lz x tie).map vN))->Q (.ref p) H'
theorem Ca (T:Txt K mg t):bY P w K mg base fw 3 t.kL t.nr ["game"] (Lp t.aF):=by
 refine T.hZ.ok KQ (fun vs H Q E h=>?_) (fun eW A outer s H vs Q E hr h=>?_)
 ·obtain ⟨g,pd,pl,x,tie,rfl,_⟩:=h
  rfl
 ·obtain ⟨g,pd,pl,x,tie,rfl,hg,hn,ho,k⟩:=h
  refine ⟨_,(ag (cx (bu gh (bb (pv 0) rfl) az (bP _))
   (ak (aK (bw ai)))
   bt)
   (ak (aK (aN (yx T) (hr.mono (by omega)) rfl T.vJ T.iR.kp (AQ T) .nil bp (aa (pv 0) (aa (bb (pv 0) rfl) (aa (bb (pv 0) rfl) ai))))))),?_⟩
  try dsimp only [cxK]
  obtain ⟨dx,pa,oa,cK,my,lP,_⟩:=id hg
  refine ⟨_,rfl,g,_,dx,_,_,rfl,cK,T.aI,T.bZ,l_,rfl,_,rfl,?_⟩
  rw [b_]
  unfold lz at k
  by_cases h0:x.left=0
  ·rw [decide_eq_true (by omega)]
   rw [if_pos h0] at k
   refine cz ⟨a0 _,fun p hp=>?_⟩
   exact k _ p (aM.new hp) hp ae
  ·rw [decide_eq_false (by omega)]
   rw [if_neg h0] at k
   refine cC ⟨_,rfl,_,rfl,g,_,dx,_,_,rfl,cK,T.aI,T.bN,jb,_,rfl,g,_,dx,_,_,rfl,cK,T.aI,T.cg,qb,g,pd,pl,oa,x,x.rules tie,x.game,rfl,hg,rfl,rfl,hn,bO.of lP,ho,fun H1 p s1 TZ hp=>?_⟩
   exact k H1 p s1 TZ hp
def Raw.moved (x:Raw) (m:Nat):Raw:={ x with order:=jW x.order m,turn:=1 - x.turn,left:=x.left - 1,past:=x.game::x.past }
def Lq (C:Addr):Sp:=fun vs H Q _=>∃ (g pd pl:Addr) (x:Raw) (m:Nat),vs=[.ref g,vN m]/\mC C H g pd pl x/\x.order.length<=6/\(m=0\/(2<=placeOf m/\placeOf m<=x.order.length/\¬ m=100))/\x.turn<=1/\1<=x.left/\x.past.length<1000/\
 ∀ (H':Hp),mC C H' g pd pl (x.moved m)->bh [g,pl] H H'->Q .jU H'
theorem Lr (T:Txt K mg t):bY P w K mg base fw 2 t.kM t.nt ["game","move"] (Lq t.aF):=by
 refine T.jm.ok KR (fun vs H Q E h=>?_) (fun eW A outer s H vs Q E hr h=>?_)
 ·obtain ⟨g,pd,pl,x,m,rfl,_⟩:=h
  rfl
 ·obtain ⟨g,pd,pl,x,m,rfl,hg,hl,hm,ht,JP,rn,k⟩:=h
  refine ⟨_,(ag (cO (gG aB bc bf d8 (bb (pv 0) rfl) (aa (r6 (aa (bb (pv 0) rfl) (aa (bb (pv 0) rfl) (aa (bb (pv 0) rfl) ai)))) ai)))
   (ag (dY (pv 0) (aN (qN T) (hr.mono (by omega)) rfl T.ox T.dM.kp (sF T) .nil bp (aa (bb (pv 0) rfl) (aa (pv 1) ai))) rfl)
   (ag (dY (pv 0) (cB iE az (bb (pv 0) rfl)) rfl)
   (ak (Sq (pv 0) az Zd))))),?_⟩
  try dsimp only [cxK]
  obtain ⟨dx,pa,oa,cK,my,lP,ma,⟨ts,kF,Eo⟩,qM,rm⟩:=id hg
  have X1:g≠pl:=dX cK kF (fun z=>nomatch z)
  refine ⟨_,rfl,g,_,dx,_,_,rfl,cK,T.aI,T.eT,Fb,.inl ⟨rfl,_,bO.of kF⟩,_,rfl,g,_,dx,_,_,rfl,cK,T.aI,T.bN,jb,_,rfl,g,_,dx,_,_,rfl,cK,T.aI,T.cg,qb,_,rfl,g,_,dx,_,_,rfl,cK,T.aI,T.bZ,l_,(by show 3<=sizeLine;decide),fun tp E_=>?_⟩
  have s1:=aM.new (o:=.tup [.ref oa,vN x.turn,vN x.left]) E_
  have ntp:tp≠pl:=fun q=>by rw [q,kF] at E_;cases E_
  refine ⟨pl,_,_,rfl,rfl,s1 _ _ kF,?_,?_⟩
  ·have z:=Eo.length
   rw [rq] at z
   rw [U,z,sizeLine_eq];omega
  have e2:bh [g,pl] H (upd (upd H tp (.tup [.ref oa,vN x.turn,vN x.left])) pl (.lst (ts.map V.ref++[.ref tp]))):=(bh.of s1).upd (by simp)
  generalize hH2:upd (upd H tp (.tup [.ref oa,vN x.turn,vN x.left])) pl (.lst (ts.map V.ref++[.ref tp]))=H2 at e2
  have kp:∀ {b:Addr} {o:HO},H b=some o->b≠pl->H2 b=some o:=fun hb n=>by rw [<- hH2,aD n];exact s1 _ _ hb
  have tD:=kp cK X1
  have Ib:=kp lP rm
  have Td:H2 pl=some (.lst ((ts++[tp]).map V.ref)):=by rw [<- hH2,ae,aX];rfl
  have agK:H2 tp=some (.tup [.ref oa,vN x.turn,vN x.left]):=by rw [<- hH2,aD ntp];exact ae
  have aad:Paired (fun a (q:aP)=>∃ o,o≠pl/\H2 a=some (.tup [.ref o,vN q.turn,vN q.left])/\H2 o=some (.lst (q.order.map vN))) (ts++[tp]) (x.game::x.past).reverse:=by
   rw [List.reverse_cons]
   refine (Eo.mono fun a q ⟨o,z1,z2,z3⟩=>⟨o,z1,kp z2 (dX z2 kF (fun z=>nomatch z)),kp z3 z1⟩).snoc ⟨oa,rm,agK,Ib⟩
  have Ic:=kp ma (dX ma kF (fun z=>nomatch z))
  have Tf:=kp my qM
  clear hH2
  refine ⟨_,rfl,g,_,dx,_,_,rfl,tD,T.aI,T.bN,jb,_,rfl,oa,x.order,m,rfl,bO.of Ib,hl,hm,fun H3 p s3 TZ hp=>?_⟩
  have YJ:=s3 _ _ tD
  have ngp:g≠p:=aV tD TZ
  have agM:p≠pl:=Ne.symm (aV Td TZ)
  refine ⟨_,rfl,g,_,dx,_,rfl,YJ,T.aI,T.bN,of_decide_eq_true (by kernel_rfl),?_⟩
  rw [vc]
  refine ⟨_,rfl,g,_,dx,_,_,rfl,ae,T.aI,T.cg,qb,_,_,rfl,rfl,_,rfl,g,_,dx,_,rfl,ae,T.aI,T.cg,of_decide_eq_true (by kernel_rfl),?_⟩
  have e4:(fun i j=>V.int (i - j)) (1:Int) (x.turn:Int)=vN (1 - x.turn):=by
   show V.int (1 - (x.turn:Int))=V.int ((1 - x.turn:Nat):Int)
   congr 1;omega
  rw [e4,yu,om]
  refine ⟨_,rfl,g,_,dx,_,_,rfl,ae,T.aI,T.bZ,l_,_,_,rfl,rfl,dx,_,ae,of_decide_eq_true (by kernel_rfl),?_⟩
  have e5:V.int ((x.left:Int) - 1)=vN (x.left - 1):=by
   show V.int ((x.left:Int) - 1)=V.int ((x.left - 1:Nat):Int)
   congr 1;omega
  rw [e5,B_,om]
  have kg:∀ {b:Addr} {o o':HO},H2 b=some o->b≠g->(upd H3 g o') b=some o:=fun hb n=>by rw [aD n];exact s3 _ _ hb
  have nd:∀ {b:Addr} {o:HO},H2 b=some o->(∀ C dx fs,o≠.ins C dx fs)->b≠g:=fun hb tG=>dX hb tD (tG _ _ _)
  refine k _ ⟨dx,pa,p,ae,kg Tf (nd Tf fun _ _ _ z=>nomatch z),?_,kg Ic (nd Ic fun _ _ _ z=>nomatch z),⟨ts++[tp],kg Td (nd Td fun _ _ _ z=>nomatch z),aad.mono fun a q ⟨o,z1,z2,z3⟩=>⟨o,z1,kg z2 (nd z2 fun _ _ _ z=>nomatch z),kg z3 (nd z3 fun _ _ _ z=>nomatch z)⟩⟩,qM,agM⟩ ?_
  ·rw [aD (Ne.symm ngp)];exact hp
  ·exact (e2.then s3).upd (by simp)
end
theorem Ep {α β:Type} {F:α->β->Prop} {y:β}:∀ {l:List β} {ts:List α},Paired F ts (l++[y])->∃ WQ a,ts=WQ++[a]/\Paired F WQ l/\F a y
 | [],ts,h=>by
  cases h with
  | cons r q=>cases q;exact ⟨[],_,rfl,.nil,r⟩
 | b::l,ts,h=>by
  cases h with
  | cons r q=>
   obtain ⟨WQ,a,e,h1,h2⟩:=Ep (l:=l) q
   subst e
   exact ⟨_::WQ,a,rfl,.cons r h1,h2⟩
section
variable {P:Program} {w:World} {K:ab} {mg:Str->Option Value} {base:Heap} {t:uZ}
def Raw.back (x:Raw) (y:aP) (rest:List aP):Raw:={ x with order:=y.order,turn:=y.turn,left:=y.left,past:=rest }
def Ls (C:Addr):Sp:=fun vs H Q _=>∃ (g pd pl:Addr) (x:Raw) (y:aP) (rest:List aP),vs=[.ref g]/\mC C H g pd pl x/\x.past=y::rest/\
 ∀ (H':Hp),mC C H' g pd pl (x.back y rest)->bh [g,pl] H H'->Q .jU H'
theorem Lu (T:Txt K mg t):bY P w K mg base fw 1 t.kN t.nu ["game"] (Ls t.aF):=by
 refine T.jn.ok B2 (fun vs H Q E h=>?_) (fun eW A outer s H vs Q E hr h=>?_)
 ·obtain ⟨g,pd,pl,x,y,rest,rfl,_⟩:=h
  rfl
 ·obtain ⟨g,pd,pl,x,y,rest,rfl,hg,hp,k⟩:=h
  refine ⟨_,(ag (gR 1 B2.nd (Zk aB PySem.F.slot_list_pop PySem.F.type_list_pop Zl (bb (pv 0) rfl)))
   (ag (dY (pv 0) (bQ fS (pv 1) az (fun _ _=>rfl)) rfl)
   (ag (dY (pv 0) (bQ fS (pv 1) az (fun _ _=>rfl)) rfl)
   (ak (dY (pv 0) (bQ fS (pv 1) az (fun _ _=>rfl)) rfl))))),?_⟩
  try dsimp only [cxK]
  obtain ⟨dx,pa,oa,cK,my,lP,ma,⟨ts,kF,Eo⟩,qM,rm⟩:=id hg
  have X1:g≠pl:=dX cK kF (fun z=>nomatch z)
  rw [hp,List.reverse_cons] at Eo
  obtain ⟨WQ,a,e,agN,o,no,ha,ho⟩:=Ep Eo
  subst e
  rw [aX] at kF
  have kF:H pl=some (.lst (WQ.map V.ref++[V.ref a])):=kF
  refine ⟨_,rfl,g,_,dx,_,_,rfl,cK,T.aI,T.eT,Fb,.inl ⟨rfl,_,bO.of kF⟩,pl,_,V.ref a,rfl,rfl,kF,?_,?_⟩
  ·rw [ao,cP,Nat.add_sub_cancel,lG (au _),Nat.sub_self];rfl
  rw [List.dropLast_concat]
  have e1:bh [g,pl] H (upd H pl (.lst (WQ.map V.ref))):=(bh.of fun _ _ e=>e).upd (by simp)
  have nap:a≠pl:=dX ha kF (fun z=>nomatch z)
  have kp:∀ {b:Addr} {o:HO} (o':HO),H b=some o->b≠pl->b≠g->(upd (upd H pl (.lst (WQ.map V.ref))) g o') b=some o:=fun o' hb n n2=>by rw [aD n2,aD n];exact hb
  have nag:a≠g:=dX ha cK (fun z=>nomatch z)
  have at2:∀ o':HO,(upd (upd H pl (.lst (WQ.map V.ref))) g o') a=some (.tup [.ref o,vN y.turn,vN y.left]):=fun o'=>kp o' ha nap nag
  have aae:∀ (i:Nat) (v:V),([V.ref o,vN y.turn,vN y.left]:List V)[i]?=some v->M8 ([V.ref o,vN y.turn,vN y.left]:List V) (i:Int)=some v:=fun i v h=>bj h
  refine ⟨_,rfl,a,_,0,V.ref o,rfl,rfl,oX.of (by rw [aD nap];exact ha),aae 0 _ rfl,_,rfl,g,_,dx,_,rfl,(by rw [aD X1];exact cK),T.aI,T.bN,of_decide_eq_true (by kernel_rfl),?_⟩
  rw [vc]
  refine ⟨_,rfl,a,_,1,vN y.turn,rfl,rfl,oX.of (at2 _),aae 1 _ rfl,_,rfl,g,_,dx,_,rfl,ae,T.aI,T.cg,of_decide_eq_true (by kernel_rfl),?_⟩
  rw [yu,om]
  refine ⟨_,rfl,a,_,2,vN y.left,rfl,rfl,oX.of (at2 _),aae 2 _ rfl,_,rfl,g,_,dx,_,rfl,ae,T.aI,T.bZ,of_decide_eq_true (by kernel_rfl),?_⟩
  rw [B_,om]
  have nd:∀ {b:Addr} {o:HO},H b=some o->(∀ C dx fs,o≠.ins C dx fs)->b≠g:=fun hb tG=>dX hb cK (tG _ _ _)
  have WN:pd≠pl:=dX ma kF (fun z=>nomatch z)
  refine k _ ⟨dx,pa,o,ae,kp _ my qM (nd my fun _ _ _ z=>nomatch z),kp _ ho no (nd ho fun _ _ _ z=>nomatch z),kp _ ma WN (nd ma fun _ _ _ z=>nomatch z),⟨WQ,?_,?_⟩,qM,no⟩ (e1.upd (by simp))
  ·rw [aD (Ne.symm X1)];exact ae
  ·refine agN.mono fun b q ⟨o2,z1,z2,z3⟩=>⟨o2,z1,kp _ z2 (dX z2 kF (fun z=>nomatch z)) (nd z2 fun _ _ _ z=>nomatch z),kp _ z3 z1 (nd z3 fun _ _ _ z=>nomatch z)⟩
end
theorem Cb {K:ab} {H:Hp}:∀ ns:List Int,DR K H (ns.map V.int) (ns.map PyData.int)
 | []=>.nil
 | n::r=>.cons (.int n) (Cb r)
theorem Cc {K:ab} {H:Hp}:∀ ns:List Str,DR K H (ns.map V.str) (ns.map PyData.str)
 | []=>.nil
 | n::r=>.cons (.str n) (Cc r)
theorem Gz:∀ l m:List Int,PyData.eqvAll (l.map PyData.int) (m.map PyData.int)=decide (l=m)
 | [],[]=>rfl
 | [],_::_=>by simp [PyData.eqvAll]
 | _::_,[]=>by simp [PyData.eqvAll]
 | a::l,b::m=>by
  show (PyData.eqv (.int a) (.int b)&&PyData.eqvAll (l.map PyData.int) (m.map PyData.int))=_
  rw [Gz l m]
  have e:PyData.eqv (.int a) (.int b)=decide (a=b):=by unfold PyData.eqv;by_cases h:a=b<;>simp [h]
  rw [e,<-mO]
  exact decide_eq_decide.mpr (by simp)
theorem GA:∀ l m:List Str,PyData.eqvAll (l.map PyData.str) (m.map PyData.str)=decide (l=m)
 | [],[]=>rfl
 | [],_::_=>by simp [PyData.eqvAll]
 | _::_,[]=>by simp [PyData.eqvAll]
 | a::l,b::m=>by
  show (PyData.eqv (.str a) (.str b)&&PyData.eqvAll (l.map PyData.str) (m.map PyData.str))=_
  rw [GA l m]
  have e:PyData.eqv (.str a) (.str b)=decide (a=b):=by unfold PyData.eqv;by_cases h:a=b<;>simp [h]
  rw [e,<-mO]
  exact decide_eq_decide.mpr (by simp)
theorem Cd {H:Hp} {a b:Addr} {o u:HO} (h:H a=some u) (hn:(upd H a o) b=none):H b=none:=by
 by_cases e:b=a
 ·subst e;rw [ae] at hn;cases hn
 ·rw [aD e] at hn;exact hn
theorem OA {α:Type} (f:α->PyData) (h1:∀ a,PyData.canLay0 (f a)=true) (h2:∀ a,PyData.depth (f a)<=1) (l:List α):SeqAt.shaped (.list (l.map f))=true:=by
 have g1:PyData.canLayAll0 (l.map f)=true:=by
  induction l with
  | nil=>rfl
  | cons n r ih=>show (PyData.canLay0 (f n)&&PyData.canLayAll0 (r.map f))=true;rw [ih,h1];rfl
 have g2:PyData.depthAll (l.map f)<=1:=by
  induction l with
  | nil=>simp [PyData.depthAll]
  | cons n r ih=>
   have g1':PyData.canLayAll0 (r.map f)=true:=by
    have:(PyData.canLay0 (f n)&&PyData.canLayAll0 (r.map f))=true:=g1
    rw [aG] at this;exact this.2
   have:=ih g1'
   have:=h2 n
   simp only [aC,PyData.depthAll]
   omega
 unfold SeqAt.shaped
 rw [aG]
 refine ⟨g1,decide_eq_true ?_⟩
 simp only [PyData.depth]
 omega
theorem shaped_ints (ns:List Int):SeqAt.shaped (.list (ns.map PyData.int))=true:=OA _ (fun _=>rfl) (fun _=>by simp [PyData.depth]) ns
section
variable {P:Program} {w:World} {K:ab} {mg:Str->Option Value} {base:Heap} {t:uZ}
def QM (C:Addr):Sp:=fun vs H Q _=>∃ (g pd pl:Addr) (x:Raw) (b:Int),vs=[.ref g,.int b]/\mC C H g pd pl x/\Q (.bl (decide (0<=b)&&decide (b<2*(x.n:Int)))) H
theorem GB (T:Txt K mg t):bY P w K mg base fw 1 t.o_ t.rQ ["game","number"] (QM t.aF):=by
 refine T.l8.ok Qr (fun vs H Q E h=>?_) (fun eW A outer s H vs Q E hr h=>?_)
 ·obtain ⟨g,pd,pl,x,b,rfl,_⟩:=h
  rfl
 ·obtain ⟨g,pd,pl,x,b,rfl,hg,k⟩:=h
  refine ⟨_,(ak (aK (Cu (kx Up (pv 1) az (bP _)) (Fm (kx Je (pv 1) (cB Cy az (bb (pv 0) rfl)) (bP _)))))),?_⟩
  try dsimp only [cxK]
  obtain ⟨dx,pa,oa,cK,_⟩:=id hg
  refine ⟨_,rfl,_,_,rfl,rfl,_,rfl,?_⟩
  by_cases h0:0<=b
  ·rw [decide_eq_true h0]
   rw [decide_eq_true h0,eQ] at k
   exact cz ⟨_,rfl,_,rfl,g,_,dx,_,_,rfl,cK,T.aI,T.bM,fM,_,_,rfl,rfl,.inl ⟨by decide,by decide⟩,_,_,rfl,rfl,k⟩
  ·rw [decide_eq_false h0]
   rw [decide_eq_false h0,jc] at k
   exact cC k
def OB (K:ab) (C:Addr):Sp:=fun vs H Q _=>∃ (g pd pl a:Addr) (x:Raw) (ns:List Int),vs=[.ref g,.ref a]/\mC C H g pd pl x/\(x.n=2\/x.n=3)/\bO K H a (ns.map V.int)/\
 ∀ H' b,aM H H'->(b=true↔ns.Perm ((aY (2*x.n)).map fun (n:Nat)=>(n:Int)))->Q (.bl b) H'
theorem OC (T:Txt K mg t):bY P w K mg base fw 1 t.mV t.pb ["game","row"] (OB K t.aF):=by
 refine T.kZ.ok NZ (fun vs H Q E h=>?_) (fun eW A outer s H vs Q E hr h=>?_)
 ·obtain ⟨g,pd,pl,a,x,ns,rfl,_⟩:=h
  rfl
 ·obtain ⟨g,pd,pl,a,x,ns,rfl,hg,hn,ha,k⟩:=h
  have OD:=hr.units
  refine ⟨_,(ak (aK (kx (UE OD) (b8 QD (by rfl) T.qj boot_sorted (aa (pv 1) ai)) (Lf (by rfl) T.AL (by rfl) T.jQ (aa (cB Cy az (bb (pv 0) rfl)) ai)) (bP _)))),?_⟩
  try dsimp only [cxK]
  refine ⟨_,rfl,a,ns,rfl,ha,fun WL p tS hpw hp=>?_⟩
  have s1:=aM.new (o:=.lst (WL.map V.int)) hp
  obtain ⟨dx,pa,oa,cK,_⟩:=hg.on s1
  refine ⟨_,rfl,g,_,dx,_,_,rfl,cK,T.aI,T.bM,fM,_,_,rfl,rfl,.inl ⟨by decide,by decide⟩,2*x.n,?_,by omega,fun q hq=>?_⟩
  ·show [V.int (2*(x.n:Int))]=[V.int ((2*x.n:Nat):Int)]
   rw [Int.natCast_mul];rfl
  have s2:=aM.new (o:=.lst ((aY (2*x.n)).map vN)) hq
  have e:(aY (2*x.n)).map vN=((aY (2*x.n)).map fun (n:Nat)=>(n:Int)).map V.int:=by rw [a9];rfl
  refine ⟨_,_,.lst (bO.of (s2 _ _ ae)) (Cb WL),.lst (bO.of (by rw [ae,e])) (Cb _),?_,?_,?_⟩
  ·exact shaped_ints _
  ·exact shaped_ints _
  ·refine k _ _ (s1.trans s2) ?_
   show PyData.eqvAll _ _=true↔_
   rw [Gz,decide_eq_true_iff]
   exact Qg tS hpw
def GC (C:Addr):Sp:=fun vs H Q _=>∃ (g dx pa oa pd pl:Addr) (tie:Str) (n tu le:Nat) (r:aR) (b:Nat),vs=[.ref g,vN b]/\H g=some (.ins C dx (gf n pa tie oa tu le pd pl))/\r.n=n/\Q (vN (bL r b)) H
theorem sM (T:Txt K mg t):bY P w K mg base fw 1 t.iK t.j7 ["game","boat"] (GC t.aF):=by
 refine T.eP.ok Gf (fun vs H Q E h=>?_) (fun eW A outer s H vs Q E hr h=>?_)
 ·obtain ⟨g,dx,pa,oa,pd,pl,tie,n,tu,le,r,b,rfl,_⟩:=h
  rfl
 ·obtain ⟨g,dx,pa,oa,pd,pl,tie,n,tu,le,r,b,rfl,cK,WO,k⟩:=h
  refine ⟨_,(ak (aK (xo (bu Up (pv 1) (bb (pv 0) rfl) (bP _)) (cB iE (pv 1) (bb (pv 0) rfl)) (cB oq (pv 1) (bb (pv 0) rfl))))),?_⟩
  try dsimp only [cxK]
  unfold bL at k
  rw [WO] at k
  refine ⟨_,rfl,_,rfl,g,_,dx,_,_,rfl,cK,T.aI,T.bM,fM,_,_,rfl,rfl,_,rfl,?_⟩
  by_cases h0:b<n
  ·rw [decide_eq_false (by omega)]
   rw [if_pos h0] at k
   refine cC ⟨_,rfl,_,rfl,g,_,dx,_,_,rfl,cK,T.aI,T.bM,fM,_,_,rfl,rfl,?_⟩
   have e:V.int ((b:Int)+(n:Int))=vN (b+n):=by show _=V.int ((b+n:Nat):Int);congr 1
   show Q (V.int ((b:Int)+(n:Int))) H
   rw [e];exact k
  ·rw [decide_eq_true (by omega)]
   rw [if_neg h0] at k
   refine cz ⟨_,rfl,_,rfl,g,_,dx,_,_,rfl,cK,T.aI,T.bM,fM,_,_,rfl,rfl,?_⟩
   have e:V.int ((b:Int) - (n:Int))=vN (b - n):=by show _=V.int ((b - n:Nat):Int);congr 1;omega
   show Q (V.int ((b:Int) - (n:Int))) H
   rw [e];exact k
def Raw.fresh (x:Raw):Raw:={ x with past:=[] }
def GD (C:Addr):Sp:=fun vs H Q _=>∃ (g pd pl:Addr) (x:Raw),vs=[.ref g]/\mC C H g pd pl x/\∀ (H':Hp) (qp:Addr),mC C H' g pd qp x.fresh->bh [g] H H'->H qp=none->Q .jU H'
theorem lA (T:Txt K mg t):bY P w K mg base fw 1 t.iL t.j8 ["game"] (GD t.aF):=by
 refine T.dr.ok Gg (fun vs H Q E h=>?_) (fun eW A outer s H vs Q E hr h=>?_)
 ·obtain ⟨g,pd,pl,x,rfl,_⟩:=h
  rfl
 ·obtain ⟨g,pd,pl,x,rfl,hg,k⟩:=h
  refine ⟨_,(ak (dY (pv 0) (bw ai) rfl)),?_⟩
  try dsimp only [cxK]
  obtain ⟨dx,pa,oa,cK,my,lP,ma,_⟩:=id hg
  refine ⟨a0 _,fun p hp=>?_⟩
  have s1:=aM.new (o:=.lst []) hp
  have ngp:g≠p:=aV cK hp
  refine ⟨_,rfl,g,_,dx,_,rfl,s1 _ _ cK,T.aI,T.eT,of_decide_eq_true (by kernel_rfl),?_⟩
  rw [VF]
  have nd:∀ {b:Addr} {o o':HO},H b=some o->(∀ C dx fs,o≠.ins C dx fs)->(upd (upd H p (.lst [])) g o') b=some o:=fun hb tG=>by rw [aD (dX hb cK (tG _ _ _))];exact s1 _ _ hb
  refine k _ p ⟨dx,pa,oa,ae,nd my (fun _ _ _ z=>nomatch z),nd lP (fun _ _ _ z=>nomatch z),nd ma (fun _ _ _ z=>nomatch z),⟨[],?_,.nil⟩,aV my hp,aV lP hp⟩ ((bh.of s1).upd (by simp)) hp
  rw [aD (Ne.symm ngp)];exact ae
def Lv (K:ab) (C:Addr):Sp:=fun vs H Q _=>∃ (g pd pl a:Addr) (x:Raw) (o:List Nat),vs=[.ref g,.ref a]/\mC C H g pd pl x/\H a=some (.lst (o.map vN))/\o≠[]/\
 ∀ (H':Hp) (qp:Addr),mC C H' g pd qp { x.fresh with order:=o }->bh [g] H H'->H qp=none->Q .jU H'
theorem Lw (T:Txt K mg t):bY P w K mg base fw 2 t.kP t.ny ["game","order"] (Lv K t.aF):=by
 refine T.jq.ok KU (fun vs H Q E h=>?_) (fun eW A outer s H vs Q E hr h=>?_)
 ·obtain ⟨g,pd,pl,a,x,o,rfl,_⟩:=h
  rfl
 ·obtain ⟨g,pd,pl,a,x,o,rfl,hg,ha,tH,k⟩:=h
  refine ⟨_,(ag (dY (pv 0) (pv 1) rfl)
   (ak (cO (aN (lA T) (hr.mono (by omega)) rfl T.kj T.dr.kp (mF T) .nil bp (aa (pv 0) ai))))),?_⟩
  try dsimp only [cxK]
  obtain ⟨dx,pa,oa,cK,my,lP,ma,⟨ts,kF,Eo⟩,qM,rm⟩:=id hg
  refine ⟨_,rfl,_,rfl,g,_,dx,_,rfl,cK,T.aI,T.bN,of_decide_eq_true (by kernel_rfl),?_⟩
  rw [vc]
  have nd:∀ {b:Addr} {o o':HO},H b=some o->(∀ C dx fs,o≠.ins C dx fs)->(upd H g o') b=some o:=fun hb tG=>by rw [aD (dX hb cK (tG _ _ _))];exact hb
  have e1:bh [g] H (upd H g (.ins t.aF dx (gf x.n pa x.tie a x.turn x.left pd pl))):=(bh.of fun _ _ e=>e).upd (by simp)
  refine ⟨_,rfl,g,pd,pl,{ x with order:=o },rfl,⟨dx,pa,a,ae,nd my (fun _ _ _ z=>nomatch z),nd ha (fun _ _ _ z=>nomatch z),nd ma (fun _ _ _ z=>nomatch z),⟨ts,nd kF (fun _ _ _ z=>nomatch z),Eo.mono fun b q ⟨o2,z1,z2,z3⟩=>⟨o2,z1,nd z2 (fun _ _ _ z=>nomatch z),nd z3 (fun _ _ _ z=>nomatch z)⟩⟩,qM,RP ha tH kF⟩,fun H2 qp tD e2 El=>?_⟩
  exact k H2 qp tD (e1.trans e2) (Cd cK El)
def OE (C:Addr):Sp:=fun vs H Q _=>∃ (g pd pl:Addr) (x:Raw) (u n:Nat),vs=[.ref g,vN u,vN n]/\mC C H g pd pl x/\
 ∀ (H':Hp) (qp:Addr),mC C H' g pd qp { x.fresh with turn:=u,left:=n }->bh [g] H H'->H qp=none->Q .jU H'
theorem OF (T:Txt K mg t):bY P w K mg base fw 2 t.mX t.pk ["game","turn","left"] (OE t.aF):=by
 refine T.k5.ok N4 (fun vs H Q E h=>?_) (fun eW A outer s H vs Q E hr h=>?_)
 ·obtain ⟨g,pd,pl,x,u,n,rfl,_⟩:=h
  rfl
 ·obtain ⟨g,pd,pl,x,u,n,rfl,hg,k⟩:=h
  refine ⟨_,(ag (dY (pv 0) (pv 1) rfl)
   (ag (dY (pv 0) (pv 2) rfl)
   (ak (cO (aN (lA T) (hr.mono (by omega)) rfl T.kj T.dr.kp (mF T) .nil bp (aa (pv 0) ai)))))),?_⟩
  try dsimp only [cxK]
  obtain ⟨dx,pa,oa,cK,my,lP,ma,⟨ts,kF,Eo⟩,qM,rm⟩:=id hg
  refine ⟨_,rfl,_,rfl,g,_,dx,_,rfl,cK,T.aI,T.cg,of_decide_eq_true (by kernel_rfl),?_⟩
  rw [yu]
  refine ⟨_,rfl,_,rfl,g,_,dx,_,rfl,ae,T.aI,T.bZ,of_decide_eq_true (by kernel_rfl),?_⟩
  rw [B_,om]
  have nd:∀ {b:Addr} {o o':HO},H b=some o->(∀ C dx fs,o≠.ins C dx fs)->(upd H g o') b=some o:=fun hb tG=>by rw [aD (dX hb cK (tG _ _ _))];exact hb
  have e1:bh [g] H (upd H g (.ins t.aF dx (gf x.n pa x.tie oa u n pd pl))):=(bh.of fun _ _ e=>e).upd (by simp)
  refine ⟨_,rfl,g,pd,pl,{ x with turn:=u,left:=n },rfl,⟨dx,pa,oa,ae,nd my (fun _ _ _ z=>nomatch z),nd lP (fun _ _ _ z=>nomatch z),nd ma (fun _ _ _ z=>nomatch z),⟨ts,nd kF (fun _ _ _ z=>nomatch z),Eo.mono fun b q ⟨o2,z1,z2,z3⟩=>⟨o2,z1,nd z2 (fun _ _ _ z=>nomatch z),nd z3 (fun _ _ _ z=>nomatch z)⟩⟩,qM,rm⟩,fun H2 qp tD e2 El=>?_⟩
  exact k H2 qp tD (e1.trans e2) (Cd cK El)
def OG (C:Addr):Sp:=fun vs H Q _=>∃ (g pd pl b:Addr) (x:Raw) (p:Nat×Nat),vs=[.ref g,.ref b]/\mC C H g pd pl x/\H b=some (.tup [vN p.1,vN p.2])/\x.can.contains p=false/\x.can.length<1000/\
 ∀ (H':Hp) (qp:Addr),mC C H' g pd qp { x.fresh with can:=x.can++[p] }->bh [g,pd] H H'->H qp=none->Q .jU H'
theorem OH (T:Txt K mg t):bY P w K mg base fw 2 t.mW t.ph ["game","pair"] (OG t.aF):=by
 refine T.k4.ok N1 (fun vs H Q E h=>?_) (fun eW A outer s H vs Q E hr h=>?_)
 ·obtain ⟨g,pd,pl,b,x,p,rfl,_⟩:=h
  rfl
 ·obtain ⟨g,pd,pl,b,x,p,rfl,hg,hb,tG,hlen,k⟩:=h
  have hu:=xA hr
  refine ⟨_,(ag (EY hu (bb (pv 0) rfl) (pv 1) mq rfl)
   (ak (cO (aN (lA T) (hr.mono (by omega)) rfl T.kj T.dr.kp (mF T) .nil bp (aa (pv 0) ai))))),?_⟩
  try dsimp only [cxK]
  obtain ⟨dx,pa,oa,cK,my,lP,ma,⟨ts,kF,Eo⟩,qM,rm⟩:=id hg
  refine ⟨_,rfl,g,_,dx,_,_,rfl,cK,T.aI,T.cu,lx,_,rfl,pd,_,rfl,Ng.t (k:=fi p) ma hb (by unfold gb;rw [U,sizeLine_eq];omega),?_⟩
  rw [Ln tG]
  have nd:∀ {b:Addr} {o o':HO},H b=some o->(∀ kvs,o≠.dT kvs)->(upd H pd o') b=some o:=fun hb tG=>by rw [aD (dX hb ma (tG _))];exact hb
  have e1:bh [g,pd] H (upd H pd (.dT (gb (x.can++[p])))):=(bh.of fun _ _ e=>e).upd (by simp)
  refine ⟨_,rfl,g,pd,pl,{ x with can:=x.can++[p] },rfl,⟨dx,pa,oa,nd cK (fun _ z=>nomatch z),nd my (fun _ z=>nomatch z),nd lP (fun _ z=>nomatch z),ae,⟨ts,nd kF (fun _ z=>nomatch z),Eo.mono fun b q ⟨o2,z1,z2,z3⟩=>⟨o2,z1,nd z2 (fun _ z=>nomatch z),nd z3 (fun _ z=>nomatch z)⟩⟩,qM,rm⟩,fun H2 qp tD e2 El=>?_⟩
  exact k H2 qp tD (e1.trans (e2.mono (by simp))) (Cd ma El)
theorem VL (can:List (Nat×Nat)) (p:Nat×Nat):w9 (gb can) (fi p)=gb (can.filter fun q=>q != p):=by
 unfold gb
 induction can with
 | nil=>rfl
 | cons q can ih=>
  rw [aC,eK]
  by_cases e:q=p
  ·subst e
   rw [Jt rfl,ih,if_neg (by simp)]
  ·rw [CK (fun z=>e (En z)),ih,if_pos (by simpa using e),aC]
def Lx (C:Addr):Sp:=fun vs H Q _=>∃ (g pd pl b:Addr) (x:Raw) (p:Nat×Nat),vs=[.ref g,.ref b]/\mC C H g pd pl x/\H b=some (.tup [vN p.1,vN p.2])/\x.can.contains p=true/\
 ∀ (H':Hp) (qp:Addr),mC C H' g pd qp { x.fresh with can:=x.can.filter fun q=>q != p }->bh [g,pd] H H'->H qp=none->Q .jU H'
theorem Ly (T:Txt K mg t):bY P w K mg base fw 2 t.kO t.nv ["game","pair"] (Lx t.aF):=by
 refine T.jo.ok KS (fun vs H Q E h=>?_) (fun eW A outer s H vs Q E hr h=>?_)
 ·obtain ⟨g,pd,pl,b,x,p,rfl,_⟩:=h
  rfl
 ·obtain ⟨g,pd,pl,b,x,p,rfl,hg,hb,xk,k⟩:=h
  have hu:=xA hr
  refine ⟨_,(ag (cO (Vk hu (bb (pv 0) rfl) (pv 1)))
   (ak (cO (aN (lA T) (hr.mono (by omega)) rfl T.kj T.dr.kp (mF T) .nil bp (aa (pv 0) ai))))),?_⟩
  try dsimp only [cxK]
  obtain ⟨dx,pa,oa,cK,my,lP,ma,⟨ts,kF,Eo⟩,qM,rm⟩:=id hg
  obtain ⟨v,hv⟩:∃ v,jj (gb x.can) (fi p)=some v:=by
   have e:=zC x.can p
   rw [xk] at e
   exact Option.isSome_iff_exists.mp e
  refine ⟨_,rfl,g,_,dx,_,_,rfl,cK,T.aI,T.cu,lx,pd,rfl,⟨_,ma⟩,_,rfl,_,b,fi p,v,ma,rfl,hb,hv,?_⟩
  rw [VL]
  have nd:∀ {b:Addr} {o o':HO},H b=some o->(∀ kvs,o≠.dT kvs)->(upd H pd o') b=some o:=fun hb tG=>by rw [aD (dX hb ma (tG _))];exact hb
  have e1:bh [g,pd] H (upd H pd (.dT (gb (x.can.filter fun q=>q != p)))):=(bh.of fun _ _ e=>e).upd (by simp)
  refine ⟨_,rfl,g,pd,pl,{ x with can:=x.can.filter fun q=>q != p },rfl,⟨dx,pa,oa,nd cK (fun _ z=>nomatch z),nd my (fun _ z=>nomatch z),nd lP (fun _ z=>nomatch z),ae,⟨ts,nd kF (fun _ z=>nomatch z),Eo.mono fun b q ⟨o2,z1,z2,z3⟩=>⟨o2,z1,nd z2 (fun _ z=>nomatch z),nd z3 (fun _ z=>nomatch z)⟩⟩,qM,rm⟩,fun H2 qp tD e2 El=>?_⟩
  exact k H2 qp tD (e1.trans (e2.mono (by simp))) (Cd ma El)
end
abbrev gT (w:List Nat):Str:=⟨w.toArray⟩
abbrev vS (w:List Nat):V:=.str (gT w)
theorem aaf (w:List Nat):TL.tl (gT w)=w:=rfl
theorem Fc {a b:List Nat} (h:gT a=gT b):a=b:=by
 have:=congrArg TL.tl h
 exact this
theorem cS (w:List Nat):(gT w).length=w.length:=by rw [TL.xy]
theorem oB (a b:List Nat):gT a++gT b=gT (a++b):=TL.FG (by rw [TL.CI])
theorem QN {x:Str} {w:List Nat} (h:TL.tl x=w):x=gT w:=TL.FG h
theorem X2 {x:Str} {g:TG} {tb:TS} {D:Ends} {σ:L2.St} {H:Hp} (Pv:Nat->L2.St->Hp->Prop) (h0:Pv 0 σ H)
  (hs:∀ i c σ H,x.cps[i]?=some c->let E:Ends:={ D with nx:=Pv (i+1),ct:=Pv (i+1),bk:=D.nx };Pv i σ H->g (.str ⟨#[c]⟩) σ H fun kH H2=>tb E kH H2) (hd:∀ σ H,Pv x.cps.size σ H->D.nx σ H):
  ∃ W:Nat->Nat->L2.St->Hp->Prop,(∃ m,W 0 m σ H)/\∀ i m σ H,W i m σ H->
   ((Yx x).stop i H/\D.nx σ H)\/((Yx x).go i H/\∃ N:L2.St->Hp->Prop,(∀ f7 H',N f7 H'->∃ m',m'<m/\W (i+1) m' f7 H')/\∀ v H',(Yx x).Pz i H v H'->g v σ H' fun kH H2=>tb { D with nx:=N,ct:=N,bk:=D.nx } kH H2):=by
 refine ⟨fun i m σ H=>m=x.cps.size - i/\i<=x.cps.size/\Pv i σ H,⟨x.cps.size,by simp,a0 _,h0⟩,?_⟩
 rintro i m σ H ⟨rfl,hi,p⟩
 by_cases iX:i<x.cps.size
 ·refine .inr ⟨iX,Pv (i+1),fun f7 H' p'=>⟨x.cps.size - (i+1),by omega,rfl,iX,p'⟩,fun v H' y=>?_⟩
  obtain ⟨e,c,hc,ev⟩:=y
  subst e ev
  exact hs i c σ _ hc p
 ·have e:i=x.cps.size:=by omega
  subst e
  exact .inl ⟨au _,hd σ H p⟩
section
variable {P:Program} {w:World} {K:ab} {mg:Str->Option Value} {base:Heap} {t:uZ}
theorem R4 (k:Nat) (h:k<10):(Str.ofString (toString ((k:Nat):Int)):Str)=gT [48+k]:=QN (by rw [TL.P0,TL.Ki h])
theorem zD {i:Int} (h:i.natAbs<100000):i.natAbs.log2<1920:=by
 by_cases h0:i.natAbs=0
 ·rw [h0];decide
 ·rw [Nat.log2_lt h0]
  exact bo h (bB (by decide:100000<=2 ^ 17) (lI (by decide) (by decide)))
def Ie (K:ab):Sp:=fun vs H Q _=>∃ n:Nat,vs=[vN n]/\(n=2\/n=3)/\∀ (H':Hp) (p:Addr),aM H H'->H p=none->H' p=some (.lst ((namesOf n).map vS))->Q (.ref p) H'
theorem X3 {n i j:Nat} (hn:n=2\/n=3) (hi:i<2) (hj:j<n):aL n (i*n+j)=[if i=0 then 82 else 66,49+j]:=by
 unfold aL
 have:i=0\/i=1:=by omega
 rcases this with rfl | rfl
 ·rw [if_pos (by omega),if_pos rfl];simp
 ·rw [if_neg (by omega),if_neg (by decide)]
  rw [show 1*n+j - n=j by omega]
theorem uu (T:Txt K mg t):bY P w K mg base fw 1 t.jJ t.lT ["boats"] (Ie K):=by
 refine T.fC.ok p8 (fun vs H Q E h=>?_) (fun eW A outer s H vs Q E hr h=>?_)
 ·obtain ⟨n,rfl,_⟩:=h
  rfl
 ·obtain ⟨n,rfl,hn,k⟩:=h
  refine ⟨_,(ag (gR 1 p8.nd (bw ai))
   (ag (gE PassesOwn.never rfl (Uk (eX rfl T.u9)) (uY 2 p8.nd)
   (ak (gE PassesOwn.never rfl (uQ rfl T.jQ (aa az (aa (cB oq (pv 0) az) ai))) (uY 3 p8.nd)
   (ak (cO (gG aB bc bf d8 (pv 1) (aa (cB gF (pv 2) (i5 rC (by rfl) T.BU boot_str (aa (pv 3) ai))) ai)))))))
   (ak (aK (pv 1))))),?_⟩
  try dsimp only [cxK]
  refine ⟨a0 _,fun B hB=>?_⟩
  have Tg:∀ H':Hp,oX K H' t.fQ [.str (Str.ofString "R"),.str (Str.ofString "B")]:=fun H'=>T.rV.sq H'
  refine ⟨t.fQ,rfl,⟨_,Tg _⟩,Rn (K:=K) (a:=t.fQ) (xs:=[.str (Str.ofString "R"),.str (Str.ofString "B")]) (fun i σ H'=>∃ v2 v3:Option V,σ=[some (vN n),some (.ref B),v2,v3]/\aM H H'/\H' B=some (.lst (((aY (i*n)).map (aL n)).map vS)))
   ⟨none,none,rfl,aM.new hB,?_⟩ (fun i σ H' _ _=>Tg _) ?_ ?_⟩
  ·rw [ae];simp
  ·rintro i x σ H' hi EE ⟨v2,v3,rfl,s1,h1⟩
   obtain ⟨hi2,ex⟩:i<2/\x=vS [if i=0 then 82 else 66]:=by
    match i,hi with
    | 0,hi=>exact ⟨by decide,(aj.inj hi).symm⟩
    | 1,hi=>exact ⟨by decide,(aj.inj hi).symm⟩
    | i+2,hi=>cases hi
   subst ex
   refine ⟨_,rfl,_,_,rfl,rfl,1,_,rfl,⟨by decide,by decide,by omega,by omega⟩,?_⟩
   refine nj (lo:=1) (n:=((n:Int)+1 - 1).toNat) (fun j σ H2=>∃ v3:Option V,σ=[some (vN n),some (.ref B),some (vS [if i=0 then 82 else 66]),v3]/\aM H H2/\H2 B=some (.lst (((aY (i*n+j)).map (aL n)).map vS))) ⟨v3,rfl,s1,h1⟩ ?_ ?_
   ·rintro j σ H2 hj EE ⟨v3,rfl,s2,h2⟩
    have hj:j<n:=by omega
    refine ⟨_,rfl,.inl ⟨rfl,_,bO.of h2⟩,_,rfl,_,rfl,_,rfl,zD (by omega),_,_,rfl,rfl,?_,B,_,_,rfl,rfl,h2,?_,?_⟩
    ·have e:((1:Int)+(j:Int))=((1+j:Nat):Int):=by omega
     show (gT [if i=0 then 82 else 66]).length+(Str.ofString (toString ((1:Int)+(j:Int)))).length<=sizeLine
     rw [e,R4 (1+j) (by omega),cS,cS,sizeLine_eq]
     simp
    ·rw [U,U,ck,sizeLine_eq]
     have:i*n<=1*n:=fO _ (by omega)
     omega
    ·refine ⟨_,rfl,aM.cZ s2 hB,?_⟩
     rw [ae,<-uM,rh,aX,aX]
     congr 3
     have e:((1:Int)+(j:Int))=((1+j:Nat):Int):=by omega
     show [V.str (gT [if i=0 then 82 else 66]++Str.ofString (toString ((1:Int)+(j:Int))))]=[vS (aL n (i*n+j))]
     rw [e,R4 (1+j) (by omega),oB,X3 hn hi2 hj]
     rw [show 48+(1+j)=49+j by omega];rfl
   ·rintro σ H2 ⟨v3',rfl,s2,h2⟩
    have e:((n:Int)+1 - 1).toNat=n:=by omega
    rw [e] at h2
    exact ⟨_,_,rfl,s2,by rw [show (i+1)*n=i*n+n by rw [Nat.add_mul,Nat.one_mul]];exact h2⟩
  ·rintro σ H' ⟨v2,v3,rfl,s1,h1⟩
   refine ⟨_,rfl,?_⟩
   exact k H' B s1 hB h1
theorem JQ:(Str.ofString " 0123456789BRabcdefghijklmnopqrstuvwxyz").cps=SG.toArray:=by decide +kernel
def QO:Sp:=fun vs H Q _=>∃ b:Nat,vs=[vN b]/\Q (vS [sg b]) H
theorem QP (T:Txt K mg t):bY P w K mg base fw 1 t.pq t.rR ["byte"] QO:=by
 refine T.nX.ok Gh (fun vs H Q E h=>?_) (fun eW A outer s H vs Q E hr h=>?_)
 ·obtain ⟨b,rfl,_⟩:=h
  rfl
 ·obtain ⟨b,rfl,k⟩:=h
  refine ⟨_,(ag (gE PassesOwn.never rfl (UM (eX rfl T.RS)) (uY 1 Gh.nd)
   (ak (cx (bu gh (b8 MV (by rfl) T.F_ boot_ord (aa (pv 1) ai)) (pv 0) (bP _))
   (ak (aK (pv 1)))
   bt)))
   (ak (aK (eX rfl T.JG)))),?_⟩
  try dsimp only [cxK]
  refine ⟨_,rfl,X2 (fun i σ H'=>∃ v1:Option V,σ=[some (vN b),v1]/\H'=H/\b∉SG.take i) ⟨none,rfl,rfl,by simp⟩ ?_ ?_⟩
  ·rintro i c σ H' hc EE ⟨v1,rfl,rfl,hb⟩
   rw [JQ] at hc
   have Li:SG[i]?=some c:=by simpa using hc
   refine ⟨_,rfl,_,rfl,rfl,_,rfl,rfl,_,rfl,?_⟩
   show if decide (V.int ((c:Nat):Int)=V.int (b:Int))=true then _ else _
   rw [b_]
   by_cases e:c=b
   ·subst e
    rw [decide_eq_true rfl]
    refine cz ⟨_,rfl,?_⟩
    have e2:sg c=c:=FP (aT Li)
    rw [e2] at k
    exact k
   ·rw [decide_eq_false (by omega)]
    refine cC ⟨_,rfl,rfl,?_⟩
    rw [take_snoc Li]
    intro m
    rcases bS.mp m with q | q
    ·exact hb q
    ·exact e (ay.mp q).symm
  ·rintro σ H' ⟨v1,rfl,rfl,hb⟩
   rw [JQ] at hb
   have Vs:b∉SG:=by
    rw [cI (by simp)] at hb
    exact hb
   rw [CO Vs] at k
   exact k
theorem Di:∀ l:List (List Nat),TL.ot [] l=l.flatten
 | []=>rfl
 | [p]=>by simp [TL.ot]
 | p::q::r=>by
  show p++([]++TL.ot [] (q::r))=_
  rw [Di (q::r)];rfl
theorem Dj:∀ (l acc:List Nat),∃ v q,c8 32 l=v::q/\TL.ED [32] 0 acc l=(acc++v)::q
 | [],acc=>⟨[],[],rfl,by rw [TL.E1];simp⟩
 | b::l,acc=>by
  by_cases h:b=32
  ·subst h
   obtain ⟨v,q,e1,e2⟩:=Dj l []
   refine ⟨[],v::q,?_,?_⟩
   ·show (if 32=32 then []::c8 32 l else _)=_
    rw [if_pos rfl,e1]
   ·rw [TL.RD (show TL.pre [32] (32::l)=true from TL.UR [32] l),cb]
    show acc::TL.ED [32] 0 [] l=_
    rw [e2];rfl
  ·obtain ⟨v,q,e1,e2⟩:=Dj l (acc++[b])
   refine ⟨b::v,q,?_,?_⟩
   ·show (if b=32 then []::c8 32 l else match c8 32 l with | []=>[[b]] | w::q=>(b::w)::q)=_
    rw [if_neg h,e1]
   ·rw [TL.Nm (TL.Np [] l h),e2];simp
theorem OI (l:List Nat):Txt.split (gT l) (Str.ofString " ")=(c8 32 l).map gT:=by
 refine TL.FH ?_
 have e:TL.tl (Str.ofString " ")=[32]:=by decide +kernel
 rw [TL.SF _ _ (by rw [e];simp) (TL.Xk (by decide +kernel)),e,aaf]
 obtain ⟨v,q,e1,e2⟩:=Dj l []
 rw [e2,e1,a9]
 have:∀ l:List (List Nat),l.map (TL.tl∘gT)=l:=fun l=>by
  conv=>rhs;rw [<- og l]
  exact cf fun _ _=>rfl
 rw [this];rfl
theorem GF (l:List Nat):Txt.join (Str.ofString "") (l.map fun b=>gT [sg b])=gT (l.map sg):=by
 refine QN ?_
 have e:TL.tl (Str.ofString "")=[]:=by decide +kernel
 rw [TL.join_eq,TL.E2,e,Di,a9]
 induction l with
 | nil=>rfl
 | cons b l ih=>rw [aC,List.flatten_cons,ih];rfl
def OJ (K:ab):Sp:=fun vs H Q _=>∃ (a:Addr) (l:List Nat),vs=[.ref a]/\bO K H a (l.map vN)/\l.length<=10000/\
 ∀ (H':Hp) (p:Addr),aM H H'->H p=none->H' p=some (.lst (((c8 32 l).map (·.map sg)).map vS))->Q (.ref p) H'
theorem OK (T:Txt K mg t):bY P w K mg base fw 2 t.mY t.pw ["line"] (OJ K):=by
 refine T.k6.ok yf (fun vs H Q E h=>?_) (fun eW A outer s H vs Q E hr h=>?_)
 ·obtain ⟨a,l,rfl,_⟩:=h
  rfl
 ·obtain ⟨a,l,rfl,ha,hl,k⟩:=h
  refine ⟨_,(ak (aK (UX (E3 i4 (tK rfl yf.nd (fv (pv 0)) (gH (own:=[("byte",1)]) (by kernel_rfl)) (fun _ _ _ _ _=>(uY 1 yf.nd)) (fun _ _ _ _ _=>kz) (fun _ _ _ _ _=>(aN (QP T) (hr.mono (by omega)) rfl T.JB T.nX.kp (SW T) .nil bp (aa (pv 1) ai))))) i4))),?_⟩
  try dsimp only [cxK]
  refine ⟨⟨_,rfl⟩,_,rfl,a,rfl,⟨_,ha⟩,fun D hD=>?_⟩
  refine sr (K:=K) (a:=a) (xs:=l.map vN) (ys:=(l.map fun b=>gT [sg b]).map V.str) hD ha (by rw [U,U,U]) (by rw [U,U,sizeLine_eq];omega) ?_ ?_
  ·intro i x1 y H1 R hi hy s1 fin
   obtain ⟨b,hb,rfl⟩:=Dc hi
   rw [a9,ax,hb] at hy
   have hy:vS [sg b]=y:=aj.inj hy
   subst hy
   exact ⟨rfl,_,rfl,b,rfl,fin _ fun _ _ z=>z⟩
  ·intro H1 s1 AU
   refine ⟨_,D,_,rfl,rfl,.inl (bO.of AU),?_,⟨_,rfl⟩,_,_,rfl,rfl,by decide +kernel,?_,fun p hp=>?_⟩
   ·rw [a9]
    have e:((l.map ((fun x=>Str.length x)∘fun b=>gT [sg b]))).sum=l.length:=by
     clear AU ha k hl
     induction l with
     | nil=>rfl
     | cons b l ih=>rw [aC,uL,ih,aq];show (gT [sg b]).length+_=_;rw [cS];simp;omega
    have e2:(Str.ofString "").length=0:=by decide +kernel
    show (l.map ((fun x=>Str.length x)∘fun b=>gT [sg b])).sum+(l.map fun b=>gT [sg b]).length*(Str.ofString "").length<=_
    rw [e,e2];omega
   ·show (Txt.join (Str.ofString "") (l.map fun b=>gT [sg b])).length+2<=_
    rw [GF,cS,U,sizeLine_eq];omega
   ·refine k _ p (s1.trans (aM.new hp)) (s1.free hp) ?_
    rw [ae]
    show some (HO.lst ((Txt.split (Txt.join (Str.ofString "") (l.map fun b=>gT [sg b])) (Str.ofString " ")).map V.str))=_
    rw [GF,OI,U2,a9];rfl
end
section
variable {P:Program} {w:World} {K:ab} {mg:Str->Option Value} {base:Heap} {t:uZ}
structure LS (H0 H:Hp) (B c:Addr) (L:List (List Nat)) (l:List Nat):Prop where
 same:aM H0 H
 fb:H0 B=none
 fc:H0 c=none
 ne:B≠c
 cur:H c=some (.lst (l.map vN))
 at_:∃ as:List Addr,H B=some (.lst (as.map V.ref))/\Paired (fun a x=>a≠B/\a≠c/\H a=some (.lst (x.map vN))) as L
def OL (K:ab):Sp:=fun vs H Q _=>∃ (a:Addr) (l:List Nat),vs=[.ref a]/\bO K H a (l.map vN)/\l.length<=10000/\
 ∀ (H':Hp) (p:Addr),aM H H'->H p=none->Aq H' p (lJ l)->Q (.ref p) H'
theorem OM (T:Txt K mg t):bY P w K mg base fw 1 t.mZ t.px ["text"] (OL K):=by
 refine T.k7.ok qm (fun vs H Q E h=>?_) (fun eW A outer s H vs Q E hr h=>?_)
 ·obtain ⟨a,l,rfl,_⟩:=h
  rfl
 ·obtain ⟨a,tx,rfl,ha,hl,k⟩:=h
  refine ⟨_,(ag (gR 1 qm.nd (bw ai))
   (ag (gR 2 qm.nd (bw ai))
   (ag (gE PassesOwn.never rfl (fv (pv 0)) (uY 3 qm.nd)
   (ak (cx (bu gh (pv 3) (eX rfl T.Ga) (bP _))
   (ag (cO (gG aB bc bf d8 (pv 1) (aa (pv 2) ai)))
   (ak (gR 2 qm.nd (bw ai))))
   (ak (cO (gG aB bc bf d8 (pv 2) (aa (pv 3) ai)))))))
   (ag (cx (Fq (pv 2) (fun _=>rfl))
   (ak (cO (gG aB bc bf d8 (pv 1) (aa (pv 2) ai))))
   bt)
   (ak (aK (pv 1))))))),?_⟩
  try dsimp only [cxK]
  refine ⟨a0 _,fun B hB=>⟨a0 _,fun c hc=>?_⟩⟩
  have s1:=aM.new (o:=.lst []) hB
  have hcB:c≠B:=fun e=>by rw [e,ae] at hc;cases hc
  have S0:LS H (upd (upd H B (.lst [])) c (.lst [])) B c [] []:=⟨s1.trans (aM.new hc),hB,s1.free hc,Ne.symm hcB,ae,[],by rw [aD (Ne.symm hcB)];exact ae,.nil⟩
  refine ⟨_,rfl,a,rfl,⟨_,S0.same.seq ha⟩,oo (K:=K) (a:=a) (xs:=tx.map vN) (fun i σ H'=>∃ (c:Addr) (v3:Option V),σ=[some (.ref a),some (.ref B),some (.ref c),v3]/\LS H H' B c ((tx.take i).foldl gJ ([],[])).1 ((tx.take i).foldl gJ ([],[])).2)
   ⟨c,none,rfl,S0⟩ (fun i σ H' _ ⟨_,_,_,S⟩=>S.same.seq ha) ?_ ?_⟩
  ·rintro i x σ H' hi EE ⟨c,v3,rfl,S⟩
   obtain ⟨b,hb,rfl⟩:=Dc hi
   have YK:(tx.take (i+1)).foldl gJ ([],[])=gJ ((tx.take i).foldl gJ ([],[])) b:=by rw [take_snoc hb,List.foldl_append];rfl
   have hsz:i<10000:=bo (aH.mp hb).1 hl
   have Ow:=xE (tx.take i) [] []
   have Fy:=zt (tx.take i) [] []
   rw [bK] at Ow Fy
   simp at Ow Fy
   refine ⟨_,rfl,rfl,_,rfl,?_⟩
   show if decide (V.int (b:Int)=V.int 10)=true then _ else _
   rw [b_]
   obtain ⟨as,Th,hP⟩:=S.at_
   by_cases e:b=10
   ·rw [decide_eq_true (by omega)]
    refine cz ⟨_,rfl,.inl ⟨rfl,_,bO.of Th⟩,_,rfl,B,_,_,rfl,rfl,Th,by rw [U,hP.length,sizeLine_eq];omega,a0 _,fun c' Yo=>?_⟩
    have n1:c'≠B:=fun e=>by rw [e,ae] at Yo;cases Yo
    have Li:H' c'=none:=by rw [aD n1] at Yo;exact Yo
    have n2:c'≠c:=Ne.symm (aV S.cur Li)
    have kp:∀ {x:Addr} {o:HO},H' x=some o->x≠B->(upd (upd H' B (.lst (as.map V.ref++[V.ref c]))) c' (.lst [])) x=some o:=fun hx nx=>by rw [aD (aV hx Li),aD nx];exact hx
    refine ⟨c',_,rfl,?_⟩
    rw [YK]
    have e3:gJ ((tx.take i).foldl gJ ([],[])) b=(((tx.take i).foldl gJ ([],[])).1++[((tx.take i).foldl gJ ([],[])).2],[]):=if_pos e
    rw [e3]
    refine ⟨(aM.cZ S.same S.fb).trans (aM.new Yo),S.fb,S.same.free Li,Ne.symm n1,ae,as++[c],?_,?_⟩
    ·rw [aD (Ne.symm n1),ae,aX];rfl
    ·exact (hP.mono fun x y ⟨z1,z2,z3⟩=>⟨z1,aV z3 Li,kp z3 z1⟩).snoc ⟨Ne.symm S.ne,Ne.symm n2,kp S.cur (Ne.symm S.ne)⟩
   ·rw [decide_eq_false (by omega)]
    refine cC ⟨_,rfl,.inl ⟨rfl,_,bO.of S.cur⟩,_,rfl,c,_,_,rfl,rfl,S.cur,by rw [U,sizeLine_eq];omega,?_⟩
    refine ⟨c,_,rfl,?_⟩
    rw [YK]
    have e3:gJ ((tx.take i).foldl gJ ([],[])) b=(((tx.take i).foldl gJ ([],[])).1,((tx.take i).foldl gJ ([],[])).2++[b]):=if_neg e
    rw [e3]
    refine ⟨aM.cZ S.same S.fc,S.fb,S.fc,S.ne,by rw [ae,aX];rfl,as,by rw [aD S.ne];exact Th,hP.mono fun x y ⟨z1,z2,z3⟩=>⟨z1,z2,by rw [aD z2];exact z3⟩⟩
  ·rintro σ H' ⟨c,v3,rfl,S⟩
   rw [U,cA] at S
   have Ow:=xE tx [] []
   simp at Ow
   obtain ⟨as,Th,hP⟩:=S.at_
   refine ⟨_,rfl,_,.inl ⟨_,bO.of S.cur,rfl⟩,?_⟩
   have Lz:=t6 tx
   by_cases e:(tx.foldl gJ ([],[])).2=[]
   ·rw [if_pos e] at Lz
    rw [e]
    refine cC ⟨_,rfl,k H' B S.same S.fb ?_⟩
    rw [Lz]
    exact ⟨as,Th,hP.mono fun x y z=>z.2.2⟩
   ·rw [if_neg e] at Lz
    have e2:(!((tx.foldl gJ ([],[])).2.map vN).isEmpty)=true:=by
     cases q:(tx.foldl gJ ([],[])).2 with
     | nil=>exact absurd q e
     | cons x l=>rfl
    rw [e2]
    refine cz ⟨_,rfl,.inl ⟨rfl,_,bO.of Th⟩,_,rfl,B,_,_,rfl,rfl,Th,by rw [U,hP.length,sizeLine_eq];omega,_,rfl,k _ B (aM.cZ S.same S.fb) S.fb ?_⟩
    rw [Lz]
    refine ⟨as++[c],by rw [ae,aX];rfl,?_⟩
    exact (hP.mono fun x y ⟨z1,z2,z3⟩=>by rw [aD z1];exact z3).snoc (by rw [aD (Ne.symm S.ne)];exact S.cur)
def Dk (K:ab):Sp:=fun vs H Q _=>∃ (a:Addr) (l:List Nat),vs=[.ref a]/\bO K H a (l.map vN)/\∀ H',aM H H'->Q (.bl (decide (l.isEmpty=true\/l.head?=some 35))) H'
theorem Dl (T:Txt K mg t):bY P w K mg base fw 1 t.fU t.gX ["line"] (Dk K):=by
 refine T.e9.ok C7 (fun vs H Q E h=>?_) (fun eW A outer s H vs Q E hr h=>?_)
 ·obtain ⟨a,l,rfl,_⟩:=h
  rfl
 ·obtain ⟨a,l,rfl,ha,k⟩:=h
  have OD:=hr.units
  refine ⟨_,(ak (aK (abI (kx (UE OD) (pv 0) (bw ai) (bP _)) (Fm (kx gh (bQ bI (pv 0) az (fun _ _=>rfl)) (eX rfl T.NT) (bP _)))))),?_⟩
  try dsimp only [cxK]
  refine ⟨_,rfl,a0 _,fun p hp=>?_⟩
  have s1:=aM.new (o:=.lst []) hp
  have e:l.map vN=(l.map fun (n:Nat)=>(n:Int)).map V.int:=by rw [a9];rfl
  refine ⟨_,_,.lst (s1.seq ha) (by rw [e];exact Cb _),.lst (bO.of ae) (Cb []),shaped_ints _,shaped_ints [],_,rfl,?_⟩
  show if PyData.eqvAll ((l.map fun (n:Nat)=>(n:Int)).map PyData.int) (([]:List Int).map PyData.int)=true then _ else _
  rw [Gz]
  have k:=k _ s1
  cases l with
  | nil=>
   rw [decide_eq_true (by rfl)]
   exact cz k
  | cons b l=>
   rw [decide_eq_false (by simp)]
   refine cC ⟨_,rfl,a,_,0,vN b,rfl,rfl,s1.seq ha,bj (j:=0) rfl,rfl,?_⟩
   rw [b_]
   have e2:decide ((b::l).isEmpty=true\/(b::l).head?=some 35)=decide ((b:Int)=35):=decide_eq_decide.mpr (by simp;omega)
   rw [e2] at k
   exact k
theorem QQ {w:List Nat} (h:∀ c∈w,c<=122):Txt.isdigit (gT w)=(!w.isEmpty&&w.all fun c=>decide (48<=c/\c<=57)):=by
 unfold Txt.isdigit
 have e1:decide ((gT w).length > 0)=!w.isEmpty:=by
  rw [cS]
  cases w<;>simp
 rw [e1]
 congr 1
 show w.toArray.all Unicode.isDigit=_
 rw [List.all_toArray]
 clear e1
 have key:∀ c,c<128->Unicode.isDigit c=decide (48<=c/\c<=57):=by decide +kernel
 induction w with
 | nil=>rfl
 | cons c w ih=>rw [kl,kl,ih fun x hx=>h x (.tail _ hx),key c (by have:=h c (.head _);omega)]
def LA:Sp:=fun vs H Q _=>∃ wd:List Nat,vs=[vS wd]/\(∀ c∈wd,c<=122)/\wd.length<=10000/\Q (.int (numOf wd)) H
theorem vU (T:Txt K mg t):bY P w K mg base fw 1 t.kQ t.nz ["word"] LA:=by
 refine T.gu.ok KW (fun vs H Q E h=>?_) (fun eW A outer s H vs Q E hr h=>?_)
 ·obtain ⟨wd,rfl,_⟩:=h
  rfl
 ·obtain ⟨wd,rfl,hc,hl,k⟩:=h
  refine ⟨_,(ag (cx (PW.pt (zY (vj (qB (QC (pv 0)))) (vi (bu Jf (b8 Bw (by rfl) T.f_ boot_len (aa (pv 0) ai)) (eX rfl T.z9) (bP _)))))
   (ak (aK (Jd Cz az)))
   bt)
   (ag (cx (PW.pt (J6 (bu Jf (b8 Bw (by rfl) T.f_ boot_len (aa (pv 0) ai)) az (bP _)) (EU (bu gh (bQ Zh (pv 0) az (fun _ _=>rfl)) i4 (bP _)))))
   (ak (aK (Jd Cz az)))
   bt)
   (ak (aK (i5 BD (by rfl) T.F8 boot_int (aa (pv 0) ai)))))),?_⟩
  try dsimp only [cxK]
  have hz:(gT wd).length<=sizeLine:=by rw [cS,sizeLine_eq];omega
  refine ⟨_,rfl,⟨_,rfl⟩,_,rfl,rfl,trivial,_,rfl,?_⟩
  rw [QQ hc]
  have bad:iC wd=false->Q (.int (-1)) H:=fun hd=>by
   have:mP wd=none:=by unfold mP;rw [hd];rfl
   rw [o5 this] at k;exact k
  by_cases h1:(!wd.isEmpty&&wd.all fun c=>decide (48<=c/\c<=57))=true
  ·rw [h1]
   rw [aG] at h1
   refine cC ⟨_,rfl,_,rfl,hz,_,_,rfl,rfl,_,rfl,?_⟩
   rw [cS]
   by_cases h2:4<wd.length
   ·rw [decide_eq_true (by omega)]
    refine cz ⟨1,rfl,bad ?_⟩
    unfold iC
    rw [decide_eq_false (show ¬ wd.length<=4 by omega)];simp
   ·rw [decide_eq_false (by omega)]
    refine cC ⟨_,rfl,_,rfl,hz,_,_,rfl,rfl,_,rfl,?_⟩
    rw [cS]
    have last:(¬ (1<wd.length/\wd.head?=some 48))->Q (.int (numOf wd)) H->∃ a n,[vS wd]=[V.str a]/\PySem.intText? a=some n/\a.length<=640/\Q (.int n) H:=fun h3 k=>by
     have hd:iC wd=true:=by
      unfold iC
      rw [h1.1,h1.2,decide_eq_true (show wd.length<=4 by omega),eQ,eQ,eQ]
      cases wd with
      | nil=>cases h1.1
      | cons c r=>
       cases r with
       | nil=>rfl
       | cons d r=>
        have:c≠48:=fun e=>h3 ⟨by simp,by rw [e];rfl⟩
        simp [this]
     have hn:mP wd=some (wd.foldl (fun n c=>n*10+(c - 48)) 0):=by unfold mP;rw [if_pos hd]
     refine ⟨_,_,rfl,PySem.intText_digits (x:=gT wd) (fun c hc=>of_decide_eq_true (bA.mp h1.2 c hc)) (fun e=>by have e:wd=[]:=e;rw [e] at h1;cases h1.1) (by rw [cS];omega),by rw [cS];omega,?_⟩
     rw [o4 hn] at k
     exact k
    by_cases h3:1<wd.length
    ·rw [decide_eq_true (by omega)]
     obtain ⟨c,d,r,e⟩:∃ c d r,wd=c::d::r:=by
      match wd,h3 with
      | c::d::r,_=>exact ⟨c,d,r,rfl⟩
     refine cz ⟨_,rfl,_,0,c,rfl,rfl,hz,?_,rfl,_,rfl,?_⟩
     ·show M8 wd 0=some c
      rw [e];exact bj (j:=0) rfl
     ·have e4:decide (V.str ⟨#[c]⟩=V.str (Str.ofString "0"))=decide (c=48):=decide_eq_decide.mpr ⟨fun q=>by
       have q:=congrArg TL.tl (V.str.inj q)
       have q:[c]=[48]:=q
       injection q,fun q=>by rw [q];rfl⟩
      rw [e4]
      by_cases h4:c=48
      ·rw [decide_eq_true h4]
       refine cz ⟨1,rfl,bad ?_⟩
       unfold iC
       rw [e,h4];simp
      ·rw [decide_eq_false h4]
       refine cC ⟨_,rfl,last (fun q=>?_) k⟩
       rw [e] at q
       exact h4 (aj.inj q.2)
    ·rw [decide_eq_false (by omega)]
     exact cC ⟨_,rfl,last (fun q=>h3 q.1) k⟩
  ·have h1:(!wd.isEmpty&&wd.all fun c=>decide (48<=c/\c<=57))=false:=by simpa using h1
   rw [h1]
   refine cz (cz ⟨1,rfl,bad ?_⟩)
   unfold iC
   rw [Bool.and_eq_false_iff] at h1
   rcases h1 with q | q
   ·rw [q];rfl
   ·rw [q];simp
def GG:Sp:=fun vs H Q _=>∃ z:Int,vs=[.int z]/\Q (.bl (decide (0<=z)&&decide (z<=20))) H
theorem yy (T:Txt K mg t):bY P w K mg base fw 1 t.iM t.j9 ["turns"] GG:=by
 refine T.fD.ok Gi (fun vs H Q E h=>?_) (fun eW A outer s H vs Q E hr h=>?_)
 ·obtain ⟨z,rfl,_⟩:=h
  rfl
 ·obtain ⟨z,rfl,k⟩:=h
  refine ⟨_,(ak (aK (Cu (kx Up (pv 0) az (bP _)) (Fm (kx Yq (pv 0) (eX rfl T.Eb) (bP _)))))),?_⟩
  try dsimp only [cxK]
  refine ⟨_,rfl,_,_,rfl,rfl,_,rfl,?_⟩
  by_cases h0:0<=z
  ·rw [decide_eq_true h0]
   rw [decide_eq_true h0,eQ] at k
   exact cz ⟨_,rfl,_,_,rfl,rfl,k⟩
  ·rw [decide_eq_false h0]
   rw [decide_eq_false h0,jc] at k
   exact cC k
end
def rawOf (s:aS) (tie:Str):Raw:=⟨s.rules.n,s.rules.points,tie,s.game.order,s.game.turn,s.game.left,s.rules.can,[]⟩
structure Fd (ws:List (List Nat)):Prop where
 le:∀ w∈ws,∀ c∈w,c<=122
 len:ws.length<=10000
 wl:∀ w∈ws,w.length<=10000
theorem GH {α:Type} (f:α->PyData):∀ (l:List α),(∀ a∈l,PyData.canLay0 (f a)=true)->(∀ a∈l,PyData.depth (f a)<=1)->PyData.canLayAll0 (l.map f)=true/\PyData.depthAll (l.map f)<=1
 | [],_,_=>⟨rfl,by simp [PyData.depthAll]⟩
 | n::r,h1,h2=>by
  obtain ⟨g1,g2⟩:=GH f r (fun a ha=>h1 a (.tail _ ha)) (fun a ha=>h2 a (.tail _ ha))
  refine ⟨?_,?_⟩
  ·show (PyData.canLay0 (f n)&&PyData.canLayAll0 (r.map f))=true
   rw [g1,h1 n (.head _)];rfl
  ·have:=h2 n (.head _)
   simp only [aC,PyData.depthAll]
   omega
theorem tT {l:List Str} (h:∀ x∈l,∀ c∈x.cps.toList,c<=122):SeqAt.shaped (.list (l.map PyData.str))=true:=by
 obtain ⟨g1,g2⟩:=GH PyData.str l (fun x hx=>by
  show PyData.strOk x=true
  unfold PyData.strOk
  rw [<- Array.all_toList]
  refine bA.mpr fun c hc=>decide_eq_true ?_
  have:=h x hx c hc
  omega) (fun x hx=>by simp [PyData.depth])
 unfold SeqAt.shaped
 rw [aG]
 refine ⟨g1,decide_eq_true ?_⟩
 simp only [PyData.depth]
 omega
theorem pN (ws:List (List Nat)):ws.map vS=(ws.map gT).map V.str:=by rw [a9];rfl
theorem Fd.shaped {ws:List (List Nat)} (h:Fd ws):SeqAt.shaped (.list ((ws.map gT).map PyData.str))=true:=tT fun x hx c hc=>by
 obtain ⟨w,hw,rfl⟩:=aO.mp hx
 exact h.le w hw c hc
theorem QR {a b:List (List Nat)}:a.map gT=b.map gT↔a=b:=by
 constructor
 ·intro h
  exact (sZ (fun x y e=>Fc e)).mp h
 ·intro h;rw [h]
def yz (K:ab) (C:Addr) (i:Nat) (key:List Nat):Sp:=fun vs H Q _=>∃ (g pd pl a:Addr) (s:aS) (tie:Str) (ws:List (List Nat)),vs=[.ref g,.ref a]/\mC C H g pd pl (rawOf s tie)/\bO K H a (ws.map vS)/\Fd ws/\kG s i/\s.rules.can.length<1000/\
 (iD s i (key::ws)=none->∀ H',aM H H'->Q (.bl false) H')/\
 (∀ s',iD s i (key::ws)=some s'->∀ H' zW,mC C H' g pd pl (rawOf s' zW)->(zW=if i=2 then dm s'.rules.tie else tie)->bh [g,pd] H H'->Q (.bl true) H')
section
variable {P:Program} {w:World} {K:ab} {mg:Str->Option Value} {base:Heap} {t:uZ}
theorem mC.put {C:Addr} {H H1:Hp} {g pd pl dx pa oa:Addr} {x y:Raw} {pa' JR:Addr} (hg:mC C H g pd pl x) (e:H g=some (.ins C dx (gf x.n pa x.tie oa x.turn x.left pd pl))) (s1:aM H H1)
  (my:H1 pa'=some (.lst (y.points.map vN))) (lP:H1 JR=some (.lst (y.order.map vN))) (hc:y.can=x.can) (hp:y.past=x.past) (n1:pa'≠pl) (n2:JR≠pl):
  mC C (upd H1 g (.ins C dx (gf y.n pa' y.tie JR y.turn y.left pd pl))) g pd pl y:=by
 obtain ⟨VM,pa2,oa2,h1,h2,h3,h4,⟨ts,h5,h6⟩,h7,h8⟩:=hg
 have nd:∀ {b:Addr} {o o':HO},H1 b=some o->(∀ C dx fs,o≠.ins C dx fs)->(upd H1 g o') b=some o:=fun hb tG=>by rw [aD (dX hb (s1 _ _ h1) (tG _ _ _))];exact hb
 refine ⟨dx,pa',JR,ae,nd my (fun _ _ _ z=>nomatch z),nd lP (fun _ _ _ z=>nomatch z),by rw [hc];exact nd (s1 _ _ h4) (fun _ _ _ z=>nomatch z),⟨ts,nd (s1 _ _ h5) (fun _ _ _ z=>nomatch z),?_⟩,n1,n2⟩
 rw [hp]
 exact h6.mono fun b q ⟨o2,z1,z2,z3⟩=>⟨o2,z1,nd (s1 _ _ z2) (fun _ _ _ z=>nomatch z),nd (s1 _ _ z3) (fun _ _ _ z=>nomatch z)⟩
theorem Ig (T:Txt K mg t):bY P w K mg base fw 1 t.fz t.lU ["game","words"] (yz K t.aF 0 jT):=by
 refine T.h9.ok HP (fun vs H Q E h=>?_) (fun eW A outer s H vs Q E hr h=>?_)
 ·obtain ⟨g,pd,pl,a,s,tie,ws,rfl,_⟩:=h
  rfl
 ·obtain ⟨g,pd,pl,a,st,tie,ws,rfl,hg,ha,hw,hf,_,k0,k1⟩:=h
  have OD:=hr.units
  refine ⟨_,(ag (cx (PW.pt (J6 (bu (PR OD) (pv 1) (bw (aa i4 ai)) (bP _)) (EU (bu (PR OD) (pv 1) (bw (aa i4 ai)) (bP _)))))
   (ak (aK mq))
   bt)
   (ag (dY (pv 0) (i5 BD (by rfl) T.F8 boot_int (aa (bQ bI (pv 1) az (fun _ _=>rfl)) ai)) rfl)
   (ak (aK mq)))),?_⟩
  try dsimp only [cxK]
  rw [FR] at k0
  obtain ⟨dx,pa,oa,cK,my,lP,ma,⟨ts,kF,Eo⟩,qM,rm⟩:=id hg
  have ew:=pN ws
  have two:∀ {H1:Hp} {p:Addr} (c:Nat),c<=122->H1 p=some (.lst [vS [c]])->aM H H1->∃ d e,Dp K H1 (.ref a) d/\Dp K H1 (.ref p) e/\SeqAt.shaped d=true/\SeqAt.shaped e=true/\PyData.eqv d e=decide (ws=[[c]]):=fun {H1 p} c hc hp s1=>
   ⟨_,_,.lst (s1.seq ha) (by rw [ew];exact Cc _),.lst (bO.of hp) (Cc [gT [c]]),hw.shaped,tT (fun x hx d hd=>by
    rw [ay.mp hx] at hd
    have hd:d∈[c]:=hd
    rw [ay.mp hd];exact hc),by
    show PyData.eqvAll _ _=_
    rw [GA]
    exact decide_eq_decide.mpr (show ws.map gT=[[c]].map gT↔_ from QR)⟩
  have fin:∀ (n:Nat) (c:Nat),(n=2/\c=50\/n=3/\c=51)->ws=[[c]]->∀ H1,aM H H1->(∀ H' zW,mC t.aF H' g pd pl (rawOf (DW st n) zW)->zW=tie->bh [g,pd] H H'->Q (.bl true) H')->
    ∃ p xs i x,V.ref a=V.ref p/\V.int 0=V.int i/\bO K H1 p xs/\M8 xs i=some x/\∃ y m,[x]=[V.str y]/\PySem.intText? y=some m/\y.length<=640/\∃ v,(L2.start ["game","words"] [V.ref g,V.ref a])[0]?=some (some v)/\∃ a2 C dx fs,v=.ref a2/\H1 a2=some (.ins C dx fs)/\So K C/\iF K C "boats"/\fs.length<1000/\Q (.bl true) (upd H1 a2 (.ins C dx (ji "boats" (.int m) fs))):=by
   intro n c hnc he H1 s1 kk
   refine ⟨a,_,0,vS [c],rfl,rfl,s1.seq ha,?_,gT [c],n,rfl,?_,by rw [cS];simp,_,rfl,g,_,dx,_,rfl,s1 _ _ cK,T.aI,T.bM,of_decide_eq_true (by kernel_rfl),?_⟩
   ·rw [he];exact bj (j:=0) rfl
   ·rcases hnc with ⟨rfl,rfl⟩ | ⟨rfl,rfl⟩<;>decide +kernel
   ·have e:ji "boats" (.int ((n:Nat):Int)) (gf st.rules.n pa tie oa st.game.turn st.game.left pd pl)=gf n pa tie oa st.game.turn st.game.left pd pl:=Ta
    show Q (.bl true) (upd H1 g (.ins t.aF dx (ji "boats" (.int ((n:Nat):Int)) (gf st.rules.n pa tie oa st.game.turn st.game.left pd pl))))
    rw [e]
    exact kk _ tie (hg.put (y:=rawOf (DW st n) tie) cK s1 (s1 _ _ my) (s1 _ _ lP) rfl rfl qM rm) rfl ((bh.of s1).upd (by simp))
  refine ⟨_,rfl,szA,fun p hp=>?_⟩
  have s1:=aM.new (o:=.lst [V.str (Str.ofString "2")]) hp
  obtain ⟨d,e,h1,h2,h3,h4,h5⟩:=two (p:=p) 50 (by decide) (ae (o:=.lst [V.str (Str.ofString "2")])) s1
  refine ⟨d,e,h1,h2,h3,h4,_,rfl,?_⟩
  rw [h5]
  by_cases e1:ws=[[50]]
  ·rw [decide_eq_true e1]
   refine cC (cC ?_)
   have k1:=k1 (DW st 2) (by rw [FR,if_pos ⟨rfl,e1⟩])
   exact ⟨_,rfl,fin 2 50 (.inl ⟨rfl,rfl⟩) e1 _ s1 fun H' zW z1 z2 z3=>k1 H' zW z1 z2 z3⟩
  ·rw [decide_eq_false e1]
   refine cz ⟨_,rfl,szA,fun q hq=>?_⟩
   have s2:=s1.trans (aM.new (o:=.lst [V.str (Str.ofString "3")]) hq)
   obtain ⟨d,e,h1,h2,h3,h4,h5⟩:=two (p:=q) 51 (by decide) (ae (o:=.lst [V.str (Str.ofString "3")])) s2
   refine ⟨d,e,h1,h2,h3,h4,_,rfl,?_⟩
   rw [h5]
   by_cases e2:ws=[[51]]
   ·rw [decide_eq_true e2]
    refine cC ?_
    have k1:=k1 (DW st 3) (by rw [FR,if_neg (fun q=>e1 q.2),if_pos ⟨rfl,e2⟩])
    exact ⟨_,rfl,fin 3 51 (.inr ⟨rfl,rfl⟩) e2 _ s2 fun H' zW z1 z2 z3=>k1 H' zW z1 z2 z3⟩
   ·rw [decide_eq_false e2]
    refine cz (k0 ?_ _ s2)
    rw [if_neg (fun q=>e1 q.2),if_neg (fun q=>e2 q.2)]
theorem m8 (ws:List (List Nat)):(ws.map vS).all r9=true:=by
 rw [List.all_map]
 exact bA.mpr fun _ _=>rfl
theorem zE (x:List Nat) (ws:List (List Nat)):Kc (vS x) (ws.map vS)=decide (x∈ws):=by
 unfold Kc
 induction ws with
 | nil=>rfl
 | cons y ws ih=>
  rw [aC,fH,ih]
  have e:Rt (vS y) (vS x)=decide (y=x):=by
   show decide (gT y=gT x)=_
   exact decide_eq_decide.mpr ⟨Fc,fun e=>by rw [e]⟩
  rw [e,<-Bool.decide_or]
  exact decide_eq_decide.mpr (by rw [aw];exact ⟨fun h=>h.imp Eq.symm id,fun h=>h.imp Eq.symm id⟩)
theorem GI {ws:List (List Nat)} (h:ws.length=1):∃ x,ws=[x]:=by
 match ws,h with
 | [x],_=>exact ⟨x,rfl⟩
theorem ON (T:Txt K mg t):bY P w K mg base fw 1 t.iN t.pz ["game","words"] (yz K t.aF 2 ni):=by
 refine T.k8.ok N5 (fun vs H Q E h=>?_) (fun eW A outer s H vs Q E hr h=>?_)
 ·obtain ⟨g,pd,pl,a,s,tie,ws,rfl,_⟩:=h
  rfl
 ·obtain ⟨g,pd,pl,a,st,tie,ws,rfl,hg,ha,hw,hf,_,k0,k1⟩:=h
  refine ⟨_,(ag (cx (PW.pt (zY (bu uR (b8 bT (by rfl) T.f_ boot_len (aa (pv 1) ai)) az (bP _)) (vi (bu eR (bQ bI (pv 1) az (fun _ _=>rfl)) (eX rfl T.Vf) (by with_unfolding_all rfl)))))
   (ak (aK mq))
   bt)
   (ag (dY (pv 0) (bQ bI (pv 1) az (fun _ _=>rfl)) rfl)
   (ak (aK mq)))),?_⟩
  try dsimp only [cxK]
  rw [Km] at k0
  obtain ⟨dx,pa,oa,cK,my,lP,ma,⟨ts,kF,Eo⟩,qM,rm⟩:=id hg
  refine ⟨_,rfl,a,_,rfl,.inl ha,rfl,_,rfl,?_⟩
  rw [b_,U]
  by_cases h1:ws.length=1
  ·rw [decide_eq_true (by omega)]
   obtain ⟨x,rfl⟩:=GI h1
   have ac3:∀ H':Hp,oX K H' t.x8 (fg.map vS):=fun H'=>T.Vg.sq H'
   refine cC ⟨_,rfl,a,_,0,vS x,rfl,rfl,ha,bj (j:=0) rfl,t.x8,_,rfl,.inr (ac3 _),rfl,m8 _,_,rfl,?_⟩
   rw [zE]
   by_cases h2:x∈fg
   ·rw [decide_eq_true h2]
    have k1:=k1 (E7 st (fg.idxOf x)) (by rw [Km,if_pos ⟨rfl,rfl,h2⟩];rfl)
    refine cC ⟨_,rfl,a,_,0,vS x,rfl,rfl,ha,bj (j:=0) rfl,_,rfl,g,_,dx,_,rfl,cK,T.aI,T.dI,of_decide_eq_true (by kernel_rfl),?_⟩
    have e:ji "tie" (vS x) (gf st.rules.n pa tie oa st.game.turn st.game.left pd pl)=gf st.rules.n pa (gT x) oa st.game.turn st.game.left pd pl:=XY
    show Q (.bl true) (upd H g (.ins t.aF dx (ji "tie" (vS x) (gf st.rules.n pa tie oa st.game.turn st.game.left pd pl))))
    rw [e]
    refine k1 _ (gT x) (hg.put (y:=rawOf (E7 st (fg.idxOf x)) (gT x)) cK (fun _ _ e=>e) my lP rfl rfl qM rm) ?_ ((bh.of fun _ _ e=>e).upd (by simp))
    have:x=[100,114,97,119]\/x=[102,105,114,115,116]\/x=[108,97,115,116]:=by simpa [fg] using h2
    rw [if_pos rfl]
    rcases this with rfl | rfl | rfl
    ·show gT [100,114,97,119]=dm (fg.idxOf [100,114,97,119])
     decide +kernel
    ·show gT [102,105,114,115,116]=dm (fg.idxOf [102,105,114,115,116])
     decide +kernel
    ·show gT [108,97,115,116]=dm (fg.idxOf [108,97,115,116])
     decide +kernel
   ·rw [decide_eq_false h2]
    exact cz (k0 (by rw [if_neg (fun q=>h2 q.2.2)]) _ fun _ _ e=>e)
  ·rw [decide_eq_false (by omega)]
   exact cz (cz (k0 (by rw [if_neg (fun q=>h1 q.2.1)]) _ fun _ _ e=>e))
theorem LB (T:Txt K mg t):bY P w K mg base fw 1 t.gk t.nE ["game","words"] (yz K t.aF 4 lK):=by
 refine T.jr.ok K0 (fun vs H Q E h=>?_) (fun eW A outer s H vs Q E hr h=>?_)
 ·obtain ⟨g,pd,pl,a,s,tie,ws,rfl,_⟩:=h
  rfl
 ·obtain ⟨g,pd,pl,a,st,tie,ws,rfl,hg,ha,hw,hf,_,k0,k1⟩:=h
  refine ⟨_,(ag (cx (PW.pt (zY (bu uR (b8 bT (by rfl) T.f_ boot_len (aa (pv 1) ai)) az (bP _)) (vi (bu eR (bQ bI (pv 1) az (fun _ _=>rfl)) (eX rfl T.u9) (by with_unfolding_all rfl)))))
   (ak (aK mq))
   bt)
   (ag (dY (pv 0) (gG PySem.F.plainAttrs_tuple PySem.F.slot_tuple_index PySem.F.type_tuple_index S5 (eX rfl T.u9) (aa (bQ bI (pv 1) az (fun _ _=>rfl)) ai)) rfl)
   (ak (aK mq)))),?_⟩
  try dsimp only [cxK]
  rw [Ko] at k0
  obtain ⟨dx,pa,oa,cK,my,lP,ma,⟨ts,kF,Eo⟩,qM,rm⟩:=id hg
  refine ⟨_,rfl,a,_,rfl,.inl ha,rfl,_,rfl,?_⟩
  rw [b_,U]
  by_cases h1:ws.length=1
  ·rw [decide_eq_true (by omega)]
   obtain ⟨x,rfl⟩:=GI h1
   have Tg:∀ H':Hp,oX K H' t.fQ (cX.map vS):=fun H'=>T.rV.sq H'
   refine cC ⟨_,rfl,a,_,0,vS x,rfl,rfl,ha,bj (j:=0) rfl,t.fQ,_,rfl,.inr (Tg _),rfl,m8 _,_,rfl,?_⟩
   rw [zE]
   by_cases h2:x∈cX
   ·rw [decide_eq_true h2]
    have k1:=k1 (BJ st (cX.idxOf x)) (by rw [Ko,if_pos ⟨rfl,rfl,h2⟩];rfl)
    have hx:x=[82]\/x=[66]:=by simpa [cX] using h2
    have hz:gT x=Str.ofString "R"\/(gT x=Str.ofString "B"/\gT x≠Str.ofString "R"):=by
     rcases hx with rfl | rfl
     ·exact .inl rfl
     ·exact .inr ⟨rfl,by decide +kernel⟩
    obtain ⟨oL,_,_,q1,q2,q3,_⟩:=id T.rV
    refine cC ⟨.inr (.inl ⟨rfl,oL,q1,q2,q3⟩),_,rfl,a,_,0,vS x,rfl,rfl,ha,bj (j:=0) rfl,t.fQ,_,_,gT x,rfl,rfl,T.rV,hz,_,rfl,g,_,dx,_,rfl,cK,T.aI,T.cg,of_decide_eq_true (by kernel_rfl),?_⟩
    have et:(if gT x=Str.ofString "R" then (0:Int) else 1)=((cX.idxOf x:Nat):Int):=by
     rcases hx with rfl | rfl
     ·decide +kernel
     ·decide +kernel
    rw [et]
    have e:ji "turn" (.int ((cX.idxOf x:Nat):Int)) (gf st.rules.n pa tie oa st.game.turn st.game.left pd pl)=gf st.rules.n pa tie oa (cX.idxOf x) st.game.left pd pl:=yu
    show Q (.bl true) (upd H g (.ins t.aF dx (ji "turn" (.int ((cX.idxOf x:Nat):Int)) (gf st.rules.n pa tie oa st.game.turn st.game.left pd pl))))
    rw [e]
    exact k1 _ tie (hg.put (y:=rawOf (BJ st (cX.idxOf x)) tie) cK (fun _ _ e=>e) my lP rfl rfl qM rm) rfl ((bh.of fun _ _ e=>e).upd (by simp))
   ·rw [decide_eq_false h2]
    exact cz (k0 (by rw [if_neg (fun q=>h2 q.2.2)]) _ fun _ _ e=>e)
  ·rw [decide_eq_false (by omega)]
   exact cz (cz (k0 (by rw [if_neg (fun q=>h1 q.2.1)]) _ fun _ _ e=>e))
theorem LC (T:Txt K mg t):bY P w K mg base fw 2 t.gn t.nF ["game","words"] (yz K t.aF 5 lL):=by
 refine T.js.ok K1 (fun vs H Q E h=>?_) (fun eW A outer s H vs Q E hr h=>?_)
 ·obtain ⟨g,pd,pl,a,s,tie,ws,rfl,_⟩:=h
  rfl
 ·obtain ⟨g,pd,pl,a,st,tie,ws,rfl,hg,ha,hw,hf,_,k0,k1⟩:=h
  refine ⟨_,(ag (cx (PW.pt (zY (bu uR (b8 bT (by rfl) T.f_ boot_len (aa (pv 1) ai)) az (bP _)) (vi (vj (qB (aN (yy T) (hr.mono (by omega)) rfl T.um T.fD.kp (Ad T) .nil bp (aa (aN (vU T) (hr.mono (by omega)) rfl T.tO T.gu.kp (yg T) .nil bp (aa (bQ bI (pv 1) az (fun _ _=>rfl)) ai)) ai)))))))
   (ak (aK mq))
   bt)
   (ag (dY (pv 0) (aN (vU T) (hr.mono (by omega)) rfl T.tO T.gu.kp (yg T) .nil bp (aa (bQ bI (pv 1) az (fun _ _=>rfl)) ai)) rfl)
   (ak (aK mq)))),?_⟩
  try dsimp only [cxK]
  rw [Kp] at k0
  obtain ⟨dx,pa,oa,cK,my,lP,ma,⟨ts,kF,Eo⟩,qM,rm⟩:=id hg
  refine ⟨_,rfl,a,_,rfl,.inl ha,rfl,_,rfl,?_⟩
  rw [b_,U]
  by_cases h1:ws.length=1
  ·rw [decide_eq_true (by omega)]
   obtain ⟨x,rfl⟩:=GI h1
   have hx1:=hw.le x (.head _)
   have hx2:=hw.wl x (.head _)
   refine cC ⟨_,rfl,a,_,0,vS x,rfl,rfl,ha,bj (j:=0) rfl,x,rfl,hx1,hx2,numOf x,rfl,_,rfl,?_⟩
   by_cases h2:0<=numOf x/\numOf x<=20
   ·rw [decide_eq_true h2.1,decide_eq_true h2.2]
    have k1:=k1 (BK st (numOf x).toNat) (by rw [Kp,if_pos ⟨rfl,rfl,h2.1,h2.2⟩];rfl)
    refine cC ⟨_,rfl,a,_,0,vS x,rfl,rfl,ha,bj (j:=0) rfl,x,rfl,hx1,hx2,_,rfl,g,_,dx,_,rfl,cK,T.aI,T.bZ,of_decide_eq_true (by kernel_rfl),?_⟩
    have e0:numOf x=(((numOf x).toNat:Nat):Int):=by omega
    have e:ji "left" (.int (((numOf x).toNat:Nat):Int)) (gf st.rules.n pa tie oa st.game.turn st.game.left pd pl)=gf st.rules.n pa tie oa st.game.turn (numOf x).toNat pd pl:=B_
    show Q (.bl true) (upd H g (.ins t.aF dx (ji "left" (.int (numOf x)) (gf st.rules.n pa tie oa st.game.turn st.game.left pd pl))))
    rw [e0,e]
    exact k1 _ tie (hg.put (y:=rawOf (BK st (numOf x).toNat) tie) cK (fun _ _ e=>e) my lP rfl rfl qM rm) rfl ((bh.of fun _ _ e=>e).upd (by simp))
   ·have e:(decide (0<=numOf x)&&decide (numOf x<=20))=false:=by
     rw [<- mO];exact decide_eq_false h2
    rw [e]
    exact cz (k0 (by rw [if_neg (fun q=>h2 q.2.2)]) _ fun _ _ e=>e)
  ·rw [decide_eq_false (by omega)]
   exact cz (cz (k0 (by rw [if_neg (fun q=>h1 q.2.1)]) _ fun _ _ e=>e))
end
section
variable {P:Program} {w:World} {K:ab} {mg:Str->Option Value} {base:Heap} {t:uZ}
theorem Ce (x:Int) (ns:List Int):Kc (.int x) (ns.map V.int)=decide (x∈ns):=by
 unfold Kc
 induction ns with
 | nil=>rfl
 | cons y ns ih=>
  rw [aC,fH,ih]
  have e:Rt (V.int y) (V.int x)=decide (y=x):=rfl
  rw [e,<-Bool.decide_or]
  exact decide_eq_decide.mpr (by rw [aw];exact ⟨fun h=>h.imp Eq.symm id,fun h=>h.imp Eq.symm id⟩)
theorem Ti (ns:List Int):(ns.map V.int).all r9=true:=by
 rw [List.all_map]
 exact bA.mpr fun _ _=>rfl
theorem ac4 {ns:List Int} {k:Nat} (h:k<ns.length):(ns.map V.int)[k]?=some (V.int (ns.getD k 0)):=by
 rw [ax,bD,a7 h];rfl
theorem GJ (T:Txt K mg t):bY P w K mg base fw 2 t.eO t.j_ ["game","words"] (yz K t.aF 1 fI):=by
 refine T.gv.ok i_ (fun vs H Q E h=>?_) (fun eW A outer s H vs Q E hr h=>?_)
 ·obtain ⟨g,pd,pl,a,s,tie,ws,rfl,_⟩:=h
  rfl
 ·obtain ⟨g,pd,pl,a,st,tie,ws,rfl,hg,ha,hw,hf,_,k0,k1⟩:=h
  refine ⟨_,(ag (gR 3 i_.nd (tK rfl i_.nd (fv (pv 1)) (gH (own:=[("word",2)]) (by kernel_rfl)) (fun _ _ _ _ _=>(uY 2 i_.nd)) (fun _ _ _ _ _=>kz) (fun _ _ _ _ _=>(aN (vU T) (hr.mono (by omega)) rfl T.tO T.gu.kp (yg T) .nil bp (aa (pv 2) ai)))))
   (ag (cx (PW.pt (zY (bu uR (b8 bT (by rfl) T.f_ boot_len (aa (pv 3) ai)) (cB Cy az (bb (pv 0) rfl)) (bP _)) (vi (bu Su (Jd Cz az) (pv 3) (by with_unfolding_all rfl)))))
   (ak (aK mq))
   bt)
   (ag (cx (qB (b8 (UD rfl) (by rfl) T.F7 boot_any (aa (tK rfl i_.nd (uQ rfl T.jQ (aa az (aa (b8 bT (by rfl) T.f_ boot_len (aa (pv 3) ai)) ai))) (gH (own:=[("k",4)]) (by kernel_rfl)) (fun _ _ _ _ _=>(uY 4 i_.nd)) (fun _ _ _ _ _=>kz) (fun _ _ _ _ _=>(kx Yq (bQ (BO (K:=K) rfl) (pv 3) (pv 4) (fun _ _=>rfl)) (bQ (BO (K:=K) rfl) (pv 3) (cB iE (pv 4) az) (fun _ _=>rfl)) (bP _)))) ai)))
   (ak (aK mq))
   bt)
   (ag (dY (pv 0) (pv 3) rfl)
   (ak (aK mq)))))),?_⟩
  try dsimp only [cxK]
  rw [Kl] at k0
  obtain ⟨dx,pa,oa,cK,my,lP,ma,⟨ts,kF,Eo⟩,qM,rm⟩:=id hg
  refine ⟨_,rfl,a,rfl,⟨_,ha⟩,fun D hD=>?_⟩
  have hlen:=hw.len
  refine sr (K:=K) (a:=a) (xs:=ws.map vS) (ys:=(ws.map numOf).map V.int) hD ha (by rw [U,U,U]) (by rw [U,U,sizeLine_eq];omega) ?_ ?_
  ·intro i x1 y H1 R hi hy s1 fin
   rw [ax] at hi
   obtain ⟨x,hx,rfl⟩:=aZ.mp hi
   rw [a9,ax,hx] at hy
   have hy:V.int (numOf x)=y:=aj.inj hy
   subst hy
   have hm:=aT hx
   exact ⟨rfl,_,rfl,x,rfl,hw.le x hm,hw.wl x hm,fin _ fun _ _ z=>z⟩
  ·intro H1 s1 AU
   have ac5:=s1 _ _ cK
   refine ⟨_,rfl,D,_,rfl,.inl (bO.of AU),_,rfl,g,_,dx,_,_,rfl,ac5,T.aI,T.bM,fM,_,_,rfl,rfl,.inl ⟨by decide,by decide⟩,rfl,_,rfl,?_⟩
   rw [b_,U,U]
   by_cases h1:ws.length=2*st.rules.n
   ·rw [decide_eq_true (show ((ws.length:Nat):Int)=2*((rawOf st tie).n:Int) by show ((ws.length:Nat):Int)=2*(st.rules.n:Int);omega)]
    refine cC ⟨1,rfl,_,rfl,D,_,rfl,.inl (bO.of AU),rfl,Ti _,_,rfl,?_⟩
    show if Kc (V.int (-1)) ((ws.map numOf).map V.int)=true then _ else _
    rw [Ce]
    by_cases h2:(-1:Int)∈ws.map numOf
    ·rw [decide_eq_true h2]
     exact cz (k0 (by rw [if_neg (fun q=>q.2.2.1 h2)]) _ s1)
    ·rw [decide_eq_false h2]
     refine cC ⟨_,rfl,D,_,rfl,.inl (bO.of AU),1,_,rfl,⟨by decide,by decide,by rw [U,U];omega,by rw [U,U];omega⟩,fun D2 WR=>?_⟩
     rw [U,U]
     have hl6:ws.length<=6:=by rcases hf.n (by decide) with e | e<;>omega
     refine UK (lo:=1) (n:=((ws.length:Int) - 1).toNat) (fun i H2=>aM H1 H2/\H2 D2=some (.lst (((aY i).map fun j=>decide ((ws.map numOf).getD (j+1) 0<=(ws.map numOf).getD j 0)).map V.bl))) ⟨aM.new WR,ae⟩ ?_ ?_
     ·rintro i H2 hi ⟨s2,VN⟩
      have Vz:i+1<(ws.map numOf).length:=by rw [U];omega
      have e1:(1:Int)+(i:Int)=((i+1:Nat):Int):=by omega
      have e2:(1:Int)+(i:Int) - 1=((i:Nat):Int):=by omega
      refine ⟨rfl,?_⟩
      unfold PU
      dsimp only
      rw [if_pos rfl]
      refine ⟨_,rfl,_,rfl,D,_,_,_,rfl,rfl,bO.of (s2 _ _ AU),TY e1 (ac4 Vz),_,rfl,_,rfl,_,_,rfl,rfl,D,_,_,_,rfl,rfl,bO.of (s2 _ _ AU),TY e2 (ac4 (by omega)),_,_,rfl,rfl,_,VN,?_,?_,?_⟩
      ·rw [U,U,ck,sizeLine_eq];omega
      ·exact aM.cZ s2 WR
      ·rw [ae,rh,aX,aX];rfl
     ·rintro H2 ⟨s2,VN⟩
      refine ⟨D2,_,rfl,bO.of VN,_,rfl,?_⟩
      have e3:(((aY ((ws.length:Int) - 1).toNat).map fun j=>decide ((ws.map numOf).getD (j+1) 0<=(ws.map numOf).getD j 0)).any id)=z7 (ws.map numOf):=by
       rw [Jz,List.any_map,U,show ((ws.length:Int) - 1).toNat=ws.length - 1 by omega];rfl
      rw [e3]
      by_cases h3:z7 (ws.map numOf)=true
      ·rw [h3]
       exact cz (k0 (by rw [if_neg (fun q=>by rw [h3] at q;exact absurd q.2.2.2 (by decide))]) _ (s1.trans s2))
      ·have h3:z7 (ws.map numOf)=false:=by simpa using h3
       rw [h3]
       have k1:=k1 (vn st ((ws.map numOf).map bF)) (by rw [Kl,if_pos ⟨rfl,h1,h2,h3⟩])
       have yq:=s1.trans s2
       refine cC ⟨_,rfl,_,rfl,g,_,dx,_,rfl,s2 _ _ ac5,T.aI,T.cG,of_decide_eq_true (by kernel_rfl),?_⟩
       have e:ji "points" (.ref D) (gf st.rules.n pa tie oa st.game.turn st.game.left pd pl)=gf st.rules.n D tie oa st.game.turn st.game.left pd pl:=QJ
       show Q (.bl true) (upd H2 g (.ins t.aF dx (ji "points" (.ref D) (gf st.rules.n pa tie oa st.game.turn st.game.left pd pl))))
       rw [e]
       have GK:∀ z∈ws.map numOf,0<=z:=fun z hz=>by
        obtain ⟨x,hx,rfl⟩:=aO.mp hz
        cases hn:mP x with
        | none=>exact absurd (aO.mpr ⟨x,hx,o5 hn⟩) h2
        | some n=>rw [o4 hn];omega
       have ev:((ws.map numOf).map bF).map vN=(ws.map numOf).map V.int:=by
        rw [a9]
        refine cf fun z hz=>?_
        have:=GK z hz
        show V.int ((z.toNat:Nat):Int)=V.int z
        congr 1;omega
       refine k1 _ tie (hg.put (y:=rawOf (vn st ((ws.map numOf).map bF)) tie) cK yq ?_ (yq _ _ lP) rfl rfl (Ne.symm (aV kF hD)) rm) rfl ((bh.of yq).upd (by simp))
       rw [s2 _ _ AU]
       exact congrArg (fun z=>some (HO.lst z)) ev.symm
   ·rw [decide_eq_false (show ¬ ((ws.length:Nat):Int)=2*((rawOf st tie).n:Int) by show ¬ ((ws.length:Nat):Int)=2*(st.rules.n:Int);omega)]
    exact cz (cz (k0 (by rw [if_neg (fun q=>h1 q.2.1)]) _ s1))
theorem yA {n:Nat} (hn:n=2\/n=3) {b:Nat} (hb:b<2*n):((namesOf n).map vS)[b]?=some (vS (aL n b))/\Rt (vS (aL n b)) (vS (aL n b))=true/\∀ (m:Nat) (z:V),m<b->((namesOf n).map vS)[m]?=some z->Rt z (vS (aL n b))=false:=by
 unfold namesOf
 refine ⟨?_,?_,fun m z hm hz=>?_⟩
 ·rw [a9,ax,rA hb];rfl
 ·show decide (gT _=gT _)=true
  exact decide_eq_true rfl
 ·rw [a9,ax,rA (by omega)] at hz
  have hz:vS (aL n m)=z:=aj.inj hz
  subst hz
  show decide (gT _=gT _)=false
  refine decide_eq_false fun e=>?_
  have:=BH hn (by omega) hb (Fc e)
  omega
theorem VO {n:Nat} (hn:n=2\/n=3):Fd (namesOf n):=by
 have key:∀ n,n=2\/n=3->(∀ w∈namesOf n,∀ c∈w,c<=122)/\(namesOf n).length<=10000/\∀ w∈namesOf n,w.length<=10000:=by
  intro n hn
  rcases hn with rfl | rfl<;>decide +kernel
 obtain ⟨a,b,c⟩:=key n hn
 exact ⟨a,b,c⟩
theorem VP {a b:List (List Nat)}:(a.map gT).Perm (b.map gT)↔a.Perm b:=by
 constructor
 ·intro h
  have:=h.map TL.tl
  rw [a9,a9] at this
  have e:∀ l:List (List Nat),l.map (TL.tl∘gT)=l:=fun l=>by
   conv=>rhs;rw [<- og l]
   exact cf fun _ _=>rfl
  rw [e,e] at this
  exact this
 ·exact fun h=>h.map gT
theorem Ih (T:Txt K mg t):bY P w K mg base fw 2 t.fA t.lV ["game","words"] (yz K t.aF 3 gc):=by
 refine T.h_.ok p9 (fun vs H Q E h=>?_) (fun eW A outer s H vs Q E hr h=>?_)
 ·obtain ⟨g,pd,pl,a,s,tie,ws,rfl,_⟩:=h
  rfl
 ·obtain ⟨g,pd,pl,a,st,tie,ws,rfl,hg,ha,hw,hf,_,k0,k1⟩:=h
  have OD:=hr.units
  refine ⟨_,(ag (gR 2 p9.nd (aN (uu T) (hr.mono (by omega)) rfl T.rH T.fC.kp (vM T) .nil bp (aa (bb (pv 0) rfl) ai)))
   (ag (cx (bu (PR OD) (b8 Ej (by rfl) T.qj boot_sorted (aa (pv 1) ai)) (b8 Ej (by rfl) T.qj boot_sorted (aa (pv 2) ai)) (bP _))
   (ak (aK mq))
   bt)
   (ag (dY (pv 0) (tK rfl p9.nd (fv (pv 1)) (gH (own:=[("word",3)]) (by kernel_rfl)) (fun _ _ _ _ _=>(uY 3 p9.nd)) (fun _ _ _ _ _=>kz) (fun _ _ _ _ _=>(ZO (K:=K) rfl aB je oh (SU (K:=K) rfl) (pv 2) (aa (pv 3) ai)))) rfl)
   (ak (aK mq))))),?_⟩
  try dsimp only [cxK]
  rw [Kn] at k0
  have hn:=hf.n (by decide)
  obtain ⟨dx,pa,oa,cK,my,lP,ma,⟨ts,kF,Eo⟩,qM,rm⟩:=id hg
  refine ⟨_,rfl,g,_,dx,_,_,rfl,cK,T.aI,T.bM,fM,st.rules.n,rfl,hn,fun H1 nm s1 X4 Pn=>?_⟩
  have ew:=pN ws
  have en:=pN (namesOf st.rules.n)
  rw [en] at Pn
  have ha1:bO K H1 a ((ws.map gT).map V.str):=by rw [<- ew];exact s1.seq ha
  refine ⟨_,rfl,a,_,rfl,ha1,fun ys p hyp hys hp=>?_⟩
  have s2:=aM.new (o:=.lst (ys.map V.str)) hp
  refine ⟨_,rfl,nm,_,rfl,bO.of (s2 _ _ Pn),fun zs q hzp hzs hq=>?_⟩
  have s3:=aM.new (o:=.lst (zs.map V.str)) hq
  have De:=(s1.trans s2).trans s3
  have le1:∀ x∈ys,∀ c∈x.cps.toList,c<=122:=fun x hx c hc=>by
   obtain ⟨v,hv,rfl⟩:=aO.mp (hyp.mem_iff.mp hx)
   exact hw.le v hv c hc
  have le2:∀ x∈zs,∀ c∈x.cps.toList,c<=122:=fun x hx c hc=>by
   obtain ⟨v,hv,rfl⟩:=aO.mp (hzp.mem_iff.mp hx)
   exact (VO hn).le v hv c hc
  refine ⟨_,_,.lst (bO.of (s3 _ _ ae)) (Cc ys),.lst (bO.of ae) (Cc zs),tT le1,tT le2,_,rfl,?_⟩
  show if (!PyData.eqvAll (ys.map PyData.str) (zs.map PyData.str))=true then _ else _
  rw [GA]
  have ac6:ys=zs↔ws.Perm (namesOf st.rules.n):=(Qe hyp hys hzp hzs).trans VP
  by_cases h1:ws.Perm (namesOf st.rules.n)
  ·rw [decide_eq_true (ac6.mpr h1)]
   obtain ⟨o,ho,hio⟩:=(DV hn ws).mp h1
   have k1:=k1 (CQ st o) (by rw [Kn,ho];exact if_pos ⟨rfl,hio⟩)
   obtain ⟨Xt,hwo⟩:=j0 ho
   have hlen:o.length=2*st.rules.n:=by
    have:=(lQ _ _).mp hio
    rw [this.length_eq,ck]
   refine cC ⟨_,rfl,a,rfl,⟨_,De.seq ha⟩,fun D hD=>?_⟩
   refine sr (K:=K) (a:=a) (xs:=ws.map vS) (ys:=o.map vN) hD (De.seq ha) (by rw [U,U,hwo,U]) (by rw [U,sizeLine_eq];omega) ?_ ?_
   ·intro i x1 y H4 R hi hy s4 fin
    obtain ⟨b,hb,rfl⟩:=Dc hy
    rw [hwo,a9,ax,hb] at hi
    have hi:vS (aL st.rules.n b)=x1:=aj.inj hi
    subst hi
    obtain ⟨i1,i2,i3⟩:=yA hn (Xt b (aT hb))
    have aah:=s4 _ _ (s3 _ _ (s2 _ _ Pn))
    rw [<- en] at aah
    exact ⟨rfl,_,rfl,.inl ⟨rfl,_,bO.of aah⟩,_,rfl,nm,_,_,b,_,rfl,rfl,bO.of aah,rfl,m8 _,i1,i2,i3,fin _ fun _ _ z=>z⟩
   ·intro H4 s4 AU
    have WS:=De.trans s4
    refine ⟨_,rfl,g,_,dx,_,rfl,WS _ _ cK,T.aI,T.bN,of_decide_eq_true (by kernel_rfl),?_⟩
    have e:ji "order" (.ref D) (gf st.rules.n pa tie oa st.game.turn st.game.left pd pl)=gf st.rules.n pa tie D st.game.turn st.game.left pd pl:=vc
    show Q (.bl true) (upd H4 g (.ins t.aF dx (ji "order" (.ref D) (gf st.rules.n pa tie oa st.game.turn st.game.left pd pl))))
    rw [e]
    exact k1 _ tie (hg.put (y:=rawOf (CQ st o) tie) cK WS (WS _ _ my) AU rfl rfl qM (Ne.symm (aV (De _ _ kF) hD))) rfl ((bh.of WS).upd (by simp))
  ·rw [decide_eq_false (fun q=>h1 (ac6.mp q))]
   refine cz (k0 ?_ _ De)
   cases ho:oT (qd st.rules.n) ws with
   | none=>rfl
   | some o=>
    refine if_neg fun q=>h1 ((DV hn ws).mpr ⟨o,ho,q.2⟩)
theorem vV {n:Nat} (hn:n=2\/n=3) (x:List Nat):x∈namesOf n↔∃ b,b<2*n/\x=aL n b:=by
 unfold namesOf
 rw [aO]
 constructor
 ·rintro ⟨b,hb,rfl⟩;exact ⟨b,cH.mp hb,rfl⟩
 ·rintro ⟨b,hb,rfl⟩;exact ⟨b,cH.mpr hb,rfl⟩
theorem Tj {ws:List (List Nat)} (h:ws.length=2):∃ x y,ws=[x,y]:=by
 match ws,h with
 | [x,y],_=>exact ⟨x,y,rfl⟩
theorem OO (T:Txt K mg t):bY P w K mg base fw 2 t.iO t.pA ["game","words"] (yz K t.aF 6 iU):=by
 refine T.k9.ok yh (fun vs H Q E h=>?_) (fun eW A outer s H vs Q E hr h=>?_)
 ·obtain ⟨g,pd,pl,a,s,tie,ws,rfl,_⟩:=h
  rfl
 ·obtain ⟨g,pd,pl,a,st,tie,ws,rfl,hg,ha,hw,hf,EX,k0,k1⟩:=h
  have hu:=xA hr
  refine ⟨_,(ag (gR 2 yh.nd (aN (uu T) (hr.mono (by omega)) rfl T.rH T.fC.kp (vM T) .nil bp (aa (bb (pv 0) rfl) ai)))
   (ag (cx (PW.pt (zY (bu uR (b8 bT (by rfl) T.f_ boot_len (aa (pv 1) ai)) az (bP _)) (zY (bu eR (bQ bI (pv 1) az (fun _ _=>rfl)) (pv 2) (by with_unfolding_all rfl)) (vi (bu eR (bQ bI (pv 1) az (fun _ _=>rfl)) (pv 2) (by with_unfolding_all rfl))))))
   (ak (aK mq))
   bt)
   (ag (gR 3 yh.nd (r6 (aa (gG aB je oh Fz (pv 2) (aa (bQ bI (pv 1) az (fun _ _=>rfl)) ai)) (aa (gG aB je oh Fz (pv 2) (aa (bQ bI (pv 1) az (fun _ _=>rfl)) ai)) ai))))
   (ag (cx (PW.pt (zY (bu gh (bQ fS (pv 3) az (fun _ _=>rfl)) (bQ fS (pv 3) az (fun _ _=>rfl)) (bP _)) (vi (vh (PV hu (pv 3) (bb (pv 0) rfl)) (by with_unfolding_all rfl)))))
   (ak (aK mq))
   bt)
   (ag (EY hu (bb (pv 0) rfl) (pv 3) mq rfl)
   (ak (aK mq))))))),?_⟩
  try dsimp only [cxK]
  rw [Kr st 6 (au _)] at k0
  have hn:=hf.n (by decide)
  obtain ⟨dx,pa,oa,cK,my,lP,ma,⟨ts,kF,Eo⟩,qM,rm⟩:=id hg
  refine ⟨_,rfl,g,_,dx,_,_,rfl,cK,T.aI,T.bM,fM,st.rules.n,rfl,hn,fun H1 nm s1 X4 Pn=>?_⟩
  have ha1:=s1.seq ha
  refine ⟨_,rfl,a,_,rfl,.inl ha1,rfl,_,rfl,?_⟩
  rw [b_,U]
  by_cases h1:ws.length=2
  ·rw [decide_eq_true (by omega)]
   obtain ⟨x,y,rfl⟩:=Tj h1
   have no:(∀ b,b<2*st.rules.n->x≠aL st.rules.n b)\/(∀ b,b<2*st.rules.n->y≠aL st.rules.n b)->(match oT (qd st.rules.n) [x,y] with
     | some [a,b]=>if iU=iU/\a≠b/\st.rules.can.contains (a,b)=false then some (Kq st (a,b)) else none
     | _=>none)=none:=fun h=>by
    cases ho:oT (qd st.rules.n) [x,y] with
    | none=>rfl
    | some o=>
     obtain ⟨q1,q2⟩:=j0 ho
     match o,q1,q2 with
     | [c,d],q1,q2=>
      have e1:x=aL st.rules.n c:=(pU.inj q2).1
      have e2:y=aL st.rules.n d:=(pU.inj (pU.inj q2).2).1
      rcases h with h | h
      ·exact absurd e1 (h c (q1 c (.head _)))
      ·exact absurd e2 (h d (q1 d (.tail _ (.head _))))
   refine cC ⟨_,rfl,a,_,0,vS x,rfl,rfl,ha1,bj (j:=0) rfl,_,rfl,nm,_,rfl,.inl (bO.of Pn),rfl,m8 _,_,rfl,?_⟩
   rw [zE]
   by_cases h2:x∈namesOf st.rules.n
   ·rw [decide_eq_true h2]
    refine cC ⟨_,rfl,a,_,1,vS y,rfl,rfl,ha1,bj (j:=1) rfl,_,rfl,nm,_,rfl,.inl (bO.of Pn),rfl,m8 _,_,rfl,?_⟩
    rw [zE]
    by_cases h3:y∈namesOf st.rules.n
    ·rw [decide_eq_true h3]
     obtain ⟨c,hc,rfl⟩:=(vV hn x).mp h2
     obtain ⟨d,hd,rfl⟩:=(vV hn y).mp h3
     obtain ⟨i1,i2,i3⟩:=yA hn hc
     obtain ⟨j1,j2,j3⟩:=yA hn hd
     refine cC ⟨_,rfl,.inl ⟨rfl,_,bO.of Pn⟩,_,rfl,a,_,0,_,rfl,rfl,ha1,bj (j:=0) rfl,nm,_,_,c,_,rfl,rfl,bO.of Pn,rfl,m8 _,i1,i2,i3,
      _,rfl,.inl ⟨rfl,_,bO.of Pn⟩,_,rfl,a,_,1,_,rfl,rfl,ha1,bj (j:=1) rfl,nm,_,_,d,_,rfl,rfl,bO.of Pn,rfl,m8 _,j1,j2,j3,szB,fun tp E_=>?_⟩
     have s2:=s1.trans (aM.new (o:=.tup [vN c,vN d]) E_)
     have ho:oT (qd st.rules.n) [aL st.rules.n c,aL st.rules.n d]=some [c,d]:=tZ hn (o:=[c,d]) fun b hb=>by
      rcases aw.mp hb with e | hb
      ·rw [e];exact hc
      ·rw [ay.mp hb];exact hd
     rw [ho] at k0
     refine ⟨_,rfl,tp,_,0,vN c,rfl,rfl,oX.of ae,bj (j:=0) rfl,_,rfl,tp,_,1,vN d,rfl,rfl,oX.of ae,bj (j:=1) rfl,rfl,_,rfl,?_⟩
     rw [b_]
     by_cases h4:c=d
     ·rw [decide_eq_true (by omega)]
      exact cz (cz (k0 (if_neg fun q=>q.2.1 h4) _ s2))
     ·rw [decide_eq_false (by omega)]
      refine cC ⟨_,rfl,_,rfl,g,_,dx,_,_,rfl,s2 _ _ cK,T.aI,T.cu,lx,pd,_,rfl,FE.t (k:=fi (c,d)) (s2 _ _ ma) ae,_,rfl,?_⟩
      have alJ:(rawOf st tie).can=st.rules.can:=rfl
      rw [zC]
      by_cases h5:st.rules.can.contains (c,d)=true
      ·rw [show (rawOf st tie).can.contains (c,d)=true from h5]
       exact cz (k0 (if_neg fun q=>by rw [h5] at q;exact absurd q.2.2 (by decide)) _ s2)
      ·have h5:st.rules.can.contains (c,d)=false:=by simpa using h5
       rw [show (rawOf st tie).can.contains (c,d)=false from h5]
       have k1:=k1 (Kq st (c,d)) (by rw [Kr st 6 (au _),ho];exact if_pos ⟨rfl,h4,h5⟩)
       refine cC ⟨_,rfl,g,_,dx,_,_,rfl,s2 _ _ cK,T.aI,T.cu,lx,_,rfl,pd,_,rfl,Ng.t (k:=fi (c,d)) (s2 _ _ ma) ae (by unfold gb;rw [U,sizeLine_eq];show st.rules.can.length<_;omega),?_⟩
       rw [Ln (show (rawOf st tie).can.contains (c,d)=false from h5)]
       have nd:∀ {b:Addr} {o o':HO},H b=some o->(∀ kvs,o≠.dT kvs)->(upd (upd H1 tp (.tup [vN c,vN d])) pd o') b=some o:=fun hb tG=>by rw [aD (dX hb ma (tG _))];exact s2 _ _ hb
       refine k1 _ tie ⟨dx,pa,oa,nd cK (fun _ z=>nomatch z),nd my (fun _ z=>nomatch z),nd lP (fun _ z=>nomatch z),ae,⟨ts,nd kF (fun _ z=>nomatch z),Eo.mono fun b q ⟨o2,z1,z2,z3⟩=>⟨o2,z1,nd z2 (fun _ z=>nomatch z),nd z3 (fun _ z=>nomatch z)⟩⟩,qM,rm⟩ rfl ((bh.of s2).upd (by simp))
    ·rw [decide_eq_false h3]
     exact cz (k0 (no (.inr fun b hb e=>h3 ((vV hn y).mpr ⟨b,hb,e⟩))) _ s1)
   ·rw [decide_eq_false h2]
    exact cz (cz (k0 (no (.inl fun b hb e=>h2 ((vV hn x).mpr ⟨b,hb,e⟩))) _ s1))
  ·rw [decide_eq_false (by omega)]
   refine cz (cz (k0 ?_ _ s1))
   cases ho:oT (qd st.rules.n) ws with
   | none=>rfl
   | some o=>
    obtain ⟨_,q2⟩:=j0 ho
    match o,q2 with
    | [],_=>rfl
    | [_],_=>rfl
    | [c,d],q2=>rw [q2] at h1;exact absurd rfl h1
    | _::_::_::_,_=>rfl
end
theorem GL:∀ (n:Nat) (l:List Nat),l.Nodup->(∀ x∈l,x<n)->l.length<=n
 | 0,l,_,h=>by
  cases l with
  | nil=>exact a0 _
  | cons x l=>exact absurd (h x (.head _)) (by omega)
 | n+1,l,hn,h=>by
  have h1:=GL n (l.erase n) (hn.erase n) fun x hx=>by
   have h2:=(hn.mem_erase_iff).mp hx
   have:=h x h2.2
   omega
  by_cases hm:n∈l
  ·rw [List.length_erase_of_mem hm] at h1;omega
  ·rw [List.erase_of_not_mem hm] at h1;omega
theorem VQ {l:List (Nat×Nat)} (hn:l.Nodup) (h:∀ p∈l,p.1<6/\p.2<6):l.length<=36:=by
 have:=GL 36 (l.map fun p=>p.1*6+p.2) ?_ ?_
 ·rw [U] at this;exact this
 ·induction l with
  | nil=>exact jf
  | cons p l ih=>
   rw [cE] at hn
   rw [aC,cE]
   refine ⟨fun hm=>?_,ih hn.2 fun q hq=>h q (.tail _ hq)⟩
   obtain ⟨q,hq,e⟩:=aO.mp hm
   have h1:=h q (.tail _ hq)
   have h2:=h p (.head _)
   have e:q.1*6+q.2=p.1*6+p.2:=e
   have:q=p:=Prod.ext (by omega) (by omega)
   exact hn.1 (this▸hq)
 ·intro x hx
  obtain ⟨q,hq,e⟩:=aO.mp hx
  have h1:=h q hq
  have e:q.1*6+q.2=x:=e
  omega
theorem kG.OP {s:aS} {i:Nat} (h:kG s i):s.rules.can.length<=36:=by
 refine VQ h.nd fun p hp=>?_
 have h1:=h.can p hp
 by_cases hi:i=0
 ·have:=h.n0 hi;omega
 ·rcases h.n (by omega) with e | e<;>omega
theorem Tn {K:ab} {a:Addr} {xs:List V} {g:TG} {tb:TS} {D:Ends} {σ:L2.St} {H:Hp} (Pv:Nat->L2.St->Hp->Prop) (h0:Pv 0 σ H) (hl:∀ i σ H,i<=xs.length->Pv i σ H->bO K H a xs)
  (hs:∀ i x σ H T,xs[i]?=some x->H T=none->let E:Ends:={ D with nx:=Pv (i+1),ct:=Pv (i+1),bk:=D.nx };Pv i σ H->g (.ref T) σ (upd H T (.tup [.int (((i:Nat):Int)+1),x])) fun kH H2=>tb E kH H2) (hd:∀ σ H,Pv xs.length σ H->D.nx σ H):
  ∃ W:Nat->Nat->L2.St->Hp->Prop,(∃ m,W 0 m σ H)/\∀ i m σ H,W i m σ H->
   ((Vn K a).stop i H/\D.nx σ H)\/((Vn K a).go i H/\∃ N:L2.St->Hp->Prop,(∀ f7 H',N f7 H'->∃ m',m'<m/\W (i+1) m' f7 H')/\∀ x H',(Vn K a).Pz i H x H'->g x σ H' fun kH H2=>tb { D with nx:=N,ct:=N,bk:=D.nx } kH H2):=by
 refine ⟨fun i m σ H=>m=xs.length - i/\i<=xs.length/\Pv i σ H,⟨xs.length,by simp,a0 _,h0⟩,?_⟩
 rintro i m σ H ⟨rfl,hi,p⟩
 have q:=hl i σ H hi p
 by_cases iX:i<xs.length
 ·refine .inr ⟨⟨xs,xs[i],q,by simp [iX]⟩,Pv (i+1),fun f7 H' p'=>⟨xs.length - (i+1),by omega,rfl,iX,p'⟩,fun v H' y=>?_⟩
  obtain ⟨T,x,ev,hT,eH,y⟩:=y
  subst ev eH
  exact hs i x σ _ T (y xs q) hT p
 ·have e:i=xs.length:=by omega
  subst e
  exact .inl ⟨⟨xs,q,au _⟩,hd σ H p⟩
def Er (i:Nat):List Nat:=[jT,fI,ni,gc,lK,lL,iU].getD i []
theorem To {s:aS} {i:Nat} {k:List Nat} {r:List (List Nat)} (hi:i<=6) (hk:k≠Er i):iD s i (k::r)=none:=by
 have:i=0\/i=1\/i=2\/i=3\/i=4\/i=5\/i=6:=by omega
 rcases this with rfl | rfl | rfl | rfl | rfl | rfl | rfl
 ·rw [FR,if_neg (fun q=>hk q.1),if_neg (fun q=>hk q.1)]
 ·rw [Kl,if_neg (fun q=>hk q.1)]
 ·rw [Km,if_neg (fun q=>hk q.1)]
 ·rw [Kn]
  split
  ·rw [if_neg (fun q=>hk q.1)]
  ·rfl
 ·rw [Ko,if_neg (fun q=>hk q.1)]
 ·rw [Kp,if_neg (fun q=>hk q.1)]
 ·rw [Kr s 6 (au _)]
  split
  ·rw [if_neg (fun q=>hk q.1)]
  ·rfl
theorem VR {s s':aS} {i:Nat} {ws:List (List Nat)} (h:iD s i ws=some s') (hi:i≠2):s'.rules.tie=s.rules.tie:=by
 cases ws with
 | nil=>cases h
 | cons k r=>
  revert h
  unfold iD
  dsimp only
  rw [if_neg hi]
  repeat' split
  all_goals intro h;cases h;try rfl
theorem Es (c:Nat):∀ l:List Nat,(c8 c l).length<=l.length+1/\∀ w∈c8 c l,w.length<=l.length
 | []=>⟨au _,fun w hw=>by rw [ay.mp hw];exact au _⟩
 | b::l=>by
  obtain ⟨h1,h2⟩:=Es c l
  unfold c8
  split
  ·refine ⟨by rw [aq,aq];omega,fun w hw=>?_⟩
   rcases aw.mp hw with e | e
   ·rw [e];exact a0 _
   ·have:=h2 w e;rw [aq];omega
  ·split
   ·refine ⟨by simp,fun w hw=>by rw [ay.mp hw];simp⟩
   ·rename_i v q e
    rw [e] at h1 h2
    refine ⟨by rw [aq] at h1 ⊢;rw [aq];omega,fun w hw=>?_⟩
    rcases aw.mp hw with e | e
    ·rw [e,aq,aq];have:=h2 v (.head _);omega
    ·have:=h2 w (.tail _ e);rw [aq];omega
section
variable {P:Program} {w:World} {K:ab} {mg:Str->Option Value} {base:Heap} {t:uZ}
theorem aai (P:Program) (w:World) (base:Heap) (T:Txt K mg t) {i:Nat} (hi:i<=6):∃ f fd,[V.ref t.fz,V.ref t.eO,V.ref t.iN,V.ref t.fA,V.ref t.gk,V.ref t.gn,V.ref t.iO][i]?=some (.ref f)/\bY P w K mg base fw 2 f fd ["game","words"] (yz K t.aF i (Er i))/\c6 K (.ref f)=true/\Binds K fd ["game","words"] []:=by
 have:i=0\/i=1\/i=2\/i=3\/i=4\/i=5\/i=6:=by omega
 rcases this with rfl | rfl | rfl | rfl | rfl | rfl | rfl
 ·exact ⟨_,_,rfl,(Ig T).mono (by omega),T.h9.kp,KY T⟩
 ·exact ⟨_,_,rfl,(GJ T).mono (by omega),T.gv.kp,HQ T⟩
 ·exact ⟨_,_,rfl,(ON T).mono (by omega),T.k8.kp,Qx T⟩
 ·exact ⟨_,_,rfl,(Ih T).mono (by omega),T.h_.kp,KZ T⟩
 ·exact ⟨_,_,rfl,(LB T).mono (by omega),T.jr.kp,N6 T⟩
 ·exact ⟨_,_,rfl,(LC T).mono (by omega),T.js.kp,N7 T⟩
 ·exact ⟨_,_,rfl,(OO T).mono (by omega),T.k9.kp,Qy T⟩
def LD (K:ab) (C:Addr):Sp:=fun vs H Q _=>∃ (g pd pl a:Addr) (s:aS) (tie:Str) (tk i:Nat) (l:List Nat),vs=[.ref g,vN tk,.ref a]/\i=min tk 6/\mC C H g pd pl (rawOf s tie)/\bO K H a (l.map vN)/\l.length<=2000/\kG s i/\
 (iD s i (c8 32 l)=none->∀ H',aM H H'->Q (.bl false) H')/\
 (∀ s',iD s i (c8 32 l)=some s'->∀ H' zW,mC C H' g pd pl (rawOf s' zW)->(zW=if i=2 then dm s'.rules.tie else tie)->bh [g,pd] H H'->Q (.bl true) H')
theorem LF (T:Txt K mg t):bY P w K mg base fw 3 t.kR t.nG ["game","taken","line"] (LD K t.aF):=by
 refine T.jt.ok rK (fun vs H Q E h=>?_) (fun eW A outer s H vs Q E hr h=>?_)
 ·obtain ⟨g,pd,pl,a,s,tie,tk,i,l,rfl,_⟩:=h
  rfl
 ·obtain ⟨g,pd,pl,a,st,tie,tk,i,l,rfl,hi,hg,ha,hl,hf,k0,k1⟩:=h
  obtain ⟨f,fd,hfi,F,hk,hb⟩:=aai P w base T (i:=i) (by omega)
  refine ⟨_,(ag (gR 3 rK.nd (b8 (Sk rfl) (by rfl) T.JD boot_min (aa (pv 1) (aa (eX rfl T.yd) ai))))
   (ag (gR 4 rK.nd (aN (OK T) (hr.mono (by omega)) rfl T.F4 T.k6.kp (Qv T) .nil bp (aa (pv 2) ai)))
   (ag (cx (bu uR (bQ bI (pv 4) az (fun _ _=>rfl)) (bQ fS (eX rfl T.z_) (pv 3) (fun _ _=>rfl)) (bP _))
   (ak (aK mq))
   bt)
   (ag (gR 5 rK.nd (bQ fS (eX rfl T.NU) (pv 3) (fun _ _=>rfl)))
   (ak (aK (Gn F (hr.mono (by omega)) (pv 5) hk hb .nil bp (aa (pv 0) (aa (r8 vk (pv 4) (rD az) Bu) ai))))))))),?_⟩
  try dsimp only [cxK]
  have ei:(if (6:Int)<(tk:Int) then (6:Int) else (tk:Int))=(i:Int):=by
   split<;>omega
  refine ⟨_,rfl,_,_,rfl,?_⟩
  rw [ei]
  refine ⟨_,rfl,a,l,rfl,ha,by omega,fun H1 p s1 hp kF=>?_⟩
  obtain ⟨YE,Vs⟩:=Es 32 l
  cases hw:c8 32 l with
  | nil=>exact absurd hw (U5 32 l)
  | cons k r=>
   rw [hw] at YE Vs kF
   have etk:iD st i ((k::r).map (·.map sg))=iD st i (c8 32 l):=by rw [hw];exact U4 st hf.le9 i (k::r)
   rw [<- etk] at k0 k1
   have hfw:oX K H1 t.gq ([jT,fI,ni,gc,lK,lL,iU].map vS):=T.Aa.sq H1
   have hki:([jT,fI,ni,gc,lK,lL,iU].map vS)[i]?=some (vS (Er i)):=by
    have:i=0\/i=1\/i=2\/i=3\/i=4\/i=5\/i=6:=by omega
    rcases this with rfl | rfl | rfl | rfl | rfl | rfl | rfl<;>rfl
   refine ⟨_,rfl,p,_,0,vS (k.map sg),rfl,rfl,bO.of kF,bj (j:=0) rfl,_,rfl,t.gq,_,_,vS (Er i),rfl,rfl,hfw,bj hki,rfl,_,rfl,?_⟩
   have e:(!decide (vS (k.map sg)=vS (Er i)))=!decide (k.map sg=Er i):=by
    congr 1
    exact decide_eq_decide.mpr ⟨fun h=>Fc (V.str.inj h),fun h=>by rw [h]⟩
   show if (!decide (vS (k.map sg)=vS (Er i)))=true then _ else _
   rw [e]
   by_cases h1:k.map sg=Er i
   ·rw [decide_eq_true h1]
    refine cC ⟨_,rfl,t.sA,_,_,_,rfl,rfl,T.NV.sq H1,bj hfi,_,rfl,rfl,_,rfl,_,rfl,1,rfl,p,_,rfl,bO.of kF,fun q hq=>?_⟩
    have s2:=s1.trans (aM.new (o:=.lst (qe (((k::r).map (·.map sg)).map vS) (some 1) none)) hq)
    refine ⟨g,pd,pl,q,st,tie,r.map (·.map sg),rfl,hg.on s2,bO.of ?_,⟨?_,?_,?_⟩,hf,by have:=hf.OP;omega,?_,?_⟩
    ·rw [ae]
     show some (HO.lst (qe (((k::r).map (·.map sg)).map vS) (some ((1:Nat):Int)) none))=_
     rw [FZ];rfl
    ·intro v hv c hc
     obtain ⟨x,hx,rfl⟩:=aO.mp hv
     obtain ⟨y,hy,rfl⟩:=aO.mp hc
     exact acq y
    ·rw [U];rw [aq] at YE;omega
    ·intro v hv
     obtain ⟨x,hx,rfl⟩:=aO.mp hv
     rw [U];have:=Vs x (.tail _ hx);omega
    ·intro h H' s3
     rw [<- h1] at h
     exact k0 h H' (s2.trans s3)
    ·intro s' h H' zW z1 z2 z3
     rw [<- h1] at h
     exact k1 s' h H' zW z1 z2 ((bh.of s2).trans z3)
   ·rw [decide_eq_false h1]
    exact cz (k0 (To (by omega) h1) _ s1)
end
theorem Aq.ac7 {H H':Hp} {B:Addr} {tw:List (List Nat)} {ex:List Addr} (h:Aq H B tw) (s:bh ex H H') (n:∀ a xs,H a=some (.lst xs)->a∉ex):Aq H' B tw:=by
 obtain ⟨as,h1,h2⟩:=h
 exact ⟨as,s _ _ h1 (n _ _ h1),h2.mono fun a c q=>s _ _ q (n _ _ q)⟩
theorem mC.LG {C:Addr} {H:Hp} {g pd pl:Addr} {x:Raw} (h:mC C H g pd pl x):∀ a xs,H a=some (.lst xs)->a∉[g,pd]:=by
 obtain ⟨dx,pa,oa,h1,h2,h3,h4,⟨ts,h5,h6⟩,h7,h8⟩:=h
 intro a xs ha m
 rcases aw.mp m with e | m
 ·subst e;rw [h1] at ha;cases ha
 ·have e:=ay.mp m;subst e;rw [h4] at ha;cases ha
structure FS (C g pd pl D:Addr) (H0 H:Hp) (tx:List Nat) (i tk:Nat) (s:aS) (tie:Str):Prop where
 rd:mh tx=Vbrezy.readFrom s (min tk 6) (i+1) ((lJ tx).drop i)
 dO:kG s (min tk 6)
 gat:mC C H g pd pl (rawOf s tie)
 tie:3<=tk->tie=dm s.rules.tie
 ll:Aq H D (lJ tx)
 same:bh [g,pd] H0 H
section
variable {P:Program} {w:World} {K:ab} {mg:Str->Option Value} {base:Heap} {t:uZ}
def X5 (K:ab) (C:Addr):Sp:=fun vs H Q _=>∃ (g pd pl a:Addr) (tx:List Nat),vs=[.ref g,.ref a]/\mC C H g pd pl VG/\bO K H a (tx.map vN)/\tx.length<=2000/\
 (∀ i:Nat,mh tx=.error i->1<=i->∀ H',bh [g,pd] H H'->Q (vN i) H')/\
 (∀ s,mh tx=.ok s->kG s 6->∀ H',mC C H' g pd pl (rawOf s (dm s.rules.tie))->bh [g,pd] H H'->Q (.int 0) H')
theorem X6 (T:Txt K mg t):bY P w K mg base fw 4 t.AH t.C0 ["game","text"] (X5 K t.aF):=by
 refine T.x_.ok zy (fun vs H Q E h=>?_) (fun eW A outer s H vs Q E hr h=>?_)
 ·obtain ⟨g,pd,pl,a,tx,rfl,_⟩:=h
  rfl
 ·obtain ⟨g,pd,pl,a,tx,rfl,hg,ha,hl,k0,k1⟩:=h
  refine ⟨_,(ag (gR 2 zy.nd (aN (OM T) (hr.mono (by omega)) rfl T.F5 T.k7.kp (Qw T) .nil bp (aa (pv 1) ai)))
   (ag (gR 3 zy.nd az)
   (ag (gE PassesOwn.never rfl (Vo rfl T.nZ (aa (pv 2) ai)) (Kv (K:=K) 2 rfl (uP (uY 4 zy.nd) (uP (uY 5 zy.nd) J7)))
   (ag (cx (qB (aN (Dl T) (hr.mono (by omega)) rfl T.xa T.e9.kp (EJ T) .nil bp (aa (pv 5) ai)))
   (ak MR)
   bt)
   (ag (cx (vj (qB (aN (LF T) (hr.mono (by omega)) rfl T.D8 T.jt.kp (N8 T) .nil bp (aa (pv 0) (aa (pv 3) (aa (pv 5) ai))))))
   (ak (aK (pv 4)))
   bt)
   (ak (Ai (i:=3) zy.nd rfl (by first | exact Or.inl rfl | exact Or.inr rfl) az Cv)))))
   (ag (cx (bu Je (pv 3) (eX rfl T.yd) (bP _))
   (ak (aK (cB oq (b8 bT (by rfl) T.f_ boot_len (aa (pv 2) ai)) az)))
   bt)
   (ak (aK az)))))),?_⟩
  try dsimp only [cxK]
  refine ⟨_,rfl,a,tx,rfl,ha,by omega,fun H1 D s1 hD AU=>?_⟩
  obtain ⟨as,aaj,hP⟩:=id AU
  have hlen:=SM tx
  have zX:∀ {H2:Hp} {i tk:Nat} {s:aS} {tie:Str},FS t.aF g pd pl D H1 H2 tx i tk s tie->H2 D=some (.lst (as.map V.ref))/\Paired (fun a c=>H2 a=some (.lst (c.map vN))) as (lJ tx):=fun S=>
   ⟨S.same _ _ aaj ((hg.on s1).LG _ _ aaj),hP.mono fun b c q=>S.same _ _ q ((hg.on s1).LG _ _ q)⟩
  refine ⟨_,rfl,D,as.map V.ref,rfl,bO.of aaj,Tn (K:=K) (a:=D) (xs:=as.map V.ref) (fun i σ H2=>∃ (tk:Nat) (s:aS) (tie:Str) (v4 v5:Option V),σ=[some (.ref g),some (.ref a),some (.ref D),some (vN tk),v4,v5]/\FS t.aF g pd pl D H1 H2 tx i tk s tie)
   ⟨0,Vbrezy.empty,"",none,none,rfl,rfl,acr,hg.on s1,fun h=>absurd h (by omega),AU,.of (aM.refl _)⟩ (fun i σ H2 _ ⟨_,_,_,_,_,_,S⟩=>bO.of (zX S).1) ?_ ?_⟩
  ·rintro i x σ H2 T1 hi hT EE ⟨tk,s,tie,v4,v5,rfl,S⟩
   rw [ax] at hi
   obtain ⟨la,hla,rfl⟩:=aZ.mp hi
   obtain ⟨WR,XN⟩:=zX S
   obtain ⟨l,Fy,ac8⟩:=fk XN hla
   have hlm:=aT Fy
   have Z5:=U6 hlm
   have ac9:(lJ tx).drop i=l::(lJ tx).drop (i+1):=by
    obtain ⟨iX,e⟩:=aH.mp Fy
    rw [cw iX,e]
   have s2:=aM.new (o:=.tup [.int (((i:Nat):Int)+1),V.ref la]) hT
   refine ⟨T1,_,rfl,oX.of ae,rfl,_,_,rfl,_,_,rfl,rfl,?_⟩
   refine ⟨_,rfl,la,l,rfl,bO.of (s2 _ _ ac8),fun H3 s3=>⟨_,rfl,?_⟩⟩
   have X7:=s2.trans s3
   have rd:=S.rd
   rw [ac9] at rd
   unfold Vbrezy.readFrom at rd
   by_cases h1:l.isEmpty=true\/l.head?=some 35
   ·rw [decide_eq_true h1]
    rw [if_pos h1] at rd
    refine cz ⟨tk,s,tie,_,_,rfl,rd,S.dO,S.gat.on X7,S.tie,S.ll.same X7,S.same.then X7⟩
   ·rw [decide_eq_false h1]
    rw [if_neg h1] at rd
    refine cC ⟨_,rfl,_,rfl,_,rfl,g,pd,pl,la,s,tie,tk,min tk 6,l,rfl,rfl,S.gat.on X7,bO.of (X7 _ _ ac8),by omega,S.dO,?_,?_⟩
    ·intro h2 H4 s4
     rw [h2] at rd
     refine ⟨_,rfl,cz ⟨_,rfl,?_⟩⟩
     exact k0 (i+1) rd (by omega) H4 ((bh.of s1).trans (S.same.then (X7.trans s4)))
    ·intro s' h2 H4 zW z1 z2 z3
     rw [h2] at rd
     refine ⟨_,rfl,cC ⟨_,rfl,_,_,rfl,rfl,tk+1,s',zW,_,_,rfl,?_,?_,z1,?_,?_,?_⟩⟩
     ·have e:min (tk+1) 6=if min tk 6<6 then min tk 6+1 else min tk 6:=by split<;>omega
      rw [e];exact rd
     ·have e:min (tk+1) 6=if min tk 6<6 then min tk 6+1 else min tk 6:=by split<;>omega
      rw [e];exact Qb S.dO h2
     ·intro h3
      rw [z2]
      by_cases h4:min tk 6=2
      ·rw [if_pos h4]
      ·rw [if_neg h4,VR h2 h4]
       exact S.tie (by omega)
     ·exact (S.ll.same X7).ac7 z3 (S.gat.on X7).LG
     ·exact (S.same.then X7).trans z3
  ·rintro σ H2 ⟨tk,s,tie,v4,v5,rfl,S⟩
   obtain ⟨WR,XN⟩:=zX S
   have YL:=hP.length
   rw [U,YL] at S
   have rd:=S.rd
   rw [me] at rd
   unfold Vbrezy.readFrom at rd
   refine ⟨_,rfl,_,_,rfl,rfl,_,rfl,?_⟩
   by_cases h6:tk<6
   ·rw [decide_eq_true (by omega)]
    rw [if_neg (by omega)] at rd
    refine cz ⟨_,rfl,D,_,rfl,.inl (bO.of WR),_,_,rfl,rfl,?_⟩
    have:=k0 _ rd (by omega) H2 ((bh.of s1).trans S.same)
    rw [U,YL]
    exact this
   ·rw [decide_eq_false (by omega)]
    rw [if_pos (by omega)] at rd
    refine cC ?_
    have e:min tk 6=6:=by omega
    have hf:=S.dO
    rw [e] at hf
    have tD:=S.gat
    rw [S.tie (by omega)] at tD
    exact k1 s rd hf H2 tD ((bh.of s1).trans S.same)
end
def ko (s:aS):List (List Nat):=
 [jT++32::bH 4 s.rules.n,fI++s.rules.points.flatMap (fun p=>32::bH 4 p),ni++32::fg.getD s.rules.tie [],gc++s.game.order.flatMap (fun b=>32::aL s.rules.n b),
  lK++32::cX.getD s.game.turn [],lL++32::bH 4 s.game.left]++s.rules.can.map fun p=>iU++32::(aL s.rules.n p.1++32::aL s.rules.n p.2)
theorem QS (s:aS):dP s=(ko s).flatMap (fun l=>l++[10]):=by
 unfold dP ko
 simp only [Vbrezy.wordsLine,eV,cT,List.flatMap_nil,pW,cb,bX,jg,jZ]
theorem GN:∀ (k n:Nat),n<10 ^ (k+1)->bH (k+1) n=TL.Nq n
 | 0,n,h=>by
  have h:n<10:=by simpa using h
  unfold bH
  rw [if_pos h,TL.Ki h]
 | k+1,n,h=>by
  unfold bH
  by_cases h1:n<10
  ·rw [if_pos h1,TL.Ki h1]
  ·rw [if_neg h1,GN k (n / 10) (by rw [oN,Nat.mul_comm] at h;exact Nat.div_lt_of_lt_mul h),TL.SH (n:=n) (by omega)]
theorem R5 {n:Nat} (h:n<10000):bH 4 n=TL.Nq n:=GN 3 n (by simpa using h)
theorem aak {n:Nat} (h:n<10000):(Str.ofString (toString ((n:Nat):Int)):Str)=gT (bH 4 n):=QN (by rw [TL.P0,R5 h])
theorem n8 {n:Nat} (h:n<10000):(bH 4 n).length<=4:=by
 rw [R5 h];exact TL.UU (by decide) (by simpa using h)
theorem qr (n b:Nat):(aL n b).length=2:=by
 unfold aL;split<;>rfl
theorem Dm:∀ (ws:List (List Nat)),ws≠[]->32::TL.ot [32] ws=ws.flatMap (fun v=>32::v)
 | [],h=>absurd rfl h
 | [w],_=>by
  simp [TL.ot]
 | w::v::r,_=>by
  have:=Dm (v::r) (by simp)
  rw [cT,<-this]
  show 32::(w++([32]++TL.ot [32] (v::r)))=_
  simp
theorem YM (ws:List (List Nat)):Txt.join (Str.ofString " ") (ws.map gT)=gT (TL.ot [32] ws):=by
 refine TL.FG ?_
 rw [TL.join_eq,TL.E2]
 have e:TL.tl (Str.ofString " ")=[32]:=by decide +kernel
 rw [e,a9]
 have e2:ws.map (TL.tl∘gT)=ws:=by
  conv=>rhs;rw [<- og ws]
  exact cf fun _ _=>rfl
 rw [e2]
theorem ac_ (ws:List (List Nat)):Txt.join (Str.ofString "") (ws.map gT)=gT ws.flatten:=by
 refine TL.FG ?_
 rw [TL.join_eq,TL.E2]
 have e:TL.tl (Str.ofString "")=[]:=by decide +kernel
 rw [e,a9]
 have e2:ws.map (TL.tl∘gT)=ws:=by
  conv=>rhs;rw [<- og ws]
  exact cf fun _ _=>rfl
 rw [e2,Di]
theorem Fe {b:Nat}:∀ (ws:List (List Nat)),(∀ w∈ws,w.length<=b)->((ws.map gT).map fun x=>Str.length x).sum<=ws.length*b
 | [],_=>by simp
 | w::ws,h=>by
  have:=Fe ws fun x hx=>h x (.tail _ hx)
  have h1:=h w (.head _)
  rw [aC,aC,uL,cS,aq,oU]
  omega
theorem Dn {b:Nat}:∀ (ws:List (List Nat)),(∀ w∈ws,w.length<=b)->(TL.ot [32] ws).length<=ws.length*(b+1)
 | [],_=>by simp [TL.ot]
 | [w],h=>by
  have:=h w (.head _)
  show w.length<=_
  simp;omega
 | w::v::r,h=>by
  have:=Dn (v::r) fun x hx=>h x (.tail _ hx)
  have h1:=h w (.head _)
  show (w++([32]++TL.ot [32] (v::r))).length<=_
  have e:(w::v::r).length*(b+1)=(v::r).length*(b+1)+(b+1):=oU _ _
  rw [e,ao,ao]
  have e2:([32]:List Nat).length=1:=rfl
  omega
theorem OQ {b:Nat}:∀ (ws:List (List Nat)),(∀ w∈ws,w.length<=b)->ws.flatten.length<=ws.length*b
 | [],_=>by simp
 | w::ws,h=>by
  have:=OQ ws fun x hx=>h x (.tail _ hx)
  have h1:=h w (.head _)
  rw [List.flatten_cons,ao,aq,oU]
  omega
theorem QT {α:Type} {b:Nat} (f:α->List Nat):∀ (ws:List α),(∀ w∈ws,(f w).length<=b)->(ws.flatMap f).length<=ws.length*b
 | [],_=>by simp
 | w::ws,h=>by
  have:=QT f ws fun x hx=>h x (.tail _ hx)
  have h1:=h w (.head _)
  rw [cT,ao,aq,oU]
  omega
theorem OR (k:Nat):(fg.getD k []).length<=5:=by
 match k with
 | 0=>decide
 | 1=>decide
 | 2=>decide
 | k+3=>exact a0 _
theorem JS (k:Nat):(cX.getD k []).length<=1:=by
 match k with
 | 0=>decide
 | 1=>decide
 | k+2=>exact a0 _
theorem GO {s:aS} (hf:kG s 6):(ko s).length<=42/\∀ l∈ko s,l.length<=60:=by
 have h36:=hf.OP
 have hn:=hf.n (by decide)
 have hp:=hf.RM (by decide)
 have ho:=(hf.ord (by decide)).length_eq
 rw [ck] at ho
 have hl:=hf.left
 refine ⟨by unfold ko;simp;omega,fun l hl=>?_⟩
 unfold ko at hl
 rcases bS.mp hl with q | q
 ·simp only [aw,mi,or_false] at q
  rcases q with rfl | rfl | rfl | rfl | rfl | rfl
  ·have:=n8 (n:=s.rules.n) (by omega)
   rw [ao,aq];show 5+_<=_;omega
  ·have:=QT (b:=5) (fun p=>32::bH 4 p) s.rules.points fun w hw=>by
    have:=n8 (hf.lt w hw);rw [aq];omega
   rw [ao];show 6+_<=_;omega
  ·have:=OR s.rules.tie
   rw [ao,aq];show 3+_<=_;omega
  ·have:=QT (b:=3) (fun b=>32::aL s.rules.n b) s.game.order fun w hw=>by
    rw [aq,qr];omega
   rw [ao];show 5+_<=_;omega
  ·have:=JS s.game.turn
   rw [ao,aq];show 4+_<=_;omega
  ·have:=n8 (n:=s.game.left) (by omega)
   rw [ao,aq];show 4+_<=_;omega
 ·obtain ⟨p,_,rfl⟩:=aO.mp q
  rw [ao,aq,ao,aq,qr,qr];decide
theorem JT {d:Addr} {o:Obj} {kvs:List (List Key×V)} {g:TG} {tb:TS} {D:Ends} {σ:L2.St} {H:Hp} (Pv:Nat->L2.St->Hp->Prop) (h0:Pv 0 σ H) (hl:∀ i σ H,i<=kvs.length->Pv i σ H->H d=some (.oW o (.dT kvs)))
  (hs:∀ i k v q σ H,kvs[i]?=some (k,v)->H q=some (.tup (k.map kV))->let E:Ends:={ D with nx:=Pv (i+1),ct:=Pv (i+1),bk:=D.nx };Pv i σ H->g (.ref q) σ H fun kH H2=>tb E kH H2) (hd:∀ σ H,Pv kvs.length σ H->D.nx σ H):
  ∃ W:Nat->Nat->L2.St->Hp->Prop,(∃ m,W 0 m σ H)/\∀ i m σ H,W i m σ H->
   ((UO d o kvs).stop i H/\D.nx σ H)\/((UO d o kvs).go i H/\∃ N:L2.St->Hp->Prop,(∀ f7 H',N f7 H'->∃ m',m'<m/\W (i+1) m' f7 H')/\∀ x H',(UO d o kvs).Pz i H x H'->g x σ H' fun kH H2=>tb { D with nx:=N,ct:=N,bk:=D.nx } kH H2):=by
 refine ⟨fun i m σ H=>m=kvs.length - i/\i<=kvs.length/\Pv i σ H,⟨kvs.length,by simp,a0 _,h0⟩,?_⟩
 rintro i m σ H ⟨rfl,hi,p⟩
 have q:=hl i σ H hi p
 by_cases iX:i<kvs.length
 ·refine .inr ⟨⟨q,iX⟩,Pv (i+1),fun f7 H' p'=>⟨kvs.length - (i+1),by omega,rfl,iX,p'⟩,fun v H' y=>?_⟩
  obtain ⟨e,k,v1,q1,hk,ev,hq⟩:=y
  subst e ev
  exact hs i k v1 q1 σ _ hk hq p
 ·have e:i=kvs.length:=by omega
  subst e
  exact .inl ⟨⟨q,au _⟩,hd σ H p⟩
theorem Tp {x:Str} {ys:List V} {g:TG} {te:TE} {vs:List Nat} {σ:L2.St} {H1:Hp} {D:Addr} {Qd:Hp->Prop} (hD:H1 D=none) (hl:ys.length=x.cps.size) (hz:ys.length<=sizeLine)
  (hs:∀ (i c:Nat) (y:V) (H:Hp) (R:V->Hp->Prop),x.cps[i]?=some c->ys[i]?=some y->aM H1 H->(∀ H4,aM H H4->R y H4)->g (.str ⟨#[c]⟩) (wipe σ vs) H fun kH H2=>wipe kH vs=wipe σ vs/\te kH H2 R)
  (hd:∀ H,aM H1 H->H D=some (.lst ys)->Qd H):
  ∃ W:Nat->Nat->Hp->Prop,(∃ m,W 0 m (upd H1 D (.lst [])))/\∀ i m H,W i m H->
   ((Yx x).stop i H/\Qd H)\/((Yx x).go i H/\∃ Nx:Hp->Prop,(∀ H',Nx H'->∃ m',m'<m/\W (i+1) m' H')/\∀ v H',(Yx x).Pz i H v H'->g v (wipe σ vs) H' fun kH H2=>wipe kH vs=wipe σ vs/\PU kH H2 fun b H3=>
    if b=true then te kH H3 fun y H4=>∃ acc,H4 D=some (.lst acc)/\acc.length<sizeLine/\Nx (upd H4 D (.lst (acc++[y]))) else Nx H3):=by
 refine ⟨fun i m H=>m=x.cps.size - i/\i<=x.cps.size/\aM H1 H/\H D=some (.lst (ys.take i)),⟨x.cps.size,by simp,a0 _,aM.new hD,ae⟩,?_⟩
 rintro i m H ⟨rfl,hi,p⟩
 by_cases iX:i<x.cps.size
 ·refine .inr ⟨iX,fun H'=>aM H1 H'/\H' D=some (.lst (ys.take (i+1))),fun H' p'=>⟨x.cps.size - (i+1),by omega,rfl,iX,p'⟩,fun v H' y=>?_⟩
  obtain ⟨e,c,hc,ev⟩:=y
  subst e ev
  have Ks:i<ys.length:=by omega
  have hy:ys[i]?=some ys[i]:=a7 Ks
  simp only [PU,↓reduceIte]
  refine hs i c ys[i] _ _ hc hy p.1 fun H4 s4=>?_
  refine ⟨ys.take i,s4 _ _ p.2,?_,?_,?_⟩
  ·rw [bK];omega
  ·exact aM.cZ (p.1.trans s4) hD
  ·rw [ae,take_snoc hy]
 ·have e:i=x.cps.size:=by omega
  subst e
  refine .inl ⟨au _,hd H p.1 ?_⟩
  have e:=p.2
  rw [<- hl,cA] at e
  exact e
def eY (s:aS) (past:List aP):Raw:=⟨s.rules.n,s.rules.points,dm s.rules.tie,s.game.order,s.game.turn,s.game.left,s.rules.can,past⟩
theorem Tq {k:Nat} (h:k<=2):dm k=gT (fg.getD k []):=by
 have:k=0\/k=1\/k=2:=by omega
 rcases this with rfl | rfl | rfl<;>decide +kernel
theorem Dq {n b:Nat} (h:b<2*n):((namesOf n).map vS)[b]?=some (vS (aL n b)):=by
 unfold namesOf
 rw [a9,ax,rA h];rfl
section
variable {P:Program} {w:World} {K:ab} {mg:Str->Option Value} {base:Heap} {t:uZ}
def Dr (C:Addr):Sp:=fun vs H Q _=>∃ (g pd pl:Addr) (s:aS) (past:List aP),vs=[.ref g]/\mC C H g pd pl (eY s past)/\kG s 6/\
 ∀ (H':Hp) (p:Addr),aM H H'->H p=none->H' p=some (.lst ((ko s).map vS))->Q (.ref p) H'
theorem Ds (T:Txt K mg t):bY P w K mg base fw 2 t.fV t.gY ["game"] (Dr t.aF):=by
 refine T.e_.ok eJ (fun vs H Q E h=>?_) (fun eW A outer s H vs Q E hr h=>?_)
 ·obtain ⟨g,pd,pl,s,past,rfl,_⟩:=h
  rfl
 ·obtain ⟨g,pd,pl,st,past,rfl,hg,hf,k⟩:=h
  refine ⟨_,(ag (gR 1 eJ.nd (aN (uu T) (hr.mono (by omega)) rfl T.rH T.fC.kp (vM T) .nil bp (aa (bb (pv 0) rfl) ai)))
   (ag (gR 4 eJ.nd (bw (aa (cB gF i4 (i5 rC (by rfl) T.BU boot_str (aa (bb (pv 0) rfl) ai))) (aa (cB gF i4 (E3 i4 (tK rfl eJ.nd (fv (bb (pv 0) rfl)) (gH (own:=[("worth",2)]) (by kernel_rfl)) (fun _ _ _ _ _=>(uY 2 eJ.nd)) (fun _ _ _ _ _=>kz) (fun _ _ _ _ _=>(i5 rC (by rfl) T.BU boot_str (aa (pv 2) ai)))))) (aa (cB gF i4 (bb (pv 0) rfl)) (aa (cB gF i4 (E3 i4 (tK rfl eJ.nd (fv (bb (pv 0) rfl)) (gH (own:=[("boat",3)]) (by kernel_rfl)) (fun _ _ _ _ _=>(uY 3 eJ.nd)) (fun _ _ _ _ _=>kz) (fun _ _ _ _ _=>(bQ (BO (K:=K) rfl) (pv 1) (pv 3) (fun _ _=>rfl)))))) (aa (cB gF i4 (bQ fS (eX rfl T.u9) (bb (pv 0) rfl) (fun _ _=>rfl))) (aa (cB gF i4 (i5 rC (by rfl) T.BU boot_str (aa (bb (pv 0) rfl) ai))) ai))))))))
   (ag (Kg (gE PassesOwn.never rfl (RC (bb (pv 0) rfl)) (uY 5 eJ.nd)
   (ak (cO (gG aB bc bf d8 (pv 4) (aa (cB gF (cB gF (cB gF i4 (bQ bI (pv 1) (bQ fS (pv 5) az (fun _ _=>rfl)) (fun _ _=>rfl))) i4) (bQ bI (pv 1) (bQ fS (pv 5) az (fun _ _=>rfl)) (fun _ _=>rfl))) ai))))))
   (ak (aK (pv 4)))))),?_⟩
  try dsimp only [cxK]
  have hn:=hf.n (by decide)
  have kF:=hf.RM (by decide)
  have mH:=hf.ord (by decide)
  have QL:=mH.length_eq
  rw [ck] at QL
  have h36:=hf.OP
  have JP:=hf.left
  obtain ⟨dx,pa,oa,cK,my,lP,ma,⟨ts,Td,Eo⟩,qM,rm⟩:=id hg
  have F:∀ {H':Hp},aM H H'->H' g=some (.ins t.aF dx (gf st.rules.n pa (dm st.rules.tie) oa st.game.turn st.game.left pd pl)):=fun s=>s _ _ cK
  refine ⟨_,rfl,g,_,dx,_,_,rfl,cK,T.aI,T.bM,fM,st.rules.n,rfl,hn,fun H1 nm s1 X4 Pn=>?_⟩
  refine ⟨_,rfl,g,_,dx,_,_,rfl,F s1,T.aI,T.bM,fM,_,rfl,zD (by show ((st.rules.n:Nat):Int).natAbs<_;omega),?_⟩
  have e1:(Str.ofString (toString ((st.rules.n:Nat):Int)):Str)=gT (bH 4 st.rules.n):=aak (by omega)
  rw [e1]
  have d1:=n8 (n:=st.rules.n) (by omega)
  refine ⟨gT (jT++[32]),gT _,rfl,rfl,?_,?_⟩
  ·rw [cS,cS,sizeLine_eq];show 6+_<=_;omega
  rw [oB]
  refine ⟨⟨_,rfl⟩,_,rfl,g,_,dx,_,_,rfl,F s1,T.aI,T.cG,pM,pa,rfl,⟨_,bO.of (s1 _ _ my)⟩,fun D hD=>?_⟩
  refine sr (K:=K) (a:=pa) (xs:=st.rules.points.map vN) (ys:=(st.rules.points.map (bH 4)).map vS) hD (bO.of (s1 _ _ my)) (by rw [U,U,U]) (by rw [U,U,sizeLine_eq];omega) ?_ ?_
  ·intro i x1 y H2 R hi hy s2 fin
   obtain ⟨b,hb,rfl⟩:=Dc hi
   rw [a9,ax,hb] at hy
   have hy:vS (bH 4 b)=y:=aj.inj hy
   subst hy
   have iX:=hf.lt b (aT hb)
   refine ⟨rfl,_,rfl,_,rfl,zD (by show ((b:Nat):Int).natAbs<_;omega),?_⟩
   have e1:(Str.ofString (toString ((b:Nat):Int)):Str)=gT (bH 4 b):=aak iX
   rw [e1]
   exact fin _ fun _ _ z=>z
  intro H2 s2 AU
  have yq:=s1.trans s2
  have b2:∀ w∈st.rules.points.map (bH 4),w.length<=4:=fun w hw=>by
   obtain ⟨p,hp,rfl⟩:=aO.mp hw
   exact n8 (hf.lt p hp)
  have j2:=Dn _ b2
  rw [U] at j2
  have u2:=Fe _ b2
  rw [U] at u2
  refine ⟨_,D,(st.rules.points.map (bH 4)).map gT,rfl,rfl,.inl (bO.of (by rw [AU,pN])),?_,?_⟩
  ·rw [U,U]
   have:(Str.ofString " ").length=1:=by decide +kernel
   rw [this];omega
  rw [YM]
  refine ⟨gT (fI++[32]),gT _,rfl,rfl,?_,?_⟩
  ·rw [cS,cS,sizeLine_eq];show 7+_<=_;omega
  rw [oB]
  have l2:(fI++[32])++TL.ot [32] (st.rules.points.map (bH 4))=fI++st.rules.points.flatMap (fun p=>32::bH 4 p):=by
   rw [bX,show [32]++TL.ot [32] (st.rules.points.map (bH 4))=32::TL.ot [32] (st.rules.points.map (bH 4)) from rfl,Dm _ (fun e=>by have:=congrArg iA e;rw [U] at this;simp at this;rw [this] at kF;simp at kF;omega),pW]
  rw [l2]
  have et:=Tq hf.tie
  have t3:=OR st.rules.tie
  refine ⟨_,rfl,g,_,dx,_,_,rfl,F yq,T.aI,T.dI,AV,?_⟩
  rw [et]
  refine ⟨gT (ni++[32]),gT _,rfl,rfl,?_,?_⟩
  ·rw [cS,cS,sizeLine_eq];show 4+_<=_;omega
  rw [oB]
  refine ⟨⟨_,rfl⟩,_,rfl,g,_,dx,_,_,rfl,F yq,T.aI,T.bN,jb,oa,rfl,⟨_,bO.of (yq _ _ lP)⟩,fun D2 WR=>?_⟩
  refine sr (K:=K) (a:=oa) (xs:=st.game.order.map vN) (ys:=(st.game.order.map (aL st.rules.n)).map vS) WR (bO.of (yq _ _ lP)) (by rw [U,U,U]) (by rw [U,U,sizeLine_eq];omega) ?_ ?_
  ·intro i x1 y H3 R hi hy s3 fin
   obtain ⟨b,hb,rfl⟩:=Dc hi
   rw [a9,ax,hb] at hy
   have hy:vS (aL st.rules.n b)=y:=aj.inj hy
   subst hy
   have iX:b<2*st.rules.n:=cH.mp (mH.mem_iff.mp (aT hb))
   exact ⟨rfl,_,rfl,_,rfl,nm,_,_,_,rfl,rfl,bO.of (s3 _ _ (s2 _ _ Pn)),bj (Dq iX),fin _ fun _ _ z=>z⟩
  intro H3 s3 agQ
  have R6:=yq.trans s3
  have b3:∀ w∈st.game.order.map (aL st.rules.n),w.length<=2:=fun w hw=>by
   obtain ⟨p,hp,rfl⟩:=aO.mp hw
   rw [qr];exact au _
  have j3:=Dn _ b3
  rw [U] at j3
  have u3:=Fe _ b3
  rw [U] at u3
  refine ⟨_,D2,(st.game.order.map (aL st.rules.n)).map gT,rfl,rfl,.inl (bO.of (by rw [agQ,pN])),?_,?_⟩
  ·rw [U,U]
   have:(Str.ofString " ").length=1:=by decide +kernel
   rw [this];omega
  rw [YM]
  refine ⟨gT (gc++[32]),gT _,rfl,rfl,?_,?_⟩
  ·rw [cS,cS,sizeLine_eq];show 6+_<=_;omega
  rw [oB]
  have l3:(gc++[32])++TL.ot [32] (st.game.order.map (aL st.rules.n))=gc++st.game.order.flatMap (fun b=>32::aL st.rules.n b):=by
   rw [bX,show [32]++TL.ot [32] (st.game.order.map (aL st.rules.n))=32::TL.ot [32] (st.game.order.map (aL st.rules.n)) from rfl,Dm _ (fun e=>by have:=congrArg iA e;rw [U] at this;simp at this;rw [this] at QL;simp at QL;omega),pW]
  rw [l3]
  have Tg:oX K H3 t.fQ (cX.map vS):=T.rV.sq H3
  have aiQ:=hf.turn
  have e5:(cX.map vS)[st.game.turn]?=some (vS (cX.getD st.game.turn [])):=by
   have:st.game.turn=0\/st.game.turn=1:=by omega
   rcases this with e | e<;>rw [e]<;>rfl
  have t5:=JS st.game.turn
  refine ⟨_,rfl,g,_,dx,_,_,rfl,F R6,T.aI,T.cg,qb,t.fQ,_,_,_,rfl,rfl,Tg,bj e5,?_⟩
  refine ⟨gT (lK++[32]),gT _,rfl,rfl,?_,?_⟩
  ·rw [cS,cS,sizeLine_eq];show 5+_<=_;omega
  rw [oB]
  refine ⟨_,rfl,g,_,dx,_,_,rfl,F R6,T.aI,T.bZ,l_,_,rfl,zD (by show ((st.game.left:Nat):Int).natAbs<_;omega),?_⟩
  have e6:(Str.ofString (toString ((st.game.left:Nat):Int)):Str)=gT (bH 4 st.game.left):=aak (by omega)
  rw [e6]
  have d6:=n8 (n:=st.game.left) (by omega)
  refine ⟨gT (lL++[32]),gT _,rfl,rfl,?_,?_⟩
  ·rw [cS,cS,sizeLine_eq];show 5+_<=_;omega
  rw [oB]
  refine ⟨by show 6<=sizeLine;decide,fun B hB=>?_⟩
  have s4:aM H3 (upd H3 B (.lst ((ko st).take 6 |>.map vS))):=aM.new hB
  have six:(ko st).take 6=[jT++32::bH 4 st.rules.n,fI++st.rules.points.flatMap (fun p=>32::bH 4 p),ni++32::fg.getD st.rules.tie [],gc++st.game.order.flatMap (fun b=>32::aL st.rules.n b),
   lK++32::cX.getD st.game.turn [],lL++32::bH 4 st.game.left]:=rfl
  have WS:=R6.trans s4
  have WN:∀ {b:Addr} {o:HO},H b=some o->(∀ kvs,o≠.dT kvs)->b≠pd:=fun hb tG e=>by rw [e,ma] at hb;exact tG _ (aj.inj hb).symm
  have nB:B≠pd:=Ne.symm (aV (R6 _ _ ma) hB)
  have nmB:nm≠B:=aV (s3 _ _ (s2 _ _ Pn)) hB
  have agR:nm≠pd:=fun e=>by rw [e,ma] at X4;cases X4
  refine ⟨pd,_,WS _ _ ma,trivial,fun od=>?_⟩
  refine ⟨_,rfl,g,_,dx,_,_,rfl,by rw [aD (WN cK (fun _ z=>nomatch z))];exact F WS,T.aI,T.cu,lx,pd,od,rfl,.inr ⟨_,ae,?_⟩⟩
  refine JT (fun i σ H'=>∃ (v2 v3 v5:Option V),σ=[some (.ref g),some (.ref nm),v2,v3,some (.ref B),v5]/\(∀ b o,H3 b=some o->b≠pd->H' b=some o)/\H' pd=some (.oW od (.dT (gb st.rules.can)))/\H' B=some (.lst (((ko st).take (6+i)).map vS)))
   ⟨_,_,_,rfl,fun b o hb nb=>by rw [aD nb];exact s4 _ _ hb,ae,by rw [aD nB];exact ae⟩ (fun i σ H' _ ⟨_,_,_,_,_,q,_⟩=>q) ?_ ?_
  ·rintro i ky v q σ H' hi hq EE ⟨v2,v3,v5,rfl,c1,c2,c3⟩
   have ZH:(st.rules.can.map fun p=>(fi p,V.bl true))[i]?=some (ky,v):=hi
   rw [ax] at ZH
   obtain ⟨p,hp,e⟩:=aZ.mp ZH
   obtain ⟨rfl,rfl⟩:fi p=ky/\V.bl true=v:=Prod.mk.inj e
   have hq:H' q=some (.tup [vN p.1,vN p.2]):=hq
   have hpm:=hf.can p (aT hp)
   have ada:H' nm=some (.lst ((namesOf st.rules.n).map vS)):=c1 _ _ (s3 _ _ (s2 _ _ Pn)) agR
   have hil:i<st.rules.can.length:=(aH.mp hp).1
   have hnx:(ko st)[6+i]?=some (iU++32::(aL st.rules.n p.1++32::aL st.rules.n p.2)):=by
    unfold ko
    rw [lG (by simp)]
    have:6+i - [jT++32::bH 4 st.rules.n,fI++st.rules.points.flatMap (fun p=>32::bH 4 p),ni++32::fg.getD st.rules.tie [],gc++st.game.order.flatMap (fun b=>32::aL st.rules.n b),
      lK++32::cX.getD st.game.turn [],lL++32::bH 4 st.game.left].length=i:=by
     show 6+i - 6=i
     omega
    rw [this,ax,hp];rfl
   refine ⟨_,rfl,.inl ⟨rfl,_,bO.of c3⟩,_,rfl,_,rfl,q,_,0,_,rfl,rfl,oX.of hq,bj (j:=0) rfl,nm,_,_,_,rfl,rfl,bO.of ada,bj (Dq hpm.1),?_⟩
   refine ⟨gT (iU++[32]),gT _,rfl,rfl,?_,?_⟩
   ·rw [cS,cS,sizeLine_eq,qr];decide
   rw [oB]
   refine ⟨gT _,gT [32],rfl,rfl,?_,?_⟩
   ·rw [cS,cS,sizeLine_eq,ao,qr];decide
   rw [oB]
   refine ⟨_,rfl,_,rfl,q,_,1,_,rfl,rfl,oX.of hq,bj (j:=1) rfl,nm,_,_,_,rfl,rfl,bO.of ada,bj (Dq hpm.2.1),?_⟩
   refine ⟨gT _,gT _,rfl,rfl,?_,?_⟩
   ·rw [cS,cS,sizeLine_eq,ao,ao,qr,qr];decide
   rw [oB]
   have el:((iU++[32]++aL st.rules.n p.1)++[32])++aL st.rules.n p.2=iU++32::(aL st.rules.n p.1++32::aL st.rules.n p.2):=by simp
   rw [el]
   refine ⟨B,_,_,rfl,rfl,c3,?_,v2,v3,_,rfl,fun b o hb nb=>?_,?_,?_⟩
   ·rw [U,bK,sizeLine_eq]
    have:=(GO hf).1
    omega
   ·rw [aD (aV hb hB)];exact c1 b o hb nb
   ·rw [aD (Ne.symm nB)];exact c2
   ·rw [ae,show 6+(i+1)=6+i+1 by omega,take_snoc hnx,aX];rfl
  ·rintro σ H' ⟨v2,v3,v5,rfl,c1,c2,c3⟩
   refine ⟨c2,_,rfl,k _ B (fun b o hb=>?_) (R6.free hB) ?_⟩
   ·by_cases e:b=pd
    ·subst e;rw [ma] at hb;rw [ae];exact hb
    ·rw [aD e];exact c1 b o (R6 _ _ hb) e
   ·rw [aD nB,c3]
    have:(gb (eY st past).can).length=st.rules.can.length:=by unfold gb;rw [U];rfl
    rw [this,cI (by unfold ko;simp;omega)]
def QU (C:Addr):Sp:=fun vs H Q _=>∃ (g pd pl:Addr) (s:aS) (past:List aP),vs=[.ref g]/\mC C H g pd pl (eY s past)/\kG s 6/\
 ∀ (H':Hp) (p:Addr),aM H H'->H p=none->H' p=some (.lst ((dP s).map vN))->(dP s).length<=5000->Q (.ref p) H'
theorem QV (T:Txt K mg t):bY P w K mg base fw 3 t.pB t.rS ["game"] (QU t.aF):=by
 refine T.nY.ok sG (fun vs H Q E h=>?_) (fun eW A outer s H vs Q E hr h=>?_)
 ·obtain ⟨g,pd,pl,s,past,rfl,_⟩:=h
  rfl
 ·obtain ⟨g,pd,pl,st,past,rfl,hg,hf,k⟩:=h
  refine ⟨_,(ak (aK (tK rfl sG.nd (UM (E3 i4 (tK rfl sG.nd (fv (aN (Ds T) (hr.mono (by omega)) rfl T.xc T.e_.kp (EK T) .nil bp (aa (pv 0) ai))) (gH (own:=[("line",1)]) (by kernel_rfl)) (fun _ _ _ _ _=>(uY 1 sG.nd)) (fun _ _ _ _ _=>kz) (fun _ _ _ _ _=>(cB gF (pv 1) i4))))) (gH (own:=[("sign",2)]) (by kernel_rfl)) (fun _ _ _ _ _=>(uY 2 sG.nd)) (fun _ _ _ _ _=>kz) (fun _ _ _ _ _=>(b8 MV (by rfl) T.F_ boot_ord (aa (pv 2) ai)))))),?_⟩
  try dsimp only [cxK]
  obtain ⟨Ow,Fy⟩:=GO hf
  refine ⟨⟨_,rfl⟩,_,rfl,g,pd,pl,st,past,rfl,hg,hf,fun H1 L s1 hL0 hL=>⟨L,rfl,⟨_,bO.of hL⟩,fun D hD=>?_⟩⟩
  refine sr (K:=K) (a:=L) (xs:=(ko st).map vS) (ys:=((ko st).map fun l=>l++[10]).map vS) hD (bO.of hL) (by rw [U,U,U]) (by rw [U,U,sizeLine_eq];omega) ?_ ?_
  ·intro i x1 y H2 R hi hy s2 fin
   rw [ax] at hi
   obtain ⟨l,hl,rfl⟩:=aZ.mp hi
   rw [a9,ax,hl] at hy
   have hy:vS (l++[10])=y:=aj.inj hy
   subst hy
   have:=Fy l (aT hl)
   refine ⟨rfl,_,rfl,gT l,gT [10],rfl,rfl,?_,?_⟩
   ·rw [cS,cS,sizeLine_eq];show l.length+1<=_;omega
   rw [oB]
   exact fin _ fun _ _ z=>z
  ·intro H2 s2 AU
   have b2:∀ w∈(ko st).map fun l=>l++[10],w.length<=61:=fun w hw=>by
    obtain ⟨l,hl,rfl⟩:=aO.mp hw
    rw [ao];have:=Fy l hl;show l.length+1<=61;omega
   have u2:=Fe _ b2
   have u3:=OQ _ b2
   rw [U] at u2 u3
   have ew:((ko st).map fun l=>l++[10]).flatten=dP st:=by rw [QS,List.flatMap_def]
   rw [ew] at u3
   refine ⟨_,D,((ko st).map fun l=>l++[10]).map gT,rfl,rfl,.inl (bO.of (by rw [AU,pN])),?_,?_⟩
   ·have:(Str.ofString "").length=0:=by decide +kernel
    rw [this];omega
   rw [ac_,ew]
   refine ⟨_,rfl,fun D2 WR=>?_⟩
   refine Tp (ys:=(dP st).map vN) WR (by rw [U];rfl) (by rw [U,sizeLine_eq];omega) ?_ ?_
   ·intro i c y H3 R hi hy s3 fin
    obtain ⟨b,hb,rfl⟩:=Dc hy
    have hi:(dP st).toArray[i]?=some c:=hi
    rw [List.getElem?_toArray,hb] at hi
    obtain rfl:=aj.inj hi
    exact ⟨rfl,_,rfl,_,rfl,rfl,fin _ fun _ _ z=>z⟩
   ·intro H3 s3 VN
    exact k _ D2 ((s1.trans s2).trans s3) ((s1.trans s2).free WR) VN (by omega)
end
def vW (r:aR) (p:Nat×Nat):Nat×Nat:=(bL r p.1,bL r p.2)
theorem GP {r:aR} {b:Nat} (h:b<2*r.n):bL r b<2*r.n:=by
 unfold bL;split<;>omega
theorem Dt {r:aR} {a b:Nat} (ha:a<2*r.n) (hb:b<2*r.n) (h:bL r a=bL r b):a=b:=by
 unfold bL at h;split at h<;>split at h<;>omega
theorem aal {r:aR} {p q:Nat×Nat} (hp:p.1<2*r.n/\p.2<2*r.n) (hq:q.1<2*r.n/\q.2<2*r.n) (h:vW r p=vW r q):p=q:=by
 have e1:bL r p.1=bL r q.1:=congrArg Prod.fst h
 have e2:bL r p.2=bL r q.2:=congrArg Prod.snd h
 exact Prod.ext (Dt hp.1 hq.1 e1) (Dt hp.2 hq.2 e2)
theorem GQ {r:aR}:∀ {l:List (Nat×Nat)},(∀ p∈l,p.1<2*r.n/\p.2<2*r.n)->l.Nodup->(l.map (vW r)).Nodup
 | [],_,_=>jf
 | p::l,h,hn=>by
  rw [cE] at hn
  rw [aC,cE]
  refine ⟨fun hm=>?_,GQ (fun q hq=>h q (.tail _ hq)) hn.2⟩
  obtain ⟨q,hq,e⟩:=aO.mp hm
  exact hn.1 (aal (h q (.tail _ hq)) (h p (.head _)) e▸hq)
theorem GR {α:Type} [BEq α] [LawfulBEq α] {l:List α} {i:Nat} {x:α} (hn:l.Nodup) (h:l[i]?=some x):(l.take i).contains x=false:=by
 obtain ⟨iX,e⟩:=aH.mp h
 have h1:l=l.take i++l.drop i:=(List.take_append_drop i l).symm
 rw [h1,oO] at hn
 have hd:x∈l.drop i:=by rw [cw iX,e];exact .head _
 cases hc:(l.take i).contains x with
 | false=>rfl
 | true=>exact absurd rfl (hn.2.2 x (dj.mp hc) x hd)
theorem Tr {s:aS} (hf:kG s 6):kG ⟨rB s.rules,s_ s.rules s.game⟩ 6:=by
 have hc:∀ p∈s.rules.can,p.1<2*s.rules.n/\p.2<2*s.rules.n:=fun p hp=>⟨(hf.can p hp).1,(hf.can p hp).2.1⟩
 have ho:=hf.ord (by decide)
 refine ⟨fun h=>absurd h (by decide),fun h=>hf.n h,fun h=>hf.RM h,hf.lt,hf.tie,fun _=>?_,?_,hf.left,fun p hp=>?_,GQ hc hf.nd,fun h=>absurd h (by decide)⟩
 ·show (s.game.order.map (bL s.rules)).Perm (aY (2*s.rules.n))
  refine tM List.nodup_range (fun x hx=>?_) (by rw [U,ho.length_eq])
  have hx:=cH.mp hx
  refine aO.mpr ⟨bL s.rules x,ho.mem_iff.mpr (cH.mpr (GP hx)),?_⟩
  unfold bL
  split<;>split<;>omega
 ·show 1 - s.game.turn<=1
  omega
 ·have hp:p∈s.rules.can.map (vW s.rules):=hp
  obtain ⟨q,hq,rfl⟩:=aO.mp hp
  have:=hf.can q hq
  exact ⟨GP this.1,GP this.2.1,fun e=>this.2.2 (Dt this.1 this.2.1 e)⟩
section
variable {P:Program} {w:World} {K:ab} {mg:Str->Option Value} {base:Heap} {t:uZ}
def Cf (C:Addr):Sp:=fun vs H Q _=>∃ (g pd pl:Addr) (s:aS) (past:List aP),vs=[.ref g]/\mC C H g pd pl (eY s past)/\kG s 6/\
 ∀ (H':Hp) (QW qp:Addr),mC C H' g QW qp (eY ⟨rB s.rules,s_ s.rules s.game⟩ [])->bh [g] H H'->H QW=none->H qp=none->Q .jU H'
theorem Cg (T:Txt K mg t):bY P w K mg base fw 2 t.fq t.gD ["game"] (Cf t.aF):=by
 refine T.eG.ok iu (fun vs H Q E h=>?_) (fun eW A outer s H vs Q E hr h=>?_)
 ·obtain ⟨g,pd,pl,s,past,rfl,_⟩:=h
  rfl
 ·obtain ⟨g,pd,pl,st,past,rfl,hg,hf,k⟩:=h
  have hu:=xA hr
  refine ⟨_,(ag (gR 1 iu.nd (Ni))
   (ag (Kg (gE PassesOwn.never rfl (RC (bb (pv 0) rfl)) (uY 2 iu.nd)
   (ak (EY hu (pv 1) (r6 (aa (aN (sM T) (hr.mono (by omega)) rfl T.p6 T.eP.kp (uq T) .nil bp (aa (pv 0) (aa (bQ fS (pv 2) az (fun _ _=>rfl)) ai))) (aa (aN (sM T) (hr.mono (by omega)) rfl T.p6 T.eP.kp (uq T) .nil bp (aa (pv 0) (aa (bQ fS (pv 2) az (fun _ _=>rfl)) ai))) ai))) mq rfl))))
   (ag (dY (pv 0) (pv 1) rfl)
   (ag (dY (pv 0) (tK rfl iu.nd (fv (bb (pv 0) rfl)) (gH (own:=[("boat",3)]) (by kernel_rfl)) (fun _ _ _ _ _=>(uY 3 iu.nd)) (fun _ _ _ _ _=>kz) (fun _ _ _ _ _=>(aN (sM T) (hr.mono (by omega)) rfl T.p6 T.eP.kp (uq T) .nil bp (aa (pv 0) (aa (pv 3) ai))))) rfl)
   (ag (dY (pv 0) (cB iE az (bb (pv 0) rfl)) rfl)
   (ak (cO (aN (lA T) (hr.mono (by omega)) rfl T.kj T.dr.kp (mF T) .nil bp (aa (pv 0) ai))))))))),?_⟩
  try dsimp only [cxK]
  have h36:=hf.OP
  have mH:=hf.ord (by decide)
  have hn:=hf.n (by decide)
  have QL:=mH.length_eq
  rw [ck] at QL
  have hc:∀ p∈st.rules.can,p.1<2*st.rules.n/\p.2<2*st.rules.n:=fun p hp=>⟨(hf.can p hp).1,(hf.can p hp).2.1⟩
  obtain ⟨dx,pa,oa,cK,my,lP,ma,⟨ts,kF,Eo⟩,qM,rm⟩:=id hg
  have cK:H g=some (.ins t.aF dx (gf st.rules.n pa (dm st.rules.tie) oa st.game.turn st.game.left pd pl)):=cK
  intro D hD
  have WN:∀ {b:Addr} {o:HO},H b=some o->(∀ kvs,o≠.dT kvs)->b≠pd:=fun hb tG e=>by rw [e,ma] at hb;exact tG _ (aj.inj hb).symm
  have nD:D≠pd:=Ne.symm (aV ma hD)
  have sD:=aM.new (o:=.dT []) hD
  have adb:g≠pd:=WN cK (fun _ z=>nomatch z)
  refine ⟨pd,_,sD _ _ ma,trivial,fun od=>?_⟩
  refine ⟨_,rfl,g,_,dx,_,_,rfl,by rw [aD adb];exact sD _ _ cK,T.aI,T.cu,lx,pd,od,rfl,.inr ⟨_,ae,?_⟩⟩
  refine JT (fun i σ H'=>∃ (v2 v3:Option V),σ=[some (.ref g),some (.ref D),v2,v3]/\(∀ b o,H b=some o->b≠pd->H' b=some o)/\H' pd=some (.oW od (.dT (gb st.rules.can)))/\H' D=some (.dT (gb ((st.rules.can.map (vW st.rules)).take i))))
   ⟨_,_,rfl,fun b o hb nb=>by rw [aD nb];exact sD _ _ hb,ae,by rw [aD nD];exact ae⟩ (fun i σ H' _ ⟨_,_,_,_,q,_⟩=>q) ?_ ?_
  ·rintro i ky v q σ H' hi hq EE ⟨v2,v3,rfl,c1,c2,c3⟩
   have ZH:(st.rules.can.map fun p=>(fi p,V.bl true))[i]?=some (ky,v):=hi
   rw [ax] at ZH
   obtain ⟨p,hp,e⟩:=aZ.mp ZH
   obtain ⟨rfl,rfl⟩:fi p=ky/\V.bl true=v:=Prod.mk.inj e
   have hq:H' q=some (.tup [vN p.1,vN p.2]):=hq
   have tD:=c1 _ _ cK adb
   have hps:(st.rules.can.map (vW st.rules))[i]?=some (vW st.rules p):=by rw [ax,hp];rfl
   have agS:=GR (GQ hc hf.nd) hps
   have hil:i<st.rules.can.length:=(aH.mp hp).1
   refine ⟨_,rfl,_,rfl,_,rfl,q,_,0,_,rfl,rfl,oX.of hq,bj (j:=0) rfl,g,dx,pa,oa,pd,pl,_,_,_,_,st.rules,p.1,rfl,tD,rfl,
    _,rfl,_,rfl,q,_,1,_,rfl,rfl,oX.of hq,bj (j:=1) rfl,g,dx,pa,oa,pd,pl,_,_,_,_,st.rules,p.2,rfl,tD,rfl,szB,fun tp E_=>?_⟩
   have s2:=aM.new (o:=.tup [vN (bL st.rules p.1),vN (bL st.rules p.2)]) E_
   refine ⟨D,_,rfl,Ng.t (k:=fi (vW st.rules p)) (s2 _ _ c3) ae (by unfold gb;rw [U,bK,U,sizeLine_eq];omega),?_⟩
   rw [Ln agS,<-take_snoc hps]
   refine ⟨_,v3,rfl,fun b o hb nb=>?_,?_,ae⟩
   ·rw [aD (aV hb hD)];exact s2 _ _ (c1 b o hb nb)
   ·rw [aD (Ne.symm nD)];exact s2 _ _ c2
  ·rintro σ H' ⟨v2,v3,rfl,c1,c2,c3⟩
   have hlen:(gb (eY st past).can).length=st.rules.can.length:=by unfold gb;rw [U];rfl
   rw [hlen,cI (by rw [U];exact au _)] at c3
   have s1:aM H (upd H' pd (.dT (gb (eY st past).can))):=fun b o hb=>by
    by_cases e:b=pd
    ·subst e;rw [ma] at hb;rw [ae];exact hb
    ·rw [aD e];exact c1 b o hb e
   refine ⟨c2,?_⟩
   have c3:(upd H' pd (.dT (gb (eY st past).can))) D=some (.dT (gb (st.rules.can.map (vW st.rules)))):=by rw [aD nD];exact c3
   revert s1 c3
   generalize upd H' pd (.dT (gb (eY st past).can))=H1
   intro s1 c3
   refine ⟨_,rfl,_,rfl,g,_,dx,_,rfl,s1 _ _ cK,T.aI,T.cu,of_decide_eq_true (by kernel_rfl),?_⟩
   rw [Tb]
   have nd:∀ {b:Addr} {o o':HO},H1 b=some o->(∀ C dx fs,o≠.ins C dx fs)->(upd H1 g o') b=some o:=fun hb tG=>by rw [aD (dX hb (s1 _ _ cK) (tG _ _ _))];exact hb
   have Ib:∀ o',(upd H1 g o') oa=some (.lst (st.game.order.map vN)):=fun o'=>nd (s1 _ _ lP) (fun _ _ _ z=>nomatch z)
   refine ⟨_,rfl,g,_,dx,_,_,rfl,ae,T.aI,T.bN,jb,oa,rfl,⟨_,bO.of (Ib _)⟩,fun O hO=>?_⟩
   refine sr (K:=K) (a:=oa) (xs:=st.game.order.map vN) (ys:=(st.game.order.map (bL st.rules)).map vN) hO (bO.of (Ib _)) (by rw [U,U,U]) (by rw [U,U,sizeLine_eq];omega) ?_ ?_
   ·intro i x1 y H3 R hi hy s3 fin
    obtain ⟨b,hb,rfl⟩:=Dc hi
    rw [a9,ax,hb] at hy
    have hy:vN (bL st.rules b)=y:=aj.inj hy
    subst hy
    exact ⟨rfl,_,rfl,_,rfl,g,dx,pa,oa,D,pl,_,_,_,_,st.rules,b,rfl,s3 _ _ ae,rfl,fin _ fun _ _ z=>z⟩
   intro H3 s3 hO3
   refine ⟨_,rfl,g,_,dx,_,rfl,s3 _ _ ae,T.aI,T.bN,of_decide_eq_true (by kernel_rfl),?_⟩
   rw [vc]
   refine ⟨_,rfl,g,_,dx,_,_,rfl,ae,T.aI,T.cg,qb,_,_,rfl,rfl,_,rfl,g,_,dx,_,rfl,ae,T.aI,T.cg,of_decide_eq_true (by kernel_rfl),?_⟩
   have et:V.int (1 - ((st.game.turn:Nat):Int))=vN (1 - st.game.turn):=by
    have:=hf.turn
    show _=V.int ((1 - st.game.turn:Nat):Int)
    congr 1;omega
   dsimp only
   rw [et,yu,om]
   have hgO:O≠g:=Ne.symm (aV ae hO)
   have k3:∀ {b:Addr} {o o':HO},H1 b=some o->(∀ C dx fs,o≠.ins C dx fs)->(upd H3 g o') b=some o:=fun hb tG=>by
    rw [aD (dX hb (s1 _ _ cK) (tG _ _ _))];exact s3 _ _ (nd hb tG)
   have hO1:H1 O=none:=by rw [aD hgO] at hO;exact hO
   have agT:O≠pl:=Ne.symm (aV (s1 _ _ kF) hO1)
   refine ⟨_,rfl,g,D,pl,{ eY ⟨rB st.rules,s_ st.rules st.game⟩ past with past:=past },rfl,⟨dx,pa,O,ae,k3 (s1 _ _ my) (fun _ _ _ z=>nomatch z),by rw [aD hgO];exact hO3,k3 c3 (fun _ _ _ z=>nomatch z),
    ⟨ts,k3 (s1 _ _ kF) (fun _ _ _ z=>nomatch z),Eo.mono fun b q ⟨o2,z1,z2,z3⟩=>⟨o2,z1,k3 (s1 _ _ z2) (fun _ _ _ z=>nomatch z),k3 (s1 _ _ z3) (fun _ _ _ z=>nomatch z)⟩⟩,qM,agT⟩,fun H4 qp hg4 e4 XM=>?_⟩
   refine k H4 D qp hg4 ?_ hD ?_
   ·refine bh.trans ?_ e4
    refine bh.upd ?_ (by simp)
    intro b o hb nb
    refine s3 _ _ ?_
    rw [aD (fun e=>nb (by rw [e];simp))]
    exact s1 _ _ hb
   ·cases hq:H qp with
    | none=>rfl
    | some o=>
     exfalso
     by_cases e:qp=g
     ·rw [e,ae] at XM;cases XM
     ·rw [aD e] at XM
      have:(upd H1 g (.ins t.aF dx (gf st.rules.n pa (dm st.rules.tie) oa st.game.turn st.game.left D pl))) qp=some o:=by rw [aD e];exact s1 _ _ hq
      rw [s3 _ _ this] at XM;cases XM
end
def sN:HO->Prop
 | .zo _=>False
 | .ext _=>False
 | _=>True
def cW (H H':Hp):Prop:=∀ b o,H b=some o->sN o->H' b=some o
theorem cW.of {H H':Hp} (s:aM H H'):cW H H':=fun b o e _=>s b o e
theorem cW.trans {H H1 H2:Hp} (a:cW H H1) (b:cW H1 H2):cW H H2:=fun c o e n=>b c o (a c o e n) n
theorem cW.refl (H:Hp):cW H H:=fun _ _ e _=>e
theorem bh.solid {ex:List Addr} {H H':Hp} (s:bh ex H H') (h:∀ a∈ex,∀ o,H a=some o->¬ sN o):cW H H':=fun b o e so=>s b o e fun m=>h b m o e so
theorem mC.onS {C:Addr} {H H':Hp} {g pd pl:Addr} {x:Raw} (h:mC C H g pd pl x) (s:cW H H'):mC C H' g pd pl x:=by
 obtain ⟨dx,pa,oa,h1,h2,h3,h4,⟨ts,h5,h6⟩,h7,h8⟩:=h
 exact ⟨dx,pa,oa,s _ _ h1 trivial,s _ _ h2 trivial,s _ _ h3 trivial,s _ _ h4 trivial,⟨ts,s _ _ h5 trivial,h6.mono fun a q ⟨o,z1,z2,z3⟩=>⟨o,z1,s _ _ z2 trivial,s _ _ z3 trivial⟩⟩,h7,h8⟩
theorem cW.seq {K:ab} {H H':Hp} {a:Addr} {xs:List V} (e:cW H H') (h:bO K H a xs):bO K H' a xs:=by
 rcases h with (h | ⟨o,h⟩) | h
 ·exact .inl (.inl (e _ _ h trivial))
 ·exact .inl (.inr ⟨o,e _ _ h trivial⟩)
 ·exact .inr h
def VS (st:Stmt):Pos:=match jG st with
 | [.Return (some (.Call _ _ [⟨_,.Lambda _ _ _ p,_⟩] _)) _]=>p
 | [.Return (some (.Subscript (.Call _ _ [⟨_,.Lambda _ _ _ p,_⟩] _) _ _)) _]=>p
 | _=>⟨0,0,0,0⟩
abbrev lp1:Pos:=VS iG
abbrev lp2:Pos:=VS gj
abbrev X8:Str:=Str.ofString "best_for.<locals>.<lambda>"
abbrev lq2:Str:=Str.ofString "best_move.<locals>.<lambda>"
structure X9 (K:ab) (x qual:Str) (st:Stmt) (f:Addr) (fd:FuncData) (c Pt:Addr):Prop where
 ex:∃ (oc:Value) (od:Option Addr) (kV doc pm:Value) (an:Option Addr) (ct:Value) (Hu:Array (Option Value)),
  fd=dW x qual (ou st) (jG st) (aE st) .none kV doc pm an (.ref c) ct/\K.lookup f=some ⟨oc,od,.func fd,Hu⟩/\lH K (.ref c) qual=true
 hd:pV K c Pt=true
theorem X9.ok {P:Program} {w:World} {K:ab} {mg:Str->Option Value} {base:Heap} {x qual:Str} {st:Stmt} {f:Addr} {fd:FuncData} {c Pt:Addr} {N ps:List Str} {k:Nat} {sp:Sp} (F:X9 K x qual st f fd c Pt) (S:a4 N ps (aE st)) (len:∀ vs H Q E,sp vs H Q E->vs.length=ps.length)
  (xq:∀ (A:Around) (outer:List Env) (s:Shared) (H:Hp) (vs:List V) (Q:VK) (E:XK),kE k (A.deeper (envOfC qual (aE st) s.heap.objs.size f (.ref c)))->sp vs H Q E->
   ∃ t,Rm (PL fw P w K mg base N qual (aE st) f (.ref c) A outer s H E).nox (jG st) t/\t { nx:=fun _ H'=>Q .jU H',rt:=Q } (start N vs) H):bY P w K mg base fw (k+1) f fd ps sp:=by
 obtain ⟨oc,od,kV,doc,pm,an,ct,Hu,rfl,lk,MQ⟩:=F.ex
 refine Ys lk MQ S len fun A outer s H vs Q E hr WG=>?_
 obtain ⟨t,h,q⟩:=xq A outer s H vs Q E hr WG
 exact ⟨t,h.nox,q⟩
structure tE (K:ab) (t:uZ) (c1 P1 c2 P2:Addr):Prop where
 L1:X9 K "best_for" "best_for" iG t.gM t.iP c1 P1
 L2:X9 K "best_move" "best_move" gj t.gp t.g_ c2 P2
 ne:P1≠P2
theorem TabOk.not {H:Hp} {Pt:Addr} {q:Str} {p:Pos} (h:TabOk H Pt q p):∀ o,H Pt=some o->¬ sN o:=fun o e=>by
 rcases h with h | ⟨c,h,_⟩
 ·rw [h] at e;cases e;exact id
 ·rw [h] at e;cases e;exact id
theorem sI.not {P:Program} {w:World} {H:Hp} {d:Addr} {kvs:List (qo×V)} (h:sI P w H d kvs):∀ o,H d=some o->¬ sN o:=fun o e=>by
 obtain ⟨xs,h,_⟩:=h
 rw [h] at e;cases e;exact id
theorem TabOk.other {H H':Hp} {Pt P2:Addr} {q q2:Str} {p p2:Pos} (h:TabOk H Pt q p) (h2:TabOk H P2 q2 p2) (s:bh [Pt] H H') (ne:Pt≠P2):TabOk H' P2 q2 p2:=by
 have nP:P2∉[Pt]:=fun z=>ne (ay.mp z).symm
 rcases h2 with h2 | ⟨c,h2,h3⟩
 ·exact .inl (s _ _ h2 nP)
 ·refine .inr ⟨c,s _ _ h2 nP,s _ _ h3 fun z=>?_⟩
  have e:=ay.mp z
  subst e
  rcases h with h | ⟨c',h,_⟩
  ·rw [h] at h3;cases h3
  ·rw [h] at h3;cases h3
theorem sI.other {P:Program} {w:World} {H H':Hp} {Pt d:Addr} {q:Str} {p:Pos} {kvs:List (qo×V)} (h2:sI P w H d kvs) (h:TabOk H Pt q p) (s:bh [Pt] H H'):sI P w H' d kvs:=by
 obtain ⟨xs,h1,r⟩:=h2
 have ne:∀ {b o},H b=some o->(∀ x,o≠.zo x)->b∉[Pt]:=fun {b o} e n z=>by
  have e2:=ay.mp z
  subst e2
  rcases h with h | ⟨c',h,_⟩
  ·rw [h] at e;exact n _ (aj.inj e).symm
  ·rw [h] at e;exact n _ (aj.inj e).symm
 refine ⟨xs,s _ _ h1 (ne h1 (fun _ z=>nomatch z)),Paired.Pp r fun _ _ z=>⟨z.1,z.2.1.keeps fun b ys e=>s _ _ e (ne e (fun _ z=>nomatch z)),z.2.2⟩⟩
def vd (st:Stmt):Scope:=match jG st with
 | [.Return (some (.Call _ _ [⟨_,.Lambda _ _ sc _,_⟩] _)) _]=>sc
 | [.Return (some (.Subscript (.Call _ _ [⟨_,.Lambda _ _ sc _,_⟩] _) _ _)) _]=>sc
 | _=>{ kind:=.function,names:=[],isGenerator:=false,isCoroutine:=false }
theorem adf:yl "result" "team" (vd iG):=⟨rfl,rfl,rfl,by decide +kernel,by decide +kernel,by decide +kernel,fun z h=>(by decide +kernel:∀ p∈(vd iG).names,p.2=.free->p.1=("team":Str)) _ (PySem.mem_of_lookup h) rfl,by decide +kernel⟩
theorem adg:yl "pair" "turn" (vd gj):=⟨rfl,rfl,rfl,by decide +kernel,by decide +kernel,by decide +kernel,fun z h=>(by decide +kernel:∀ p∈(vd gj).names,p.2=.free->p.1=("turn":Str)) _ (PySem.mem_of_lookup h) rfl,by decide +kernel⟩
section
variable {P:Program} {w:World} {K:ab} {mg:Str->Option Value} {base:Heap} {t:uZ}
def yB:Sp:=fun vs H Q _=>∃ (u:Nat) (z:Int),vs=[vN u,.int (bR z)]/\Val z/\Q (.int (rk u z)) H
theorem Et (T:Txt K mg t):bY P w K mg base fw 1 t.m3 t.pC ["team","result"] yB:=by
 refine T.jO.ok N9 (fun vs H Q E h=>?_) (fun eW A outer s H vs Q E hr h=>?_)
 ·obtain ⟨u,z,rfl,_⟩:=h
  rfl
 ·obtain ⟨u,z,rfl,hz,k⟩:=h
  refine ⟨_,(ak (aK (xo (bu gh (pv 0) az (bP _)) (bQ fS (eX rfl T.KL) (pv 1) (fun _ _=>rfl)) (Jd Cz (bQ fS (eX rfl T.KL) (pv 1) (fun _ _=>rfl)))))),?_⟩
  try dsimp only [cxK]
  have hR:oX K H t.rG [.int 1,.int 2,.int 0]:=T.RT.sq H
  have hat:M8 [V.int 1,.int 2,.int 0] (bR z)=some (.int (z+1)):=by
   rcases hz with rfl | rfl | rfl<;>rfl
  refine ⟨_,rfl,rfl,_,rfl,?_⟩
  rw [b_]
  unfold rk at k
  by_cases h:u=0
  ·rw [decide_eq_true (by omega)]
   rw [if_pos h] at k
   exact cz ⟨_,rfl,t.rG,_,_,_,rfl,rfl,hR,hat,k⟩
  ·rw [decide_eq_false (by omega)]
   rw [if_neg h] at k
   refine cC ⟨_,rfl,t.rG,_,_,_,rfl,rfl,hR,hat,?_⟩
   exact ⟨_,rfl,k⟩
def n9 (z:Int):V:=.int (bR z)
def yC (K:ab) (P1:Addr):Sp:=fun vs H Q _=>∃ (u:Nat) (a:Addr) (zs:List Int),vs=[vN u,.ref a]/\bO K H a (zs.map n9)/\zs≠[]/\(∀ z∈zs,Val z)/\TabOk H P1 X8 lp1/\
 ∀ H',TabOk H' P1 X8 lp1->bh [P1] H H'->Q (n9 (lM (u==0) zs)) H'
theorem Eu (T:Txt K mg t) {c1 P1 c2 P2:Addr} (L:tE K t c1 P1 c2 P2) (hB:BMain base mg):bY P w K mg base fw 4 t.gM t.iP ["team","results"] (yC K P1):=by
 refine L.L1.ok N_ (fun vs H Q E h=>?_) (fun A outer s H vs Q E hr h=>?_)
 ·obtain ⟨u,a,zs,rfl,_⟩:=h
  rfl
 ·obtain ⟨u,a,zs,rfl,ha,tH,hv,XG,k⟩:=h
  refine ⟨_,ak (aK (JM (x:="result") (y:="team") (lq:=X8) (lscope:=vd iG) (k:=1) (iy:=0) (c:=c1) (Pt:=P1) (tb:=Us yB [] E0 (Fv (Br 1) (Fv (Br 0) Ur))) hB rfl T.F9 rfl L.L1.hd adf (show Str.ofString "best_for"++Str.ofString ".<locals>."++Str.ofString "<lambda>"=X8 by decide +kernel) rfl rfl hr rfl (pv 1)
   (fun f cd cl A outer s H WM=>aN (Et T) WM rfl T.AJ T.jO.kp (Gj T) .nil bp (aa (pv 1) (aa (pv 0) ai))))),?_⟩
  try dsimp only [cxK]
  refine ⟨_,rfl,a,zs.map n9,fun i=>rk u (zs.getD i 0),vN u,rfl,ha,?_,rfl,XG,fun H2 Bo s2=>⟨fun i v hi=>?_,fun i v hi hx=>?_⟩⟩
  ·rw [U];exact iZ.mpr tH
  ·rw [ax] at hi
   obtain ⟨z,hz,rfl⟩:=aZ.mp hi
   exact ⟨_,rfl,_,rfl,u,z,rfl,hv z (aT hz),by show V.int (rk u z)=V.int (rk u (zs.getD i 0));rw [bD,hz];rfl,rfl⟩
  ·rw [ax] at hi
   obtain ⟨z,hz,rfl⟩:=aZ.mp hi
   have e:lM (u==0) zs=z:=RI (aT hz) fun y hy=>by
    obtain ⟨j,hj,rfl⟩:=List.getElem_of_mem hy
    have:rk u (zs.getD i 0)>=rk u (zs.getD j 0):=(hx j (by rw [U];exact hj)).1
    rw [bD,bD,hz,a7 hj] at this
    exact this
   have k:=k H2 Bo s2
   rw [e] at k
   exact k
def OS (C:Addr):Sp:=fun vs H Q _=>∃ (g pd pl:Addr) (s:aS) (past:List aP),vs=[.ref g]/\mC C H g pd pl (eY s past)/\kG s 6/\Q (.bl (!gO s.rules s.game)) H
theorem xl (T:Txt K mg t):bY P w K mg base fw 1 t.dn t.d9 ["game"] (OS t.aF):=by
 refine T.cV.ok gP (fun vs H Q E h=>?_) (fun eW A outer s H vs Q E hr h=>?_)
 ·obtain ⟨g,pd,pl,s,past,rfl,_⟩:=h
  rfl
 ·obtain ⟨g,pd,pl,st,past,rfl,hg,hf,k⟩:=h
  refine ⟨_,(ag (gR 1 gP.nd az)
   (ag (gE PassesOwn.never rfl (Cw rfl T.jQ (aa (bb (pv 0) rfl) ai)) (uY 2 gP.nd)
   (ak (Ai (i:=1) gP.nd rfl (by first | exact Or.inl rfl | exact Or.inr rfl) (cB oq (cB Cy az (bb (pv 0) rfl)) az) ZR)))
   (ak (aK (kx Jf (pv 1) (eX rfl T.u_) (bP _)))))),?_⟩
  try dsimp only [cxK]
  obtain ⟨dx,pa,oa,cK,_⟩:=id hg
  have cK:H g=some (.ins t.aF dx (gf st.rules.n pa (dm st.rules.tie) oa st.game.turn st.game.left pd pl)):=cK
  have hn:=hf.n (by decide)
  have JP:=hf.left
  have hlp:∀ i,i<=st.game.left->mj (2*st.rules.n+1) i<=7 ^ 20:=fun i hi=>bB (Ny (by omega) i) (lI (by decide) (by omega))
  refine ⟨_,rfl,g,_,dx,_,_,rfl,cK,T.aI,T.bZ,l_,_,rfl,by omega,by omega,?_⟩
  refine nj (lo:=0) (n:=st.game.left) (fun i σ H'=>∃ v2:Option V,σ=[some (.ref g),some (vN (mj (2*st.rules.n+1) i)),v2]/\H'=H) ⟨_,rfl,rfl⟩ ?_ ?_
  ·rintro i σ H' hi EE ⟨v2,rfl,rfl⟩
   refine ⟨_,rfl,_,rfl,g,_,dx,_,_,rfl,cK,T.aI,T.bM,fM,_,_,rfl,rfl,.inl ⟨by decide,by decide⟩,_,_,rfl,rfl,_,_,rfl,rfl,.inr ⟨by omega,by omega⟩,some (.int (0+(i:Int))),?_,rfl⟩
   have e:((mj (2*st.rules.n+1) i:Nat):Int)*(2*(st.rules.n:Int)+1)=((mj (2*st.rules.n+1) (i+1):Nat):Int):=by
    rw [FO];push_cast;rfl
   show [some (V.ref g),some (V.int (((mj (2*st.rules.n+1) i:Nat):Int)*(2*(st.rules.n:Int)+1))),some (V.int (0+(i:Int)))]=_
   rw [e]
  ·rintro σ H' ⟨v2,rfl,rfl⟩
   refine ⟨_,rfl,_,_,rfl,rfl,?_⟩
   unfold gO Vbrezy.POSITIONS at k
   have e:(decide ((100000:Int)<((mj (2*st.rules.n+1) st.game.left:Nat):Int)))=!decide (mj (2*st.rules.n+1) st.game.left<=100000):=by
    rw [<- decide_not];exact decide_eq_decide.mpr (by omega)
   rw [<- e] at k
   exact k
end
def kq (o:List Nat) (u l:Nat):qo:=(o.map fun (n:Nat)=>Sum.inl (n:Int),Sum.inl (u:Int),Sum.inl (l:Int))
theorem GS {o o':List Nat} {u u' l l':Nat} (h:kq o u l=kq o' u' l'):o=o'/\u=u'/\l=l':=by
 have h1:(o.map fun (n:Nat)=>(Sum.inl (n:Int):Key))=o'.map fun (n:Nat)=>Sum.inl (n:Int):=congrArg Prod.fst h
 have h2:(Sum.inl (u:Int):Key)=Sum.inl (u':Int):=congrArg (fun z=>z.2.1) h
 have h3:(Sum.inl (l:Int):Key)=Sum.inl (l':Int):=congrArg (fun z=>z.2.2) h
 refine ⟨?_,rZ.inj (Sum.inl.inj h2),rZ.inj (Sum.inl.inj h3)⟩
 exact (sZ (fun x y e=>rZ.inj (Sum.inl.inj e))).mp h1
structure qc (r:aR) (kind:Nat) (kvs:List (qo×V)):Prop where
 nd:(kvs.map (·.1)).Nodup
 all:∀ p∈kvs,∃ o u l,p.1=kq o u l/\o.length=2*r.n/\(∀ b∈o,b<6)/\u<=1/\l<=20/\p.2=n9 (bG r kind l ⟨o,u,l⟩)
theorem OT {κ:Type} [DecidableEq κ] {k:κ} {v:V}:∀ {kvs:List (κ×V)},jj kvs k=some v->(k,v)∈kvs
 | [],h=>by cases h
 | p::r,h=>by
  by_cases e:p.1=k
  ·rw [i6 e] at h
   have:p=(k,v):=Prod.ext e (aj.inj h)
   rw [this];exact .head _
  ·rw [g8 e] at h
   exact .tail _ (OT h)
theorem JU {κ:Type} [DecidableEq κ] {k:κ}:∀ {kvs:List (κ×V)},jj kvs k=none->k∉kvs.map (·.1)
 | [],_=>by simp
 | p::r,h=>by
  by_cases e:p.1=k
  ·rw [i6 e] at h;cases h
  ·rw [g8 e] at h
   rw [aC,aw]
   exact fun z=>z.elim (fun z=>e z.symm) (JU h)
theorem OU {κ:Type} [DecidableEq κ] {k k':κ} {v:V}:∀ {kvs:List (κ×V)},k≠k'->jj (kvs++[(k',v)]) k=jj kvs k
 | [],h=>by rw [jZ,g8 (fun z=>h z.symm)]
 | p::r,h=>by
  by_cases e:p.1=k
  ·rw [jg,i6 e,i6 e]
  ·rw [jg,g8 e,g8 e,OU h]
theorem JV {κ:Type} [DecidableEq κ] {k:κ} {v:V}:∀ {kvs:List (κ×V)},jj kvs k=none->jj (kvs++[(k,v)]) k=some v
 | [],_=>by rw [jZ,i6 rfl]
 | p::r,h=>by
  by_cases e:p.1=k
  ·rw [i6 e] at h;cases h
  ·rw [g8 e] at h
   rw [jg,g8 e,JV h]
theorem qc.val {r:aR} {kind:Nat} {kvs:List (qo×V)} (h:qc r kind kvs) {o:List Nat} {u l:Nat} {v:V} (hv:jj kvs (kq o u l)=some v):v=n9 (bG r kind l ⟨o,u,l⟩):=by
 obtain ⟨o',u',l',e,_,_,_,_,ev⟩:=h.all _ (OT hv)
 obtain ⟨rfl,rfl,rfl⟩:=GS e
 exact ev
theorem qc.put {r:aR} {kind:Nat} {kvs:List (qo×V)} (h:qc r kind kvs) {o:List Nat} {u l:Nat} (hn:jj kvs (kq o u l)=none) (h1:o.length=2*r.n) (h2:∀ b∈o,b<6) (h3:u<=1) (h4:l<=20):
  qc r kind (kvs++[(kq o u l,n9 (bG r kind l ⟨o,u,l⟩))]):=by
 refine ⟨?_,fun p hp=>?_⟩
 ·rw [aX,oO]
  refine ⟨h.nd,by simp,fun a ha b hb e=>?_⟩
  have hb:b=kq o u l:=by simpa using hb
  subst e hb
  exact JU hn ha
 ·rcases bS.mp hp with q | q
  ·exact h.all p q
  ·rw [ay.mp q]
   exact ⟨o,u,l,rfl,h1,h2,h3,h4,rfl⟩
def enc:List Nat->Nat
 | []=>0
 | d::l=>d+6*enc l
theorem VT:∀ (l:List Nat),(∀ b∈l,b<6)->enc l<6 ^ l.length
 | [],_=>by decide
 | d::l,h=>by
  have h1:=VT l fun b hb=>h b (.tail _ hb)
  have h2:=h d (.head _)
  rw [aq,oN]
  show d+6*enc l<_
  omega
theorem enc_inj:∀ (l m:List Nat),l.length=m.length->(∀ b∈l,b<6)->(∀ b∈m,b<6)->enc l=enc m->l=m
 | [],[],_,_,_,_=>rfl
 | d::l,e::m,hl,h1,h2,he=>by
  have he:d+6*enc l=e+6*enc m:=he
  have h3:=h1 d (.head _)
  have h4:=h2 e (.head _)
  have:=enc_inj l m (by simpa using hl) (fun b hb=>h1 b (.tail _ hb)) (fun b hb=>h2 b (.tail _ hb)) (by omega)
  rw [this]
  have:d=e:=by omega
  rw [this]
theorem QX {α:Type} (f:α->Nat->Prop) (n:Nat):∀ (l:List α),l.Nodup->(∀ a∈l,∃ c,f a c/\c<n)->(∀ a∈l,∀ b∈l,∀ c,f a c->f b c->a=b)->l.length<=n:=by
 intro l hn h1 h2
 have:∃ m:List Nat,m.length=l.length/\m.Nodup/\(∀ c∈m,c<n)/\∀ c∈m,∃ a∈l,f a c:=by
  induction l with
  | nil=>exact ⟨[],rfl,jf,(fun _ h=>nomatch h),(fun _ h=>nomatch h)⟩
  | cons a l ih=>
   rw [cE] at hn
   obtain ⟨m,g1,g2,g3,g4⟩:=ih hn.2 (fun b hb=>h1 b (.tail _ hb)) (fun b hb c hc=>h2 b (.tail _ hb) c (.tail _ hc))
   obtain ⟨c,hc,iX⟩:=h1 a (.head _)
   refine ⟨c::m,by simp [g1],cE.mpr ⟨fun hm=>?_,g2⟩,fun x hx=>?_,fun x hx=>?_⟩
   ·obtain ⟨b,hb,hbc⟩:=g4 c hm
    have:=h2 a (.head _) b (.tail _ hb) c hc hbc
    exact hn.1 (this▸hb)
   ·rcases aw.mp hx with e | e
    ·rw [e];exact iX
    ·exact g3 x e
   ·rcases aw.mp hx with e | e
    ·exact ⟨a,.head _,e▸hc⟩
    ·obtain ⟨b,hb,hbc⟩:=g4 x e
     exact ⟨b,.tail _ hb,hbc⟩
 obtain ⟨m,g1,g2,g3,_⟩:=this
 rw [<- g1]
 exact GL n m g2 g3
theorem qc.size {r:aR} {kind:Nat} {kvs:List (qo×V)} (h:qc r kind kvs) (hn:r.n<=3):kvs.length<sizeLine:=by
 have:=QX (fun (k:qo) c=>∃ o u l,k=kq o u l/\o.length=2*r.n/\(∀ b∈o,b<6)/\u<=1/\l<=20/\c=(enc o*2+u)*21+l) (46656*42) (kvs.map (·.1)) h.nd ?_ ?_
 ·rw [U] at this
  rw [sizeLine_eq]
  omega
 ·intro k hk
  obtain ⟨p,hp,rfl⟩:=aO.mp hk
  obtain ⟨o,u,l,e,h1,h2,h3,h4,_⟩:=h.all p hp
  refine ⟨_,⟨o,u,l,e,h1,h2,h3,h4,rfl⟩,?_⟩
  have:=VT o h2
  have h6:6 ^ o.length<=6 ^ 6:=lI (by decide) (by omega)
  have:(6:Nat) ^ 6=46656:=by decide
  omega
 ·rintro a _ b _ c ⟨o,u,l,rfl,h1,h2,h3,h4,e1⟩ ⟨o',u',l',rfl,g1,g2,g3,g4,e2⟩
  have e:enc o=enc o'/\u=u'/\l=l':=by omega
  obtain ⟨e3,rfl,rfl⟩:=e
  rw [enc_inj o o' (by omega) h2 g2 e3]
def Below (m:Nat) (kvs kr:List (qo×V)):Prop:=∀ o u l,m<=l->jj kr (kq o u l)=jj kvs (kq o u l)
theorem Below.trans {m:Nat} {a b c:List (qo×V)} (h1:Below m a b) (h2:Below m b c):Below m a c:=fun o u l h=>(h2 o u l h).trans (h1 o u l h)
theorem Below.refl (m:Nat) (a:List (qo×V)):Below m a a:=fun _ _ _ _=>rfl
theorem Below.mono {m n:Nat} {a b:List (qo×V)} (h:Below m a b) (hm:m<=n):Below n a b:=fun o u l hl=>h o u l (bB hm hl)
def sf (g:Addr) (k:Nat) (kd:Addr):List (Str×V):=[("game",.ref g),("goal",vN k),("known",.ref kd)]
theorem LH {g kd:Addr} {k:Nat}:(sf g k kd).lookup ("game":Str)=some (.ref g):=by kernel_rfl
theorem R7 {g kd:Addr} {k:Nat}:(sf g k kd).lookup ("goal":Str)=some (vN k):=by kernel_rfl
theorem GU {g kd:Addr} {k:Nat}:(sf g k kd).lookup ("known":Str)=some (.ref kd):=by kernel_rfl
structure Pl where
 P:Program
 w:World
 K:ab
 C:Addr
 CS:Addr
 P1:Addr
 P2:Addr
structure Tt (p:Pl) (H:Hp) (se g pd pl kd:Addr) (s:aS) (past:List aP) (kind:Nat) (kvs:List (qo×V)):Prop where
 obj:∃ dx,H se=some (.ins p.CS dx (sf g kind kd))
 gm:mC p.C H g pd pl (eY s past)
 kn:sI p.P p.w H kd kvs
 ok:qc s.rules kind kvs
 t1:TabOk H p.P1 X8 lp1
 t2:TabOk H p.P2 lq2 lp2
theorem Tt.on {p:Pl} {H H':Hp} {se g pd pl kd:Addr} {s:aS} {past:List aP} {kind:Nat} {kvs:List (qo×V)} (h:Tt p H se g pd pl kd s past kind kvs) (z:aM H H'):Tt p H' se g pd pl kd s past kind kvs:=
 ⟨let ⟨dx,e⟩:=h.obj;⟨dx,z _ _ e⟩,h.gm.on z,h.kn.on z,h.ok,h.t1.on z,h.t2.on z⟩
theorem adh {P:Program} {w:World} {d:Addr} {xs:List (qo×Addr×Value)} {q:Str}:Ek P w d xs≠.ext fun h=>h.CodeRec (.ref d) q:=by
 intro e
 have e:=HO.ext.inj e
 let o:Obj:={ cls:=.none,data:=.fields #[.none,.str q 0] }
 let h:Heap:={ objs:=Array.replicate (d+1) o }
 have hg:h.get? d=some o:=by
  have e2:h.objs[d]?=some o:=by
   show (Array.replicate (d+1) o)[d]?=some o
   simp
  unfold Heap.get?
  rw [e2]
 have h1:h.CodeRec (.ref d) q:=⟨d,o,_,0,rfl,hg,rfl,rfl⟩
 have h2:=congrFun e h
 rw [<- h2] at h1
 obtain ⟨_,_,o2,es,ep,g1,_,g3,_⟩:=h1
 rw [hg] at g1
 cases g1
 cases g3
theorem TabOk.YN {P:Program} {w:World} {H H':Hp} {Pt d:Addr} {q:Str} {p:Pos} {kvs:List (qo×V)} (h:TabOk H Pt q p) (hd:sI P w H d kvs) (z:bh [d] H H'):TabOk H' Pt q p:=by
 obtain ⟨xs,hd,_⟩:=hd
 have ne:∀ {ps},H Pt=some (.zo ps)->Pt∉[d]:=fun e m=>by rw [ay.mp m,hd] at e;cases e
 rcases h with h | ⟨c,h,h2⟩
 ·exact .inl (z _ _ h (ne h))
 ·refine .inr ⟨c,z _ _ h (ne h),z _ _ h2 fun m=>?_⟩
  have e:=ay.mp m
  subst e
  rw [hd] at h2
  exact adh (aj.inj h2)
theorem R8 {P:Program} {w:World} {K:ab} {mg:Str->Option Value} {base:Heap} {k:Nat} {f:Addr} {fd:FuncData} {ps:List Str}:bY P w K mg base fw k f fd ps (fun _ _ _ _=>False):=⟨fun _ _ _ _ h=>h.elim,fun _ _ _ _ _ _ _ _ _ _ _ _ _ h=>h.elim⟩
structure GW (p:Pl) (H:Hp) (kd:Addr) (r:aR) (kind:Nat) (kvs:List (qo×V)):Prop where
 kn:sI p.P p.w H kd kvs
 ok:qc r kind kvs
 t1:TabOk H p.P1 X8 lp1
 t2:TabOk H p.P2 lq2 lp2
section
variable {p:Pl} {H H':Hp} {se g pd pl kd:Addr} {s:aS} {past:List aP} {kind:Nat} {kvs kr:List (qo×V)}
theorem Tt.dyn (h:Tt p H se g pd pl kd s past kind kvs):GW p H kd s.rules kind kvs:=⟨h.kn,h.ok,h.t1,h.t2⟩
theorem Tt.at (h:Tt p H se g pd pl kd s past kind kvs) (z:cW H H') (d:GW p H' kd s.rules kind kr):Tt p H' se g pd pl kd s past kind kr:=
 ⟨let ⟨dx,e⟩:=h.obj;⟨dx,z _ _ e trivial⟩,h.gm.onS z,d.kn,d.ok,d.t1,d.t2⟩
theorem GW.on {r:aR} (h:GW p H kd r kind kvs) (z:aM H H'):GW p H' kd r kind kvs:=⟨h.kn.on z,h.ok,h.t1.on z,h.t2.on z⟩
theorem TabOk.tU {Pt B:Addr} {q:Str} {ps:Pos} {xs ys:List V} (h:TabOk H Pt q ps) (hB:H B=some (.lst xs)):TabOk (upd H B (.lst ys)) Pt q ps:=by
 rcases h with h | ⟨c,h1,h2⟩
 ·exact .inl (by rw [aD (dX h hB (fun z=>nomatch z))];exact h)
 ·exact .inr ⟨c,by rw [aD (dX h1 hB (fun z=>nomatch z))];exact h1,by rw [aD (dX h2 hB (fun z=>nomatch z))];exact h2⟩
theorem sI.tU {P:Program} {w:World} {d B:Addr} {xs ys:List V} (h:sI P w H d kvs) (hB:H B=some (.lst xs)):sI P w (upd H B (.lst ys)) d kvs:=by
 obtain ⟨zs,h1,h2⟩:=h
 exact ⟨zs,by rw [aD (dX h1 hB (fun z=>nomatch z))];exact h1,Paired.Pp h2 fun _ _ z=>⟨z.1,z.2.1.keeps fun b us e=>by rw [aD (dX e hB (fun z=>nomatch z))];exact e,z.2.2⟩⟩
theorem GW.tU {r:aR} {B:Addr} {xs ys:List V} (h:GW p H kd r kind kvs) (hB:H B=some (.lst xs)):GW p (upd H B (.lst ys)) kd r kind kvs:=⟨h.kn.tU hB,h.ok,h.t1.tU hB,h.t2.tU hB⟩
theorem cW.cZ {B:Addr} {o:HO} (h:cW H H') (hB:H B=none):cW H (upd H' B o):=fun b u e su=>by rw [aD (aV e hB)];exact h b u e su
theorem jX {n:Nat} {o:List Nat} (h:o.Perm (aY (2*n))):Ord n o:=⟨by rw [h.length_eq,ck],fun b hb=>cH.mp (h.mem_iff.mp hb)⟩
theorem zF {r:aR} {y:aP} {m:Nat} (h:bz r y m=true):m=0\/(2<=placeOf m/\placeOf m<=y.order.length/\¬ m=100):=by
 by_cases h0:m=0
 ·exact .inl h0
 ·refine .inr ?_
  unfold bz at h
  rw [if_neg h0] at h
  unfold placeOf
  by_cases h1:m<100
  ·rw [if_pos h1] at h ⊢
   by_cases h2:m=1
   ·rw [if_pos h2] at h
    split at h
    ·rename_i e;cases e
    ·cases h
   ·cases q:y.order[m - 1]? with
    | none=>rw [q] at h;cases h
    | some b=>
     have:=(aH.mp q).1
     exact ⟨by omega,by omega,by omega⟩
  ·rw [if_neg h1] at h ⊢
   by_cases h2:m=100
   ·rw [if_pos h2] at h
    split at h
    ·rename_i e _;cases e
    ·cases h
   ·rw [if_neg h2] at h
    cases q:y.order[m - 100]? with
    | none=>rw [q] at h;split at h<;>first | cases h | (rename_i e;cases e)
    | some b=>
     have:=(aH.mp q).1
     exact ⟨by omega,by omega,h2⟩
theorem Ff {r:aR} {y:aP} {m:Nat} (h:m∈bg r y):bz r y m=true:=by
 unfold bg at h
 exact (g6.mp h).2
theorem zG {r:aR} (y:aP) (hn:r.n<=3):(bg r y).length<=13:=by
 unfold bg
 refine bB (ku _ _) ?_
 rw [ao,U,ck,ck];omega
end
def yD (p:Pl) (l:Nat):Sp:=fun vs H Q _=>∃ (se g pd pl kd oa:Addr) (s:aS) (past:List aP) (kind:Nat) (kvs:List (qo×V)) (o:List Nat) (u:Nat),vs=[.ref se,.ref oa,vN u,vN l]/\Tt p H se g pd pl kd s past kind kvs/\bO p.K H oa (o.map vN)/\
 o.Perm (aY (2*s.rules.n))/\u<=1/\l<=20/\kind<=2/\kG s 6/\
 ∀ H' kr,GW p H' kd s.rules kind kr->cW H H'->Below (l+1) kvs kr->Q (n9 (bG s.rules kind l ⟨o,u,l⟩)) H'
def vX (p:Pl) (l:Nat):Sp:=fun vs H Q _=>∃ (se g pd pl kd oa:Addr) (s:aS) (past:List aP) (kind:Nat) (kvs:List (qo×V)) (o:List Nat) (u:Nat),vs=[.ref se,.ref oa,vN u,vN l]/\Tt p H se g pd pl kd s past kind kvs/\bO p.K H oa (o.map vN)/\
 o.Perm (aY (2*s.rules.n))/\u<=1/\l<=20/\kind<=2/\kG s 6/\
 ∀ H' kr,GW p H' kd s.rules kind kr->cW H H'->Below l kvs kr->Q (n9 (bG s.rules kind l ⟨o,u,l⟩)) H'
def R9 (H:Hp) (a:Addr) (ms:List Nat) (f:Nat->Int):Prop:=∃ ts:List Addr,H a=some (.lst (ts.map V.ref))/\Paired (fun b m=>H b=some (.tup [vN m,n9 (f m)])) ts ms
def ve (p:Pl) (l:Nat):Sp:=fun vs H Q _=>∃ (se g pd pl kd oa:Addr) (s:aS) (past:List aP) (kind:Nat) (kvs:List (qo×V)) (o:List Nat) (u:Nat),vs=[.ref se,.ref oa,vN u,vN (l+1)]/\Tt p H se g pd pl kd s past kind kvs/\bO p.K H oa (o.map vN)/\
 o.Perm (aY (2*s.rules.n))/\u<=1/\l+1<=20/\kind<=2/\kG s 6/\
 ∀ H' kr a,GW p H' kd s.rules kind kr->cW H H'->Below (l+1) kvs kr->H a=none->R9 H' a (bg s.rules ⟨o,u,l+1⟩) (fun m=>bG s.rules kind l (bJ ⟨o,u,l+1⟩ m))->Q (.ref a) H'
section
variable {P:Program} {w:World} {K:ab} {mg:Str->Option Value} {base:Heap} {t:uZ}
theorem pO (T:Txt K mg t) {P1 P2:Addr} {l:Nat} (sO:bY P w K mg base fw (3*l+6) t.jK t.kS ["search","order","turn","left"] (yD ⟨P,w,K,t.aF,t.a5,P1,P2⟩ l)):
  bY P w K mg base fw (3*l+7) t.dR t.e7 ["search","order","turn","left"] (ve ⟨P,w,K,t.aF,t.a5,P1,P2⟩ l):=by
 refine T.c4.ok pK (fun vs H Q E h=>?_) (fun eW A outer s H vs Q E hr h=>?_)
 ·obtain ⟨se,g,pd,pl,kd,oa,s,past,kind,kvs,o,u,rfl,_⟩:=h
  rfl
 ·obtain ⟨se,g,pd,pl,kd,oa,st,past,kind,kvs,o,u,rfl,S,ho,tS,VD,OV,Ci,hf,k⟩:=h
  refine ⟨_,(ag (gR 4 pK.nd (bw ai))
   (ag (gE PassesOwn.never rfl (fv (aN (yx T) (hr.mono (by omega)) rfl T.vJ T.iR.kp (AQ T) .nil bp (aa (bb (pv 0) rfl) (aa (pv 1) (aa (pv 2) ai))))) (uY 5 pK.nd)
   (ak (cO (gG aB bc bf d8 (pv 4) (aa (r6 (aa (pv 5) (aa (aN sO (hr.mono (by omega)) rfl T.vK T.iS.kp (AS T) .nil bp (aa (pv 0) (aa (aN (qN T) (hr.mono (by omega)) rfl T.ox T.dM.kp (sF T) .nil bp (aa (pv 1) (aa (pv 5) ai))) (aa (cB iE az (pv 2)) (aa (cB iE (pv 3) az) ai))))) ai))) ai)))))
   (ak (aK (pv 4))))),?_⟩
  try dsimp only [cxK]
  have hn:=hf.n (by decide)
  have mH:=jX tS
  have QL:=mH.len
  obtain ⟨VU,VV⟩:=S.obj
  refine ⟨a0 _,fun B hB=>?_⟩
  have s0:=aM.new (o:=.lst []) hB
  refine ⟨_,rfl,se,_,VU,_,_,rfl,s0 _ _ VV,T.g0,T.eU,LH,_,rfl,_,rfl,g,pd,pl,oa,eY st past,st.rules,⟨o,u,l+1⟩,rfl,S.gm.on s0,rfl,rfl,hn,s0.seq ho,mH,fun H1 mv s1 aap hmv=>⟨mv,rfl,⟨_,bO.of hmv⟩,?_⟩⟩
  have s01:=s0.trans s1
  have Zo:=zG (r:=st.rules) ⟨o,u,l+1⟩ (by omega)
  have nmB:mv≠B:=fun e=>by rw [e,ae] at aap;cases aap
  refine oo (K:=K) (a:=mv) (xs:=(bg st.rules ⟨o,u,l+1⟩).map vN) (fun i σ H'=>∃ (v5:Option V) (ts:List Addr) (kr:List (qo×V)),σ=[some (.ref se),some (.ref oa),some (vN u),some (vN (l+1)),some (.ref B),v5]/\GW ⟨P,w,K,t.aF,t.a5,P1,P2⟩ H' kd st.rules kind kr/\cW H H'/\Below (l+1) kvs kr/\
    H' mv=some (.lst ((bg st.rules ⟨o,u,l+1⟩).map vN))/\H' B=some (.lst (ts.map V.ref))/\Paired (fun b m=>H' b=some (.tup [vN m,n9 (bG st.rules kind l (bJ ⟨o,u,l+1⟩ m))])) ts ((bg st.rules ⟨o,u,l+1⟩).take i))
   ⟨none,[],kvs,rfl,S.dyn.on s01,.of s01,Below.refl _ _,hmv,s1 _ _ ae,.nil⟩ (fun i σ H' _ ⟨_,_,_,_,_,_,_,q,_⟩=>bO.of q) ?_ ?_
  ·rintro i x σ H' hi EE ⟨v5,ts,kr,rfl,D,z,hb,adi,LI,hP⟩
   obtain ⟨m,hm,rfl⟩:=Dc hi
   have X_:=Ff (aT hm)
   have alU:=z _ _ VV trivial
   refine ⟨_,rfl,.inl ⟨rfl,_,bO.of LI⟩,_,rfl,_,rfl,_,rfl,_,rfl,oa,o,m,rfl,z.seq ho,by omega,zF X_,fun H2 ob s2 Tu Xt=>⟨_,rfl,_,_,rfl,rfl,_,rfl,_,_,rfl,rfl,?_⟩⟩
   have S2:=S.at (z.trans (.of s2)) (D.on s2)
   have eu:(1:Int) - ((u:Nat):Int)=((1 - u:Nat):Int):=by omega
   have el:((l+1:Nat):Int) - 1=((l:Nat):Int):=by omega
   refine ⟨se,g,pd,pl,kd,ob,st,past,kind,kr,jW o m,1 - u,?_,S2,bO.of Xt,?_,by omega,by omega,Ci,hf,fun H3 Ii D3 z3 b3=>?_⟩
   ·show [V.ref se,V.ref ob,V.int ((1:Int) - ((u:Nat):Int)),V.int (((l+1:Nat):Int) - 1)]=_
    rw [eu,el]
   ·exact (oZ ⟨o,u,l+1⟩ m).trans tS
   refine ⟨szB,fun tp E_=>?_⟩
   have s4:=aM.new (o:=.tup [vN m,n9 (bG st.rules kind l ⟨jW o m,1 - u,l⟩)]) E_
   have JW:=s4 _ _ (z3 _ _ (s2 _ _ LI) trivial)
   have hlen:=hP.length
   rw [bK] at hlen
   refine ⟨B,_,_,rfl,rfl,JW,by rw [U,sizeLine_eq];omega,?_⟩
   have zz:=((z.trans (.of s2)).trans z3).trans (.of s4)
   have nd:∀ {b:Addr} {q:HO},H' b=some q->sN q->(upd H3 tp (.tup [vN m,n9 (bG st.rules kind l ⟨jW o m,1 - u,l⟩)])) b=some q:=fun e so=>s4 _ _ (z3 _ _ (s2 _ _ e) so)
   refine ⟨_,ts++[tp],Ii,rfl,(D3.on s4).tU JW,zz.cZ hB,hb.trans b3,?_,?_,?_⟩
   ·rw [aD nmB];exact nd adi trivial
   ·rw [ae,aX];rfl
   ·rw [take_snoc hm]
    exact (hP.mono fun b m' e=>by rw [aD (dX e LI (fun z=>nomatch z))];exact nd e trivial).snoc (by rw [aD (Ne.symm (aV (z3 _ _ (s2 _ _ LI) trivial) E_))];exact ae)
  ·rintro σ H' ⟨v5,ts,kr,rfl,D,z,hb,adi,LI,hP⟩
   rw [U,cA] at hP
   exact ⟨_,rfl,k H' kr B D z hb hB ⟨ts,LI,hP⟩⟩
end
theorem GW.aaq {p:Pl} {H H':Hp} {kd:Addr} {r:aR} {kind:Nat} {kvs:List (qo×V)} (h:GW p H kd r kind kvs) (ne:p.P1≠p.P2) (ht:TabOk H' p.P1 X8 lp1) (z:bh [p.P1] H H'):GW p H' kd r kind kvs/\cW H H':=by
 have zs:cW H H':=z.solid fun a ha o e=>by rw [ay.mp ha] at e;exact h.t1.not o e
 exact ⟨⟨h.kn.other h.t1 z,h.ok,ht,h.t1.other h.t2 z ne⟩,zs⟩
theorem GW.Z7 {p:Pl} {H H':Hp} {kd:Addr} {r:aR} {kind:Nat} {kvs:List (qo×V)} (h:GW p H kd r kind kvs) (ne:p.P1≠p.P2) (ht:TabOk H' p.P2 lq2 lp2) (z:bh [p.P2] H H'):GW p H' kd r kind kvs/\cW H H':=by
 have zs:cW H H':=z.solid fun a ha o e=>by rw [ay.mp ha] at e;exact h.t2.not o e
 exact ⟨⟨h.kn.other h.t2 z,h.ok,h.t2.other h.t1 z (Ne.symm ne),ht⟩,zs⟩
theorem OW (b:Bool) (x y:Int):lM b [x,y]=if b=true then max x y else min x y:=by
 cases b<;>rfl
section
variable {P:Program} {w:World} {K:ab} {mg:Str->Option Value} {base:Heap} {t:uZ}
theorem Ij (T:Txt K mg t) {c1 P1 c2 P2:Addr} (L:tE K t c1 P1 c2 P2) (hB:BMain base mg):
  bY P w K mg base fw 5 t.g9 t.jk ["search","order","turn","left"] (vX ⟨P,w,K,t.aF,t.a5,P1,P2⟩ 0):=by
 refine T.ia.ok fF (fun vs H Q E h=>?_) (fun eW A outer s H vs Q E hr h=>?_)
 ·obtain ⟨se,g,pd,pl,kd,oa,s,past,kind,kvs,o,u,rfl,_⟩:=h
  rfl
 ·obtain ⟨se,g,pd,pl,kd,oa,st,past,kind,kvs,o,u,rfl,S,ho,tS,VD,OV,Ci,hf,k⟩:=h
  have m9:bY P w K mg base fw 4 t.gM t.iP ["team","results"] (yC K P1):=Eu T L hB
  have fY:bY P w K mg base fw 4 t.dR t.e7 ["search","order","turn","left"] (fun _ _ _ _=>False):=R8
  refine ⟨_,(ag (gR 4 fF.nd (bQ bI (aN (ly T) (hr.mono (by omega)) rfl T.ki T.dq.kp (mE T) .nil bp (aa (bb (pv 0) rfl) (aa (pv 1) ai))) az (fun _ _=>rfl)))
   (ag (cx (bu gh (pv 3) az (bP _))
   (ak (aK (pv 4)))
   bt)
   (ag (gR 6 fF.nd (aN m9 (hr.mono (by omega)) rfl T.m6 T.k_.kp (pJ T) .nil bp (aa (pv 2) (aa (tK rfl fF.nd (fv (aN fY (hr.mono (by omega)) rfl T.jV T.c4.kp (mK T) .nil bp (aa (pv 0) (aa (pv 1) (aa (pv 2) (aa (pv 3) ai)))))) (gH (own:=[("pair",5)]) (by kernel_rfl)) (fun _ _ _ _ _=>(uY 5 fF.nd)) (fun _ _ _ _ _=>kz) (fun _ _ _ _ _=>(bQ (Kx (K:=K) rfl) (pv 5) az (fun _ _=>rfl)))) ai))))
   (ag (cx (bu gh (bb (pv 0) rfl) (eX rfl T.pI) (bP _))
   (ak (aK (aN m9 (hr.mono (by omega)) rfl T.m6 T.k_.kp (pJ T) .nil bp (aa az (aa (bw (aa (pv 6) (aa (pv 4) ai))) ai)))))
   bt)
   (ag (cx (bu gh (bb (pv 0) rfl) (eX rfl T.qK) (bP _))
   (ak (aK (aN m9 (hr.mono (by omega)) rfl T.m6 T.k_.kp (pJ T) .nil bp (aa az (aa (bw (aa (pv 6) (aa (pv 4) ai))) ai)))))
   bt)
   (ak (aK (pv 6)))))))),?_⟩
  try dsimp only [cxK]
  have hn:=hf.n (by decide)
  have mH:=jX tS
  obtain ⟨VU,VV⟩:=S.obj
  refine ⟨_,rfl,se,_,VU,_,_,rfl,VV,T.g0,T.eU,LH,_,rfl,g,pd,pl,oa,eY st past,st.rules.tie,o,rfl,S.gm,rfl,hf.tie,hn,ho,mH,fun H1 J s1 YO hJ=>⟨J,_,0,_,rfl,rfl,bO.of hJ,bj (j:=0) rfl,?_⟩⟩
  refine ⟨_,rfl,rfl,_,rfl,cz ⟨_,rfl,?_⟩⟩
  exact k H1 kvs (S.dyn.on s1) (.of s1) (Below.refl _ _)
theorem LJ (T:Txt K mg t) {c1 P1 c2 P2:Addr} (L:tE K t c1 P1 c2 P2) (hB:BMain base mg) {l:Nat} (fY:bY P w K mg base fw (3*l+7) t.dR t.e7 ["search","order","turn","left"] (ve ⟨P,w,K,t.aF,t.a5,P1,P2⟩ l)):
  bY P w K mg base fw (3*l+8) t.g9 t.jk ["search","order","turn","left"] (vX ⟨P,w,K,t.aF,t.a5,P1,P2⟩ (l+1)):=by
 refine T.ia.ok fF (fun vs H Q E h=>?_) (fun eW A outer s H vs Q E hr h=>?_)
 ·obtain ⟨se,g,pd,pl,kd,oa,s,past,kind,kvs,o,u,rfl,_⟩:=h
  rfl
 ·obtain ⟨se,g,pd,pl,kd,oa,st,past,kind,kvs,o,u,rfl,S,ho,tS,VD,OV,Ci,hf,k⟩:=h
  have m9:bY P w K mg base fw 4 t.gM t.iP ["team","results"] (yC K P1):=Eu T L hB
  refine ⟨_,(ag (gR 4 fF.nd (bQ bI (aN (ly T) (hr.mono (by omega)) rfl T.ki T.dq.kp (mE T) .nil bp (aa (bb (pv 0) rfl) (aa (pv 1) ai))) az (fun _ _=>rfl)))
   (ag (cx (bu gh (pv 3) az (bP _))
   (ak (aK (pv 4)))
   bt)
   (ag (gR 6 fF.nd (aN m9 (hr.mono (by omega)) rfl T.m6 T.k_.kp (pJ T) .nil bp (aa (pv 2) (aa (tK rfl fF.nd (fv (aN fY (hr.mono (by omega)) rfl T.jV T.c4.kp (mK T) .nil bp (aa (pv 0) (aa (pv 1) (aa (pv 2) (aa (pv 3) ai)))))) (gH (own:=[("pair",5)]) (by kernel_rfl)) (fun _ _ _ _ _=>(uY 5 fF.nd)) (fun _ _ _ _ _=>kz) (fun _ _ _ _ _=>(bQ (Kx (K:=K) rfl) (pv 5) az (fun _ _=>rfl)))) ai))))
   (ag (cx (bu gh (bb (pv 0) rfl) (eX rfl T.pI) (bP _))
   (ak (aK (aN m9 (hr.mono (by omega)) rfl T.m6 T.k_.kp (pJ T) .nil bp (aa az (aa (bw (aa (pv 6) (aa (pv 4) ai))) ai)))))
   bt)
   (ag (cx (bu gh (bb (pv 0) rfl) (eX rfl T.qK) (bP _))
   (ak (aK (aN m9 (hr.mono (by omega)) rfl T.m6 T.k_.kp (pJ T) .nil bp (aa az (aa (bw (aa (pv 6) (aa (pv 4) ai))) ai)))))
   bt)
   (ak (aK (pv 6)))))))),?_⟩
  try dsimp only [cxK]
  have hn:=hf.n (by decide)
  have mH:=jX tS
  obtain ⟨VU,VV⟩:=S.obj
  refine ⟨_,rfl,se,_,VU,_,_,rfl,VV,T.g0,T.eU,LH,_,rfl,g,pd,pl,oa,eY st past,st.rules.tie,o,rfl,S.gm,rfl,hf.tie,hn,ho,mH,fun H1 J s1 YO hJ=>⟨J,_,0,_,rfl,rfl,bO.of hJ,bj (j:=0) rfl,?_⟩⟩
  refine ⟨_,rfl,rfl,_,rfl,?_⟩
  rw [b_,decide_eq_false (show ¬ ((l+1:Nat):Int)=0 by omega)]
  refine cC ⟨_,rfl,_,rfl,_,rfl,_,rfl,_,rfl,se,g,pd,pl,kd,oa,st,past,kind,kvs,o,u,rfl,S.on s1,s1.seq ho,tS,VD,OV,Ci,hf,fun H2 VW a D2 z2 b2 ha0 QY=>?_⟩
  obtain ⟨ts,hal,hP⟩:=QY
  have hlen:=hP.length
  have Zo:=zG (r:=st.rules) ⟨o,u,l+1⟩ (by omega)
  refine ⟨a,rfl,⟨_,bO.of hal⟩,fun D hD=>?_⟩
  have hz1:∀ z∈(bg st.rules ⟨o,u,l+1⟩).map (fun m=>bG st.rules kind l (bJ ⟨o,u,l+1⟩ m)),Val z:=fun z hz=>by
   obtain ⟨m,_,rfl⟩:=aO.mp hz
   exact CL _ _ _ _
  refine sr (K:=K) (a:=a) (xs:=ts.map V.ref) (ys:=((bg st.rules ⟨o,u,l+1⟩).map (fun m=>bG st.rules kind l (bJ ⟨o,u,l+1⟩ m))).map n9) hD (bO.of hal) (by rw [U,U,U,hlen]) (by rw [U,U,sizeLine_eq];omega) ?_ ?_
  ·intro i x1 y H3 R hi hy s3 fin
   rw [ax] at hi
   obtain ⟨b,hb,rfl⟩:=aZ.mp hi
   obtain ⟨m,hm,hbt⟩:=fk hP hb
   rw [a9,ax,hm] at hy
   have hy:n9 (bG st.rules kind l (bJ ⟨o,u,l+1⟩ m))=y:=aj.inj hy
   subst hy
   exact ⟨rfl,_,rfl,b,_,1,_,rfl,rfl,oX.of (s3 _ _ hbt),bj (j:=1) rfl,fin _ fun _ _ z=>z⟩
  intro H3 s3 AU
  have D3:=D2.on s3
  refine ⟨u,D,_,rfl,bO.of AU,fun e=>BG _ _ (rp.mp e),hz1,D3.t1,fun H4 ht4 s4=>?_⟩
  obtain ⟨D4,z4⟩:=D3.aaq L.ne ht4 s4
  have z14:cW H H4:=((cW.of s1).trans z2).trans ((cW.of s3).trans z4)
  have adl:=z14 _ _ VV trivial
  have k:=fun H' kr a b c=>k H' kr a b c
  have ev:bG st.rules kind (l+1) ⟨o,u,l+1⟩=ml kind (d7 st.rules ⟨o,u,l+1⟩) (lM (u==0) ((bg st.rules ⟨o,u,l+1⟩).map fun m=>bG st.rules kind l (bJ ⟨o,u,l+1⟩ m))):=rfl
  have ZZ:Val (lM (u==0) ((bg st.rules ⟨o,u,l+1⟩).map fun m=>bG st.rules kind l (bJ ⟨o,u,l+1⟩ m))):=hz1 _ (FN _ fun e=>BG _ _ (rp.mp e))
  rw [ev] at k
  revert k ZZ
  generalize lM (u==0) ((bg st.rules ⟨o,u,l+1⟩).map fun m=>bG st.rules kind l (bJ ⟨o,u,l+1⟩ m))=b
  intro k ZZ
  have hnv:=Kk st.rules ⟨o,u,l+1⟩
  have two:∀ z∈[b,d7 st.rules ⟨o,u,l+1⟩],Val z:=fun z hz=>by
   rcases aw.mp hz with e | e
   ·rw [e];exact ZZ
   ·rw [ay.mp e];exact hnv
  refine ⟨_,rfl,se,_,VU,_,_,rfl,adl,T.g0,T.fK,R7,rfl,_,rfl,?_⟩
  rw [b_]
  by_cases h1:kind=1
  ·rw [decide_eq_true (by omega)]
   refine cz ⟨_,rfl,_,rfl,szB,fun q hq=>?_⟩
   have s5:=aM.new (o:=.lst [n9 b,n9 (d7 st.rules ⟨o,u,l+1⟩)]) hq
   refine ⟨1,q,[b,d7 st.rules ⟨o,u,l+1⟩],rfl,bO.of ae,(fun e=>nomatch e),two,(D4.on s5).t1,fun H6 ht6 s6=>?_⟩
   obtain ⟨D6,z6⟩:=(D4.on s5).aaq L.ne ht6 s6
   have e:lM ((1:Nat)==0) [b,d7 st.rules ⟨o,u,l+1⟩]=ml kind (d7 st.rules ⟨o,u,l+1⟩) b:=by
    rw [OW,if_neg (by decide)]
    unfold ml
    rw [if_neg (by omega),if_pos h1]
    exact Int.min_comm _ _
   rw [e]
   exact k H6 VW D6 ((z14.trans (.of s5)).trans z6) b2
  ·rw [decide_eq_false (by omega)]
   refine cC ⟨_,rfl,se,_,VU,_,_,rfl,adl,T.g0,T.fK,R7,rfl,_,rfl,?_⟩
   rw [b_]
   by_cases h2:kind=2
   ·rw [decide_eq_true (by omega)]
    refine cz ⟨_,rfl,_,rfl,szB,fun q hq=>?_⟩
    have s5:=aM.new (o:=.lst [n9 b,n9 (d7 st.rules ⟨o,u,l+1⟩)]) hq
    refine ⟨0,q,[b,d7 st.rules ⟨o,u,l+1⟩],rfl,bO.of ae,(fun e=>nomatch e),two,(D4.on s5).t1,fun H6 ht6 s6=>?_⟩
    obtain ⟨D6,z6⟩:=(D4.on s5).aaq L.ne ht6 s6
    have e:lM ((0:Nat)==0) [b,d7 st.rules ⟨o,u,l+1⟩]=ml kind (d7 st.rules ⟨o,u,l+1⟩) b:=by
     rw [OW,if_pos (by decide)]
     unfold ml
     rw [if_neg (by omega),if_neg (by omega)]
     exact Int.max_comm _ _
    rw [e]
    exact k H6 VW D6 ((z14.trans (.of s5)).trans z6) b2
   ·rw [decide_eq_false (by omega)]
    refine cC ⟨_,rfl,?_⟩
    have e:ml kind (d7 st.rules ⟨o,u,l+1⟩) b=b:=by
     unfold ml
     rw [if_pos (by omega)]
    rw [e] at k
    exact k H4 VW D4 z14 b2
theorem Cj (T:Txt K mg t) {c1 P1 c2 P2:Addr} (L:tE K t c1 P1 c2 P2) {l:Nat} (OX:bY P w K mg base fw (3*l+5) t.g9 t.jk ["search","order","turn","left"] (vX ⟨P,w,K,t.aF,t.a5,P1,P2⟩ l)):
  bY P w K mg base fw (3*l+6) t.jK t.kS ["search","order","turn","left"] (yD ⟨P,w,K,t.aF,t.a5,P1,P2⟩ l):=by
 refine T.iS.ok Ed (fun vs H Q E h=>?_) (fun eW A outer s H vs Q E hr h=>?_)
 ·obtain ⟨se,g,pd,pl,kd,oa,s,past,kind,kvs,o,u,rfl,_⟩:=h
  rfl
 ·obtain ⟨se,g,pd,pl,kd,oa,st,past,kind,kvs,o,u,rfl,S,ho,tS,VD,OV,Ci,hf,k⟩:=h
  have Zp:=ZV hr
  refine ⟨_,(ag (gR 4 Ed.nd (r6 (aa (i5 pY (by rfl) T.rJ boot_tuple (aa (pv 1) ai)) (aa (pv 2) (aa (pv 3) ai)))))
   (ag (cx (vh (S1 Zp (pv 4) (bb (pv 0) rfl)) (by with_unfolding_all rfl))
   (ak (XB Zp (bb (pv 0) rfl) (pv 4) (aN OX (hr.mono (by omega)) rfl T.D9 T.ia.kp (Oa T) .nil bp (aa (pv 0) (aa (pv 1) (aa (pv 2) (aa (pv 3) ai))))) rfl))
   bt)
   (ak (aK (XA Zp (bb (pv 0) rfl) (pv 4) (fun _ _=>rfl)))))),?_⟩
  try dsimp only [cxK]
  have hn:=hf.n (by decide)
  have mH:=jX tS
  obtain ⟨VU,VV⟩:=S.obj
  refine ⟨_,rfl,oa,_,rfl,.inl ⟨ho,fun T1 Ya=>?_⟩⟩
  have s1:=aM.new (o:=.tup (o.map vN)) Ya
  refine ⟨_,rfl,_,rfl,by show 3<=sizeLine;decide,fun T2 SD=>?_⟩
  have s2:=aM.new (o:=.tup [.ref T1,vN u,vN l]) SD
  have yq:=s1.trans s2
  have nk:NK (upd (upd H T1 (.tup (o.map vN))) T2 (.tup [.ref T1,vN u,vN l])) T2 (kq o u l):=⟨T1,ae,by
   rw [s2 _ _ ae]
   unfold kq
   rw [a9];rfl⟩
  have D1:=S.dyn.on yq
  refine ⟨_,rfl,_,rfl,se,_,VU,_,_,rfl,yq _ _ VV,T.g0,T.dU,GU,kd,T2,kq o u l,kvs,rfl,rfl,nk,D1.kn,_,rfl,?_⟩
  have fin:∀ {H':Hp} {kr:List (qo×V)} {v:V},cW (upd (upd H T1 (.tup (o.map vN))) T2 (.tup [.ref T1,vN u,vN l])) H'->GW ⟨P,w,K,t.aF,t.a5,P1,P2⟩ H' kd st.rules kind kr->jj kr (kq o u l)=some v->Below (l+1) kvs kr->
    ∃ v0,[some (V.ref se),some (V.ref oa),some (vN u),some (vN l),some (V.ref T2)][0]?=some (some v0)/\∃ a C dx fs v1,v0=.ref a/\H' a=some (.ins C dx fs)/\So K C/\iF K C "known"/\fs.lookup ("known":Str)=some v1/\∃ v2,[some (V.ref se),some (V.ref oa),some (vN u),some (vN l),some (V.ref T2)][4]?=some (some v2)/\
     ∃ (a b:Addr) (k:qo) (kvs:List (qo×V)) (v:V),v1=.ref a/\v2=.ref b/\NK H' b k/\sI P w H' a kvs/\jj kvs k=some v/\Q v H':=fun {H' kr v} z D hv hb=>by
   refine ⟨_,rfl,se,_,VU,_,_,rfl,z _ _ (yq _ _ VV) trivial,T.g0,T.dU,GU,_,rfl,kd,T2,kq o u l,kr,v,rfl,rfl,nk.keeps fun b ys e=>z _ _ e trivial,D.kn,hv,?_⟩
   rw [D.ok.val hv]
   exact k H' kr D ((cW.of yq).trans z) hb
  cases hv:jj kvs (kq o u l) with
  | some v=>
   exact cC (fin (cW.refl _) D1 hv (Below.refl _ _))
  | none=>
   refine cz ⟨_,rfl,_,rfl,_,rfl,_,rfl,se,g,pd,pl,kd,oa,st,past,kind,kvs,o,u,rfl,S.on yq,yq.seq ho,tS,VD,OV,Ci,hf,fun H3 Ii D3 z3 b3=>?_⟩
   have hv3:jj Ii (kq o u l)=none:=by rw [b3 o u l (au _)];exact hv
   have ok4:=D3.ok.put hv3 mH.len (fun b hb=>by have:=mH.lt b hb;omega) VD OV
   refine ⟨_,rfl,se,_,VU,_,_,rfl,z3 _ _ (yq _ _ VV) trivial,T.g0,T.dU,GU,_,rfl,kd,T2,kq o u l,Ii,rfl,rfl,nk.keeps fun b ys e=>z3 _ _ e trivial,D3.kn,hv3,D3.ok.size (by omega),fun H4 hn4 s4=>?_⟩
   have z4:cW H3 H4:=s4.solid fun a ha q e=>by rw [ay.mp ha] at e;exact D3.kn.not q e
   refine fin (z3.trans z4) ⟨hn4,ok4,D3.t1.YN D3.kn s4,D3.t2.YN D3.kn s4⟩ (JV hv3) ((b3.mono (lF _)).trans fun o' u' l' Ue=>OU fun e=>?_)
   have:=(GS e).2.2
   omega
theorem qt (T:Txt K mg t) {c1 P1 c2 P2:Addr} (L:tE K t c1 P1 c2 P2) (hB:BMain base mg):∀ l,bY P w K mg base fw (3*l+6) t.jK t.kS ["search","order","turn","left"] (yD ⟨P,w,K,t.aF,t.a5,P1,P2⟩ l)
 | 0=>Cj T L (Ij T L hB)
 | l+1=>Cj T L (LJ T L hB (pO T (qt T L hB l)))
end
structure mz (p:Pl) (H:Hp):Prop where
 t1:TabOk H p.P1 X8 lp1
 t2:TabOk H p.P2 lq2 lp2
theorem mz.on {p:Pl} {H H':Hp} (h:mz p H) (z:aM H H'):mz p H':=⟨h.t1.on z,h.t2.on z⟩
theorem GW.tabs {p:Pl} {H:Hp} {kd:Addr} {r:aR} {kind:Nat} {kvs:List (qo×V)} (h:GW p H kd r kind kvs):mz p H:=⟨h.t1,h.t2⟩
theorem known0 (r:aR) (kind:Nat):qc r kind []:=⟨jf,(fun _ h=>nomatch h)⟩
section
variable {P:Program} {w:World} {K:ab} {mg:Str->Option Value} {base:Heap} {t:uZ}
def Tv (p:Pl):Sp:=fun vs H Q _=>∃ (x dx g:Addr) (kind:Nat),vs=[.ref x,.ref g,vN kind]/\H x=some (.ins p.CS dx [])/\∀ H' kd,H' x=some (.ins p.CS dx (sf g kind kd))->sI p.P p.w H' kd []->bh [x] H H'->Q .jU H'
theorem jR (T:Txt K mg t) {P1 P2:Addr}:bY P w K mg base fw 1 t.dG t.fP ["self","game","goal"] (Tv ⟨P,w,K,t.aF,t.a5,P1,P2⟩):=by
 refine T.eS.ok AR (fun vs H Q E h=>?_) (fun eW A outer s H vs Q E hr h=>?_)
 ·obtain ⟨x,dx,g,kind,rfl,_⟩:=h
  rfl
 ·obtain ⟨x,dx,g,kind,rfl,hx,k⟩:=h
  refine ⟨_,(ag (dY (pv 0) (pv 1) rfl)
   (ag (dY (pv 0) (pv 2) rfl)
   (ak (dY (pv 0) (Vm) rfl)))),?_⟩
  try dsimp only [cxK]
  refine ⟨_,rfl,_,rfl,x,_,dx,_,rfl,hx,T.g0,T.eU,(by show 0<1000;decide),?_⟩
  refine ⟨_,rfl,_,rfl,x,_,dx,_,rfl,ae,T.g0,T.fK,of_decide_eq_true (by kernel_rfl),?_⟩
  intro kd H2 hkd hn s2 tH h2
  refine ⟨_,rfl,x,_,dx,_,rfl,s2 _ _ ae,T.g0,T.dU,of_decide_eq_true (by kernel_rfl),?_⟩
  have nx:x≠kd:=aV ae hkd
  refine k _ kd ?_ ?_ ?_
  ·rw [ae]
   exact congrArg (fun z=>some (HO.ins t.a5 dx z)) (by kernel_rfl)
  ·obtain ⟨xs,h1,h3⟩:=hn
   refine ⟨xs,by rw [aD (Ne.symm nx)];exact h1,?_⟩
   cases h3
   exact .nil
  ·refine bh.upd ?_ (by simp)
   refine bh.then ?_ s2
   exact ((bh.of fun _ _ e=>e).upd (by simp)).upd (by simp)
theorem tV {p:Pl} {H H':Hp} {g pd pl x dx kd:Addr} {st:aS} {past:List aP} {kind:Nat} (hg:mC p.C H g pd pl (eY st past)) (ht:mz p H) (hx:H x=none) (VX:H dx=none) (h1:H' x=some (.ins p.CS dx (sf g kind kd))) (h2:sI p.P p.w H' kd []) (h3:bh [x] (upd (upd H dx (.own x)) x (.ins p.CS dx [])) H'):
  aM H H'/\Tt p H' x g pd pl kd st past kind []:=by
 have s:aM H H':=aM.made hx VX fun b o e nb=>h3 b o e (by simpa using nb)
 exact ⟨s,⟨dx,h1⟩,hg.on s,h2,known0 _ _,ht.t1.on s,ht.t2.on s⟩
def Ck (p:Pl) (l:Nat):Sp:=fun vs H Q _=>∃ (se g pd pl kd oa:Addr) (s:aS) (past:List aP) (kind:Nat) (kvs:List (qo×V)) (o:List Nat) (u:Nat),vs=[.ref se,.ref oa,vN u,vN (l+1)]/\Tt p H se g pd pl kd s past kind kvs/\bO p.K H oa (o.map vN)/\
 o.Perm (aY (2*s.rules.n))/\u<=1/\l+1<=20/\kind<=2/\kG s 6/\
 ∀ H' kr,GW p H' kd s.rules kind kr->cW H H'->Q (vN (c9 s.rules kind ⟨o,u,l+1⟩)) H'
theorem Cm (T:Txt K mg t) {c1 P1 c2 P2:Addr} (L:tE K t c1 P1 c2 P2) (hB:BMain base mg) (l:Nat):
  bY P w K mg base fw (3*l+8) t.gp t.g_ ["search","order","turn","left"] (Ck ⟨P,w,K,t.aF,t.a5,P1,P2⟩ l):=by
 have fY:=pO T (qt (P:=P) (w:=w) T L hB l)
 refine L.L2.ok K2 (fun vs H Q E h=>?_) (fun A outer s H vs Q E hr h=>?_)
 ·obtain ⟨se,g,pd,pl,kd,oa,s,past,kind,kvs,o,u,rfl,_⟩:=h
  rfl
 ·obtain ⟨se,g,pd,pl,kd,oa,st,past,kind,kvs,o,u,rfl,S,ho,tS,VD,OV,Ci,hf,k⟩:=h
  refine ⟨_,ak (aK (bQ fS (JM (x:="pair") (y:="turn") (lq:=lq2) (lscope:=vd gj) (k:=1) (iy:=2) (c:=c2) (Pt:=P2) (tb:=Us yB [] E0 (Fv (Br 1) (Fv (TU (Zg K) (Br 0) (tC (.int 1))) Ur))) hB rfl T.F9 rfl L.L2.hd adg (show Str.ofString "best_move"++Str.ofString ".<locals>."++Str.ofString "<lambda>"=lq2 by decide +kernel) rfl rfl (hr.mono (by omega)) rfl
    (aN fY (hr.mono (by omega)) rfl T.jV T.c4.kp (mK T) .nil bp (aa (pv 0) (aa (pv 1) (aa (pv 2) (aa (pv 3) ai)))))
    (fun f cd cl A outer s H WM=>aN (Et T) WM rfl T.AJ T.jO.kp (Gj T) .nil bp (aa (pv 1) (aa (bQ (Kx (K:=K) rfl) (pv 0) az (fun _ _=>rfl)) ai)))) az (fun _ _=>rfl))),?_⟩
  try dsimp only [cxK]
  have hn:=hf.n (by decide)
  refine ⟨_,rfl,_,rfl,_,rfl,_,rfl,se,g,pd,pl,kd,oa,st,past,kind,kvs,o,u,rfl,S,ho,tS,VD,OV,Ci,hf,fun H2 VW a D2 z2 b2 ha0 QY=>?_⟩
  obtain ⟨ts,hal,hP⟩:=QY
  have hlen:=hP.length
  have tH:=BG st.rules ⟨o,u,l+1⟩
  refine ⟨a,ts.map V.ref,fun i=>rk u (bG st.rules kind l (bJ ⟨o,u,l+1⟩ ((bg st.rules ⟨o,u,l+1⟩).getD i 0))),vN u,rfl,bO.of hal,?_,rfl,D2.t2,fun H3 ht3 s3=>?_⟩
  ·rw [U,hlen];exact iZ.mpr tH
  obtain ⟨D3,z3⟩:=D2.Z7 L.ne ht3 s3
  refine ⟨fun i v hi=>?_,fun i v hi hx=>?_⟩
  ·rw [ax] at hi
   obtain ⟨b,hb,rfl⟩:=aZ.mp hi
   obtain ⟨m,hm,hbt⟩:=fk hP hb
   refine ⟨_,rfl,_,rfl,b,_,1,_,rfl,rfl,oX.of (z3 _ _ hbt trivial),bj (j:=1) rfl,u,bG st.rules kind l (bJ ⟨o,u,l+1⟩ m),rfl,CL _ _ _ _,?_,rfl⟩
   show V.int (rk u (bG st.rules kind l (bJ ⟨o,u,l+1⟩ m)))=V.int (rk u (bG st.rules kind l (bJ ⟨o,u,l+1⟩ ((bg st.rules ⟨o,u,l+1⟩).getD i 0))))
   rw [bD,hm];rfl
  ·rw [ax] at hi
   obtain ⟨b,hb,rfl⟩:=aZ.mp hi
   obtain ⟨m,hm,hbt⟩:=fk hP hb
   have e:c9 st.rules kind ⟨o,u,l+1⟩=m:=Nw hm fun j m' hm'=>by
    have hj:=(aH.mp hm').1
    have hq:rk u (bG st.rules kind l (bJ ⟨o,u,l+1⟩ ((bg st.rules ⟨o,u,l+1⟩).getD i 0)))>=rk u (bG st.rules kind l (bJ ⟨o,u,l+1⟩ ((bg st.rules ⟨o,u,l+1⟩).getD j 0)))/\
     (j<i->rk u (bG st.rules kind l (bJ ⟨o,u,l+1⟩ ((bg st.rules ⟨o,u,l+1⟩).getD i 0))) > rk u (bG st.rules kind l (bJ ⟨o,u,l+1⟩ ((bg st.rules ⟨o,u,l+1⟩).getD j 0)))):=hx j (by rw [U,hlen];exact hj)
    rw [bD,bD,hm,hm'] at hq
    exact hq
   refine ⟨b,_,0,_,rfl,rfl,oX.of (z3 _ _ hbt trivial),bj (j:=0) rfl,?_⟩
   have k:=k H3 VW D3 (z2.trans z3)
   rw [e] at k
   exact k
def LK (p:Pl):Sp:=fun vs H Q _=>∃ (g pd pl:Addr) (s:aS) (past:List aP) (kind:Nat),vs=[.ref g,vN kind]/\mC p.C H g pd pl (eY s past)/\kG s 6/\kind<=2/\mz p H/\∀ H',mz p H'->cW H H'->Q (n9 (tj s.rules kind s.game)) H'
theorem LL (T:Txt K mg t) {c1 P1 c2 P2:Addr} (L:tE K t c1 P1 c2 P2) (hB:BMain base mg):bY P w K mg base fw 67 t.kT t.nH ["game","goal"] (LK ⟨P,w,K,t.aF,t.a5,P1,P2⟩):=by
 refine T.ju.ok K3 (fun vs H Q E h=>?_) (fun eW A outer s H vs Q E hr h=>?_)
 ·obtain ⟨g,pd,pl,s,past,kind,rfl,_⟩:=h
  rfl
 ·obtain ⟨g,pd,pl,st,past,kind,rfl,hg,hf,Ci,ht,k⟩:=h
  have JP:=hf.left
  have sO:=qt (P:=P) (w:=w) T L hB st.game.left
  refine ⟨_,(ak (aK (aN sO (hr.mono (by omega)) rfl T.vK T.iS.kp (AS T) .nil bp (aa (EV T.yc (jR (P:=P) (w:=w) (P1:=P1) (P2:=P2) T) (hr.mono (by omega)) rfl T.u7 (kC T) .nil bp (aa (pv 0) (aa (pv 1) ai))) (aa (bb (pv 0) rfl) (aa (bb (pv 0) rfl) (aa (bb (pv 0) rfl) ai))))))),?_⟩
  try dsimp only [cxK]
  refine ⟨_,rfl,_,rfl,fun x dx0 hx VX ne=>⟨x,dx0,g,kind,rfl,ae,fun H2 kd h1 h2 h3=>⟨rfl,?_⟩⟩⟩
  obtain ⟨s2,S⟩:=tV hg ht hx VX h1 h2 h3
  obtain ⟨dx,pa,oa,cK,my,lP,_⟩:=id S.gm
  refine ⟨_,rfl,g,_,dx,_,_,rfl,cK,T.aI,T.bN,jb,_,rfl,g,_,dx,_,_,rfl,cK,T.aI,T.cg,qb,_,rfl,g,_,dx,_,_,rfl,cK,T.aI,T.bZ,l_,?_⟩
  refine ⟨x,g,pd,pl,kd,oa,st,past,kind,[],st.game.order,st.game.turn,rfl,S,bO.of lP,hf.ord (by decide),hf.turn,hf.left,Ci,hf,fun H3 Ii D3 z3 _=>k H3 D3.tabs ((cW.of s2).trans z3)⟩
def OY (p:Pl):Sp:=fun vs H Q _=>∃ (g pd pl:Addr) (s:aS) (past:List aP) (kind:Nat),vs=[.ref g,vN kind]/\mC p.C H g pd pl (eY s past)/\kG s 6/\kind<=2/\mz p H/\s.game.left≠0/\
 ∀ H' a,mz p H'->cW H H'->H' a=some (.lst [vN (c9 s.rules kind s.game),n9 (tj s.rules kind s.game)])->Q (.ref a) H'
theorem OZ (T:Txt K mg t) {c1 P1 c2 P2:Addr} (L:tE K t c1 P1 c2 P2) (hB:BMain base mg):bY P w K mg base fw 67 t.m4 t.pD ["game","goal"] (OY ⟨P,w,K,t.aF,t.a5,P1,P2⟩):=by
 refine T.lg.ok Ef (fun vs H Q E h=>?_) (fun eW A outer s H vs Q E hr h=>?_)
 ·obtain ⟨g,pd,pl,s,past,kind,rfl,_⟩:=h
  rfl
 ·obtain ⟨g,pd,pl,st,past,kind,rfl,hg,hf,Ci,ht,h0,k⟩:=h
  have JP:=hf.left
  have sO:=qt (P:=P) (w:=w) T L hB st.game.left
  have yE:=Cm (P:=P) (w:=w) T L hB (st.game.left - 1)
  refine ⟨_,(ag (gR 2 Ef.nd (EV T.yc (jR (P:=P) (w:=w) (P1:=P1) (P2:=P2) T) (hr.mono (by omega)) rfl T.u7 (kC T) .nil bp (aa (pv 0) (aa (pv 1) ai))))
   (ak (aK (bw (aa (aN yE (hr.mono (by omega)) rfl T.ya T.tP.kp (Ee T) .nil bp (aa (pv 2) (aa (bb (pv 0) rfl) (aa (bb (pv 0) rfl) (aa (bb (pv 0) rfl) ai))))) (aa (aN sO (hr.mono (by omega)) rfl T.vK T.iS.kp (AS T) .nil bp (aa (pv 2) (aa (bb (pv 0) rfl) (aa (bb (pv 0) rfl) (aa (bb (pv 0) rfl) ai))))) ai)))))),?_⟩
  try dsimp only [cxK]
  have e1:st.game.left - 1+1=st.game.left:=by omega
  refine ⟨_,rfl,_,rfl,fun x dx0 hx VX ne=>⟨x,dx0,g,kind,rfl,ae,fun H2 kd h1 h2 h3=>⟨rfl,?_⟩⟩⟩
  obtain ⟨s2,S⟩:=tV hg ht hx VX h1 h2 h3
  obtain ⟨dx,pa,oa,cK,my,lP,_⟩:=id S.gm
  refine ⟨_,rfl,_,rfl,g,_,dx,_,_,rfl,cK,T.aI,T.bN,jb,_,rfl,g,_,dx,_,_,rfl,cK,T.aI,T.cg,qb,_,rfl,g,_,dx,_,_,rfl,cK,T.aI,T.bZ,l_,?_⟩
  refine ⟨x,g,pd,pl,kd,oa,st,past,kind,[],st.game.order,st.game.turn,by rw [e1];rfl,S,bO.of lP,hf.ord (by decide),hf.turn,by omega,Ci,hf,fun H3 Ii D3 z3=>?_⟩
  rw [e1]
  have S3:=S.at z3 D3
  have YJ:=z3 _ _ cK trivial
  refine ⟨_,rfl,_,rfl,g,_,dx,_,_,rfl,YJ,T.aI,T.bN,jb,_,rfl,g,_,dx,_,_,rfl,YJ,T.aI,T.cg,qb,_,rfl,g,_,dx,_,_,rfl,YJ,T.aI,T.bZ,l_,?_⟩
  refine ⟨x,g,pd,pl,kd,oa,st,past,kind,Ii,st.game.order,st.game.turn,rfl,S3,bO.of (z3 _ _ lP trivial),hf.ord (by decide),hf.turn,hf.left,Ci,hf,fun H4 al1 D4 z4 _=>?_⟩
  refine ⟨szB,fun a ha=>?_⟩
  exact k _ a (D4.on (aM.new ha)).tabs (((cW.of s2).trans z3).trans (z4.trans (.of (aM.new ha)))) ae
def Ik (p:Pl):Sp:=fun vs H Q _=>∃ (g pd pl:Addr) (s:aS) (past:List aP) (kind:Nat),vs=[.ref g,vN kind]/\mC p.C H g pd pl (eY s past)/\kG s 6/\kind<=2/\mz p H/\
 ∀ H' a,mz p H'->cW H H'->R9 H' a (if s.game.left=0 then [] else bg s.rules s.game) (fun m=>bG s.rules kind (s.game.left - 1) (bJ s.game m))->Q (.ref a) H'
theorem Il (T:Txt K mg t) {c1 P1 c2 P2:Addr} (L:tE K t c1 P1 c2 P2) (hB:BMain base mg):bY P w K mg base fw 67 t.jL t.lW ["game","goal"] (Ik ⟨P,w,K,t.aF,t.a5,P1,P2⟩):=by
 refine T.ib.ok HR (fun vs H Q E h=>?_) (fun eW A outer s H vs Q E hr h=>?_)
 ·obtain ⟨g,pd,pl,s,past,kind,rfl,_⟩:=h
  rfl
 ·obtain ⟨g,pd,pl,st,past,kind,rfl,hg,hf,Ci,ht,k⟩:=h
  have JP:=hf.left
  have fY:=pO T (qt (P:=P) (w:=w) T L hB (st.game.left - 1))
  refine ⟨_,(ag (cx (bu gh (bb (pv 0) rfl) az (bP _))
   (ak (aK (bw ai)))
   bt)
   (ak (aK (aN fY (hr.mono (by omega)) rfl T.jV T.c4.kp (mK T) .nil bp (aa (EV T.yc (jR (P:=P) (w:=w) (P1:=P1) (P2:=P2) T) (hr.mono (by omega)) rfl T.u7 (kC T) .nil bp (aa (pv 0) (aa (pv 1) ai))) (aa (bb (pv 0) rfl) (aa (bb (pv 0) rfl) (aa (bb (pv 0) rfl) ai)))))))),?_⟩
  try dsimp only [cxK]
  obtain ⟨dx,pa,oa,cK,my,lP,_⟩:=id hg
  refine ⟨_,rfl,g,_,dx,_,_,rfl,cK,T.aI,T.bZ,l_,rfl,_,rfl,?_⟩
  rw [b_]
  by_cases h0:st.game.left=0
  ·rw [decide_eq_true (show (((eY st past).left:Nat):Int)=0 by show ((st.game.left:Nat):Int)=0;omega)]
   rw [if_pos h0] at k
   refine cz ⟨a0 _,fun a ha=>?_⟩
   exact k _ a (ht.on (aM.new ha)) (.of (aM.new ha)) ⟨[],ae,.nil⟩
  ·rw [decide_eq_false (show ¬ (((eY st past).left:Nat):Int)=0 by show ¬ ((st.game.left:Nat):Int)=0;omega)]
   rw [if_neg h0] at k
   have e1:st.game.left - 1+1=st.game.left:=by omega
   refine cC ⟨_,rfl,_,rfl,fun x dx0 hx VX ne=>⟨x,dx0,g,kind,rfl,ae,fun H2 kd h1 h2 h3=>⟨rfl,?_⟩⟩⟩
   obtain ⟨s2,S⟩:=tV hg ht hx VX h1 h2 h3
   have tD:=s2 _ _ cK
   refine ⟨_,rfl,g,_,dx,_,_,rfl,tD,T.aI,T.bN,jb,_,rfl,g,_,dx,_,_,rfl,tD,T.aI,T.cg,qb,_,rfl,g,_,dx,_,_,rfl,tD,T.aI,T.bZ,l_,?_⟩
   refine ⟨x,g,pd,pl,kd,oa,st,past,kind,[],st.game.order,st.game.turn,by rw [e1];rfl,S,bO.of (s2 _ _ lP),hf.ord (by decide),hf.turn,by omega,Ci,hf,fun H3 Ii a D3 z3 _ _ hp=>?_⟩
   rw [e1] at hp
   exact k H3 a D3.tabs ((cW.of s2).trans z3) hp
end
theorem aas {ι:Type} {P:Program} {w:World} {K:ab} {mg:Str->Option Value} {base:Heap} {k:Nat} {f:Addr} {fd:FuncData} {ps:List Str} {sp:ι->Sp} (F:∀ i,bY P w K mg base fw k f fd ps (sp i)):bY P w K mg base fw k f fd ps (fun vs H Q E=>∃ i,sp i vs H Q E):=
 ⟨fun vs H Q E ⟨i,h⟩=>(F i).len vs H Q E h,fun A outer s H args us vs Q E hr e0 hb r ⟨i,h⟩=>(F i).run A outer s H args us vs Q E hr e0 hb r h⟩
theorem GX {r:aR} {k:Nat} {tl:Int}:∀ (t:Nat) (g:aP) (l:List Int) (ms:List Nat) (y:aP),mQ r k tl t g l=some (ms,y)->ms.length=t/\y.order.Perm g.order
 | 0,g,l,ms,y,h=>by
  have h:(if l.isEmpty=true then some ([],g) else none)=some (ms,y):=h
  split at h
  ·cases h;exact ⟨rfl,.refl _⟩
  ·cases h
 | t+1,g,l,ms,y,h=>by
  unfold mQ at h
  have go:∀ {m:Nat} {q:List Int},((mQ r k tl t (bJ g m) q).map fun y=>(m::y.1,y.2))=some (ms,y)->ms.length=t+1/\y.order.Perm g.order:=fun {m q} h=>by
   obtain ⟨⟨ms',y'⟩,h1,h2⟩:=aZ.mp h
   cases h2
   obtain ⟨g1,g2⟩:=GX t _ _ _ _ h1
   exact ⟨by rw [aq,g1],g2.trans (oZ g m)⟩
  split at h
  ·split at h
   ·cases h
   ·split at h
    ·exact go h
    ·cases h
  ·exact go h
theorem aat {r:aR} {k:Nat} {tl:Int} {g:aP} {l:List Int}:mQ r k tl 0 g l=if l.isEmpty=true then some ([],g) else none:=rfl
theorem VY {r:aR} {k:Nat} {tl:Int} {t:Nat} {g:aP} (h:(g.turn:Int)=tl):mQ r k tl (t+1) g []=none:=by
 show (if (g.turn:Int)=tl then none else _)=none
 rw [if_pos h]
theorem Tw {r:aR} {k:Nat} {tl:Int} {t:Nat} {g:aP} {m:Int} {q:List Int} (h:(g.turn:Int)=tl):mQ r k tl (t+1) g (m::q)=if 0<=m/\m.toNat∈bg r g then (mQ r k tl t (bJ g m.toNat) q).map fun y=>(m.toNat::y.1,y.2) else none:=by
 show (if (g.turn:Int)=tl then _ else _)=_
 rw [if_pos h]
theorem VZ {r:aR} {k:Nat} {tl:Int} {t:Nat} {g:aP} {l:List Int} (h:¬ (g.turn:Int)=tl):mQ r k tl (t+1) g l=(mQ r k tl t (bJ g (c9 r k g)) l).map fun y=>(c9 r k g::y.1,y.2):=by
 show (if (g.turn:Int)=tl then _ else _)=_
 rw [if_neg h]
theorem O0 {ms:List Nat} {m:Nat} (o:Option (List Nat×aP)):((o.map fun y=>(m::y.1,y.2)).map fun y=>(ms++y.1,y.2))=o.map fun y=>((ms++[m])++y.1,y.2):=by
 cases o with
 | none=>rfl
 | some y=>
  show some (ms++m::y.1,y.2)=some ((ms++[m])++y.1,y.2)
  simp
theorem V0 {r:aR} {k:Nat} {g:aP}:c9 r k g∈bg r g:=by
 unfold c9
 cases h:(bg r g).find? fun m=>bG r k (g.left - 1) (bJ g m)==Vbrezy.ahead r k g with
 | some m=>simp only [h];exact List.mem_of_find?_eq_some h
 | none=>
  simp only [h]
  have h0:(0:Nat)∈bg r g:=by
   unfold bg
   refine g6.mpr ⟨bS.mpr (.inl (cH.mpr (by omega))),?_⟩
   unfold bz;rw [if_pos rfl]
  exact h0
theorem O1 (x:Int) (ms:List Nat):Kc (.int x) (ms.map vN)=decide (0<=x/\x.toNat∈ms):=by
 have e:ms.map vN=(ms.map fun (n:Nat)=>(n:Int)).map V.int:=by rw [a9];rfl
 rw [e,Ce]
 refine decide_eq_decide.mpr ⟨fun h=>?_,fun h=>?_⟩
 ·obtain ⟨n,hn,rfl⟩:=aO.mp h
  exact ⟨by omega,by simpa using hn⟩
 ·exact aO.mpr ⟨x.toNat,h.2,by omega⟩
theorem JX (ms:List Nat):(ms.map vN).all r9=true:=by
 rw [List.all_map]
 exact bA.mpr fun _ _=>rfl
section
variable {P:Program} {w:World} {K:ab} {mg:Str->Option Value} {base:Heap} {t:uZ}
def O2 (p:Pl):Sp:=fun vs H Q _=>∃ (g pd pl ra:Addr) (s:aS) (past:List aP) (kind:Nat) (tl:Int) (row:List Int),vs=[.ref g,vN kind,.int tl,.ref ra]/\mC p.C H g pd pl (eY s past)/\kG s 6/\kind<=2/\mz p H/\bO p.K H ra (row.map V.int)/\
 (mQ s.rules kind tl s.game.left s.game row=none->∀ H',mz p H'->cW H H'->Q .jU H')/\
 (∀ ms y,mQ s.rules kind tl s.game.left s.game row=some (ms,y)->∀ H' a b c,mz p H'->cW H H'->H' a=some (.tup [.ref b,.ref c])->H' b=some (.lst (ms.map vN))->H' c=some (.lst (y.order.map vN))->Q (.ref a) H')
theorem Ew (T:Txt K mg t) {c1 P1 c2 P2:Addr} (L:tE K t c1 P1 c2 P2) (hB:BMain base mg):bY P w K mg base fw 67 t.m5 t.pE ["game","goal","teller","row"] (O2 ⟨P,w,K,t.aF,t.a5,P1,P2⟩):=by
 have yE:bY P w K mg base fw 65 t.gp t.g_ ["search","order","turn","left"] (fun vs H Q E=>∃ i:Fin 20,Ck ⟨P,w,K,t.aF,t.a5,P1,P2⟩ i.1 vs H Q E):=
  aas fun i=>(Cm T L hB i.1).mono (by have:=i.2;omega)
 refine T.jP.ok fe (fun vs H Q E h=>?_) (fun eW A outer s H vs Q E hr h=>?_)
 ·obtain ⟨g,pd,pl,ra,s,past,kind,tl,row,rfl,_⟩:=h
  rfl
 ·obtain ⟨g,pd,pl,ra,st,past,kind,tl,row,rfl,hg,hf,Ci,ht,adm,k0,k1⟩:=h
  have JP:=hf.left
  have hn:=hf.n (by decide)
  refine ⟨_,(ag (gR 4 fe.nd (EV T.yc (jR (P:=P) (w:=w) (P1:=P1) (P2:=P2) T) (hr.mono (by omega)) rfl T.u7 (kC T) .nil bp (aa (pv 0) (aa (pv 1) ai))))
   (ag (gR 5 fe.nd (bb (pv 0) rfl))
   (ag (gR 6 fe.nd (bb (pv 0) rfl))
   (ag (gR 7 fe.nd (bw ai))
   (ag (gR 8 fe.nd az)
   (ag (gE PassesOwn.never rfl (Sy rfl T.jQ (aa (bb (pv 0) rfl) (aa az (aa (Jd Cz az) ai)))) (uY 9 fe.nd)
   (ag (cx (bu gh (pv 6) (pv 2) (bP _))
   (ag (cx (PW.pt (zY (bu gh (pv 8) (b8 bT (by rfl) T.f_ boot_len (aa (pv 3) ai)) (bP _)) (vi (bu eR (bQ bI (pv 3) (pv 8) (fun _ _=>rfl)) (aN (yx T) (hr.mono (by omega)) rfl T.vJ T.iR.kp (AQ T) .nil bp (aa (pv 0) (aa (pv 5) (aa (pv 6) ai)))) (by with_unfolding_all rfl)))))
   (ak (aK Px))
   bt)
   (ag (gR 10 fe.nd (bQ bI (pv 3) (pv 8) (fun _ _=>rfl)))
   (ak (Ai (i:=8) fe.nd rfl (by first | exact Or.inl rfl | exact Or.inr rfl) az Cv))))
   (ak (gR 10 fe.nd (aN yE (hr.mono (by omega)) rfl T.ya T.tP.kp (Ee T) .nil bp (aa (pv 4) (aa (pv 5) (aa (pv 6) (aa (pv 9) ai))))))))
   (ag (cO (gG aB bc bf d8 (pv 7) (aa (pv 10) ai)))
   (ag (gR 5 fe.nd (aN (qN T) (hr.mono (by omega)) rfl T.ox T.dM.kp (sF T) .nil bp (aa (pv 5) (aa (pv 10) ai))))
   (ak (gR 6 fe.nd (cB iE az (pv 6))))))))
   (ak (aK (xo (bu gh (pv 8) (b8 bT (by rfl) T.f_ boot_len (aa (pv 3) ai)) (bP _)) (r6 (aa (pv 7) (aa (pv 5) ai))) Px))))))))),?_⟩
  try dsimp only [cxK]
  refine ⟨_,rfl,_,rfl,fun se dx0 hx VX ne=>⟨se,dx0,g,kind,rfl,ae,fun H2 kd h1 h2 h3=>⟨rfl,?_⟩⟩⟩
  obtain ⟨s2,S⟩:=tV hg ht hx VX h1 h2 h3
  obtain ⟨dx,pa,oa,cK,my,lP,_⟩:=id S.gm
  refine ⟨_,rfl,g,_,dx,_,_,rfl,cK,T.aI,T.bN,jb,_,rfl,g,_,dx,_,_,rfl,cK,T.aI,T.cg,qb,a0 _,fun Md hMd=>?_⟩
  have s3:=aM.new (o:=.lst []) hMd
  have al2:=s2.free hMd
  refine ⟨_,rfl,g,_,dx,_,_,rfl,s3 _ _ cK,T.aI,T.bZ,l_,?_⟩
  refine ⟨1,rfl,(st.game.left:Int),0,-1,st.game.left,rfl,?_,?_⟩
  ·show RgC ((st.game.left:Nat):Int) 0 (-1) st.game.left
   have:=RgC.neg (i:=((st.game.left:Nat):Int)) (j:=0) (by omega) (by omega) (by decide) (by decide)
   rw [show (((st.game.left:Nat):Int) - 0).toNat=st.game.left by omega] at this
   exact this
  have al3:∀ {H':Hp},cW H2 H'->H' oa=some (.lst (st.game.order.map vN)):=fun z=>z _ _ lP trivial
  refine PX (lo:=(st.game.left:Int)) (c:=-1) (n:=st.game.left) (fun i σ H'=>∃ (JR:Addr) (o':List Nat) (u' used:Nat) (ms:List Nat) (kr:List (qo×V)) (v9 v10:Option V),σ=[some (.ref g),some (vN kind),some (.int tl),some (.ref ra),some (.ref se),some (.ref JR),some (vN u'),some (.ref Md),some (vN used),v9,v10]/\
    GW ⟨P,w,K,t.aF,t.a5,P1,P2⟩ H' kd st.rules kind kr/\cW H2 H'/\H' JR=some (.lst (o'.map vN))/\o'.Perm (aY (2*st.rules.n))/\u'<=1/\used<=row.length/\ms.length=i/\H' Md=some (.lst (ms.map vN))/\JR≠Md/\
    mQ st.rules kind tl st.game.left st.game row=(mQ st.rules kind tl (st.game.left - i) ⟨o',u',st.game.left - i⟩ (row.drop used)).map (fun y=>(ms++y.1,y.2)))
   ⟨oa,st.game.order,st.game.turn,0,[],[],none,none,rfl,S.dyn.on s3,.of s3,s3 _ _ lP,hf.ord (by decide),hf.turn,a0 _,rfl,ae,aV lP hMd,?_⟩ ?_ ?_
  ·show _=(mQ st.rules kind tl st.game.left st.game row).map (fun y=>([]++y.1,y.2))
   cases mQ st.rules kind tl st.game.left st.game row with
   | none=>rfl
   | some y=>rfl
  ·rintro i σ H' hi EE ⟨JR,o',u',used,ms,kr,v9,v10,rfl,D,z,Tx,hp',hu',hus,YQ,Yb,rm,qu⟩
   have mH:=jX hp'
   have QL:=mH.len
   have z2:cW H H':=(cW.of s2).trans z
   have O3:=z2.seq adm
   have S':=S.at z D
   have el:(st.game.left:Int)+((i:Nat):Int)*(-1)=((st.game.left - i - 1+1:Nat):Int):=by omega
   have el2:st.game.left - i=st.game.left - (i+1)+1:=by omega
   have el3:st.game.left - i - 1=st.game.left - (i+1):=by omega
   rw [el2] at qu
   refine ⟨_,rfl,_,rfl,rfl,_,rfl,?_⟩
   rw [b_]
   by_cases XZ:((u':Nat):Int)=tl
   ·rw [decide_eq_true XZ]
    refine cz ⟨_,rfl,_,rfl,ra,_,rfl,.inl O3,rfl,_,rfl,?_⟩
    rw [b_,U]
    by_cases hul:used=row.length
    ·rw [decide_eq_true (by omega)]
     rw [hul,me,VY XZ] at qu
     exact cz (cz (k0 qu H' D.tabs z2))
    ·rw [decide_eq_false (by omega)]
     have iX:used<row.length:=by omega
     have hat:(row.map V.int)[used]?=some (.int row[used]):=by rw [ax,a7 iX];rfl
     have hdr:row.drop used=row[used]::row.drop (used+1):=cw iX
     rw [hdr,Tw XZ] at qu
     refine cC ⟨_,rfl,_,rfl,ra,_,_,_,rfl,rfl,O3,bj hat,_,rfl,_,rfl,_,rfl,g,pd,pl,JR,eY st past,st.rules,⟨o',u',st.game.left - (i+1)+1⟩,rfl,S'.gm,rfl,rfl,hn,bO.of Tx,mH,fun H3 mv s4 aap hmv=>⟨mv,_,rfl,.inl (bO.of hmv),rfl,JX _,_,rfl,?_⟩⟩
     show if (!Kc (V.int row[used]) ((bg st.rules ⟨o',u',st.game.left - (i+1)+1⟩).map vN))=true then _ else _
     rw [O1]
     by_cases YR:0<=row[used]/\row[used].toNat∈bg st.rules ⟨o',u',st.game.left - (i+1)+1⟩
     ·rw [decide_eq_true YR]
      rw [if_pos YR] at qu
      obtain ⟨m,hmm⟩:∃ m:Nat,row[used]=(m:Int):=⟨row[used].toNat,by omega⟩
      rw [hmm] at YR qu hat
      have hm:m∈bg st.rules ⟨o',u',st.game.left - i⟩:=by rw [el2];simpa using YR.2
      have z3:cW H' H3:=.of s4
      have D3:=D.on s4
      have QZ:=s4 _ _ Yb
      have aau:=s4 _ _ Tx
      have aav:used+1<=row.length:=by omega
      have GY:mQ st.rules kind tl st.game.left st.game row=(mQ st.rules kind tl (st.game.left - (i+1)) ⟨jW o' m,1 - u',st.game.left - (i+1)⟩ (row.drop (used+1))).map (fun y=>((ms++[m])++y.1,y.2)):=by
       rw [qu,O0];rfl
      refine cC ⟨_,rfl,_,rfl,ra,_,_,_,rfl,rfl,s4.seq O3,bj hat,_,rfl,_,_,rfl,rfl,?_⟩
      refine ⟨_,rfl,.inl ⟨rfl,_,bO.of QZ⟩,_,rfl,Md,_,_,rfl,rfl,QZ,by rw [U,sizeLine_eq];omega,?_⟩
      have aaw:bO K (upd H3 Md (.lst (ms.map vN++[vN m]))) JR (o'.map vN):=bO.of (by rw [aD rm];exact aau)
      refine ⟨_,rfl,_,rfl,JR,o',m,rfl,aaw,by omega,zF (y:=⟨o',u',st.game.left - i⟩) (Ff hm),fun H5 ob s5 Tu Xt=>?_⟩
      refine ⟨_,rfl,_,_,rfl,rfl,?_⟩
      have eu:(1:Int) - ((u':Nat):Int)=((1 - u':Nat):Int):=by omega
      have z4:cW H2 (upd H3 Md (.lst (ms.map vN++[vN m]))):=(z.trans z3).cZ hMd
      have nob:ob≠Md:=fun e=>by rw [e,ae] at Tu;cases Tu
      refine ⟨ob,jW o' m,1 - u',(used+1),ms++[m],kr,some (.int ((st.game.left:Int)+((i:Nat):Int)*(-1))),some (.int (m:Int)),?_,(D3.tU QZ).on s5,z4.trans (.of s5),Xt,(oZ ⟨o',u',st.game.left - i⟩ m).trans hp',by omega,aav,by rw [ao,cP,YQ],by rw [s5 _ _ ae,aX];rfl,nob,GY⟩
      show [_,_,_,_,_,_,some (V.int ((1:Int) - ((u':Nat):Int))),_,_,_,_]=_
      rw [eu]<;>rfl
     ·rw [decide_eq_false YR]
      rw [if_neg YR] at qu
      exact cz (k0 qu H3 (D.on s4).tabs (z2.trans (.of s4)))
   ·rw [decide_eq_false XZ]
    rw [VZ XZ] at qu
    refine cC ⟨_,rfl,_,rfl,_,rfl,_,rfl,⟨st.game.left - (i+1),by omega⟩,se,g,pd,pl,kd,JR,st,past,kind,kr,o',u',?_,S',bO.of Tx,hp',hu',by show st.game.left - (i+1)+1<=20;omega,Ci,hf,fun H3 Ii D3 z3=>?_⟩
    ·show [V.ref se,V.ref JR,vN u',V.int ((st.game.left:Int)+((i:Nat):Int)*(-1))]=[V.ref se,V.ref JR,vN u',vN (st.game.left - (i+1)+1)]
     rw [el,el3]
    have hm:c9 st.rules kind ⟨o',u',st.game.left - (i+1)+1⟩∈bg st.rules ⟨o',u',st.game.left - i⟩:=by rw [el2];exact V0
    have QZ:=z3 _ _ Yb trivial
    have aau:=z3 _ _ Tx trivial
    have aav:=hus
    have GY:mQ st.rules kind tl st.game.left st.game row=(mQ st.rules kind tl (st.game.left - (i+1)) ⟨jW o' (c9 st.rules kind ⟨o',u',st.game.left - (i+1)+1⟩),1 - u',st.game.left - (i+1)⟩ (row.drop used)).map (fun y=>((ms++[c9 st.rules kind ⟨o',u',st.game.left - (i+1)+1⟩])++y.1,y.2)):=by
     rw [qu,O0];rfl
    show _
    revert hm GY
    generalize c9 st.rules kind ⟨o',u',st.game.left - (i+1)+1⟩=m
    intro hm GY
    refine ⟨_,rfl,.inl ⟨rfl,_,bO.of QZ⟩,_,rfl,Md,_,_,rfl,rfl,QZ,by rw [U,sizeLine_eq];omega,?_⟩
    have aaw:bO K (upd H3 Md (.lst (ms.map vN++[vN m]))) JR (o'.map vN):=bO.of (by rw [aD rm];exact aau)
    refine ⟨_,rfl,_,rfl,JR,o',m,rfl,aaw,by omega,zF (y:=⟨o',u',st.game.left - i⟩) (Ff hm),fun H5 ob s5 Tu Xt=>?_⟩
    refine ⟨_,rfl,_,_,rfl,rfl,?_⟩
    have eu:(1:Int) - ((u':Nat):Int)=((1 - u':Nat):Int):=by omega
    have z4:cW H2 (upd H3 Md (.lst (ms.map vN++[vN m]))):=(z.trans z3).cZ hMd
    have nob:ob≠Md:=fun e=>by rw [e,ae] at Tu;cases Tu
    refine ⟨ob,jW o' m,1 - u',used,ms++[m],Ii,some (.int ((st.game.left:Int)+((i:Nat):Int)*(-1))),some (.int (m:Int)),?_,(D3.tU QZ).on s5,z4.trans (.of s5),Xt,(oZ ⟨o',u',st.game.left - i⟩ m).trans hp',by omega,aav,by rw [ao,cP,YQ],by rw [s5 _ _ ae,aX];rfl,nob,GY⟩
    show [_,_,_,_,_,_,some (V.int ((1:Int) - ((u':Nat):Int))),_,_,_,_]=_
    rw [eu]<;>rfl
  ·rintro σ H' ⟨JR,o',u',used,ms,kr,v9,v10,rfl,D,z,Tx,hp',hu',hus,YQ,Yb,rm,qu⟩
   have z2:cW H H':=(cW.of s2).trans z
   have O3:=z2.seq adm
   rw [Nat.sub_self,aat] at qu
   refine ⟨_,rfl,_,rfl,ra,_,rfl,.inl O3,rfl,_,rfl,?_⟩
   rw [b_,U]
   by_cases hul:used=row.length
   ·rw [decide_eq_true (by omega)]
    rw [hul,me] at qu
    refine cz ⟨_,rfl,_,rfl,szB,fun a ha=>?_⟩
    have s5:=aM.new (o:=.tup [V.ref Md,V.ref JR]) ha
    refine k1 (ms++[]) ⟨o',u',0⟩ qu _ a Md JR (D.on s5).tabs (z2.trans (.of s5)) ae ?_ (s5 _ _ Tx)
    rw [cb];exact s5 _ _ Yb
   ·rw [decide_eq_false (by omega)]
    have tH:(row.drop used).isEmpty=false:=by
     rw [cw (show used<row.length by omega)];rfl
    rw [tH] at qu
    exact cC (k0 qu H' D.tabs z2)
def LM (p:Pl):Sp:=fun vs H Q _=>∃ (g pd pl:Addr) (s:aS) (past:List aP) (kind:Nat),vs=[.ref g,vN kind]/\mC p.C H g pd pl (eY s past)/\kG s 6/\kind<=2/\mz p H/\
 ∀ H' a b c,mz p H'->cW H H'->H' a=some (.tup [.ref b,.ref c])->H' b=some (.lst ((Vbrezy.lineFrom s.rules kind s.game.left s.game).1.map vN))->H' c=some (.lst ((Vbrezy.lineFrom s.rules kind s.game.left s.game).2.order.map vN))->Q (.ref a) H'
theorem LN (T:Txt K mg t) {c1 P1 c2 P2:Addr} (L:tE K t c1 P1 c2 P2) (hB:BMain base mg):bY P w K mg base fw 68 t.kU t.nJ ["game","goal"] (LM ⟨P,w,K,t.aF,t.a5,P1,P2⟩):=by
 have AX:=Ew (P:=P) (w:=w) T L hB
 refine T.jv.ok K5 (fun vs H Q E h=>?_) (fun eW A outer s H vs Q E hr h=>?_)
 ·obtain ⟨g,pd,pl,s,past,kind,rfl,_⟩:=h
  rfl
 ·obtain ⟨g,pd,pl,st,past,kind,rfl,hg,hf,Ci,ht,k⟩:=h
  refine ⟨_,(ak (aK (aN AX (hr.mono (by omega)) rfl T.AK T.jP.kp (Gk T) .nil bp (aa (pv 0) (aa (pv 1) (aa (eX rfl T.JH) (aa (bw ai) ai))))))),?_⟩
  try dsimp only [cxK]
  refine ⟨_,rfl,_,rfl,a0 _,fun q hq=>?_⟩
  have s1:=aM.new (o:=.lst []) hq
  refine ⟨g,pd,pl,q,st,past,kind,-1,[],rfl,hg.on s1,hf,Ci,ht.on s1,bO.of ae,fun e=>?_,fun ms y e H' a b c t1 z1 h1 h2 h3=>?_⟩
  ·rw [zr] at e;cases e
  ·rw [zr] at e
   have e:=aj.inj e
   refine k H' a b c t1 ((cW.of s1).trans z1) h1 ?_ ?_
   ·rw [e];exact h2
   ·rw [e];exact h3
end
structure Good (s:aS) (past:List aP):Prop where
 dO:kG s 6
 len:s.game.left+past.length<=20
 each:∀ i y,past[i]?=some y->y.order.Perm (aY (2*s.rules.n))/\y.turn<=1/\y.left+(past.length - 1 - i)<=20
def fN (ex:List Addr) (H H':Hp):Prop:=∀ b o,H b=some o->sN o->b∉ex->H' b=some o
theorem fN.of {ex:List Addr} {H H':Hp} (z:cW H H'):fN ex H H':=fun b o e so _=>z b o e so
theorem fN.YS {ex:List Addr} {H H':Hp} (z:bh ex H H'):fN ex H H':=fun b o e so n=>z b o e n
theorem fN.trans {ex:List Addr} {H H1 H2:Hp} (a:fN ex H H1) (b:fN ex H1 H2):fN ex H H2:=fun c o e so n=>b c o (a c o e so n) so n
theorem fN.mono {ex ex':List Addr} {H H1:Hp} (a:fN ex H H1) (h:∀ x∈ex,x∈ex'):fN ex' H H1:=fun c o e so n=>a c o e so fun m=>n (h c m)
def zH (H:Hp) (ga:Addr):jE->Prop
 | .load l=>∃ ra,H ga=some (.lst [.ref ra])/\H ra=some (.lst (l.map V.int))
 | .judge l=>∃ ra,H ga=some (.lst [.ref ra])/\H ra=some (.lst (l.map V.int))
 | .order l=>∃ ra,H ga=some (.lst [.ref ra])/\H ra=some (.lst (l.map V.int))
 | .passes t=>H ga=some (.lst [.int t])
 | .table t=>H ga=some (.lst [.int t])
 | .move t=>H ga=some (.lst [.int t])
 | .value t=>H ga=some (.lst [.int t])
 | .best t=>H ga=some (.lst [.int t])
 | .values t=>H ga=some (.lst [.int t])
 | .line t=>H ga=some (.lst [.int t])
 | .duel a b l=>∃ ra,H ga=some (.lst [.int a,.int b,.ref ra])/\H ra=some (.lst (l.map V.int))
 | .can a b=>H ga=some (.lst [.int a,.int b])
 | .cannot a b=>H ga=some (.lst [.int a,.int b])
 | .left a b=>H ga=some (.lst [.int a,.int b])
 | _=>∃ xs,H ga=some (.lst xs)
def iT (p:Pl) (c:jE):Sp:=fun vs H Q _=>∃ (g pd pl ga:Addr) (s:aS) (past:List aP),vs=[.ref g,.ref ga]/\mC p.C H g pd pl (eY s past)/\Good s past/\mz p H/\zH H ga c/\
 ∀ (H':Hp) (a QW qp:Addr) (s':aS) (Ah:List aP) (Bp:List Int),jF ⟨some s,past⟩ c=(⟨some s',Ah⟩,Bp)->mC p.C H' g QW qp (eY s' Ah)->Good s' Ah->mz p H'->fN [g,pd,pl] H H'->
  (QW=pd\/H QW=none)->(qp=pl\/H qp=none)->H' a=some (.lst (Bp.map V.int))->Bp.length<=6000->Q (.ref a) H'
theorem oC {p:Pl} {c:jE} {H:Hp} {Q:V->Hp->Prop} {g pd pl:Addr} {s:aS} {past:List aP} (hg:mC p.C H g pd pl (eY s past)) (fj:Good s past)
  (k:∀ (H':Hp) (a QW qp:Addr) (s':aS) (Ah:List aP) (Bp:List Int),jF ⟨some s,past⟩ c=(⟨some s',Ah⟩,Bp)->mC p.C H' g QW qp (eY s' Ah)->Good s' Ah->mz p H'->fN [g,pd,pl] H H'->
   (QW=pd\/H QW=none)->(qp=pl\/H qp=none)->H' a=some (.lst (Bp.map V.int))->Bp.length<=6000->Q (.ref a) H'):
  ∀ (H':Hp) (a:Addr) (Bp:List Int),jF ⟨some s,past⟩ c=(⟨some s,past⟩,Bp)->cW H H'->mz p H'->H' a=some (.lst (Bp.map V.int))->Bp.length<=6000->Q (.ref a) H':=
 fun H' a Bp e z t ha hl=>k H' a pd pl s past Bp e (hg.onS z) fj t (.of z) (.inl rfl) (.inl rfl) ha hl
theorem n_ (l:List Nat):oV Vbrezy.one l=(l.length:Int)::l.map fun (n:Nat)=>(n:Int):=by
 unfold oV Vbrezy.one
 congr 1
 induction l with
 | nil=>rfl
 | cons n l ih=>rw [cT,ih];rfl
theorem zI (l:List Nat):(l.map fun (n:Nat)=>(n:Int)).map V.int=l.map vN:=by rw [a9];rfl
theorem LO {n:Nat} (hn:n=2\/n=3):(aJ n n).length<=20:=by
 rcases hn with e | e
 ·rw [e,zA];decide
 ·rw [e,zB];decide
theorem Fg {α:Type} {b:Nat} (f:α->List Int):∀ (ws:List α),(∀ w∈ws,(f w).length<=b)->(ws.flatMap f).length<=ws.length*b
 | [],_=>by simp
 | w::ws,h=>by
  have:=Fg f ws fun x hx=>h x (.tail _ hx)
  have h1:=h w (.head _)
  rw [cT,ao,aq,oU]
  omega
theorem GZ {α:Type} (N:Int) (l:List α) (f:α->List Int) (c:α):((N::l.flatMap f).map V.int)++(f c).map V.int=(N::(l++[c]).flatMap f).map V.int:=by
 simp [eV]
section
variable {P:Program} {w:World} {K:ab} {mg:Str->Option Value} {base:Heap} {t:uZ}
theorem LP (T:Txt K mg t) {P1 P2:Addr}:bY P w K mg base fw 4 t.dH t.kW ["game","given"] (iT ⟨P,w,K,t.aF,t.a5,P1,P2⟩ .text):=by
 refine T.ic.ok B3 (fun vs H Q E h=>?_) (fun eW A outer s H vs Q E hr h=>?_)
 ·obtain ⟨g,pd,pl,ga,s,past,rfl,_⟩:=h
  rfl
 ·obtain ⟨g,pd,pl,ga,st,past,rfl,hg,fj,ht,yF,k⟩:=h
  have k:=oC hg fj k
  refine ⟨_,(ag (gR 2 B3.nd (aN (QV T) (hr.mono (by omega)) rfl T.JC T.nY.kp (SX T) .nil bp (aa (pv 0) ai)))
   (ak (aK (cB r_ (bw (aa (b8 bT (by rfl) T.f_ boot_len (aa (pv 2) ai)) ai)) (pv 2))))),?_⟩
  try dsimp only [cxK]
  refine ⟨_,rfl,g,pd,pl,st,past,rfl,hg,fj.dO,fun H1 p s1 TZ hp hlen=>?_⟩
  refine ⟨_,rfl,p,_,rfl,.inl (bO.of hp),szA,fun q hq=>?_⟩
  have s2:=aM.new (o:=.lst [V.int (((dP st).map vN).length:Nat)]) hq
  refine ⟨_,rfl,?_⟩
  refine ⟨q,p,_,_,rfl,rfl,ae,s2 _ _ hp,by rw [U,sizeLine_eq];show 1+_<=_;omega,fun a ha=>?_⟩
  have s3:=aM.new (o:=.lst ([V.int (((dP st).map vN).length:Nat)]++(dP st).map vN)) ha
  refine k _ a (oV Vbrezy.one (dP st)) rfl (.of ((s1.trans s2).trans s3)) (ht.on ((s1.trans s2).trans s3)) ?_ ?_
  ·rw [ae,n_,aC,zI,U];rfl
  ·rw [n_,aq,U];omega
theorem G1 (T:Txt K mg t) {P1 P2:Addr}:bY P w K mg base fw 4 t.c_ t.ka ["game","given"] (iT ⟨P,w,K,t.aF,t.a5,P1,P2⟩ .result):=by
 refine T.gw.ok Gm (fun vs H Q E h=>?_) (fun eW A outer s H vs Q E hr h=>?_)
 ·obtain ⟨g,pd,pl,ga,s,past,rfl,_⟩:=h
  rfl
 ·obtain ⟨g,pd,pl,ga,st,past,rfl,hg,fj,ht,yF,k⟩:=h
  have k:=oC hg fj k
  refine ⟨_,(ak (aK (aN (ly T) (hr.mono (by omega)) rfl T.ki T.dq.kp (mE T) .nil bp (aa (pv 0) (aa (bb (pv 0) rfl) ai))))),?_⟩
  try dsimp only [cxK]
  have hn:=fj.dO.n (by decide)
  have mH:=jX (fj.dO.ord (by decide))
  obtain ⟨dx,pa,oa,cK,my,lP,_⟩:=id hg
  refine ⟨_,rfl,_,rfl,g,_,dx,_,_,rfl,cK,T.aI,T.bN,jb,g,pd,pl,oa,eY st past,st.rules.tie,st.game.order,rfl,hg,rfl,fj.dO.tie,hn,bO.of lP,mH,fun H1 J s1 YO hJ=>?_⟩
  exact k H1 J _ rfl (.of s1) (ht.on s1) hJ (by show 3<=6000;decide)
theorem Im (T:Txt K mg t) {P1 P2:Addr}:bY P w K mg base fw 3 t.dv t.lX ["game","given"] (iT ⟨P,w,K,t.aF,t.a5,P1,P2⟩ .combs):=by
 refine T.ie.ok p_ (fun vs H Q E h=>?_) (fun eW A outer s H vs Q E hr h=>?_)
 ·obtain ⟨g,pd,pl,ga,s,past,rfl,_⟩:=h
  rfl
 ·obtain ⟨g,pd,pl,ga,st,past,rfl,hg,fj,ht,yF,k⟩:=h
  have k:=oC hg fj k
  refine ⟨_,(ag (gR 2 p_.nd (aN (mw T) (hr.mono (by omega)) rfl T.jN T.cM.kp (m7 T) .nil bp (aa (bb (pv 0) rfl) ai)))
   (ag (gR 3 p_.nd (bw (aa (b8 bT (by rfl) T.f_ boot_len (aa (pv 2) ai)) ai)))
   (ag (gE PassesOwn.never rfl (fv (pv 2)) (uY 4 p_.nd)
   (ag (cO (gG aB bc bf d8 (pv 3) (aa (bQ bI (aN (yp T) (hr.mono (by omega)) rfl T.zw T.mJ.kp (B1 T) .nil bp (aa (bb (pv 0) rfl) (aa (bb (pv 0) rfl) (aa (pv 4) ai)))) az (fun _ _=>rfl)) ai)))
   (ak (cO (gG aB iV iW CC (pv 3) (aa (pv 4) ai))))))
   (ak (aK (pv 3)))))),?_⟩
  try dsimp only [cxK]
  have hn:=fj.dO.n (by decide)
  obtain ⟨dx,pa,oa,cK,my,lP,_⟩:=id hg
  have cK:H g=some (.ins t.aF dx (gf st.rules.n pa (dm st.rules.tie) oa st.game.turn st.game.left pd pl)):=cK
  refine ⟨_,rfl,g,_,dx,_,_,rfl,cK,T.aI,T.bM,fM,st.rules.n,rfl,hn,fun H1 cl s1 EX=>?_⟩
  obtain ⟨as,Io,hP⟩:=id EX
  have hlen:=hP.length
  have h20:=LO hn
  have adp:∀ i,(((aJ st.rules.n st.rules.n).take i).flatMap (fun (c:qz)=>bR (bx st.rules c)::c.map fun (n:Nat)=>(n:Int))).length<=140:=fun i=>by
   have:=Fg (b:=7) (fun (c:qz)=>bR (bx st.rules c)::c.map fun (n:Nat)=>(n:Int)) ((aJ st.rules.n st.rules.n).take i) fun c hc=>by
    have:=(sL hn (List.mem_of_mem_take hc)).2
    rw [aq,U];omega
   rw [bK] at this
   omega
  refine ⟨_,rfl,cl,_,rfl,.inl (bO.of Io),szA,fun B hB=>?_⟩
  have s2:=aM.new (o:=.lst [V.int (((as.map V.ref).length:Nat):Int)]) hB
  have hBH:=s1.free hB
  refine ⟨_,rfl,cl,rfl,⟨_,bO.of (s2 _ _ Io)⟩,oo (K:=K) (a:=cl) (xs:=as.map V.ref) (fun i σ H'=>∃ (v4:Option V),σ=[some (.ref g),some (.ref ga),some (.ref cl),some (.ref B),v4]/\aM H1 H'/\H' B=some (.lst (((((aJ st.rules.n st.rules.n).length:Int)::((aJ st.rules.n st.rules.n).take i).flatMap (fun (c:qz)=>bR (bx st.rules c)::c.map fun (n:Nat)=>(n:Int)))).map V.int)))
   ⟨none,rfl,s2,by rw [ae,U,hlen];rfl⟩ (fun i σ H' _ ⟨_,_,s,_⟩=>bO.of (s _ _ Io)) ?_ ?_⟩
  ·rintro i x σ H' hi EE ⟨v4,rfl,s3,JW⟩
   rw [ax] at hi
   obtain ⟨ca,Yc,rfl⟩:=aZ.mp hi
   obtain ⟨c,hc,Rl⟩:=fk hP Yc
   have SE:=aT hc
   obtain ⟨O4,YT⟩:=sL hn SE
   have R6:=s1.trans s3
   have YU:=adp i
   refine ⟨_,rfl,.inl ⟨rfl,_,bO.of JW⟩,?_⟩
   refine ⟨_,rfl,g,_,dx,_,_,rfl,R6 _ _ cK,T.aI,T.cG,pM,_,rfl,g,_,dx,_,_,rfl,R6 _ _ cK,T.aI,T.dI,AV,_,rfl,pa,ca,st.rules,c,rfl,bO.of (R6 _ _ my),bO.of (s3 _ _ Rl),O4,fj.dO.tie,fun H4 J s4 YO hJ=>?_⟩
   refine ⟨J,_,0,_,rfl,rfl,bO.of hJ,bj (j:=0) rfl,B,_,_,rfl,rfl,s4 _ _ JW,?_,?_⟩
   ·rw [U,aq,sizeLine_eq];omega
   have ncB:ca≠B:=aV Rl hB
   refine ⟨_,rfl,.inl ⟨rfl,_,bO.of ae⟩,_,rfl,B,ca,_,_,rfl,rfl,ae,by rw [aD ncB];exact s4 _ _ (s3 _ _ Rl),?_,?_⟩
   ·rw [ao,U,aq,U,cP,sizeLine_eq];omega
   refine ⟨_,rfl,?_,?_⟩
   ·exact aM.cZ (aM.cZ (s3.trans s4) hB) hB
   ·rw [ae,take_snoc hc,<-GZ,bX]
    congr 3
    show [_]++_=(bR (bx st.rules c)::c.map fun (n:Nat)=>(n:Int)).map V.int
    rw [aC,zI];rfl
  ·rintro σ H' ⟨v4,rfl,s3,JW⟩
   have:=adp (aJ st.rules.n st.rules.n).length
   rw [cA] at this
   rw [U,hlen,cA] at JW
   refine ⟨_,rfl,k H' B _ rfl (.of (s1.trans s3)) (ht.on (s1.trans s3)) JW ?_⟩
   exact bB (pX this) (by decide)
end
theorem vY {k z0:Int} (hk:∀ z,Val z->(bR z=k↔z=z0)):∀ (l:List Int),(∀ z∈l,Val z)->(l.map bR).count k=(l.filter fun z=>z==z0).length
 | [],_=>rfl
 | z::l,h=>by
  have ih:=vY hk l fun x hx=>h x (.tail _ hx)
  have hz:=hk z (h z (.head _))
  rw [aC,g7,ih]
  by_cases e:z=z0
  ·have e2:=hz.mpr e
   rw [List.filter_cons_of_pos (by rw [e];exact beq_self_eq_true _),e2]
   simp
  ·have e2:¬ bR z=k:=fun q=>e (hz.mp q)
   rw [List.filter_cons_of_neg (by rw [beq_iff_eq];exact e)]
   simp [e2]
theorem rX:∀ (a b:Nat) (c:List Nat),c∈aJ a b↔(∀ x∈c,x=0\/x=1)/\c.count 0=a/\c.count 1=b
 | 0,b,c=>by
  unfold aJ
  rw [ay]
  constructor
  ·rintro rfl
   refine ⟨fun x hx=>.inr (List.eq_of_mem_replicate hx),?_,by simp⟩
   rw [lN];simp
  ·rintro ⟨h1,h2,h3⟩
   have:∀ x∈c,x=1:=fun x hx=>by
    rcases h1 x hx with e | e
    ·subst e;exact absurd hx (List.count_eq_zero.mp h2)
    ·exact e
   have e:=List.eq_replicate_iff.mpr ⟨rfl,this⟩
   rw [e,lN] at h3
   rw [e,show c.length=b by simpa using h3]
 | a+1,0,c=>by
  unfold aJ
  rw [ay]
  constructor
  ·rintro rfl
   refine ⟨fun x hx=>.inl (List.eq_of_mem_replicate hx),by simp,?_⟩
   rw [lN];simp
  ·rintro ⟨h1,h2,h3⟩
   have:∀ x∈c,x=0:=fun x hx=>by
    rcases h1 x hx with e | e
    ·exact e
    ·subst e;exact absurd hx (List.count_eq_zero.mp h3)
   have e:=List.eq_replicate_iff.mpr ⟨rfl,this⟩
   rw [e,lN] at h2
   rw [e,show c.length=a+1 by simpa using h2]
 | a+1,b+1,c=>by
  unfold aJ
  rw [bS,aO,aO]
  constructor
  ·rintro (⟨d,hd,rfl⟩ | ⟨d,hd,rfl⟩)
   ·obtain ⟨h1,h2,h3⟩:=(rX a (b+1) d).mp hd
    refine ⟨fun x hx=>?_,by simp [h2],by simp [h3]⟩
    rcases aw.mp hx with e | e
    ·exact .inl e
    ·exact h1 x e
   ·obtain ⟨h1,h2,h3⟩:=(rX (a+1) b d).mp hd
    refine ⟨fun x hx=>?_,by simp [h2],by simp [h3]⟩
    rcases aw.mp hx with e | e
    ·exact .inr e
    ·exact h1 x e
  ·rintro ⟨h1,h2,h3⟩
   cases c with
   | nil=>simp at h2
   | cons x d=>
    rcases h1 x (.head _) with e | e
    ·subst e
     refine .inl ⟨d,(rX a (b+1) d).mpr ⟨fun y hy=>h1 y (.tail _ hy),?_,?_⟩,rfl⟩
     ·simpa using h2
     ·simpa using h3
    ·subst e
     refine .inr ⟨d,(rX (a+1) b d).mpr ⟨fun y hy=>h1 y (.tail _ hy),?_,?_⟩,rfl⟩
     ·simpa using h2
     ·simpa using h3
theorem JY:∀ (l:List Int),l.count 0+l.count 1<=l.length/\(l.count 0+l.count 1=l.length->∀ z∈l,z=0\/z=1)
 | []=>⟨au _,fun _ z hz=>nomatch hz⟩
 | y::l=>by
  obtain ⟨h1,h2⟩:=JY l
  rw [g7,g7,aq]
  by_cases e0:y=0
  ·subst e0
   refine ⟨by simp;omega,fun h z hz=>?_⟩
   simp at h
   rcases aw.mp hz with e | e
   ·exact .inl e
   ·exact h2 (by omega) z e
  ·by_cases e1:y=1
   ·subst e1
    refine ⟨by simp;omega,fun h z hz=>?_⟩
    simp at h
    rcases aw.mp hz with e | e
    ·exact .inr e
    ·exact h2 (by omega) z e
   ·have b0:(y==0)=false:=by simpa using e0
    have b1:(y==1)=false:=by simpa using e1
    rw [b0,b1]
    refine ⟨by simp;omega,fun h=>?_⟩
    simp at h
    omega
theorem vf (k:Nat):∀ (l:List Int),(∀ z∈l,0<=z)->(l.map bF).count k=l.count (k:Int)
 | [],_=>rfl
 | y::l,h=>by
  have hy:=h y (.head _)
  rw [aC,g7,g7,vf k l fun z hz=>h z (.tail _ hz)]
  congr 1
  by_cases e:y=(k:Int)
  ·subst e;simp
  ·have:¬ y.toNat=k:=by omega
   simp [e,this]
theorem G2 {n:Nat} (l:List Int):Dd l n=true↔(l.all fun z=>aW z 0 1)=true/\l.map bF∈aJ n n:=by
 unfold Dd
 rw [aG,aG,decide_eq_true_iff,decide_eq_true_iff,decide_eq_true_iff,rX]
 obtain ⟨hc1,Li⟩:=JY l
 constructor
 ·rintro ⟨h1,h2,h3⟩
  have rE:=Li (by omega)
  have GK:∀ z∈l,0<=z:=fun z hz=>by rcases rE z hz with e | e<;>omega
  refine ⟨bA.mpr fun z hz=>?_,fun x hx=>?_,?_,?_⟩
  ·rcases rE z hz with e | e<;>subst e<;>decide
  ·obtain ⟨z,hz,rfl⟩:=aO.mp hx
   rcases rE z hz with e | e
   ·left;rw [e];rfl
   ·right;rw [e];rfl
  ·rw [vf 0 l GK];show l.count 0=n;omega
  ·rw [vf 1 l GK];show l.count 1=n;omega
 ·rintro ⟨h1,h2,h3,h4⟩
  have xk:∀ z∈l,z=0\/z=1:=fun z hz=>by
   have:=bA.mp h1 z hz
   unfold aW at this
   rw [aG,decide_eq_true_iff,decide_eq_true_iff] at this
   omega
  have GK:∀ z∈l,0<=z:=fun z hz=>by rcases xk z hz with e | e<;>omega
  have e0:l.count 0=n:=by rw [<- h3,vf 0 l GK];rfl
  have e1:l.count 1=n:=by rw [<- h4,vf 1 l GK];rfl
  have ag0:∀ (l:List Int),(∀ z∈l,z=0\/z=1)->l.count 0+l.count 1=l.length:=by
   intro l
   induction l with
   | nil=>intro _;rfl
   | cons y l ih=>
    intro h
    have:=ih fun z hz=>h z (.tail _ hz)
    rcases h y (.head _) with e | e<;>subst e<;>simp<;>omega
  have:=ag0 l xk
  exact ⟨by omega,by omega,by omega⟩
theorem V1 {r:aR} {o:List Nat} (hn:r.n=2\/r.n=3) (hp:o.Perm (aY (2*r.n))):cN r o∈aJ r.n r.n:=by
 rw [rX]
 have hq:(cN r o).Perm ((aY (2*r.n)).map (di r)):=hp.map _
 have key:∀ k,((aY (2*r.n)).map (di r)).count k=((aY (2*r.n)).map fun b=>if b<r.n then 0 else 1).count k:=fun k=>rfl
 refine ⟨fun x hx=>?_,?_,?_⟩
 ·unfold cN at hx
  obtain ⟨b,_,rfl⟩:=aO.mp hx
  unfold di
  split
  ·exact .inl rfl
  ·exact .inr rfl
 ·rw [hq.count_eq,key]
  rcases hn with e | e<;>rw [e]<;>decide
 ·rw [hq.count_eq,key]
  rcases hn with e | e<;>rw [e]<;>decide
theorem AY (o:Option Nat):(mI o).length<=2:=by
 cases o with
 | none=>show 1<=2;decide
 | some n=>show 2<=2;decide
theorem Q0 (o:Option Nat):(mI o).length<=6000:=bB (AY o) (by decide)
theorem zJ (x:Int):Kc (.int x) [.int 0,.int 1]=aW x 0 1:=by
 show Kc (.int x) ([0,1].map V.int)=_
 rw [Ce]
 unfold aW
 rw [<- mO]
 exact decide_eq_decide.mpr (by simp;omega)
section
variable {P:Program} {w:World} {K:ab} {mg:Str->Option Value} {base:Heap} {t:uZ}
theorem LQ (T:Txt K mg t) {P1 P2:Addr}:bY P w K mg base fw 3 t.d_ t.nL ["game","given"] (iT ⟨P,w,K,t.aF,t.a5,P1,P2⟩ .wins):=by
 refine T.jw.ok vO (fun vs H Q E h=>?_) (fun eW A outer s H vs Q E hr h=>?_)
 ·obtain ⟨g,pd,pl,ga,s,past,rfl,_⟩:=h
  rfl
 ·obtain ⟨g,pd,pl,ga,st,past,rfl,hg,fj,ht,yF,k⟩:=h
  have k:=oC hg fj k
  refine ⟨_,(ag (UJ (i:=3) rfl vO.nd rfl rfl (Xc rfl rfl rfl rfl) (fv (aN (mw T) (hr.mono (by omega)) rfl T.jN T.cM.kp (m7 T) .nil bp (aa (bb (pv 0) rfl) ai))) (gH (own:=[("teams",2)]) (by kernel_rfl)) (fun _ _ _ _ _=>(uY 2 vO.nd)) (fun _ _ _ _ _=>kz) (fun _ _ _ _ _=>(bQ (BO (K:=K) rfl) (aN (yp T) (hr.mono (by omega)) rfl T.zw T.mJ.kp (B1 T) .nil bp (aa (Kw (K:=K) rfl (pv 0) rfl) (aa (Kw (K:=K) rfl (pv 0) rfl) (aa (pv 2) ai)))) az (fun _ _=>rfl))))
   (ak (aK (bw (aa (gG aB eL eM rP (pv 3) (aa az ai)) (aa (gG aB eL eM rP (pv 3) (aa az ai)) (aa (gG aB eL eM rP (pv 3) (aa az ai)) ai))))))),?_⟩
  try dsimp only [cxK]
  have hn:=fj.dO.n (by decide)
  obtain ⟨dx,pa,oa,cK,my,lP,ma,rn,qM,rm⟩:=id hg
  have cK:H g=some (.ins t.aF dx (gf st.rules.n pa (dm st.rules.tie) oa st.game.turn st.game.left pd pl)):=cK
  have h20:=LO hn
  refine ⟨_,rfl,g,_,dx,_,_,rfl,cK,T.aI,T.bM,fM,st.rules.n,rfl,hn,fun H1 cl s1 EX=>?_⟩
  obtain ⟨as,Io,hP⟩:=id EX
  have hlen:=hP.length
  refine ⟨cl,rfl,⟨_,bO.of Io⟩,fun D hD=>?_⟩
  refine sr (K:=K) (a:=cl) (xs:=as.map V.ref) (ys:=(((aJ st.rules.n st.rules.n).map (bx st.rules)).map bR).map V.int) hD (bO.of Io) (by rw [U,U,U,U,hlen]) (by rw [U,U,U,sizeLine_eq];omega) ?_ ?_
  ·intro i x1 y H2 R hi hy s2 fin
   rw [ax] at hi
   obtain ⟨ca,Yc,rfl⟩:=aZ.mp hi
   obtain ⟨c,hc,Rl⟩:=fk hP Yc
   rw [ax,ax,ax,hc] at hy
   have hy:V.int (bR (bx st.rules c))=y:=aj.inj hy
   subst hy
   obtain ⟨O4,YT⟩:=sL hn (aT hc)
   have yq:=s1.trans s2
   refine ⟨rfl,_,rfl,g,_,dx,_,_,rfl,yq _ _ cK,T.aI,T.cG,pM,_,rfl,g,_,dx,_,_,rfl,yq _ _ cK,T.aI,T.dI,AV,_,rfl,pa,ca,st.rules,c,rfl,bO.of (yq _ _ my),bO.of (s2 _ _ Rl),O4,fj.dO.tie,fun H4 J s4 YO hJ=>?_⟩
   exact ⟨J,_,0,_,rfl,rfl,bO.of hJ,bj (j:=0) rfl,fin _ s4⟩
  intro H2 s2 AU
  have c1:=vY (k:=1) (z0:=1) (fun z hz=>by rcases hz with rfl | rfl | rfl<;>decide) ((aJ st.rules.n st.rules.n).map (bx st.rules)) fun z hz=>by obtain ⟨c,_,rfl⟩:=aO.mp hz;exact E6 _ _
  have c0:=vY (k:=0) (z0:=0) (fun z hz=>by rcases hz with rfl | rfl | rfl<;>decide) ((aJ st.rules.n st.rules.n).map (bx st.rules)) fun z hz=>by obtain ⟨c,_,rfl⟩:=aO.mp hz;exact E6 _ _
  have c2:=vY (k:=2) (z0:=-1) (fun z hz=>by rcases hz with rfl | rfl | rfl<;>decide) ((aJ st.rules.n st.rules.n).map (bx st.rules)) fun z hz=>by obtain ⟨c,_,rfl⟩:=aO.mp hz;exact E6 _ _
  refine ⟨_,rfl,.inl ⟨rfl,_,bO.of AU⟩,D,_,1,rfl,rfl,bO.of AU,_,rfl,.inl ⟨rfl,_,bO.of AU⟩,D,_,0,rfl,rfl,bO.of AU,_,rfl,.inl ⟨rfl,_,bO.of AU⟩,D,_,2,rfl,rfl,bO.of AU,by show 3<=sizeLine;decide,fun a ha=>?_⟩
  rw [c1,c0,c2]
  have s3:=aM.new (o:=.lst [V.int ((((aJ st.rules.n st.rules.n).map (bx st.rules)).filter fun z=>z==1).length:Nat),V.int ((((aJ st.rules.n st.rules.n).map (bx st.rules)).filter fun z=>z==0).length:Nat),V.int ((((aJ st.rules.n st.rules.n).map (bx st.rules)).filter fun z=>z==-1).length:Nat)]) ha
  exact k _ a _ rfl (.of ((s1.trans s2).trans s3)) (ht.on ((s1.trans s2).trans s3)) ae (by show 3<=6000;decide)
theorem Ip (T:Txt K mg t) {P1 P2:Addr}:bY P w K mg base fw 3 t.dw t.lY ["game","given"] (fun vs H Q E=>∃ x:List Int,iT ⟨P,w,K,t.aF,t.a5,P1,P2⟩ (.judge x) vs H Q E):=by
 refine T.ig.ok Ae (fun vs H Q E h=>?_) (fun eW A outer s H vs Q E hr h=>?_)
 ·obtain ⟨x,g,pd,pl,ga,s,past,rfl,_⟩:=h
  rfl
 ·obtain ⟨x,g,pd,pl,ga,st,past,rfl,hg,fj,ht,yF,k⟩:=h
  have k:=oC hg fj k
  refine ⟨_,(ag (gR 2 Ae.nd (bQ bI (pv 1) az (fun _ _=>rfl)))
   (ag (cx (vj (qB (aN (B6 T) (hr.mono (by omega)) rfl T.u5 T.eF.kp (C4 T) .nil bp (aa (pv 2) (aa (bb (pv 0) rfl) ai)))))
   (ak (aK (bw (aa (eX rfl T.mD) ai))))
   bt)
   (ak (aK (aN (yp T) (hr.mono (by omega)) rfl T.zw T.mJ.kp (B1 T) .nil bp (aa (bb (pv 0) rfl) (aa (bb (pv 0) rfl) (aa (pv 2) ai)))))))),?_⟩
  try dsimp only [cxK]
  have hn:=fj.dO.n (by decide)
  obtain ⟨dx,pa,oa,cK,my,lP,ma,rn,qM,rm⟩:=id hg
  have cK:H g=some (.ins t.aF dx (gf st.rules.n pa (dm st.rules.tie) oa st.game.turn st.game.left pd pl)):=cK
  obtain ⟨ra,JZ,Q1⟩:=yF
  refine ⟨_,rfl,ga,_,0,_,rfl,rfl,bO.of JZ,bj (j:=0) rfl,_,rfl,_,rfl,g,_,dx,_,_,rfl,cK,T.aI,T.bM,fM,ra,x,st.rules.n,rfl,bO.of Q1,_,rfl,?_⟩
  by_cases hc:Dd x st.rules.n=true
  ·rw [hc]
   obtain ⟨h1,h2⟩:=(G2 x).mp hc
   obtain ⟨O4,YT⟩:=sL hn h2
   have xk:∀ z∈x,0<=z:=fun z hz=>by
    have:=bA.mp h1 z hz
    unfold aW at this
    rw [aG,decide_eq_true_iff,decide_eq_true_iff] at this
    omega
   have ex:x.map V.int=(x.map bF).map vN:=by
    rw [a9]
    refine cf fun z hz=>?_
    have:=xk z hz
    show V.int z=V.int ((z.toNat:Nat):Int)
    congr 1;omega
   rw [ex] at Q1
   refine cC ⟨_,rfl,g,_,dx,_,_,rfl,cK,T.aI,T.cG,pM,_,rfl,g,_,dx,_,_,rfl,cK,T.aI,T.dI,AV,_,rfl,pa,ra,st.rules,x.map bF,rfl,bO.of my,bO.of Q1,O4,fj.dO.tie,fun H4 J s4 YO hJ=>?_⟩
   refine k H4 J _ ?_ (.of s4) (ht.on s4) hJ (by show 3<=6000;decide)
   show (if (x.all fun z=>aW z 0 1)=false\/(w6 st.rules).contains (x.map bF)=false then _ else _)=_
   rw [if_neg ?_]
   ·rfl
   ·rintro (q | q)
    ·rw [h1] at q;cases q
    ·have h3:(w6 st.rules).contains (x.map bF)=true:=dj.mpr h2
     rw [h3] at q;cases q
  ·have Li:Dd x st.rules.n=false:=by simpa using hc
   rw [Li]
   refine cz ⟨szA,fun a ha=>?_⟩
   refine k _ a [-3] ?_ (.of (aM.new ha)) (ht.on (aM.new ha)) ae (by decide)
   show (if (x.all fun z=>aW z 0 1)=false\/(w6 st.rules).contains (x.map bF)=false then _ else _)=_
   rw [if_pos ?_]
   ·rfl
   ·cases h1:x.all fun z=>aW z 0 1 with
    | false=>exact .inl rfl
    | true=>
     refine .inr ?_
     cases h2:(w6 st.rules).contains (x.map bF) with
     | false=>rfl
     | true=>exact absurd ((G2 x).mpr ⟨h1,dj.mp h2⟩) hc
theorem G3 (T:Txt K mg t) {P1 P2:Addr}:bY P w K mg base fw 5 t.da t.kb ["game","given"] (fun vs H Q E=>∃ x:Int,iT ⟨P,w,K,t.aF,t.a5,P1,P2⟩ (.passes x) vs H Q E):=by
 refine T.gx.ok yj (fun vs H Q E h=>?_) (fun eW A outer s H vs Q E hr h=>?_)
 ·obtain ⟨x,g,pd,pl,ga,s,past,rfl,_⟩:=h
  rfl
 ·obtain ⟨x,g,pd,pl,ga,st,past,rfl,hg,fj,ht,yF,k⟩:=h
  have k:=oC hg fj k
  refine ⟨_,(ag (gR 2 yj.nd (bQ bI (pv 1) az (fun _ _=>rfl)))
   (ag (cx (bu eR (pv 2) (eX rfl T.BY) (by with_unfolding_all rfl))
   (ak (aK (bw (aa (eX rfl T.fL) ai))))
   bt)
   (ak (aK (aN (va T) (hr.mono (by omega)) rfl T.qJ T.dS.kp (xg T) .nil bp (aa (bb (pv 0) rfl) (aa (bb (pv 0) rfl) (aa (aN (yw T) (hr.mono (by omega)) rfl T.vI T.iQ.kp (AO T) .nil bp (aa (pv 0) (aa (bb (pv 0) rfl) ai))) (aa (pv 2) ai))))))))),?_⟩
  try dsimp only [cxK]
  have hn:=fj.dO.n (by decide)
  obtain ⟨dx,pa,oa,cK,my,lP,ma,rn,qM,rm⟩:=id hg
  have cK:H g=some (.ins t.aF dx (gf st.rules.n pa (dm st.rules.tie) oa st.game.turn st.game.left pd pl)):=cK
  have mH:=jX (fj.dO.ord (by decide))
  refine ⟨_,rfl,ga,_,0,_,rfl,rfl,bO.of yF,bj (j:=0) rfl,_,rfl,t.pZ,_,rfl,.inr (T.BZ.sq H),rfl,rfl,_,rfl,?_⟩
  show if (!Kc (V.int x) [.int 0,.int 1])=true then _ else _
  rw [zJ]
  cases xk:aW x 0 1 with
  | false=>
   refine cz ⟨szA,fun a ha=>?_⟩
   refine k _ a [-2] ?_ (.of (aM.new ha)) (ht.on (aM.new ha)) ae (by decide)
   show (if aW x 0 1=false then _ else _)=_
   rw [if_pos xk];rfl
  | true=>
   have hx:0<=x/\x<=1:=by
    unfold aW at xk
    rwa [aG,decide_eq_true_iff,decide_eq_true_iff] at xk
   obtain ⟨u,rfl⟩:∃ u:Nat,x=(u:Int):=⟨x.toNat,by omega⟩
   refine cC ⟨_,rfl,g,_,dx,_,_,rfl,cK,T.aI,T.cG,pM,_,rfl,g,_,dx,_,_,rfl,cK,T.aI,T.dI,AV,_,rfl,_,rfl,g,_,dx,_,_,rfl,cK,T.aI,T.bN,jb,g,pd,pl,oa,eY st past,st.rules,st.game.order,rfl,hg,rfl,hn,bO.of lP,mH.lt,by have:=mH.len;omega,fun H1 tm s1 al8 htm=>?_⟩
   refine ⟨_,rfl,pa,tm,st.rules,cN st.rules st.game.order,u,rfl,bO.of (s1 _ _ my),htm,V1 hn (fj.dO.ord (by decide)),hn,fj.dO.tie,by omega,fun H2 p s2 TZ hp=>?_⟩
   refine k H2 p _ ?_ (.of (s1.trans s2)) (ht.on (s1.trans s2)) hp (Q0 _)
   show (if aW (u:Int) 0 1=false then _ else _)=_
   rw [if_neg (by rw [xk];decide)];rfl
theorem Iq (T:Txt K mg t) {P1 P2:Addr}:bY P w K mg base fw 5 t.dy t.lZ ["game","given"] (fun vs H Q E=>∃ x:Int,iT ⟨P,w,K,t.aF,t.a5,P1,P2⟩ (.table x) vs H Q E):=by
 refine T.ij.ok mG (fun vs H Q E h=>?_) (fun eW A outer s H vs Q E hr h=>?_)
 ·obtain ⟨x,g,pd,pl,ga,s,past,rfl,_⟩:=h
  rfl
 ·obtain ⟨x,g,pd,pl,ga,st,past,rfl,hg,fj,ht,yF,k⟩:=h
  have k:=oC hg fj k
  refine ⟨_,(ag (gR 2 mG.nd (bQ bI (pv 1) az (fun _ _=>rfl)))
   (ag (cx (bu eR (pv 2) (eX rfl T.BY) (by with_unfolding_all rfl))
   (ak (aK (bw (aa (eX rfl T.fL) ai))))
   bt)
   (ag (gR 3 mG.nd (aN (mw T) (hr.mono (by omega)) rfl T.jN T.cM.kp (m7 T) .nil bp (aa (bb (pv 0) rfl) ai)))
   (ag (gR 4 mG.nd (bw (aa (b8 bT (by rfl) T.f_ boot_len (aa (pv 3) ai)) ai)))
   (ag (gE PassesOwn.never rfl (fv (pv 3)) (uY 5 mG.nd)
   (ak (cO (gG aB iV iW CC (pv 4) (aa (aN (va T) (hr.mono (by omega)) rfl T.qJ T.dS.kp (xg T) .nil bp (aa (bb (pv 0) rfl) (aa (bb (pv 0) rfl) (aa (pv 5) (aa (pv 2) ai))))) ai)))))
   (ak (aK (pv 4)))))))),?_⟩
  try dsimp only [cxK]
  have hn:=fj.dO.n (by decide)
  obtain ⟨dx,pa,oa,cK,my,lP,ma,rn,qM,rm⟩:=id hg
  have cK:H g=some (.ins t.aF dx (gf st.rules.n pa (dm st.rules.tie) oa st.game.turn st.game.left pd pl)):=cK
  refine ⟨_,rfl,ga,_,0,_,rfl,rfl,bO.of yF,bj (j:=0) rfl,_,rfl,t.pZ,_,rfl,.inr (T.BZ.sq H),rfl,rfl,_,rfl,?_⟩
  show if (!Kc (V.int x) [.int 0,.int 1])=true then _ else _
  rw [zJ]
  cases xk:aW x 0 1 with
  | false=>
   refine cz ⟨szA,fun a ha=>?_⟩
   refine k _ a [-2] ?_ (.of (aM.new ha)) (ht.on (aM.new ha)) ae (by decide)
   show (if aW x 0 1=false then _ else _)=_
   rw [if_pos xk];rfl
  | true=>
   have hx:0<=x/\x<=1:=by
    unfold aW at xk
    rwa [aG,decide_eq_true_iff,decide_eq_true_iff] at xk
   obtain ⟨u,rfl⟩:∃ u:Nat,x=(u:Int):=⟨x.toNat,by omega⟩
   have h20:=LO hn
   have h40:∀ i,(((aJ st.rules.n st.rules.n).take i).flatMap (fun (c:qz)=>mI (du st.rules u c))).length<=40:=fun i=>by
    have:=Fg (b:=2) (fun (c:qz)=>mI (du st.rules u c)) ((aJ st.rules.n st.rules.n).take i) fun c hc=>AY _
    rw [bK] at this
    omega
   refine cC ⟨_,rfl,g,_,dx,_,_,rfl,cK,T.aI,T.bM,fM,st.rules.n,rfl,hn,fun H1 cl s1 EX=>?_⟩
   obtain ⟨as,Io,hP⟩:=id EX
   have hlen:=hP.length
   refine ⟨_,rfl,cl,_,rfl,.inl (bO.of Io),szA,fun B hB=>?_⟩
   have s2:=aM.new (o:=.lst [V.int (((as.map V.ref).length:Nat):Int)]) hB
   refine ⟨_,rfl,cl,rfl,⟨_,bO.of (s2 _ _ Io)⟩,oo (K:=K) (a:=cl) (xs:=as.map V.ref) (fun i σ H'=>∃ (v5:Option V),σ=[some (.ref g),some (.ref ga),some (vN u),some (.ref cl),some (.ref B),v5]/\aM H1 H'/\H' B=some (.lst (((((aJ st.rules.n st.rules.n).length:Int)::((aJ st.rules.n st.rules.n).take i).flatMap (fun (c:qz)=>mI (du st.rules u c)))).map V.int)))
    ⟨none,rfl,s2,by rw [ae,U,hlen];rfl⟩ (fun i σ H' _ ⟨_,_,s,_⟩=>bO.of (s _ _ Io)) ?_ ?_⟩
   ·rintro i x σ H' hi EE ⟨v5,rfl,s3,JW⟩
    rw [ax] at hi
    obtain ⟨ca,Yc,rfl⟩:=aZ.mp hi
    obtain ⟨c,hc,Rl⟩:=fk hP Yc
    have SE:=aT hc
    have R6:=s1.trans s3
    have YU:=h40 i
    have h2:=AY (du st.rules u c)
    refine ⟨_,rfl,.inl ⟨rfl,_,bO.of JW⟩,?_⟩
    refine ⟨_,rfl,g,_,dx,_,_,rfl,R6 _ _ cK,T.aI,T.cG,pM,_,rfl,g,_,dx,_,_,rfl,R6 _ _ cK,T.aI,T.dI,AV,_,rfl,_,rfl,pa,ca,st.rules,c,u,rfl,bO.of (R6 _ _ my),s3 _ _ Rl,SE,hn,fj.dO.tie,by omega,fun H4 J s4 YO hJ=>?_⟩
    refine ⟨B,J,_,_,rfl,rfl,s4 _ _ JW,hJ,?_,?_⟩
    ·rw [U,aq,U,sizeLine_eq];omega
    refine ⟨_,rfl,aM.cZ (s3.trans s4) hB,?_⟩
    rw [ae,take_snoc hc,<-GZ]
   ·rintro σ H' ⟨v5,rfl,s3,JW⟩
    have:=h40 (aJ st.rules.n st.rules.n).length
    rw [cA] at this
    rw [U,hlen,cA] at JW
    refine ⟨_,rfl,k H' B _ ?_ (.of (s1.trans s3)) (ht.on (s1.trans s3)) JW (bB (pX this) (by decide))⟩
    show (if aW (u:Int) 0 1=false then _ else _)=_
    rw [if_neg (by rw [xk];decide)];rfl
theorem Ir (T:Txt K mg t) {P1 P2:Addr}:bY P w K mg base fw 4 t.dz t.l4 ["game","given"] (iT ⟨P,w,K,t.aF,t.a5,P1,P2⟩ .moves):=by
 refine T.ik.ok Af (fun vs H Q E h=>?_) (fun eW A outer s H vs Q E hr h=>?_)
 ·obtain ⟨g,pd,pl,ga,s,past,rfl,_⟩:=h
  rfl
 ·obtain ⟨g,pd,pl,ga,st,past,rfl,hg,fj,ht,yF,k⟩:=h
  have k:=oC hg fj k
  refine ⟨_,(ag (gR 2 Af.nd (aN (Ca T) (hr.mono (by omega)) rfl T.x9 T.hZ.kp (Ec T) .nil bp (aa (pv 0) ai)))
   (ak (aK (cB r_ (bw (aa (b8 bT (by rfl) T.f_ boot_len (aa (pv 2) ai)) ai)) (pv 2))))),?_⟩
  try dsimp only [cxK]
  have hn:=fj.dO.n (by decide)
  obtain ⟨dx,pa,oa,cK,my,lP,ma,rn,qM,rm⟩:=id hg
  have cK:H g=some (.ins t.aF dx (gf st.rules.n pa (dm st.rules.tie) oa st.game.turn st.game.left pd pl)):=cK
  have mH:=jX (fj.dO.ord (by decide))
  have Zo:=zG (r:=st.rules) st.game (by omega)
  have ag1:(lz (eY st past) st.rules.tie).length<=13:=by
   unfold lz
   split
   ·exact a0 _
   ·exact Zo
  refine ⟨_,rfl,g,pd,pl,eY st past,st.rules.tie,rfl,hg,hn,mH,fun H1 p s1 TZ hp=>?_⟩
  refine ⟨_,rfl,p,_,rfl,.inl (bO.of hp),szA,fun q hq=>?_⟩
  have s2:=aM.new (o:=.lst [V.int (((lz (eY st past) st.rules.tie).map vN).length:Nat)]) hq
  refine ⟨_,rfl,q,p,_,_,rfl,rfl,ae,s2 _ _ hp,by rw [U,sizeLine_eq];show 1+_<=_;omega,fun a ha=>?_⟩
  have s3:=aM.new (o:=.lst ([V.int (((lz (eY st past) st.rules.tie).map vN).length:Nat)]++(lz (eY st past) st.rules.tie).map vN)) ha
  refine k _ a (oV Vbrezy.one (lz (eY st past) st.rules.tie)) rfl (.of ((s1.trans s2).trans s3)) (ht.on ((s1.trans s2).trans s3)) ?_ ?_
  ·rw [ae,n_,aC,zI,U];rfl
  ·rw [n_,aq,U];omega
end
def qO (s:aS) (kind:Int):Int:=if aW kind 0 2=false then -2 else if gO s.rules s.game=false then -7 else 0
theorem rY {s:aS} {kind:Int} (h:qO s kind=0):(∃ k:Nat,kind=(k:Int)/\k<=2)/\aW kind 0 2=true/\gO s.rules s.game=true:=by
 unfold qO at h
 cases h1:aW kind 0 2 with
 | false=>rw [h1] at h;cases h
 | true=>
  rw [h1] at h
  cases h2:gO s.rules s.game with
  | false=>rw [h2] at h;cases h
  | true=>
   refine ⟨?_,rfl,rfl⟩
   unfold aW at h1
   rw [aG,decide_eq_true_iff,decide_eq_true_iff] at h1
   exact ⟨kind.toNat,by omega,by omega⟩
theorem vZ {s:aS} {past:List aP} {kind:Int} {f:aS->gd×Vbrezy.Answer} (h:qO s kind≠0):Vbrezy.onKind ⟨some s,past⟩ kind f=(⟨some s,past⟩,[qO s kind]):=by
 show (if aW kind 0 2=false then _ else if gO s.rules s.game=false then _ else _)=_
 unfold qO at h ⊢
 split
 ·rfl
 ·split
  ·rfl
  ·rename_i h1 h2
   rw [if_neg h1,if_neg h2] at h
   exact absurd rfl h
theorem vg {s:aS} {past:List aP} {kind:Int} {f:aS->gd×Vbrezy.Answer} (h:qO s kind=0):Vbrezy.onKind ⟨some s,past⟩ kind f=f s:=by
 obtain ⟨_,h1,h2⟩:=rY h
 show (if aW kind 0 2=false then _ else if gO s.rules s.game=false then _ else _)=_
 rw [h1,h2];rfl
theorem Tz (x:Int):Kc (.int x) [.int 0,.int 1,.int 2]=aW x 0 2:=by
 show Kc (.int x) ([0,1,2].map V.int)=_
 rw [Ce]
 unfold aW
 rw [<- mO]
 exact decide_eq_decide.mpr (by simp;omega)
theorem Q2 {s:aS} {past:List aP} (h:Good s past) (m:Nat) (h0:s.game.left≠0):Good { s with game:=bJ s.game m } (s.game::past):=by
 have hf:=h.dO
 have hl:=h.len
 refine ⟨⟨fun h=>absurd h (by decide),hf.n,hf.RM,hf.lt,hf.tie,fun hh=>(oZ s.game m).trans (hf.ord hh),?_,?_,hf.can,hf.nd,fun h=>absurd h (by decide)⟩,?_,fun i y hy=>?_⟩
 ·show 1 - s.game.turn<=1;omega
 ·show s.game.left - 1<=20;omega
 ·show s.game.left - 1+(past.length+1)<=20;omega
 ·cases i with
  | zero=>
   obtain rfl:s.game=y:=aj.inj hy
   exact ⟨hf.ord (by decide),hf.turn,by rw [aq];omega⟩
  | succ i=>
   have:=h.each i y hy
   refine ⟨this.1,this.2.1,?_⟩
   rw [aq]
   have:=this.2.2
   omega
theorem TB {s:aS} {y:aP} {rest:List aP} (h:Good s (y::rest)):Good { s with game:=y } rest:=by
 have hf:=h.dO
 obtain ⟨h1,h2,h3⟩:=h.each 0 y rfl
 rw [aq] at h3
 refine ⟨⟨fun h=>absurd h (by decide),hf.n,hf.RM,hf.lt,hf.tie,fun _=>h1,h2,by show y.left<=20;omega,hf.can,hf.nd,fun h=>absurd h (by decide)⟩,by show y.left+rest.length<=20;omega,fun i z hz=>?_⟩
 have:=h.each (i+1) z hz
 refine ⟨this.1,this.2.1,?_⟩
 have:=this.2.2
 rw [aq] at this
 omega
theorem LR {g pd pl:Addr}:∀ x∈[g,pl],x∈[g,pd,pl]:=fun x hx=>by
 rcases aw.mp hx with e | e
 ·rw [e];exact .head _
 ·rw [ay.mp e];exact .tail _ (.tail _ (.head _))
theorem J3 {g pd pl:Addr}:∀ x∈[g],x∈[g,pd,pl]:=fun x hx=>by
 rw [ay.mp hx];exact .head _
theorem LU {g pd pl:Addr}:∀ x∈[g,pd],x∈[g,pd,pl]:=fun x hx=>by
 rcases aw.mp hx with e | e
 ·rw [e];exact .head _
 ·rw [ay.mp e];exact .tail _ (.head _)
theorem TabOk.frame {H H':Hp} {Pt:Addr} {q:Str} {p:Pos} {ex:List Addr} (h:TabOk H Pt q p) (hex:∀ b∈ex,∃ o,H b=some o/\sN o) (z:bh ex H H'):TabOk H' Pt q p:=by
 have nx:∀ {b o},H b=some o->¬ sN o->b∉ex:=fun {b o} e so m=>by
  obtain ⟨o2,h2,s2⟩:=hex b m
  rw [e] at h2;cases h2;exact so s2
 rcases h with h | ⟨c,h,h2⟩
 ·exact .inl (z _ _ h (nx h id))
 ·exact .inr ⟨c,z _ _ h (nx h id),z _ _ h2 (nx h2 id)⟩
theorem lB {p:Pl} {H H':Hp} {ex:List Addr} (h:mz p H) (hex:∀ b∈ex,∃ o,H b=some o/\sN o) (z:bh ex H H'):mz p H':=⟨h.t1.frame hex z,h.t2.frame hex z⟩
theorem mC.AZ {C:Addr} {H:Hp} {g pd pl:Addr} {x:Raw} (h:mC C H g pd pl x):∀ b∈[g,pd,pl],∃ o,H b=some o/\sN o:=by
 obtain ⟨dx,pa,oa,h1,h2,h3,h4,⟨ts,h5,h6⟩,h7,h8⟩:=h
 intro b hb
 simp only [aw,mi,or_false] at hb
 rcases hb with rfl | rfl | rfl
 ·exact ⟨_,h1,trivial⟩
 ·exact ⟨_,h4,trivial⟩
 ·exact ⟨_,h5,trivial⟩
section
variable {P:Program} {w:World} {K:ab} {mg:Str->Option Value} {base:Heap} {t:uZ}
theorem LV (T:Txt K mg t) {P1 P2:Addr}:bY P w K mg base fw 4 t.ed t.nM ["game","given"] (fun vs H Q E=>∃ x:Int,iT ⟨P,w,K,t.aF,t.a5,P1,P2⟩ (.move x) vs H Q E):=by
 refine T.jx.ok B4 (fun vs H Q E h=>?_) (fun eW A outer s H vs Q E hr h=>?_)
 ·obtain ⟨x,g,pd,pl,ga,s,past,rfl,_⟩:=h
  rfl
 ·obtain ⟨x,g,pd,pl,ga,st,past,rfl,hg,fj,ht,yF,k⟩:=h
  refine ⟨_,(ag (gR 2 B4.nd (bQ bI (pv 1) az (fun _ _=>rfl)))
   (ag (cx (bu gh (bb (pv 0) rfl) az (bP _))
   (ak (aK (bw (aa (eX rfl T.qL) ai))))
   bt)
   (ag (cx (bu eR (pv 2) (aN (Ca T) (hr.mono (by omega)) rfl T.x9 T.hZ.kp (Ec T) .nil bp (aa (pv 0) ai)) (by with_unfolding_all rfl))
   (ak (aK (bw (aa (eX rfl T.mD) ai))))
   bt)
   (ag (cO (aN (Lr T) (hr.mono (by omega)) rfl T.DZ T.jm.kp (NX T) .nil bp (aa (pv 0) (aa (pv 2) ai))))
   (ak (aK (bw (aa (bQ bI (aN (ly T) (hr.mono (by omega)) rfl T.ki T.dq.kp (mE T) .nil bp (aa (pv 0) (aa (bb (pv 0) rfl) ai))) az (fun _ _=>rfl)) ai)))))))),?_⟩
  try dsimp only [cxK]
  have hn:=fj.dO.n (by decide)
  obtain ⟨dx,pa,oa,cK,my,lP,ma,rn,qM,rm⟩:=id hg
  have cK:H g=some (.ins t.aF dx (gf st.rules.n pa (dm st.rules.tie) oa st.game.turn st.game.left pd pl)):=cK
  have mH:=jX (fj.dO.ord (by decide))
  have QL:=mH.len
  have kk:=oC hg fj k
  refine ⟨_,rfl,ga,_,0,_,rfl,rfl,bO.of yF,bj (j:=0) rfl,_,rfl,g,_,dx,_,_,rfl,cK,T.aI,T.bZ,l_,rfl,_,rfl,?_⟩
  rw [b_]
  by_cases h0:st.game.left=0
  ·rw [decide_eq_true (by omega)]
   refine cz ⟨szA,fun a ha=>?_⟩
   refine kk _ a [-5] ?_ (.of (aM.new ha)) (ht.on (aM.new ha)) ae (by decide)
   show (if st.game.left=0 then _ else _)=_
   rw [if_pos h0];rfl
  ·rw [decide_eq_false (by omega)]
   refine cC ⟨_,rfl,_,rfl,g,pd,pl,eY st past,st.rules.tie,rfl,hg,hn,mH,fun H1 p s1 TZ hp=>⟨p,_,rfl,.inl (bO.of hp),rfl,JX _,_,rfl,?_⟩⟩
   have emv:lz (eY st past) st.rules.tie=bg st.rules st.game:=by
    unfold lz
    rw [if_neg (show ¬ (eY st past).left=0 from h0)];rfl
   show if (!Kc (V.int x) ((lz (eY st past) st.rules.tie).map vN))=true then _ else _
   rw [emv,O1]
   by_cases hm:0<=x/\x.toNat∈bg st.rules st.game
   ·rw [decide_eq_true hm]
    obtain ⟨m,rfl⟩:∃ m:Nat,x=(m:Int):=⟨x.toNat,by omega⟩
    have hm2:m∈bg st.rules st.game:=by simpa using hm.2
    have X_:=Ff hm2
    have hl:=fj.len
    refine cC ⟨_,rfl,_,rfl,g,pd,pl,eY st past,m,rfl,hg.on s1,by show st.game.order.length<=6;omega,zF X_,fj.dO.turn,by show 1<=st.game.left;omega,by show past.length<1000;omega,fun H2 tD e2=>?_⟩
    have adq:=Q2 fj m h0
    have ads:=jX (adq.dO.ord (by decide))
    obtain ⟨VM,pa2,oa2,Q3,Tf,Ib,_⟩:=id tD
    refine ⟨_,rfl,_,rfl,g,_,VM,_,_,rfl,Q3,T.aI,T.bN,jb,g,pd,pl,oa2,(eY st past).moved m,st.rules.tie,jW st.game.order m,rfl,tD,rfl,fj.dO.tie,hn,bO.of Ib,ads,fun H3 J s3 YO hJ=>⟨J,_,0,_,rfl,rfl,bO.of hJ,bj (j:=0) rfl,szA,fun a ha=>?_⟩⟩
    have s4:=aM.new (o:=.lst [V.int (bR (d7 st.rules (bJ st.game m)))]) ha
    have Bo:mz ⟨P,w,K,t.aF,t.a5,P1,P2⟩ H2:=lB (ht.on s1) (hg.on s1).AZ (e2.mono LR)
    refine k _ a pd pl { st with game:=bJ st.game m } (st.game::past) [bR (d7 st.rules (bJ st.game m))] ?_ (tD.on (s3.trans s4)) adq (Bo.on (s3.trans s4)) ?_ (.inl rfl) (.inl rfl) ae (by show 1<=6000;decide)
    ·show (if st.game.left=0 then _ else if (m:Int)<0\/bz st.rules st.game (m:Int).toNat=false then _ else _)=_
     rw [if_neg h0,if_neg ?_]
     ·rfl
     ·rintro (q | q)
      ·omega
      ·rw [show (m:Int).toNat=m by omega,X_] at q;cases q
    ·exact ((fN.of (.of s1)).trans ((fN.YS e2).mono LR)).trans (.of (.of (s3.trans s4)))
   ·rw [decide_eq_false hm]
    refine cz ⟨szA,fun a ha=>?_⟩
    refine kk _ a [-3] ?_ (.of (s1.trans (aM.new ha))) (ht.on (s1.trans (aM.new ha))) ae (by decide)
    show (if st.game.left=0 then _ else if x<0\/bz st.rules st.game x.toNat=false then _ else _)=_
    rw [if_neg h0,if_pos ?_]
    ·rfl
    ·by_cases hx:x<0
     ·exact .inl hx
     ·refine .inr ?_
      cases hq:bz st.rules st.game x.toNat with
      | false=>rfl
      | true=>exact absurd ⟨by omega,(CM hn QL _).mpr hq⟩ hm
theorem LW (T:Txt K mg t) {P1 P2:Addr}:bY P w K mg base fw 2 t.ef t.nN ["game","given"] (iT ⟨P,w,K,t.aF,t.a5,P1,P2⟩ .undo):=by
 refine T.jy.ok La (fun vs H Q E h=>?_) (fun eW A outer s H vs Q E hr h=>?_)
 ·obtain ⟨g,pd,pl,ga,s,past,rfl,_⟩:=h
  rfl
 ·obtain ⟨g,pd,pl,ga,st,past,rfl,hg,fj,ht,yF,k⟩:=h
  refine ⟨_,(ag (cx (vj (Fq (bb (pv 0) rfl) (fun _=>rfl)))
   (ak (aK (bw (aa (eX rfl T.tQ) ai))))
   bt)
   (ag (cO (aN (Lu T) (hr.mono (by omega)) rfl T.D0 T.jn.kp (NY T) .nil bp (aa (pv 0) ai)))
   (ak (aK (bw (aa (b8 bT (by rfl) T.f_ boot_len (aa (bb (pv 0) rfl) ai)) ai)))))),?_⟩
  try dsimp only [cxK]
  have hn:=fj.dO.n (by decide)
  obtain ⟨dx,pa,oa,cK,my,lP,ma,rn,qM,rm⟩:=id hg
  have cK:H g=some (.ins t.aF dx (gf st.rules.n pa (dm st.rules.tie) oa st.game.turn st.game.left pd pl)):=cK
  have kk:=oC hg fj k
  obtain ⟨ts,kF,Eo⟩:=id rn
  have iX:=Eo.length
  rw [rq] at iX
  have iX:ts.length=past.length:=iX
  refine ⟨_,rfl,g,_,dx,_,_,rfl,cK,T.aI,T.eT,Fb,_,.inl ⟨_,bO.of kF,rfl⟩,?_⟩
  cases past with
  | nil=>
   obtain rfl:ts=[]:=fR.mp iX
   refine cz ⟨szA,fun a ha=>?_⟩
   exact kk _ a [-6] rfl (.of (aM.new ha)) (ht.on (aM.new ha)) ae (by decide)
  | cons y rest=>
   have e1:(!(!(ts.map V.ref).isEmpty))=false:=by
    cases ts with
    | nil=>cases iX
    | cons _ _=>rfl
   rw [e1]
   refine cC ⟨_,rfl,g,pd,pl,eY st (y::rest),y,rest,rfl,hg,rfl,fun H2 tD e2=>?_⟩
   have Bo:mz ⟨P,w,K,t.aF,t.a5,P1,P2⟩ H2:=lB ht hg.AZ (e2.mono LR)
   obtain ⟨VM,pa2,oa2,Q3,Tf,Ib,Ic,⟨ts2,Td,ag2⟩,_⟩:=id tD
   have Ks:=ag2.length
   rw [rq] at Ks
   have Ks:ts2.length=rest.length:=Ks
   refine ⟨_,rfl,g,_,VM,_,_,rfl,Q3,T.aI,T.eT,Fb,pl,_,rfl,.inl (bO.of Td),szA,fun a ha=>?_⟩
   have s4:=aM.new (o:=.lst [V.int (((ts2.map V.ref).length:Nat):Int)]) ha
   refine k _ a pd pl { st with game:=y } rest [(rest.length:Int)] rfl (tD.on s4) (TB fj) (Bo.on s4) (((fN.YS e2).mono LR).trans (.of (.of s4))) (.inl rfl) (.inl rfl) ?_ (by show 1<=6000;decide)
   rw [ae,U,Ks];rfl
def ES (C:Addr):Sp:=fun vs H Q _=>∃ (g pd pl:Addr) (s:aS) (past:List aP) (kind:Int),vs=[.ref g,.int kind]/\mC C H g pd pl (eY s past)/\kG s 6/\Q (.int (qO s kind)) H
theorem jY (T:Txt K mg t):bY P w K mg base fw 2 t.gN t.i8 ["game","goal"] (ES t.aF):=by
 refine T.c5.ok EM (fun vs H Q E h=>?_) (fun eW A outer s H vs Q E hr h=>?_)
 ·obtain ⟨g,pd,pl,s,past,kind,rfl,_⟩:=h
  rfl
 ·obtain ⟨g,pd,pl,st,past,kind,rfl,hg,hf,k⟩:=h
  refine ⟨_,(ag (cx (bu eR (pv 1) (eX rfl T.RU) (by with_unfolding_all rfl))
   (ak (aK (eX rfl T.fL)))
   bt)
   (ag (cx (qB (aN (xl T) (hr.mono (by omega)) rfl T.qh T.cV.kp (yi T) .nil bp (aa (pv 0) ai)))
   (ak (aK (eX rfl T.qk)))
   bt)
   (ak (aK az)))),?_⟩
  try dsimp only [cxK]
  refine ⟨_,rfl,t.vH,_,rfl,.inr (T.RV.sq H),rfl,rfl,_,rfl,?_⟩
  show if (!Kc (V.int kind) [.int 0,.int 1,.int 2])=true then _ else _
  rw [Tz]
  unfold qO at k
  cases xk:aW kind 0 2 with
  | false=>
   rw [if_pos xk] at k
   exact cz k
  | true=>
   rw [if_neg (by rw [xk];decide)] at k
   refine cC ⟨_,rfl,g,pd,pl,st,past,rfl,hg,hf,_,rfl,?_⟩
   cases xi:gO st.rules st.game with
   | false=>
    rw [if_pos xi] at k
    exact cz k
   | true=>
    rw [if_neg (by rw [xi];decide)] at k
    exact cC k
theorem Iu (T:Txt K mg t) {c1 P1 c2 P2:Addr} (L:tE K t c1 P1 c2 P2) (hB:BMain base mg):bY P w K mg base fw 68 t.dA t.l5 ["game","given"] (fun vs H Q E=>∃ x:Int,iT ⟨P,w,K,t.aF,t.a5,P1,P2⟩ (.value x) vs H Q E):=by
 refine T.il.ok ur (fun vs H Q E h=>?_) (fun eW A outer s H vs Q E hr h=>?_)
 ·obtain ⟨x,g,pd,pl,ga,s,past,rfl,_⟩:=h
  rfl
 ·obtain ⟨x,g,pd,pl,ga,st,past,rfl,hg,fj,ht,yF,k⟩:=h
  have O5:=LL (P:=P) (w:=w) T L hB
  refine ⟨_,(ag (gR 2 ur.nd (bQ bI (pv 1) az (fun _ _=>rfl)))
   (ag (gR 3 ur.nd (aN (jY T) (hr.mono (by omega)) rfl T.i9 T.c5.kp (lj T) .nil bp (aa (pv 0) (aa (pv 2) ai))))
   (ag (cx (bu uR (pv 3) az (bP _))
   (ak (aK (bw (aa (pv 3) ai))))
   bt)
   (ak (aK (bw (aa (aN O5 (hr.mono (by omega)) rfl T.D_ T.ju.kp (Ob T) .nil bp (aa (pv 0) (aa (pv 2) ai))) ai))))))),?_⟩
  try dsimp only [cxK]
  have hn:=fj.dO.n (by decide)
  obtain ⟨dx,pa,oa,cK,my,lP,ma,rn,qM,rm⟩:=id hg
  have cK:H g=some (.ins t.aF dx (gf st.rules.n pa (dm st.rules.tie) oa st.game.turn st.game.left pd pl)):=cK
  have kk:=oC hg fj k
  refine ⟨_,rfl,ga,_,0,_,rfl,rfl,bO.of yF,bj (j:=0) rfl,_,rfl,_,rfl,g,pd,pl,st,past,x,rfl,hg,fj.dO,_,rfl,rfl,_,rfl,?_⟩
  show if (!decide (V.int (qO st x)=V.int 0))=true then _ else _
  rw [b_]
  by_cases h0:qO st x=0
  ·rw [decide_eq_true h0]
   obtain ⟨⟨kd,rfl,Ci⟩,_,_⟩:=rY h0
   refine cC ⟨_,rfl,_,rfl,g,pd,pl,st,past,kd,rfl,hg,fj.dO,Ci,ht,fun H2 Bo z2=>⟨szA,fun a ha=>?_⟩⟩
   refine kk _ a [bR (tj st.rules kd st.game)] (vg h0) (z2.trans (.of (aM.new ha))) (Bo.on (aM.new ha)) ae (by show 1<=6000;decide)
  ·rw [decide_eq_false h0]
   refine cz ⟨_,rfl,szA,fun a ha=>?_⟩
   exact kk _ a [qO st x] (vZ h0) (.of (aM.new ha)) (ht.on (aM.new ha)) ae (by show 1<=6000;decide)
theorem LX (T:Txt K mg t) {c1 P1 c2 P2:Addr} (L:tE K t c1 P1 c2 P2) (hB:BMain base mg):bY P w K mg base fw 68 t.ek t.nO ["game","given"] (fun vs H Q E=>∃ x:Int,iT ⟨P,w,K,t.aF,t.a5,P1,P2⟩ (.best x) vs H Q E):=by
 refine T.jz.ok vP (fun vs H Q E h=>?_) (fun eW A outer s H vs Q E hr h=>?_)
 ·obtain ⟨x,g,pd,pl,ga,s,past,rfl,_⟩:=h
  rfl
 ·obtain ⟨x,g,pd,pl,ga,st,past,rfl,hg,fj,ht,yF,k⟩:=h
  have Q4:=OZ (P:=P) (w:=w) T L hB
  refine ⟨_,(ag (gR 2 vP.nd (bQ bI (pv 1) az (fun _ _=>rfl)))
   (ag (gR 3 vP.nd (aN (jY T) (hr.mono (by omega)) rfl T.i9 T.c5.kp (lj T) .nil bp (aa (pv 0) (aa (pv 2) ai))))
   (ag (cx (bu uR (pv 3) az (bP _))
   (ak (aK (bw (aa (pv 3) ai))))
   bt)
   (ag (cx (bu gh (bb (pv 0) rfl) az (bP _))
   (ak (aK (bw (aa (eX rfl T.qL) ai))))
   bt)
   (ak (aK (aN Q4 (hr.mono (by omega)) rfl T.F6 T.lg.kp (Qz T) .nil bp (aa (pv 0) (aa (pv 2) ai))))))))),?_⟩
  try dsimp only [cxK]
  have hn:=fj.dO.n (by decide)
  obtain ⟨dx,pa,oa,cK,my,lP,ma,rn,qM,rm⟩:=id hg
  have cK:H g=some (.ins t.aF dx (gf st.rules.n pa (dm st.rules.tie) oa st.game.turn st.game.left pd pl)):=cK
  have kk:=oC hg fj k
  refine ⟨_,rfl,ga,_,0,_,rfl,rfl,bO.of yF,bj (j:=0) rfl,_,rfl,_,rfl,g,pd,pl,st,past,x,rfl,hg,fj.dO,_,rfl,rfl,_,rfl,?_⟩
  show if (!decide (V.int (qO st x)=V.int 0))=true then _ else _
  rw [b_]
  have ag3:st.game.left=0->gO st.rules st.game=true:=fun h=>by
   unfold gO;rw [h];rfl
  by_cases h0:qO st x=0
  ·rw [decide_eq_true h0]
   obtain ⟨⟨kd,rfl,Ci⟩,xk,xi⟩:=rY h0
   refine cC ⟨_,rfl,g,_,dx,_,_,rfl,cK,T.aI,T.bZ,l_,rfl,_,rfl,?_⟩
   rw [b_]
   by_cases hl0:st.game.left=0
   ·rw [decide_eq_true (by omega)]
    refine cz ⟨szA,fun a ha=>?_⟩
    refine kk _ a [-5] ?_ (.of (aM.new ha)) (ht.on (aM.new ha)) ae (by decide)
    show (if aW (kd:Int) 0 2=false then _ else if st.game.left=0 then _ else _)=_
    rw [if_neg (by rw [xk];decide),if_pos hl0];rfl
   ·rw [decide_eq_false (by omega)]
    refine cC ⟨_,rfl,_,rfl,g,pd,pl,st,past,kd,rfl,hg,fj.dO,Ci,ht,hl0,fun H2 a Bo z2 ha=>?_⟩
    refine kk _ a [(c9 st.rules kd st.game:Int),bR (tj st.rules kd st.game)] ?_ z2 Bo ha (by show 2<=6000;decide)
    show (if aW (kd:Int) 0 2=false then _ else if st.game.left=0 then _ else if gO st.rules st.game=false then _ else _)=_
    rw [if_neg (by rw [xk];decide),if_neg hl0,if_neg (by rw [xi];decide)];rfl
  ·rw [decide_eq_false h0]
   refine cz ⟨_,rfl,szA,fun a ha=>?_⟩
   refine kk _ a [qO st x] ?_ (.of (aM.new ha)) (ht.on (aM.new ha)) ae (by show 1<=6000;decide)
   show (if aW x 0 2=false then _ else if st.game.left=0 then _ else if gO st.rules st.game=false then _ else _)=_
   unfold qO at h0 ⊢
   split
   ·rfl
   ·rename_i xk
    rw [if_neg xk] at h0
    split at h0
    ·rename_i xi
     rw [if_neg (fun e=>by rw [ag3 e] at xi;cases xi),if_pos xi,if_pos xi];rfl
    ·exact absurd rfl h0
end
section
variable {P:Program} {w:World} {K:ab} {mg:Str->Option Value} {base:Heap} {t:uZ}
theorem G4 (T:Txt K mg t) {c1 P1 c2 P2:Addr} (L:tE K t c1 P1 c2 P2) (hB:BMain base mg):bY P w K mg base fw 68 t.dc t.kc ["game","given"] (fun vs H Q E=>∃ x:Int,iT ⟨P,w,K,t.aF,t.a5,P1,P2⟩ (.values x) vs H Q E):=by
 refine T.gy.ok ja (fun vs H Q E h=>?_) (fun eW A outer s H vs Q E hr h=>?_)
 ·obtain ⟨x,g,pd,pl,ga,s,past,rfl,_⟩:=h
  rfl
 ·obtain ⟨x,g,pd,pl,ga,st,past,rfl,hg,fj,ht,yF,k⟩:=h
  have LY:=Il (P:=P) (w:=w) T L hB
  refine ⟨_,(ag (gR 2 ja.nd (bQ bI (pv 1) az (fun _ _=>rfl)))
   (ag (gR 3 ja.nd (aN (jY T) (hr.mono (by omega)) rfl T.i9 T.c5.kp (lj T) .nil bp (aa (pv 0) (aa (pv 2) ai))))
   (ag (cx (bu uR (pv 3) az (bP _))
   (ak (aK (bw (aa (pv 3) ai))))
   bt)
   (ag (gR 4 ja.nd (aN LY (hr.mono (by omega)) rfl T.BR T.ib.kp (K4 T) .nil bp (aa (pv 0) (aa (pv 2) ai))))
   (ag (gR 5 ja.nd (bw (aa (b8 bT (by rfl) T.f_ boot_len (aa (pv 4) ai)) ai)))
   (ag (gE PassesOwn.never rfl (fv (pv 4)) (uY 6 ja.nd)
   (ak (cO (gG aB iV iW QG (pv 5) (aa (pv 6) ai)))))
   (ak (aK (pv 5))))))))),?_⟩
  try dsimp only [cxK]
  have hn:=fj.dO.n (by decide)
  obtain ⟨dx,pa,oa,cK,my,lP,ma,rn,qM,rm⟩:=id hg
  have cK:H g=some (.ins t.aF dx (gf st.rules.n pa (dm st.rules.tie) oa st.game.turn st.game.left pd pl)):=cK
  have kk:=oC hg fj k
  refine ⟨_,rfl,ga,_,0,_,rfl,rfl,bO.of yF,bj (j:=0) rfl,_,rfl,_,rfl,g,pd,pl,st,past,x,rfl,hg,fj.dO,_,rfl,rfl,_,rfl,?_⟩
  show if (!decide (V.int (qO st x)=V.int 0))=true then _ else _
  rw [b_]
  by_cases h0:qO st x=0
  ·rw [decide_eq_true h0]
   obtain ⟨⟨kd,rfl,Ci⟩,xk,xi⟩:=rY h0
   refine cC ⟨_,rfl,_,rfl,g,pd,pl,st,past,kd,rfl,hg,fj.dO,Ci,ht,fun H2 pr Bo z2 hpr=>?_⟩
   obtain ⟨ts,aax,hP⟩:=hpr
   have hlen:=hP.length
   have Zo:=zG (r:=st.rules) st.game (by omega)
   obtain ⟨ms,YQ⟩:∃ ms,ms=(if st.game.left=0 then [] else bg st.rules st.game):=⟨_,rfl⟩
   rw [<- YQ] at hP hlen
   have ag1:ms.length<=13:=by rw [YQ];split<;>first | exact a0 _ | exact Zo
   have h26:∀ i,((ms.take i).flatMap (fun (m:Nat)=>[(m:Int),bR (bG st.rules kd (st.game.left - 1) (bJ st.game m))])).length<=26:=fun i=>by
    have:=Fg (b:=2) (fun (m:Nat)=>[(m:Int),bR (bG st.rules kd (st.game.left - 1) (bJ st.game m))]) (ms.take i) fun c hc=>au 2
    rw [bK] at this
    omega
   refine ⟨_,rfl,pr,_,rfl,.inl (bO.of aax),szA,fun B Po=>?_⟩
   have s2:=aM.new (o:=.lst [V.int (((ts.map V.ref).length:Nat):Int)]) Po
   refine ⟨_,rfl,pr,rfl,⟨_,bO.of (s2 _ _ aax)⟩,oo (K:=K) (a:=pr) (xs:=ts.map V.ref) (fun i σ H'=>∃ (v6:Option V),σ=[some (.ref g),some (.ref ga),some (vN kd),some (.int (qO st kd)),some (.ref pr),some (.ref B),v6]/\aM H2 H'/\H' B=some (.lst ((((ms.length:Int)::(ms.take i).flatMap (fun (m:Nat)=>[(m:Int),bR (bG st.rules kd (st.game.left - 1) (bJ st.game m))]))).map V.int)))
    ⟨none,rfl,s2,by rw [ae,U,hlen];rfl⟩ (fun i σ H' _ ⟨_,_,s,_⟩=>bO.of (s _ _ aax)) ?_ ?_⟩
   ·rintro i x σ H' hi EE ⟨v6,rfl,s3,JW⟩
    rw [ax] at hi
    obtain ⟨ca,Yc,rfl⟩:=aZ.mp hi
    obtain ⟨m,hm,hmt⟩:=fk hP Yc
    have YU:=h26 i
    refine ⟨_,rfl,.inl ⟨rfl,_,bO.of JW⟩,_,rfl,B,ca,_,_,rfl,rfl,JW,oX.of (s3 _ _ hmt),?_,?_⟩
    ·rw [U,aq,sizeLine_eq];show _+2<=_;omega
    refine ⟨_,rfl,aM.cZ s3 Po,?_⟩
    rw [ae,take_snoc hm,<-GZ]
    rfl
   ·rintro σ H' ⟨v6,rfl,s3,JW⟩
    have:=h26 ms.length
    rw [cA] at this
    rw [U,hlen,cA] at JW
    refine ⟨_,rfl,kk H' B (oV (fun (m:Nat)=>[(m:Int),bR (bG st.rules kd (st.game.left - 1) (bJ st.game m))]) ms) ?_ (z2.trans (.of s3)) (Bo.on s3) JW (bB (pX this) (by decide))⟩
    rw [YQ]
    exact vg h0
  ·rw [decide_eq_false h0]
   refine cz ⟨_,rfl,szA,fun a ha=>?_⟩
   exact kk _ a [qO st x] (vZ h0) (.of (aM.new ha)) (ht.on (aM.new ha)) ae (by show 1<=6000;decide)
def LZ (C:Addr):Sp:=fun vs H Q _=>∃ (g pd pl a b c:Addr) (s:aS) (past:List aP) (ms:List Nat) (y:aP),vs=[.ref g,.ref a]/\mC C H g pd pl (eY s past)/\kG s 6/\H a=some (.tup [.ref b,.ref c])/\H b=some (.lst (ms.map vN))/\H c=some (.lst (y.order.map vN))/\
 ms.length<=20/\y.order.Perm (aY (2*s.rules.n))/\∀ H' p,aM H H'->H' p=some (.lst ((lO s (ms,y)).map V.int))->(lO s (ms,y)).length<=6000->Q (.ref p) H'
theorem Cn (T:Txt K mg t):bY P w K mg base fw 4 t.kX t.nQ ["game","play"] (LZ t.aF):=by
 refine T.ip.ok vQ (fun vs H Q E h=>?_) (fun eW A outer s H vs Q E hr h=>?_)
 ·obtain ⟨g,pd,pl,a,b,c,s,past,ms,y,rfl,_⟩:=h
  rfl
 ·obtain ⟨g,pd,pl,a,b,c,st,past,ms,y,rfl,hg,hf,ha,hb,hc,YQ,hp,k⟩:=h
  refine ⟨_,(ag (gR 2 vQ.nd (bQ fS (pv 1) az (fun _ _=>rfl)))
   (ag (gR 3 vQ.nd (bQ fS (pv 1) az (fun _ _=>rfl)))
   (ak (aK (cB r_ (cB r_ (cB r_ (cB r_ (bw (aa (b8 bT (by rfl) T.f_ boot_len (aa (pv 2) ai)) ai)) (pv 2)) (bw (aa (b8 bT (by rfl) T.f_ boot_len (aa (pv 3) ai)) ai))) (pv 3)) (bw (aa (bQ bI (aN (ly T) (hr.mono (by omega)) rfl T.ki T.dq.kp (mE T) .nil bp (aa (pv 0) (aa (pv 3) ai))) az (fun _ _=>rfl)) ai))))))),?_⟩
  try dsimp only [cxK]
  have hn:=hf.n (by decide)
  have mH:=jX hp
  have QL:=mH.len
  refine ⟨_,rfl,a,_,0,_,rfl,rfl,oX.of ha,bj (j:=0) rfl,_,rfl,a,_,1,_,rfl,rfl,oX.of ha,bj (j:=1) rfl,?_⟩
  refine ⟨_,rfl,b,_,rfl,.inl (bO.of hb),szA,fun q1 h1=>?_⟩
  have s1:=aM.new (o:=.lst [V.int (((ms.map vN).length:Nat):Int)]) h1
  refine ⟨_,rfl,q1,b,_,_,rfl,rfl,ae,s1 _ _ hb,by rw [U,sizeLine_eq];show 1+_<=_;omega,fun q2 h2=>?_⟩
  have s2:=s1.trans (aM.new (o:=.lst ([V.int (((ms.map vN).length:Nat):Int)]++ms.map vN)) h2)
  refine ⟨_,rfl,c,_,rfl,.inl (bO.of (s2 _ _ hc)),szA,fun q3 h3=>?_⟩
  have n3:=aM.new (o:=.lst [V.int (((y.order.map vN).length:Nat):Int)]) h3
  refine ⟨q2,q3,_,_,rfl,rfl,n3 _ _ ae,ae,by rw [ao,U,sizeLine_eq];show 1+_+1<=_;omega,fun q4 h4=>?_⟩
  have n4:=aM.new (o:=.lst ([V.int (((ms.map vN).length:Nat):Int)]++ms.map vN++[V.int (((y.order.map vN).length:Nat):Int)])) h4
  have s4:=(s2.trans n3).trans n4
  refine ⟨_,rfl,q4,c,_,_,rfl,rfl,ae,s4 _ _ hc,by rw [ao,ao,U,U,sizeLine_eq];show 1+_+1+_<=_;omega,fun q5 h5=>?_⟩
  have n5:=aM.new (o:=.lst ([V.int (((ms.map vN).length:Nat):Int)]++ms.map vN++[V.int (((y.order.map vN).length:Nat):Int)]++y.order.map vN)) h5
  have s5:=s4.trans n5
  refine ⟨_,rfl,_,rfl,g,pd,pl,c,eY st past,st.rules.tie,y.order,rfl,hg.on s5,rfl,hf.tie,hn,bO.of (s5 _ _ hc),mH,fun H6 J s6 YO hJ=>⟨J,_,0,_,rfl,rfl,bO.of hJ,bj (j:=0) rfl,szA,fun q6 h6=>?_⟩⟩
  have n6:=aM.new (o:=.lst [V.int (bR (d7 st.rules y))]) h6
  refine ⟨q5,q6,_,_,rfl,rfl,n6 _ _ (s6 _ _ ae),ae,by rw [ao,ao,ao,U,U,sizeLine_eq];show 1+_+1+_+1<=_;omega,fun q7 h7=>?_⟩
  have n7:=aM.new (o:=.lst ([V.int (((ms.map vN).length:Nat):Int)]++ms.map vN++[V.int (((y.order.map vN).length:Nat):Int)]++y.order.map vN++[V.int (bR (d7 st.rules y))])) h7
  have ee:lO st (ms,y)=((ms.length:Int)::ms.map fun (n:Nat)=>(n:Int))++(((y.order.length:Int)::y.order.map fun (n:Nat)=>(n:Int))++[bR (d7 st.rules y)]):=by
   unfold lO
   rw [n_,n_]
  refine k _ q7 (((s5.trans s6).trans n6).trans n7) ?_ ?_
  ·rw [ae,ee]
   simp only [aX,aC,iB,zI,U,bX,jg,jZ]
   rfl
  ·rw [ee]
   simp only [ao,aq,U,rf]
   omega
theorem L0 (T:Txt K mg t) {c1 P1 c2 P2:Addr} (L:tE K t c1 P1 c2 P2) (hB:BMain base mg):bY P w K mg base fw 69 t.er t.nR ["game","given"] (fun vs H Q E=>∃ x:Int,iT ⟨P,w,K,t.aF,t.a5,P1,P2⟩ (.line x) vs H Q E):=by
 refine T.jA.ok vR (fun vs H Q E h=>?_) (fun eW A outer s H vs Q E hr h=>?_)
 ·obtain ⟨x,g,pd,pl,ga,s,past,rfl,_⟩:=h
  rfl
 ·obtain ⟨x,g,pd,pl,ga,st,past,rfl,hg,fj,ht,yF,k⟩:=h
  have O6:=LN (P:=P) (w:=w) T L hB
  refine ⟨_,(ag (gR 2 vR.nd (bQ bI (pv 1) az (fun _ _=>rfl)))
   (ag (gR 3 vR.nd (aN (jY T) (hr.mono (by omega)) rfl T.i9 T.c5.kp (lj T) .nil bp (aa (pv 0) (aa (pv 2) ai))))
   (ag (cx (bu uR (pv 3) az (bP _))
   (ak (aK (bw (aa (pv 3) ai))))
   bt)
   (ak (aK (aN (Cn T) (hr.mono (by omega)) rfl T.yb T.ip.kp (Eh T) .nil bp (aa (pv 0) (aa (aN O6 (hr.mono (by omega)) rfl T.Ea T.jv.kp (Oc T) .nil bp (aa (pv 0) (aa (pv 2) ai))) ai)))))))),?_⟩
  try dsimp only [cxK]
  have hn:=fj.dO.n (by decide)
  obtain ⟨dx,pa,oa,cK,my,lP,ma,rn,qM,rm⟩:=id hg
  have cK:H g=some (.ins t.aF dx (gf st.rules.n pa (dm st.rules.tie) oa st.game.turn st.game.left pd pl)):=cK
  have kk:=oC hg fj k
  refine ⟨_,rfl,ga,_,0,_,rfl,rfl,bO.of yF,bj (j:=0) rfl,_,rfl,_,rfl,g,pd,pl,st,past,x,rfl,hg,fj.dO,_,rfl,rfl,_,rfl,?_⟩
  show if (!decide (V.int (qO st x)=V.int 0))=true then _ else _
  rw [b_]
  by_cases h0:qO st x=0
  ·rw [decide_eq_true h0]
   obtain ⟨⟨kd,rfl,Ci⟩,xk,xi⟩:=rY h0
   refine cC ⟨_,rfl,_,rfl,_,rfl,g,pd,pl,st,past,kd,rfl,hg,fj.dO,Ci,ht,fun H2 a b c Bo z2 h1 h2 h3=>?_⟩
   obtain ⟨e1,e2⟩:=GX _ _ _ _ _ (zr st.rules kd st.game.left st.game)
   have hl:=fj.dO.left
   refine ⟨g,pd,pl,a,b,c,st,past,_,_,rfl,hg.onS z2,fj.dO,h1,h2,h3,by omega,e2.trans (fj.dO.ord (by decide)),fun H3 p s3 hp hlen=>?_⟩
   exact kk H3 p _ (vg h0) (z2.trans (.of s3)) (Bo.on s3) hp hlen
  ·rw [decide_eq_false h0]
   refine cz ⟨_,rfl,szA,fun a ha=>?_⟩
   exact kk _ a [qO st x] (vZ h0) (.of (aM.new ha)) (ht.on (aM.new ha)) ae (by show 1<=6000;decide)
theorem L3 (T:Txt K mg t) {c1 P1 c2 P2:Addr} (L:tE K t c1 P1 c2 P2) (hB:BMain base mg):bY P w K mg base fw 69 t.eC t.nT ["game","given"] (fun vs H Q E=>∃ q:Int×Int×List Int,iT ⟨P,w,K,t.aF,t.a5,P1,P2⟩ (.duel q.1 q.2.1 q.2.2) vs H Q E):=by
 have AX:=Ew (P:=P) (w:=w) T L hB
 refine T.jB.ok oz (fun vs H Q E h=>?_) (fun eW A outer s H vs Q E hr h=>?_)
 ·obtain ⟨x,g,pd,pl,ga,s,past,rfl,_⟩:=h
  rfl
 ·obtain ⟨⟨x,tm,row⟩,g,pd,pl,ga,st,past,rfl,hg,fj,ht,⟨ra,JZ,Q1⟩,k⟩:=h
  refine ⟨_,(ag (gR 2 oz.nd (bQ bI (pv 1) az (fun _ _=>rfl)))
   (ag (gR 3 oz.nd (bQ bI (pv 1) az (fun _ _=>rfl)))
   (ag (gR 4 oz.nd (aN (jY T) (hr.mono (by omega)) rfl T.i9 T.c5.kp (lj T) .nil bp (aa (pv 0) (aa (pv 2) ai))))
   (ag (cx (bu uR (pv 4) az (bP _))
   (ak (aK (bw (aa (pv 4) ai))))
   bt)
   (ag (cx (bu eR (pv 3) (eX rfl T.BY) (by with_unfolding_all rfl))
   (ak (aK (bw (aa (eX rfl T.fL) ai))))
   bt)
   (ag (gR 5 oz.nd (aN AX (hr.mono (by omega)) rfl T.AK T.jP.kp (Gk T) .nil bp (aa (pv 0) (aa (pv 2) (aa (cB iE az (pv 3)) (aa (bQ bI (pv 1) az (fun _ _=>rfl)) ai))))))
   (ag (cx (vh (Py (pv 5)))
   (ak (aK (bw (aa (eX rfl T.mD) ai))))
   bt)
   (ak (aK (aN (Cn T) (hr.mono (by omega)) rfl T.yb T.ip.kp (Eh T) .nil bp (aa (pv 0) (aa (pv 5) ai)))))))))))),?_⟩
  try dsimp only [cxK]
  have hn:=fj.dO.n (by decide)
  obtain ⟨dx,pa,oa,cK,my,lP,ma,rn,qM,rm⟩:=id hg
  have cK:H g=some (.ins t.aF dx (gf st.rules.n pa (dm st.rules.tie) oa st.game.turn st.game.left pd pl)):=cK
  have kk:=oC hg fj k
  have JZ:H ga=some (.lst [.int x,.int tm,.ref ra]):=JZ
  have Q1:H ra=some (.lst (row.map V.int)):=Q1
  refine ⟨_,rfl,ga,_,0,_,rfl,rfl,bO.of JZ,bj (j:=0) rfl,_,rfl,ga,_,1,_,rfl,rfl,bO.of JZ,bj (j:=1) rfl,_,rfl,_,rfl,g,pd,pl,st,past,x,rfl,hg,fj.dO,_,rfl,rfl,_,rfl,?_⟩
  show if (!decide (V.int (qO st x)=V.int 0))=true then _ else _
  rw [b_]
  by_cases h0:qO st x=0
  ·rw [decide_eq_true h0]
   obtain ⟨⟨kd,rfl,Ci⟩,xk,xi⟩:=rY h0
   refine cC ⟨_,rfl,t.pZ,_,rfl,.inr (T.BZ.sq H),rfl,rfl,_,rfl,?_⟩
   show if (!Kc (V.int tm) [.int 0,.int 1])=true then _ else _
   rw [zJ]
   cases Yd:aW tm 0 1 with
   | false=>
    refine cz ⟨szA,fun a ha=>?_⟩
    refine kk _ a [-2] ?_ (.of (aM.new ha)) (ht.on (aM.new ha)) ae (by decide)
    refine (vg h0).trans ?_
    show (if aW tm 0 1=false then _ else _)=_
    rw [if_pos Yd];rfl
   | true=>
    have hx:0<=tm/\tm<=1:=by
     unfold aW at Yd
     rwa [aG,decide_eq_true_iff,decide_eq_true_iff] at Yd
    obtain ⟨u,rfl⟩:∃ u:Nat,tm=(u:Int):=⟨tm.toNat,by omega⟩
    have mH:=jX (fj.dO.ord (by decide))
    have Ic:=CN (r:=st.rules) kd hn (x:=u) (by omega) st.game.left st.game row fj.dO.turn mH.len
    have O7:jF ⟨some st,past⟩ (.duel (kd:Int) (u:Int) row)=(if (row.all fun m=>decide (0<=m))=false then Vbrezy.no ⟨some st,past⟩ (-3) else match Vbrezy.duel st.rules kd u st.game.left st.game (row.map bF) with
      | none=>Vbrezy.no ⟨some st,past⟩ (-3)
      | some y=>(⟨some st,past⟩,lO st y)):=by
     refine (vg h0).trans ?_
     show (if aW (u:Int) 0 1=false then _ else _)=_
     rw [if_neg (by rw [Yd];decide)];rfl
    have tG:mQ st.rules kd (1 - (u:Int)) st.game.left st.game row=none->jF ⟨some st,past⟩ (.duel (kd:Int) (u:Int) row)=(⟨some st,past⟩,[-3]):=fun e=>by
     rw [O7]
     rw [Ic] at e
     split
     ·rfl
     ·rename_i hq
      rw [if_neg hq] at e
      rw [e];rfl
    have Z9:∀ ms y,mQ st.rules kd (1 - (u:Int)) st.game.left st.game row=some (ms,y)->jF ⟨some st,past⟩ (.duel (kd:Int) (u:Int) row)=(⟨some st,past⟩,lO st (ms,y)):=fun ms y e=>by
     rw [O7]
     rw [Ic] at e
     split
     ·rename_i hq
      rw [if_pos hq] at e;cases e
     ·rename_i hq
      rw [if_neg hq] at e
      rw [e]
    refine cC ⟨_,rfl,_,rfl,_,rfl,_,_,rfl,rfl,_,rfl,ga,_,2,_,rfl,rfl,bO.of JZ,bj (j:=2) rfl,g,pd,pl,ra,st,past,kd,1 - (u:Int),row,rfl,hg,fj.dO,Ci,ht,bO.of Q1,fun e H2 Bo z2=>?_,fun ms y e H2 a b c Bo z2 h1 h2 h3=>?_⟩
    ·refine ⟨_,rfl,_,rfl,cz ⟨szA,fun a ha=>?_⟩⟩
     exact kk _ a [-3] (tG e) (z2.trans (.of (aM.new ha))) (Bo.on (aM.new ha)) ae (by decide)
    ·refine ⟨_,rfl,_,rfl,?_⟩
     rw [decide_eq_false (fun z=>nomatch z)]
     obtain ⟨e1,e2⟩:=GX _ _ _ _ _ e
     have hl:=fj.dO.left
     refine cC ⟨_,rfl,_,rfl,g,pd,pl,a,b,c,st,past,ms,y,rfl,hg.onS z2,fj.dO,h1,h2,h3,by omega,e2.trans (fj.dO.ord (by decide)),fun H3 p s3 hp hlen=>?_⟩
     exact kk H3 p _ (Z9 ms y e) (z2.trans (.of s3)) (Bo.on s3) hp hlen
  ·rw [decide_eq_false h0]
   refine cz ⟨_,rfl,szA,fun a ha=>?_⟩
   exact kk _ a [qO st x] (vZ h0) (.of (aM.new ha)) (ht.on (aM.new ha)) ae (by show 1<=6000;decide)
end
theorem pP {s:aS} (h:kG s 6):Good s []:=⟨h,by have:=h.left;show s.game.left+0<=20;omega,(fun i y hy=>nomatch hy)⟩
def Ex (n:Nat) (a b:Int):Bool:=(decide (0<=a)&&decide (a<2*(n:Int)))&&((decide (0<=b)&&decide (b<2*(n:Int)))&&!decide (a=b))
theorem G5 (s:aS) (a b:Int):Ex s.rules.n a b=decide (¬ ((bE s a&&bE s b)=false\/a=b)):=by
 unfold Ex bE aW
 rw [mL]
 simp only [aG,decide_eq_true_iff,Bool.not_eq_true',decide_eq_false_iff_not,not_or,Bool.not_eq_false]
 constructor
 ·rintro ⟨⟨h1,h2⟩,⟨h3,h4⟩,h5⟩
  exact ⟨⟨⟨h1,by omega⟩,⟨h3,by omega⟩⟩,h5⟩
 ·rintro ⟨⟨⟨h1,h2⟩,h3,h4⟩,h5⟩
  exact ⟨⟨h1,by omega⟩,⟨h3,by omega⟩,h5⟩
theorem O8 {s:aS} {x y:Int} (h:¬ ((bE s x&&bE s y)=false\/x=y)):∃ a b:Nat,x=(a:Int)/\y=(b:Int)/\a<2*s.rules.n/\b<2*s.rules.n/\a≠b:=by
 have h2:Ex s.rules.n x y=true:=by rw [G5];exact decide_eq_true h
 unfold Ex at h2
 simp only [aG,decide_eq_true_iff,Bool.not_eq_true',decide_eq_false_iff_not] at h2
 exact ⟨x.toNat,y.toNat,by omega,by omega,by omega,by omega,by omega⟩
theorem V2 {s:aS} (hf:kG s 6) {p:Nat×Nat} (h1:p.1<2*s.rules.n) (h2:p.2<2*s.rules.n) (h3:p.1≠p.2) (h4:s.rules.can.contains p=false):kG { s with rules:={ s.rules with can:=s.rules.can++[p] } } 6:=by
 refine ⟨fun h=>absurd h (by decide),hf.n,hf.RM,hf.lt,hf.tie,hf.ord,hf.turn,hf.left,fun q hq=>?_,?_,fun h=>absurd h (by decide)⟩
 ·rcases bS.mp hq with e | e
  ·exact hf.can q e
  ·rw [ay.mp e];exact ⟨h1,h2,h3⟩
 ·show (s.rules.can++[p]).Nodup
  rw [oO]
  refine ⟨hf.nd,by simp,fun a ha b hb e=>?_⟩
  have hb:b=p:=by simpa using hb
  subst e hb
  rw [dj.mpr ha] at h4;cases h4
theorem O9 {s:aS} (hf:kG s 6) (p:Nat×Nat):kG { s with rules:={ s.rules with can:=s.rules.can.filter fun q=>q != p } } 6:=by
 refine ⟨fun h=>absurd h (by decide),hf.n,hf.RM,hf.lt,hf.tie,hf.ord,hf.turn,hf.left,fun q hq=>?_,?_,fun h=>absurd h (by decide)⟩
 ·exact hf.can q (g6.mp hq).1
 ·exact hf.nd.filter _
theorem G6 {p:Nat×Nat}:∀ {l:List (Nat×Nat)},l.Nodup->p∈l->(l.filter fun q=>q != p).length=l.length - 1
 | q::l,hn,hm=>by
  rw [cE] at hn
  by_cases e:q=p
  ·subst e
   rw [List.filter_cons_of_neg (by simp)]
   have:(l.filter fun z=>z != q)=l:=List.filter_eq_self.mpr fun z hz=>by
    have:z≠q:=fun e=>hn.1 (e▸hz)
    simpa using this
   rw [this];rfl
  ·rcases aw.mp hm with h | h
   ·exact absurd h.symm e
   ·rw [List.filter_cons_of_pos (by simpa using e),aq,G6 hn.2 h,aq]
    have:0<l.length:=List.length_pos_of_mem h
    omega
section
variable {P:Program} {w:World} {K:ab} {mg:Str->Option Value} {base:Heap} {t:uZ}
theorem L4 (T:Txt K mg t) {P1 P2:Addr}:bY P w K mg base fw 3 t.eD t.nU ["game","given"] (iT ⟨P,w,K,t.aF,t.a5,P1,P2⟩ .swap):=by
 refine T.jC.ok Lc (fun vs H Q E h=>?_) (fun eW A outer s H vs Q E hr h=>?_)
 ·obtain ⟨g,pd,pl,ga,s,past,rfl,_⟩:=h
  rfl
 ·obtain ⟨g,pd,pl,ga,st,past,rfl,hg,fj,ht,yF,k⟩:=h
  refine ⟨_,(ag (cO (aN (Cg T) (hr.mono (by omega)) rfl T.u6 T.eG.kp (C6 T) .nil bp (aa (pv 0) ai)))
   (ak (aK (bw (aa az ai))))),?_⟩
  try dsimp only [cxK]
  refine ⟨_,rfl,g,pd,pl,st,past,rfl,hg,fj.dO,fun H2 QW qp tD e2 aay G7=>⟨szA,fun a ha=>?_⟩⟩
  have s3:=aM.new (o:=.lst [V.int 0]) ha
  have Bo:mz ⟨P,w,K,t.aF,t.a5,P1,P2⟩ H2:=lB ht hg.AZ (e2.mono J3)
  exact k _ a QW qp _ [] [0] rfl (tD.on s3) (pP (Tr fj.dO)) (Bo.on s3) (((fN.YS e2).mono J3).trans (.of (.of s3))) (.inr aay) (.inr G7) ae (by decide)
def Q5 (C:Addr):Sp:=fun vs H Q _=>∃ (g pd pl b:Addr) (x:Raw) (a1 a2:Int),vs=[.ref g,.ref b]/\mC C H g pd pl x/\H b=some (.tup [.int a1,.int a2])/\Q (.bl (Ex x.n a1 a2)) H
theorem G8 (T:Txt K mg t):bY P w K mg base fw 2 t.pF t.rT ["game","pair"] (Q5 t.aF):=by
 refine T.l9.ok QA (fun vs H Q E h=>?_) (fun eW A outer s H vs Q E hr h=>?_)
 ·obtain ⟨g,pd,pl,b,x,a1,a2,rfl,_⟩:=h
  rfl
 ·obtain ⟨g,pd,pl,b,x,a1,a2,rfl,hg,hb,k⟩:=h
  refine ⟨_,(ak (aK (Cu (aN (GB T) (hr.mono (by omega)) rfl T.C2 T.l8.kp (JI T) .nil bp (aa (pv 0) (aa (bQ fS (pv 1) az (fun _ _=>rfl)) ai))) (Cu (aN (GB T) (hr.mono (by omega)) rfl T.C2 T.l8.kp (JI T) .nil bp (aa (pv 0) (aa (bQ fS (pv 1) az (fun _ _=>rfl)) ai))) (Fm (kx uR (bQ fS (pv 1) az (fun _ _=>rfl)) (bQ fS (pv 1) az (fun _ _=>rfl)) (bP _))))))),?_⟩
  try dsimp only [cxK]
  unfold Ex at k
  refine ⟨_,rfl,_,rfl,b,_,0,_,rfl,rfl,oX.of hb,bj (j:=0) rfl,g,pd,pl,x,a1,rfl,hg,_,rfl,?_⟩
  cases h1:(decide (0<=a1)&&decide (a1<2*(x.n:Int))) with
  | false=>
   rw [h1] at k
   exact cC k
  | true=>
   rw [h1,eQ] at k
   refine cz ⟨_,rfl,_,rfl,b,_,1,_,rfl,rfl,oX.of hb,bj (j:=1) rfl,g,pd,pl,x,a2,rfl,hg,_,rfl,?_⟩
   cases h2:(decide (0<=a2)&&decide (a2<2*(x.n:Int))) with
   | false=>
    rw [h2] at k
    exact cC k
   | true=>
    rw [h2,eQ] at k
    refine cz ⟨_,rfl,b,_,0,_,rfl,rfl,oX.of hb,bj (j:=0) rfl,_,rfl,b,_,1,_,rfl,rfl,oX.of hb,bj (j:=1) rfl,rfl,?_⟩
    rw [b_]
    exact k
theorem O_ (T:Txt K mg t) {P1 P2:Addr}:bY P w K mg base fw 3 t.fu t.pG ["game","given"] (fun vs H Q E=>∃ q:Int×Int,iT ⟨P,w,K,t.aF,t.a5,P1,P2⟩ (.can q.1 q.2) vs H Q E):=by
 refine T.lh.ok Ei (fun vs H Q E h=>?_) (fun eW A outer s H vs Q E hr h=>?_)
 ·obtain ⟨q,g,pd,pl,ga,s,past,rfl,_⟩:=h
  rfl
 ·obtain ⟨⟨x,y⟩,g,pd,pl,ga,st,past,rfl,hg,fj,ht,yF,k⟩:=h
  have hu:=xA hr
  refine ⟨_,(ag (gR 2 Ei.nd (r6 (aa (bQ bI (pv 1) az (fun _ _=>rfl)) (aa (bQ bI (pv 1) az (fun _ _=>rfl)) ai))))
   (ag (cx (vj (qB (aN (G8 T) (hr.mono (by omega)) rfl T.C3 T.l9.kp (JJ T) .nil bp (aa (pv 0) (aa (pv 2) ai)))))
   (ak (aK (bw (aa (eX rfl T.fL) ai))))
   bt)
   (ag (cx (vh (PV hu (pv 2) (bb (pv 0) rfl)) (by with_unfolding_all rfl))
   (ak (aK (bw (aa (eX rfl T.uo) ai))))
   bt)
   (ag (cO (aN (OH T) (hr.mono (by omega)) rfl T.F2 T.k4.kp (Qt T) .nil bp (aa (pv 0) (aa (pv 2) ai))))
   (ak (aK (bw (aa (b8 JK (by rfl) T.f_ boot_len (aa (bb (pv 0) rfl) ai)) ai)))))))),?_⟩
  try dsimp only [cxK]
  have hn:=fj.dO.n (by decide)
  obtain ⟨dx,pa,oa,cK,my,lP,ma,rn,qM,rm⟩:=id hg
  have cK:H g=some (.ins t.aF dx (gf st.rules.n pa (dm st.rules.tie) oa st.game.turn st.game.left pd pl)):=cK
  have kk:=oC hg fj k
  have JZ:H ga=some (.lst [.int x,.int y]):=yF
  refine ⟨_,rfl,ga,_,0,_,rfl,rfl,bO.of JZ,bj (j:=0) rfl,_,rfl,ga,_,1,_,rfl,rfl,bO.of JZ,bj (j:=1) rfl,szB,fun tp E_=>?_⟩
  have s1:=aM.new (o:=.tup [V.int x,V.int y]) E_
  refine ⟨_,rfl,_,rfl,g,pd,pl,tp,eY st past,x,y,rfl,hg.on s1,ae,_,rfl,?_⟩
  have epb:Ex (eY st past).n x y=decide (¬ ((bE st x&&bE st y)=false\/x=y)):=G5 st x y
  rw [epb]
  by_cases hp:(bE st x&&bE st y)=false\/x=y
  ·rw [decide_eq_false (fun h=>h hp)]
   refine cz ⟨szA,fun a ha=>?_⟩
   refine kk _ a [-2] ?_ (.of (s1.trans (aM.new ha))) (ht.on (s1.trans (aM.new ha))) ae (by decide)
   show (if (bE st x&&bE st y)=false\/x=y then _ else _)=_
   rw [if_pos hp];rfl
  ·rw [decide_eq_true hp]
   obtain ⟨a,b,rfl,rfl,ha6,hb6,hab⟩:=O8 hp
   have V3:(upd H tp (.tup [V.int (a:Int),V.int (b:Int)])) tp=some (.tup [vN a,vN b]):=ae
   have ena:((a:Nat):Int).toNat=a:=by omega
   have enb:((b:Nat):Int).toNat=b:=by omega
   refine cC ⟨_,rfl,_,rfl,g,_,dx,_,_,rfl,s1 _ _ cK,T.aI,T.cu,lx,pd,_,rfl,FE.t (k:=fi (a,b)) (s1 _ _ ma) V3,_,rfl,?_⟩
   rw [zC]
   show if st.rules.can.contains (a,b)=true then _ else _
   cases h5:st.rules.can.contains (a,b) with
   | true=>
    refine cz ⟨szA,fun q hq=>?_⟩
    refine kk _ q [-4] ?_ (.of (s1.trans (aM.new hq))) (ht.on (s1.trans (aM.new hq))) ae (by decide)
    show (if (bE st a&&bE st b)=false\/(a:Int)=b then _ else if st.rules.can.contains ((a:Int).toNat,(b:Int).toNat)=true then _ else _)=_
    rw [if_neg hp,ena,enb,if_pos h5];rfl
   | false=>
    have h36:=fj.dO.OP
    refine cC ⟨_,rfl,_,rfl,g,pd,pl,tp,eY st past,(a,b),rfl,hg.on s1,V3,h5,by show st.rules.can.length<1000;omega,fun H2 qp tD e2 G7=>?_⟩
    have Bo:mz ⟨P,w,K,t.aF,t.a5,P1,P2⟩ H2:=lB (ht.on s1) (hg.on s1).AZ (e2.mono LU)
    obtain ⟨VM,pa2,oa2,Q3,Tf,Ib,Ic,_⟩:=id tD
    refine ⟨_,rfl,g,_,VM,_,_,rfl,Q3,T.aI,T.cu,lx,pd,_,rfl,Ic,szA,fun q hq=>?_⟩
    have s3:=aM.new (o:=.lst [V.int (((gb (st.rules.can++[(a,b)])).length:Nat):Int)]) hq
    refine k _ q pd qp { st with rules:={ st.rules with can:=st.rules.can++[(a,b)] } } [] [((st.rules.can.length+1:Nat):Int)] ?_ (tD.on s3) (pP (V2 fj.dO ha6 hb6 hab h5)) (Bo.on s3) ?_ (.inl rfl) (.inr (s1.free G7)) ?_ (by show 1<=6000;decide)
    ·show (if (bE st a&&bE st b)=false\/(a:Int)=b then _ else if st.rules.can.contains ((a:Int).toNat,(b:Int).toNat)=true then _ else _)=_
     rw [if_neg hp,ena,enb,if_neg (by rw [h5];decide)]
    ·exact ((fN.of (.of s1)).trans ((fN.YS e2).mono LU)).trans (.of (.of s3))
    ·rw [ae]
     unfold gb
     rw [U,ao];rfl
theorem G9 (T:Txt K mg t) {P1 P2:Addr}:bY P w K mg base fw 3 t.dg t.ke ["game","given"] (fun vs H Q E=>∃ q:Int×Int,iT ⟨P,w,K,t.aF,t.a5,P1,P2⟩ (.cannot q.1 q.2) vs H Q E):=by
 refine T.gz.ok yk (fun vs H Q E h=>?_) (fun eW A outer s H vs Q E hr h=>?_)
 ·obtain ⟨q,g,pd,pl,ga,s,past,rfl,_⟩:=h
  rfl
 ·obtain ⟨⟨x,y⟩,g,pd,pl,ga,st,past,rfl,hg,fj,ht,yF,k⟩:=h
  have hu:=xA hr
  refine ⟨_,(ag (gR 2 yk.nd (r6 (aa (bQ bI (pv 1) az (fun _ _=>rfl)) (aa (bQ bI (pv 1) az (fun _ _=>rfl)) ai))))
   (ag (cx (vj (qB (aN (G8 T) (hr.mono (by omega)) rfl T.C3 T.l9.kp (JJ T) .nil bp (aa (pv 0) (aa (pv 2) ai)))))
   (ak (aK (bw (aa (eX rfl T.fL) ai))))
   bt)
   (ag (cx (vh (Jm hu (pv 2) (bb (pv 0) rfl)) (by with_unfolding_all rfl))
   (ak (aK (bw (aa (eX rfl T.uo) ai))))
   bt)
   (ag (cO (aN (Ly T) (hr.mono (by omega)) rfl T.D5 T.jo.kp (N2 T) .nil bp (aa (pv 0) (aa (pv 2) ai))))
   (ak (aK (bw (aa (b8 JK (by rfl) T.f_ boot_len (aa (bb (pv 0) rfl) ai)) ai)))))))),?_⟩
  try dsimp only [cxK]
  have hn:=fj.dO.n (by decide)
  obtain ⟨dx,pa,oa,cK,my,lP,ma,rn,qM,rm⟩:=id hg
  have cK:H g=some (.ins t.aF dx (gf st.rules.n pa (dm st.rules.tie) oa st.game.turn st.game.left pd pl)):=cK
  have kk:=oC hg fj k
  have JZ:H ga=some (.lst [.int x,.int y]):=yF
  refine ⟨_,rfl,ga,_,0,_,rfl,rfl,bO.of JZ,bj (j:=0) rfl,_,rfl,ga,_,1,_,rfl,rfl,bO.of JZ,bj (j:=1) rfl,szB,fun tp E_=>?_⟩
  have s1:=aM.new (o:=.tup [V.int x,V.int y]) E_
  refine ⟨_,rfl,_,rfl,g,pd,pl,tp,eY st past,x,y,rfl,hg.on s1,ae,_,rfl,?_⟩
  have epb:Ex (eY st past).n x y=decide (¬ ((bE st x&&bE st y)=false\/x=y)):=G5 st x y
  rw [epb]
  by_cases hp:(bE st x&&bE st y)=false\/x=y
  ·rw [decide_eq_false (fun h=>h hp)]
   refine cz ⟨szA,fun a ha=>?_⟩
   refine kk _ a [-2] ?_ (.of (s1.trans (aM.new ha))) (ht.on (s1.trans (aM.new ha))) ae (by decide)
   show (if (bE st x&&bE st y)=false\/x=y then _ else _)=_
   rw [if_pos hp];rfl
  ·rw [decide_eq_true hp]
   obtain ⟨a,b,rfl,rfl,ha6,hb6,hab⟩:=O8 hp
   have V3:(upd H tp (.tup [V.int (a:Int),V.int (b:Int)])) tp=some (.tup [vN a,vN b]):=ae
   have ena:((a:Nat):Int).toNat=a:=by omega
   have enb:((b:Nat):Int).toNat=b:=by omega
   refine cC ⟨_,rfl,_,rfl,g,_,dx,_,_,rfl,s1 _ _ cK,T.aI,T.cu,lx,pd,_,rfl,FE.t (k:=fi (a,b)) (s1 _ _ ma) V3,_,rfl,?_⟩
   rw [zC]
   show if (!st.rules.can.contains (a,b))=true then _ else _
   cases h5:st.rules.can.contains (a,b) with
   | false=>
    refine cz ⟨szA,fun q hq=>?_⟩
    refine kk _ q [-4] ?_ (.of (s1.trans (aM.new hq))) (ht.on (s1.trans (aM.new hq))) ae (by decide)
    show (if (bE st a&&bE st b)=false\/(a:Int)=b then _ else if st.rules.can.contains ((a:Int).toNat,(b:Int).toNat)=false then _ else _)=_
    rw [if_neg hp,ena,enb,if_pos h5];rfl
   | true=>
    refine cC ⟨_,rfl,_,rfl,g,pd,pl,tp,eY st past,(a,b),rfl,hg.on s1,V3,h5,fun H2 qp tD e2 G7=>?_⟩
    have Bo:mz ⟨P,w,K,t.aF,t.a5,P1,P2⟩ H2:=lB (ht.on s1) (hg.on s1).AZ (e2.mono LU)
    obtain ⟨VM,pa2,oa2,Q3,Tf,Ib,Ic,_⟩:=id tD
    refine ⟨_,rfl,g,_,VM,_,_,rfl,Q3,T.aI,T.cu,lx,pd,_,rfl,Ic,szA,fun q hq=>?_⟩
    have s3:=aM.new (o:=.lst [V.int (((gb (st.rules.can.filter fun q=>q != (a,b))).length:Nat):Int)]) hq
    refine k _ q pd qp { st with rules:={ st.rules with can:=st.rules.can.filter fun q=>q != (a,b) } } [] [((st.rules.can.length - 1:Nat):Int)] ?_ (tD.on s3) (pP (O9 fj.dO (a,b))) (Bo.on s3) ?_ (.inl rfl) (.inr (s1.free G7)) ?_ (by show 1<=6000;decide)
    ·show (if (bE st a&&bE st b)=false\/(a:Int)=b then _ else if st.rules.can.contains ((a:Int).toNat,(b:Int).toNat)=false then _ else _)=_
     rw [if_neg hp,ena,enb,if_neg (by rw [h5];decide)]
    ·exact ((fN.of (.of s1)).trans ((fN.YS e2).mono LU)).trans (.of (.of s3))
    ·rw [ae]
     unfold gb
     rw [U]
     show some (HO.lst [V.int (((st.rules.can.filter fun q=>q != (a,b)).length:Nat):Int)])=_
     rw [G6 fj.dO.nd (dj.mp h5)];rfl
theorem Iv (T:Txt K mg t) {P1 P2:Addr}:bY P w K mg base fw 3 t.dB t.l6 ["game","given"] (fun vs H Q E=>∃ x:List Int,iT ⟨P,w,K,t.aF,t.a5,P1,P2⟩ (.order x) vs H Q E):=by
 refine T.iq.ok Ag (fun vs H Q E h=>?_) (fun eW A outer s H vs Q E hr h=>?_)
 ·obtain ⟨x,g,pd,pl,ga,s,past,rfl,_⟩:=h
  rfl
 ·obtain ⟨x,g,pd,pl,ga,st,past,rfl,hg,fj,ht,yF,k⟩:=h
  refine ⟨_,(ag (gR 2 Ag.nd (bQ bI (pv 1) az (fun _ _=>rfl)))
   (ag (cx (vj (qB (aN (OC T) (hr.mono (by omega)) rfl T.F1 T.kZ.kp (Qs T) .nil bp (aa (pv 0) (aa (pv 2) ai)))))
   (ak (aK (bw (aa (eX rfl T.mD) ai))))
   bt)
   (ag (cO (aN (Lw T) (hr.mono (by omega)) rfl T.D7 T.jq.kp (N3 T) .nil bp (aa (pv 0) (aa (pv 2) ai))))
   (ak (aK (bw (aa az ai))))))),?_⟩
  try dsimp only [cxK]
  have hn:=fj.dO.n (by decide)
  obtain ⟨dx,pa,oa,cK,my,lP,ma,rn,qM,rm⟩:=id hg
  have cK:H g=some (.ins t.aF dx (gf st.rules.n pa (dm st.rules.tie) oa st.game.turn st.game.left pd pl)):=cK
  have kk:=oC hg fj k
  obtain ⟨ra,JZ,Q1⟩:=yF
  refine ⟨_,rfl,ga,_,0,_,rfl,rfl,bO.of JZ,bj (j:=0) rfl,_,rfl,_,rfl,g,pd,pl,ra,eY st past,x,rfl,hg,hn,bO.of Q1,fun H1 b s1 hb=>⟨_,rfl,?_⟩⟩
  have hot:(¬ ((x.all fun z=>bE st z)=false\/Vbrezy.isOrder st.rules.n (x.map bF)=false))↔x.Perm ((aY (2*st.rules.n)).map fun (n:Nat)=>(n:Int)):=Qh
  cases b with
  | false=>
   refine cz ⟨szA,fun a ha=>?_⟩
   refine kk _ a [-3] ?_ (.of (s1.trans (aM.new ha))) (ht.on (s1.trans (aM.new ha))) ae (by decide)
   show (if (x.all fun z=>bE st z)=false\/Vbrezy.isOrder st.rules.n (x.map bF)=false then _ else _)=_
   rw [if_pos (Classical.byContradiction fun h=>absurd (hb.mpr (hot.mp h)) (by decide))];rfl
  | true=>
   have hp:=hb.mp rfl
   have GK:∀ z∈x,0<=z:=fun z hz=>by
    obtain ⟨n,_,rfl⟩:=aO.mp (hp.mem_iff.mp hz)
    omega
   have ex:x.map V.int=(x.map bF).map vN:=by
    rw [a9]
    refine cf fun z hz=>?_
    have:=GK z hz
    show V.int z=V.int ((z.toNat:Nat):Int)
    congr 1;omega
   have El:(x.map bF).Perm (aY (2*st.rules.n)):=by
    have:=hp.map bF
    rw [a9] at this
    have e:(aY (2*st.rules.n)).map (bF∘fun (n:Nat)=>(n:Int))=aY (2*st.rules.n):=by
     conv=>rhs;rw [<- og (aY (2*st.rules.n))]
     exact cf fun n _=>by show ((n:Int)).toNat=n;omega
    have hq:(List.map bF x).Perm ((aY (2*(eY st past).n)).map (bF∘fun (n:Nat)=>(n:Int))):=this
    have Z8:(List.map bF x).Perm ((aY (2*st.rules.n)).map (bF∘fun (n:Nat)=>(n:Int))):=hq
    rw [e] at Z8
    exact Z8
   have V4:=s1 _ _ Q1
   rw [ex] at V4
   refine cC ⟨_,rfl,_,rfl,g,pd,pl,ra,eY st past,x.map bF,rfl,hg.on s1,V4,fun e=>?_,fun H2 qp tD e2 G7=>⟨szA,fun a ha=>?_⟩⟩
   ·have:=El.length_eq
    rw [e,ck] at this
    simp at this;omega
   have s3:=aM.new (o:=.lst [V.int 0]) ha
   have Bo:mz ⟨P,w,K,t.aF,t.a5,P1,P2⟩ H2:=lB (ht.on s1) (hg.on s1).AZ (e2.mono J3)
   have hf:=fj.dO
   refine k _ a pd qp { st with game:={ st.game with order:=x.map bF } } [] [0] ?_ (tD.on s3) (pP ⟨fun h=>absurd h (by decide),hf.n,hf.RM,hf.lt,hf.tie,fun _=>El,hf.turn,hf.left,hf.can,hf.nd,fun h=>absurd h (by decide)⟩) (Bo.on s3) ?_ (.inl rfl) (.inr (s1.free G7)) ae (by decide)
   ·show (if (x.all fun z=>bE st z)=false\/Vbrezy.isOrder st.rules.n (x.map bF)=false then _ else _)=_
    rw [if_neg (hot.mpr hp)]
   ·exact ((fN.of (.of s1)).trans ((fN.YS e2).mono J3)).trans (.of (.of s3))
theorem L5 (T:Txt K mg t) {P1 P2:Addr}:bY P w K mg base fw 3 t.eE t.nV ["game","given"] (fun vs H Q E=>∃ q:Int×Int,iT ⟨P,w,K,t.aF,t.a5,P1,P2⟩ (.left q.1 q.2) vs H Q E):=by
 refine T.jD.ok vT (fun vs H Q E h=>?_) (fun eW A outer s H vs Q E hr h=>?_)
 ·obtain ⟨q,g,pd,pl,ga,s,past,rfl,_⟩:=h
  rfl
 ·obtain ⟨⟨x,y⟩,g,pd,pl,ga,st,past,rfl,hg,fj,ht,yF,k⟩:=h
  refine ⟨_,(ag (gR 2 vT.nd (bQ bI (pv 1) az (fun _ _=>rfl)))
   (ag (gR 3 vT.nd (bQ bI (pv 1) az (fun _ _=>rfl)))
   (ag (cx (PW.pt (zY (bu eR (pv 2) (eX rfl T.BY) (by with_unfolding_all rfl)) (vi (vj (qB (aN (yy T) (hr.mono (by omega)) rfl T.um T.fD.kp (Ad T) .nil bp (aa (pv 3) ai)))))))
   (ak (aK (bw (aa (eX rfl T.fL) ai))))
   bt)
   (ag (cO (aN (OF T) (hr.mono (by omega)) rfl T.F3 T.k5.kp (Qu T) .nil bp (aa (pv 0) (aa (pv 2) (aa (pv 3) ai)))))
   (ak (aK (bw (aa az ai)))))))),?_⟩
  try dsimp only [cxK]
  have kk:=oC hg fj k
  have JZ:H ga=some (.lst [.int x,.int y]):=yF
  refine ⟨_,rfl,ga,_,0,_,rfl,rfl,bO.of JZ,bj (j:=0) rfl,_,rfl,ga,_,1,_,rfl,rfl,bO.of JZ,bj (j:=1) rfl,_,rfl,t.pZ,_,rfl,.inr (T.BZ.sq H),rfl,rfl,_,rfl,?_⟩
  show if (!Kc (V.int x) [.int 0,.int 1])=true then _ else _
  rw [zJ]
  have no2:(aW x 0 1&&aW y 0 20)=false->∀ H' ,aM H H'->(H'=H'->∀ a,H' a=none->Q (.ref a) (upd H' a (.lst [V.int (-2)]))):=fun h H' s' _ a ha=>by
   refine kk _ a [-2] ?_ (.of (s'.trans (aM.new ha))) (ht.on (s'.trans (aM.new ha))) ae (by decide)
   show (if (aW x 0 1&&aW y 0 20)=false then _ else _)=_
   rw [if_pos h];rfl
  cases h1:aW x 0 1 with
  | false=>
   exact cz (cz ⟨szA,fun a ha=>no2 (by rw [h1];rfl) H (aM.refl _) rfl a ha⟩)
  | true=>
   refine cC ⟨_,rfl,y,rfl,_,rfl,?_⟩
   have e2:(decide (0<=y)&&decide (y<=20))=aW y 0 20:=rfl
   rw [e2]
   cases h2:aW y 0 20 with
   | false=>
    exact cz ⟨szA,fun a ha=>no2 (by rw [h1,h2];rfl) H (aM.refl _) rfl a ha⟩
   | true=>
    have hx:0<=x/\x<=1:=by
     unfold aW at h1
     rwa [aG,decide_eq_true_iff,decide_eq_true_iff] at h1
    have hy:0<=y/\y<=20:=by
     unfold aW at h2
     rwa [aG,decide_eq_true_iff,decide_eq_true_iff] at h2
    obtain ⟨u,rfl⟩:∃ u:Nat,x=(u:Int):=⟨x.toNat,by omega⟩
    obtain ⟨n,rfl⟩:∃ n:Nat,y=(n:Int):=⟨y.toNat,by omega⟩
    refine cC ⟨_,rfl,_,rfl,_,rfl,g,pd,pl,eY st past,u,n,rfl,hg,fun H2 qp tD e2 G7=>⟨szA,fun a ha=>?_⟩⟩
    have s3:=aM.new (o:=.lst [V.int 0]) ha
    have Bo:mz ⟨P,w,K,t.aF,t.a5,P1,P2⟩ H2:=lB ht hg.AZ (e2.mono J3)
    have hf:=fj.dO
    refine k _ a pd qp { st with game:={ st.game with turn:=u,left:=n } } [] [0] ?_ (tD.on s3) (pP ⟨fun h=>absurd h (by decide),hf.n,hf.RM,hf.lt,hf.tie,hf.ord,by show u<=1;omega,by show n<=20;omega,hf.can,hf.nd,fun h=>absurd h (by decide)⟩) (Bo.on s3) (((fN.YS e2).mono J3).trans (.of (.of s3))) (.inl rfl) (.inr G7) ae (by decide)
    show (if (aW (u:Int) 0 1&&aW (n:Int) 0 20)=false then _ else _)=_
    rw [if_neg (by rw [h1,h2];decide)];rfl
end
def TC:jE->Nat
 | .load _=>0
 | .text=>1
 | .result=>2
 | .combs=>3
 | .wins=>4
 | .judge _=>5
 | .passes _=>6
 | .table _=>7
 | .moves=>8
 | .move _=>9
 | .undo=>10
 | .value _=>11
 | .best _=>12
 | .values _=>13
 | .line _=>14
 | .duel _ _ _=>15
 | .swap=>16
 | .can _ _=>17
 | .cannot _ _=>18
 | .order _=>19
 | .left _ _=>20
def V5 (t:uZ) (i:Nat):Option Addr:=[t.dH,t.c_,t.dv,t.d_,t.dw,t.da,t.dy,t.dz,t.ed,t.ef,t.dA,t.ek,t.dc,t.er,t.eC,t.eD,t.fu,t.dg,t.dB,t.eE][i]?
def Pa (t:uZ):List (Int×(V->Prop)):=[(1,fun u=>u=(.ref t.dH)),(2,fun u=>u=(.ref t.c_)),(3,fun u=>u=(.ref t.dv)),(4,fun u=>u=(.ref t.d_)),(5,fun u=>u=(.ref t.dw)),(6,fun u=>u=(.ref t.da)),(7,fun u=>u=(.ref t.dy)),(8,fun u=>u=(.ref t.dz)),(9,fun u=>u=(.ref t.ed)),(10,fun u=>u=(.ref t.ef)),(11,fun u=>u=(.ref t.dA)),(12,fun u=>u=(.ref t.ek)),(13,fun u=>u=(.ref t.dc)),(14,fun u=>u=(.ref t.er)),(15,fun u=>u=(.ref t.eC)),(16,fun u=>u=(.ref t.eD)),(17,fun u=>u=(.ref t.fu)),(18,fun u=>u=(.ref t.dg)),(19,fun u=>u=(.ref t.dB)),(20,fun u=>u=(.ref t.eE))]
theorem V6 (t:uZ) {i:Nat} {f:Addr} (h:V5 t (i - 1)=some f) (h0:i≠0):(Pa t)[i - 1]?=some ((i:Int),fun u=>u=V.ref f):=by
 have iX:i - 1<20:=by
  unfold V5 at h
  exact (aH.mp h).1
 obtain ⟨j,rfl⟩:∃ j,i=j+1:=⟨i - 1,by omega⟩
 have hj:j<20:=iX
 rw [Nat.add_sub_cancel] at h ⊢
 have:j=0\/j=1\/j=2\/j=3\/j=4\/j=5\/j=6\/j=7\/j=8\/j=9\/j=10\/j=11\/j=12\/j=13\/j=14\/j=15\/j=16\/j=17\/j=18\/j=19:=by omega
 rcases this with rfl | rfl | rfl | rfl | rfl | rfl | rfl | rfl | rfl | rfl | rfl | rfl | rfl | rfl | rfl | rfl | rfl | rfl | rfl | rfl<;>(obtain rfl:=aj.inj h;rfl)
def df (v:V):List (Str×V):=[("game",v)]
theorem L6 {v:V}:(df v).lookup ("game":Str)=some v:=by kernel_rfl
theorem V7 {v u:V}:ji "game" u (df v)=df u:=by kernel_rfl
def G_ (p:Pl) (CD:Addr) (H:Hp) (de:Addr) (st:gd) (own:List Addr):Prop:=
 mz p H/\((st=⟨none,[]⟩/\own=[]/\∃ dx,H de=some (.ins CD dx (df .jU)))\/∃ s past g pd pl dx,st=⟨some s,past⟩/\own=[g,pd,pl]/\H de=some (.ins CD dx (df (.ref g)))/\mC p.C H g pd pl (eY s past)/\Good s past)
theorem G_.on {p:Pl} {CD:Addr} {H H':Hp} {de:Addr} {st:gd} {own:List Addr} (h:G_ p CD H de st own) (z:aM H H'):G_ p CD H' de st own:=by
 obtain ⟨ht,h⟩:=h
 refine ⟨ht.on z,?_⟩
 rcases h with ⟨h1,h2,dx,h3⟩ | ⟨s,past,g,pd,pl,dx,h1,h2,h3,h4,h5⟩
 ·exact .inl ⟨h1,h2,dx,z _ _ h3⟩
 ·exact .inr ⟨s,past,g,pd,pl,dx,h1,h2,z _ _ h3,h4.on z,h5⟩
def YV (p:Pl) (CD:Addr) (H:Hp) (de:Addr) (st:gd) (own:List Addr) (c:jE) (Q:V->Hp->Prop):Prop:=
 ∀ (H':Hp) (a:Addr) (Cs:gd) (Ye:List Addr) (Bp:List Int),jF st c=(Cs,Bp)->G_ p CD H' de Cs Ye->fN (de::own) H H'->(∀ b∈Ye,b∈own\/H b=none)->H' a=some (.lst (Bp.map V.int))->Bp.length<=6000->Q (.ref a) H'
section
variable {P:Program} {w:World} {K:ab} {mg:Str->Option Value} {base:Heap} {t:uZ}
def Yf (CD:Addr):Sp:=fun vs H Q _=>∃ (x dx:Addr),vs=[.ref x]/\H x=some (.ins CD dx [])/\Q .jU (upd H x (.ins CD dx (df .jU)))
theorem Du (T:Txt K mg t):bY P w K mg base fw 1 t.e8 t.gZ ["self"] (Yf t.fJ):=by
 refine T.fX.ok C8 (fun vs H Q E h=>?_) (fun eW A outer s H vs Q E hr h=>?_)
 ·obtain ⟨x,dx,rfl,_⟩:=h
  rfl
 ·obtain ⟨x,dx,rfl,hx,k⟩:=h
  refine ⟨_,(ak (dY (pv 0) Px rfl)),?_⟩
  try dsimp only [cxK]
  exact ⟨_,rfl,x,_,dx,_,rfl,hx,T.zx,T.fE,(by show 0<1000;decide),k⟩
def Yg (p:Pl) (CD:Addr):Sp:=fun vs H Q _=>∃ (de ra:Addr) (st:gd) (own:List Addr) (l:List Int),vs=[.ref de,.ref ra]/\G_ p CD H de st own/\H ra=some (.lst (l.map V.int))/\(∀ z∈l,0<=z)/\YV p CD H de st own (.load l) Q
theorem Yh (T:Txt K mg t) {P1 P2:Addr}:bY P w K mg base fw 5 t.AI t.C1 ["desk","text"] (Yg ⟨P,w,K,t.aF,t.a5,P1,P2⟩ t.fJ):=by
 refine T.vL.ok K6 (fun vs H Q E h=>?_) (fun eW A outer s H vs Q E hr h=>?_)
 ·obtain ⟨de,ra,st,own,l,rfl,_⟩:=h
  rfl
 ·obtain ⟨de,ra,st,own,l,rfl,Pj,Q1,GK,k⟩:=h
  refine ⟨_,(ag (cx (bu Jf (b8 bT (by rfl) T.f_ boot_len (aa (pv 1) ai)) (eX rfl T.BW) (bP _))
   (ak (aK (bw (aa (eX rfl T.xf) ai))))
   bt)
   (ag (gR 2 K6.nd (MX T.Vd (Dg T) (hr.mono (by omega)) rfl T.RQ (EI T) .nil bp))
   (ag (gR 3 K6.nd (aN (X6 T) (hr.mono (by omega)) rfl T.Vc T.x_.kp (ZQ T) .nil bp (aa (pv 2) (aa (pv 1) ai))))
   (ag (cx (bu Jf (pv 3) az (bP _))
   (ak (aK (bw (aa (cB iE (eX rfl T.BX) (pv 3)) ai))))
   bt)
   (ag (dY (pv 0) (pv 2) rfl)
   (ak (aK (bw (aa (bb (pv 2) rfl) ai))))))))),?_⟩
  try dsimp only [cxK]
  have el:l.map V.int=(jh l).map vN:=by
   unfold jh
   rw [a9]
   refine cf fun z hz=>?_
   have:=GK z hz
   show V.int z=V.int ((z.toNat:Nat):Int)
   congr 1;omega
  have hbl:(jh l).length=l.length:=by unfold jh;rw [U]
  have same:∀ (H':Hp) (a:Addr) (Bp:List Int),jF st (.load l)=(st,Bp)->aM H H'->H' a=some (.lst (Bp.map V.int))->Bp.length<=6000->Q (.ref a) H':=fun H' a Bp e z ha hl=>
   k H' a st own Bp e (Pj.on z) (.of (.of z)) (fun b hb=>.inl hb) ha hl
  refine ⟨_,rfl,ra,_,rfl,.inl (bO.of Q1),_,_,rfl,rfl,_,rfl,?_⟩
  rw [U]
  by_cases h1:2000<l.length
  ·rw [decide_eq_true (by omega)]
   refine cz ⟨szA,fun a ha=>?_⟩
   refine same _ a [-8] ?_ (aM.new ha) ae (by decide)
   show (if Vbrezy.LONG<l.length then _ else _)=_
   rw [if_pos (show Vbrezy.LONG<l.length from h1)];rfl
  ·rw [decide_eq_false (by omega)]
   have O7:jF st (.load l)=match mh (jh l) with
     | .error i=>Vbrezy.no st (-1000 - (i:Int))
     | .ok x=>(⟨some x,[]⟩,[(x.rules.n:Int)]):=by
    show (if Vbrezy.LONG<l.length then _ else _)=_
    rw [if_neg (show ¬ Vbrezy.LONG<l.length from h1)]
    cases mh (jh l)<;>rfl
   refine cC ?_
   intro g dx hg0 adv ne
   refine ⟨g,dx,rfl,ae,fun H1 pd pl hg e1 ma kF=>⟨rfl,?_⟩⟩
   have s1:aM H H1:=aM.made hg0 adv fun b o e nb=>e1 b o e (by simpa using nb)
   have up:∀ {b:Addr},(upd (upd H dx (.own g)) g (.ins t.aF dx [])) b=none->H b=none:=fun {b} e=>by
    by_cases h2:b=g
    ·rw [h2];exact hg0
    ·rw [aD h2] at e
     by_cases h3:b=dx
     ·rw [h3];exact adv
     ·rw [aD h3] at e;exact e
   have V4:=s1 _ _ Q1
   rw [el] at V4
   have fre:∀ {H2:Hp},bh [g,pd] H1 H2->aM H H2:=fun {H2} z b o e=>z b o (s1 b o e) fun m=>by
    rcases aw.mp m with q | q
    ·exact aV e hg0 q
    ·exact aV e (up ma) (ay.mp q)
   refine ⟨_,rfl,_,rfl,g,pd,pl,ra,jh l,rfl,hg,bO.of V4,by omega,fun i hi Vz H2 e2=>?_,fun x hx hf H2 tD e2=>?_⟩
   ·refine ⟨_,rfl,_,_,rfl,rfl,_,rfl,?_⟩
    rw [decide_eq_true (show (0:Int)<(i:Int) by omega)]
    refine cz ⟨_,rfl,_,_,rfl,rfl,szA,fun a ha=>?_⟩
    refine same _ a [-1000 - (i:Int)] ?_ ((fre e2).trans (aM.new ha)) ae (by show 1<=6000;decide)
    rw [O7,hi];rfl
   ·refine ⟨_,rfl,_,_,rfl,rfl,_,rfl,?_⟩
    rw [decide_eq_false (show ¬ (0:Int)<0 by decide)]
    have s2:=fre e2
    have Iw:∃ R_ v,H de=some (.ins t.fJ R_ (df v)):=by
     rcases Pj.2 with ⟨_,_,d,h⟩ | ⟨_,_,_,_,_,d,_,_,h,_⟩
     ·exact ⟨d,_,h⟩
     ·exact ⟨d,_,h⟩
    obtain ⟨R_,v,Iw⟩:=Iw
    have ndg:de≠g:=aV Iw hg0
    refine cC ⟨_,rfl,_,rfl,de,_,R_,_,rfl,s2 _ _ Iw,T.zx,T.fE,of_decide_eq_true (by kernel_rfl),?_⟩
    rw [V7]
    have nd:∀ {b:Addr} {o o':HO},H2 b=some o->b≠de->(upd H2 de o') b=some o:=fun e n=>by rw [aD n];exact e
    have YJ:mC t.aF (upd H2 de (.ins t.fJ R_ (df (.ref g)))) g pd pl (eY x []):=by
     obtain ⟨VM,pa,oa,h1,h2,h3,h4,⟨ts,h5,h6⟩,h7,h8⟩:=tD
     have nn:∀ {b:Addr} {o:HO},H2 b=some o->(∀ C dx fs,o≠.ins C dx fs)->b≠de:=fun e n z=>by rw [z,s2 _ _ Iw] at e;exact n _ _ _ (aj.inj e).symm
     exact ⟨VM,pa,oa,nd h1 (Ne.symm ndg),nd h2 (nn h2 (fun _ _ _ z=>nomatch z)),nd h3 (nn h3 (fun _ _ _ z=>nomatch z)),nd h4 (nn h4 (fun _ _ _ z=>nomatch z)),⟨ts,nd h5 (nn h5 (fun _ _ _ z=>nomatch z)),h6.mono fun b q ⟨o2,z1,z2,z3⟩=>⟨o2,z1,nd z2 (nn z2 (fun _ _ _ z=>nomatch z)),nd z3 (nn z3 (fun _ _ _ z=>nomatch z))⟩⟩,h7,h8⟩
    obtain ⟨dx3,pa3,oa3,ag6,_⟩:=id YJ
    refine ⟨_,rfl,g,_,dx3,_,_,rfl,ag6,T.aI,T.bM,fM,szA,fun a ha=>?_⟩
    have s4:=aM.new (o:=.lst [V.int ((x.rules.n:Nat):Int)]) ha
    have e3:bh [de] H (upd H2 de (.ins t.fJ R_ (df (.ref g)))):=((bh.of s2).upd (by simp))
    have ht3:mz ⟨P,w,K,t.aF,t.a5,P1,P2⟩ (upd H2 de (.ins t.fJ R_ (df (.ref g)))):=lB Pj.1 (fun b hb=>by rw [ay.mp hb];exact ⟨_,Iw,trivial⟩) e3
    refine k _ a ⟨some x,[]⟩ [g,pd,pl] [(x.rules.n:Int)] ?_ ⟨ht3.on s4,.inr ⟨x,[],g,pd,pl,R_,rfl,rfl,s4 _ _ ae,YJ.on s4,pP hf⟩⟩ ?_ ?_ ae (by show 1<=6000;decide)
    ·rw [O7,hx]
    ·exact ((fN.YS e3).mono (fun y hy=>by rw [ay.mp hy];exact .head _)).trans (.of (.of s4))
    ·intro b hb
     simp only [aw,mi,or_false] at hb
     rcases hb with rfl | rfl | rfl
     ·exact .inr hg0
     ·exact .inr (up ma)
     ·exact .inr (up kF)
theorem V8 (P:Program) (w:World) (T:Txt K mg t) {c1 P1 c2 P2:Addr} (L:tE K t c1 P1 c2 P2) (hB:BMain base mg) (c:jE) (hc:TC c≠0):∃ f fd,V5 t (TC c - 1)=some f/\bY P w K mg base fw 69 f fd ["game","given"] (iT ⟨P,w,K,t.aF,t.a5,P1,P2⟩ c)/\c6 K (.ref f)=true/\Binds K fd ["game","given"] []:=by
 cases c with
 | load l=>exact absurd rfl hc
 | text=>exact ⟨_,_,rfl,((LP (P:=P) (w:=w) (base:=base) (P1:=P1) (P2:=P2) T).mono (by omega)),T.ic.kp,Eg T⟩
 | result=>exact ⟨_,_,rfl,((G1 (P:=P) (w:=w) (base:=base) (P1:=P1) (P2:=P2) T).mono (by omega)),T.gw.kp,HS T⟩
 | combs=>exact ⟨_,_,rfl,((Im (P:=P) (w:=w) (base:=base) (P1:=P1) (P2:=P2) T).mono (by omega)),T.ie.kp,K7 T⟩
 | wins=>exact ⟨_,_,rfl,((LQ (P:=P) (w:=w) (base:=base) (P1:=P1) (P2:=P2) T).mono (by omega)),T.jw.kp,Od T⟩
 | judge x=>exact ⟨_,_,rfl,(((Ip (P:=P) (w:=w) (base:=base) (P1:=P1) (P2:=P2) T).imp fun vs H Q E h=>⟨x,h⟩).mono (by omega)),T.ig.kp,K8 T⟩
 | passes x=>exact ⟨_,_,rfl,(((G3 (P:=P) (w:=w) (base:=base) (P1:=P1) (P2:=P2) T).imp fun vs H Q E h=>⟨x,h⟩).mono (by omega)),T.gx.kp,HU T⟩
 | table x=>exact ⟨_,_,rfl,(((Iq (P:=P) (w:=w) (base:=base) (P1:=P1) (P2:=P2) T).imp fun vs H Q E h=>⟨x,h⟩).mono (by omega)),T.ij.kp,K9 T⟩
 | moves=>exact ⟨_,_,rfl,((Ir (P:=P) (w:=w) (base:=base) (P1:=P1) (P2:=P2) T).mono (by omega)),T.ik.kp,K_ T⟩
 | move x=>exact ⟨_,_,rfl,(((LV (P:=P) (w:=w) (base:=base) (P1:=P1) (P2:=P2) T).imp fun vs H Q E h=>⟨x,h⟩).mono (by omega)),T.jx.kp,Oe T⟩
 | undo=>exact ⟨_,_,rfl,((LW (P:=P) (w:=w) (base:=base) (P1:=P1) (P2:=P2) T).mono (by omega)),T.jy.kp,Of T⟩
 | value x=>exact ⟨_,_,rfl,(((Iu (P:=P) (w:=w) (base:=base) T L hB).imp fun vs H Q E h=>⟨x,h⟩).mono (by omega)),T.il.kp,Lb T⟩
 | best x=>exact ⟨_,_,rfl,(((LX (P:=P) (w:=w) (base:=base) T L hB).imp fun vs H Q E h=>⟨x,h⟩).mono (by omega)),T.jz.kp,Og T⟩
 | values x=>exact ⟨_,_,rfl,(((G4 (P:=P) (w:=w) (base:=base) T L hB).imp fun vs H Q E h=>⟨x,h⟩).mono (by omega)),T.gy.kp,HV T⟩
 | line x=>exact ⟨_,_,rfl,(((L0 (P:=P) (w:=w) (base:=base) T L hB).imp fun vs H Q E h=>⟨x,h⟩).mono (by omega)),T.jA.kp,Oh T⟩
 | duel x y z=>exact ⟨_,_,rfl,(((L3 (P:=P) (w:=w) (base:=base) T L hB).imp fun vs H Q E h=>⟨(x,y,z),h⟩).mono (by omega)),T.jB.kp,Oi T⟩
 | swap=>exact ⟨_,_,rfl,((L4 (P:=P) (w:=w) (base:=base) (P1:=P1) (P2:=P2) T).mono (by omega)),T.jC.kp,Oj T⟩
 | can x y=>exact ⟨_,_,rfl,(((O_ (P:=P) (w:=w) (base:=base) (P1:=P1) (P2:=P2) T).imp fun vs H Q E h=>⟨(x,y),h⟩).mono (by omega)),T.lh.kp,QB T⟩
 | cannot x y=>exact ⟨_,_,rfl,(((G9 (P:=P) (w:=w) (base:=base) (P1:=P1) (P2:=P2) T).imp fun vs H Q E h=>⟨(x,y),h⟩).mono (by omega)),T.gz.kp,HW T⟩
 | order x=>exact ⟨_,_,rfl,(((Iv (P:=P) (w:=w) (base:=base) (P1:=P1) (P2:=P2) T).imp fun vs H Q E h=>⟨x,h⟩).mono (by omega)),T.iq.kp,Ld T⟩
 | left x y=>exact ⟨_,_,rfl,(((L5 (P:=P) (w:=w) (base:=base) (P1:=P1) (P2:=P2) T).imp fun vs H Q E h=>⟨(x,y),h⟩).mono (by omega)),T.jD.kp,Ol T⟩
def TF (p:Pl) (CD:Addr):Sp:=fun vs H Q _=>∃ (de ga:Addr) (st:gd) (own:List Addr) (c:jE),vs=[.ref de,vN (TC c),.ref ga]/\G_ p CD H de st own/\zH H ga c/\(∀ l,c=.load l->∀ z∈l,0<=z)/\YV p CD H de st own c Q
theorem TH (T:Txt K mg t) {c1 P1 c2 P2:Addr} (L:tE K t c1 P1 c2 P2) (hB:BMain base mg):bY P w K mg base fw 70 t.sy t.u0 ["desk","number","given"] (TF ⟨P,w,K,t.aF,t.a5,P1,P2⟩ t.fJ):=by
 refine T.qi.ok C9 (fun vs H Q E h=>?_) (fun eW A outer s H vs Q E hr h=>?_)
 ·obtain ⟨de,ga,st,own,c,rfl,_⟩:=h
  rfl
 ·obtain ⟨de,ga,st,own,c,rfl,Pj,yF,hld,k⟩:=h
  have hu:=xA hr
  have V9:=Yh (P:=P) (w:=w) (base:=base) T (P1:=P1) (P2:=P2)
  by_cases h0:TC c=0
  ·obtain ⟨l,rfl⟩:∃ l,c=.load l:=by cases c<;>first | exact ⟨_,rfl⟩ | cases h0
   have F:bY P w K mg base fw 69 t.dH t.kW ["game","given"] (fun _ _ _ _=>False):=R8
   have hk:=T.ic.kp
   have hb:=Eg T
   refine ⟨_,(ag (cx (bu gh (pv 1) (eX rfl T.Qq) (bP _))
   (ak (aK (aN V9 (hr.mono (by omega)) rfl T.Qo T.vL.kp (Vh T) .nil bp (aa (pv 0) (aa (bQ bI (pv 2) az (fun _ _=>rfl)) ai)))))
   bt)
   (ag (cx (vh (Py (bb (pv 0) rfl)))
   (ak (aK (bw (aa (eX rfl T.AM) ai))))
   bt)
   (ag (gR 3 C9.nd (Lg hu (eX rfl T.AN) (pv 1) (fun _ _=>rfl)))
   (ak (aK (Gn F (hr.mono (by omega)) (pv 3) hk hb .nil bp (aa (bb (pv 0) rfl) (aa (pv 2) ai)))))))),?_⟩
   try dsimp only [cxK]
   obtain ⟨ra,JZ,Q1⟩:=yF
   refine ⟨_,rfl,rfl,_,rfl,cz ⟨_,rfl,_,rfl,ga,_,0,_,rfl,rfl,bO.of JZ,bj (j:=0) rfl,de,ra,st,own,l,rfl,Pj,Q1,hld l rfl,k⟩⟩
  ·obtain ⟨f,fd,hfi,F,hk,hb⟩:=V8 P w T L hB c h0
   refine ⟨_,(ag (cx (bu gh (pv 1) (eX rfl T.Qq) (bP _))
   (ak (aK (aN V9 (hr.mono (by omega)) rfl T.Qo T.vL.kp (Vh T) .nil bp (aa (pv 0) (aa (bQ bI (pv 2) az (fun _ _=>rfl)) ai)))))
   bt)
   (ag (cx (vh (Py (bb (pv 0) rfl)))
   (ak (aK (bw (aa (eX rfl T.AM) ai))))
   bt)
   (ag (gR 3 C9.nd (Lg hu (eX rfl T.AN) (pv 1) (fun _ _=>rfl)))
   (ak (aK (Gn F (hr.mono (by omega)) (pv 3) hk hb .nil bp (aa (bb (pv 0) rfl) (aa (pv 2) ai)))))))),?_⟩
   try dsimp only [cxK]
   refine ⟨_,rfl,rfl,_,rfl,?_⟩
   rw [b_,decide_eq_false (by omega)]
   obtain ⟨ht,Pj⟩:=Pj
   rcases Pj with ⟨rfl,rfl,R_,Iw⟩ | ⟨s,past,g,pd,pl,R_,rfl,rfl,Iw,hg,fj⟩
   ·refine cC ⟨_,rfl,de,_,R_,_,_,rfl,Iw,T.zx,T.fE,L6,_,rfl,?_⟩
    refine cz ⟨szA,fun a ha=>?_⟩
    refine k _ a ⟨none,[]⟩ [] [-1] ?_ ⟨ht.on (aM.new ha),.inl ⟨rfl,rfl,R_,aM.new ha _ _ Iw⟩⟩ (.of (.of (aM.new ha))) (fun b hb=>nomatch hb) ae (by decide)
    cases c<;>first | rfl | exact absurd rfl h0
   ·refine cC ⟨_,rfl,de,_,R_,_,_,rfl,Iw,T.zx,T.fE,L6,_,rfl,?_⟩
    rw [decide_eq_false (fun z=>nomatch z)]
    refine cC ⟨_,rfl,t.kY,Pa t,TC c - 1,_,_,rfl,T.Gb,V6 t hfi h0,rfl,fun v hv=>?_⟩
    subst hv
    have nde:de∉[g,pd,pl]:=fun m=>by
     obtain ⟨VM,pa,oa,h1,h2,h3,h4,⟨ts,h5,h6⟩,h7,h8⟩:=id hg
     simp only [aw,mi,or_false] at m
     rcases m with q | q | q
     ·rw [q,h1] at Iw
      have:=congrArg (fun z=>match z with | some (HO.ins _ _ fs)=>fs.length | _=>0) Iw
      exact absurd this (by show ¬ (8=1);decide)
     ·rw [q,h4] at Iw;cases Iw
     ·rw [q,h5] at Iw;cases Iw
    refine ⟨_,rfl,rfl,_,rfl,de,_,R_,_,_,rfl,Iw,T.zx,T.fE,L6,_,rfl,g,pd,pl,ga,s,past,rfl,hg,fj,ht,yF,fun H' a QW qp s' Ah Bp e hg' ag7 ht' fr aay G7 ha hl=>?_⟩
    refine k H' a ⟨some s',Ah⟩ [g,QW,qp] Bp e ⟨ht',.inr ⟨s',Ah,g,QW,qp,R_,rfl,rfl,fr _ _ Iw trivial nde,hg',ag7⟩⟩ (fr.mono fun y hy=>.tail _ hy) ?_ ha hl
    intro b hb
    simp only [aw,mi,or_false] at hb
    rcases hb with rfl | rfl | rfl
    ·exact .inl (.head _)
    ·rcases aay with q | q
     ·rw [q];exact .inl (.tail _ (.head _))
     ·exact .inr q
    ·rcases G7 with q | q
     ·rw [q];exact .inl (.tail _ (.tail _ (.head _)))
     ·exact .inr q
end
def Pb (K:ab):List (Int×(V->Prop)):=[(0,fun u=>∃ a,u=.ref a/\KTup K a [(.int 0),(.int 1)]),(1,fun u=>∃ a,u=.ref a/\KTup K a [(.int 0),(.int 0)]),(2,fun u=>∃ a,u=.ref a/\KTup K a [(.int 0),(.int 0)]),(3,fun u=>∃ a,u=.ref a/\KTup K a [(.int 0),(.int 0)]),(4,fun u=>∃ a,u=.ref a/\KTup K a [(.int 0),(.int 0)]),(5,fun u=>∃ a,u=.ref a/\KTup K a [(.int 0),(.int 1)]),(6,fun u=>∃ a,u=.ref a/\KTup K a [(.int 1),(.int 0)]),(7,fun u=>∃ a,u=.ref a/\KTup K a [(.int 1),(.int 0)]),(8,fun u=>∃ a,u=.ref a/\KTup K a [(.int 0),(.int 0)]),(9,fun u=>∃ a,u=.ref a/\KTup K a [(.int 1),(.int 0)]),(10,fun u=>∃ a,u=.ref a/\KTup K a [(.int 0),(.int 0)]),(11,fun u=>∃ a,u=.ref a/\KTup K a [(.int 1),(.int 0)]),(12,fun u=>∃ a,u=.ref a/\KTup K a [(.int 1),(.int 0)]),(13,fun u=>∃ a,u=.ref a/\KTup K a [(.int 1),(.int 0)]),(14,fun u=>∃ a,u=.ref a/\KTup K a [(.int 1),(.int 0)]),(15,fun u=>∃ a,u=.ref a/\KTup K a [(.int 2),(.int 1)]),(16,fun u=>∃ a,u=.ref a/\KTup K a [(.int 0),(.int 0)]),(17,fun u=>∃ a,u=.ref a/\KTup K a [(.int 2),(.int 0)]),(18,fun u=>∃ a,u=.ref a/\KTup K a [(.int 2),(.int 0)]),(19,fun u=>∃ a,u=.ref a/\KTup K a [(.int 0),(.int 1)]),(20,fun u=>∃ a,u=.ref a/\KTup K a [(.int 2),(.int 0)])]
theorem V_ (K:ab) {i n k:Nat} (h:gK[i]?=some (n,k)):(Pb K)[i]?=some ((i:Int),fun u=>∃ a,u=V.ref a/\KTup K a [V.int (n:Int),V.int (k:Int)]):=by
 have hi:i<21:=(aH.mp h).1
 have:i=0\/i=1\/i=2\/i=3\/i=4\/i=5\/i=6\/i=7\/i=8\/i=9\/i=10\/i=11\/i=12\/i=13\/i=14\/i=15\/i=16\/i=17\/i=18\/i=19\/i=20:=by omega
 rcases this with rfl | rfl | rfl | rfl | rfl | rfl | rfl | rfl | rfl | rfl | rfl | rfl | rfl | rfl | rfl | rfl | rfl | rfl | rfl | rfl | rfl<;>(have e:=aj.inj h;injection e with e1 e2;subst e1 e2;rfl)
theorem Sa (l:List Int) (i j:Nat) (h1:i<=j) (h2:j<=l.length):qe (l.map V.int) (some (i:Int)) (some (j:Int))=((l.drop i).take (j - i)).map V.int:=by
 unfold qe
 rw [HT.EW,HT.EW,U,rg h2,rg (bB h1 h2),List.map_take,List.map_drop]
def CallAt (X:Addr) (H0 H:Hp) (b:Addr) (c:sj):Prop:=∃ (ga:Addr) (xm:List Addr),H b=some (.tup [vN c.no,.ref ga])/\(ga≠X/\H0 ga=none)/\H ga=some (.lst (c.gQ.map V.int++xm.map V.ref))/\Paired (fun r (row:List Int)=>(r≠X/\H0 r=none)/\H r=some (.lst (row.map V.int))) xm c.rows
theorem CallAt.on {X:Addr} {H0 H H':Hp} {b:Addr} {c:sj} (h:CallAt X H0 H b c) (z:∀ b o,H b=some o->b≠X->H' b=some o) (hX:∃ xs,H X=some (.lst xs)):CallAt X H0 H' b c:=by
 obtain ⟨ga,xm,h1,h2,h3,h4⟩:=h
 obtain ⟨xs,hX⟩:=hX
 exact ⟨ga,xm,z _ _ h1 (fun e=>by rw [e,hX] at h1;cases h1),h2,z _ _ h3 h2.1,h4.mono fun r row q=>⟨q.1,z _ _ q.2 q.1.1⟩⟩
section
variable {P:Program} {w:World} {K:ab} {mg:Str->Option Value} {base:Heap} {t:uZ}
def Iy (K:ab):Sp:=fun vs H Q _=>∃ (a:Addr) (l:List Int) (f:Nat) (cs:List (List (List Int))),vs=[.ref a]/\bO K H a (l.map V.int)/\PyFlat.calls PyVbrezy.shape f l=some cs/\cs.length<=400/\
 ∀ (H':Hp) (B:Addr) (ts:List Addr) (Ey:List sj),aM H H'->H B=none->H' B=some (.lst (ts.map V.ref))->Paired (CallAt B H H') ts Ey->cs=Ey.map sj.flat->(∀ c∈Ey,c.ok)->Q (.ref B) H'
theorem Iz (T:Txt K mg t):bY P w K mg base fw 1 t.jM t.l7 ["calls"] (Iy K):=by
 refine T.ir.ok dN (fun vs H Q E h=>?_) (fun eW A outer s H vs Q E hr h=>?_)
 ·obtain ⟨a,l,f,cs,rfl,_⟩:=h
  rfl
 ·obtain ⟨a,l,f,cs,rfl,ha,aaA,Yi,k⟩:=h
  have hu:=xA hr
  refine ⟨_,(ag (gR 1 dN.nd (bw ai))
   (ag (gR 2 dN.nd az)
   (ag (MT PassesOwn.never (bu Je (pv 2) (b8 bT (by rfl) T.f_ boot_len (aa (pv 0) ai)) (bP _))
   (ag (gR 3 dN.nd (bQ bI (pv 0) (pv 2) (fun _ _=>rfl)))
   (ag (gR 4 dN.nd (Lg hu (eX rfl T.RW) (pv 3) (fun _ _=>rfl)))
   (ag (Ai (i:=2) dN.nd rfl (by first | exact Or.inl rfl | exact Or.inr rfl) az Cv)
   (ag (gR 5 dN.nd (r8 vk (pv 0) (rD (pv 2)) (rD (cB oq (pv 2) (bQ fS (pv 4) az (fun _ _=>rfl))))))
   (ag (Ai (i:=2) dN.nd rfl (by first | exact Or.inl rfl | exact Or.inr rfl) (bQ fS (pv 4) az (fun _ _=>rfl)) Cv)
   (ag (gE PassesOwn.never rfl (Cw rfl T.jQ (aa (bQ fS (pv 4) az (fun _ _=>rfl)) ai)) (uY 6 dN.nd)
   (ag (gR 7 dN.nd (bQ bI (pv 0) (pv 2) (fun _ _=>rfl)))
   (ag (cO (gG aB bc bf d8 (pv 5) (aa (r8 vk (pv 0) (rD (cB oq (pv 2) az)) (rD (cB oq (cB oq (pv 2) az) (pv 7)))) ai)))
   (ak (Ai (i:=2) dN.nd rfl (by first | exact Or.inl rfl | exact Or.inr rfl) (cB oq az (pv 7)) Cv)))))
   (ak (cO (gG aB bc bf d8 (pv 1) (aa (r6 (aa (pv 3) (aa (pv 5) ai))) ai)))))))))))
   (ak (aK (pv 1)))))),?_⟩
  try dsimp only [cxK]
  refine ⟨a0 _,fun B hB=>?_⟩
  have s0:=aM.new (o:=.lst []) hB
  refine ⟨fun m σ H'=>∃ (at_ f:Nat) (ts:List Addr) (Ey:List sj) (rest:List (List (List Int))) (v3 v4 v5 v6 v7:Option V),m=l.length - at_/\σ=[some (.ref a),some (.ref B),some (vN at_),v3,v4,v5,v6,v7]/\aM H H'/\H' B=some (.lst (ts.map V.ref))/\Paired (CallAt B H H') ts Ey/\at_<=l.length/\PyFlat.calls PyVbrezy.shape f (l.drop at_)=some rest/\cs=Ey.map sj.flat++rest/\(∀ c∈Ey,c.ok),
   ⟨_,0,f,[],[],cs,none,none,none,none,none,rfl,rfl,s0,ae,.nil,a0 _,aaA,rfl,(fun _ h=>nomatch h)⟩,?_⟩
  rintro m σ H' ⟨at_,f,ts,Ey,rest,v3,v4,v5,v6,v7,rfl,rfl,z,LI,hP,hat,hc,RO,Wa⟩
  refine ⟨_,rfl,_,rfl,a,_,rfl,.inl (z.seq ha),_,_,rfl,rfl,_,rfl,?_⟩
  rw [U]
  by_cases iX:at_<l.length
  ·rw [decide_eq_true (by omega)]
   obtain ⟨c,RN,f',cU,tG,hil,hints,Q6,adw⟩:=SQ hc iX
   have hlp:Ey.length<400:=by
    have:=congrArg iA RO
    rw [ao,U,Q6,aq] at this
    omega
   refine cz ⟨_,fun f7 H' h=>h,?_⟩
   have hg0:(l.map V.int)[at_]?=some (V.int (c.no:Int)):=by rw [ax,tG];rfl
   refine ⟨_,rfl,_,rfl,a,_,_,_,rfl,rfl,z.seq ha,bj hg0,?_⟩
   refine ⟨_,rfl,t.tN,Pb K,c.no,_,_,rfl,T.RX,V_ K cU,rfl,fun v hv=>?_⟩
   obtain ⟨fa,rfl,hfa⟩:=hv
   refine ⟨_,rfl,_,_,rfl,rfl,?_⟩
   refine ⟨_,rfl,_,rfl,_,rfl,_,rfl,_,rfl,fa,_,0,_,rfl,rfl,hfa.sq _,bj (j:=0) rfl,_,_,rfl,rfl,_,rfl,a,_,rfl,z.seq ha,fun G hG=>?_⟩
   have egv:qe (l.map V.int) (some ((at_:Int)+1)) (some ((at_:Int)+1+(c.gQ.length:Int)))=c.gQ.map V.int:=by
    have:=Sa l (at_+1) (at_+1+c.gQ.length) (by omega) (by omega)
    rw [show at_+1+c.gQ.length - (at_+1)=c.gQ.length by omega,<-hints] at this
    exact this
   have hk1:c.rows.length<=1:=by
    have hm:=aT cU
    have:∀ q∈gK,q.2<=1:=by decide
    exact this _ hm
   have hi2:c.gQ.length<=2:=by
    have hm:=aT cU
    have:∀ q∈gK,q.1<=2:=by decide
    exact this _ hm
   have n1:=aM.new (o:=.lst (c.gQ.map V.int)) hG
   have nGB:G≠B:=Ne.symm (aV LI hG)
   have hG1:∀ {o:HO},(upd H' G o) G=some o:=ae
   dsimp only
   rw [egv]
   refine ⟨_,rfl,_,rfl,fa,_,0,_,rfl,rfl,hfa.sq _,bj (j:=0) rfl,_,_,rfl,rfl,?_⟩
   refine ⟨_,rfl,fa,_,1,_,rfl,rfl,hfa.sq _,bj (j:=1) rfl,_,rfl,by omega,by omega,?_⟩
   rcases adw with ⟨hr0,aaB⟩ | ⟨m,hm,Zo,Xr,aaB⟩
   ·refine nj (lo:=0) (n:=c.rows.length) (fun j σ H2=>σ=[some (.ref a),some (.ref B),some (vN (at_+1+c.gQ.length)),some (V.int (c.no:Int)),some (.ref fa),some (.ref G),v6,v7]/\H2=upd H' G (.lst (c.gQ.map V.int))) ⟨rfl,rfl⟩ (fun i σ H2 hi _=>absurd hi (by rw [hr0];simp)) ?_
    rintro σ H2 ⟨rfl,rfl⟩
    obtain ⟨H2,hH2⟩:∃ H2,H2=upd H' G (.lst (c.gQ.map V.int)):=⟨_,rfl⟩
    rw [<- hH2] at n1 ⊢
    have Po:=n1 _ _ LI
    have zz:=z.trans n1
    have XN:Paired (CallAt B H H2) ts Ey:=hP.mono fun b c q=>q.on (fun b o e _=>n1 b o e) ⟨_,LI⟩
    obtain ⟨xm,Pc⟩:∃ xm:List Addr,xm=[]:=⟨_,rfl⟩
    have hG2:H2 G=some (.lst (c.gQ.map V.int++xm.map V.ref)):=by rw [hH2,ae,Pc];simp
    have aaC:Paired (fun r (row:List Int)=>(r≠B/\H r=none)/\H2 r=some (.lst (row.map V.int))) xm c.rows:=by rw [Pc,hr0];exact .nil
    refine ⟨_,rfl,.inl ⟨rfl,_,bO.of Po⟩,_,rfl,_,rfl,szB,fun tp E_=>?_⟩
    have n5:=aM.new (o:=.tup [vN c.no,.ref G]) E_
    refine ⟨B,_,_,rfl,rfl,n5 _ _ Po,by rw [U,hP.length,sizeLine_eq];omega,?_⟩
    have up:∀ b o,H2 b=some o->b≠B->(upd (upd H2 tp (.tup [vN c.no,.ref G])) B (.lst (ts.map V.ref++[V.ref tp]))) b=some o:=fun b o e n=>by rw [aD n];exact n5 _ _ e
    have ntB:tp≠B:=Ne.symm (aV Po E_)
    refine ⟨l.length - (at_+1+c.gQ.length),by omega,at_+1+c.gQ.length,f',ts++[tp],Ey++[c],RN,_,_,_,_,_,rfl,rfl,aM.cZ (zz.trans n5) hB,?_,?_,by omega,aaB,?_,?_⟩
    ·rw [ae,aX];rfl
    ·refine (XN.mono fun b c q=>q.on up ⟨_,Po⟩).snoc ⟨G,xm,?_,⟨nGB,z.free hG⟩,up _ _ hG2 nGB,aaC.mono fun r row q=>⟨q.1,up _ _ q.2 q.1.1⟩⟩
     rw [aD ntB];exact ae
    ·rw [RO,Q6,aX,bX];rfl
    ·intro c2 Li
     rcases bS.mp Li with e | e
     ·exact Wa c2 e
     ·rw [ay.mp e];exact cU
   ·have hrl:c.rows.length=1:=by rw [Xr];rfl
    refine nj (lo:=0) (n:=c.rows.length) (fun j σ H2=>(j=0/\σ=[some (.ref a),some (.ref B),some (vN (at_+1+c.gQ.length)),some (V.int (c.no:Int)),some (.ref fa),some (.ref G),v6,v7]/\H2=upd H' G (.lst (c.gQ.map V.int)))\/
      (j=1/\∃ (v6 v7:Option V) (R:Addr),σ=[some (.ref a),some (.ref B),some (vN (at_+1+c.gQ.length+1+m)),some (V.int (c.no:Int)),some (.ref fa),some (.ref G),v6,v7]/\aM H' H2/\H2 G=some (.lst (c.gQ.map V.int++[V.ref R]))/\(R≠B/\H R=none)/\H2 R=some (.lst (((l.drop (at_+1+c.gQ.length+1)).take m).map V.int))))
     (.inl ⟨rfl,rfl,rfl⟩) ?_ ?_
    ·rintro i σ H2 hi EE (⟨rfl,rfl,rfl⟩ | ⟨rfl,_⟩)
     ·have YR:(l.map V.int)[at_+1+c.gQ.length]?=some (V.int (m:Int)):=by rw [ax,hm];rfl
      refine ⟨_,rfl,_,rfl,a,_,_,_,rfl,rfl,n1.seq (z.seq ha),bj YR,?_⟩
      refine ⟨_,rfl,.inl ⟨rfl,_,bO.of ae⟩,_,rfl,_,rfl,_,_,rfl,rfl,_,rfl,_,rfl,_,_,rfl,rfl,_,rfl,_,_,rfl,rfl,_,rfl,a,_,rfl,n1.seq (z.seq ha),fun R hR=>?_⟩
      have erw:qe (l.map V.int) (some (((at_+1+c.gQ.length:Nat):Int)+1)) (some (((at_+1+c.gQ.length:Nat):Int)+1+(m:Int)))=((l.drop (at_+1+c.gQ.length+1)).take m).map V.int:=by
       have:=Sa l (at_+1+c.gQ.length+1) (at_+1+c.gQ.length+1+m) (by omega) (by omega)
       rw [show at_+1+c.gQ.length+1+m - (at_+1+c.gQ.length+1)=m by omega] at this
       exact this
      dsimp only
      rw [erw]
      have n2:=aM.new (o:=.lst (((l.drop (at_+1+c.gQ.length+1)).take m).map V.int)) hR
      have nRG:R≠G:=Ne.symm (aV ae hR)
      have nRB:R≠B:=Ne.symm (aV (n1 _ _ LI) hR)
      refine ⟨G,_,_,rfl,rfl,n2 _ _ ae,by rw [U,sizeLine_eq];omega,?_⟩
      refine ⟨_,rfl,_,rfl,_,_,rfl,rfl,_,_,rfl,rfl,.inr ⟨rfl,some (V.int (0+((0:Nat):Int))),some (V.int (m:Int)),R,?_,?_,ae,⟨nRB,z.free (n1.free hR)⟩,?_⟩⟩
      ·have ei:((at_+1+c.gQ.length:Nat):Int)+(1+(m:Int))=((at_+1+c.gQ.length+1+m:Nat):Int):=by omega
       show [_,_,some (V.int (((at_+1+c.gQ.length:Nat):Int)+(1+(m:Int)))),_,_,_,_,_]=_
       rw [ei]<;>rfl
      ·exact aM.cZ (n1.trans n2) hG
      ·rw [aD nRG];exact ae
     ·omega
    ·rintro σ H2 (⟨e,_⟩ | ⟨_,v6,v7,R,rfl,n3,hG3,nRB,hR3⟩)
     ·rw [hrl] at e;cases e
     ·have Po:=n3 _ _ LI
      have zz:=z.trans n3
      have XN:Paired (CallAt B H H2) ts Ey:=hP.mono fun b c q=>q.on (fun b o e _=>n3 b o e) ⟨_,LI⟩
      obtain ⟨xm,Pc⟩:∃ xm:List Addr,xm=[R]:=⟨_,rfl⟩
      have hG2:H2 G=some (.lst (c.gQ.map V.int++xm.map V.ref)):=by rw [hG3,Pc];rfl
      have aaC:Paired (fun r (row:List Int)=>(r≠B/\H r=none)/\H2 r=some (.lst (row.map V.int))) xm c.rows:=by rw [Pc,Xr];exact .cons ⟨nRB,hR3⟩ .nil
      refine ⟨_,rfl,.inl ⟨rfl,_,bO.of Po⟩,_,rfl,_,rfl,szB,fun tp E_=>?_⟩
      have n5:=aM.new (o:=.tup [vN c.no,.ref G]) E_
      refine ⟨B,_,_,rfl,rfl,n5 _ _ Po,by rw [U,hP.length,sizeLine_eq];omega,?_⟩
      have up:∀ b o,H2 b=some o->b≠B->(upd (upd H2 tp (.tup [vN c.no,.ref G])) B (.lst (ts.map V.ref++[V.ref tp]))) b=some o:=fun b o e n=>by rw [aD n];exact n5 _ _ e
      have ntB:tp≠B:=Ne.symm (aV Po E_)
      refine ⟨l.length - (at_+1+c.gQ.length+1+m),by omega,at_+1+c.gQ.length+1+m,f',ts++[tp],Ey++[c],RN,_,_,_,_,_,rfl,rfl,aM.cZ (zz.trans n5) hB,?_,?_,by omega,aaB,?_,?_⟩
      ·rw [ae,aX];rfl
      ·refine (XN.mono fun b c q=>q.on up ⟨_,Po⟩).snoc ⟨G,xm,?_,⟨nGB,z.free hG⟩,up _ _ hG2 nGB,aaC.mono fun r row q=>⟨q.1,up _ _ q.2 q.1.1⟩⟩
       rw [aD ntB];exact ae
      ·rw [RO,Q6,aX,bX];rfl
      ·intro c2 Li
       rcases bS.mp Li with e | e
       ·exact Wa c2 e
       ·rw [ay.mp e];exact cU
  ·rw [decide_eq_false (by omega)]
   have e:l.drop at_=[]:=oP (by omega)
   rw [e] at hc
   have hr0:=SN hc
   rw [hr0,cb] at RO
   exact cC ⟨_,rfl,k H' B ts Ey z hB LI hP RO Wa⟩
end
theorem call_of (c:sj) (cU:c.ok) (Co:VbrezyNeutral.asked1 (PyVbrezy.whole c.flat)=true):∃ d:jE,VbrezyNeutral.callOf (PyVbrezy.whole c.flat)=some d/\TC d=c.no/\(∀ X H0 H H' b,CallAt X H0 H b c->(∀ x xs,H0 x=none->H x=some (.lst xs)->H' x=some (.lst xs))->∃ ga,H b=some (.tup [vN c.no,.ref ga])/\zH H' ga d)/\(∀ l,d=.load l->∀ z∈l,0<=z):=by
 obtain ⟨no,iz,rz⟩:=c
 have tG:no<21:=(aH.mp (show gK[no]?=some (iz.length,rz.length) from cU)).1
 have:no=0\/no=1\/no=2\/no=3\/no=4\/no=5\/no=6\/no=7\/no=8\/no=9\/no=10\/no=11\/no=12\/no=13\/no=14\/no=15\/no=16\/no=17\/no=18\/no=19\/no=20:=by omega
 have h0:∀ {α:Type} {l:List α},0=l.length->l=[]:=fun h=>fR.mp h.symm
 have h1:∀ {α:Type} {l:List α},1=l.length->∃ x,l=[x]:=fun {α l} h=>by
  match l,h with
  | [x],_=>exact ⟨x,rfl⟩
 have h2:∀ {α:Type} {l:List α},2=l.length->∃ x y,l=[x,y]:=fun {α l} h=>by
  match l,h with
  | [x,y],_=>exact ⟨x,y,rfl⟩
 rcases this with rfl | rfl | rfl | rfl | rfl | rfl | rfl | rfl | rfl | rfl | rfl | rfl | rfl | rfl | rfl | rfl | rfl | rfl | rfl | rfl | rfl
 ·have e:=aj.inj (show gK[0]?=some (iz.length,rz.length) from cU)
  injection e with e1 e2
  obtain rfl:=h0 e1
  obtain ⟨r,rfl⟩:=h1 e2
  refine ⟨_,rfl,rfl,fun X H0 H H9 b hc kp=>?_,?_⟩
  ·obtain ⟨ga,xm,g1,g2,g3,g4⟩:=hc
   cases g4 with
   | cons q g4=>
    cases g4
    exact ⟨ga,g1,_,kp _ _ g2.2 g3,kp _ _ q.1.2 q.2⟩
  ·intro l hl z hz
   cases hl
   have ha:(r.all (fun (z:Int)=>VbrezyNeutral.natural z 8)&&decide (r.length<=10000))=true:=Co
   rw [aG] at ha
   have hn:=bA.mp ha.1 z hz
   unfold VbrezyNeutral.natural at hn
   rw [aG,decide_eq_true_iff] at hn
   exact hn.1
 ·have e:=aj.inj (show gK[1]?=some (iz.length,rz.length) from cU)
  injection e with e1 e2
  obtain rfl:=h0 e1
  obtain rfl:=h0 e2
  refine ⟨_,rfl,rfl,fun X H0 H H9 b hc kp=>?_,?_⟩
  ·obtain ⟨ga,xm,g1,g2,g3,g4⟩:=hc
   cases g4
   exact ⟨ga,g1,⟨_,kp _ _ g2.2 g3⟩⟩
  ·intro l hl;cases hl
 ·have e:=aj.inj (show gK[2]?=some (iz.length,rz.length) from cU)
  injection e with e1 e2
  obtain rfl:=h0 e1
  obtain rfl:=h0 e2
  refine ⟨_,rfl,rfl,fun X H0 H H9 b hc kp=>?_,?_⟩
  ·obtain ⟨ga,xm,g1,g2,g3,g4⟩:=hc
   cases g4
   exact ⟨ga,g1,⟨_,kp _ _ g2.2 g3⟩⟩
  ·intro l hl;cases hl
 ·have e:=aj.inj (show gK[3]?=some (iz.length,rz.length) from cU)
  injection e with e1 e2
  obtain rfl:=h0 e1
  obtain rfl:=h0 e2
  refine ⟨_,rfl,rfl,fun X H0 H H9 b hc kp=>?_,?_⟩
  ·obtain ⟨ga,xm,g1,g2,g3,g4⟩:=hc
   cases g4
   exact ⟨ga,g1,⟨_,kp _ _ g2.2 g3⟩⟩
  ·intro l hl;cases hl
 ·have e:=aj.inj (show gK[4]?=some (iz.length,rz.length) from cU)
  injection e with e1 e2
  obtain rfl:=h0 e1
  obtain rfl:=h0 e2
  refine ⟨_,rfl,rfl,fun X H0 H H9 b hc kp=>?_,?_⟩
  ·obtain ⟨ga,xm,g1,g2,g3,g4⟩:=hc
   cases g4
   exact ⟨ga,g1,⟨_,kp _ _ g2.2 g3⟩⟩
  ·intro l hl;cases hl
 ·have e:=aj.inj (show gK[5]?=some (iz.length,rz.length) from cU)
  injection e with e1 e2
  obtain rfl:=h0 e1
  obtain ⟨r,rfl⟩:=h1 e2
  refine ⟨_,rfl,rfl,fun X H0 H H9 b hc kp=>?_,?_⟩
  ·obtain ⟨ga,xm,g1,g2,g3,g4⟩:=hc
   cases g4 with
   | cons q g4=>
    cases g4
    exact ⟨ga,g1,_,kp _ _ g2.2 g3,kp _ _ q.1.2 q.2⟩
  ·intro l hl;cases hl
 ·have e:=aj.inj (show gK[6]?=some (iz.length,rz.length) from cU)
  injection e with e1 e2
  obtain ⟨x,rfl⟩:=h1 e1
  obtain rfl:=h0 e2
  refine ⟨_,rfl,rfl,fun X H0 H H9 b hc kp=>?_,?_⟩
  ·obtain ⟨ga,xm,g1,g2,g3,g4⟩:=hc
   cases g4
   exact ⟨ga,g1,kp _ _ g2.2 g3⟩
  ·intro l hl;cases hl
 ·have e:=aj.inj (show gK[7]?=some (iz.length,rz.length) from cU)
  injection e with e1 e2
  obtain ⟨x,rfl⟩:=h1 e1
  obtain rfl:=h0 e2
  refine ⟨_,rfl,rfl,fun X H0 H H9 b hc kp=>?_,?_⟩
  ·obtain ⟨ga,xm,g1,g2,g3,g4⟩:=hc
   cases g4
   exact ⟨ga,g1,kp _ _ g2.2 g3⟩
  ·intro l hl;cases hl
 ·have e:=aj.inj (show gK[8]?=some (iz.length,rz.length) from cU)
  injection e with e1 e2
  obtain rfl:=h0 e1
  obtain rfl:=h0 e2
  refine ⟨_,rfl,rfl,fun X H0 H H9 b hc kp=>?_,?_⟩
  ·obtain ⟨ga,xm,g1,g2,g3,g4⟩:=hc
   cases g4
   exact ⟨ga,g1,⟨_,kp _ _ g2.2 g3⟩⟩
  ·intro l hl;cases hl
 ·have e:=aj.inj (show gK[9]?=some (iz.length,rz.length) from cU)
  injection e with e1 e2
  obtain ⟨x,rfl⟩:=h1 e1
  obtain rfl:=h0 e2
  refine ⟨_,rfl,rfl,fun X H0 H H9 b hc kp=>?_,?_⟩
  ·obtain ⟨ga,xm,g1,g2,g3,g4⟩:=hc
   cases g4
   exact ⟨ga,g1,kp _ _ g2.2 g3⟩
  ·intro l hl;cases hl
 ·have e:=aj.inj (show gK[10]?=some (iz.length,rz.length) from cU)
  injection e with e1 e2
  obtain rfl:=h0 e1
  obtain rfl:=h0 e2
  refine ⟨_,rfl,rfl,fun X H0 H H9 b hc kp=>?_,?_⟩
  ·obtain ⟨ga,xm,g1,g2,g3,g4⟩:=hc
   cases g4
   exact ⟨ga,g1,⟨_,kp _ _ g2.2 g3⟩⟩
  ·intro l hl;cases hl
 ·have e:=aj.inj (show gK[11]?=some (iz.length,rz.length) from cU)
  injection e with e1 e2
  obtain ⟨x,rfl⟩:=h1 e1
  obtain rfl:=h0 e2
  refine ⟨_,rfl,rfl,fun X H0 H H9 b hc kp=>?_,?_⟩
  ·obtain ⟨ga,xm,g1,g2,g3,g4⟩:=hc
   cases g4
   exact ⟨ga,g1,kp _ _ g2.2 g3⟩
  ·intro l hl;cases hl
 ·have e:=aj.inj (show gK[12]?=some (iz.length,rz.length) from cU)
  injection e with e1 e2
  obtain ⟨x,rfl⟩:=h1 e1
  obtain rfl:=h0 e2
  refine ⟨_,rfl,rfl,fun X H0 H H9 b hc kp=>?_,?_⟩
  ·obtain ⟨ga,xm,g1,g2,g3,g4⟩:=hc
   cases g4
   exact ⟨ga,g1,kp _ _ g2.2 g3⟩
  ·intro l hl;cases hl
 ·have e:=aj.inj (show gK[13]?=some (iz.length,rz.length) from cU)
  injection e with e1 e2
  obtain ⟨x,rfl⟩:=h1 e1
  obtain rfl:=h0 e2
  refine ⟨_,rfl,rfl,fun X H0 H H9 b hc kp=>?_,?_⟩
  ·obtain ⟨ga,xm,g1,g2,g3,g4⟩:=hc
   cases g4
   exact ⟨ga,g1,kp _ _ g2.2 g3⟩
  ·intro l hl;cases hl
 ·have e:=aj.inj (show gK[14]?=some (iz.length,rz.length) from cU)
  injection e with e1 e2
  obtain ⟨x,rfl⟩:=h1 e1
  obtain rfl:=h0 e2
  refine ⟨_,rfl,rfl,fun X H0 H H9 b hc kp=>?_,?_⟩
  ·obtain ⟨ga,xm,g1,g2,g3,g4⟩:=hc
   cases g4
   exact ⟨ga,g1,kp _ _ g2.2 g3⟩
  ·intro l hl;cases hl
 ·have e:=aj.inj (show gK[15]?=some (iz.length,rz.length) from cU)
  injection e with e1 e2
  obtain ⟨x,y,rfl⟩:=h2 e1
  obtain ⟨r,rfl⟩:=h1 e2
  refine ⟨_,rfl,rfl,fun X H0 H H9 b hc kp=>?_,?_⟩
  ·obtain ⟨ga,xm,g1,g2,g3,g4⟩:=hc
   cases g4 with
   | cons q g4=>
    cases g4
    exact ⟨ga,g1,_,kp _ _ g2.2 g3,kp _ _ q.1.2 q.2⟩
  ·intro l hl;cases hl
 ·have e:=aj.inj (show gK[16]?=some (iz.length,rz.length) from cU)
  injection e with e1 e2
  obtain rfl:=h0 e1
  obtain rfl:=h0 e2
  refine ⟨_,rfl,rfl,fun X H0 H H9 b hc kp=>?_,?_⟩
  ·obtain ⟨ga,xm,g1,g2,g3,g4⟩:=hc
   cases g4
   exact ⟨ga,g1,⟨_,kp _ _ g2.2 g3⟩⟩
  ·intro l hl;cases hl
 ·have e:=aj.inj (show gK[17]?=some (iz.length,rz.length) from cU)
  injection e with e1 e2
  obtain ⟨x,y,rfl⟩:=h2 e1
  obtain rfl:=h0 e2
  refine ⟨_,rfl,rfl,fun X H0 H H9 b hc kp=>?_,?_⟩
  ·obtain ⟨ga,xm,g1,g2,g3,g4⟩:=hc
   cases g4
   exact ⟨ga,g1,kp _ _ g2.2 g3⟩
  ·intro l hl;cases hl
 ·have e:=aj.inj (show gK[18]?=some (iz.length,rz.length) from cU)
  injection e with e1 e2
  obtain ⟨x,y,rfl⟩:=h2 e1
  obtain rfl:=h0 e2
  refine ⟨_,rfl,rfl,fun X H0 H H9 b hc kp=>?_,?_⟩
  ·obtain ⟨ga,xm,g1,g2,g3,g4⟩:=hc
   cases g4
   exact ⟨ga,g1,kp _ _ g2.2 g3⟩
  ·intro l hl;cases hl
 ·have e:=aj.inj (show gK[19]?=some (iz.length,rz.length) from cU)
  injection e with e1 e2
  obtain rfl:=h0 e1
  obtain ⟨r,rfl⟩:=h1 e2
  refine ⟨_,rfl,rfl,fun X H0 H H9 b hc kp=>?_,?_⟩
  ·obtain ⟨ga,xm,g1,g2,g3,g4⟩:=hc
   cases g4 with
   | cons q g4=>
    cases g4
    exact ⟨ga,g1,_,kp _ _ g2.2 g3,kp _ _ q.1.2 q.2⟩
  ·intro l hl;cases hl
 ·have e:=aj.inj (show gK[20]?=some (iz.length,rz.length) from cU)
  injection e with e1 e2
  obtain ⟨x,y,rfl⟩:=h2 e1
  obtain rfl:=h0 e2
  refine ⟨_,rfl,rfl,fun X H0 H H9 b hc kp=>?_,?_⟩
  ·obtain ⟨ga,xm,g1,g2,g3,g4⟩:=hc
   cases g4
   exact ⟨ga,g1,kp _ _ g2.2 g3⟩
  ·intro l hl;cases hl
theorem TabOk.rL {H:Hp} {Pt B:Addr} {q:Str} {ps:Pos} {o:HO} (h:TabOk H Pt q ps) (hB:∀ u,H B=some u->sN u):TabOk (upd H B o) Pt q ps:=by
 have n:∀ {b u},H b=some u->¬ sN u->b≠B:=fun {b u} e so z=>by subst z;exact so (hB _ e)
 rcases h with h | ⟨c,h1,h2⟩
 ·exact .inl (by rw [aD (n h id)];exact h)
 ·exact .inr ⟨c,by rw [aD (n h1 id)];exact h1,by rw [aD (n h2 id)];exact h2⟩
theorem mC.rL {C:Addr} {H:Hp} {g pd pl B:Addr} {x:Raw} {od:Obj} {u o:HO} (h:mC C H g pd pl x) (hB:H B=some (.oW od u)):mC C (upd H B o) g pd pl x:=by
 obtain ⟨dx,pa,oa,h1,h2,h3,h4,⟨ts,h5,h6⟩,h7,h8⟩:=h
 have k:∀ {b v},H b=some v->(∀ a c,v≠.oW a c)->(upd H B o) b=some v:=fun {b v} e n=>by rw [aD (dX e hB (n _ _))];exact e
 exact ⟨dx,pa,oa,k h1 (fun _ _ z=>nomatch z),k h2 (fun _ _ z=>nomatch z),k h3 (fun _ _ z=>nomatch z),k h4 (fun _ _ z=>nomatch z),⟨ts,k h5 (fun _ _ z=>nomatch z),h6.mono fun b q ⟨o2,z1,z2,z3⟩=>⟨o2,z1,k z2 (fun _ _ z=>nomatch z),k z3 (fun _ _ z=>nomatch z)⟩⟩,h7,h8⟩
theorem G_.rL {p:Pl} {CD:Addr} {H:Hp} {de B:Addr} {st:gd} {own:List Addr} {od:Obj} {u o:HO} (h:G_ p CD H de st own) (hB:H B=some (.oW od u)):G_ p CD (upd H B o) de st own:=by
 have k:∀ {b v},H b=some v->(∀ a c,v≠.oW a c)->(upd H B o) b=some v:=fun {b v} e n=>by rw [aD (dX e hB (n _ _))];exact e
 have so:∀ v,H B=some v->sN v:=fun v e=>by rw [hB] at e;cases e;trivial
 obtain ⟨⟨t1,t2⟩,h⟩:=h
 refine ⟨⟨t1.rL so,t2.rL so⟩,?_⟩
 rcases h with ⟨h1,h2,dx,h3⟩ | ⟨s,past,g,pd,pl,dx,h1,h2,h3,h4,h5⟩
 ·exact .inl ⟨h1,h2,dx,k h3 (fun _ _ z=>nomatch z)⟩
 ·exact .inr ⟨s,past,g,pd,pl,dx,h1,h2,k h3 (fun _ _ z=>nomatch z),h4.rL hB,h5⟩
theorem TJ {H:Hp} {B ga:Addr} {o1 o2:Obj} {u1 u2:HO} {d:jE} (h:zH (upd H B (.oW o1 u1)) ga d):zH (upd H B (.oW o2 u2)) ga d:=by
 have k:∀ {b:Addr} {xs:List V},(upd H B (.oW o1 u1)) b=some (.lst xs)->(upd H B (.oW o2 u2)) b=some (.lst xs):=fun {b xs} e=>by
  by_cases hb:b=B
  ·rw [hb,ae] at e;cases e
  ·rw [aD hb] at e ⊢;exact e
 cases d<;>first
  | exact k h
  | (obtain ⟨ra,h1,h2⟩:=h;exact ⟨ra,k h1,k h2⟩)
  | (obtain ⟨xs,h1⟩:=h;exact ⟨xs,k h1⟩)
def v8 (Ey:List sj):List (List (List Int)):=Ey.map fun c=>PyVbrezy.whole c.flat
section
variable {P:Program} {w:World} {K:ab} {mg:Str->Option Value} {base:Heap} {t:uZ}
def Q7 (p:Pl):Sp:=fun vs H Q _=>∃ (a:Addr) (l:List Int),vs=[.ref a]/\bO p.K H a (l.map V.int)/\PyVbrezy.answers_asked l=true/\mz p H/\∀ (H':Hp) (b:Addr),H' b=some (.lst ((PyVbrezy.answers l).map V.int))->Q (.ref b) H'
theorem Q8 (T:Txt K mg t) {c1 P1 c2 P2:Addr} (L:tE K t c1 P1 c2 P2) (hB0:BMain base mg):bY P w K mg base fw 71 t.kh t.nW ["calls"] (Q7 ⟨P,w,K,t.aF,t.a5,P1,P2⟩):=by
 have Wb:=TH (P:=P) (w:=w) T L hB0
 refine T.pH.ok pL (fun vs H Q E h=>?_) (fun eW A outer s H vs Q E hr h=>?_)
 ·obtain ⟨a,l,rfl,_⟩:=h
  rfl
 ·obtain ⟨a,l,rfl,ha,Co,ht,k⟩:=h
  refine ⟨_,(ag (gR 1 pL.nd (MX T.Ve (Du T) (hr.mono (by omega)) rfl T.RR (EL T) .nil bp))
   (ag (gR 2 pL.nd (bw ai))
   (ag (gE PassesOwn.never rfl (fv (aN (Iz T) (hr.mono (by omega)) rfl T.BS T.ir.kp (Le T) .nil bp (aa (pv 0) ai))) (Kv (K:=K) 2 rfl (uP (uY 3 pL.nd) (uP (uY 4 pL.nd) J7)))
   (ag (Kg (gR 5 pL.nd (aN Wb (hr.mono (by omega)) rfl T.NS T.qi.kp (Vi T) .nil bp (aa (pv 1) (aa (pv 3) (aa (pv 4) ai))))))
   (ag (cO (gG aB bc bf d8 (pv 2) (aa (b8 bT (by rfl) T.f_ boot_len (aa (pv 5) ai)) ai)))
   (ak (cO (gG aB iV iW CC (pv 2) (aa (pv 5) ai)))))))
   (ak (aK (pv 2)))))),?_⟩
  try dsimp only [cxK]
  obtain ⟨cs,RO,Yi,rE,ady⟩:∃ cs,PyFlat.calls PyVbrezy.shape l.length l=some cs/\cs.length<=400/\(∀ c∈cs,VbrezyNeutral.asked1 (PyVbrezy.whole c)=true)/\PyVbrezy.answers l=PyFlat.told (PyFlat.played VbrezyNeutral.step VbrezyNeutral.start (cs.map PyVbrezy.whole)):=by
   unfold PyVbrezy.answers_asked PyVbrezy.calls at Co
   unfold PyVbrezy.answers PyVbrezy.calls
   cases hc:PyFlat.calls PyVbrezy.shape l.length l with
   | none=>rw [hc] at Co;cases Co
   | some cs=>
    rw [hc] at Co
    have Co:(PyFlat.atMost 400 (cs.map PyVbrezy.whole)&&VbrezyNeutral.asked (cs.map PyVbrezy.whole))=true:=Co
    unfold PyFlat.atMost VbrezyNeutral.asked at Co
    rw [aG,aG,decide_eq_true_iff,U] at Co
    refine ⟨cs,rfl,Co.1,fun c SE=>?_,rfl⟩
    exact bA.mp Co.2.1 _ (aO.mpr ⟨c,SE,rfl⟩)
  refine fun de dx Iw VX ne=>⟨de,dx,rfl,ae,rfl,?_⟩
  rw [om]
  have s1:aM H (upd (upd H dx (.own de)) de (.ins t.fJ dx (df .jU))):=fun b o e=>by rw [aD (aV e Iw),aD (aV e VX)];exact e
  refine ⟨a0 _,fun B hB=>?_⟩
  have s2:=aM.new (o:=.lst []) hB
  have hdB:de≠B:=aV ae hB
  refine ⟨_,rfl,a,l,l.length,cs,rfl,(s1.trans s2).seq ha,RO,Yi,fun H1 R ts Ey s3 hR0 hR hP aaD Wa=>⟨R,rfl,⟨_,bO.of hR⟩,?_⟩⟩
  have Th:=s3 _ _ ae
  have Yj:H1 de=some (.ins t.fJ dx (df .jU)):=s3 _ _ (s2 _ _ ae)
  have ht1:mz ⟨P,w,K,t.aF,t.a5,P1,P2⟩ H1:=ht.on ((s1.trans s2).trans s3)
  have hlen:=hP.length
  have nRB:R≠B:=fun e=>by rw [e,ae] at hR0;cases hR0
  have hwc:cs.map PyVbrezy.whole=v8 Ey:=by rw [aaD,a9];rfl
  rw [hwc] at ady
  have EX:Ey.length<=400:=by rw [aaD,U] at Yi;exact Yi
  refine oo (K:=K) (a:=R) (xs:=ts.map V.ref) (fun i σ H'=>∃ (v3 v4 v5:Option V) (st:gd) (own:List Addr) (told:List Int) (od:Obj) (u:HO),σ=[some (.ref a),some (.ref de),some (.ref B),v3,v4,v5]/\(∀ b o,H1 b=some o->sN o->b≠de->b≠B->H' b=some o)/\(∀ b∈own,∀ o,H1 b=some o->¬ sN o)/\
    G_ ⟨P,w,K,t.aF,t.a5,P1,P2⟩ t.fJ (upd H' B (.oW od u)) de st own/\H' B=some (.lst (told.map V.int))/\told.length<=i*6001/\PyVbrezy.answers l=told++PyFlat.told (PyFlat.played VbrezyNeutral.step st ((v8 Ey).drop i)))
   ⟨none,none,none,⟨none,[]⟩,[],[],default,.lst [],rfl,fun b o e _ _ _=>e,(fun _ h=>nomatch h),⟨⟨ht1.t1.rL (fun v e=>by rw [Th] at e;cases e;trivial),ht1.t2.rL (fun v e=>by rw [Th] at e;cases e;trivial)⟩,.inl ⟨rfl,rfl,dx,by rw [aD hdB];exact Yj⟩⟩,Th,a0 _,ady⟩
   (fun i σ H' _ ⟨_,_,_,_,_,_,_,_,_,kp,_⟩=>bO.of (kp _ _ hR trivial (fun e=>by rw [e,Yj] at hR;cases hR) nRB)) ?_ ?_
  ·rintro i x σ H' hi EE ⟨v3,v4,v5,st,own,told,od,u,rfl,kp,Nl,Pj,LI,XZ,Sb⟩
   rw [ax] at hi
   obtain ⟨tb,htb,rfl⟩:=aZ.mp hi
   obtain ⟨c,hc,Yc⟩:=fk hP htb
   have SE:=aT hc
   have hil:i<Ey.length:=(aH.mp hc).1
   obtain ⟨d,hd1,hd2,hd3,hd4⟩:=call_of c (Wa c SE) (rE _ (by rw [aaD];exact aO.mpr ⟨c,SE,rfl⟩))
   have hwd:(v8 Ey).drop i=PyVbrezy.whole c.flat::(v8 Ey).drop (i+1):=by
    have hw:(v8 Ey)[i]?=some (PyVbrezy.whole c.flat):=by unfold v8;rw [ax,hc];rfl
    obtain ⟨iX,e⟩:=aH.mp hw
    rw [cw iX,e]
   obtain ⟨ga,Wc,yF⟩:=hd3 R _ H1 (upd H' B (.oW default (.lst (told.map V.int)))) tb Yc (fun y xs hy0 hy=>by
    have nyB:y≠B:=fun e=>by rw [e,ae] at hy0;cases hy0
    have nyd:y≠de:=fun e=>by rw [e,Yj] at hy;cases hy
    rw [aD nyB];exact kp _ _ hy trivial nyd nyB)
   have aha:H' tb=some (.tup [vN c.no,.ref ga]):=kp _ _ Wc trivial (fun e=>by rw [e,Yj] at Wc;cases Wc) (fun e=>by rw [e,Th] at Wc;cases Wc)
   refine ⟨tb,_,rfl,oX.of aha,rfl,_,_,rfl,_,_,rfl,rfl,?_⟩
   refine ⟨B,_,LI,trivial,fun od2=>?_⟩
   have ahc:zH (upd H' B (.oW od2 (.lst (told.map V.int)))) ga d:=TJ yF
   have ZW:G_ ⟨P,w,K,t.aF,t.a5,P1,P2⟩ t.fJ (upd H' B (.oW od2 (.lst (told.map V.int)))) de st own:=by
    have:=Pj.rL (o:=.oW od2 (.lst (told.map V.int))) ae
    rwa [om] at this
   have nBo:B∉de::own:=fun m=>by
    rcases aw.mp m with e | e
    ·exact hdB e.symm
    ·exact Nl B e _ Th trivial
   refine ⟨_,rfl,_,rfl,_,rfl,de,ga,st,own,d,by rw [hd2];rfl,ZW,ahc,hd4,fun H2 na Cs Ye Bp e Vr fr adz hna hal=>?_⟩
   have Po:=fr _ _ ae trivial nBo
   refine ⟨Po,?_⟩
   have naB:na≠B:=fun e=>by rw [e,Po] at hna;cases hna
   have adA:∀ {o:HO},(upd H2 B o) na=some (.lst (Bp.map V.int)):=fun {o}=>by rw [aD naB];exact hna
   refine ⟨_,rfl,.inl ⟨rfl,_,bO.of ae⟩,_,rfl,na,_,rfl,.inl (bO.of adA),B,_,_,rfl,rfl,ae,?_,?_⟩
   ·rw [U,sizeLine_eq]
    have:i*6001<=400*6001:=fO _ (by omega)
    omega
   rw [om]
   refine ⟨_,rfl,.inl ⟨rfl,_,bO.of ae⟩,_,rfl,B,na,_,_,rfl,rfl,ae,adA,?_,?_⟩
   ·rw [ao,U,U,cP,sizeLine_eq]
    have:i*6001<=400*6001:=fO _ (by omega)
    omega
   rw [om]
   have adB:VbrezyNeutral.step st (PyVbrezy.whole c.flat)=(Cs,Bp):=by
    unfold VbrezyNeutral.step
    rw [hd1];exact e
   refine ⟨_,_,_,Cs,Ye,told++((Bp.length:Int)::Bp),default,.lst [],rfl,fun b o eb so nd nB=>?_,fun b hb=>?_,?_,?_,?_,?_⟩
   ·rw [aD nB]
    refine fr _ _ (by rw [aD nB];exact kp b o eb so nd nB) so fun m=>?_
    rcases aw.mp m with e | e
    ·exact nd e
    ·exact Nl b e o eb so
   ·intro o eo so
    rcases adz b hb with q | q
    ·exact Nl b q o eo so
    ·by_cases nB:b=B
     ·rw [nB,ae] at q;cases q
     ·rw [aD nB] at q
      by_cases nd:b=de
      ·have hx:∃ o,H' de=some o:=by
        rcases Pj.2 with ⟨_,_,d,h⟩ | ⟨_,_,_,_,_,d,_,_,h,_⟩
        ·rw [aD hdB] at h;exact ⟨_,h⟩
        ·rw [aD hdB] at h;exact ⟨_,h⟩
       obtain ⟨o2,ho2⟩:=hx
       rw [nd,ho2] at q;cases q
      ·rw [kp b o eo so nd nB] at q;cases q
   ·rw [om]
    exact Vr.rL Po
   ·rw [ae,aX,bX]
    congr 3
    rw [aC,U];rfl
   ·rw [ao,aq,oU];omega
   ·rw [Sb,hwd]
    show told++PyFlat.told ((VbrezyNeutral.step st (PyVbrezy.whole c.flat)).2::PyFlat.played VbrezyNeutral.step (VbrezyNeutral.step st (PyVbrezy.whole c.flat)).1 ((v8 Ey).drop (i+1)))=_
    rw [adB,bX]
    rfl
  ·rintro σ H' ⟨v3,v4,v5,st,own,told,od,u,rfl,kp,Nl,Pj,LI,XZ,Sb⟩
   have e:(v8 Ey).drop (ts.map V.ref).length=[]:=oP (by unfold v8;rw [U,U,hlen];exact au _)
   rw [e] at Sb
   have e2:PyVbrezy.answers l=told:=by rw [Sb];show told++[]=told;simp
   rw [<- e2] at LI
   exact ⟨_,rfl,k H' B LI⟩
end
end TS
namespace L2
open PySem PySem.Spec PyProof.Rows PySem.W
def Cp (H:Hp) (P1 P2:Addr):Hp:=fun b=>if b=P1\/b=P2 then some (.zo #[]) else H b
theorem Wd {H:Hp} {P1 P2:Addr}:Cp H P1 P2 P1=some (.zo #[]):=if_pos (.inl rfl)
theorem We {H:Hp} {P1 P2:Addr}:Cp H P1 P2 P2=some (.zo #[]):=if_pos (.inr rfl)
theorem L7 {H:Hp} {P1 P2 b:Addr} (h1:b≠P1) (h2:b≠P2):Cp H P1 P2 b=H b:=if_neg (fun h=>h.elim h1 h2)
theorem L8 {H:Hp} {P1 P2 b:Addr} {u:HO} (e:Cp H P1 P2 b=some u):(b=P1/\u=.zo #[])\/(b=P2/\u=.zo #[])\/(b≠P1/\b≠P2/\H b=some u):=by
 by_cases h1:b=P1
 ·subst h1;rw [Wd] at e;exact .inl ⟨rfl,(aj.inj e).symm⟩
 ·by_cases h2:b=P2
  ·subst h2;rw [We] at e;exact .inr (.inl ⟨rfl,(aj.inj e).symm⟩)
  ·rw [L7 h1 h2] at e;exact .inr (.inr ⟨h1,h2,e⟩)
theorem Q9 {P:Program} {w:World} {K:ab} {mg mb:Str->Option Value} {k:Nat} {fa:Addr} {fd:FuncData} {ps:List Str} {sp:Sp} {cY:Shared} {vals:List Value} {ds:List WData} {R:PySem.W.WRecords} {cl:Str->Option Addr} {d0:WData} {c1 P1 c2 P2:Addr}
  (KX:K.In cY.heap) (hns:cY.heap.Ns mainGlobals mg) (hb:cY.heap.Ns builtinsNs mb) (hbb:∀ x:Str,x≠"__name__"->mb x=bootBuiltins x) (ahe:cY.heap.NoLimit) (hg:cY.gens=#[]) (hbm:TS.BMain cY.heap mg)
  (Ya:CodeHd cY.heap c1 P1/\cY.heap.get? P1=some (tabObj #[])) (SD:CodeHd cY.heap c2 P2/\cY.heap.get? P2=some (tabObj #[])) (hK1:K.lookup P1=none) (hK2:K.lookup P2=none)
  (hwl:WellAll w.params cY.heap vals ds) (kF:EE ds=true) (hwt:∀ d∈ds,d.weight<=1048576) (hr:kE k callerA)
  (F:∀ base:Heap,K.In base->base.Ns mainGlobals mg->TS.BMain base mg->bY P w K mg base fw k fa fd ps sp) (Gq:∀ (s:Shared) (us:List Value),us.length=ps.length->BindsTo s fd ⟨us,[]⟩ (ps.zip us)) (hlen:ds.length=ps.length)
  (WG:∀ (H H0:Hp) (xs:List V),xB K H0 xs ds->aM H0 H->H P1=some (.zo #[])->H P2=some (.zo #[])->sp xs H (fun v H'=>Dw K H' v d0) fun _ _ _=>False):
  codeAny (model P w) callerA (.call (.ref fa) ⟨vals,[]⟩) (fun r s'=>∃ u as,r=.ok (.ret u)/\ReadsW R cl s'.heap u d0 as/\OldK cY.heap s'.heap/\s'.os=cY.os/\AllBare s'.gens) cY:=by
 obtain ⟨A,ho,ar⟩:=BE ds vals hwl kF hwt
 have hS:=Kj KX ar ds vals hwl kF ho
 have hV:=uU ho
 have nA:∀ {p:Addr},cY.heap.get? p=some (tabObj #[])->si K cY.heap A p=none:=fun {p} e=>by
  cases q:si K cY.heap A p with
  | none=>rfl
  | some u=>
   obtain ⟨_,vs,_,_,⟨e2,_⟩ | ⟨e2,_⟩⟩:=BF ar q<;>(rw [e2] at e;cases e)
 have adD:aM (si K cY.heap A) (Cp (si K cY.heap A) P1 P2):=fun b u e=>by
  rw [L7 (fun z=>by rw [z,nA Ya.2] at e;cases e) (fun z=>by rw [z,nA SD.2] at e;cases e)];exact e
 have cU:w8 P w (Cp (si K cY.heap A) P1 P2) cY.heap:=fun b u q=>by
  rcases L8 q with ⟨rfl,rfl⟩ | ⟨rfl,rfl⟩ | ⟨_,_,q⟩
  ·exact Ya.2
  ·exact SD.2
  ·obtain ⟨_,vs,h1,h2,⟨e,rfl⟩ | ⟨e,rfl⟩⟩:=BF ar q
   ·exact ⟨e,by rw [U];exact h1,vs,_,uU h2,e⟩
   ·exact ⟨e,by rw [U];exact h1,vs,uU h2,_,e,rfl,_,rfl⟩
 have hK:∀ b u,Cp (si K cY.heap A) P1 P2 b=some u->K.lookup b=none:=fun b u q=>by
  rcases L8 q with ⟨rfl,rfl⟩ | ⟨rfl,rfl⟩ | ⟨_,_,q⟩
  ·exact hK1
  ·exact hK2
  ·exact (BF ar q).1
 have Uw:∀ {b:Addr} {o:Obj},cY.heap.get? b=some o->(∀ vs n,o.data≠.seq vs n)->(∀ vs,o.data≠.fields vs)->Cp (si K cY.heap A) P1 P2 b=none:=fun {b o} e d1 d2=>by
  cases q:Cp (si K cY.heap A) P1 P2 b with
  | none=>rfl
  | some u=>
   rcases L8 q with ⟨rfl,rfl⟩ | ⟨rfl,rfl⟩ | ⟨_,_,q⟩
   ·rw [Ya.2] at e;cases e;exact absurd rfl (d2 _)
   ·rw [SD.2] at e;cases e;exact absurd rfl (d2 _)
   ·obtain ⟨_,vs,_,_,⟨e2,_⟩ | ⟨e2,_⟩⟩:=BF ar q<;>(rw [e2] at e;cases e;exact absurd rfl (d1 _ _))
 have hfz:∀ b u,Cp (si K cY.heap A) P1 P2 b=some u->b≠P1->b≠P2->∃ o v,u=.oW o v:=fun b u q n1 n2=>by
  rw [L7 n1 n2] at q
  obtain ⟨_,vs,_,_,⟨_,e⟩ | ⟨_,e⟩⟩:=BF ar q
  ·exact ⟨_,_,e⟩
  ·exact ⟨_,_,e⟩
 have T3:Cp (si K cY.heap A) P1 P2 P1=some (.zo #[]):=Wd
 have El:Cp (si K cY.heap A) P1 P2 P2=some (.zo #[]):=We
 have adE:=WG (Cp (si K cY.heap A) P1 P2) _ _ hS adD T3 El
 generalize Cp (si K cY.heap A) P1 P2=H at cU hK Uw hfz T3 El adE
 have L9:∀ {b:Addr} {o:Obj},cY.heap.get? b=some o->H b=none->(Hw cY.heap H).get? b=some o:=fun e n=>T9 e n
 have nsK:∀ {b:Addr} {m:Str->Option Value},cY.heap.Ns b m->(Hw cY.heap H).Ns b m:=fun {b m} ⟨o,es,ep,e,d,r⟩=>⟨o,es,ep,L9 e (Uw e (fun _ _ z=>by rw [d] at z;cases z) (fun _ z=>by rw [d] at z;cases z)),d,r⟩
 have nK:∀ b o,K.lookup b=some o->H b=none:=fun b o e=>by
  cases q:H b with
  | none=>rfl
  | some u=>
   rw [hK b u q] at e
   cases e
 have hKb:K.In (Hw cY.heap H):=fun b o e=>L9 (KX b o e) (nK b o e)
 have hBb:TS.BMain (Hw cY.heap H) mg:=by
  obtain ⟨bm,o,h1,h2,h3,h4,h5,h6,h7⟩:=hbm
  exact ⟨bm,o,h1,h2,h3,L9 h4 (Uw h4 (fun _ _ z=>by rw [h7] at z;cases z) (fun _ z=>by rw [h7] at z;cases z)),h5,h6,h7⟩
 have hM:Mod K mg (Hw cY.heap H):=⟨hKb,nsK hns,⟨mb,nsK hb,hbb⟩,let ⟨mc,h1,h2⟩:=ahe;⟨mc,nsK h1,h2⟩⟩
 have e0:Fw P w K mg (Hw cY.heap H) callerA [] cY H:=⟨rfl,hM,fun b o e=>WT e,Nat.le_of_eq (Sf _ _),trivial,fun b hb=>absurd (show b∈([]:List Addr) from hb) (by simp),cU,.of_eq hg⟩
 have hl:vals.length=ps.length:=by rw [tL hwl];exact hlen
 refine codeAny_mono ((F _ hKb (nsK hns) hBb).run callerA [] cY H ⟨vals,[]⟩ vals (vals.map toV) _ _ hr e0 (Gq cY vals hl) hV adE) fun r s' x=>?_
 cases r with
 | error e=>exact False.elim x
 | ok fl=>
  cases fl with
  | next=>exact False.elim x
  | brk=>exact False.elim x
  | cont=>exact False.elim x
  | ret u=>
   obtain ⟨v,H',os,bare,un,aaE,r',q⟩:=x
   have kept:∀ b o,cY.heap.get? b=some o->b≠P1->b≠P2->s'.heap.get? b=some o:=fun b o e n1 n2=>by
    cases q2:H b with
    | none=>exact un.keep b o e q2 (by intro z;exact absurd (show b∈([]:List Addr) from z) (by simp)) (by simp)
    | some u2=>
     obtain ⟨ob,u3,rfl⟩:=hfz b u2 q2 n1 n2
     have z2:=un.Fh b ob _ q2
     obtain ⟨e1,_⟩:=cU b _ q2
     obtain ⟨e2,_⟩:=aaE b _ z2
     rw [e] at e1
     cases e1
     exact e2
   have aaF:∀ {p c:Addr},H p=some (.zo #[])->CodeHd cY.heap c p/\cY.heap.get? p=some (tabObj #[])->∃ more,s'.heap.get? p=some (tabObj (#[]++more)):=fun {p c} hp hT=>by
    obtain ⟨more,hm⟩:=un.Hv p _ hp
    exact ⟨more,aaE p _ hm⟩
   have KX':K.In s'.heap:=fun b o e=>kept b o (KX b o e) (fun z=>by rw [z,hK1] at e;cases e) (fun z=>by rw [z,hK2] at e;cases e)
   have old:OldK cY.heap s'.heap:=by
    have step:∀ {p c:Addr} {o:Obj},H p=some (.zo #[])->CodeHd cY.heap c p/\cY.heap.get? p=some (tabObj #[])->cY.heap.get? p=some o->asItWas cY.heap s'.heap p o:=fun {p c o} hp hT e=>by
     obtain ⟨more,hm⟩:=aaF hp hT
     rw [hT.2] at e
     cases e
     exact .inr (.inl ⟨(hT.1.tab hT.2).isCodeTable,rfl,#[],more,rfl,hm⟩)
    refine ⟨fun b o e=>?_,fun b o e=>?_⟩
    ·by_cases h1:b=P1
     ·subst h1;exact step T3 Ya e
     ·by_cases h2:b=P2
      ·subst h2;exact step El SD e
      ·exact .inl (kept b o e h1 h2)
    ·by_cases h1:b=P1
     ·subst h1;obtain ⟨m,hm⟩:=aaF T3 Ya;exact ⟨_,hm⟩
     ·by_cases h2:b=P2
      ·subst h2;obtain ⟨m,hm⟩:=aaF El SD;exact ⟨_,hm⟩
      ·exact ⟨o,kept b o e h1 h2⟩
   obtain ⟨as,hrd⟩:=Dw.reads (R:=R) (cl:=cl) aaE KX' d0 v u q r'
   exact ⟨u,as,rfl,hrd,old,os,bare⟩
end L2
namespace TS
open PySem PySem.Spec PyProof.Rows L2
theorem aaG {K:ab} {h:Heap} {mg:Str->Option Value} (X:K.In h) (G:h.Ns mainGlobals mg)
  {aF:Addr}
  {a5:Addr}
  {fJ:Addr}
  {dZ:Addr} {fm:FuncData}
  {fo:Addr} {gC:FuncData}
  {iH:Addr} {j4:FuncData}
  {jH:Addr} {lR:FuncData}
  {vG:Addr} {zu:FuncData}
  {kK:Addr} {nq:FuncData}
  {iI:Addr} {j5:FuncData}
  {jI:Addr} {lS:FuncData}
  {fT:Addr} {gU:FuncData}
  {eZ:Addr} {gW:FuncData}
  {mT:Addr} {o8:FuncData}
  {iJ:Addr} {j6:FuncData}
  {mU:Addr} {o9:FuncData}
  {kL:Addr} {nr:FuncData}
  {gL:Addr} {i7:FuncData}
  {kM:Addr} {nt:FuncData}
  {kN:Addr} {nu:FuncData}
  {o_:Addr} {rQ:FuncData}
  {mV:Addr} {pb:FuncData}
  {iK:Addr} {j7:FuncData}
  {iL:Addr} {j8:FuncData}
  {fq:Addr} {gD:FuncData}
  {mW:Addr} {ph:FuncData}
  {kO:Addr} {nv:FuncData}
  {kP:Addr} {ny:FuncData}
  {mX:Addr} {pk:FuncData}
  {jJ:Addr} {lT:FuncData}
  {pq:Addr} {rR:FuncData}
  {mY:Addr} {pw:FuncData}
  {mZ:Addr} {px:FuncData}
  {fU:Addr} {gX:FuncData}
  {kQ:Addr} {nz:FuncData}
  {iM:Addr} {j9:FuncData}
  {fz:Addr} {lU:FuncData}
  {eO:Addr} {j_:FuncData}
  {iN:Addr} {pz:FuncData}
  {fA:Addr} {lV:FuncData}
  {gk:Addr} {nE:FuncData}
  {gn:Addr} {nF:FuncData}
  {iO:Addr} {pA:FuncData}
  {kR:Addr} {nG:FuncData}
  {AH:Addr} {C0:FuncData}
  {fV:Addr} {gY:FuncData}
  {pB:Addr} {rS:FuncData}
  {dG:Addr} {fP:FuncData}
  {dn:Addr} {d9:FuncData}
  {m3:Addr} {pC:FuncData}
  {gM:Addr} {iP:FuncData}
  {sP sQ:Addr} {Ez:Array Value} {L_:Value} {Ma:Option Addr} {Mb:Array (Option Value)}
  {jK:Addr} {kS:FuncData}
  {g9:Addr} {jk:FuncData}
  {dR:Addr} {e7:FuncData}
  {gp:Addr} {g_:FuncData}
  {qv qw:Addr} {Cq:Array Value} {IA:Value} {IB:Option Addr} {IC:Array (Option Value)}
  {kT:Addr} {nH:FuncData}
  {m4:Addr} {pD:FuncData}
  {jL:Addr} {lW:FuncData}
  {m5:Addr} {pE:FuncData}
  {kU:Addr} {nJ:FuncData}
  {e8:Addr} {gZ:FuncData}
  {AI:Addr} {C1:FuncData}
  {dH:Addr} {kW:FuncData}
  {c_:Addr} {ka:FuncData}
  {dv:Addr} {lX:FuncData}
  {d_:Addr} {nL:FuncData}
  {dw:Addr} {lY:FuncData}
  {da:Addr} {kb:FuncData}
  {dy:Addr} {lZ:FuncData}
  {dz:Addr} {l4:FuncData}
  {ed:Addr} {nM:FuncData}
  {ef:Addr} {nN:FuncData}
  {gN:Addr} {i8:FuncData}
  {dA:Addr} {l5:FuncData}
  {ek:Addr} {nO:FuncData}
  {dc:Addr} {kc:FuncData}
  {kX:Addr} {nQ:FuncData}
  {er:Addr} {nR:FuncData}
  {eC:Addr} {nT:FuncData}
  {eD:Addr} {nU:FuncData}
  {pF:Addr} {rT:FuncData}
  {fu:Addr} {pG:FuncData}
  {dg:Addr} {ke:FuncData}
  {dB:Addr} {l6:FuncData}
  {eE:Addr} {nV:FuncData}
  {jM:Addr} {l7:FuncData}
  {sy:Addr} {u0:FuncData}
  {kh:Addr} {nW:FuncData}
  {t1:Tok}
  {t2:Tok}
  {t3:Tok}
  {t4:Tok}
  {t5:Tok}
  {x8:Addr}
  {s6:Str}
  {t7:Tok}
  {s8:Str}
  {t9:Tok}
  {s10:Str}
  {t11:Tok}
  {TK:Nat} {Q_:Array (Option Value)}
  {fQ:Addr}
  {yq:Str}
  {t13:Tok}
  {WS:Str}
  {t15:Tok}
  {Mc:Nat} {ID:Array (Option Value)}
  {s16:Str}
  {t17:Tok}
  {s18:Str}
  {t19:Tok}
  {gq:Addr}
  {s20:Str}
  {t21:Tok}
  {s22:Str}
  {t23:Tok}
  {s24:Str}
  {t25:Tok}
  {s26:Str}
  {t27:Tok}
  {s28:Str}
  {t29:Tok}
  {s30:Str}
  {t31:Tok}
  {s32:Str}
  {t33:Tok}
  {Dv:Nat} {Cr:Array (Option Value)}
  {sA:Addr}
  {Pd:Nat} {Me:Array (Option Value)}
  {t34:Tok}
  {t35:Tok}
  {t36:Tok}
  {t37:Tok}
  {rG:Addr}
  {t38:Tok}
  {t39:Tok}
  {t40:Tok}
  {Ra:Nat} {Pe:Array (Option Value)}
  {t41:Tok}
  {t42:Tok}
  {t43:Tok}
  {t44:Tok}
  {t45:Tok}
  {t46:Tok}
  {t47:Tok}
  {t48:Tok}
  {t49:Tok}
  {t50:Tok}
  {t51:Tok}
  {t52:Tok}
  {pZ:Addr}
  {t53:Tok}
  {t54:Tok}
  {Rb:Nat} {Pf:Array (Option Value)}
  {vH:Addr}
  {t55:Tok}
  {t56:Tok}
  {t57:Tok}
  {Rc:Nat} {Pg:Array (Option Value)}
  {tN:Addr}
  {Wf:Nat}
  {t58:Tok}
  {h59:Int}
  {zK:Addr}
  {t60:Tok}
  {h61:Int}
  {zL:Addr}
  {t62:Tok}
  {h63:Int}
  {zM:Addr}
  {t64:Tok}
  {h65:Int}
  {zN:Addr}
  {t66:Tok}
  {h67:Int}
  {zO:Addr}
  {t68:Tok}
  {h69:Int}
  {zP:Addr}
  {t70:Tok}
  {h71:Int}
  {zQ:Addr}
  {t72:Tok}
  {h73:Int}
  {zR:Addr}
  {t74:Tok}
  {h75:Int}
  {zS:Addr}
  {t76:Tok}
  {h77:Int}
  {zT:Addr}
  {t78:Tok}
  {h79:Int}
  {v_:Addr}
  {t80:Tok}
  {h81:Int}
  {wa:Addr}
  {t82:Tok}
  {h83:Int}
  {wb:Addr}
  {t84:Tok}
  {h85:Int}
  {wc:Addr}
  {t86:Tok}
  {h87:Int}
  {we:Addr}
  {t88:Tok}
  {h89:Int}
  {wg:Addr}
  {t90:Tok}
  {h91:Int}
  {wj:Addr}
  {t92:Tok}
  {h93:Int}
  {wk:Addr}
  {t94:Tok}
  {h95:Int}
  {wm:Addr}
  {t96:Tok}
  {h97:Int}
  {wo:Addr}
  {t98:Tok}
  {h99:Int}
  {wq:Addr}
  {ahf:Tok}
  {ahg:Tok}
  {Mf:Nat} {IE:Array (Option Value)}
  {ahh:Tok}
  {ahi:Tok}
  {Mg:Nat} {IF:Array (Option Value)}
  {ahj:Tok}
  {ahk:Tok}
  {Mh:Nat} {IG:Array (Option Value)}
  {ahl:Tok}
  {ahm:Tok}
  {Mi:Nat} {IH:Array (Option Value)}
  {ahn:Tok}
  {aho:Tok}
  {Mj:Nat} {II:Array (Option Value)}
  {ahp:Tok}
  {ahq:Tok}
  {Ml:Nat} {IJ:Array (Option Value)}
  {ahr:Tok}
  {ahs:Tok}
  {Mm:Nat} {IK:Array (Option Value)}
  {aht:Tok}
  {ahu:Tok}
  {Mn:Nat} {IL:Array (Option Value)}
  {ahv:Tok}
  {ahw:Tok}
  {Mo:Nat} {IM:Array (Option Value)}
  {ahx:Tok}
  {ahy:Tok}
  {Mp:Nat} {IP:Array (Option Value)}
  {ahz:Tok}
  {ahA:Tok}
  {IQ:Nat} {Ha:Array (Option Value)}
  {ahB:Tok}
  {ahC:Tok}
  {IS:Nat} {Hb:Array (Option Value)}
  {ahD:Tok}
  {ahE:Tok}
  {IT:Nat} {Hc:Array (Option Value)}
  {ahF:Tok}
  {ahG:Tok}
  {IU:Nat} {Hd:Array (Option Value)}
  {ahH:Tok}
  {ahI:Tok}
  {IV:Nat} {He:Array (Option Value)}
  {ahJ:Tok}
  {ahK:Tok}
  {IW:Nat} {Hf:Array (Option Value)}
  {ahL:Tok}
  {ahM:Tok}
  {IX:Nat} {Hg:Array (Option Value)}
  {ahN:Tok}
  {ahO:Tok}
  {IY:Nat} {Hh:Array (Option Value)}
  {ahP:Tok}
  {ahQ:Tok}
  {IZ:Nat} {Hi:Array (Option Value)}
  {ahR:Tok}
  {ahS:Tok}
  {I_:Nat} {Hj:Array (Option Value)}
  {ahT:Tok}
  {ahU:Tok}
  {Ja:Nat} {Hk:Array (Option Value)}
  {kY:Addr}
  {Ph:Nat}
  {adF:Tok}
  {adG:Int}
  {adH:Tok}
  {adI:Int}
  {adJ:Tok}
  {adK:Int}
  {adL:Tok}
  {adM:Int}
  {adN:Tok}
  {adO:Int}
  {adP:Tok}
  {adQ:Int}
  {adR:Tok}
  {adS:Int}
  {adT:Tok}
  {adU:Int}
  {adV:Tok}
  {adW:Int}
  {adX:Tok}
  {adY:Int}
  {adZ:Tok}
  {ad0:Int}
  {ad1:Tok}
  {ad2:Int}
  {ad3:Tok}
  {ad4:Int}
  {ad5:Tok}
  {ad6:Int}
  {ad7:Tok}
  {ad8:Int}
  {ad9:Tok}
  {ad_:Int}
  {aea:Tok}
  {aeb:Int}
  {aec:Tok}
  {aed:Int}
  {aee:Tok}
  {aef:Int}
  {aeg:Tok}
  {aeh:Int}
  (Mq:af K mainGlobals "Game"=some (some (.ref aF)))
  (Mr:jd K aF Str.empty=true)
  (Ms:iw K aF=true)
  (Mt:kD K aF=true)
  (Mu:br K (.ref aF) "__setattr__"=some (some (.builtin "object.__setattr__")))
  (Mv:mM K aF=true)
  (Mw:c6 K (.ref aF)=true)
  (bM:br K (.ref aF) "boats"=some none)
  (cG:br K (.ref aF) "points"=some none)
  (dI:br K (.ref aF) "tie"=some none)
  (bN:br K (.ref aF) "order"=some none)
  (cg:br K (.ref aF) "turn"=some none)
  (bZ:br K (.ref aF) "left"=some none)
  (cu:br K (.ref aF) "pairs"=some none)
  (eT:br K (.ref aF) "past"=some none)
  (Dx:af K mainGlobals "Search"=some (some (.ref a5)))
  (Dy:jd K a5 Str.empty=true)
  (Dz:iw K a5=true)
  (DA:kD K a5=true)
  (DB:br K (.ref a5) "__setattr__"=some (some (.builtin "object.__setattr__")))
  (DC:mM K a5=true)
  (DD:c6 K (.ref a5)=true)
  (eU:br K (.ref a5) "game"=some none)
  (fK:br K (.ref a5) "goal"=some none)
  (dU:br K (.ref a5) "known"=some none)
  (Mx:af K mainGlobals "Desk"=some (some (.ref fJ)))
  (My:jd K fJ Str.empty=true)
  (Mz:iw K fJ=true)
  (MA:kD K fJ=true)
  (MB:br K (.ref fJ) "__setattr__"=some (some (.builtin "object.__setattr__")))
  (MC:mM K fJ=true)
  (MD:c6 K (.ref fJ)=true)
  (fE:br K (.ref fJ) "game"=some none)
  (m_:af K mainGlobals "all_combinations"=some (some (.ref dZ)))
  (cM:cJ K "all_combinations" "all_combinations" mS dZ fm)
  (pQ:af K mainGlobals "is_combination"=some (some (.ref fo)))
  (eF:cJ K "is_combination" "is_combination" o6 fo gC)
  (uv:af K mainGlobals "team_points"=some (some (.ref iH)))
  (fB:cJ K "team_points" "team_points" t_ iH j4)
  (wt:af K mainGlobals "tie_result"=some (some (.ref jH)))
  (hE:cJ K "tie_result" "tie_result" vo jH lR)
  (ME:af K mainGlobals "judge"=some (some (.ref vG)))
  (mJ:cJ K "judge" "judge" Ky vG zu)
  (yG:af K mainGlobals "team_wins"=some (some (.ref kK)))
  (jl:cJ K "team_wins" "team_wins" xG kK nq)
  (uw:af K mainGlobals "one_pass_on"=some (some (.ref iI)))
  (gr:cJ K "one_pass_on" "one_pass_on" ua iI j5)
  (wu:af K mainGlobals "next_level"=some (some (.ref jI)))
  (hU:cJ K "next_level" "next_level" vp jI lS)
  (qP:af K mainGlobals "fewest_passes"=some (some (.ref fT)))
  (dS:cJ K "fewest_passes" "fewest_passes" qD fT gU)
  (qQ:br K (.ref aF) "__init__"=some (some (.ref eZ)))
  (qR:rN K (.ref eZ)=true)
  (fW:cJ K "__init__" "Game.__init__" qE eZ gW)
  (A0:af K mainGlobals "teams_of"=some (some (.ref mT)))
  (iQ:cJ K "teams_of" "teams_of" Ar mT o8)
  (ux:af K mainGlobals "judge_order"=some (some (.ref iJ)))
  (dq:cJ K "judge_order" "judge_order" ub iJ j6)
  (A1:af K mainGlobals "moves_at"=some (some (.ref mU)))
  (iR:cJ K "moves_at" "moves_at" As mU o9)
  (yH:af K mainGlobals "moves_now"=some (some (.ref kL)))
  (hZ:cJ K "moves_now" "moves_now" xH kL nr)
  (sR:af K mainGlobals "order_behind"=some (some (.ref gL)))
  (dM:cJ K "order_behind" "order_behind" sv gL i7)
  (yI:af K mainGlobals "make_move"=some (some (.ref kM)))
  (jm:cJ K "make_move" "make_move" xI kM nt)
  (yJ:af K mainGlobals "take_back"=some (some (.ref kN)))
  (jn:cJ K "take_back" "take_back" xJ kN nu)
  (DE:af K mainGlobals "is_boat"=some (some (.ref o_)))
  (l8:cJ K "is_boat" "is_boat" CU o_ rQ)
  (A2:af K mainGlobals "is_order"=some (some (.ref mV)))
  (kZ:cJ K "is_order" "is_order" Au mV pb)
  (uz:af K mainGlobals "counterpart"=some (some (.ref iK)))
  (eP:cJ K "counterpart" "counterpart" uc iK j7)
  (uA:af K mainGlobals "forget_past"=some (some (.ref iL)))
  (dr:cJ K "forget_past" "forget_past" ud iL j8)
  (pR:af K mainGlobals "exchange_teams"=some (some (.ref fq)))
  (eG:cJ K "exchange_teams" "exchange_teams" o7 fq gD)
  (A3:af K mainGlobals "add_pair"=some (some (.ref mW)))
  (k4:cJ K "add_pair" "add_pair" Av mW ph)
  (yK:af K mainGlobals "drop_pair"=some (some (.ref kO)))
  (jo:cJ K "drop_pair" "drop_pair" xK kO nv)
  (yL:af K mainGlobals "set_order"=some (some (.ref kP)))
  (jq:cJ K "set_order" "set_order" xM kP ny)
  (A4:af K mainGlobals "set_left"=some (some (.ref mX)))
  (k5:cJ K "set_left" "set_left" Aw mX pk)
  (wx:af K mainGlobals "boat_names"=some (some (.ref jJ)))
  (fC:cJ K "boat_names" "boat_names" vq jJ lT)
  (DF:af K mainGlobals "sign_of"=some (some (.ref pq)))
  (nX:cJ K "sign_of" "sign_of" CV pq rR)
  (A5:af K mainGlobals "words_of"=some (some (.ref mY)))
  (k6:cJ K "words_of" "words_of" Ax mY pw)
  (A6:af K mainGlobals "lines_of"=some (some (.ref mZ)))
  (k7:cJ K "lines_of" "lines_of" Ay mZ px)
  (qS:af K mainGlobals "means_nothing"=some (some (.ref fU)))
  (e9:cJ K "means_nothing" "means_nothing" qF fU gX)
  (yM:af K mainGlobals "number_of"=some (some (.ref kQ)))
  (gu:cJ K "number_of" "number_of" xN kQ nz)
  (uB:af K mainGlobals "may_be_left"=some (some (.ref iM)))
  (fD:cJ K "may_be_left" "may_be_left" ue iM j9)
  (wy:af K mainGlobals "take_boats"=some (some (.ref fz)))
  (h9:cJ K "take_boats" "take_boats" vt fz lU)
  (uC:af K mainGlobals "take_points"=some (some (.ref eO)))
  (gv:cJ K "take_points" "take_points" uf eO j_)
  (A7:af K mainGlobals "take_tie"=some (some (.ref iN)))
  (k8:cJ K "take_tie" "take_tie" Az iN pz)
  (wz:af K mainGlobals "take_order"=some (some (.ref fA)))
  (h_:cJ K "take_order" "take_order" vw fA lV)
  (yN:af K mainGlobals "take_turn"=some (some (.ref gk)))
  (jr:cJ K "take_turn" "take_turn" xO gk nE)
  (yO:af K mainGlobals "take_left"=some (some (.ref gn)))
  (js:cJ K "take_left" "take_left" xP gn nF)
  (A8:af K mainGlobals "take_can"=some (some (.ref iO)))
  (k9:cJ K "take_can" "take_can" AA iO pA)
  (yP:af K mainGlobals "take_line"=some (some (.ref kR)))
  (jt:cJ K "take_line" "take_line" xQ kR nG)
  (Rf:af K mainGlobals "fill"=some (some (.ref AH)))
  (x_:cJ K "fill" "fill" Ql AH C0)
  (qT:af K mainGlobals "written_lines"=some (some (.ref fV)))
  (e_:cJ K "written_lines" "written_lines" qG fV gY)
  (DG:af K mainGlobals "written"=some (some (.ref pB)))
  (nY:cJ K "written" "written" CW pB rS)
  (oE:br K (.ref a5) "__init__"=some (some (.ref dG)))
  (oF:rN K (.ref dG)=true)
  (eS:cJ K "__init__" "Search.__init__" ow dG fP)
  (lC:af K mainGlobals "too_many_positions"=some (some (.ref dn)))
  (cV:cJ K "too_many_positions" "too_many_positions" kJ dn d9)
  (A9:af K mainGlobals "rank_for"=some (some (.ref m3)))
  (jO:cJ K "rank_for" "rank_for" AB m3 pC)
  (A_:af K mainGlobals "best_for"=some (some (.ref gM)))
  (wA:∃ (oc:Value) (od:Option Addr) (kV doc pm:Value) (an:Option Addr) (ct:Value) (Hu:Array (Option Value)),iP=dW "best_for" "best_for" (ou iG) (jG iG) (aE iG) .none kV doc pm an (.ref sP) ct/\K.lookup gM=some ⟨oc,od,.func iP,Hu⟩/\lH K (.ref sP) "best_for"=true)
  (Ba:c6 K (.ref gM)=true)
  (Hl:K.lookup sP=some ⟨L_,Ma,.fields Ez,Mb⟩)
  (Hm:Ez[11]?=some (.ref sQ))
  (Bb:pV K sP sQ=true)
  (Bc:af K mainGlobals "value_at"=some (some (.ref jK)))
  (iS:cJ K "value_at" "value_at" AD jK kS)
  (yQ:af K mainGlobals "new_value"=some (some (.ref g9)))
  (ia:cJ K "new_value" "new_value" xR g9 jk)
  (qU:af K mainGlobals "values_behind"=some (some (.ref dR)))
  (c4:cJ K "values_behind" "values_behind" qH dR e7)
  (yR:af K mainGlobals "best_move"=some (some (.ref gp)))
  (tW:∃ (oc:Value) (od:Option Addr) (kV doc pm:Value) (an:Option Addr) (ct:Value) (Hu:Array (Option Value)),g_=dW "best_move" "best_move" (ou gj) (jG gj) (aE gj) .none kV doc pm an (.ref qv) ct/\K.lookup gp=some ⟨oc,od,.func g_,Hu⟩/\lH K (.ref qv) "best_move"=true)
  (yS:c6 K (.ref gp)=true)
  (EA:K.lookup qv=some ⟨IA,IB,.fields Cq,IC⟩)
  (EB:Cq[11]?=some (.ref qw))
  (yT:pV K qv qw=true)
  (yU:af K mainGlobals "value_now"=some (some (.ref kT)))
  (ju:cJ K "value_now" "value_now" xS kT nH)
  (Bd:af K mainGlobals "best_now"=some (some (.ref m4)))
  (lg:cJ K "best_now" "best_now" AE m4 pD)
  (wB:af K mainGlobals "values_now"=some (some (.ref jL)))
  (ib:cJ K "values_now" "values_now" vx jL lW)
  (Be:af K mainGlobals "play_out"=some (some (.ref m5)))
  (jP:cJ K "play_out" "play_out" AF m5 pE)
  (yV:af K mainGlobals "best_line"=some (some (.ref kU)))
  (jv:cJ K "best_line" "best_line" xT kU nJ)
  (qV:br K (.ref fJ) "__init__"=some (some (.ref e8)))
  (qW:rN K (.ref e8)=true)
  (fX:cJ K "__init__" "Desk.__init__" qI e8 gZ)
  (Rg:af K mainGlobals "load"=some (some (.ref AI)))
  (vL:cJ K "load" "load" s_load AI C1)
  (yW:af K mainGlobals "call_text"=some (some (.ref dH)))
  (ic:cJ K "call_text" "call_text" xU dH kW)
  (uD:af K mainGlobals "call_result"=some (some (.ref c_)))
  (gw:cJ K "call_result" "call_result" ug c_ ka)
  (wC:af K mainGlobals "call_combs"=some (some (.ref dv)))
  (ie:cJ K "call_combs" "call_combs" vz dv lX)
  (yX:af K mainGlobals "call_wins"=some (some (.ref d_)))
  (jw:cJ K "call_wins" "call_wins" xV d_ nL)
  (wD:af K mainGlobals "call_judge"=some (some (.ref dw)))
  (ig:cJ K "call_judge" "call_judge" vA dw lY)
  (uE:af K mainGlobals "call_passes"=some (some (.ref da)))
  (gx:cJ K "call_passes" "call_passes" uh da kb)
  (wF:af K mainGlobals "call_table"=some (some (.ref dy)))
  (ij:cJ K "call_table" "call_table" vB dy lZ)
  (wG:af K mainGlobals "call_moves"=some (some (.ref dz)))
  (ik:cJ K "call_moves" "call_moves" vC dz l4)
  (yY:af K mainGlobals "call_move"=some (some (.ref ed)))
  (jx:cJ K "call_move" "call_move" xW ed nM)
  (yZ:af K mainGlobals "call_undo"=some (some (.ref ef)))
  (jy:cJ K "call_undo" "call_undo" xX ef nN)
  (sU:af K mainGlobals "goal_refusal"=some (some (.ref gN)))
  (c5:cJ K "goal_refusal" "goal_refusal" sx gN i8)
  (wH:af K mainGlobals "call_value"=some (some (.ref dA)))
  (il:cJ K "call_value" "call_value" vD dA l5)
  (y2:af K mainGlobals "call_best"=some (some (.ref ek)))
  (jz:cJ K "call_best" "call_best" xY ek nO)
  (uF:af K mainGlobals "call_values"=some (some (.ref dc)))
  (gy:cJ K "call_values" "call_values" ui dc kc)
  (y3:af K mainGlobals "told_play"=some (some (.ref kX)))
  (ip:cJ K "told_play" "told_play" xZ kX nQ)
  (y4:af K mainGlobals "call_line"=some (some (.ref er)))
  (jA:cJ K "call_line" "call_line" x3 er nR)
  (y6:af K mainGlobals "call_duel"=some (some (.ref eC)))
  (jB:cJ K "call_duel" "call_duel" x4 eC nT)
  (y8:af K mainGlobals "call_swap"=some (some (.ref eD)))
  (jC:cJ K "call_swap" "call_swap" x5 eD nU)
  (DH:af K mainGlobals "is_pair"=some (some (.ref pF)))
  (l9:cJ K "is_pair" "is_pair" CY pF rT)
  (Bf:af K mainGlobals "call_can"=some (some (.ref fu)))
  (lh:cJ K "call_can" "call_can" AG fu pG)
  (uG:af K mainGlobals "call_cannot"=some (some (.ref dg)))
  (gz:cJ K "call_cannot" "call_cannot" uj dg ke)
  (wI:af K mainGlobals "call_order"=some (some (.ref dB)))
  (iq:cJ K "call_order" "call_order" vE dB l6)
  (y9:af K mainGlobals "call_left"=some (some (.ref eE)))
  (jD:cJ K "call_left" "call_left" x6 eE nV)
  (wJ:af K mainGlobals "read_calls"=some (some (.ref jM)))
  (ir:cJ K "read_calls" "read_calls" vF jM l7)
  (Hn:af K mainGlobals "answer"=some (some (.ref sy)))
  (qi:cJ K "answer" "answer" F0 sy u0)
  (zU:af K mainGlobals "answers"=some (some (.ref kh)))
  (pH:cJ K "answers" "answers" CZ kh nW)
  (F7:af K mainGlobals "any"=some none)
  (nZ:af K mainGlobals "enumerate"=some none)
  (F8:af K mainGlobals "int"=some none)
  (f_:af K mainGlobals "len"=some none)
  (AL:af K mainGlobals "list"=some none)
  (F9:af K mainGlobals "max"=some none)
  (JD:af K mainGlobals "min"=some none)
  (F_:af K mainGlobals "ord"=some none)
  (jQ:af K mainGlobals "range"=some none)
  (qj:af K mainGlobals "sorted"=some none)
  (BU:af K mainGlobals "str"=some none)
  (JE:af K mainGlobals "sum"=some none)
  (rJ:af K mainGlobals "tuple"=some none)
  (JF:af K mainGlobals "zip"=some none)
  (Ho:af K mainGlobals "LET_BY"=some (some (.int 100 t1)))
  (Bg:af K mainGlobals "LINE_END"=some (some (.int 10 t2)))
  (Hq:af K mainGlobals "REMARK"=some (some (.int 35 t3)))
  (y_:af K mainGlobals "MOST_LEFT"=some (some (.int 20 t4)))
  (uH:af K mainGlobals "MOST_DIGITS"=some (some (.int 4 t5)))
  (Rh:af K mainGlobals "TIES"=some (some (.ref x8)))
  (Hr:K.lookup x8=some ⟨.type "tuple",none,.seq #[(.str s6 t7),(.str s8 t9),(.str s10 t11)] TK,Q_⟩)
  (es6:s6=Str.ofString "draw")
  (es8:s8=Str.ofString "first")
  (aaH:s10=Str.ofString "last")
  (DI:af K mainGlobals "LETTERS"=some (some (.ref fQ)))
  (za:K.lookup fQ=some ⟨.type "tuple",none,.seq #[(.str yq t13),(.str WS t15)] Mc,ID⟩)
  (aaI:yq=Str.ofString "R")
  (aaJ:WS=Str.ofString "B")
  (MF:af K mainGlobals "SIGNS"=some (some (.str s16 t17)))
  (aaK:s16=Str.ofString " 0123456789BRabcdefghijklmnopqrstuvwxyz")
  (DJ:af K mainGlobals "NO_SIGN"=some (some (.str s18 t19)))
  (aaL:s18=Str.ofString "?")
  (uI:af K mainGlobals "FIRST_WORDS"=some (some (.ref gq)))
  (qX:K.lookup gq=some ⟨.type "tuple",none,.seq #[(.str s20 t21),(.str s22 t23),(.str s24 t25),(.str s26 t27),(.str s28 t29),(.str s30 t31),(.str s32 t33)] Dv,Cr⟩)
  (aaM:s20=Str.ofString "boats")
  (aaN:s22=Str.ofString "points")
  (aaO:s24=Str.ofString "tie")
  (aaP:s26=Str.ofString "order")
  (aaQ:s28=Str.ofString "turn")
  (aaR:s30=Str.ofString "left")
  (aaS:s32=Str.ofString "can")
  (Hs:af K mainGlobals "TAKERS"=some (some (.ref sA)))
  (Bh:K.lookup sA=some ⟨.type "tuple",none,.seq #[(.ref fz),(.ref eO),(.ref iN),(.ref fA),(.ref gk),(.ref gn),(.ref iO)] Pd,Me⟩)
  (zb:af K mainGlobals "LAST_KIND"=some (some (.int 6 t34)))
  (pS:af K mainGlobals "MOST_POSITIONS"=some (some (.int 100000 t35)))
  (pT:af K mainGlobals "WORST_FROM_NOW"=some (some (.int 1 t36)))
  (qY:af K mainGlobals "BEST_FROM_NOW"=some (some (.int 2 t37)))
  (MG:af K mainGlobals "RANKS"=some (some (.ref rG)))
  (DK:K.lookup rG=some ⟨.type "tuple",none,.seq #[(.int 1 t38),(.int 2 t39),(.int 0 t40)] Ra,Pe⟩)
  (DL:af K mainGlobals "NO_TEAM"=some (some (.int (-1) t41)))
  (wK:af K mainGlobals "MOST_BYTES"=some (some (.int 2000 t42)))
  (Bj:af K mainGlobals "NO_MATCH"=some (some (.int (-1) t43)))
  (sV:af K mainGlobals "OUT_OF_RANGE"=some (some (.int (-2) t44)))
  (uJ:af K mainGlobals "NOT_ALLOWED"=some (some (.int (-3) t45)))
  (uK:af K mainGlobals "NOTHING_NEW"=some (some (.int (-4) t46)))
  (qZ:af K mainGlobals "NO_TURNS_LEFT"=some (some (.int (-5) t47)))
  (oG:af K mainGlobals "NOTHING_TO_UNDO"=some (some (.int (-6) t48)))
  (lD:af K mainGlobals "TOO_MANY_POSITIONS"=some (some (.int (-7) t49)))
  (q_:af K mainGlobals "TEXT_TOO_LONG"=some (some (.int (-8) t50)))
  (wL:af K mainGlobals "WRONG_LINE"=some (some (.int (-1000) t51)))
  (Ri:af K mainGlobals "LOAD"=some (some (.int 0 t52)))
  (MH:af K mainGlobals "TEAMS"=some (some (.ref pZ)))
  (DM:K.lookup pZ=some ⟨.type "tuple",none,.seq #[(.int 0 t53),(.int 1 t54)] Rb,Pf⟩)
  (MI:af K mainGlobals "GOALS"=some (some (.ref vH)))
  (DN:K.lookup vH=some ⟨.type "tuple",none,.seq #[(.int 0 t55),(.int 1 t56),(.int 2 t57)] Rc,Pg⟩)
  (MJ:af K mainGlobals "FORMS"=some (some (.ref tN)))
  (MK:K.lookup tN=some ⟨.type "dict",none,.dict #[⟨h59,.int 0 t58,(.ref zK)⟩,⟨h61,.int 1 t60,(.ref zL)⟩,⟨h63,.int 2 t62,(.ref zM)⟩,⟨h65,.int 3 t64,(.ref zN)⟩,⟨h67,.int 4 t66,(.ref zO)⟩,⟨h69,.int 5 t68,(.ref zP)⟩,⟨h71,.int 6 t70,(.ref zQ)⟩,⟨h73,.int 7 t72,(.ref zR)⟩,⟨h75,.int 8 t74,(.ref zS)⟩,⟨h77,.int 9 t76,(.ref zT)⟩,⟨h79,.int 10 t78,(.ref v_)⟩,⟨h81,.int 11 t80,(.ref wa)⟩,⟨h83,.int 12 t82,(.ref wb)⟩,⟨h85,.int 13 t84,(.ref wc)⟩,⟨h87,.int 14 t86,(.ref we)⟩,⟨h89,.int 15 t88,(.ref wg)⟩,⟨h91,.int 16 t90,(.ref wj)⟩,⟨h93,.int 17 t92,(.ref wk)⟩,⟨h95,.int 18 t94,(.ref wm)⟩,⟨h97,.int 19 t96,(.ref wo)⟩,⟨h99,.int 20 t98,(.ref wq)⟩] Wf,#[]⟩)
  (aaT:h59=hashInt 0)
  (aaU:h61=hashInt 1)
  (aaV:h63=hashInt 2)
  (aaW:h65=hashInt 3)
  (aaX:h67=hashInt 4)
  (aaY:h69=hashInt 5)
  (aaZ:h71=hashInt 6)
  (aa0:h73=hashInt 7)
  (aa1:h75=hashInt 8)
  (aa2:h77=hashInt 9)
  (aa3:h79=hashInt 10)
  (aa4:h81=hashInt 11)
  (aa5:h83=hashInt 12)
  (aa6:h85=hashInt 13)
  (aa7:h87=hashInt 14)
  (aa8:h89=hashInt 15)
  (aa9:h91=hashInt 16)
  (aa_:h93=hashInt 17)
  (aba:h95=hashInt 18)
  (abb:h97=hashInt 19)
  (abc:h99=hashInt 20)
  (ML:(tN==sysModules)=false)
  (zc:K.lookup zK=some ⟨.type "tuple",none,.seq #[(.int 0 ahf),(.int 1 ahg)] Mf,IE⟩)
  (zd:K.lookup zL=some ⟨.type "tuple",none,.seq #[(.int 0 ahh),(.int 0 ahi)] Mg,IF⟩)
  (ze:K.lookup zM=some ⟨.type "tuple",none,.seq #[(.int 0 ahj),(.int 0 ahk)] Mh,IG⟩)
  (zf:K.lookup zN=some ⟨.type "tuple",none,.seq #[(.int 0 ahl),(.int 0 ahm)] Mi,IH⟩)
  (zg:K.lookup zO=some ⟨.type "tuple",none,.seq #[(.int 0 ahn),(.int 0 aho)] Mj,II⟩)
  (zh:K.lookup zP=some ⟨.type "tuple",none,.seq #[(.int 0 ahp),(.int 1 ahq)] Ml,IJ⟩)
  (zi:K.lookup zQ=some ⟨.type "tuple",none,.seq #[(.int 1 ahr),(.int 0 ahs)] Mm,IK⟩)
  (zj:K.lookup zR=some ⟨.type "tuple",none,.seq #[(.int 1 aht),(.int 0 ahu)] Mn,IL⟩)
  (zl:K.lookup zS=some ⟨.type "tuple",none,.seq #[(.int 0 ahv),(.int 0 ahw)] Mo,IM⟩)
  (zm:K.lookup zT=some ⟨.type "tuple",none,.seq #[(.int 1 ahx),(.int 0 ahy)] Mp,IP⟩)
  (wM:K.lookup v_=some ⟨.type "tuple",none,.seq #[(.int 0 ahz),(.int 0 ahA)] IQ,Ha⟩)
  (wN:K.lookup wa=some ⟨.type "tuple",none,.seq #[(.int 1 ahB),(.int 0 ahC)] IS,Hb⟩)
  (wO:K.lookup wb=some ⟨.type "tuple",none,.seq #[(.int 1 ahD),(.int 0 ahE)] IT,Hc⟩)
  (wQ:K.lookup wc=some ⟨.type "tuple",none,.seq #[(.int 1 ahF),(.int 0 ahG)] IU,Hd⟩)
  (wR:K.lookup we=some ⟨.type "tuple",none,.seq #[(.int 1 ahH),(.int 0 ahI)] IV,He⟩)
  (wU:K.lookup wg=some ⟨.type "tuple",none,.seq #[(.int 2 ahJ),(.int 1 ahK)] IW,Hf⟩)
  (wV:K.lookup wj=some ⟨.type "tuple",none,.seq #[(.int 0 ahL),(.int 0 ahM)] IX,Hg⟩)
  (wW:K.lookup wk=some ⟨.type "tuple",none,.seq #[(.int 2 ahN),(.int 0 ahO)] IY,Hh⟩)
  (wX:K.lookup wm=some ⟨.type "tuple",none,.seq #[(.int 2 ahP),(.int 0 ahQ)] IZ,Hi⟩)
  (wY:K.lookup wo=some ⟨.type "tuple",none,.seq #[(.int 0 ahR),(.int 1 ahS)] I_,Hj⟩)
  (wZ:K.lookup wq=some ⟨.type "tuple",none,.seq #[(.int 2 ahT),(.int 0 ahU)] Ja,Hk⟩)
  (Bk:af K mainGlobals "CARRIERS"=some (some (.ref kY)))
  (Bl:K.lookup kY=some ⟨.type "dict",none,.dict #[⟨adG,.int 1 adF,(.ref dH)⟩,⟨adI,.int 2 adH,(.ref c_)⟩,⟨adK,.int 3 adJ,(.ref dv)⟩,⟨adM,.int 4 adL,(.ref d_)⟩,⟨adO,.int 5 adN,(.ref dw)⟩,⟨adQ,.int 6 adP,(.ref da)⟩,⟨adS,.int 7 adR,(.ref dy)⟩,⟨adU,.int 8 adT,(.ref dz)⟩,⟨adW,.int 9 adV,(.ref ed)⟩,⟨adY,.int 10 adX,(.ref ef)⟩,⟨ad0,.int 11 adZ,(.ref dA)⟩,⟨ad2,.int 12 ad1,(.ref ek)⟩,⟨ad4,.int 13 ad3,(.ref dc)⟩,⟨ad6,.int 14 ad5,(.ref er)⟩,⟨ad8,.int 15 ad7,(.ref eC)⟩,⟨ad_,.int 16 ad9,(.ref eD)⟩,⟨aeb,.int 17 aea,(.ref fu)⟩,⟨aed,.int 18 aec,(.ref dg)⟩,⟨aef,.int 19 aee,(.ref dB)⟩,⟨aeh,.int 20 aeg,(.ref eE)⟩] Ph,#[]⟩)
  (Wg:adG=hashInt 1)
  (Wh:adI=hashInt 2)
  (Wi:adK=hashInt 3)
  (Wj:adM=hashInt 4)
  (Wk:adO=hashInt 5)
  (Wl:adQ=hashInt 6)
  (Wm:adS=hashInt 7)
  (Wn:adU=hashInt 8)
  (Wo:adW=hashInt 9)
  (Wq:adY=hashInt 10)
  (Wr:ad0=hashInt 11)
  (Ws:ad2=hashInt 12)
  (Wt:ad4=hashInt 13)
  (Wu:ad6=hashInt 14)
  (Wv:ad8=hashInt 15)
  (Ww:ad_=hashInt 16)
  (Wx:aeb=hashInt 17)
  (Wy:aed=hashInt 18)
  (Wz:aef=hashInt 19)
  (WA:aeh=hashInt 20)
  (Bm:(kY==sysModules)=false)
  (tb1:uO K "best_for"=some (sP,sQ)) (tb2:uO K "best_move"=some (qv,qw)) (lk1:K.lookup sQ=none) (lk2:K.lookup qw=none) (neP:sQ≠qw):
  ∃ (t:uZ) (c1 P1 c2 P2:Addr),(Txt K mg t/\af K mainGlobals "answers"=some (some (.ref t.kh))/\tE K t c1 P1 c2 P2)/\uO K "best_for"=some (c1,P1)/\uO K "best_move"=some (c2,P2)/\K.lookup P1=none/\K.lookup P2=none:=by
 refine ⟨⟨dZ,fm,fo,gC,iH,j4,jH,lR,vG,zu,kK,nq,iI,j5,jI,lS,fT,gU,eZ,gW,mT,o8,iJ,j6,mU,o9,kL,nr,gL,i7,kM,nt,kN,nu,o_,rQ,mV,pb,iK,j7,iL,j8,fq,gD,mW,ph,kO,nv,kP,ny,mX,pk,jJ,lT,pq,rR,mY,pw,mZ,px,fU,gX,kQ,nz,iM,j9,fz,lU,eO,j_,iN,pz,fA,lV,gk,nE,gn,nF,iO,pA,kR,nG,AH,C0,fV,gY,pB,rS,dG,fP,dn,d9,m3,pC,gM,iP,jK,kS,g9,jk,dR,e7,gp,g_,kT,nH,m4,pD,jL,lW,m5,pE,kU,nJ,e8,gZ,AI,C1,dH,kW,c_,ka,dv,lX,d_,nL,dw,lY,da,kb,dy,lZ,dz,l4,ed,nM,ef,nN,gN,i8,dA,l5,ek,nO,dc,kc,kX,nQ,er,nR,eC,nT,eD,nU,pF,rT,fu,pG,dg,ke,dB,l6,eE,nV,jM,l7,sy,u0,kh,nW,aF,a5,fJ,x8,fQ,gq,sA,rG,pZ,vH,tN,kY⟩,_,_,_,_,⟨?_,zU,⟨⟨wA,Bb⟩,⟨tW,yT⟩,neP⟩⟩,tb1,tb2,lk1,lk2⟩
 exact {
  cM:=cM
  jN:=ah X G m_
  eF:=eF
  u5:=ah X G pQ
  fB:=fB
  uk:=ah X G uv
  hE:=hE
  BP:=ah X G wt
  mJ:=mJ
  zw:=ah X G ME
  jl:=jl
  DY:=ah X G yG
  gr:=gr
  z8:=ah X G uw
  hU:=hU
  BQ:=ah X G wu
  dS:=dS
  qJ:=ah X G qP
  fW:=fW
  iQ:=iQ
  vI:=ah X G A0
  dq:=dq
  ki:=ah X G ux
  iR:=iR
  vJ:=ah X G A1
  hZ:=hZ
  x9:=ah X G yH
  dM:=dM
  ox:=ah X G sR
  jm:=jm
  DZ:=ah X G yI
  jn:=jn
  D0:=ah X G yJ
  l8:=l8
  C2:=ah X G DE
  kZ:=kZ
  F1:=ah X G A2
  eP:=eP
  p6:=ah X G uz
  dr:=dr
  kj:=ah X G uA
  eG:=eG
  u6:=ah X G pR
  k4:=k4
  F2:=ah X G A3
  jo:=jo
  D5:=ah X G yK
  jq:=jq
  D7:=ah X G yL
  k5:=k5
  F3:=ah X G A4
  fC:=fC
  rH:=ah X G wx
  nX:=nX
  JB:=ah X G DF
  k6:=k6
  F4:=ah X G A5
  k7:=k7
  F5:=ah X G A6
  e9:=e9
  xa:=ah X G qS
  gu:=gu
  tO:=ah X G yM
  fD:=fD
  um:=ah X G uB
  h9:=h9
  Kz:=ah X G wy
  gv:=gv
  HH:=ah X G uC
  k8:=k8
  Qm:=ah X G A7
  h_:=h_
  KA:=ah X G wz
  jr:=jr
  NF:=ah X G yN
  js:=js
  NG:=ah X G yO
  k9:=k9
  Qn:=ah X G A8
  jt:=jt
  D8:=ah X G yP
  x_:=x_
  Vc:=ah X G Rf
  e_:=e_
  xc:=ah X G qT
  nY:=nY
  JC:=ah X G DG
  eS:=eS
  cV:=cV
  qh:=ah X G lC
  jO:=jO
  AJ:=ah X G A9
  k_:=⟨let ⟨oc,od,kV,doc,pm,an,ct,Hu,r⟩:=wA;⟨oc,od,kV,doc,pm,an,_,ct,Hu,r⟩,Ba⟩
  m6:=ah X G A_
  iS:=iS
  vK:=ah X G Bc
  ia:=ia
  D9:=ah X G yQ
  c4:=c4
  jV:=ah X G qU
  tP:=⟨let ⟨oc,od,kV,doc,pm,an,ct,Hu,r⟩:=tW;⟨oc,od,kV,doc,pm,an,_,ct,Hu,r⟩,yS⟩
  ya:=ah X G yR
  ju:=ju
  D_:=ah X G yU
  lg:=lg
  F6:=ah X G Bd
  ib:=ib
  BR:=ah X G wB
  jP:=jP
  AK:=ah X G Be
  jv:=jv
  Ea:=ah X G yV
  fX:=fX
  vL:=vL
  Qo:=ah X G Rg
  ic:=ic
  NH:=ah X G yW
  gw:=gw
  HI:=ah X G uD
  ie:=ie
  KC:=ah X G wC
  jw:=jw
  NI:=ah X G yX
  ig:=ig
  KD:=ah X G wD
  gx:=gx
  HJ:=ah X G uE
  ij:=ij
  KG:=ah X G wF
  ik:=ik
  KH:=ah X G wG
  jx:=jx
  NJ:=ah X G yY
  jy:=jy
  NM:=ah X G yZ
  c5:=c5
  i9:=ah X G sU
  il:=il
  KI:=ah X G wH
  jz:=jz
  NN:=ah X G y2
  gy:=gy
  HK:=ah X G uF
  ip:=ip
  yb:=ah X G y3
  jA:=jA
  NO:=ah X G y4
  jB:=jB
  NP:=ah X G y6
  jC:=jC
  NQ:=ah X G y8
  l9:=l9
  C3:=ah X G DH
  lh:=lh
  Qp:=ah X G Bf
  gz:=gz
  HL:=ah X G uG
  iq:=iq
  KJ:=ah X G wI
  jD:=jD
  NR:=ah X G y9
  ir:=ir
  BS:=ah X G wJ
  qi:=qi
  NS:=ah X G Hn
  pH:=pH
  SV:=ah X G zU
  aI:=⟨Mr,Ms,Mt,Mu⟩
  Vd:=⟨Mv,qQ,qR,Mw⟩
  RQ:=ah X G Mq
  bM:=bM
  cG:=cG
  dI:=dI
  bN:=bN
  cg:=cg
  bZ:=bZ
  cu:=cu
  eT:=eT
  g0:=⟨Dy,Dz,DA,DB⟩
  yc:=⟨DC,oE,oF,DD⟩
  u7:=ah X G Dx
  eU:=eU
  fK:=fK
  dU:=dU
  zx:=⟨My,Mz,MA,MB⟩
  Ve:=⟨MC,qV,qW,MD⟩
  RR:=ah X G Mx
  fE:=fE
  F7:=b9 X G F7
  nZ:=b9 X G nZ
  F8:=b9 X G F8
  f_:=b9 X G f_
  AL:=b9 X G AL
  F9:=b9 X G F9
  JD:=b9 X G JD
  F_:=b9 X G F_
  jQ:=b9 X G jQ
  qj:=b9 X G qj
  BU:=b9 X G BU
  JE:=b9 X G JE
  rJ:=b9 X G rJ
  JF:=b9 X G JF
  BV:=⟨_,ah X G Ho,⟨_,rfl⟩⟩
  Ga:=⟨_,ah X G Bg,⟨_,rfl⟩⟩
  NT:=⟨_,ah X G Hq,⟨_,rfl⟩⟩
  Eb:=⟨_,ah X G y_,⟨_,rfl⟩⟩
  z9:=⟨_,ah X G uH,⟨_,rfl⟩⟩
  Vf:=⟨_,ah X G Rh,rfl⟩
  Vg:=⟨_,_,_,Hr,rfl,rfl,rfl,by show 3<=sizeLine;decide,.cons (⟨_,by rw [es6]<;>rfl⟩) (.cons (⟨_,by rw [es8]<;>rfl⟩) (.cons (⟨_,by rw [aaH]<;>rfl⟩) (.nil)))⟩
  u9:=⟨_,ah X G DI,rfl⟩
  rV:=⟨_,_,_,za,rfl,rfl,rfl,szB,.cons (⟨_,by rw [aaI]<;>rfl⟩) (.cons (⟨_,by rw [aaJ]<;>rfl⟩) (.nil))⟩
  RS:=⟨_,ah X G MF,⟨_,by rw [aaK]<;>rfl⟩⟩
  JG:=⟨_,ah X G DJ,⟨_,by rw [aaL]<;>rfl⟩⟩
  z_:=⟨_,ah X G uI,rfl⟩
  Aa:=⟨_,_,_,qX,rfl,rfl,rfl,by show 7<=sizeLine;decide,.cons (⟨_,by rw [aaM]<;>rfl⟩) (.cons (⟨_,by rw [aaN]<;>rfl⟩) (.cons (⟨_,by rw [aaO]<;>rfl⟩) (.cons (⟨_,by rw [aaP]<;>rfl⟩) (.cons (⟨_,by rw [aaQ]<;>rfl⟩) (.cons (⟨_,by rw [aaR]<;>rfl⟩) (.cons (⟨_,by rw [aaS]<;>rfl⟩) (.nil)))))))⟩
  NU:=⟨_,ah X G Hs,rfl⟩
  NV:=⟨_,_,_,Bh,rfl,rfl,rfl,by show 7<=sizeLine;decide,.cons (rfl) (.cons (rfl) (.cons (rfl) (.cons (rfl) (.cons (rfl) (.cons (rfl) (.cons (rfl) (.nil)))))))⟩
  yd:=⟨_,ah X G zb,⟨_,rfl⟩⟩
  u_:=⟨_,ah X G pS,⟨_,rfl⟩⟩
  pI:=⟨_,ah X G pT,⟨_,rfl⟩⟩
  qK:=⟨_,ah X G qY,⟨_,rfl⟩⟩
  KL:=⟨_,ah X G MG,rfl⟩
  RT:=⟨_,_,_,DK,rfl,rfl,rfl,by show 3<=sizeLine;decide,.cons (⟨_,rfl⟩) (.cons (⟨_,rfl⟩) (.cons (⟨_,rfl⟩) (.nil)))⟩
  JH:=⟨_,ah X G DL,⟨_,rfl⟩⟩
  BW:=⟨_,ah X G wK,⟨_,rfl⟩⟩
  AM:=⟨_,ah X G Bj,⟨_,rfl⟩⟩
  fL:=⟨_,ah X G sV,⟨_,rfl⟩⟩
  mD:=⟨_,ah X G uJ,⟨_,rfl⟩⟩
  uo:=⟨_,ah X G uK,⟨_,rfl⟩⟩
  qL:=⟨_,ah X G qZ,⟨_,rfl⟩⟩
  tQ:=⟨_,ah X G oG,⟨_,rfl⟩⟩
  qk:=⟨_,ah X G lD,⟨_,rfl⟩⟩
  xf:=⟨_,ah X G q_,⟨_,rfl⟩⟩
  BX:=⟨_,ah X G wL,⟨_,rfl⟩⟩
  Qq:=⟨_,ah X G Ri,⟨_,rfl⟩⟩
  BY:=⟨_,ah X G MH,rfl⟩
  BZ:=⟨_,_,_,DM,rfl,rfl,rfl,szB,.cons (⟨_,rfl⟩) (.cons (⟨_,rfl⟩) (.nil))⟩
  RU:=⟨_,ah X G MI,rfl⟩
  RV:=⟨_,_,_,DN,rfl,rfl,rfl,by show 3<=sizeLine;decide,.cons (⟨_,rfl⟩) (.cons (⟨_,rfl⟩) (.cons (⟨_,rfl⟩) (.nil)))⟩
  RW:=⟨_,ah X G MJ,rfl⟩
  RX:=⟨ML,_,_,_,[(0,t58,(.ref zK)),(1,t60,(.ref zL)),(2,t62,(.ref zM)),(3,t64,(.ref zN)),(4,t66,(.ref zO)),(5,t68,(.ref zP)),(6,t70,(.ref zQ)),(7,t72,(.ref zR)),(8,t74,(.ref zS)),(9,t76,(.ref zT)),(10,t78,(.ref v_)),(11,t80,(.ref wa)),(12,t82,(.ref wb)),(13,t84,(.ref wc)),(14,t86,(.ref we)),(15,t88,(.ref wg)),(16,t90,(.ref wj)),(17,t92,(.ref wk)),(18,t94,(.ref wm)),(19,t96,(.ref wo)),(20,t98,(.ref wq))],MK,⟨rfl,rfl,rfl⟩,rfl,by rw [aaT,aaU,aaV,aaW,aaX,aaY,aaZ,aa0,aa1,aa2,aa3,aa4,aa5,aa6,aa7,aa8,aa9,aa_,aba,abb,abc]<;>rfl,.cons (⟨rfl,V.ref zK,rfl,_,rfl,⟨_,_,_,zc,rfl,rfl,rfl,szB,.cons (⟨_,rfl⟩) (.cons (⟨_,rfl⟩) (.nil))⟩⟩) (.cons (⟨rfl,V.ref zL,rfl,_,rfl,⟨_,_,_,zd,rfl,rfl,rfl,szB,.cons (⟨_,rfl⟩) (.cons (⟨_,rfl⟩) (.nil))⟩⟩) (.cons (⟨rfl,V.ref zM,rfl,_,rfl,⟨_,_,_,ze,rfl,rfl,rfl,szB,.cons (⟨_,rfl⟩) (.cons (⟨_,rfl⟩) (.nil))⟩⟩) (.cons (⟨rfl,V.ref zN,rfl,_,rfl,⟨_,_,_,zf,rfl,rfl,rfl,szB,.cons (⟨_,rfl⟩) (.cons (⟨_,rfl⟩) (.nil))⟩⟩) (.cons (⟨rfl,V.ref zO,rfl,_,rfl,⟨_,_,_,zg,rfl,rfl,rfl,szB,.cons (⟨_,rfl⟩) (.cons (⟨_,rfl⟩) (.nil))⟩⟩) (.cons (⟨rfl,V.ref zP,rfl,_,rfl,⟨_,_,_,zh,rfl,rfl,rfl,szB,.cons (⟨_,rfl⟩) (.cons (⟨_,rfl⟩) (.nil))⟩⟩) (.cons (⟨rfl,V.ref zQ,rfl,_,rfl,⟨_,_,_,zi,rfl,rfl,rfl,szB,.cons (⟨_,rfl⟩) (.cons (⟨_,rfl⟩) (.nil))⟩⟩) (.cons (⟨rfl,V.ref zR,rfl,_,rfl,⟨_,_,_,zj,rfl,rfl,rfl,szB,.cons (⟨_,rfl⟩) (.cons (⟨_,rfl⟩) (.nil))⟩⟩) (.cons (⟨rfl,V.ref zS,rfl,_,rfl,⟨_,_,_,zl,rfl,rfl,rfl,szB,.cons (⟨_,rfl⟩) (.cons (⟨_,rfl⟩) (.nil))⟩⟩) (.cons (⟨rfl,V.ref zT,rfl,_,rfl,⟨_,_,_,zm,rfl,rfl,rfl,szB,.cons (⟨_,rfl⟩) (.cons (⟨_,rfl⟩) (.nil))⟩⟩) (.cons (⟨rfl,V.ref v_,rfl,_,rfl,⟨_,_,_,wM,rfl,rfl,rfl,szB,.cons (⟨_,rfl⟩) (.cons (⟨_,rfl⟩) (.nil))⟩⟩) (.cons (⟨rfl,V.ref wa,rfl,_,rfl,⟨_,_,_,wN,rfl,rfl,rfl,szB,.cons (⟨_,rfl⟩) (.cons (⟨_,rfl⟩) (.nil))⟩⟩) (.cons (⟨rfl,V.ref wb,rfl,_,rfl,⟨_,_,_,wO,rfl,rfl,rfl,szB,.cons (⟨_,rfl⟩) (.cons (⟨_,rfl⟩) (.nil))⟩⟩) (.cons (⟨rfl,V.ref wc,rfl,_,rfl,⟨_,_,_,wQ,rfl,rfl,rfl,szB,.cons (⟨_,rfl⟩) (.cons (⟨_,rfl⟩) (.nil))⟩⟩) (.cons (⟨rfl,V.ref we,rfl,_,rfl,⟨_,_,_,wR,rfl,rfl,rfl,szB,.cons (⟨_,rfl⟩) (.cons (⟨_,rfl⟩) (.nil))⟩⟩) (.cons (⟨rfl,V.ref wg,rfl,_,rfl,⟨_,_,_,wU,rfl,rfl,rfl,szB,.cons (⟨_,rfl⟩) (.cons (⟨_,rfl⟩) (.nil))⟩⟩) (.cons (⟨rfl,V.ref wj,rfl,_,rfl,⟨_,_,_,wV,rfl,rfl,rfl,szB,.cons (⟨_,rfl⟩) (.cons (⟨_,rfl⟩) (.nil))⟩⟩) (.cons (⟨rfl,V.ref wk,rfl,_,rfl,⟨_,_,_,wW,rfl,rfl,rfl,szB,.cons (⟨_,rfl⟩) (.cons (⟨_,rfl⟩) (.nil))⟩⟩) (.cons (⟨rfl,V.ref wm,rfl,_,rfl,⟨_,_,_,wX,rfl,rfl,rfl,szB,.cons (⟨_,rfl⟩) (.cons (⟨_,rfl⟩) (.nil))⟩⟩) (.cons (⟨rfl,V.ref wo,rfl,_,rfl,⟨_,_,_,wY,rfl,rfl,rfl,szB,.cons (⟨_,rfl⟩) (.cons (⟨_,rfl⟩) (.nil))⟩⟩) (.cons (⟨rfl,V.ref wq,rfl,_,rfl,⟨_,_,_,wZ,rfl,rfl,rfl,szB,.cons (⟨_,rfl⟩) (.cons (⟨_,rfl⟩) (.nil))⟩⟩) (.nil))))))))))))))))))))),by simp⟩
  AN:=⟨_,ah X G Bk,rfl⟩
  Gb:=⟨Bm,_,_,_,[(1,adF,(.ref dH)),(2,adH,(.ref c_)),(3,adJ,(.ref dv)),(4,adL,(.ref d_)),(5,adN,(.ref dw)),(6,adP,(.ref da)),(7,adR,(.ref dy)),(8,adT,(.ref dz)),(9,adV,(.ref ed)),(10,adX,(.ref ef)),(11,adZ,(.ref dA)),(12,ad1,(.ref ek)),(13,ad3,(.ref dc)),(14,ad5,(.ref er)),(15,ad7,(.ref eC)),(16,ad9,(.ref eD)),(17,aea,(.ref fu)),(18,aec,(.ref dg)),(19,aee,(.ref dB)),(20,aeg,(.ref eE))],Bl,⟨rfl,rfl,rfl⟩,rfl,by rw [Wg,Wh,Wi,Wj,Wk,Wl,Wm,Wn,Wo,Wq,Wr,Ws,Wt,Wu,Wv,Ww,Wx,Wy,Wz,WA]<;>rfl,.cons (⟨rfl,V.ref dH,rfl,rfl⟩) (.cons (⟨rfl,V.ref c_,rfl,rfl⟩) (.cons (⟨rfl,V.ref dv,rfl,rfl⟩) (.cons (⟨rfl,V.ref d_,rfl,rfl⟩) (.cons (⟨rfl,V.ref dw,rfl,rfl⟩) (.cons (⟨rfl,V.ref da,rfl,rfl⟩) (.cons (⟨rfl,V.ref dy,rfl,rfl⟩) (.cons (⟨rfl,V.ref dz,rfl,rfl⟩) (.cons (⟨rfl,V.ref ed,rfl,rfl⟩) (.cons (⟨rfl,V.ref ef,rfl,rfl⟩) (.cons (⟨rfl,V.ref dA,rfl,rfl⟩) (.cons (⟨rfl,V.ref ek,rfl,rfl⟩) (.cons (⟨rfl,V.ref dc,rfl,rfl⟩) (.cons (⟨rfl,V.ref er,rfl,rfl⟩) (.cons (⟨rfl,V.ref eC,rfl,rfl⟩) (.cons (⟨rfl,V.ref eD,rfl,rfl⟩) (.cons (⟨rfl,V.ref fu,rfl,rfl⟩) (.cons (⟨rfl,V.ref dg,rfl,rfl⟩) (.cons (⟨rfl,V.ref dB,rfl,rfl⟩) (.cons (⟨rfl,V.ref eE,rfl,rfl⟩) (.nil)))))))))))))))))))),by simp⟩
 }
end TS
end
open Lean in
local macro_rules|`(command|#where)=>do
 let p:=`PySem.Challenge
 let q:=p.str "cw_teamsail_s01_answers_holds"
 let l:=[1,8,9,11,71,72,127,128,206,207,293,294,329,330,385,386,437,438,494,495,580,581,631,632,655,658,675,678,686,687]
 let a:=p.str "pw_teamsail_s01_answers"::q.str "view_1"::(List.range 687).map (fun i=>q.str s!"o_{i}")++["tree","sts","heap"].flatMap fun s=>l.map fun i=>q.str s!"{s}_{i}"
 return mkNullNode (<-a.toArray.mapM fun c=>let i:=mkIdent ((`PySem.W.Fast).str s!"tw{c.hash}");`(command|theorem $i:ident:True:=⟨⟩))
#where
namespace L2
open PySem PySem.Spec PyProof.Rows PySem.W
theorem WB {p:Program} {loose:List Str} {Yk:ExcName->Option Value} {mg mb:Str->Option Value} {h:Heap} (T:Top p loose Yk mg mb h):TS.BMain h mg:=by
 obtain ⟨bm,ob,h1,h2,h3,h4,h5,h6⟩:=T.bmain
 refine ⟨bm,ob,h1,h2,fun e=>?_,h3,h4,h5,h6⟩
 obtain ⟨o,es,ep,g1,g2,_⟩:=T.g
 rw [e,g1] at h3
 cases h3
 rw [g2] at h6
 cases h6
theorem Rj {r:OpenSpec} {k:Nat} {q:Program} {loose:List Str} {XP:(Str->Option Value)->Heap->Prop} {YP:World->Heap->Prop} {d:DefRec} {K:Params->PySem.W.Frag} {ps:List Str} {sp:PySem.W.Frag->Addr->Addr->Sp}
  (aei:r.wellSaid=true) (hlen:r.args.length=ps.length) (hr:kE k callerA)
  (hY:∀ (w:World) (h:Heap),YP w h->(K w.params).In h)
  (F:∀ (w:World) (mg mb:Str->Option Value) (lo:List Str) (Yk:ExcName->Option Value) (fa:Addr) (h:Heap),(K w.params).In h->Top q lo Yk mg mb h->mg d.name=some (.ref fa)->
   ∃ (fd:FuncData) (c1 P1 c2 P2:Addr),(CodeHd h c1 P1/\h.get? P1=some (tabObj #[]))/\(CodeHd h c2 P2/\h.get? P2=some (tabObj #[]))/\(K w.params).lookup P1=none/\(K w.params).lookup P2=none/\
    (∀ (s:Shared) (us:List Value),us.length=ps.length->BindsTo s fd ⟨us,[]⟩ (ps.zip us))/\
    ∀ base:Heap,(K w.params).In base->base.Ns mainGlobals mg->TS.BMain base mg->bY r.prog w (K w.params) mg base fw k fa fd ps (sp (K w.params) P1 P2))
  (WG:∀ (K:PySem.W.Frag) (P1 P2:Addr) (H H0:Hp) (xs:List V) (a:Codec.denoteAll r.args),Codec.withinAll r.args a=true->Codec.app r.args r.asked a=true->xB K H0 xs (Codec.encAll r.args a)->aM H0 H->H P1=some (.zo #[])->H P2=some (.zo #[])->
   sp K P1 P2 xs H (fun v H'=>Dw K H' v (r.ret.enc (Codec.app r.args r.f a))) fun _ _ _=>False):
  PySem.W.WalkOS q loose XP YP r d [] (fun f vs=>PySem.call f vs):=by
 intro w Hx cY mg mb G Y fa o pm cd doc dV kV ho hd MQ hD hmg hg args vals as ah3 ah4 hrd hwl hlo
 obtain ⟨a,e1,e2⟩:=PySem.W.os_pre_some ah3
 obtain ⟨e3,hwi⟩:=Codec.encAll_of_decAll r.args args a e1
 subst e3
 have KX:=hY w _ Y
 obtain ⟨fd,c1,P1,c2,P2,Ya,SD,hK1,hK2,hb,hF⟩:=F w mg mb _ _ fa _ KX G.T hmg
 refine PySem.W.enter_call (codeAny_mono (Q9 (R:=[]) (cl:=classAt Hx.heap) (d0:=r.ret.enc (Codec.app r.args r.f a)) KX G.T.g G.T.b G.T.builtins G.T.nolimit hg (WB G.T) Ya SD hK1 hK2 hwl (Ju _ _) (FK ah4) hr hF hb (by rw [FL];exact hlen)
  (fun H H0 xs hS hs h1 h2=>WG (K w.params) P1 P2 H H0 xs a hwi e2 hS hs h1 h2)) fun r' s' hq=>?_)
 obtain ⟨u,as',rfl,h1,h2,h3,h4⟩:=hq
 exact ⟨.inl ⟨u,_,as',rfl,fun _=>rfl,h1,(OpenSpec.post_iff aei hwi _ _).mpr rfl,fun z=>Bool.noConfusion (show false=true from z)⟩,h2,h3,h4⟩
end L2
namespace TS
open PySem PySem.Spec PyProof.Rows L2
def YW (K:PySem.W.Frag) (P1 P2:Addr):Sp:=fun vs H Q _=>∃ (a:Addr) (l:List Int),vs=[.ref a]/\bO K H a (l.map V.int)/\PyVbrezy.answers_asked l=true/\TabOk H P1 X8 lp1/\TabOk H P2 lq2 lp2/\∀ (H':Hp) (b:Addr),H' b=some (.lst ((PyVbrezy.answers l).map V.int))->Q (.ref b) H'
theorem abd {P:Program} {w:World} {K:PySem.W.Frag} {mg:Str->Option Value} {base:Heap} {t:uZ} (T:Txt K mg t) {c1 P1 c2 P2:Addr} (L:tE K t c1 P1 c2 P2) (hB:BMain base mg):bY P w K mg base fw 71 t.kh t.nW ["calls"] (YW K P1 P2):=
 (Q8 T L hB).imp fun vs H Q E ⟨a,l,h1,h2,h3,h4,h5,h6⟩=>⟨a,l,h1,h2,h3,⟨h4,h5⟩,h6⟩
theorem TM {K:PySem.W.Frag} {mg:Str->Option Value} {t:uZ} (T:Txt K mg t):∀ (s:Shared) (us:List Value),us.length=(["calls"]:List Str).length->BindsTo s t.nW ⟨us,[]⟩ ((["calls"]:List Str).zip us):=by
 obtain ⟨oc,od,kV,doc,pm,an,eW,ct,Hu,e,_⟩:=T.pH.ex
 rw [e]
 exact fun s us hu=>match us,hu with | [_],_=>.of_eq rfl
end TS
open PySem PySem.W PyProof.Rows
set_option maxRecDepth 100000 in
set_option maxHeartbeats 0 in
theorem PySem.Challenge.cw_teamsail_s01_answers_holds : PySem.Challenge.rw_teamsail_s01_answers.Holds := by
 w_on;k_headS;(case hw=>exact ⟨[.list [.int 1]],by decide +kernel,by decide +kernel⟩)
 k_fillS
 refine L2.Rj (r:=PySem.Challenge.rw_teamsail_s01_answers) (k:=71) (ps:=["calls"]) (sp:=TS.YW) (by decide +kernel) rfl ⟨rfl,by decide,by decide⟩ (fun w h Y=>PySem.W.kIn_of Y) ?F ?S
 case F=>
  intro w mg mb lo Yk fa h KX T hmg
  have all:∃ (t:TS.uZ) (c1 P1 c2 P2:Addr),(TS.Txt (L2.KOf KX) mg t/\PySem.W.nsIn (L2.KOf KX) mainGlobals "answers"=some (some (.ref t.kh))/\TS.tE (L2.KOf KX) t c1 P1 c2 P2)/\PySem.W.tabIn (L2.KOf KX) "best_for"=some (c1,P1)/\PySem.W.tabIn (L2.KOf KX) "best_move"=some (c2,P2)/\(L2.KOf KX).lookup P1=none/\(L2.KOf KX).lookup P2=none:=by
   dsimp only [L2.KOf]
   refine' TS.aaG KX T.g ?Mq ?Mr ?Ms ?Mt ?Mu ?Mv ?Mw ?bM ?cG ?dI ?bN ?cg ?bZ ?cu ?eT ?Dx ?Dy ?Dz ?DA ?DB ?DC ?DD ?eU ?fK ?dU ?Mx ?My ?Mz ?MA ?MB ?MC ?MD ?fE ?m_ ?cM ?pQ ?eF ?uv ?fB ?wt ?hE ?ME ?mJ ?yG ?jl ?uw ?gr ?wu ?hU ?qP ?dS ?qQ ?qR ?fW ?A0 ?iQ ?ux ?dq ?A1 ?iR ?yH ?hZ ?sR ?dM ?yI ?jm ?yJ ?jn ?DE ?l8 ?A2 ?kZ ?uz ?eP ?uA ?dr ?pR ?eG ?A3 ?k4 ?yK ?jo ?yL ?jq ?A4 ?k5 ?wx ?fC ?DF ?nX ?A5 ?k6 ?A6 ?k7 ?qS ?e9 ?yM ?gu ?uB ?fD ?wy ?h9 ?uC ?gv ?A7 ?k8 ?wz ?h_ ?yN ?jr ?yO ?js ?A8 ?k9 ?yP ?jt ?Rf ?x_ ?qT ?e_ ?DG ?nY ?oE ?oF ?eS ?lC ?cV ?A9 ?jO ?A_ ?wA ?Ba ?Hl ?Hm ?Bb ?Bc ?iS ?yQ ?ia ?qU ?c4 ?yR ?tW ?yS ?EA ?EB ?yT ?yU ?ju ?Bd ?lg ?wB ?ib ?Be ?jP ?yV ?jv ?qV ?qW ?fX ?Rg ?vL ?yW ?ic ?uD ?gw ?wC ?ie ?yX ?jw ?wD ?ig ?uE ?gx ?wF ?ij ?wG ?ik ?yY ?jx ?yZ ?jy ?sU ?c5 ?wH ?il ?y2 ?jz ?uF ?gy ?y3 ?ip ?y4 ?jA ?y6 ?jB ?y8 ?jC ?DH ?l9 ?Bf ?lh ?uG ?gz ?wI ?iq ?y9 ?jD ?wJ ?ir ?Hn ?qi ?zU ?pH ?F7 ?nZ ?F8 ?f_ ?AL ?F9 ?JD ?F_ ?jQ ?qj ?BU ?JE ?rJ ?JF ?Ho ?Bg ?Hq ?y_ ?uH ?Rh ?Hr ?es6 ?es8 ?aaH ?DI ?za ?aaI ?aaJ ?MF ?aaK ?DJ ?aaL ?uI ?qX ?aaM ?aaN ?aaO ?aaP ?aaQ ?aaR ?aaS ?Hs ?Bh ?zb ?pS ?pT ?qY ?MG ?DK ?DL ?wK ?Bj ?sV ?uJ ?uK ?qZ ?oG ?lD ?q_ ?wL ?Ri ?MH ?DM ?MI ?DN ?MJ ?MK ?aaT ?aaU ?aaV ?aaW ?aaX ?aaY ?aaZ ?aa0 ?aa1 ?aa2 ?aa3 ?aa4 ?aa5 ?aa6 ?aa7 ?aa8 ?aa9 ?aa_ ?aba ?abb ?abc ?ML ?zc ?zd ?ze ?zf ?zg ?zh ?zi ?zj ?zl ?zm ?wM ?wN ?wO ?wQ ?wR ?wU ?wV ?wW ?wX ?wY ?wZ ?Bk ?Bl ?Wg ?Wh ?Wi ?Wj ?Wk ?Wl ?Wm ?Wn ?Wo ?Wq ?Wr ?Ws ?Wt ?Wu ?Wv ?Ww ?Wx ?Wy ?Wz ?WA ?Bm ?tb1 ?tb2 ?lk1 ?lk2 ?neP
   case Mq|Mr|Ms|Mt|Mu|Mv|Mw|bM|cG|dI|bN|cg|bZ|cu|eT|Dx|Dy|Dz|DA|DB|DC|DD|eU|fK|dU|Mx|My|Mz|MA|MB|MC|MD|fE|m_|pQ|uv|wt|ME|yG|uw|wu|qP|qQ|qR|A0|ux|A1|yH|sR|yI|yJ|DE|A2|uz|uA|pR|A3|yK|yL|A4|wx|DF|A5|A6|qS|yM|uB|wy|uC|A7|wz|yN|yO|A8|yP|Rf|qT|DG|oE|oF|lC|A9|A_=>k_is
   case cM|eF|fB|hE|mJ|jl|gr|hU|dS|fW|iQ|dq|iR|hZ|dM|jm|jn|l8|kZ|eP|dr|eG|k4|jo|jq|k5|fC|nX|k6|k7|e9|gu|fD|h9|gv|k8|h_|jr|js|k9|jt|x_|e_|nY|eS|cV|jO=>exact ⟨⟨_,_,_,_,_,_,_,_,_,rfl,by k_is,by k_is⟩,by k_is⟩
   case wA=>exact ⟨_,_,_,_,_,_,_,_,rfl,by k_is,by k_is⟩
   case Ba|Hl=>k_is
   case Hm=>exact rfl
   case Bb=>kernel_rfl
   case Bc|yQ|qU|yR=>k_is
   case iS|ia|c4=>exact ⟨⟨_,_,_,_,_,_,_,_,_,rfl,by k_is,by k_is⟩,by k_is⟩
   case tW=>exact ⟨_,_,_,_,_,_,_,_,rfl,by k_is,by k_is⟩
   case yS|EA=>k_is
   case EB=>exact rfl
   case yT=>kernel_rfl
   case yU|Bd|wB|Be|yV|qV|qW|Rg|yW|uD|wC|yX|wD|uE|wF|wG|yY|yZ|sU|wH|y2|uF|y3|y4|y6|y8|DH|Bf|uG|wI|y9|wJ|Hn|zU|F7|nZ|F8|f_|AL|F9|JD|F_|jQ|qj|BU|JE|rJ|JF|Ho|Bg|Hq|y_|uH|Rh|Hr=>k_is
   case ju|lg|ib|jP|jv|fX|vL|ic|gw|ie|jw|ig|gx|ij|ik|jx|jy|c5|il|jz|gy|ip|jA|jB|jC|l9|lh|gz|iq|jD|ir|qi|pH=>exact ⟨⟨_,_,_,_,_,_,_,_,_,rfl,by k_is,by k_is⟩,by k_is⟩
   case es6|es8|aaH=>decide +kernel
   case DI|za=>k_is
   case aaI|aaJ=>decide +kernel
   case MF=>k_is
   case aaK=>decide +kernel
   case DJ=>k_is
   case aaL=>decide +kernel
   case uI|qX=>k_is
   case aaM|aaN|aaO|aaP|aaQ|aaR|aaS=>decide +kernel
   case Hs|Bh|zb|pS|pT|qY|MG|DK|DL|wK|Bj|sV|uJ|uK|qZ|oG|lD|q_|wL|Ri|MH|DM|MI|DN|MJ|MK=>k_is
   case aaT|aaU|aaV|aaW|aaX|aaY|aaZ|aa0|aa1|aa2|aa3|aa4|aa5|aa6|aa7|aa8|aa9|aa_|aba|abb|abc|ML=>decide +kernel
   case zc|zd|ze|zf|zg|zh|zi|zj|zl|zm|wM|wN|wO|wQ|wR|wU|wV|wW|wX|wY|wZ|Bk|Bl=>k_is
   case Wg|Wh|Wi|Wj|Wk|Wl|Wm|Wn|Wo|Wq|Wr|Ws|Wt|Wu|Wv|Ww|Wx|Wy|Wz|WA|Bm=>decide +kernel
   (case tb1=>kernel_rfl);(case tb2=>kernel_rfl);(case lk1=>kernel_rfl);(case lk2=>kernel_rfl);(case neP=>decide)
  obtain ⟨t,c1,P1,c2,P2,⟨TT,ha,L⟩,t1,t2,k1,k2⟩:=all
  have e0:=hmg.symm.trans (PySem.W.mg_of KX T.g ha)
  cases e0
  exact ⟨t.nW,c1,P1,c2,P2,PySem.W.tab_of T KX rfl t1,PySem.W.tab_of T KX rfl t2,k1,k2,TS.TM TT,fun base _ _ hB=>TS.abd TT L hB⟩
 case S=>
  intro K P1 P2 H H0 xs a hwi Co hx hs h1 h2
  cases hx with
  | cons h3 h4=>
   cases h4
   cases h3 with
   | lst hq ha=>
    have e:=L2.RF a.1 _ ha
    subst e
    exact ⟨_,a.1,rfl,hs.seq hq,Co,.inl h1,.inl h2,fun H' p hp=>.lst (L2.bO.of hp) (L2.RE _)⟩
