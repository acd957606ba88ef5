import PyProof.Rows.All
import Wide.All
import OpenK.AllK
import Wide.FinOn
import PyProof.EqAt
import PyProof.EqKinds
import PyProof.TupleCall
import PyProof.DictWalks
import KE.KSortTup
import KE.KTryMore
import PyProof.NsDelKeeps
import PyProof.ReprStr
import PyProof.StrLawsRepr
import PyProof.Rows.FStr
import PyProof.ListMulRoad
import PyProof.FactsAll.tuple_2
import KE.KPairComp
import PyProof.AttrMissHeap
import PyProof.FactsAll.zip_1
import KE.KDictOf
import KE.KMinBuiltin
import PyProof.Rows.CallKwBuiltin
import PyProof.SeqI3
import PyProof.Rows.SetFrom
import KE.KEqDict
import PySem.Challenge.RW_stairsay_k61_against
set_option Elab.async false
set_option linter.all false
set_option maxRecDepth 100000
set_option maxHeartbeats 4000000
set_option bootstrap.genMatcherCode false
set_option genSizeOf false
set_option compiler.extract_closed false
namespace Lake
end Lake
open Lake
section
set_option hygiene false in
local macro_rules|`(tactic|cases $e:ident)=>`(tactic|first|subst $e|(injection $e;done)|(injection $e with q1 q2 q3;cases q1;cases q2;cases q3)|(injection $e with q1 q2;cases q1;cases q2)|(injection $e with q1;cases q1))
nonrec theorem zR(_:0=0:=by rfl)(_:0=0:=by decide):0=0:=rfl
nonrec def Zz5(x:Lean.Syntax):Lean.Syntax:=x.rewriteBottomUp λx=>
 let n(k:Lean.Name) a:Lean.Syntax:=.node .none (`Lean.Parser.Tactic++k) a
 let o(a:Array Lean.Syntax):Lean.Syntax:=.node .none `null a
 if x.isIdent then n `rcasesPat.one #[x]else if x.isOfKind `Lean.Parser.Term.hole then n `rcasesPat.ignore #[.atom .none "_"]else if x.isOfKind `Lean.Parser.Term.anonymousCtor then n `rcasesPat.tuple #[.atom .none "⟨",o (x[1].getArgs.map λy=>if y.isAtom then y else n `rcasesPatLo #[n `rcasesPatMed #[o #[y]],o #[]]),.atom .none "⟩"]else x
nonrec def Zz6(d:Lean.Syntax)(T:List (Lean.Name×Lean.Name))(x:Lean.Syntax):Lean.Syntax:=
 let n(k:Lean.Name) a:Lean.Syntax:=.node .none (`Lean.Parser.Tactic++k) a
 let o(a:Array Lean.Syntax):Lean.Syntax:=.node .none `null a
 let a(s:String):Lean.Syntax:=.atom .none s
 let c:= `Lean.Parser.Term.anonymousCtor
 match x with
 |.ident (.original ..) _ m _=>if m== `ZB then d else (Lean.mkIdent (m.components.foldl (λa c=>a++(T.lookup c).getD c) .anonymous)).raw
 |.node _ k z=>if k== `choice then (z.find? (·.isOfKind c)).getD x else if k== `«term{_}» then .node .none c #[a "⟨",x[1],a "⟩"]else if k== `Lean.Parser.Tactic.tacticLet__ then
   let y:=x[2][0]
   if y[0].isOfKind c then n `obtain #[a "obtain",o #[n `rcasesPatMed #[o #[Zz5 y[0]]]],o #[],o #[a ":=",o #[y[4]]]]else x
  else if k== `Lean.Parser.Tactic.intro then if x[1].getArgs.any (·.isOfKind c) then n `rintro #[a "rintro",o (x[1].getArgs.map λp=>n `rintroPat.one #[Zz5 p]),o #[]]else x
  else if k== `PySem.W.tacticLk then n `tacticTrivial #[a "trivial"]else if k== `Lean.Parser.Tactic.simpAutoUnfold then n `simp #[a "simp",x[1],x[2],o #[a "only"],x[4],x[5]]else x
 |x=>x
local macro_rules(kind:=Lean.Parser.Command.declaration)|s=>do
 if s.getPos?.isNone||!s[0][1].isNone||!s[0][6].isNone then Lean.Macro.throwUnsupported
 let u:=s[1][1].getTrailingSize==0&&s.getHeadInfo matches .original ..
 let d<-Lean.withRef .missing `(by decide)
 let rec q:List String->List (Lean.Name×Lean.Name)
  |a::b::l=>(.mkSimple a,b.toName)::q l
  |_=>[]
 let T:=q ("fg length p' some tH List tJ map tK heap tL Option tM Value tN Int tO Str tQ Nat tS int tU elim tV Addr tW if_pos tX size tY lst tZ toArray t6 Builtin t7 lookup t8 ref t9 sizeLine ua get? ub prog uc objs ud Shared ue wpAny uf model ug if_neg uh env uj tup uk base uq names ur bad ut Attribute uu rest uw toNat ux cons uz Bool uA Nodup uB take uC congrArg uD absurd uE Name uF Inv uG pos uH flatMap uI own uJ type uK inr uL items uM builtin uN replicate uO mainGlobals uP toList uQ True uR scope uS Heap uT builtinLookup_eq_fast uU its uV refl uW inl uX data uY outer uZ getD u0 compareOp u7 bor u8 isSome u9 bind va placeOf vb isEmpty vc Key vd False vf dropLast vg RelV vh intBits vi upd vj toks vk sizeLine_eq vm val vn reverse vo Vals vp Array vq range vt fields vv rows vz Subscript vA putAt vB beq_eq_false_iff_ne vC Fre vD starEach vE ins vF units vG non vH slot vI typeLookup_type vJ fresh vK free vL Sat vM Call vN Okk vO nil vP SeqAt vQ wpAny_holding vR body vS wpAny_Call_Name_kw vT slot_tuple_getitem vU isList vV retS vW Compare vX locals vY push vZ most v4 wpAny_mono v5 frames v6 pairs v7 Expr v8 wpAny_setField_rec v9 wpAny_call_entry wa sysModules wb String wc cLine wd tgN wf Program wg wpAny_seqItems wj makers wk asB wn wpAny_truthy_bool wo thn wp handled wq wpAny_specialOf wu kindOf wv len ww rangeSize wx pure wy exc wz tuple wA stack wD eval wF callWith_type1 wG NameKind wH ret wI cell wJ set wK World wM typeIs wN rawInt wO mpr wP src wQ ifS wR wpAny_newObj_type nR _root_.PySem.wpAny_bind nU _root_.List.length_map nV _root_.List.map_cons nW _root_.List.map_append nX _root_.List.getElem?_eq_getElem nY _root_.PySem.Heap.get?_push_of_some nZ _root_.List.size_toArray n4 _root_.List.mem_cons_of_mem n5 _root_.List.mem_cons_self n6 _root_.PySem.wpAny_pure n8 _root_.Option.map_eq_some_iff oa _root_.List.mem_map oi _root_.PySem.Heap.get?_push_size oj _root_.List.map_map ot _root_.PySem.Heap.lt_size ou _root_.List.getElem?_eq_some_iff oA _root_.Nat.lt_of_lt_of_le oE _root_.Option.bind_eq_some_iff oF _root_.List.mem_singleton oG _root_.Bool.false_ne_true oH _root_.List.dropLast_concat_getLast oI _root_.Nat.ne_of_lt oJ _root_.List.append_nil oK _root_.decide_eq_false oM _root_.Option.bind_some oN _root_.Int.emod_lt_of_pos oO _root_.List.flatMap_cons oP _root_.List.flatMap_append oQ _root_.List.append_assoc oR _root_.List.mem_range oU _root_.Int.emod_nonneg oV _root_.decide_eq_true oW _root_.List.nodup_append oX _root_.PySem.Heap.get?_update_other oY _root_.List.nodup_nil oZ _root_.List.length_take o5 _root_.List.nodup_cons o7 _root_.List.getElem?_eq_none o8 _root_.List.mem_append_right o9 _root_.List.length_singleton pe _root_.List.mem_flatMap pf _root_.List.lookup_cons ph _root_.List.mem_append_left pj _root_.PySem.wpAny_field pq _root_.List.getElem?_range pw _root_.List.length_pos_iff px _root_.List.length_range pA _root_.PySem.Heap.size_push pC _root_.List.append_of_mem pE _root_.Nat.mul_le_mul_right pF _root_.List.take_sublist pG _root_.PySem.Heap.get?_update_self pH _root_.List.all_eq_true pI _root_.List.mem_of_mem_take pJ _root_.List.mem_of_getElem? pK _root_.Nat.lt_irrefl pL _root_.List.length_eq_zero_iff pM _root_.List.map_nil pN _root_.List.filterMap_cons pO _root_.Bool.eq_iff_iff pP _root_.List.take_length pQ _root_.List.mem_of_find?_eq_some pR _root_.List.drop_eq_getElem_cons pS _root_.List.take_succ_eq_append_getElem pT _root_.Nat.min_eq_left pU _root_.List.range_succ pV _root_.List.mem_filter pW _root_.Bool.or_eq_true pX _root_.Array.length_toList pZ _root_.List.map_flatMap p7 _root_.List.flatMap_nil p8 _root_.Nat.lt_trans qa _root_.List.any_eq_false qd _root_.Array.getElem?_eq_some_iff qf _root_.List.dropLast_concat qg _root_.List.getElem?_append_left qh _root_.List.length_drop qi _root_.List.getElem_mem qj _root_.List.getElem_of_mem qk _root_.Int.toNat_of_nonneg qm _root_.Option.isSome_iff_exists qo _root_.List.of_mem_zip qp _root_.List.nil_append qr _root_.List.length_zip qt _root_.List.any_cons qu _root_.List.getElem?_set qv _root_.Int.toNat_natCast qw _root_.List.exists_cons_of_length_pos qz _root_.List.eq_nil_of_length_eq_zero qA _root_.List.cons_append qB _root_.List.getLast?_concat qC _root_.List.sum_cons qD _root_.Nat.add_mul qE _root_.List.length_reverse qF _root_.List.getElem?_append_right qG _root_.Nat.ne_of_gt qH _root_.List.mem_filterMap qI _root_.List.getElem?_take qJ _root_.List.take_add_one qK _root_.List.getElem?_cons_zero qL _root_.List.all_cons qM _root_.Nat.lt_succ_self qN _root_.List.map_reverse qO _root_.List.getElem_map qP _root_.List.filter_cons qQ _root_.List.any_eq_true qR _root_.List.take_of_length_le".splitOn " ")
 let s:=s.rewriteBottomUp λx=>
  let x:=Zz6 d T x
  let y:=x[3][0]
  let z:=y[2][0][0][0]
  let f n:=(x.setArg 2 (x[2].setArg 1 (Lean.Syntax.mkApp (Lean.mkIdent `autoParam) #[⟨x[2][1]⟩,Lean.mkIdent n]))).setArg 3 .missing
  (if !y.isOfKind ``Lean.Parser.Term.binderTactic then x else if z.isOfKind ``Lean.Parser.Tactic.tacticRfl then f `zR._auto_1 else if z.isOfKind ``Lean.Parser.Tactic.decide then f `zR._auto_2 else x).setInfo .none
 let v:=s[1]
 let s:=if u&&v.isOfKind ``Lean.Parser.Command.definition then s.setArg 1 (if v[2][1].isNone then .node .none ``Lean.Parser.Command.abbrev #[.atom .none "abbrev",v[1],v[2],v[3]]else .node .none ``Lean.Parser.Command.theorem #[.atom .none "theorem",v[1],.node .none ``Lean.Parser.Command.declSig #[v[2][0],v[2][1][0]],v[3]])else s
 let z x:=s.setArg 0 (s[0].setArg 4 (.node .none `null x))
 if s[1].isOfKind ``Lean.Parser.Command.definition||s[1].isOfKind ``Lean.Parser.Command.abbrev then return z #[.node .none ``Lean.Parser.Command.noncomputable #[.atom .none "noncomputable"]]
 if s[0][4].isNone then return s
 `(command|set_option tactic.hygienic true in $(⟨z #[]⟩):command)
open PySem.W (Frag instObj lookIn plainGet hasDictIn findIn handedIn plainGet_of isFn plainOver takerIn makesIn emptyDict keepIn methodCall_KW callWith_K fnOf codeIn kdl_dict nsIn excIn OpenLaw WalkO WalkX exmOne Looks kitOne mroIn clsIn mg_of)
open PyProof.Rows (callWith_type1 isub_int slot_tuple_getitem len_tuple boot_min boot_sum boot_all boot_list boot_tuple boot_int boot_dict envOfC boot_any boot_str boot_bool)
open PySem.F (slot_tuple_add entry_tuple_add args_tuple_add_2 plainAttrs_list slot_list_pop type_list_pop)
def n9:=@tH.length_append
def oh:=@tQ.le_refl
def om:=@tH.length_cons
def oo:=@tQ.le_trans
def oq:=@tH.getElem?_map
def oy:=@of_decide_eq_true
def oz:=@tH.mem_cons
def oB:=@uz.and_eq_true
def oS:=@tH.mem_append
def pd:=@tL.map_some
def pB:=@tQ.zero_le
def pY:=@tH.not_mem_nil
def Fg:=Frag
namespace Lake.L2
open PySem PySem.Spec PyProof.Rows
abbrev _root_.Zsc(E e es):=vD (e::es) E=(false,wD e E)::vD es E
abbrev _root_.Zbt(E p es):=(backTo p (vD es E)).any (·.1)=false
abbrev _root_.Zdb(x:tO):Prop:=(x==("__debug__":tO))=false
abbrev _root_.Zab(E o n):=attributeBase o n E (wD o E)=wD o E
abbrev _root_.Zs1(E a):=vD [a] E=[(false,wD a E)]
abbrev _root_.Zs2(E a b):=vD [a,b] E=[(false,wD a E),(false,wD b E)]
abbrev _root_.Zfs(E i):=∀x,foldedSetIterable i E x=wx x
def _root_.Zcv:=tM->ud->Prop
def _root_.Zsv:=tO->tL tM
def _root_.Zao:=tH (tV×Obj)
def vc:=Sum tN tO
def Ha :vc->tM->uz
 |.uW k,v=>tM.isInt k v
 |.uK x,v=>tM.isStrOf x v
def keyH (w:wK):vc->tN
 |.uW k=>hashInt k
 |.uK x=>hashStr w x
def A9:∀{k:vc}{v:tM},Ha k v=true->(∃i t,k=Sum.uW i/\v=tM.tS i t)\/(∃x t,k=Sum.uK x/\v=tM.str x t)
 |.uW i,v,h=>by let{t,e}:=tM.isInt_shape h;exact .uW {i,t,rfl,e}
 |.uK x,v,h=>by let{t,e}:=tM.isStrOf_shape h;exact .uK {x,t,rfl,e}
def Qc(i:tN)(t:Tok):Ha (.uW i) (.tS i t)=true:=by simp[Ha,tM.isInt]
def Qa(x:tO)(t:Tok):Ha (.uK x) (.str x t)=true:=by simp[Ha,tM.isStrOf]
def JbT(a b:tN):decide ((Sum.uW a:vc)=Sum.uW b)=(a==b):=by
 by_cases e:a=b
 .subst e;simp
 .have h:¬(Sum.uW a:vc)=Sum.uW b:=λq=>e (Sum.uW.inj q)
  rw[oK h];exact(vB.wO e).symm
def JbQ(a b:tO):decide ((Sum.uK a:vc)=Sum.uK b)=decide (a=b):=by
 by_cases e:a=b
 .subst e;simp
 .have h:¬(Sum.uK a:vc)=Sum.uK b:=λq=>e (Sum.uK.inj q)
  rw[oK h,oK e]
def JbS(a:tN)(b:tO):decide ((Sum.uW a:vc)=Sum.uK b)=false:=oK (λq=>nomatch q)
def JbR(a:tO)(b:tN):decide ((Sum.uK a:vc)=Sum.uW b)=false:=oK (λq=>nomatch q)
def Bj (ub:wf)(w:wK):PySem.KeyKind ub w vc where
 is:=Ha
 hash:=keyH w
 inj:=λv a b ha hb=>by
  rcases A9 ha with⟨i,t,rfl,rfl⟩|⟨x,t,rfl,rfl⟩
  .rcases A9 hb with⟨j,u,rfl,e⟩|⟨y,u,rfl,e⟩
   .injection e with e1 _;rw[e1]
   .exact nomatch e
  .rcases A9 hb with⟨j,u,rfl,e⟩|⟨y,u,rfl,e⟩
   .exact nomatch e
   .injection e with e1 _;rw[e1]
 byValue:=λk v h=>by rcases A9 h with⟨i,t,rfl,rfl⟩|⟨x,t,rfl,rfl⟩<;>rfl
 pyHash:=λhv h=>by
  rcases A9 hv with⟨i,t,rfl,rfl⟩|⟨x,t,rfl,rfl⟩
  .exact wpAny_pyHash_int h
  .exact wpAny_pyHash_str h
 eqBool:=λhu hv h=>by
  rcases A9 hu with⟨i,t,rfl,rfl⟩|⟨x,t,rfl,rfl⟩
  .rcases A9 hv with⟨j,u,rfl,rfl⟩|⟨y,u,rfl,rfl⟩
   .rw[JbT]at h;exact wpAny_eqBool_int h
   .rw[JbS]at h;exact vP.EqAt.int_str i t y u _ _ _ _ h
  .rcases A9 hv with⟨j,u,rfl,rfl⟩|⟨y,u,rfl,rfl⟩
   .rw[JbR]at h;exact vP.EqAt.str_int x t j u _ _ _ _ h
   .rw[JbQ]at h;exact wpAny_eqBool_str h
 «strs»:=λk x t v h=>by
  rcases A9 h with⟨i,u,rfl,e⟩|⟨y,u,rfl,e⟩
  .exact nomatch e
  .injection e with e1 _
   subst e1;cases v<;>rfl
def K8(ub:wf)(w:wK)(i:tN)(t:Tok):(Bj ub w).is (.uW i) (.tS i t)=true:=Qc i t
def K7(ub:wf)(w:wK)(x:tO)(t:Tok):(Bj ub w).is (.uK x) (.str x t)=true:=Qa x t
inductive V where
 |vG|l (b:uz)|tS (i:tN)|str (x:tO)|zw (b:vp UInt8)|yI (b:UInt64)|t8 (a:tV)|ty (n:wb)
 deriving DecidableEq
def vg :V->tM->Prop
 |.vG,u=>u=tM.none
 |.l b,u=>u=tM.bool b
 |.tS i,u=>∃t,u=tM.tS i t
 |.str x,u=>∃t,u=tM.str x t
 |.zw b,u=>∃t,u=tM.bytes b t
 |.yI b,u=>∃t,u=tM.float b t
 |.t8 a,u=>u=tM.t8 a
 |.ty n,u=>u=tM.uJ n
abbrev vo:tH V->tH tM->Prop:=Paired vg
def vo.fg(r:vo xs us):xs.fg=us.fg:=Paired.fg r
def vo.get:∀{xs:tH V}{us:tH tM}{i:tQ}{x:V},vo xs us->xs[i]?=p' x->∃u,us[i]?=p' u/\vg x u
 |_,_,_,_,.vO,e=>by simp at e
 |_,_,0,_,.ux r _,e=>by simp at e;subst e;exact{_,rfl,r}
 |_,_,i+1,x,.ux _ t,e=>by let{u,h1,h2}:=vo.get t (by simpa using e);exact{u,by simpa using h1,h2}
def vo.wJ(r:vg x u):∀{xs:tH V}{us:tH tM}(i:tQ),vo xs us->vo (xs.wJ i x) (us.wJ i u)
 |_,_,_,.vO=>.vO
 |_,_,0,.ux _ t=>.ux r t
 |_,_,i+1,.ux q t=>.ux q (vo.wJ r i t)
def vo.append:∀{xs ys:tH V}{us ws:tH tM},vo xs us->vo ys ws->vo (xs++ys) (us++ws)
 |_,_,_,_,.vO,s=>s
 |_,_,_,_,.ux r t,s=>.ux r (vo.append t s)
def vo.uB:∀{xs:tH V}{us:tH tM}(n:tQ),vo xs us->vo (xs.uB n) (us.uB n)
 |_,_,0,_=>.vO
 |_,_,_+1,.vO=>.vO
 |_,_,n+1,.ux r t=>.ux r (vo.uB n t)
def vo.drop:∀{xs:tH V}{us:tH tM}(n:tQ),vo xs us->vo (xs.drop n) (us.drop n)
 |_,_,0,r=>r
 |_,_,_+1,.vO=>.vO
 |_,_,n+1,.ux _ t=>vo.drop n t
def Bg :tL V->tL tM->Prop
 |p' v,p' u=>vg v u
 |none,none=>uQ
 |_,_=>vd
def KV {κ:Type}:tH (κ×V)->tH (κ×tM)->Prop:=Paired λ(p:κ×V)(q:κ×tM)=>p.1=q.1/\vg p.2 q.2
def kV :vc->V
 |.uW i=>.tS i
 |.uK x=>.str x
inductive HO where
 |tY (xs:tH V)
 |uj (xs:tH V)
 |v (ag:tH (vc×V))|q (ag:tH (tH vc×V))
 |wJ (S:tN->uz) (n:tQ)
 |vE (C dx:tV) (fs:tH (tO×V))
 |uI (x:tV)
 |xd (fs:tH (tO×V))
 |met (f x:tV)
 |yF (lo hi:tN)
 |frz (o:Obj) (u:HO)
 |yT (ps:vp tM)
 |ext (φ:uS->Prop)
def Hp:=tV->tL HO
def vi (H:Hp)(a:tV)(o:HO):Hp:=λb=>if b=a then p' o else H b
def Aq:vi H a o a=p' o:=by unfold vi;rw[tW rfl]
def Ap(h:b≠a):vi H a o b=H b:=by unfold vi;rw[ug h]
def KH{H:Hp}{a:tV}{o u:HO}:vi (vi H a o) a u=vi H a u:=by funext b;unfold vi;split<;>rfl
def ne_of{H:Hp}(h:H a=p' o)(h':H b=p' u)(d:o≠u):a≠b:=by intro e;subst e;rw[h]at h';exact d (tL.p'.inj h')
def Bm{H:Hp}(h:H a=p' o)(h':H b=none):a≠b:=by intro e;subst e;rw[h]at h';cases h'
def PlT (h:uS)(a:tV)(uL:vp tM):Prop:=∃o,h.ua a=p' o/\o.cls=.uJ "tuple"/\∃n,o.uX=.seq uL n/\o.dict=none
def PlT.uj{h:uS}{a:tV}{uL:vp tM}(x:PlT h a uL):IsTup h a uL:=let{o,e,c,n,d,_}:=x;{o,e,c,n,d}
def PlT.lt{h:uS}{a:tV}{uL:vp tM}(x:PlT h a uL):a<h.uc.tX:=x.uj.lt
def PlT.new(h:uS)(uL:vp tM):PlT (h.vY {cls:=.uJ "tuple",uX:=.seq uL}) h.uc.tX uL:={_,oi _ rfl,rfl,_,rfl,rfl}
section
variable(P:Program)(w:World)
def Bt (H:Hp)(h:uS)(a:tV):HO->Prop
 |.tY xs=>xs.fg<=t9/\∃(uU:tH tM)(n:tQ),vo xs uU/\h.ua a=p' {cls:=.uJ "list",uX:=.seq uU.tZ n}
 |.uj xs=>xs.fg<=t9/\∃uU:tH tM,vo xs uU/\PlT h a uU.tZ
 |.v ag=>ag.fg<=t9/\(a==wa)=false/\∃vs,KV ag vs/\h.DictOf (Bj P w) a vs
 |.q ag=>ag.fg<=t9/\(a==wa)=false/\∃xs:tH (tH vc×tV×tM),
   Paired (λ(p:tH vc×V)(q:tH vc×tV×tM)=>p.1=q.1/\H q.2.1=p' (.uj (p.1.tJ kV))/\vg p.2 q.2.2) ag xs /\
   ∃o es ep,h.ua a=p' o/\o.ExactDict/\o.uX=.dict es ep/\es.uP=xs.tJ (entryOfKey (tupleKind (Bj P w)))/\(xs.tJ (·.1)).uA
 |.wJ S n=>h.SetOf (intKind P w) a S n
 |.vE C dx fs=>H dx=p' (.uI a)/\fs.fg<=1000/\dx≠a/\h.ua a=p' (instObj C dx) /\
   ∃mA,h.Ns1 dx mA/\(∀f,Bg (fs.t7 f) (mA f))/\PySem.Within mA (fs.tJ (·.1))
 |.uI _=>∃o,h.ua a=p' o
 |.xd fs=>∃mA,h.Ns1 a mA/\∀f,Bg (fs.t7 f) (mA f)
 |.yF lo hi=>∃t u v,h.ua a=p' {cls:=.uJ "range",uX:=.vt #[.tS lo t,.tS hi u,.tS 1 v]}
 |.frz o u=>h.ua a=p' o/\Bt H h a u
 |.yT ps=>h.ua a=p' {cls:=.none,uX:=.vt ps}
 |.met f x=>h.ua a=p' (PySem.W.methodObj (.t8 f) (.t8 x))
 |.ext φ=>φ h/\(∃o,h.ua a=p' o)/\∀h1 h2:uS,φ h1->(∀o,h1.ua a=p' o->h2.ua a=p' o)->φ h2
def HOk (H:Hp)(h:uS):Prop:=∀a o,H a=p' o->Bt P w H h a o
end
variable{P:Program}{w:World}{H H':Hp}{h h':Heap}{a:Addr}{o:HO}
def Bt.lt(x:Bt P w H h a o):a<h.uc.tX:=by cases o with|tY xs=>let{_,_,_,_,e}:=x;exact ot e|uj xs=>let{_,_,_,p}:=x;exact p.lt|v ag=>let{_,_,_,_,o,_,_,e,_}:=x;exact ot e|q ag=>let{_,_,_,_,o,_,_,e,_}:=x;exact ot e|wJ S n=>let{o,_,_,_,e,_}:=x;exact ot e|vE C dx fs=>let{_,_,_,e,_}:=x;exact ot e|uI y=>let{_,e}:=x;exact ot e|xd fs=>let{_,{_,_,_,e,_},_}:=x;exact ot e|yF lo hi=>let{_,_,_,e}:=x;exact ot e|frz ob u=>let{e,_}:=x;exact ot e|yT ps=>exact ot (show h.ua a=p' _ from x)|met f y=>exact ot (show h.ua a=p' _ from x)|ext φ=>let{_,{_,e},_}:=x;exact ot e
def Paired.mapP:∀{l₁:tH α}{l₂:tH β},Paired F l₁ l₂->(∀a b,F a b->G a b)->Paired G l₁ l₂
 |_,_,.vO,_=>.vO
 |_,_,.ux r t,f=>.ux (f _ _ r) (Paired.mapP t f)
def Bt.U0(x:Bt P w H h a o)(k:∀b u,(b=a\/H b=p' (.uI a))->h.ua b=p' u->h'.ua b=p' u)
  (ho:∀b,H b=p' (.uI a)->H' b=p' (.uI a)) (ht:∀b xs,H b=p' (.uj xs)->H' b=p' (.uj xs)):Bt P w H' h' a o:=by
 induction o with|tY xs=>let{z,uU,n,r,e}:=x;exact{z,uU,n,r,k _ _ (.uW rfl) e}|uj xs=>let{z,uU,r,ob,e,c}:=x;exact{z,uU,r,ob,k _ _ (.uW rfl) e,c}|v ag=>let{z,y,vs,r,ob,es,ep,e,c}:=x;exact{z,y,vs,r,ob,es,ep,k _ _ (.uW rfl) e,c}|q ag =>let{z,y,xs,r,ob,es,ep,e,c}:=x;exact{z,y,xs,Paired.mapP r λp q z=>{z.1,ht _ _ z.2.1,z.2.2},ob,es,ep,k _ _ (.uW rfl) e,c}|wJ S n=>let{ob,es,ep,t,e,c}:=x;exact{ob,es,ep,t,k _ _ (.uW rfl) e,c}|vE C dx fs =>let{d,z,ne,e,mA,{od,es,ep,e2,c},r}:=x;exact{ho _ d,z,ne,k _ _ (.uW rfl) e,mA,{od,es,ep,k _ _ (.uK d) e2,c},r}|uI y=>let{ob,e}:=x;exact{ob,k _ _ (.uW rfl) e}|xd fs=>let{mA,{od,es,ep,e,c},r}:=x;exact{mA,{od,es,ep,k _ _ (.uW rfl) e,c},r}|yF lo hi=>let{t,u,v,e}:=x;exact{t,u,v,k _ _ (.uW rfl) e}|frz ob u ih=>let{e,q}:=x;exact{k _ _ (.uW rfl) e,ih q}|yT ps =>have e:=x;exact k a _ (.uW rfl) e|met f y =>have e:=x;exact k a _ (.uW rfl) e|ext φ=>let{p,{o,e},st}:=x;exact{st _ _ p λo q=>k _ _ (.uW rfl) q,{o,k _ _ (.uW rfl) e},st}
def HOk.lt(x:HOk P w H h)(e:H a=p' o):a<h.uc.tX:=(x a o e).lt
def HOk.vJ(x:HOk P w H h)(e:h.uc.tX<=a):H a=none:=by cases q:H a with|none=>rfl|p' u=>exact uD (oA (x.lt q) e) (pK _)
def HOk.kept(x:HOk P w H h)(k:∀b u,h.ua b=p' u->h'.ua b=p' u):HOk P w H h':=λa o e =>(x a o e).U0 (λb u _ q=>k b u q) (λ_ q=>q) λ_ _ q=>q
def HOk.laid(x:HOk P w H h)(k:∀b u,h.ua b=p' u->h'.ua b=p' u)(hp:h.uc.tX<=a)(new:Bt P w (vi H a o) h' a o):HOk P w (vi H a o) h':=λb u e=>by
 have hn:=x.vJ hp;by_cases hb:b=a
 .subst hb;rw[Aq]at e;cases e;exact new
 .rw[Ap hb]at e;exact(x b u e).U0 (λc v _ q=>k c v q) (λc q=>by rwa[Ap (Bm q hn)]) λc xs q=>by rwa[Ap (Bm q hn)]
def Rd (H:Hp)(a:tV)(u:HO):Prop:=H a=p' u\/∃o,H a=p' (.frz o u)
def Rd.ok(r:Rd H a u)(x:HOk P w H h):Bt P w H h a u:=by
 rcases r with r|⟨o,r⟩
 .exact x a u r
 .let{_,q}:=x a _ r;exact q
def Mut :tL HO->Prop
 |p' (.tY _)=>uQ
 |p' (.v _)=>uQ
 |p' (.q _)=>uQ
 |p' (.wJ _ _)=>uQ
 |p' (.vE _ _ _)=>uQ
 |p' (.ext _)=>uQ
 |_=>vd
variable{x e:Addr}{o':HO}
def HOk.write(ok:HOk P w H h)(mu:Mut (H x))(he:e=x\/H e=p' (.uI x))(k:∀b u,b≠e->h.ua b=p' u->h'.ua b=p' u)(fH:∃u,h'.ua e=p' u)
  (new:Bt P w (vi H x o') h' x o'):HOk P w (vi H x o') h':=λb u q=>by
 have gH:∀c y,H c=p' (.uI y)->c≠x:=λc y r z=>by subst z;rwa[r]at mu
 have i9:∀c xs,H c=p' (.uj xs)->c≠x:=λc xs r z=>by subst z;rwa[r]at mu
 by_cases hb:b=x
 .subst hb;rw[Aq]at q;cases q;exact new
 .rw[Ap hb]at q;by_cases cY:b=e
  .have q':H b=p' (.uI x):=by
    rcases he with z|z
    .exact uD (cY.trans z) hb
    .rwa[cY]
   rw[q]at q';cases q';let{v,hv}:=fH;exact{v,by rwa[cY]}
  .refine(ok b u q).U0 (λc v hc r=>k c v ?_ r) (λc r=>by rwa[Ap (gH c b r)]) λc xs r=>by rwa[Ap (i9 c xs r)]
   rcases hc with rfl|hc
   .exact cY
   .rintro rfl
    rcases he with z|z
    .exact gH c b hc z
    .rw[hc]at z;cases z;exact hb rfl
structure Un(fs ex:tH tV)(H H':Hp)(h h':uS):Prop where
 keep:∀b o,h.ua b=p' o->H b=none->b∉fs->b∉ex->h'.ua b=p' o
 vH:∀b o,h.ua b=p' o->H b=none->b∈fs->b∉ex->∃sl,h'.ua b=p' {o with slots:=sl}
 vK:∀b o,h.ua b=p' o->H b=none->b∉ex->H' b=none
 there:∀b o,h.ua b=p' o->b∉ex->∃o',h'.ua b=p' o'
 zz:∀b xs,H b=p' (.uj xs)->H' b=p' (.uj xs)
 zI:∀b o u,H b=p' (.frz o u)->H' b=p' (.frz o u)
 zA:∀b ps,H b=p' (.yT ps)->∃more,H' b=p' (.yT (ps++more))
variable{ak ex nq:List Addr}{H1 H2:Hp}{h1 h2:Heap}
section
variable{fs:List Addr}
def Un.any(u:Un fs ex H H1 h h1){b:tV}{ob:Obj}(q:h.ua b=p' ob)(n:H b=none)(hx:b∉ex):∃sl,h1.ua b=p' {ob with slots:=sl}:=by
 by_cases hb:b∈fs
 .exact u.vH b ob q n hb hx
 .exact{ob.slots,u.keep b ob q n hb hx}
def Un.kept(k:∀b u,h.ua b=p' u->h'.ua b=p' u):Un fs ex H H h h' :=
 {λb ob q _ _ _=>k b ob q,λb ob q _ _ _=>{ob.slots,k b ob q},λ_ _ _ n _=>n,λb ob q _=>{ob,k b ob q},λ_ _ q=>q,λ_ _ _ q=>q,λ_ ps q=>{#[],by rw[q];simp} }
def Un.uV:Un fs ex H H h h:=Un.kept λ_ _ q=>q
def Un.laid(k:∀b u,h.ua b=p' u->h'.ua b=p' u)(hp:h.uc.tX<=a)(hn:H a=none):Un fs ex H (vi H a o) h h' where
 keep:=λb u q _ _ _=>k b u q
 vH:=λb u q _ _ _=>{u.slots,k b u q}
 vK:=λb u q n _=>by rwa[Ap (oI (oA (ot q) hp))]
 there:=λb u q _=>{u,k b u q}
 zz:=λb xs q=>by rwa[Ap (Bm q hn)]
 zI:=λb u xs q=>by rwa[Ap (Bm q hn)]
 zA:=λb ps q=>{#[],by rw[Ap (Bm q hn),q];simp}
def Un.write(mu:Mut (H x))(he:e=x\/H e=p' (.uI x))(k:∀b u,b≠e->h.ua b=p' u->h'.ua b=p' u)(fH:∃u,h'.ua e=p' u):Un fs ex H (vi H x o) h h':=by
 have hx:∀b,H b=none->b≠x:=λb n z=>by subst z;rwa[n]at mu
 have hb:∀b,H b=none->b≠e:=λb n z=>by
  subst z;rcases he with r|r
  .exact hx b n r
  .rw[n]at r;cases r
 have hm:∀b u,H b=p' u->¬Mut (p' u)->b≠x:=λb u q nm z=>by subst z;rw[q]at mu;exact nm mu
 refine{λb u q n _ _=>k b u (hb b n) q,λb u q n _ _=>{u.slots,k b u (hb b n) q},λb u q n _=>by rw[Ap (hx b n)];exact n,λb u q _=>?_,
  λb xs q=>by rw[Ap (hm b _ q λz=>z)];exact q,λb u xs q=>by rw[Ap (hm b _ q λz=>z)];exact q,λb ps q=>{#[],by rw[Ap (hm b _ q λz=>z),q];simp} }
 by_cases cY:b=e
 .subst cY;exact fH
 .exact{u,k b u cY q}
end
def trk (h:uS)(H:Hp):tH tV:=(tH.vq h.uc.tX).filter λa=>(H a).u8
def Tc (h:uS)(H:Hp):uS:=PySem.W.hideAll h (trk h H)
def Qq(h:uS)(H:Hp):(Tc h H).uc.tX=h.uc.tX:=PySem.W.hideAll_size _ _
def Tb{o}(e:h.ua b=p' o)(n:H b=none):(Tc h H).ua b=p' o :=
 PySem.W.hideAll_get _ e λhm=>by have q:=(pV.mp hm).2;rw[n]at q;simp at q
def Xz{o}(e:(Tc h H).ua b=p' o):h.ua b=p' o/\H b=none:=by have e':=PySem.W.of_hideAll (trk h H) e;refine{e',?_};cases q:H b with|none=>rfl|p' x =>have hm:b∈trk h H:=pV.wO {oR.wO (ot e'),by simp[q]};have z:(Tc h H).ua b=none:=PySem.W.hideAll_none (trk h H) hm;rw[z]at e;cases e
structure Mod(K:Fg)(mg:Zsv)(uk:uS):Prop where
 yU:K.In uk
 glob:uk.Ns uO mg
 blt:∃mb,uk.Ns builtinsNs mb/\∀x:tO,x≠"__name__"->mb x=bootBuiltins x
 nolimit:uk.NoLimit
structure Cx where
 ub:wf
 w:wK
 K:Fg
 mg:tO->tL tM
 uk:uS
 A:Around
 N:tH tO
 zW:ud
 y1:Hp
 uh:Env
 uY:tH Env
 wA:tH Env
 ex:tH tV
 fn:tO->uz
 calm:uz
 pn:tH (tV×Obj)
 xe:tM->ud->Prop
def frs (l:tH Env):tH tV:=l.filterMap (·.frame)
abbrev Cx.fs(X:Cx):tH tV:=frs X.uY
def Vis (sc:Scope)(x:tO):Prop:=sc.uq.t7 x=p' .local\/sc.uq.t7 x=p' .wI\/sc.uq.t7 x=p' .vK
def Loc (sc:Scope)(x:tO):Prop:=sc.uq.t7 x=p' .local\/sc.uq.t7 x=p' .wI
def Look (uh:Env)(h:uS)(m:Zsv)(x:tO)(u:tM):Prop :=
 (uh.wu x=p' .local/\m x=p' u)\/((uh.wu x=p' .wI\/uh.wu x=p' .vK)/\∃c,uh.cells.t7 x=p' c/\h.IsCell c (p' u))
structure Cx.Ok(X:Cx):Prop where
 mod:Mod X.K X.mg X.uk
 kind:X.uh.uR.kind=.function
 glob:X.uh.globals=uO
 blt:X.uh.builtins=builtinsNs
 above:X.zW.tK.uc.tX<=X.uh.vX
 inj:∀x y c,X.uh.cells.t7 x=p' c->X.uh.cells.t7 y=p' c->x=y
 has:∀x,(X.uh.wu x=p' .wI\/X.uh.wu x=p' .vK)->∃c,X.uh.cells.t7 x=p' c
 yR:∀x c,X.fn x=true->X.uh.cells.t7 x=p' c->X.zW.tK.uc.tX<=c
 hd:X.calm=true->X.A.wp=none
 v5:X.A.v5=p' X.wA
 yM:X.wA=X.uY\/(X.wA=X.uh::X.uY/\X.uh.frame=p' X.uh.vX)
 yL:∀b∈X.ex,b≠X.uh.vX/\∀x c,X.uh.cells.t7 x=p' c->c≠b
 bs:∀b o,X.uk.ua b=p' o->X.zW.tK.ua b=p' o/\X.y1 b=none
 ze:X.uk.uc.tX<=X.zW.tK.uc.tX
 zc:∀b o,X.uk.ua b=p' o->b∉X.ex
 zd:∀b∈X.ex,b∉X.fs
 MH:X.zW.tK.FunFrames X.uk X.uY
 yW:∀b∈X.fs,X.y1 b=none
structure uF(X:Cx)(aa:Zao)(U:tH (tL V))(H:Hp)(s:ud):Prop where
 ok:X.Ok
 os:s.os=X.zW.os
 bare:AllBare s.gens
 uk:Un X.fs X.ex X.y1 H X.zW.tK s.tK
 loc:∃m,s.tK.Ns X.uh.vX m/\∀(i:tQ)(x:tO)(v:V),X.N[i]?=p' x->U[i]?=p' (p' v)->Vis X.uh.uR x->∃u,vg v u/\Look X.uh s.tK m x u
 wI:∀x c,X.uh.cells.t7 x=p' c->∃v,s.tK.IsCell c v
 vK:H X.uh.vX=none
 zV:∀x c,X.uh.cells.t7 x=p' c->H c=none
 pin:∀p∈X.pn++aa,s.tK.ua p.1=p' p.2/\H p.1=none/\p.1≠X.uh.vX/\p.1∉X.fs/\∀v,p.2.uX≠.wI v
 zZ:HOk X.ub X.w H s.tK
 wv:U.fg=X.N.fg
variable{X:Cx}{aa:Zao}{U:List (Option V)}{s:Shared}
def Cx.Ok.nofr{o}(ok:X.Ok)(e:X.uk.ua b=p' o):b∉X.fs:=λhb=>by have:=(ok.MH.mem hb).1;rw[e]at this;cases this
def uF.bs(I:uF X aa U H s):∀b o,X.uk.ua b=p' o->s.tK.ua b=p' o/\H b=none:=λb o e =>{I.uk.keep b o (I.ok.bs b o e).1 (I.ok.bs b o e).2 (I.ok.nofr e) (I.ok.zc b o e),I.uk.vK b o (I.ok.bs b o e).1 (I.ok.bs b o e).2 (I.ok.zc b o e)}
def uF.bk(I:uF X aa U H s):∀b o,X.uk.ua b=p' o->s.tK.ua b=p' o:=λb o e=>(I.bs b o e).1
def uF.mod(I:uF X aa U H s):Mod X.K X.mg X.uk:=I.ok.mod
def uF.kIn(I:uF X aa U H s):X.K.In s.tK:=I.ok.mod.yU.keeps I.bk
def uF.lt(I:uF X aa U H s):X.uh.vX<s.tK.uc.tX:=let{_,hn,_}:=I.loc;hn.lt
def uF.sz(I:uF X aa U H s):X.zW.tK.uc.tX<=s.tK.uc.tX:=oo I.ok.above (tQ.le_of_lt I.lt)
def uF.nofs(I:uF X aa U H s)(h:s.tK.uc.tX<=a):a∉X.fs:=λhb=>by let{_,o,ho,_}:=I.ok.MH.mem hb;exact uD (oA (ot ho) (oo I.sz h)) (pK _)
def uF.cne(I:uF X aa U H s):∀x c,X.uh.cells.t7 x=p' c->c≠X.uh.vX:=λx c e z=>by let{v,o,ho,hd}:=I.wI x c e;let{m,{o',es,ep,cu,bP,_},_}:=I.loc;rw[z,cu]at ho;cases ho;rw[bP]at hd;cases hd
def uF.MH(I:uF X aa U H s):s.tK.FunFrames X.uk X.uY:=by
 have all:∀(l:tH Env),(∀b∈frs l,b∈X.fs)->X.zW.tK.FunFrames X.uk l->s.tK.FunFrames X.uk l:=by
  intro l
  induction l with
  |vO=>intro _ _;lk
  |ux uh r ih =>
   intro hs hl;let{hk,{L,o,hf,hn,ho,hd},hr}:=hl;have hL:=hs L (by unfold frs;rw[pN,hf];exact n5);let{sl,e}:=I.uk.vH L o ho (I.ok.yW L hL) hL λz=>I.ok.zd L z hL
   exact{hk,{L,_,hf,hn,e,hd},ih (λb hb=>hs b (by unfold frs;rw[pN,hf];exact n4 _ hb)) hr}
 exact all X.uY (λ_ hb=>hb) I.ok.MH
def uF.wA(I:uF X aa U H s):s.tK.FunFrames X.uk X.wA:=by
 rcases I.ok.yM with e|⟨e,hf⟩
 .rw[e];exact I.MH
 .rw[e];let{m,hn,_}:=I.loc;refine .ux (by rw[I.ok.kind];decide) hf hn ?_ I.MH;exact uS.get?_none_of_le (oo I.ok.ze I.ok.above)
def uF.Jr(I:uF X aa U H s):∀b∈frs X.wA,b∈X.uh.vX::X.fs:=λb hb=>by
 rcases I.ok.yM with e|⟨e,hf⟩
 .rw[e]at hb;exact n4 _ hb
 .rw[e]at hb;unfold frs at hb;rwa[pN,hf]at hb
def uF.KR(I:uF X aa U H s):∀b∈frs X.wA,H b=none:=λb hb=>by
 rcases oz.mp (I.Jr b hb)with e|hb
 .rw[e];exact I.vK
 .let{_,o,ho,_}:=I.ok.MH.mem hb;exact I.uk.vK b o ho (I.ok.yW b hb) λz=>I.ok.zd b z hb
def uF.step{ch:tH tV}(I:uF X aa U H s)
  (cF:∀b∈ch,(b∈X.ex\/X.zW.tK.uc.tX<=b)/\b≠X.uh.vX/\(∀x c,X.uh.cells.t7 x=p' c->c≠b)/\∀p∈X.pn++aa,p.1≠b)
  (keep:∀b o,b≠X.uh.vX->b∉X.fs->b∉ch->s.tK.ua b=p' o->H b=none->h'.ua b=p' o)
  (vH:∀b o,b≠X.uh.vX->b∈X.fs->b∉ch->s.tK.ua b=p' o->H b=none->∃sl,h'.ua b=p' {o with slots:=sl}) (vK:∀b o,b∉ch->s.tK.ua b=p' o->H b=none->H' b=none)
  (there:∀b o,b∉ch->s.tK.ua b=p' o->∃o',h'.ua b=p' o')
  (zz:∀b xs,H b=p' (.uj xs)->H' b=p' (.uj xs)) (zI:∀b o u,H b=p' (.frz o u)->H' b=p' (.frz o u)) (zA:∀b ps,H b=p' (.yT ps)->∃more,H' b=p' (.yT (ps++more)))
  (ns:∀m,s.tK.Ns X.uh.vX m->h'.Ns X.uh.vX m) (zZ:HOk X.ub X.w H' h') (hg:AllBare g') :
  uF X aa U H' {s with tK:=h',gens:=g',drawn:=d',vj:=t' }:=by
 have jT:∀b o,X.zW.tK.ua b=p' o->b≠X.uh.vX:=λb o e=>oI (oA (ot e) I.ok.above)
 have hU:∀b o,X.zW.tK.ua b=p' o->b∉X.ex->b∉ch:=λb o e hx hb=>by
  rcases(cF b hb).1 with z|z
  .exact hx z
  .exact uD (oA (ot e) z) (pK _)
 have bQ:∀x c,X.uh.cells.t7 x=p' c->∀v,s.tK.IsCell c v->h'.IsCell c v:=λx c e v {o,ho,hd}=>by
  have gE:=λz=>(cF c z).2.2.1 x c e rfl
  by_cases hc:c∈X.fs
  .let{sl,q}:=vH c o (I.cne x c e) hc gE ho (I.zV x c e);exact{_,q,hd}
  .exact{o,keep c o (I.cne x c e) hc gE ho (I.zV x c e),hd}
 refine{I.ok,I.os,hg,{λb o e n hb hx=>?_,λb o e n hb hx=>?_,λb o e n hx=>?_,λb o e hx=>?_,λb xs e=>zz b xs (I.uk.zz b xs e),λb o xs e=>zI b o xs (I.uk.zI b o xs e),λb ps e=>?_},?_,λx c e=>?_,?_,λx c e=>?_,λp hp=>?_,zZ,I.wv}
 .exact keep b o (jT b o e) hb (hU b o e hx) (I.uk.keep b o e n hb hx) (I.uk.vK b o e n hx)
 .let{sl,e1}:=I.uk.vH b o e n hb hx;let{mF,e2}:=vH b _ (jT b o e) hb (hU b o e hx) e1 (I.uk.vK b o e n hx);exact{mF,e2}
 .let{o',e1}:=I.uk.there b o e hx;exact vK b o' (hU b o e hx) e1 (I.uk.vK b o e n hx)
 .let{o',e1}:=I.uk.there b o e hx;exact there b o' (hU b o e hx) e1
 .let{m1,e1}:=I.uk.zA b ps e;let{m2,e2}:=zA b _ e1;exact{m1++m2,by rw[e2,vp.append_assoc]}
 .let{m,hn,hl}:=I.loc;refine{m,ns m hn,λi x v e1 e2 e3=>?_};let{u,r,l}:=hl i x v e1 e2 e3;refine{u,r,?_};rcases l with l|⟨k,c,e,z⟩
  .exact .uW l
  .exact .uK {k,c,e,bQ x c e _ z}
 .let{v,z}:=I.wI x c e;exact{v,bQ x c e v z}
 .let{m,{o,_,_,ho,_},_}:=I.loc;exact vK _ o (λz=>(cF _ z).2.1 rfl) ho I.vK
 .let{v,o,ho,hd}:=I.wI x c e;exact vK c o (λz=>(cF c z).2.2.1 x c e rfl) ho (I.zV x c e)
 .let{e,n,ne,nf,d}:=I.pin p hp;have gE:=λz=>(cF p.1 z).2.2.2 p hp rfl
  exact{keep p.1 p.2 ne nf gE e n,vK p.1 p.2 gE e n,ne,nf,d}
def uF.un(I:uF X aa U H s)(u:Un X.fs [] H H' s.tK h')(zZ:HOk X.ub X.w H' h'):uF X aa U H' {s with tK:=h',vj:=t' }:=by let{m,{o,es,ep,ho,r},_}:=id I.loc;let{sl,hL}:=u.any ho I.vK (by simp);exact I.step (ch:=[]) (λ_ z=>nomatch z) (λb o _ hb _ e n=>u.keep b o e n hb (by simp)) (λb o _ hb _ e n=>u.vH b o e n hb (by simp)) (λb o _ e n=>u.vK b o e n (by simp)) (λb o _ e=>u.there b o e (by simp)) u.zz u.zI u.zA (λm' hm=>by let{o',cD,iy,cu,r'}:=hm;rw[ho]at cu;cases cu;exact{_,cD,iy,hL,r'}) zZ I.bare
def uF.call(I:uF X aa U H s)(u:Un (frs X.wA) ch H H' s.tK h')(zZ:HOk X.ub X.w H' h')(hg:AllBare g')
  (cF:∀b∈ch,(b∈X.ex\/X.zW.tK.uc.tX<=b)/\b≠X.uh.vX/\(∀x c,X.uh.cells.t7 x=p' c->c≠b)/\∀p∈X.pn++aa,p.1≠b) :
  uF X aa U H' {s with tK:=h',gens:=g',drawn:=d',vj:=t' }:=by
 let{m,{o,es,ep,ho,r},_}:=id I.loc;let{sl,hL}:=u.any ho I.vK λz=>(cF _ z).2.1 rfl
 exact I.step cF (λb o hL hb hc e n=>u.keep b o e n (λz=>(oz.mp (I.Jr b z)).tU hL hb) hc) (λb o _ _ hc e n=>u.any e n hc) (λb o hc e n=>u.vK b o e n hc) (λb o hc e=>u.there b o e hc) u.zz u.zI u.zA (λm' hm=>by let{o',cD,iy,cu,r'}:=hm;rw[ho]at cu;cases cu;exact{_,cD,iy,hL,r'}) zZ hg
def uF.turned(I:uF X aa U H s)(k:∀b o,b≠it->s.tK.ua b=p' o->h'.ua b=p' o)(hn:H it=none)(hL:it≠X.uh.vX)
  (h1:it∈X.ex\/X.zW.tK.uc.tX<=it) (h2:∀x c,X.uh.cells.t7 x=p' c->c≠it) (h3:∀p∈X.pn++aa,p.1≠it):uF X aa U H {s with tK:=h',vj:=t' }:=by
 have gF:∀b u,H b=p' u->b≠it:=λb u e z=>by rw[z,hn]at e;cases e
 refine I.step (ch:=[it]) (λb hb=>?_) (λb o _ _ hc e _=>k b o (λz=>hc (by simp[z])) e) (λb o _ _ hc e _=>{o.slots,k b o (λz=>hc (by simp[z])) e}) (λ_ _ _ _ n=>n)
  (λb o hc e=>{o,k b o (λz=>hc (by simp[z])) e}) (λ_ _ e=>e) (λ_ _ _ e=>e) (λb ps e=>{#[],by rw[e];simp}) (λm hm=>?_) (λb u e=>?_) I.bare
 .have e:=by simpa using hb
  subst e;exact{h1,hL,h2,h3}
 .let{o,es,ep,ho,r}:=hm;exact{o,es,ep,k _ o (Ne.symm hL) ho,r}
 .refine(I.zZ b u e).U0 (λc v hc q=>k c v ?_ q) (λ_ q=>q) λ_ _ q=>q
  rcases hc with z|z
  .rw[z];exact gF b u e
  .exact gF c _ z
def uF.tok(I:uF X aa U H s)(t:tQ):uF X aa U H {s with vj:=t}:=I.un Un.uV I.zZ
def uF.kept(I:uF X aa U H s)(k:∀b u,s.tK.ua b=p' u->h'.ua b=p' u):uF X aa U H {s with tK:=h',vj:=t' }:=I.un (Un.kept k) (I.zZ.kept k)
def uF.laid(I:uF X aa U H s)(k:∀b u,s.tK.ua b=p' u->h'.ua b=p' u)(hp:s.tK.uc.tX<=a)(new:Bt X.ub X.w (vi H a o) h' a o):
  uF X aa U (vi H a o) {s with tK:=h',vj:=t' }:=I.un (Un.laid k hp (I.zZ.vJ hp)) (I.zZ.laid k hp new)
def uF.write(I:uF X aa U H s)(mu:Mut (H x))(he:e=x\/H e=p' (.uI x))(k:∀b u,b≠e->s.tK.ua b=p' u->h'.ua b=p' u)(fH:∃u,h'.ua e=p' u)
  (new:Bt X.ub X.w (vi H x o) h' x o):uF X aa U (vi H x o) {s with tK:=h',vj:=t' }:=I.un (Un.write mu he k fH) (I.zZ.write mu he k fH new)
def uF.Ii(I:uF X aa U H s)(h:∀p∈pins',s.tK.ua p.1=p' p.2/\H p.1=none/\p.1≠X.uh.vX/\p.1∉X.fs/\∀v,p.2.uX≠.wI v):uF X pins' U H s :=
 {I.ok,I.os,I.bare,I.uk,I.loc,I.wI,I.vK,I.zV,λp hp=>(oS.mp hp).tU (λz=>I.pin p (ph _ z)) (h p),I.zZ,I.wv}
def Mm{x}{N:tH tO}(hN:N.uA){i j:tQ}(a:N[i]?=p' x)(b:N[j]?=p' x):i=j:=by let{h1,e1}:=ou.mp a;let{h2,e2}:=ou.mp b;exact(tH.getElem_inj hN).mp (e1.trans e2.symm)
def Jq{X}{x}(I:uF X aa U H s)(hN:X.N.uA)(hi:X.N[i]?=p' x)(hx:Loc X.uh.uR x)(r:vg v u)
  (h:∀s',uF X aa (U.wJ i (p' v)) H s'->(∃a,uS.SameBut a s.tK s'.tK/\(a=X.uh.vX\/X.uh.cells.t7 x=p' a))->Q () s') (hf:X.fn x=true\/X.uh.uR.uq.t7 x=p' .local:=by first|exact .uW rfl|exact .uK rfl|assumption):ue M A (storeName X.uh x u) Q E s:=by
 let{m,hn,hl}:=id I.loc;have bT:(X.uh.uR.kind==.class||(X.uh.uR.kind==.module&&X.uh.vX !=X.uh.globals))=false:=by rw[I.ok.kind];rfl
 have fZ:i<U.fg:=by rw[I.wv];exact(ou.mp hi).1
 have cne:=I.cne;have cA:∀{a:tV}{h':uS},(∃o,s.tK.ua a=p' o/\H a=none)->uS.SameBut a s.tK h'->HOk X.ub X.w H h':=λ{a h'} ha hs b ob e=>by
  let{_,_,eL}:=ha;refine(I.zZ b ob e).U0 (λc w' hc q=>(hs.2 c ?_).trans q) (λ_ q=>q) λ_ _ q=>q
  rintro rfl
  rcases hc with rfl|hc
  .rw[eL]at e;cases e
  .rw[eL]at hc;cases hc
 rcases hx with hk|hk
 .refine wpAny_storeName_local hk hn (λh' iR hs=>?_) bT;let{oL,_,_,k9,_}:=id hn;refine h _ {I.ok,I.os,I.bare,{λb o e n hb hx=>?_,λb o e n hb hx=>?_,I.uk.vK,λb o e hx=>?_,I.uk.zz,I.uk.zI,I.uk.zA},{_,iR,λj y v' e1 e2 e3=>?_},λy c e=>?_,I.vK,I.zV,λp hp=>?_,cA {oL,k9,I.vK} hs,by simpa using I.wv} {_,hs,.uW rfl}
  .exact(hs.2 b (oI (oA (ot e) I.ok.above))).trans (I.uk.keep b o e n hb hx)
  .let{sl,e1}:=I.uk.vH b o e n hb hx;exact{sl,(hs.2 b (oI (oA (ot e) I.ok.above))).trans e1}
  .let{o',e1}:=I.uk.there b o e hx;exact{o',(hs.2 b (oI (oA (ot e) I.ok.above))).trans e1}
  .by_cases hj:j=i
   .subst hj;rw[hi]at e1;cases e1;rw[tH.getElem?_set_self fZ]at e2;cases e2;exact{u,r,.uW {hk,by simp} }
   .rw[tH.getElem?_set_ne (Ne.symm hj)]at e2;let{u',r',q}:=hl j y v' e1 e2 e3;refine{u',r',?_};rcases q with⟨k,e⟩|⟨k,c,e,z⟩
    .refine .uW {k,?_};have:y≠x:=λe=>hj (Mm hN e1 (e▸hi))
     simp[this,e]
    .exact .uK {k,c,e,z.sameBut hs (cne y c e)}
  .let{w',z}:=I.wI y c e;exact{w',z.sameBut hs (cne y c e)}
  .let{e,n,ne,nf,d}:=I.pin p hp;exact{(hs.2 p.1 ne).trans e,n,ne,nf,d}
 .have iM:X.fn x=true:=by
   rcases hf with z|z
   .exact z
   .rw[z]at hk;cases hk
  let{c,hc}:=I.ok.has x (.uW hk);let{w',z}:=I.wI x c hc;refine wpAny_storeName_cell I.ok.kind hk hc z (λh' gT hs=>?_);let{oc,gY,lb}:=id z;refine h {s with tK:=h' } {I.ok,I.os,I.bare,{λb o e n hb hx=>?_,λb o e n hb hx=>?_,I.uk.vK,λb o e hx=>?_,I.uk.zz,I.uk.zI,I.uk.zA},{m,hn.sameBut hs (Ne.symm (cne x c hc)),λj y v' e1 e2 e3=>?_},λy c' e=>?_,I.vK,I.zV,λp hp=>?_,cA {oc,gY,I.zV x c hc} hs,by simpa using I.wv} {c,hs,.uK hc}
  .exact(hs.2 b (oI (oA (ot e) (I.ok.yR x c iM hc)))).trans (I.uk.keep b o e n hb hx)
  .let{sl,e1}:=I.uk.vH b o e n hb hx;exact{sl,(hs.2 b (oI (oA (ot e) (I.ok.yR x c iM hc)))).trans e1}
  .let{o',e1}:=I.uk.there b o e hx;exact{o',(hs.2 b (oI (oA (ot e) (I.ok.yR x c iM hc)))).trans e1}
  .by_cases hj:j=i
   .subst hj;rw[hi]at e1;cases e1;rw[tH.getElem?_set_self fZ]at e2;cases e2;exact{u,r,.uK {.uW hk,c,hc,gT} }
   .rw[tH.getElem?_set_ne (Ne.symm hj)]at e2;let{u',r',q}:=hl j y v' e1 e2 e3;refine{u',r',?_};rcases q with q|⟨k,c',e,z'⟩
    .exact .uW q
    .refine .uK {k,c',e,z'.sameBut hs ?_}
     rintro rfl
     exact hj (Mm hN e1 (I.ok.inj _ _ _ e hc▸hi))
  .by_cases hcc:c'=c
   .subst hcc;exact{_,gT}
   .let{w2,z2}:=I.wI y c' e;exact{w2,z2.sameBut hs hcc}
  .let{e,n,ne,nf,d}:=I.pin p hp;refine{(hs.2 p.1 ?_).trans e,n,ne,nf,d};intro q;rw[q,gY]at e;have q':=tL.p'.inj e;exact d w' (by rwa[<- q'])
def HS{X}{x}(I:uF X aa U H s)(hN:X.N.uA)(hi:X.N[i]?=p' x)(hx:Loc X.uh.uR x)(r:vg v u)
  (h:∀s',uF X aa (U.wJ i (p' v)) H s'->Q () s') (hf:X.fn x=true\/X.uh.uR.uq.t7 x=p' .local:=by first|exact .uW rfl|exact .uK rfl|assumption):ue M A (storeName X.uh x u) Q E s :=
 Jq I hN hi hx r (λs' I' _=>h s' I') hf
def uF.call'(I:uF X aa U H s)(ho:s'.os=s.os)(u:Un (frs X.wA) ch H H' s.tK s'.tK)(zZ:HOk X.ub X.w H' s'.tK)(hg:AllBare s'.gens)
  (cF:∀b∈ch,(b∈X.ex\/X.zW.tK.uc.tX<=b)/\b≠X.uh.vX/\(∀x c,X.uh.cells.t7 x=p' c->c≠b)/\∀p∈X.pn++aa,p.1≠b):uF X aa U H' s':=by
 let{h',g',d',t',o'}:=s';have e:=ho;subst e;exact I.call u zZ hg cF
def XK:=tM->tL tV->Hp->Prop
def St:=tH (tL V)
def VK:=V->Hp->Prop
def TE:=St->Hp->VK->Prop
def TT:=St->Hp->(uz->Hp->Prop)->Prop
def TA:=St->Hp->(tH V->Hp->Prop)->Prop
structure Ends where
 nx:St->Hp->Prop
 rt:VK
 bk:St->Hp->Prop:=λ_ _=>vd
 ct:St->Hp->Prop:=λ_ _=>vd
def TS:=Ends->St->Hp->Prop
inductive EP(X:Cx)(aa:Zao)(U:St)(Q:VK)(u:tM)(s':ud):Prop
 |mk (v:V) (H':Hp) (h0:uF X aa U H' s') (h1:vg v u) (h2:Q v H')
def TP (X:Cx)(aa:Zao)(U:St)(Q:uz->Hp->Prop)(b:uz)(s':ud):Prop:=∃H',uF X aa U H' s'/\Q b H'
inductive AP(X:Cx)(aa:Zao)(U:St)(Q:tH V->Hp->Prop)(us:tH tM)(s':ud):Prop
 |mk (vs:tH V) (H':Hp) (h0:uF X aa U H' s') (h1:vo vs us) (h2:Q vs H')
inductive NP(X:Cx)(aa:Zao)(Q:St->Hp->Prop)(s':ud):Prop
 |mk (az:St) (H':Hp) (h0:uF X aa az H' s') (h1:Q az H')
inductive RtP(X:Cx)(aa:Zao)(Q:VK)(u:tM)(s':ud):Prop
 |mk (v:V) (az:St) (H':Hp) (h0:uF X aa az H' s') (h1:vg v u) (h2:Q v H')
inductive HP(X:Cx)(aa:Zao)(U:St)(Q:Hp->Prop)(s':ud):Prop
 |mk (H':Hp) (h0:uF X aa U H' s') (h1:Q H')
def SP (X:Cx)(aa:Zao)(D:Ends)(f:Flow)(s':ud):Prop :=
 match f with|.next=>NP X aa D.nx s'|.brk=>NP X aa D.bk s'|.cont=>NP X aa D.ct s'|.wH u=>RtP X aa D.rt u s'
def PE (X:Cx)(e:v7)(t:TE):Prop :=
 ∀(aa:Zao)(s:ud)(U:St)(H:Hp)(Q:VK),uF X aa U H s->t U H Q->ue (uf X.ub X.w) X.A (wD e X.uh) (EP X aa U Q) X.xe s
def PT (X:Cx)(e:v7)(t:TT):Prop :=
 ∀(aa:Zao)(s:ud)(U:St)(H:Hp)(Q:uz->Hp->Prop),uF X aa U H s->t U H Q->ue (uf X.ub X.w) X.A (isTrue e X.uh (wD e X.uh)) (TP X aa U Q) X.xe s
def PW (X:Cx)(e:v7)(t:TT):Prop :=
 ∀(aQ:Sem tM)(aa:Zao)(s:ud)(U:St)(H:Hp)(Q:uz->Hp->Prop),uF X aa U H s->t U H Q->ue (uf X.ub X.w) X.A (isTrue e X.uh aQ) (TP X aa U Q) X.xe s
def PW.pt{e}(h:PW X e t):PT X e t:=h _
def PA (X:Cx)(es:tH v7)(t:TA):Prop :=
 ∀(uG:Pos)(aa:Zao)(s:ud)(U:St)(H:Hp)(Q:tH V->Hp->Prop),uF X aa U H s->t U H Q->ue (uf X.ub X.w) X.A (spliced (backTo uG (vD es X.uh))) (AP X aa U Q) X.xe s
def PS (X:Cx)(st:Stmt)(t:TS):Prop :=
 ∀(aa:Zao)(s:ud)(U:St)(H:Hp)(D:Ends),uF X aa U H s->t D U H->ue (uf X.ub X.w) X.A (exec st X.uh) (SP X aa D) X.xe s
def PSs (X:Cx)(st:tH Stmt)(t:TS):Prop :=
 ∀(aa:Zao)(s:ud)(U:St)(H:Hp)(D:Ends),uF X aa U H s->t D U H->ue (uf X.ub X.w) X.A (execs st X.uh) (SP X aa D) X.xe s
def wo(h:ue M A t Q E s)(hQ:∀a s,Q a s->Q' a s):ue M A t Q' E s:=v4 h hQ λ_ _ x=>x
variable{a b:Expr}{ta tb:TE}{pos:Pos}
variable{tA ia:TT}{rest:List Expr}
inductive KP(i:tQ)(U:St)(H:Hp)(Q:VK):Prop
 |mk (v:_) (h0:U[i]?=p' (p' v)) (h1:Q v H)
def tC (v:V):TE:=λ_ H Q=>Q v H
def Ja9{x}(hN:X.N[i]?=p' x)(hv:Vis X.uh.uR x)(hd:Zdb x:=by decide)(cE:(x==("__classdict__":tO))=false:=by decide):PE X (.uE x uG) (KP i):=by
 intro aa s U H Q I h;let{v,e,h}:=h;let{m,hn,hl}:=I.loc;let{u,r,l}:=hl i x v hN e hv;have aO:EP X aa U Q u s:={v,H,I,r,h}
 rcases l with⟨hk,hm⟩|⟨hk,c,hc,hcell⟩
 .exact wpAny_Name (wpAny_loadName_local I.ok.kind hk hn hm aO) hd
 .rcases hk with hk|hk
  .exact wpAny_Name (wpAny_loadName_cell I.ok.kind hk hc hcell aO) hd
  .exact wpAny_Name (wpAny_loadName_free I.ok.kind hk hc hcell aO cE) hd
def Me:PE X (.Constant (.tS i) j uG) (tC (.tS i)):=λ_ _ _ H _ I h=>wpAny_Constant_int {.tS i,H,I.tok _,{_,rfl},h}
def pe_bl{b}:PE X (.Constant (.bool b) j uG) (tC (.l b)):=λ_ _ _ H _ I h=>Constant_bool {.l b,H,I,rfl,h}
def Jbd:PE X (.Constant .none j uG) (tC .vG):=λ_ _ _ H _ I h=>Constant_none {.vG,H,I,rfl,h}
def Jbb{x}:PE X (.Constant (.str x) j uG) (tC (.str x)):=λ_ _ _ H _ I h=>Calls.Constant_str {.str x,H,I.tok _,{_,rfl},h}
def Gl (X:Cx)(x:tO):Prop:=X.uh.wu x=p' .globalImplicit
def Gw{x}(I:uF X aa U H s)(hg:Gl X x)(hm:X.mg x=p' u)(h:Q u s)
  (hd:Zdb x:=by decide):ue (uf X.ub X.w) X.A (wD (.uE x uG) X.uh) Q E s :=
 Calls.Name_function_global I.ok.kind hg (Calls.loadGlobal_global (by rw[I.ok.glob];exact I.mod.glob.keeps I.bk) hm h) hd
def Dc{x}(I:uF X aa U H s)(hg:Gl X x)(hm:X.mg x=none)(hv:bootBuiltins x=p' u)(h:Q u s)
  (hn:x≠"__name__":=by decide) (hd:Zdb x:=by decide):ue (uf X.ub X.w) X.A (wD (.uE x uG) X.uh) Q E s:=by
 let{mb,h1,h2}:=I.mod.blt;exact Calls.Name_function_global I.ok.kind hg (Calls.loadGlobal_builtin (by rw[I.ok.glob];exact I.mod.glob.keeps I.bk) hm (by rw[I.ok.blt];exact h1.keeps I.bk) ((h2 x hn).trans hv) h) hd
def Pr{x}(hg:Gl X x)(hm:X.mg x=p' u)(r:vg v u)(hd:Zdb x:=by decide):PE X (.uE x uG) (tC v) :=
 λ_ _ _ H _ I h=>Gw I hg hm {v,H,I,r,h} hd
def Xj{x}(hg:Gl X x)(hm:X.mg x=none)(hv:bootBuiltins x=p' u)(r:vg v u)(hn:x≠"__name__":=by decide)(hd:Zdb x:=by decide):PE X (.uE x uG) (tC v) :=
 λ_ _ _ H _ I h=>Dc I hg hm hv {v,H,I,r,h} hn hd
def tAnd (t u:TT):TT:=λU H Q=>t U H λc H1=>if c=true then u U H1 Q else Q false H1
def tOr (t u:TT):TT:=λU H Q=>t U H λc H1=>if c=true then Q true H1 else u U H1 Q
def tNot (t:TT):TT:=λU H Q=>t U H λc H1=>Q (!c) H1
def WW(ha:PT X a tA):PW X (.BoolOp .And [a] uG) tA:=by intro wh aa s U H Q I h;refine isTrue_and (wo (ha aa s U H Q I h) λc s1 e=>?_);cases c with|true=>exact isTrue_and_nil e|false=>exact e
def JaX(ha:PT X a tA):PW X (.BoolOp .Or [a] uG) tA:=by intro wh aa s U H Q I h;refine isTrue_or (wo (ha aa s U H Q I h) λc s1 e=>?_);cases c with|false=>exact isTrue_or_nil e|true=>exact e
def JaY(ha:PT X a tA)(hb:PW X (.BoolOp .And (b::uu) uG) ia):PW X (.BoolOp .And (a::b::uu) uG) (tAnd tA ia):=by intro wh aa s U H Q I h;refine isTrue_and (wo (ha aa s U H _ I h) λc s1 aj=>?_);let{H1,I1,q1}:= aj;cases c with|true=>exact hb wh aa s1 U H1 Q I1 q1|false=>exact{H1,I1,q1}
def pw_or(ha:PT X a tA)(hb:PW X (.BoolOp .Or (b::uu) uG) ia):PW X (.BoolOp .Or (a::b::uu) uG) (tOr tA ia):=by intro wh aa s U H Q I h;refine isTrue_or (wo (ha aa s U H _ I h) λc s1 aj=>?_);let{H1,I1,q1}:= aj;cases c with|true=>exact{H1,I1,q1}|false=>exact hb wh aa s1 U H1 Q I1 q1
def JaZ(ha:PT X a tA):PT X (.UnaryOp .Not a uG) (tNot tA):=by intro aa s U H Q I h;exact isTrue_not (ha aa s U H (λc H1=>Q (!c) H1) I h)
def tAndV (ta tb:TE):TE:=λU H Q=>ta U H λx H1=>∃c,x=.l c/\if c=true then tb U H1 Q else Q (.l false) H1
def Jbc(h:PE X a t):PE X (.BoolOp op [a] uG) t:=λaa s U H Q I hw=>BoolOp_one (h aa s U H Q I hw)
def Jbh(ha:PE X a ta)(hb:PE X (.BoolOp .And (b::uu) uG) tb):PE X (.BoolOp .And (a::b::uu) uG) (tAndV ta tb):=by intro aa s U H Q I h;refine BoolOp_and (wo (ha aa s U H _ I h) λv s1 aj=>?_);let{x,H1,I1,r1,q1}:= aj;let{c,rfl,q1}:=q1;cases r1;refine wn ?_;cases c with|true=>exact hb aa s1 U H1 Q I1 q1|false=>exact{.l false,H1,I1,rfl,q1}
def tIf (t:TT)(ta tb:TE):TE:=λU H Q=>t U H λc H1=>if c=true then ta U H1 Q else tb U H1 Q
def SK{c:v7}(hc:PT X c tA)(ha:PE X a ta)(hb:PE X b tb):PE X (.IfExp c a b uG) (tIf tA ta tb):=by intro aa s U H Q I h;refine wpAny_IfExp (wo (hc aa s U H _ I h) λd s1 aj=>?_);let{H1,I1,q1}:= aj;cases d with|true=>exact ha aa s1 U H1 Q I1 q1|false=>exact hb aa s1 U H1 Q I1 q1
def SqL (K:Fg)(H:Hp)(a:tV)(xs:tH V):Prop :=
 Rd H a (.tY xs)\/
  ∃(o:Obj)(uU:vp tM)(n:tQ),K.t7 a=p' o/\o.cls=.uJ "list"/\o.dict=none/\o.uX=.seq uU n/\uU.tX<=t9/\vo xs uU.uP
def SqT (K:Fg)(H:Hp)(a:tV)(xs:tH V):Prop :=
 Rd H a (.uj xs)\/
  ∃(o:Obj)(uU:vp tM)(n:tQ),K.t7 a=p' o/\o.cls=.uJ "tuple"/\o.uX=.seq uU n/\uU.tX<=t9/\vo xs uU.uP
def absV :tM->tL V
 |.none=>p' .vG
 |.bool b=>p' (.l b)
 |.tS i _=>p' (.tS i)
 |.str x _=>p' (.str x)
 |.bytes b _=>p' (.zw b)
 |.float b _=>p' (.yI b)
 |.t8 a=>p' (.t8 a)
 |.uJ n=>p' (.ty n)
 |_=>none
def vg.abs{x}(r:vg x u):absV u=p' x:=by cases x with|vG=>cases r;rfl|l _=>cases r;rfl|tS _=>let{t,rfl}:=r;rfl|str _=>let{t,rfl}:=r;rfl|zw _=>let{t,rfl}:=r;rfl|yI _=>let{t,rfl}:=r;rfl|t8 _=>cases r;rfl|ty _=>cases r;rfl
def vg.inj{x}{y}(r:vg x u)(q:vg y u):x=y:=tL.p'.inj (r.abs.symm.trans q.abs)
def vo.inj:∀{xs ys:tH V}{us:tH tM},vo xs us->vo ys us->xs=ys
 |_,_,_,.vO,.vO=>rfl
 |_,_,_,.ux r t,.ux r' t'=>by rw[r.inj r',vo.inj t t']
variable{U:St}{a:Addr}{xs ys:List V}
def SqL.of{K:Fg}(h:H a=p' (.tY xs)):SqL K H a xs:=.uW (.uW h)
def SqT.of{K:Fg}(h:H a=p' (.uj xs)):SqT K H a xs:=.uW (.uW h)
def uF.list(I:uF X aa U H s)(h:SqL X.K H a xs):∃uU:tH tM,vo xs uU/\PlainL s.tK a uU.tZ/\xs.fg<=t9:=by
 rcases h with h|⟨o,uU,n,hk,hc,hd,hs,hz,r⟩
 .let{z,uU,n,r,e}:=h.ok I.zZ;exact{uU,r,{_,n,e,rfl,rfl,rfl},z}
 .refine{uU.uP,r,{o,n,I.kIn a o hk,hc,hd,by simpa using hs},?_};have e:=r.fg;simp![pX]at e
  lia
def uF.wz(I:uF X aa U H s)(h:SqT X.K H a xs):∃uU:tH tM,vo xs uU/\IsTup s.tK a uU.tZ/\xs.fg<=t9:=by
 rcases h with h|⟨o,uU,n,hk,hc,hs,hz,r⟩
 .let{z,uU,r,p}:=h.ok I.zZ;exact{uU,r,p.uj,z}
 .refine{uU.uP,r,{o,I.kIn a o hk,hc,n,by simpa using hs},?_};have e:=r.fg;simp![pX]at e
  lia
def uF.Ir(I:uF X aa U H s)(h:SqL X.K H a xs)(h':SqL X.K H a ys):xs=ys:=by
 let{uU,r,{o,n,e,_,_,d},_}:=I.list h;let{aH,r',{o',n',e',_,_,d'},_}:=I.list h';rw[e]at e';cases e';rw[d]at d';injection d' with d1 _;have:=by simpa using uC vp.uP d1
 subst this;exact r.inj r'
def uF.Gb(I:uF X aa U H s)(h:SqT X.K H a xs)(h':SqT X.K H a ys):xs=ys:=by
 let{uU,r,{o,e,_,n,d},_}:=I.wz h;let{aH,r',{o',e',_,n',d'},_}:=I.wz h';rw[e]at e';cases e';rw[d]at d';injection d' with d1 _;have:=by simpa using uC vp.uP d1
 subst this;exact r.inj r'
abbrev Cx.F9(X:Cx)(E:Zcv):Cx:={X with xe:=E}
def Cx.Ok.F9(ok:X.Ok)(E:Zcv):(X.F9 E).Ok :=
 {ok.mod,ok.kind,ok.glob,ok.blt,ok.above,ok.inj,ok.has,ok.yR,ok.hd,ok.v5,ok.yM,ok.yL,ok.bs,ok.ze,ok.zc,ok.zd,ok.MH,ok.yW}
def Cx.Ok.D1(ok:(X.F9 E).Ok):X.Ok :=
 {ok.mod,ok.kind,ok.glob,ok.blt,ok.above,ok.inj,ok.has,ok.yR,ok.hd,ok.v5,ok.yM,ok.yL,ok.bs,ok.ze,ok.zc,ok.zd,ok.MH,ok.yW}
variable{E:Zcv}
def uF.F9(I:uF X aa U H s)(E:Zcv):uF (X.F9 E) aa U H s:={I.ok.F9 E,I.os,I.bare,I.uk,I.loc,I.wI,I.vK,I.zV,I.pin,I.zZ,I.wv}
def uF.D1(I:uF (X.F9 E) aa U H s):uF X aa U H s:={I.ok.D1,I.os,I.bare,I.uk,I.loc,I.wI,I.vK,I.zV,I.pin,I.zZ,I.wv}
def SP.D1(h:SP (X.F9 E) aa D f s'):SP X aa D f s':=by cases f with|next=>let{az,H',I,q}:=h;exact{az,H',I.D1,q}|brk=>let{az,H',I,q}:=h;exact{az,H',I.D1,q}|cont=>let{az,H',I,q}:=h;exact{az,H',I.D1,q}|wH u=>let{v,az,H',I,r,q}:=h;exact{v,az,H',I.D1,r,q}
variable{st:Stmt}{rest:List Stmt}{t u:TS}{e:Expr}{te:TE}
def tNext :TS:=λD U H=>D.nx U H
def tSeq (t u:TS):TS:=λD U H=>t {D with nx:=u D} U H
def W0:PSs X [] tNext:=λ_ _ U H _ I h=>wpAny_execs_nil {U,H,I,h}
def Sn(h1:PS X st t)(h2:PSs X uu u):PSs X (st::uu) (tSeq t u):=by intro aa s U H D I h;refine wpAny_execs_cons (wo (h1 aa s U H {D with nx:=u D} I h) λf s1 q=>?_);cases f with|next =>let{az,H',I',q}:=q;exact h2 aa s1 az H' D I' q|wH v=>exact q|brk=>exact q|cont=>exact q
def WZ(h1:PS X st t):PSs X [st] t:=by intro aa s U H D I h;refine wpAny_execs_cons (wo (h1 aa s U H D I h) λf s1 q=>?_);cases f with|next=>exact wpAny_execs_nil q|wH v=>exact q|brk=>exact q|cont=>exact q
def Jat :TS:=λD U H=>D.bk U H
def Su:PS X (.Break uG) Jat:=λ_ _ U H _ I h=>wpAny_Break {U,H,I,h}
def uF.quiet(I:uF X aa U H s):interactive X.uh=false:=by simp[interactive,I.ok.kind]
def tDrop (te:TE):TS:=λD U H=>te U H λ_ H1=>D.nx U H1
def W3(he:PE X e te)(hs:swapsWith e none uG.line X.uh=wx false:=by rfl):PS X (.v7 e uG) (tDrop te):=by intro aa s U H D I h;exact wpAny_Expr_any (wo (he aa s U H _ I h) λv s1 {x,H1,I1,r1,q1}=>{U,H1,I1,q1}) I.quiet hs
def tRet (te:TE):TS:=λD U H=>te U H D.rt
def Ja1(he:PE X e te):PS X (.Return (p' e) uG) (tRet te):=by intro aa s U H D I h;exact wpAny_Return_some (wo (he aa s U H _ I h) λv s1 {x,H1,I1,r1,q1}=>{x,U,H1,I1,r1,q1})
def tIfS (c:TT)(t u:TS):TS:=λD U H=>c U H λb H1=>if b=true then t D U H1 else u D U H1
def ps_if{a}{b}(hc:PT X c tc)(ha:PSs X a t)(hb:PSs X b u):PS X (.If c a b uG) (tIfS tc t u):=by intro aa s U H D I h;refine wpAny_If (wo (hc aa s U H _ I h) λd s1 aj=>?_);let{H1,I1,q1}:= aj;cases d with|true=>exact ha aa s1 U H1 D I1 q1|false=>exact hb aa s1 U H1 D I1 q1
def Jam :TS:=λ_ _ _=>vd
def Ss:PS X st Jam:=λ_ _ _ _ _ _ h=>h.tU
def TG:=V->St->Hp->(St->Hp->Prop)->Prop
def TGs:=tH V->St->Hp->(St->Hp->Prop)->Prop
def PG (X:Cx)(target:v7)(t:TG):Prop :=
 ∀(aa:Zao)(s:ud)(U:St)(H:Hp)(v:V)(u:tM)(Q:St->Hp->Prop),uF X aa U H s->vg v u->t v U H Q ->
  ue (uf X.ub X.w) X.A (assign target X.uh u) (λ_ s'=>NP X aa Q s') X.xe s
def PGs (X:Cx)(ts:tH v7)(t:TGs):Prop :=
 ∀(aa:Zao)(s:ud)(U:St)(H:Hp)(vs:tH V)(us:tH tM)(Q:St->Hp->Prop),uF X aa U H s->vo vs us->t vs U H Q ->
  ue (uf X.ub X.w) X.A (assignInOrder ((assignEach ts X.uh).tJ (·.2)) us) (λ_ s'=>NP X aa Q s') X.xe s
def TSet:=V->V->V->Hp->(Hp->Prop)->Prop
def UH (X:Cx)(t:TSet):Prop :=
 ∀(aa:Zao)(s:ud)(U:St)(H:Hp)(o i v:V)(ov iv u:tM)(Q:Hp->Prop),uF X aa U H s->vg o ov->vg i iv->vg v u->t o i v H Q ->
  ue (uf X.ub X.w) X.A (setItem ov iv u) (λ_ s'=>HP X aa U Q s') X.xe s
def TIp:=V->V->Hp->VK->Prop
def PIp (X:Cx)(op:Operator)(t:TIp):Prop :=
 ∀(aa:Zao)(s:ud)(U:St)(H:Hp)(x y:V)(v u:tM)(Q:VK),uF X aa U H s->vg x v->vg y u->t x y H Q ->
  ue (uf X.ub X.w) X.A (inplaceOp op v u) (EP X aa U Q) X.xe s
def TH (i:tQ):TG:=λv U H Q=>Q (U.wJ i (p' v)) H
def Xc{X}{x}(hN:X.N.uA)(hi:X.N[i]?=p' x)(hx:Loc X.uh.uR x)(hf:X.fn x=true\/X.uh.uR.uq.t7 x=p' .local:=by first|exact .uW rfl|exact .uK rfl|assumption):PG X (.uE x uG) (TH i):=by intro aa s U H v u Q I r h;exact wpAny_assign_Name (HS I hN hi hx r (λs' I'=>{_,H,I',h}) hf)
def gNil :TGs:=λvs U H Q=>vs=[]/\Q U H
inductive gCons(t:TG)(u:TGs)(vs:tH V)(U:St)(H:Hp)(Q:St->Hp->Prop):Prop
 |mk (v r:_) (h0:vs=v::r) (h1:t v U H λaz H'=>u r az H' Q)
def Xb:PGs X [] gNil:=by intro aa s U H vs us Q I r h;let{e,h}:=h;subst e;cases r;exact assignInOrder_nil {U,H,I,h}
def SH{t}{u}(h1:PG X e t)(h2:PGs X es u)
  (hs:(assignEach (e::es) X.uh).tJ (·.2)=assign e X.uh::(assignEach es X.uh).tJ (·.2):=by rfl):PGs X (e::es) (gCons t u):=by
 intro aa s U H vs us Q I r h;let{v,vr,e1,h}:=h;subst e1;cases r with|ux r rr =>rw[hs];refine assignInOrder_cons (wo (h1 aa s U H _ _ _ I r h) λ_ s1 aj=>?_);let{cS,H1,I1,q1}:= aj;exact h2 aa s1 cS H1 _ _ Q I1 rr q1
inductive gTup(K:Fg)(n:tQ)(t:TGs)(v:V)(U:St)(H:Hp)(Q:St->Hp->Prop):Prop
 |mk (a xs:_) (h0:v=.t8 a) (h1:SqT K H a xs) (h2:xs.fg=n) (h3:t xs U H Q)
def Ja7{t}(hc:X.calm=true)(h:PGs X es t)
  (hn:(assignEach es X.uh).fg=n:=by rfl) (dW:(assignEach es X.uh).findIdx? (·.1)=none:=by rfl):PG X (.Tuple es k uG) (gTup X.K n t):=by
 intro aa s U H v u Q I r hw;let{a,xs,e1,hq,hl,hw}:=hw;subst e1;cases r;let{uU,rv,ht,hz}:=I.wz hq;refine assign_Tuple_tuple (I.ok.hd hc) ht (by simp[hn,<- hl,rv.fg]) dW λh' hx=>?_
 have I1:uF X aa U H {s with tK:=h' }:=I.kept λb o e=>hx b o (oI (ot e)) e
 exact h aa _ U H xs _ Q I1 (by simpa using rv) hw
def gSub (to ti:TE)(t:TSet):TG:=λv U H Q=>to U H λo H1=>ti U H1 λi H2=>t o i v H2 λH3=>Q U H3
def Ja8{o}{t}(ho:PE X o to)(hi:PE X i ti)(hs:UH X t)
  (ha:∀v,assign (.vz o i uG) X.uh v=(do
   let ov <- holding [v] (wD o X.uh)
   let iv <- holding [v,ov] (wD i X.uh)
   standAt uG
   holding [v,ov,iv] (setItem ov iv v)
   release [v,ov,iv] []):=by intro _;rfl):PG X (.vz o i uG) (gSub to ti t):=by
 intro aa s U H v u Q I r h;refine nR (vQ (wo (ho aa s U H _ I h) λov s1 aj=>?_));let{x,H1,I1,r1,q1}:= aj;refine nR (vQ (wo (hi aa s1 U H1 _ I1 q1) λiv s2 aj=>?_));let{y,H2,I2,r2,q2}:= aj;refine nR (wpAny_standAt (nR (vQ (wo (hs aa s2 U H2 x y v ov iv u _ I2 r1 r2 r q2) λ_ s3 aj=>?_))));let{H3,I3,q3}:= aj;exact wpAny_release {U,H3,I3,q3}
def Jau (te:TE)(g:TG):TS:=λD U H=>te U H λx H1=>g x U H1 D.nx
def Vc(he:PE X e te)(hg:PG X tg g)(hs:swapsWithSole [tg] e uG.line X.uh=wx false:=by rfl)(hw:swappedStores [tg] e X.uh=wx none:=by rfl)
  (h1:(assignEach [tg] X.uh).tJ (·.2)=[assign tg X.uh]:=by rfl):PS X (.Assign [tg] e uG) (Jau te g):=by
 intro aa s U H D I h;refine wpAny_Assign_stores (wo (he aa s U H _ I h) λv s1 aj=>?_) hs hw;let{x,H1,I1,r1,q1}:= aj;rw[h1];exact wo (hg aa s1 U H1 x v _ I1 r1 q1) λ_ s2 q=>q
def Ja0{X}{x}(hN:X.N.uA)(hi:X.N[i]?=p' x)(hx:Loc X.uh.uR x)(he:PE X e te)(hs:swapsWith e (p' (.uE x aI)) uG.line X.uh=wx false:=by rfl)(hf:X.fn x=true\/X.uh.uR.uq.t7 x=p' .local:=by first|exact .uW rfl|exact .uK rfl|assumption):
  PS X (.Assign [.uE x aI] e uG) (Jau te (TH i)):=by
 intro aa s U H D I h;refine wpAny_Assign_Name (wo (he aa s U H _ I h) λv s1 aj=>?_) hs;let{y,H1,I1,r1,q1}:= aj;exact HS I1 hN hi hx r1 (λs2 I2=>{_,H1,I2,q1}) hf
inductive tAug(i:tQ)(te:TE)(ti:TIp)(D:Ends)(U:St)(H:Hp):Prop
 |mk (x:_) (h0:U[i]?=p' (p' x)) (h1:te U H λy H1=>ti x y H1 λz H2=>D.nx (U.wJ i (p' z)) H2)
def Ja4{i:tQ}{x:tO}{op:Operator}{ti:TIp}{aI:Pos}(hN:X.N.uA)(hi:X.N[i]?=p' x)(hx:Loc X.uh.uR x)(he:PE X e te)(ho:PIp X op ti)(hf:X.fn x=true\/X.uh.uR.uq.t7 x=p' .local:=by first|exact .uW rfl|exact .uK rfl|assumption):
  PS X (.AugAssign (.uE x aI) op e uG) (tAug i te ti):=by
 intro aa s U H D I h;let{v,e1,h}:=h;let{m,hn,hl}:=I.loc;have mJ:Vis X.uh.uR x:=by rcases hx with k|k;exact .uW k;exact .uK (.uW k)
 let{u,r,l}:=hl i x v hi e1 mJ;refine wpAny_AugAssign_Name ?_;have go:ue (uf X.ub X.w) X.A (wD e X.uh) (λw bA=>ue (uf X.ub X.w) X.A (inplaceOp op u w) (λr aS=>ue (uf X.ub X.w) X.A (storeName X.uh x r) (λ_=>SP X aa D .next) X.xe aS) X.xe bA) X.xe s:=by
  refine wo (he aa s U H _ I h) λw s1 aj=>?_
  let{y,H1,I1,r1,q1}:= aj;refine wo (ho aa s1 U H1 v y u w _ I1 r r1 q1) λz s2 aj=>?_
  let{zv,H2,I2,r2,q2}:= aj;exact HS I2 hN hi hx r2 (λs3 I3=>{_,H2,I3,q2}) hf
 rcases l with⟨hk,hm⟩|⟨hk,c,hc,hcell⟩
 .exact wpAny_loadName_local I.ok.kind hk hn hm go
 .rcases hk with hk|hk
  .exact wpAny_loadName_cell I.ok.kind hk hc hcell go
  .rcases hx with k|k
   .have:X.uh.uR.uq.t7 x=p' .vK:=hk;rw[k]at this;cases this
   .have:X.uh.uR.uq.t7 x=p' .vK:=hk;rw[k]at this;cases this
def Jai (c:TT)(tb:TS):TS:=λD U H=>∃W:tQ->St->Hp->Prop,(∃m,W m U H)/\∀m U H,W m U H ->
 c U H λb H1=>if b=true then ∃N:St->Hp->Prop,(∀az H',N az H'->∃m',m'<m/\W m' az H')/\tb {D with nx:=N,ct:=N,bk:=D.nx} U H1 else D.nx U H1
def Sq{tb}(hp:PassesOwn (uf X.ub X.w) X.A X.uh X.xe)(hc:PT X c tc)(hb:PSs X vR tb):PS X (.While c vR [] uG) (Jai tc tb):=by
 intro aa s U H D I h;let{W,{m0,w0},turn}:=h;refine wpAny_While (codeAny_whileLoop (λn s'=>∃az H',uF X aa az H' s'/\W n az H') ?_ m0 {U,H,I,w0})
 intro n s1 {cS,H1,I1,w1}
 refine wpAny_passesOwn hp (wo (hc aa s1 cS H1 _ I1 (turn n cS H1 w1)) λb s2 aj=>?_);let{H2,I2,q2}:= aj;cases b with
 |true =>let{N,hN,q2}:=q2;refine wpAny_passesOwn hp (wo (hb aa s2 cS H2 _ I2 q2) λf s3 q3=>?_);cases f with|next =>let{cU,H3,I3,n3}:=q3;let{m',hm,w3}:=hN cU H3 n3;exact{m',hm,cU,H3,I3,w3}|cont =>let{cU,H3,I3,n3}:=q3;let{m',hm,w3}:=hN cU H3 n3;exact{m',hm,cU,H3,I3,w3}|brk=>exact q3|wH v=>exact q3
 |false =>exact wpAny_execs_nil {cS,H2,I2,q2}
structure It where
 go:tQ->Hp->Prop
 yV:tQ->Hp->V->Hp->Prop
 stop:tQ->Hp->Prop
def Hh (X:Cx)(aa:Zao)(H:Hp)(b:tV):Prop :=
 H b=none/\b≠X.uh.vX/\b∉X.fs/\(b∈X.ex\/X.zW.tK.uc.tX<=b)/\(∀x c,X.uh.cells.t7 x=p' c->c≠b)/\∀p∈X.pn++aa,p.1≠b
def uF.RG{b}(I:uF X aa U H s)(hb:s.tK.uc.tX<=b)(hn:H' b=none):Hh X aa H' b:=by
 refine{hn,qG (oA I.lt hb),I.nofs hb,.uK (oo I.sz hb),λx c e z=>?_,λp hp z=>?_}
 .let{v,q}:=I.wI x c e;exact uD (oA q.lt (by rwa[z])) (pK _)
 .exact uD (oA (ot (I.pin p hp).1) (by rwa[z])) (pK _)
structure Turn(P:wf)(w:wK)(K:Fg)(tg:v7)(J:It)(fp:tH tV)(it:tV)(tn:tQ->uS->Prop):Prop where
 mem:it∈fp
 obj:∀i h,tn i h->∀b∈fp,∃o,h.ua b=p' o/\∀v,o.uX≠.wI v
 keep:∀i h h',tn i h->(∀b∈fp,∀o,h.ua b=p' o->h'.ua b=p' o)->tn i h'
 item:∀(X:Cx),X.ub=P->X.w=w->X.K=K->X.calm=true->∀(i:tQ)(aa:Zao)(s:ud)(U:St)(H:Hp)(E:Zcv),uF X aa U H s->(∀b∈fp,Hh X aa H b)->tn i s.tK->J.go i H ->
  ue (uf P w) X.A (pyNext (.t8 it)) (λr s1=>∃u,r=p' u /\
   ue (uf P w) X.A (letOwnedTupleGo tg (.t8 it) u) (λ_ s2=>∃x H',uF X aa U H' s2/\vg x u/\J.yV i H x H'/\tn (i+1) s2.tK/\∀b∈fp,H' b=none) E s1) E s
 done:∀(X:Cx),X.ub=P->X.w=w->X.K=K->X.calm=true->∀(i:tQ)(aa:Zao)(s:ud)(U:St)(H:Hp)(E:Zcv),uF X aa U H s->(∀b∈fp,Hh X aa H b)->tn i s.tK->J.stop i H ->
  ue (uf P w) X.A (pyNext (.t8 it)) (λr s1=>r=none/\uF X aa U H s1) E s
 self:∀(A:Around)(i:tQ)(s:ud)(Q:Zcv)(E:Zcv),tn i s.tK->Q (.t8 it) s->ue (uf P w) A (pyIter (.t8 it)) Q E s
def TI:=St->Hp->(It->Hp->Prop)->Prop
inductive PIE(X:Cx)(aa:Zao)(U:St)(tg:v7)(R:It->Hp->Prop)(gZ:tM)(s2:ud):Prop
 |mk (it:tV) (fp:tH tV) (tn:tQ->uS->Prop) (J:It) (H':Hp) (h0:gZ=.t8 it) (h1:uF X aa U H' s2) (h2:Turn X.ub X.w X.K tg J fp it tn) (h3:tn 0 s2.tK) (h4:∀b∈fp,Hh X aa H' b) (h5:R J H')
def PI (X:Cx)(tg au:v7)(wi:TI):Prop :=
 ∀(aa:Zao)(s:ud)(U:St)(H:Hp)(R:It->Hp->Prop),uF X aa U H s->wi U H R ->
  ue (uf X.ub X.w) X.A (wD au X.uh) (λv s1=>ue (uf X.ub X.w) X.A (pyIter v) (PIE X aa U tg R) X.xe s1) X.xe s
def Ld{o}{u}(ho:s.tK.ua it=p' o)(hc:o.cls=.uJ n)(hd:o.uX=.vt vs)
    (hn:["enumerate","zip","dict_itemiterator","dict_reverseitemiterator","odict_iterator","itertools.zip_longest","itertools.pairwise"].contains n=false) (hQ:Q () s):ue M A (letOwnedTupleGo tg (.t8 it) u) Q E s:=by
  cases tg<;>first
    |exact n6 hQ
    | (cases u <;> first
        |exact n6 hQ
        | (refine nR (wpAny_load ho ?_)
           rw[hc,hd];show ue M A (if(["enumerate","zip","dict_itemiterator","dict_reverseitemiterator","odict_iterator","itertools.zip_longest","itertools.pairwise"].contains n&&vs[0]?==p' (wN _))=true then _ else _) Q E s;rw[ug (by intro h;rw[hn,uz.false_and]at h;cases h)];exact n6 hQ))
def Itl (K:Fg)(a:tV):It :=
 {λi H=>∃xs x,SqL K H a xs/\xs[i]?=p' x,λi H x H'=>H'=H/\∀xs,SqL K H a xs->xs[i]?=p' x,λi H=>∃xs,SqL K H a xs/\xs.fg<=i}
def Itt (K:Fg)(a:tV):It :=
 {λi H=>∃xs x,SqT K H a xs/\xs[i]?=p' x,λi H x H'=>H'=H/\∀xs,SqT K H a xs->xs[i]?=p' x,λi H=>∃xs,SqT K H a xs/\xs.fg<=i}
def Itr (lo:tN)(n:tQ):It:={λi _=>i<n,λi H x H'=>H'=H/\x=.tS (lo+i),λi _=>n<=i}
def Oy{K:Fg}(a it:tV):Turn P w K tg (Itl K a) [it] it (λi h=>h.IsListIter it a i) where
 mem:=by simp
 obj:=λi h st b hb=>by
  have e:=by simpa using hb
  subst e;let{o,e,c,d}:=st;exact{o,e,λv z=>by rw[d]at z;cases z}
 keep:=λi h h' st k=>st.at λo e=>k it (by simp) o e
 item:=by
  intro X hP hw hK hc i aa s U H E I hf st hg;subst hP hw hK;let{xs,x,hq,hx}:=hg;let{uU,rv,p,hz}:=I.list hq;let{u,hu,ru}:=rv.get hx;let{f0,f1,f2,f3,f4,f5}:=hf it (by simp);refine wpAny_pyNext_list_item st p.vU (by simpa using hu) λh' aZ sb=>?_
  have I1:uF X aa U H {s with tK:=h' }:=I.turned (λb o hb e=>(sb.2 b hb).trans e) f0 f1 f3 f4 f5;let{o,e,c,d}:=id aZ;exact{u,rfl,Ld e c d ZB {x,H,I1,ru,{rfl,λys hy=>by rwa[I.Ir hy hq]},aZ,λb hb=>(hf b hb).1} }
 done:=by intro X hP hw hK hc i aa s U H E I hf st hg;subst hP hw hK;let{xs,hq,hx}:=hg;let{uU,rv,p,hz}:=I.list hq;let{f0,f1,f2,f3,f4,f5}:=hf it (by simp);have hl:=rv.fg;exact wpAny_pyNext_list_end (I.ok.hd hc) st p.vU (by simp;lia) λh' eb=>{rfl,I.turned (λb o hb e=>eb b o hb e) f0 f1 f3 f4 f5}
 self:=λ_ _ _ _ _ st h=>wpAny_pyIter_listiter st h
def Nh{K:Fg}(a it:tV):Turn P w K tg (Itt K a) [it] it (λi h=>h.IsTupleIter it a i) where
 mem:=by simp
 obj:=λi h st b hb=>by
  have e:=by simpa using hb
  subst e;let{o,e,c,d}:=st;exact{o,e,λv z=>by rw[d]at z;cases z}
 keep:=λi h h' st k=>st.at λo e=>k it (by simp) o e
 item:=by
  intro X hP hw hK hc i aa s U H E I hf st hg;subst hP hw hK;let{xs,x,hq,hx}:=hg;let{uU,rv,p,hz}:=I.wz hq;let{u,hu,ru}:=rv.get hx;let{f0,f1,f2,f3,f4,f5}:=hf it (by simp);refine wpAny_pyNext_tuple_item st (show s.tK.IsTuple a uU.tZ from p) (by simpa using hu) λh' aZ sb=>?_
  have I1:uF X aa U H {s with tK:=h' }:=I.turned (λb o hb e=>(sb.2 b hb).trans e) f0 f1 f3 f4 f5;let{o,e,c,d}:=id aZ;exact{u,rfl,Ld e c d ZB {x,H,I1,ru,{rfl,λys hy=>by rwa[I.Gb hy hq]},aZ,λb hb=>(hf b hb).1} }
 done:=by intro X hP hw hK hc i aa s U H E I hf st hg;subst hP hw hK;let{xs,hq,hx}:=hg;let{uU,rv,p,hz}:=I.wz hq;let{f0,f1,f2,f3,f4,f5}:=hf it (by simp);have hl:=rv.fg;exact wpAny_pyNext_tuple_end (I.ok.hd hc) st (show s.tK.IsTuple a uU.tZ from p) (by simp;lia) λh' eb=>{rfl,I.turned (λb o hb e=>eb b o hb e) f0 f1 f3 f4 f5}
 self:=λ_ _ _ _ _ st h=>wpAny_pyIter_tupleiter st h
def Ni{K:Fg}(it:tV)(lo:tN)(n:tQ):Turn P w K tg (Itr lo n) [it] it (λi h=>IsRangeIter h it (lo+(i:tQ)*1) ((n:tN)-(i:tQ)) 1) where
 mem:=by simp
 obj:=λi h st b hb=>by
  have e:=by simpa using hb
  subst e;exact{_,st,λv z=>by have z':=z;cases z'}
 keep:=λi h h' st k=>k it (by simp) _ st
 item:=by
  intro X hP hw hK hc i aa s U H E I hf st hg;subst hP hw hK;let{f0,f1,f2,f3,f4,f5}:=hf it (by simp);have W:=Walks.vq (ub:=X.ub) (w:=X.w) (I.ok.hd hc) it lo 1 n;refine W.item i s _ _ hg st λv h' tk hv aZ kk=>?_
  let{t,rfl}:=hv;have I1:uF X aa U H {s with tK:=h',vj:=tk}:=I.turned (λb o hb e=>kk b o (by simpa using hb) e) f0 f1 f3 f4 f5;refine{_,rfl,Ld aZ rfl rfl ZB {.tS (lo+i),H,I1,{t,?_},{rfl,rfl},aZ,λb hb=>(hf b hb).1} };rw[tN.mul_one]
 done:=by intro X hP hw hK hc i aa s U H E I hf st hg;let{f0,f1,f2,f3,f4,f5}:=hf it (by simp);exact wpAny_pyNext_range_end (I.ok.hd hc) st (by have:n<=i:=hg;lia) λh' eb=>{rfl,I.turned (λb o hb e=>eb b o hb e) f0 f1 f3 f4 f5}
 self:=λ_ _ _ _ _ st h=>wpAny_pyIter_rangeiter st h
variable{tg:Expr}
def L4{t}{u}{lo hi:tN}(I:uF X aa U H s)(h1:-(2^62)<=lo)(h2:lo<2^62)(h3:-(2^62)<=hi)(h4:hi<2^62)
  (q:R (Itr lo (hi-lo).uw) H):ue (uf X.ub X.w) X.A (pyIter (.t8 s.tK.uc.tX)) (PIE X aa U tg R) E {s with tK:=s.tK.vY {cls:=.uJ "range",uX:=.vt #[.tS lo t,.tS hi u,.tS 1 v]},vj:=tk}:=by
 refine wpAny_pyIter_range (IsRange.new ..) (small_one h1 h2 h3 h4) ?_;have I1:uF X aa U H {s with tK:=s.tK.vY {cls:=.uJ "range",uX:=.vt #[.tS lo t,.tS hi u,.tS 1 v]},vj:=tk}:=I.kept λb o e=>nY _ e
 refine{(s.tK.vY {cls:=.uJ "range",uX:=.vt #[.tS lo t,.tS hi u,.tS 1 v]}).uc.tX,[(s.tK.vY {cls:=.uJ "range",uX:=.vt #[.tS lo t,.tS hi u,.tS 1 v]}).uc.tX],_,_,H,rfl,
  I1.kept λb o e=>nY _ e,Ni _ lo (hi-lo).uw,?_,λb hb=>?_,q}
 .have e1:lo+((0:tQ):tN)*1=lo:=by simp
  have e2:(((hi-lo).uw:tQ):tN)-((0:tQ):tN)=t6.Range.ww lo hi 1:=by rw[rangeSize_one];split<;>lia
  rw[e1,e2];exact oi _ rfl
 .have e:b=(s.tK.vY {cls:=.uJ "range",uX:=.vt #[.tS lo t,.tS hi u,.tS 1 v]}).uc.tX:=by simpa using hb
  subst e;exact I1.RG (oh _) (I1.zZ.vJ (oh _))
def iRng1 (ta:TA):TI:=λU H R=>ta U H λvs H1=>∃j:tN,vs=[.tS j]/\-(2^62)<=j/\j<2^62/\R (Itr 0 j.uw) H1
def Jcb (ta:TA):TI:=λU H R=>ta U H λvs H1=>∃i j:tN,vs=[.tS i,.tS j]/\(-(2^62)<=i/\i<2^62/\-(2^62)<=j/\j<2^62)/\R (Itr i (j-i).uw) H1
def Pp{a}{ta}{p:Pos}(hg:Gl X "range")(hm:X.mg "range"=none)(ha:PA X [a] ta)(hs:Zs1 X.uh a:=by rfl):PI X tg (.vM (.uE "range" p) [a] [] uG) (iRng1 ta):=by intro aa s U H R I h;refine Call_ (Dc I hg hm boot_range (wF (wo (ha uG aa s U H _ I h) λus s1 aj=>?_) hs rfl));let{vs,H1,I1,r1,q1}:= aj;let{j,e,q1,q2,q}:=q1;subst e;cases r1 with|ux r rr =>cases rr;let{t,rfl}:=r;exact call_range_1 (L4 I1 (by lia) (by lia) q1 q2 (by simpa using q))
def Po{a:v7}{ta:TA}{p:Pos}(hg:Gl X "range")(hm:X.mg "range"=none)(ha:PA X [a,b] ta)(hs:Zs2 X.uh a b:=by rfl)(bh:Zs1 X.uh b:=by rfl):
  PI X tg (.vM (.uE "range" p) [a,b] [] uG) (Jcb ta):=by
 intro aa s U H R I h;refine Call_ (Dc I hg hm boot_range (wF (wo (ha uG aa s U H _ I h) λus s1 aj=>?_) (by rw[hs,bh]) (by rw[bh];rfl)));let{vs,H1,I1,r1,q1}:= aj;let{i,j,e,{q1,q2,q3,q4},q}:=q1;subst e;cases r1 with|ux r rr =>cases rr with|ux r' rr =>cases rr;let{t,rfl}:=r;let{t',rfl}:=r';exact call_range_2 (L4 I1 q1 q2 q3 q4 q)
def tFor (wi:TI)(g:TG)(tb:TS):TS:=λD U H=>wi U H λJ H1=>∃W:tQ->tQ->St->Hp->Prop,(∃m,W 0 m U H1)/\∀i m U H,W i m U H ->
 (J.stop i H/\D.nx U H)\/(J.go i H/\∃N:St->Hp->Prop,(∀az H',N az H'->∃m',m'<m/\W (i+1) m' az H')/\∀x H',J.yV i H x H'->g x U H' λeT H2=>tb {D with nx:=N,ct:=N,bk:=D.nx} eT H2)
def JF (fp:tH tV)(h:uS):tH (tV×Obj):=fp.filterMap λb=>(h.ua b).tJ λo=>(b,o)
def DO{b}{o}(hb:b∈fp)(e:h.ua b=p' o):(b,o)∈JF fp h:=qH.wO {b,hb,by rw[e];rfl}
def Pz(hp:p∈JF fp h):p.1∈fp/\h.ua p.1=p' p.2:=by let{b,hb,e}:=qH.mp hp;cases q:h.ua b with|none=>rw[q]at e;cases e|p' o =>rw[q]at e;have e':=tL.p'.inj e;subst e';exact{hb,q}
def uF.pinned(I:uF X aa U H s)(hf:∀b∈fp,Hh X aa H b)(ho:∀b∈fp,∃o,s.tK.ua b=p' o/\∀v,o.uX≠.wI v):uF X (aa++JF fp s.tK) U H s :=
 I.Ii λp hp=>(oS.mp hp).tU (λz=>I.pin p (o8 _ z)) λz=>by let{hb,e}:=Pz z;let{f0,f1,f2,_}:=hf p.1 hb;let{o,e',d}:=ho p.1 hb;rw[e]at e';cases e';exact{e,f0,f1,f2,d}
def uF.FG(I:uF X (aa++pl) U H s):uF X aa U H s:=I.Ii λp hp=>I.pin p (o8 _ (ph _ hp))
def Ja2{tb}(hp:PassesOwn (uf X.ub X.w) X.A X.uh X.xe)(hc:X.calm=true)(hi:PI X tg au wi)(hg:PG X tg g)(hb:PSs X vR tb)
  (hs:Zfs X.uh au:=by intro _;rfl):PS X (.For tg au vR [] uG) (tFor wi g tb):=by
 intro aa s U H D I h;refine wpAny_For (wo (hi aa s U H _ I h) λv s1 h1=>wo h1 λgZ s2 h2=>?_) hs;let{it,fp,tn,J,H2,e,I2,T,eA,f2,W,{m0,w0},turn}:=h2;subst e;have cf:∀{H':Hp},(∀b∈fp,H' b=none)->∀b∈fp,Hh X aa H' b:=λhn b hb=>{hn b hb,(f2 b hb).2}
 refine codeAny_forLoop_any (λn s'=>∃i az H',uF X aa az H' s'/\tn i s'.tK/\(∀b∈fp,H' b=none)/\W i n az H') ?_ m0 {0,U,H2,I2,eA,λb hb=>(f2 b hb).1,w0}
 intro n s3 {i,cU,H3,I3,st3,fr3,w3}
 rcases turn i n cU H3 w3 with⟨stop,qn⟩|⟨go,N,hN,step⟩
 .refine wpAny_passesOwn hp (wo (T.done X rfl rfl rfl hc i aa s3 cU H3 X.xe I3 (cf fr3) st3 stop) λr s4 aj=>?_);let{hr,I4}:= aj;subst hr;exact wpAny_execs_nil {cU,H3,I4,qn}
 .refine wpAny_passesOwn hp (wo (T.item X rfl rfl rfl hc i aa s3 cU H3 X.xe I3 (cf fr3) st3 go) λr s4 aj=>?_);let{u,hr,h4}:= aj;subst hr;refine wpAny_passesOwn hp (wo h4 λ_ s5 aj=>?_);let{x,H5,I5,r5,y5,jd,kD}:= aj;have ka:=I5.pinned (cf kD) (T.obj _ _ jd);refine wpAny_passesOwn hp (wo (hg _ s5 cU H5 x u _ ka r5 (step x H5 y5)) λ_ s6 aj=>?_);let{mQ,H6,I6,q6}:= aj;refine wpAny_passesOwn hp (wo (hb _ s6 mQ H6 _ I6 q6) λf s7 q7=>?_);have again:∀{dv:St}{H7:Hp},uF X (aa++JF fp s5.tK) dv H7 s7->N dv H7->∃m,m<n/\∃i az H',uF X aa az H' s7/\tn i s7.tK/\(∀b∈fp,H' b=none)/\W i m az H':=λ{dv H7} I7 n7=>by let{m',hm,w7}:=hN dv H7 n7;refine{m',hm,i+1,dv,H7,I7.FG,T.keep _ _ _ jd λb hb o e=>(I7.pin (b,o) (o8 _ (o8 _ (DO hb e)))).1,λb hb=>?_,w7};let{o,e,d}:=T.obj _ _ jd b hb;exact(I7.pin (b,o) (o8 _ (o8 _ (DO hb e)))).2.1
  cases f with|next=>let{dv,H7,I7,n7}:=q7;exact again I7 n7|cont=>let{dv,H7,I7,n7}:=q7;exact again I7 n7|brk=>let{dv,H7,I7,q7}:=q7;exact{dv,H7,I7.FG,q7}|wH v=>let{x7,dv,H7,I7,r7,q7}:=q7;exact{x7,dv,H7,I7.FG,r7,q7}
def R2:=V->V->Hp->VK->Prop
def OpR (X:Cx)(f:tM->tM->Sem tM)(r:R2):Prop :=
 ∀(aa:Zao)(s:ud)(U:St)(H:Hp)(x y:V)(v u:tM)(Q:VK),uF X aa U H s->vg x v->vg y u->r x y H Q ->
  ue (uf X.ub X.w) X.A (f v u) (EP X aa U Q) X.xe s
def UnR (X:Cx)(f:tM->Sem tM)(r:V->Hp->VK->Prop):Prop :=
 ∀(aa:Zao)(s:ud)(U:St)(H:Hp)(x:V)(v:tM)(Q:VK),uF X aa U H s->vg x v->r x H Q ->
  ue (uf X.ub X.w) X.A (f v) (EP X aa U Q) X.xe s
def B7 (X:Cx)(f:tM)(r:tH V->Hp->VK->Prop):Prop :=
 ∀(aa:Zao)(s:ud)(U:St)(H:Hp)(xs:tH V)(us:tH tM)(Q:VK),uF X aa U H s->vo xs us->r xs H Q ->
  ue (uf X.ub X.w) X.A (call f us) (EP X aa U Q) X.xe s
def TruR (X:Cx)(r:V->Hp->(uz->Hp->Prop)->Prop):Prop :=
 ∀(aa:Zao)(s:ud)(U:St)(H:Hp)(x:V)(v:tM)(Q:uz->Hp->Prop),uF X aa U H s->vg x v->r x H Q ->
  ue (uf X.ub X.w) X.A (truthy v) (TP X aa U Q) X.xe s
def tOp (r:R2)(ta tb:TE):TE:=λU H Q=>ta U H λx H1=>tb U H1 λy H2=>r x y H2 Q
def tUn (r:V->Hp->VK->Prop)(ta:TE):TE:=λU H Q=>ta U H λx H1=>r x H1 Q
inductive rI(C:tN->tN->Prop)(g:tN->tN->V)(x:V)(y:V)(H:Hp)(Q:VK):Prop
 |mk (i j:_) (h0:x=.tS i) (h1:y=.tS j) (h2:C i j) (h3:Q (g i j) H)
inductive rI0(g:tN->tN->V)(x:V)(y:V)(H:Hp)(Q:VK):Prop
 |mk (i j:_) (h0:x=.tS i) (h1:y=.tS j) (h2:Q (g i j) H)
def rU (g:tN->V):V->Hp->VK->Prop:=λx H Q=>∃i,x=.tS i/\Q (g i) H
variable{a c:Expr}{tc:TE}
def binT(ha:PE X a ta)(hb:PE X b tb){R:V->V->Hp->Prop}(I:uF X aa U H s)
  (h:ta U H λx H1=>tb U H1 λy H2=>R x y H2) {f:tM->tM->Sem tM}
  (hf:∀v u s2 x y H2,uF X aa U H2 s2->vg x v->vg y u->R x y H2->ue (uf X.ub X.w) X.A (f v u) Q X.xe s2) :
  ue (uf X.ub X.w) X.A (wD a X.uh) (λv ay=>ue (uf X.ub X.w) X.A (wD b X.uh) (λu bA=>ue (uf X.ub X.w) X.A (f v u) Q X.xe bA) X.xe ay) X.xe s:=by
 refine wo (ha aa s U H _ I h) λv s1 aj=>?_
 let{x,H1,I1,r1,q1}:= aj;refine wo (hb aa s1 U H1 _ I1 q1) λu s2 aj=>?_
 let{y,H2,I2,r2,q2}:= aj;exact hf v u s2 x y H2 I2 r1 r2 q2
def pe_op(ho:OpR X (binaryOp op) r)(ha:PE X a ta)(hb:PE X b tb):PE X (.BinOp a op b uG) (tOp r ta tb):=by intro aa s U H Q I h;exact wpAny_BinOp (binT ha hb I h λv u s2 x y H2 I2 rx ry q=>ho aa s2 U H2 x y v u Q I2 rx ry q)
def pe_un(ho:UnR X (unaryOp op) r)(ha:PE X a ta):PE X (.UnaryOp op a uG) (tUn r ta):=by intro aa s U H Q I h;exact UnaryOp_ (wo (ha aa s U H _ I h) λv s1 {x,H1,I1,r1,q1}=>ho aa s1 U H1 x v Q I1 r1 q1)
def opI{g:tN->tN->tN}
  (cb:∀(i j:tN)(t u:Tok)(s:ud)(Q:Zcv)(E:Zcv),C i j->Q (.tS (g i j) s.vj) {s with vj:=s.vj+1}->ue (uf X.ub X.w) X.A (f (.tS i t) (.tS j u)) Q E s) :
  OpR X f (rI C λi j=>.tS (g i j)):=by
 intro aa s U H x y v u Q I rx ry h;let{i,j,rfl,rfl,hc,q}:=h;let{t,rfl}:=rx;let{t',rfl}:=ry;exact cb i j t t' s _ _ hc {.tS (g i j),H,I.tok _,{_,rfl},q}
def opI0{g:tN->tN->tN}
  (cb:∀(i j:tN)(t u:Tok)(s:ud)(Q:Zcv)(E:Zcv),Q (.tS (g i j) s.vj) {s with vj:=s.vj+1}->ue (uf X.ub X.w) X.A (f (.tS i t) (.tS j u)) Q E s) :
  OpR X f (rI0 λi j=>.tS (g i j)):=by
 intro aa s U H x y v u Q I rx ry h;let{i,j,rfl,rfl,q}:=h;let{t,rfl}:=rx;let{t',rfl}:=ry;exact cb i j t t' s _ _ {.tS (g i j),H,I.tok _,{_,rfl},q}
def opB0{g:tN->tN->uz}
  (cb:∀(i j:tN)(t u:Tok)(s:ud)(Q:Zcv)(E:Zcv),Q (.bool (g i j)) s->ue (uf X.ub X.w) X.A (f (.tS i t) (.tS j u)) Q E s) :
  OpR X f (rI0 λi j=>.l (g i j)):=by
 intro aa s U H x y v u Q I rx ry h;let{i,j,rfl,rfl,q}:=h;let{t,rfl}:=rx;let{t',rfl}:=ry;exact cb i j t t' s _ _ {.l (g i j),H,I,rfl,q}
def CDiv (i j:tN):Prop:=0<j/\j<1073741824
def CPow (i j:tN):Prop:=0<=j/\j<=1000000/\i.natAbs<2^64
def CMul (i j:tN):Prop:=(-(2^64)<i/\i<2^64)\/(-(2^64)<j/\j<2^64)
def CMul.ok(h:CMul i j):IntMulOk i j:=by
 rcases h with⟨h1,h2⟩|⟨h1,h2⟩
 .exact .of_left (intBits_le_64 h1 h2)
 .exact .of_right (intBits_le_64 h1 h2)
def Jbr:OpR X (binaryOp .Add) (rI0 λi j=>.tS (i+j)):=opI0 λ_ _ _ _ _ _ _ q=>add_int q
def Jbl:OpR X (binaryOp .Sub) (rI0 λi j=>.tS (i-j)):=opI0 λ_ _ _ _ _ _ _ q=>sub_int q
def Xr:OpR X (binaryOp .FloorDiv) (rI CDiv λi j=>.tS (i/j)):=opI λi j _ _ _ _ _ hc q=>by have h1:=hc.1;have h2:j<1073741824:=hc.2;exact floordiv_int (by lia) (by rwa[tN.fdiv_eq_ediv_of_nonneg i (by lia)]) (.uW (PyProof.noPylong_small (by lia)))
def Jbn:OpR X (binaryOp .Mod) (rI (λ_ j=>0<j) λi j=>.tS (i%j)):=opI λi j _ _ _ _ _ hc q=>by exact mod_int' (by lia) (by rwa[tN.fmod_eq_emod_of_nonneg i (by lia)])
def Jbm:OpR X (binaryOp .Pow) (rI CPow λi j=>.tS (i^j.uw)):=opI λ_ _ _ _ _ _ _ hc q=>pow_int_small hc.1 hc.2.1 hc.2.2 q
def unI{g:tN->tN}
  (cb:∀(i:tN)(t:Tok)(s:ud)(Q:Zcv)(E:Zcv),Q (.tS (g i) s.vj) {s with vj:=s.vj+1}->ue (uf X.ub X.w) X.A (f (.tS i t)) Q E s) :
  UnR X f (rU λi=>.tS (g i)):=by
 intro aa s U H x v Q I rx h;let{i,rfl,q}:=h;let{t,rfl}:=rx;exact cb i t s _ _ {.tS (g i),H,I.tok _,{_,rfl},q}
def Jad:UnR X (unaryOp .USub) (rU λi=>.tS (-i)):=unI λ_ _ _ _ _ q=>neg_int q
def WM :V->V->uz
 |.vG,.vG=>true|.vG,.tS _=>true|.tS _,.vG=>true|.vG,.l _=>true|.l _,.vG=>true|.vG,.str _=>true|.str _,.vG=>true
 |.tS _,.tS _=>true|.l _,.l _=>true|.str _,.str _=>true|.zw _,.zw _=>true
 |.tS _,.str _=>true|.str _,.tS _=>true|.l _,.str _=>true|.str _,.l _=>true
 |_,_=>false
def rEq :R2:=λx y H Q=>WM x y=true/\Q (.l (decide (x=y))) H
def rNe :R2:=λx y H Q=>WM x y=true/\Q (.l (!decide (x=y))) H
def QY:decide (V.tS i=V.tS j)=(i==j):=by rw[pO];simp
def VX:decide (V.l i=V.l j)=(i==j):=by rw[pO];simp
def QX:decide (V.str i=V.str j)=(i==j):=by rw[pO];simp
def QZ:decide (V.zw i=V.zw j)=(i.uP==j.uP):=by rw[pO];cases i;cases j;simp
def AO(I:uF X aa U H s)(q:Q (.l k) H)(e:k=k'):EP X aa U Q (.bool k') s:=by subst e;exact{.l k,H,I,rfl,q}
def Xs:OpR X (u0 .Eq) rEq:=by
 intro aa s U H x y v u Q I rx ry h;let{hs,q}:=h;cases x with
 |vG =>cases rx;cases y with|vG=>cases ry;exact PySem.EqNone.eq_none_none (AO I q (by simp))|l j=>cases ry;exact PySem.EqNone.eq_none_bool (AO I q (by simp))|tS j=>let{t',rfl}:=ry;exact PySem.EqNone.eq_none_int (AO I q (by simp))|str j=>let{t',rfl}:=ry;exact PySem.EqNone.eq_none_str (AO I q (by simp))|_=>exact uD (show false=true from hs) oG
 |l i =>cases rx;cases y with|vG=>cases ry;exact PySem.EqNone.eq_bool_none (AO I q (by simp))|l j=>cases ry;exact eq_bool (AO I q VX)|str j=>let{t',rfl}:=ry;exact PySem.EqMixed.eq_bool_str (AO I q (by simp))|_=>exact uD (show false=true from hs) oG
 |tS i =>let{t,rfl}:=rx;cases y with|vG=>cases ry;exact PySem.EqNone.eq_int_none (AO I q (by simp))|tS j=>let{t',rfl}:=ry;exact eq_int (AO I q QY)|str j=>let{t',rfl}:=ry;exact PySem.EqMixed.eq_int_str (AO I q (by simp))|_=>exact uD (show false=true from hs) oG
 |str i =>let{t,rfl}:=rx;cases y with|vG=>cases ry;exact PySem.EqNone.eq_str_none (AO I q (by simp))|l j=>cases ry;exact PySem.EqMixed.eq_str_bool (AO I q (by simp))|tS j=>let{t',rfl}:=ry;exact PySem.EqMixed.eq_str_int (AO I q (by simp))|str j=>let{t',rfl}:=ry;exact eq_str (AO I q QX)|_=>exact uD (show false=true from hs) oG
 |zw i =>let{t,rfl}:=rx;cases y with|zw j=>let{t',rfl}:=ry;exact PySem.W.eq_bytes (AO I q QZ)|_=>exact uD (show false=true from hs) oG
 |_=>cases y<;>exact uD (show false=true from hs) oG
def op_ne:OpR X (u0 .NotEq) rNe:=by
 intro aa s U H x y v u Q I rx ry h;let{hs,q}:=h;cases x with
 |vG =>cases rx;cases y with|vG=>cases ry;exact PySem.EqNone.ne_none_none (AO I q (by simp))|l j=>cases ry;exact PySem.EqNone.ne_none_bool (AO I q (by simp))|tS j=>let{t',rfl}:=ry;exact PySem.EqNone.ne_none_int (AO I q (by simp))|str j=>let{t',rfl}:=ry;exact PySem.EqNone.ne_none_str (AO I q (by simp))|_=>exact uD (show false=true from hs) oG
 |l i =>cases rx;cases y with|vG=>cases ry;exact PySem.EqNone.ne_bool_none (AO I q (by simp))|l j=>cases ry;exact ne_bool (AO I q (uC not VX))|str j=>let{t',rfl}:=ry;exact PySem.EqMixed.ne_bool_str (AO I q (by simp))|_=>exact uD (show false=true from hs) oG
 |tS i =>let{t,rfl}:=rx;cases y with|vG=>cases ry;exact PySem.EqNone.ne_int_none (AO I q (by simp))|tS j=>let{t',rfl}:=ry;exact ne_int (AO I q (uC not QY))|str j=>let{t',rfl}:=ry;exact PySem.EqMixed.ne_int_str (AO I q (by simp))|_=>exact uD (show false=true from hs) oG
 |str i =>let{t,rfl}:=rx;cases y with|vG=>cases ry;exact PySem.EqNone.ne_str_none (AO I q (by simp))|l j=>cases ry;exact PySem.EqMixed.ne_str_bool (AO I q (by simp))|tS j=>let{t',rfl}:=ry;exact PySem.EqMixed.ne_str_int (AO I q (by simp))|str j=>let{t',rfl}:=ry;exact ne_str (AO I q (uC not QX))|_=>exact uD (show false=true from hs) oG
 |zw i =>let{t,rfl}:=rx;cases y with|zw j=>let{t',rfl}:=ry;exact PySem.W.ne_bytes (AO I q (uC not QZ))|_=>exact uD (show false=true from hs) oG
 |_=>cases y<;>exact uD (show false=true from hs) oG
def Jbo:OpR X (u0 .Lt) (rI0 λi j=>.l (decide (i<j))):=opB0 λ_ _ _ _ _ _ _ q=>lt_int q
def SQ:OpR X (u0 .LtE) (rI0 λi j=>.l (decide (i<=j))):=opB0 λ_ _ _ _ _ _ _ q=>le_int q
def op_gt:OpR X (u0 .Gt) (rI0 λi j=>.l (decide (j<i))):=opB0 λ_ _ _ _ _ _ _ q=>gt_int q
def op_ge:OpR X (u0 .GtE) (rI0 λi j=>.l (decide (j<=i))):=opB0 λ_ _ _ _ _ _ _ q=>ge_int q
def JK:OpR X (u0 .In) (λx y H Q=>∃i j,x=.str i/\y=.str j/\Q (.l (!(t6.tO.occurrences j i 0 j.fg 1).vb)) H):=by intro aa s U H x y v u Q I rx ry h;let{i,j,rfl,rfl,q}:=h;let{t,rfl}:=rx;let{t',rfl}:=ry;exact in_str (AO I q rfl)
def Vp:OpR X (u0 .Is) (λx y H Q=>y=.vG/\Q (.l (decide (x=.vG))) H):=by
 intro aa s U H x y v u Q I rx ry h;let{rfl,q}:=h;cases ry;refine is_none_gen (AO I q ?_);cases x<;>first
  |(cases rx;rfl)
  |(let{t,rfl}:=rx;rfl)
def Xn:OpR X (u0 .IsNot) (λx y H Q=>y=.vG/\Q (.l (!decide (x=.vG))) H):=by
 intro aa s U H x y v u Q I rx ry h;let{rfl,q}:=h;cases ry;refine isnot_none_gen (AO I q ?_);cases x<;>first
  |(cases rx;rfl)
  |(let{t,rfl}:=rx;rfl)
def Cf(b:v7){op:CmpOp}(h:op≠.In:=by decide)(h2:op≠.NotIn:=by decide):behindInMarks op b=false:=by
 have e1:(op==CmpOp.In)=false:=by cases op<;>first|rfl|exact uD rfl h
 have e2:(op==CmpOp.NotIn)=false:=by cases op<;>first|rfl|exact uD rfl h2
 cases b<;>first|rfl|(show(_&&(op==.In||op==.NotIn)&&_)=false;rw[e1,e2];simp)
def Xh(ho:OpR X (u0 op) r)(ha:PE X a ta)(hb:PE X b tb)(hm:behindInMarks op b=false):PE X (.vW a [op] [b] uG) (tOp r ta tb):=by intro aa s U H Q I h;exact wpAny_Compare1 (binT ha hb I h λv u s2 x y H2 I2 rx ry q=>ho aa s2 U H2 x y v u Q I2 rx ry q) hm
def Ww (t:TE):TT:=λU H Q=>t U H λx H'=>∃k,x=.l k/\Q k H'
def WY(ho:OpR X (u0 op) r)(ha:PE X a ta)(hb:PE X b tb)(hm:behindInMarks op b=false):PT X (.vW a [op] [b] uG) (Ww (tOp r ta tb)):=by intro aa s U H Q I h;refine wpAny_isTrue_Compare1 (wo (ha aa s U H _ I h) λv s1 {x,H1,I1,r1,q1}=>wo (hb aa s1 U H1 _ I1 q1) λu s2 {y,H2,I2,r2,q2} =>wo (ho aa s2 U H2 x y v u _ I2 r1 r2 q2) λc s3 {z,H3,I3,r3,k,e,q3}=>?_) hm;subst e;cases r3;exact wn {H3,I3,q3}
def OA (r r':R2)(ta tb tc:TE):TE:=λU H Q=>ta U H λx H1=>tb U H1 λy H2=>r x y H2 λz H3=>∃k,z=.l k /\
 (if k=true then tc U H3 λw' H4=>r' y w' H4 Q else Q (.l false) H3)
def L9(ho:OpR X (u0 op) r)(cu:OpR X (u0 op') r')(ha:PE X a ta)(hb:PE X b tb)(hc:PE X c tc)
  (hm:lastMarks [op,op'] [b,c]=false:=by with_unfolding_all rfl):PT X (.vW a [op,op'] [b,c] uG) (Ww (OA r r' ta tb tc)):=by
 intro aa s U H Q I h;refine isTrue_chain (wo (ha aa s U H _ I h) λv s1 {x,H1,I1,r1,q1}=>test_link (wo (hb aa s1 U H1 _ I1 q1) λu s2 {y,H2,I2,r2,q2} =>wo (ho aa s2 U H2 x y v u _ I2 r1 r2 q2) λd s3 {z,H3,I3,r3,k,e,q3}=>?_)) hm;subst e;cases r3;refine wn ?_;cases k with|false =>let{k',e',q'}:=q3;cases e';exact ite_ff {H3,I3,q'}|true =>refine ite_tt (test_last (wo (hc aa s3 U H3 _ I3 q3) λw' s4 {z',H4,I4,r4,q4}=>wo (cu aa s4 U H4 y z' u w' _ I4 r2 r4 q4) λd' s5 aj=>?_));let{z2,H5,I5,r5,k2,e2,q5}:= aj;subst e2;cases r5;exact wn {H5,I5,q5}
def TruV (K:Fg)(x:V)(H:Hp)(k:uz):Prop :=
 match x with|.vG=>k=false|.l b=>k=b|.tS i=>k=(i !=0)|.str y=>y.fg<=t9/\k=((y.fg:tN)!=0)|.zw y=>y.tX<=t9/\k=((y.tX:tN)!=0)|.t8 p=>(∃xs,SqL K H p xs/\k=!xs.vb)\/(∃xs,SqT K H p xs/\k=!xs.vb)\/∃ag,H p=p' (.v ag)/\k=!ag.vb|_=>vd
def NM(r:KV ag vs):(!vs.vb)=!ag.vb:=by cases r<;>rfl
def HC(r:vo xs uU):(!uU.tZ.vb)=!xs.vb:=by cases r<;>simp
def Hz:(t9:tQ)<2^63:=by rw[vk];decide
def Jaf:TruR X (λx H Q=>∃k,TruV X.K x H k/\Q k H):=by
 intro aa s U H x v Q I rx h;let{k,e,q}:=h;have hs:=vk;cases x with
 |vG =>cases rx;have e':=e;subst e';exact truthy_none {H,I,q}
 |l b =>cases rx;have e':k=b:=e;subst e';exact wn {H,I,q}
 |tS i =>let{t,rfl}:=rx;have e':=e;subst e';exact PySem.P.truthy_int {H,I,q}
 |str y =>let{t,rfl}:=rx;obtain⟨hy,e'⟩:y.fg<=t9/\k=((y.fg:tN)!=0):=e;subst e';exact PySem.P.truthy_str (by lia) {H,I.tok _,q}
 |zw y =>let{t,rfl}:=rx;obtain⟨hy,e'⟩:y.tX<=t9/\k=((y.tX:tN)!=0):=e;subst e';exact PySem.W.truthy_bytes (by lia) {H,I.tok _,q}
 |t8 p =>
  cases rx;have e':=e;rcases e' with⟨xs,hx,e'⟩|⟨xs,hx,e'⟩|⟨ag,hx,e'⟩
  .subst e';let{uU,r,pl,hz}:=I.list hx;have hlen:=r.fg;exact wpAny_truthy_list pl.vU (by simp![nZ];lia) {H,I.tok _,by rwa[HC r]}
  .subst e';let{uU,r,pl,hz}:=I.wz hx;have hlen:=r.fg;exact truthy_tuple pl (by simp![nZ];lia) {H,I.tok _,by rwa[HC r]}
  .subst e';obtain⟨hz,hS,vs,r,m⟩:ag.fg<=t9/\(p==wa)=false/\∃vs,KV ag vs/\s.tK.DictOf (Bj X.ub X.w) p vs:=I.zZ p _ hx;have hlen:=Paired.fg r;exact wpAny_truthy_dict hS m (by lia) {H,I.tok _,by rwa[NM r]}
 |_=>exact(show vd from e).tU
def L8(ha:PE X a ta)(he:∀aQ,isTrue a X.uh aQ=(do let v <- aQ;standAt a.uG;holding [v] (truthy v))):
  PT X a (λU H Q=>ta U H λx H'=>∃k,TruV X.K x H' k/\Q k H'):=by
 intro aa s U H Q I h;exact isTrue_plain (wo (ha aa s U H _ I h) λv s1 {x,H1,I1,r1,q1}=>Jaf aa s1 U H1 x v Q I1 r1 q1) (he _)
def ND:OpR X (binaryOp .Add) (λx y H Q=>∃i j,x=.str i/\y=.str j/\i.fg+j.fg<=t9/\Q (.str (i++j)) H):=by intro aa s U H x y v u Q I rx ry h;let{i,j,rfl,rfl,hz,q}:=h;let{t,rfl}:=rx;let{t',rfl}:=ry;exact add_str (λt' tk=>{.str (i++j),H,I.tok _,{_,rfl},q}) hz
def vals1{x}(r:vo [x] us):∃u,us=[u]/\vg x u:=by cases r with|ux r1 r2=>cases r2;exact{_,rfl,r1}
def vals2{x}(r:vo [x,y] us):∃u w',us=[u,w']/\vg x u/\vg y w':=by cases r with|ux r1 r2 =>cases r2 with|ux r3 r4=>cases r4;exact{_,_,rfl,r1,r3}
def Q7(hc:X.calm=true):B7 X (.uM "min") (λxs H Q=>∃i j,xs=[.tS i,.tS j]/\Q (.tS (if j<i then j else i)) H):=by
 intro aa s U H xs us Q I r h;let{i,j,rfl,q}:=h;let{u,w',rfl,{t,rfl},{t',rfl} }:=vals2 r;refine min_two_ints (I.ok.hd hc) λh' tk k=>{_,H,I.kept k,?_,q}
 by_cases hj:j<i
 .rw[tW hj,tW hj];exact{_,rfl}
 .rw[ug hj,ug hj];exact{_,rfl}
def Q8:B7 X (.uJ "int") (λxs H Q=>(∃i,xs=[.tS i]/\Q (.tS i) H)\/∃k,xs=[.l k]/\Q (.tS (if k then 1 else 0)) H):=by
 intro aa s U H xs us Q I r h;rcases h with⟨i,rfl,q⟩|⟨k,rfl,q⟩
 .let{u,rfl,t,rfl}:=vals1 r;exact call_int_int {.tS i,H,I,{_,rfl},q}
 .let{u,rfl,r1}:=vals1 r;cases r1;exact call_int_bool {.tS (if k then 1 else 0),H,I.tok _,{_,rfl},q}
structure Zy(h:uS)(x dx C:tV)(mA:Zsv):Prop where
 obj:h.ua x=p' (instObj C dx)
 ns:h.Ns1 dx mA
 ne:dx≠x
meta def PZ(n:h.Ns1 dx mA):∃od,h.ua dx=p' od/\∀name,lookIn name od=p' (mA name):=by
 let{o,es,ep,ho,hd,hk,_,hm}:=n;refine{o,ho,λname=>?_};have e:=hm name;unfold nsFind findBy at e;rw[<- vp.find?_toList]at e;unfold lookIn;rw[hd];dsimp only;split
 next y q=>rw[q]at e;exact uC p' e
 .rename_i q;rw[q]at e;have a:es.uP.any (·.refKey)=false:=by rw[qa];intro y hy;let{z,t,iO}:=hk y (vp.mem_toList_iff.mp hy);simp[DictEntry.refKey,iO]
  have a':¬es.uP.any (·.refKey)=true:=by rw[a];exact oG
  rw[ug a'];exact uC p' e
def Zy.look(I:Zy h x dx C mA):∃od,PySem.W.InstAt h x (instObj C dx) C (p' od)/\∀name,lookIn name od=p' (mA name) :=
 let{od,ho,hl}:=PZ I.ns
 {od,{I.obj,rfl,rfl,ho},hl}
variable{prog:Program}{A:Around}{K:Fg}{dx C f:Addr}{mA:Zsv}{name:Str}{v:Value}
def get_map(X:K.In s.tK)(I:Zy s.tK x dx C mA)(hg:plainGet K C name=true)(hh:hasDictIn K C=true)
  (ha:findIn K (.t8 C) name=p' none) (hv:mA name=p' v) (lI:handedIn v=true) (h:Q v {s with vj:=s.vj+1}) :
  ue (uf ub w) A (getAttr (.t8 x) name expr) Q E s:=by
 let{od,J,hl}:=I.look;exact PySem.W.get_value X J (plainGet_of hg).1 (PySem.W.findObj_own hh ha rfl (by rw[hl,hv])) lI h
def Tw(X:K.In s.tK)(I:Zy s.tK x dx C mA)(hg:plainGet K C name=true)
  (hf:findIn K (.t8 C) name=p' (p' (.t8 f))) (ht:isFn K (.t8 f)=true) (hv:mA name=none) (h:Q (.t8 f,[.t8 x]) s) :
  ue (uf ub w) A (getMethod (.t8 x) name pl) Q E s:=by
 let{od,J,hl}:=I.look;exact PySem.W.method_fn X J (plainGet_of hg).1 (plainGet_of hg).2 hf (beq_iff_eq.mp ht) (by show(lookIn name od).tJ (·.u8)=p' false;rw[hl,hv];rfl) h
def WL(X:K.In s.tK)(I:Zy s.tK x dx C mA)
  (hs:findIn K (.t8 C) "__setattr__"=p' (p' (.uM "object.__setattr__"))) (hp:plainOver K C=true) (ht:takerIn K C name=p' none) (hh:hasDictIn K C=true)
  (hw:PySem.Within mA ns) (hsz:ns.fg<=t9)
  (h:∀h',Zy h' x dx C (λy=>if y=name then p' v else mA y)->uS.SameBut dx s.tK h'->Q () {s with tK:=h',vj:=s.vj+2}) :
  ue (uf ub w) A (setAttr (.t8 x) name v) Q E s:=by
 let{od,J,hl}:=I.look;refine PySem.W.set_plain X J hs (PySem.W.osa_open X J hp ht λb=>?_);let{cd,hc,bP}:=PySem.W.any_some hh;have hx:=I.obj;refine nR (n6 (nR (nR (wpAny_loadPart hx (nR (PySem.W.Looks.here (PySem.W.looks_clsIn X hc) ?_))))));rw[bP];refine n6 (nR (n6 (nR ?_)));refine wpAny_nsSet1 I.ns λh' eN bh=>?_
 let{oD,nj,ng,k8,kR,kQ}:=eN.count (PySem.Within.ux name v hw);refine nR (wpAny_lookBehind k8 (by rw[kR];exact pastItsLine_dict (oo kQ (by rw[om];lia))) ?_);exact n6 (h _ {(bh.2 _ (Ne.symm I.ne)).trans I.obj,eN,I.ne} bh)
def S3(X:K.In s.tK)(hm:makesIn K C=true)
  (hi:findIn K (.t8 C) "__init__"=p' (p' (.t8 f))) (hf:PySem.W.typeIn K (.t8 f)=p' (.uJ "function"))
  (h:codeAny (uf ub w) (A.under (.uM "type.__call__" {.t8 C::vs,kw})) (.call (.t8 f) {.t8 (s.tK.uc.tX+1)::vs,kw}) (PySem.W.InitBack (s.tK.uc.tX+1) R)
   {s with tK:=(s.tK.vY emptyDict).vY (instObj C s.tK.uc.tX)}) :
  codeAny (uf ub w) A (.call (.t8 C) {vs,kw}) R s:=by
 exact PySem.W.make_core (PySem.W.makes_of X hm) (PySem.W.looks_findIn X hi) (λself=>PySem.W.bind_fn X self hf) (.uW rfl) h
def FU (f:tO)(v:V):tH (tO×V)->tH (tO×V)
 | []=>[(f,v)]
 |(g,x)::r=>if g=f then(g,v)::r else(g,x)::FU f v r
def Gr(f g:tO)(v:V):∀fs:tH (tO×V),(FU f v fs).t7 g=if g=f then p' v else fs.t7 g
 | []=>by
  show tH.t7 g [(f,v)]=_;by_cases h:g=f
  .have hb:=beq_iff_eq.wO h;simp![tH.t7,hb,tW h]
  .have hb:=vB.wO h;simp![tH.t7,hb,ug h]
 |(k,x)::r=>by
  have ih:=Gr f g v r;rw[show FU f v ((k,x)::r)=(if k=f then(k,v)::r else(k,x)::FU f v r)from rfl];by_cases hk:k=f
  .rw[tW hk];by_cases h:g=k
   .have hb:=beq_iff_eq.wO h;simp![tH.t7,hb,tW (h.trans hk)]
   .have hb:=vB.wO h;simp![tH.t7,hb,ug (λe:g=f=>h (e.trans hk.symm))]
  .rw[ug hk];by_cases h:g=k
   .have hb:=beq_iff_eq.wO h;simp![tH.t7,hb,ug (λe:g=f=>hk (h.symm.trans e))]
   .have hb:=vB.wO h;simp![tH.t7,hb];exact ih
def Gy(f:tO)(v:V):∀fs:tH (tO×V),f∈(FU f v fs).tJ (·.1)/\∀g,g∈fs.tJ (·.1)->g∈(FU f v fs).tJ (·.1)
 | []=>{by simp[FU],λg h=>by simp at h}
 |(k,x)::r=>by
  let{i1,i2}:=Gy f v r;rw[show FU f v ((k,x)::r)=(if k=f then(k,v)::r else(k,x)::FU f v r)from rfl];by_cases hk:k=f
  .rw[tW hk];subst hk;exact{by simp,λg h=>by simpa using h}
  .rw[ug hk];refine{?_,λg h=>?_}
   .rw[nV];exact n4 _ i1
   .rw[nV]at h ⊢;rcases oz.mp h with e|e
    .exact oz.wO (.uW e)
    .exact n4 _ (i2 g e)
def Gv(f:tO)(v:V):∀fs:tH (tO×V),(FU f v fs).fg<=fs.fg+1
 | []=>by simp[FU]
 |(k,x)::r=>by
  have ih:=Gv f v r;rw[show FU f v ((k,x)::r)=(if k=f then(k,v)::r else(k,x)::FU f v r)from rfl];by_cases hk:k=f
  .rw[tW hk,om,om];lia
  .rw[ug hk,om,om];lia
def Bg.some_of{v}{o}(r:Bg (p' v) o):∃u,o=p' u/\vg v u:=by cases o with|none=>exact(show vd from r).tU|p' u=>exact{u,rfl,r}
def Bg.none_of{o}(r:Bg none o):o=none:=by cases o with|none=>rfl|p' u=>exact(show vd from r).tU
def Qt{u}{v}(r:vg v u):handedIn u=true:=by cases v with|vG=>cases(show u=tM.none from r);rfl|l b=>cases(show u=tM.bool b from r);rfl|tS i=>let{t,e}:=(show ∃t,u=tM.tS i t from r);cases e;rfl|str x=>let{t,e}:=(show ∃t,u=tM.str x t from r);cases e;rfl|zw b=>let{t,e}:=(show ∃t,u=tM.bytes b t from r);cases e;rfl|yI b=>let{t,e}:=(show ∃t,u=tM.float b t from r);cases e;rfl|t8 a=>cases(show u=tM.t8 a from r);rfl|ty n=>cases(show u=tM.uJ n from r);rfl
variable{a:Addr}{fs ak:List (Str×V)}
def Lb(zZ:HOk P w H h)(e:H a=p' (.vE C dx fs)):∃mA,Zy h a dx C mA/\(∀f,Bg (fs.t7 f) (mA f))/\PySem.Within mA (fs.tJ (·.1))/\fs.fg<=1000/\H dx=p' (.uI a):=by
 let{d,z,ne,ob,mA,n,r,q}:=(show Bt P w H h a (.vE C dx fs)from zZ a _ e)
 exact{mA,{ob,n,ne},r,q,z,d}
structure Cls(K:Fg)(C:tV):Prop where
 pg:plainGet K C tO.empty=true
 hd:hasDictIn K C=true
 po:plainOver K C=true
 sa:findIn K (.t8 C) "__setattr__"=p' (p' (.uM "object.__setattr__"))
def Cls.get(c:Cls K C)(f:tO):plainGet K C f=true:=c.pg
def AR (K:Fg)(C:tV)(f:tO):Prop:=findIn K (.t8 C) f=p' none
def AR.taker{f}(n:AR K C f):takerIn K C f=p' none:=by unfold takerIn;rw[show findIn K (.t8 C) f=p' none from n];rfl
structure Meth(K:Fg)(C:tV)(m:tO)(f:tV):Prop where
 at_:findIn K (.t8 C) m=p' (p' (.t8 f))
 fn:isFn K (.t8 f)=true
 kp:keepIn K (.t8 f)=true
variable{f:Str}{v:V}
def HE{b}(I:uF X aa U H s)(e:H a=p' (.vE C dx fs))(c:Cls X.K C)(n:AR X.K C f)(l:fs.t7 f=p' v)
  (h:∀u s',uF X aa U H s'->vg v u->Q u s'):ue (uf X.ub X.w) A (getAttr (.t8 a) f b) Q E s:=by
 let{mA,O,r,_,_,_}:=Lb I.zZ e;let{u,hu,ru}:=Bg.some_of (by rw[<- l];exact r f);exact get_map I.kIn O (c.get f) c.hd n hu (Qt ru) (h u _ (I.tok _) ru)
def HD(I:uF X aa U H s)(e:H a=p' (.vE C dx fs))(c:Cls X.K C)(k:Meth X.K C m g)(l:fs.t7 m=none)
  (h:Q (.t8 g,[.t8 a]) s):ue (uf X.ub X.w) A (getMethod (.t8 a) m pl) Q E s:=by
 let{mA,O,r,_,_,_}:=Lb I.zZ e;have hn:=Bg.none_of (by rw[<- l];exact r m);exact Tw I.kIn O (c.get m) k.at_ k.fn hn h
def Hq{u}(I:uF X aa U H s)(e:H a=p' (.vE C dx fs))(c:Cls X.K C)(n:AR X.K C f)(hl:fs.fg<1000)(ry:vg y u)
  (h:∀s',uF X aa U (vi H a (.vE C dx (FU f y fs))) s'->Q () s'):ue (uf X.ub X.w) A (setAttr (.t8 a) f u) Q E s:=by
 let{mA,O,r,wi,_,ho}:=Lb I.zZ e;have hz:(fs.tJ (·.1)).fg<=t9:=by rw[nU,vk];lia
 refine WL I.kIn O c.sa c.po n.taker c.hd wi hz λh' O' sb=>h _ ?_
 have hd:∃o,h'.ua dx=p' o:=let{o,_,_,e',_}:=O'.ns;{o,e'};refine I.write (by rw[e];exact uQ.intro) (.uK ho) (λb q hb z=>(sb.2 b hb).trans z) hd ?_;refine{by rw[Ap O.ne];exact ho,?_,O.ne,O'.obj,_,O'.ns,λg=>?_,λg hg=>?_}
 .have:=Gv f y fs;lia
 .show Bg ((FU f y fs).t7 g) (if g=f then p' u else mA g);rw[Gr];by_cases q:g=f
  .rwa[tW q,tW q]
  .rw[ug q,ug q];exact r g
 .by_cases q:g=f
  .rw[q];exact(Gy f y fs).1
  .refine(Gy f y fs).2 g (wi g λz=>hg ?_);show(if g=f then p' u else mA g)=none;rwa[ug q]
def uF.made(I:uF X aa U H s):uF X aa U (vi (vi H s.tK.uc.tX (.uI (s.tK.uc.tX+1))) (s.tK.uc.tX+1) (.vE C s.tK.uc.tX []))
  {s with tK:=(s.tK.vY emptyDict).vY (instObj C s.tK.uc.tX)}:=by
 have e1:(s.tK.vY emptyDict).ua s.tK.uc.tX=p' emptyDict:=oi s.tK rfl;have e2:((s.tK.vY emptyDict).vY (instObj C s.tK.uc.tX)).ua (s.tK.uc.tX+1)=p' (instObj C s.tK.uc.tX):=by have:=oi (s.tK.vY emptyDict) (o:=instObj C s.tK.uc.tX) rfl;rwa[pA]at this
 have e3:(s.tK.vY emptyDict).Ns s.tK.uc.tX (λ_=>none):={emptyDict,#[],_,e1,rfl,(λe he=>uD he (by simp)),λ_=>rfl}
 have I1:=I.laid (a:=s.tK.uc.tX) (o:=.uI (s.tK.uc.tX+1)) (h':=s.tK.vY emptyDict) (t':=s.vj) (λb u q=>nY _ q) (oh _) {_,e1};refine I1.laid (a:=s.tK.uc.tX+1) (o:=.vE C s.tK.uc.tX []) (t':=s.vj) (λb u q=>nY _ q) (tQ.le_of_eq (pA _ _)) ?_;have ne:s.tK.uc.tX≠s.tK.uc.tX+1:=oI (qM _);refine{by rw[Ap ne,Aq],pB _,ne,e2,λ_=>none,(uS.Ns1.of_empty e3).at λo q=>nY _ q,λ_=>uQ.intro,λy hy=>uD rfl hy}
def Zs(hb:attributeBase e f uh (wD e uh)=wD e uh)
  (h:ue (uf ub w) A (wD e uh) (λo ay=>ue (uf ub w) A (getAttr o f true) Q E ay) E s):ue (uf ub w) A (wD (.ut e f uG) uh) Q E s :=
 Attribute_any_ h (by rw[arm_eval_Attribute,hb])
inductive FldP(K:Fg)(f:tO)(Q:VK)(x:V)(H1:Hp):Prop
 |mk (a C dx fs v:_) (h0:x=.t8 a) (h1:H1 a=p' (.vE C dx fs)) (h2:Cls K C) (h3:AR K C f) (h4:fs.t7 f=p' v) (h5:Q v H1)
def tFld (K:Fg)(ta:TE)(f:tO):TE:=λU H Q=>ta U H (FldP K f Q)
def sFld (K:Fg)(ta tv:TE)(f:tO):TS:=λD U H=>tv U H λy H1=>ta U H1 λx H2=>∃a C dx fs,x=.t8 a/\H2 a=p' (.vE C dx fs)/\Cls K C/\AR K C f/\fs.fg<1000 /\
 D.nx U (vi H2 a (.vE C dx (FU f y fs)))
def InOp (X:Cx)(op:Operator)(rd:V->V->Hp->VK->Prop):Prop :=
 ∀(aa:Zao)(s:ud)(U:St)(H:Hp)(x y:V)(u v:tM)(Q:VK),uF X aa U H s->vg x u->vg y v->rd x y H Q->ue (uf X.ub X.w) X.A (inplaceOp op u v) (EP X aa U Q) X.xe s
def WO (K:Fg)(ta tv:TE)(rd:V->V->Hp->VK->Prop)(f:tO):TS:=λD U H=>ta U H λx H1=>∃a C dx fs v,x=.t8 a/\H1 a=p' (.vE C dx fs)/\Cls K C/\AR K C f/\fs.t7 f=p' v /\
 tv U H1 λy H2=>rd v y H2 λz H3=>∃fQ ak,H3 a=p' (.vE C fQ ak)/\ak.fg<1000/\D.nx U (vi H3 a (.vE C fQ (FU f z ak)))
variable{o value:Expr}{aI bV:Pos}{tv:TE}
def Fe(he:PE X e ta)(hb:Zab X.uh e f):PE X (.ut e f uG) (tFld X.K ta f):=by intro aa s U H Q I h;refine Zs hb (wo (he aa s U H _ I h) λu s1 aj=>?_);let{x,H1,I1,rx,a,C,dx,fs,v,ex,ea,c,n,l,q}:= aj;subst ex;obtain rfl:u=tM.t8 a:=rx;exact HE I1 ea c n l λu' s2 I2 ru=>{v,H1,I2,ru,q}
def Ja3(ha:PE X o ta)(hv:PE X value tv)(hs:swapsWith value (p' (.ut o f aI)) uG.line X.uh=wx false):PS X (.Assign [.ut o f aI] value uG) (sFld X.K ta tv f):=by intro aa s U H D I h;refine plainObj_wpAny_Assign_Attribute (wo (hv aa s U H _ I h) λu s1 {y,H1,I1,ry,q}=>wo (ha aa s1 U H1 _ I1 q) λov s2 aj=>?_) hs;let{x,H2,I2,rx,a,C,dx,fs,ex,ea,c,n,l,q2}:= aj;subst ex;obtain rfl:ov=tM.t8 a:=rx;exact Hq I2 ea c n l ry λs3 I3=>{U,_,I3,q2}
def Pb(ha:PE X o ta)(hv:PE X value tv)(lg:InOp X op rd):PS X (.AugAssign (.ut o f bV) op value uG) (WO X.K ta tv rd f):=by
 intro aa s U H D I h;refine wpAny_AugAssign_AttributeAny (wo (ha aa s U H _ I h) λov s1 aj=>?_);let{x,H1,I1,rx,a,C,dx,fs,v,ex,ea,c,n,l,q}:= aj;subst ex;obtain rfl:ov=tM.t8 a:=rx;refine HE I1 ea c n l λu s2 I2 ru=>wo (hv aa s2 U H1 _ I2 q) λw3 s3 aj => ?_
 let{y,H2,I3,ry,q3}:= aj;refine wo (lg aa s3 U H2 v y u w3 _ I3 ru ry q3) λw4 s4 iV=>?_
 let{z,H3,I4,rz,fQ,ak,kr,l',q4}:= iV;exact Hq I4 kr c n l' rz λs5 I5=>{U,_,I5,q4}
def rSub :V->V->Hp->VK->Prop:=λx y H Q=>∃i j,x=.tS i/\y=.tS j/\Q (.tS (i-j)) H
def Jb6:InOp X .Sub rSub:=by
 intro aa s U H x y u v Q I rx ry {i,j,rfl,rfl,q}
 let{t,rfl}:=(show ∃t,u=tM.tS i t from rx)
 let{t',rfl}:=(show ∃t',v=tM.tS j t' from ry)
 exact isub_int {.tS (i-j),H,I.tok _,{_,rfl},q}
variable{Q:Zcv}{c:Value}{b:Bool}
structure Di(k:tQ)(A:Around):Prop where
 hd:A.wp=none
 dp:A.depth+3*k+5<recursionLimit
 un:A.vF+16*k+200<wc
def Di.mono(r:Di k A)(h:j<=k):Di j A:={r.hd,by have:=r.dp;lia,by have:=r.un;lia}
def Di.deeper(r:Di (k+1) A)(uh:Env):Di k (A.deeper uh) :=
 {r.hd,by have:=r.dp;show A.depth+1+3*k+5<_;lia,by have:=r.un;show A.vF+3+16*k+200<_;lia}
def NI{us:tH tM}{kw:tH (tO×tM)}:(A.under (.uM "type.__call__" {.t8 C::us,kw})).depth=A.depth+1:=by first|rfl|simp[guardIds]
def NH{us:tH tM}{kw:tH (tO×tM)}:(A.under (.uM "type.__call__" {.t8 C::us,kw})).vF=A.vF+1:=by first|rfl|simp[Code.isFrame]
def Di.make(r:Di (k+1) A)(C:tV)(us:tH tM)(kw:tH (tO×tM)):Di k (A.under (.uM "type.__call__" {.t8 C::us,kw})) :=
 {r.hd,by have:=r.dp;rw[NI];lia,by have:=r.un;rw[NH];lia}
def Di.depth(r:Di k A):A.depth<recursionLimit:=by have:=r.dp;lia
def Di.vF(r:Di k A):A.vF+64<wc:=by have:=r.un;lia
def Jal :TA:=λ_ H Q=>Q [] H
def Jar (ta:TE)(tr:TA):TA:=λU H Q=>ta U H λx H1=>tr U H1 λxs H2=>Q (x::xs) H2
variable{es:List Expr}{t:TA}
def JH:PA X [] Jal:=λ_ _ _ _ H Q I h=>Calls.spliced_nil {[],H,I,.vO,h}
def D7(ha:PE X e te)(hr:PA X es t)(hs:Zsc X.uh e es:=by rfl):PA X (e::es) (Jar te t):=by
 intro uG aa s U H Q I h;rw[hs];refine Calls.spliced_cons (wo (ha aa s U H _ I h) λu s1 aj=>?_);let{x,H1,I1,r1,q1}:= aj;refine wo (hr uG aa s1 U H1 _ I1 q1) λus s2 aj => ?_
 let{xs,H2,I2,r2,q2}:= aj;exact{x::xs,H2,I2,.ux r1 r2,q2}
def tTup (t:TA):TE:=λU H Q=>t U H λxs H1=>xs.fg<=t9/\∀p,H1 p=none->Q (.t8 p) (vi H1 p (.uj xs))
def tLst (t:TA):TE:=λU H Q=>t U H λxs H1=>xs.fg<=t9/\∀p,H1 p=none->Q (.t8 p) (vi H1 p (.tY xs))
def Jba(h:PA X es t):PE X (.Tuple es x1 uG) (tTup t):=by intro aa s U H Q I hq;refine wpAny_Tuple_spliced (wo (h uG aa s U H _ I hq) λus s1 {xs,H1,I1,r,z,q}=>{by rw[<- r.fg];exact z,?_});have hf:=I1.zZ.vJ (oh _);refine{.t8 s1.tK.uc.tX,vi H1 s1.tK.uc.tX (.uj xs),I1.laid (λb u e=>nY _ e) (oh _) ?_,rfl,q _ hf};exact{z,us,r,{_,oi _ rfl,rfl,_,rfl,rfl} }
def Vk(h:PA X es t):PE X (.tH es uG) (tLst t):=by intro aa s U H Q I hq;refine wpAny_List_spliced (wo (h uG aa s U H _ I hq) λus s1 {xs,H1,I1,r,z,q}=>{by rw[<- r.fg];exact z,?_});have hf:=I1.zZ.vJ (oh _);refine{.t8 s1.tK.uc.tX,vi H1 s1.tK.uc.tX (.tY xs),I1.laid (λb u e=>nY _ e) (oh _) ?_,rfl,q _ hf};exact{z,us,0,r,oi _ rfl}
def Sp:=tH V->Hp->VK->XK->Prop
def CXT:=tH Env->Hp->ud->XK->tM->ud->Prop
structure ZA(P:wf)(w:wK)(K:Fg)(mg:Zsv)(uk:uS)(A:Around)(uY:tH Env)(s:ud)(H:Hp):Prop where
 v5:A.v5=p' uY
 mod:Mod K mg uk
 bs:∀b o,uk.ua b=p' o->s.tK.ua b=p' o/\H b=none
 ze:uk.uc.tX<=s.tK.uc.tX
 MH:s.tK.FunFrames uk uY
 yW:∀b∈frs uY,H b=none
 zZ:HOk P w H s.tK
 bare:AllBare s.gens
inductive CE(uY:tH Env)(P:wf)(w:wK)(H:Hp)(s:ud)(Q:VK)(u:tM)(s':ud):Prop
 |mk (v:V) (H':Hp) (h0:s'.os=s.os) (h1:AllBare s'.gens) (h2:Un (frs uY) [] H H' s.tK s'.tK) (h3:HOk P w H' s'.tK) (h4:vg v u) (h5:Q v H')
def CR (CX:CXT)(uY:tH Env)(P:wf)(w:wK)(H:Hp)(s:ud)(Q:VK)(E:XK)(r:Result)(s':ud):Prop :=
 match r with|.ok (.wH u)=>CE uY P w H s Q u s'|.ok _=>vd|.error e=>CX uY H s E e s'
structure Fm(P:wf)(w:wK)(K:Fg)(mg:Zsv)(uk:uS)(CX:CXT)(k:tQ)(f:tV)(fd:FuncData)(ps:tH tO)(sp:Sp):Prop where
 wv:∀vs H Q E,sp vs H Q E->vs.fg=ps.fg
 run:∀(A:Around)(uY:tH Env)(s:ud)(H:Hp)(args:Args)(us:tH tM)(vs:tH V)(Q:VK)(E:XK),Di k A->ZA P w K mg uk A uY s H->BindsTo s fd args (ps.zip us)->vo vs us->sp vs H Q E ->
  codeAny (uf P w) A (.call (.t8 f) args) (CR CX uY P w H s Q E) s
def Fm.imp{mg:Zsv}{uk:uS}{CX:CXT}{k:tQ}{f:tV}{fd:FuncData}{ps:tH tO}{sp jX:Sp}(F:Fm P w K mg uk CX k f fd ps sp)
  (h:∀vs H Q E,jX vs H Q E->sp vs H Q E):Fm P w K mg uk CX k f fd ps jX :=
 {λvs H Q E q=>F.wv vs H Q E (h _ _ _ _ q),λA uY s H args us vs Q E hr he hb hv hs=>F.run A uY s H args us vs Q E hr he hb hv (h _ _ _ _ hs)}
def ZA.make{mg:Zsv}{uk:uS}{uY:tH Env}(e:ZA P w K mg uk A uY s H)(C:tV)(us:tH tM)(kw:tH (tO×tM)):
  ZA P w K mg uk (A.under (.uM "type.__call__" {.t8 C::us,kw})) uY s H:={by first|exact e.v5|(simpa[pushEnvs]using e.v5),e.mod,e.bs,e.ze,e.MH,e.yW,e.zZ,e.bare}
variable{s':Shared}
def uF.env0(I:uF X aa U H s):ZA X.ub X.w X.K X.mg X.uk X.A X.wA s H :=
 {I.ok.v5,I.ok.mod,I.bs,oo I.ok.ze I.sz,I.wA,I.KR,I.zZ,I.bare}
def uF.after{Q}{u}(I:uF X aa U H s)(h:CE X.wA X.ub X.w H s Q u s'):EP X aa U Q u s':=by let{v,H',os,bare,un,zZ,r,q}:=h;let{hh,g,d,t,bz}:=s';obtain rfl:bz=s.os:=os;exact{v,H',I.call un zZ bare (λb z=>uD z (by simp)),r,q}
def Wy (C:tV)(m:tO)(sp:Sp)(cn:tH V)(E:XK)(ta:TE)(t:TA):TE:=λU H Q=>ta U H λx H1=>∃a dx fs,x=.t8 a/\H1 a=p' (.vE C dx fs)/\fs.t7 m=none /\
 t U H1 λvs H2=>sp (x::(vs++cn)) H2 Q E
def Jao (C:tV)(sp:Sp)(cn:tH V)(E:XK)(t:TA):TE:=λU H Q=>t U H λvs H1=>∀x dx,H1 x=none->H1 dx=none->dx≠x ->
 sp (.t8 x::(vs++cn)) (vi (vi H1 dx (.uI x)) x (.vE C dx [])) (λv H2=>v=.vG/\Q (.t8 x) H2) E
def Binds (K:Fg)(fd:FuncData)(ps:tH tO)(ds:tH tM):Prop :=
 ∀(s:ud)(us:tH tM),K.In s.tK->(us++ds).fg=ps.fg->BindsTo s fd {us,[]} (ps.zip (us++ds))
def Binds.all{fd:FuncData}{ps:tH tO}(h:∀us:tH tM,us.fg=ps.fg->bindArgs fd {us,[]}=wx (ps.zip us)):Binds K fd ps []:=λs us _ hl=>by rw[oJ]at hl ⊢;exact .of_eq (h us hl)
def Passes (CX:CXT)(X:Cx)(E:XK):Prop:=∀(aa:Zao)(U:St)(H:Hp)(s:ud)(e:tM)(s':ud),uF X aa U H s->CX X.wA H s E e s'->X.xe e s'
variable{CX:CXT}{k:Nat}{f:Addr}{fd:FuncData}{ps:List Str}{sp:Sp}{cn:List V}{ds:List Value}{E:XK}{x m:Str}{p aw:Pos}
def JaH{Q}(F:Fm X.ub X.w X.K X.mg X.uk CX k f fd ps sp)(hr:Di k X.A)(hb:Binds X.K fd ps ds)(hd:vo cn ds)(hx:Passes CX X E)
  (I:uF X aa U H s) (r:vo vs us) (h:sp (vs++cn) H Q E):ue (uf X.ub X.w) X.A (call (.t8 f) us) (EP X aa U Q) X.xe s:=by
 have r2:=r.append hd;have hl:(us++ds).fg=ps.fg:=by rw[<- r2.fg];exact F.wv _ _ _ _ h
 refine wpAny_call (codeAny_mono (F.run X.A X.wA s H {us,[]} (us++ds) (vs++cn) Q E hr I.env0 (hb s us I.kIn hl) r2 h) λr s' hq=>?_);cases r with|error e=>exact hx aa U H s e s' I hq|ok fl =>cases fl with|wH u=>exact I.after hq|next=>exact vd.tU hq|brk=>exact vd.tU hq|cont=>exact vd.tU hq
def SJ(he:PE X o ta)(c:Cls X.K C)(hm:Meth X.K C m f)(F:Fm X.ub X.w X.K X.mg X.uk CX k f fd ps sp)(hr:Di k X.A)(hb:Binds X.K fd ps ds)(hd:vo cn ds)(hx:Passes CX X E)
  (ht:wD (.vM (.ut o m aw) [] [] uG) X.uh=(do
   let ov <- wD o X.uh
   standAt aw.atName
   let(f,first) <- holding [ov] (getMethod ov m pl)
   callWith uG f first (backTo uG (vD [] X.uh)) (backToKw uG (keywordEach [] X.uh))):=by rfl) :
  PE X (.vM (.ut o m aw) [] [] uG) (Wy C m sp cn E ta Jal):=by
 intro aa s U H Q I h;refine methodCall_KW (wo (he aa s U H _ I h) λu s1 aj=>?_) ht;let{x,H1,I1,rx,a,dx,fs,ex,ea,l,q}:= aj;subst ex;obtain rfl:u=tM.t8 a:=rx;refine HD I1 ea c hm l ?_;exact PySem.W.callWith_K0 I1.kIn hm.kp (JaH (vs:=[.t8 a]) F hr hb hd hx I1 (.ux rfl .vO) q)
structure Mk(K:Fg)(C f:tV):Prop where
 makes:makesIn K C=true
 init:findIn K (.t8 C) "__init__"=p' (p' (.t8 f))
 fn:isFn K (.t8 f)=true
 kp:keepIn K (.t8 C)=true
def Se{Q}(M:Mk X.K C f)(F:Fm X.ub X.w X.K X.mg X.uk CX k f fd ps sp)(hr:Di (k+1) X.A)(hb:Binds X.K fd ps ds)(hd:vo cn ds)
  (hx:Passes CX X E) (I:uF X aa U H s) (r:vo vs us)
  (h:∀x dx,H x=none->H dx=none->dx≠x->sp (.t8 x::(vs++cn)) (vi (vi H dx (.uI x)) x (.vE C dx [])) (λv H2=>v=.vG/\Q (.t8 x) H2) E) :
  ue (uf X.ub X.w) X.A (call (.t8 C) us) (EP X aa U Q) X.xe s:=by
 have hq:=h (s.tK.uc.tX+1) s.tK.uc.tX (I.zZ.vJ (tQ.le_succ _)) (I.zZ.vJ (oh _)) (oI (qM _));have I2:=uF.made (C:=C) I;have r2:vo (V.t8 (s.tK.uc.tX+1)::(vs++cn)) (tM.t8 (s.tK.uc.tX+1)::(us++ds)):=.ux rfl (r.append hd);have hl:=by have e:=r2.fg;rw[F.wv _ _ _ _ hq]at e;exact e.symm
 refine wpAny_call (S3 I.kIn M.makes M.init (beq_iff_eq.mp M.fn) (codeAny_mono (F.run _ X.wA _ _ {tM.t8 (s.tK.uc.tX+1)::us,[]} (tM.t8 (s.tK.uc.tX+1)::(us++ds)) _ _ E (hr.make C us [])
  (I2.env0.make C us []) (hb _ (tM.t8 (s.tK.uc.tX+1)::us) I2.kIn hl) r2 hq) λr s' gj=>?_))
 cases r with|error e=>exact hx aa U _ _ e s' I2 gj|ok fl =>cases fl with|wH u =>let{v,H',I3,rv,ev,q3}:=I2.after gj;subst ev;exact{rv,{V.t8 (s.tK.uc.tX+1),H',I3,rfl,q3} }|next=>exact vd.tU gj|brk=>exact vd.tU gj|cont=>exact vd.tU gj
def Xe(M:Mk X.K C f)(F:Fm X.ub X.w X.K X.mg X.uk CX k f fd ps sp)(hr:Di (k+1) X.A)(hg:Gl X x)(hm:X.mg x=p' (.t8 C))(hb:Binds X.K fd ps ds)(hd:vo cn ds)(hx:Passes CX X E)
  (ha:PA X (e::es) t) (aY:Zdb x:=by decide) (he:Zsc X.uh e es:=by rfl) (aG:Zbt X.uh uG es:=by rfl) :
  PE X (.vM (.uE x p) (e::es) [] uG) (Jao C sp cn E t):=by
 intro aa s U H Q I h;refine vS (Gw I hg hm ?_ aY);refine callWith_K I.ok.mod.yU M.kp (wo (ha uG aa s U H _ I h) λus s1 {vs,H1,I1,r,q}=>{I1.kIn,?_}) he aG;exact Se M F hr hb hd hx I1 r q
def PK (X:Cx)(g9:tH Keyword)(t:TA):Prop :=
 ∀(uG:Pos)(aa:Zao)(s:ud)(U:St)(H:Hp)(Q:tH V->Hp->Prop),uF X aa U H s->t U H Q->ue (uf X.ub X.w) X.A (evalAll ((backToKw uG (keywordEach g9 X.uh)).tJ (·.2))) (AP X aa U Q) X.xe s
variable{ks:List Str}{gB:Pos}{g9:List Keyword}{tk:TA}{nm:Option Str}
variable{g:List Value->List Value->List Value}{gV:List V->List V->List V}
def Ja5:PK X [] Jal:=λ_ _ _ _ H Q I h=>wpAny_evalAll_nil {[],H,I,.vO,h}
def W9(ha:PE X e te)(hr:PK X g9 t):PK X ({nm,e,gB}:: g9) (Jar te t):=by
 intro uG aa s U H Q I h;refine wpAny_evalAll_cons (nR (wo (ha aa s U H _ I h) λu s1 {x,H1,I1,r1,q1}=>nR (wpAny_standAt (n6 ?_))));refine wo (hr uG aa s1 U H1 _ I1 q1) λus s2 aj => ?_
 let{xs,H2,I2,r2,q2}:= aj;exact{x::xs,H2,I2,.ux r1 r2,q2}
structure Ji(N P:tH tO)(sc:Scope):Prop where
 kind:sc.kind=.function
 co:sc.isCoroutine=false
 gen:sc.isGenerator=false
 nd:N.uA
 pre:N.uB P.fg=P
 par:∀x∈P,sc.uq.t7 x=p' .local\/sc.uq.t7 x=p' .wI
 yG:∀y∈sc.uq,y.2≠.vK
def Kj{wu:tO->tL wG}:∀{binds:tH (tO×tM)}{m:Zsv},(∀v,(x,v)∉binds)->bindL wu binds m x=m x
 | [],_,_=>rfl
 |(n,v)::r,m,h=>by
  unfold bindL;rw[Kj λw hw=>h w (n4 _ hw)];split
  .have:x≠n:=by rintro rfl;exact h v n5
   simp[this]
  .rfl
def Kl{wu:tO->tL wG}:∀{binds:tH (tO×tM)}{m:Zsv},(∀v,(x,v)∉binds)->bindC wu binds m x=m x
 | [],_,_=>rfl
 |(n,v)::r,m,h=>by
  unfold bindC;rw[Kl λw hw=>h w (n4 _ hw)];split
  .rfl
  .have:x≠n:=by rintro rfl;exact h v n5
   simp[this]
def Kk{wu:tO->tL wG}{v:tM}:∀{P:tH tO}{vs:tH tM}{i:tQ}{m:Zsv},P.uA->P[i]?=p' x->vs[i]?=p' v->wu x=p' .local ->
  bindL wu (P.zip vs) m x=p' v
 | [],_,_,_,_,h,_,_=>by simp at h
 |_::_,[],_,_,_,_,h,_=>by simp at h
 |p::P,w::vs,0,m,nd,h1,h2,hk=>by simp at h1 h2;subst h1;subst h2;show bindL wu ((p,w)::P.zip vs) m p=_;unfold bindL;rw[Kj λv hv=>(o5.mp nd).1 (qo hv).1,tW hk];simp
 |p::P,w::vs,i+1,m,nd,h1,h2,hk=>by unfold bindL;exact Kk (i:=i) (o5.mp nd).2 (by simpa using h1) (by simpa using h2) hk
def Km{wu:tO->tL wG}{v:tM}:∀{P:tH tO}{vs:tH tM}{i:tQ}{m:Zsv},P.uA->P[i]?=p' x->vs[i]?=p' v->wu x≠p' .local ->
  bindC wu (P.zip vs) m x=p' v
 | [],_,_,_,_,h,_,_=>by simp at h
 |_::_,[],_,_,_,_,h,_=>by simp at h
 |p::P,w::vs,0,m,nd,h1,h2,hk=>by simp at h1 h2;subst h1;subst h2;show bindC wu ((p,w)::P.zip vs) m p=_;unfold bindC;rw[Kl λv hv=>(o5.mp nd).1 (qo hv).1,ug hk];simp
 |p::P,w::vs,i+1,m,nd,h1,h2,hk=>by unfold bindC;exact Km (i:=i) (o5.mp nd).2 (by simpa using h1) (by simpa using h2) hk
def start (N:tH tO)(vs:tH V):St:=vs.tJ p'++tH.uN (N.fg-vs.fg) none
def NZ (CX:CXT)(P:wf)(w:wK)(K:Fg)(mg:Zsv)(uk:uS)(N:tH tO)(qual:tO)(uR:Scope)(f:tV)(cd:tM)(A:Around)(uY:tH Env)(s:ud)(H:Hp)(E:XK):Cx where
 ub:=P
 w:=w
 K:=K
 mg:=mg
 uk:=uk
 A:=A.deeper (envOfC qual uR s.tK.uc.tX f cd)
 N:=N
 zW:=s
 y1:=H
 uh:=envOfC qual uR s.tK.uc.tX f cd
 uY:=uY
 wA:=envOfC qual uR s.tK.uc.tX f cd::uY
 ex:=[]
 calm:=true
 fn:=λ_=>true
 pn:=[]
 xe:=λe s'=>ue (uf P w) (A.deeper (envOfC qual uR s.tK.uc.tX f cd)) (leaving (envOfC qual uR s.tK.uc.tX f cd) e) (λ_ jb=>CX uY H s E e jb) (λe' jb=>CX uY H s E e' jb) s'
def MY{sc:Scope}{n:tQ}(h:sc.uq.t7 x=p' .wI):∃c,(cellsFrom n sc.uq []).t7 x=p' c:=by have q:=PySem.W.cellsFrom_some sc.uq n [] (.uW h);exact qm.mp q
def Qm{mg:Zsv}{uk:uS}{N:tH tO}{qual:tO}{uR:Scope}{cd:tM}{uY:tH Env}{s1:ud}{us:tH tM}{vs:tH V}
  (S:Ji N ps uR) (hd:A.wp=none) (e0:ZA P w K mg uk A uY s H) (hl:vs.fg=ps.fg) (r:vo vs us)
  (x:InCallC s s.tK.uc.tX (bindL (envOfC qual uR s.tK.uc.tX f cd).wu (ps.zip us) λ_=>none) (cellsFrom (s.tK.uc.tX+1) uR.uq []) (bindC (envOfC qual uR s.tK.uc.tX f cd).wu (ps.zip us) λ_=>none) s1) :
  uF (NZ CX P w K mg uk N qual uR f cd A uY s H E) [] (start N vs) H s1:=by
 have aG:ps.fg<=N.fg:=by have:=uC tH.fg S.pre;rw[oZ]at this;lia
 let{h1,tk,rfl,hk}:=x.done;have gG:∀b:tV,b∉(NZ CX P w K mg uk N qual uR f cd A uY s H E).ex:=λb z=>uD (show b∈([]:tH tV)from z) (by simp)
 refine{ {e0.mod,S.kind,rfl,rfl,oh _,λy z c h1 h2=>?_,λy hy=>?_,λy c _ h=>?_,λ_=>hd,Around.frames_deeper e0.v5,.uK {rfl,rfl},λb z=>uD z (gG b),e0.bs,e0.ze,λb _ _=>gG b,λb z=>uD z (gG b),e0.MH,e0.yW},
  rfl,e0.bare,Un.kept hk,{_,x.toInCall.ns,λi y v h1 h2 h3=>?_},λy c h=>{_,x.wI y c h},e0.zZ.vJ (oh _),λy c h=>?_,λp hp=>uD (show p∈([]:Zao)from hp) (by simp),e0.zZ.kept hk,?_}
 .exact name_of_addr x.apart (PySem.mem_of_lookup h1) (PySem.mem_of_lookup h2)
 .have hy:uR.uq.t7 y=p' .wI\/uR.uq.t7 y=p' .vK:=hy;rcases hy with hy|hy
  .exact MY hy
  .exact uD rfl (S.yG _ (PySem.mem_of_lookup hy))
 .exact tQ.le_of_lt (x.above y c (PySem.mem_of_lookup h))
 .have hi:i<vs.fg:=by
   unfold start at h2;by_cases hi:i<vs.fg
   .exact hi
   .rw[qF (by simpa using hi)]at h2;rw[tH.getElem?_replicate]at h2;split at h2<;>cases (h2)
  have ha:vs[i]?=p' v:=by unfold start at h2;rw[qg (by simpa using hi),oq]at h2;cases e:vs[i]? with|none=>rw[e]at h2;cases (h2)|p' a=>rw[e]at h2;cases (h2);rfl
  let{u,hu,rv}:=r.get ha;have hp:ps[i]?=p' y:=by rwa[<- S.pre,tH.getElem?_take_of_lt (by lia)]
  have jS:ps.uA:=by rw[<- S.pre];exact S.nd.sublist (pF _ _)
  refine{u,rv,?_};rcases S.par y (pJ hp)with k|k
  .exact .uW {k,Kk jS hp hu k}
  .let{c,e}:=MY (n:=s.tK.uc.tX+1) k;refine .uK {.uW k,c,e,?_};have q:=x.wI y c e;rwa[Km jS hp hu (by show uR.uq.t7 y≠_;rw[k];decide)]at q
 .exact e0.zZ.vJ (tQ.le_of_lt (x.above y c (PySem.mem_of_lookup h)))
 .unfold start;show _=N.fg;rw[n9,nU,tH.length_replicate]
  lia
variable{T:String}{r:List V->Hp->VK->Prop}
section
variable{id:String}
def tCB (r:tH V->Hp->VK->Prop)(t:TA):TE:=λU H Q=>t U H λvs H1=>r vs H1 Q
def Mg(hc:B7 X (.uM id) r)(hg:Gl X x)(hm:X.mg x=none)(hv:bootBuiltins x=p' (.uM id))(ha:PA X (e::es) t)(hn:x≠"__name__":=by decide)(aY:Zdb x:=by decide)
  (he:Zsc X.uh e es:=by rfl) (aG:Zbt X.uh uG es:=by rfl):PE X (.vM (.uE x p) (e::es) [] uG) (tCB r t):=by
 intro aa s U H Q I h;refine vS (Dc I hg hm hv ?_ hn aY);exact PyProof.Rows.callWith_builtin1 (wo (ha uG aa s U H _ I h) λus s1 {vs,H1,I1,r1,q1}=>hc aa s1 U H1 vs us Q I1 r1 q1) he aG
def Pu(hc:B7 X (.uJ T) r)(hg:Gl X x)(hm:X.mg x=none)(hv:bootBuiltins x=p' (.uJ T))(ha:PA X (e::es) t)(hn:x≠"__name__":=by decide)(aY:Zdb x:=by decide)
  (he:Zsc X.uh e es:=by rfl) (aG:Zbt X.uh uG es:=by rfl):PE X (.vM (.uE x p) (e::es) [] uG) (tCB r t):=by
 intro aa s U H Q I h;refine vS (Dc I hg hm hv ?_ hn aY);exact wF (wo (ha uG aa s U H _ I h) λus s1 {vs,H1,I1,r1,q1}=>hc aa s1 U H1 vs us Q I1 r1 q1) he aG
end
end Lake.L2
namespace HT
open PySem PyProof.Rows
section
open PySem.SeqAt
open PySem.AutoSeq1 (wpAny_loadPart')
open PySem.MeetsSeq PySem.MeetsSeq2 PySem.MeetsSeq3
end
variable{prog:Program}{w:World}{A:Around}{E:Zcv}{s:Shared}
def Zi(ht:IsTup s.tK t vs.tZ)(hb:IsTup s.tK b ws.tZ)(hv:vs≠[])
  (h1:ws=[]->Q (.t8 t) s) (h2:ws≠[]->Q (.t8 s.tK.uc.tX) {s with tK:=s.tK.vY {cls:=.uJ "tuple",uX:=.seq (vs++ws).tZ} })
  (hsz:vs.fg+ws.fg<=t9):ue (uf ub w) A (binaryOp .Add (.t8 t) (.t8 b)) Q E s:=by
 let{ {cls,dd,uX,sl},ho,hc,n,hd}:=id ht;let{ {iw,fC,data2,dD},fj,bW,n2,hd2}:=id hb;subst hc hd bW hd2;have e:vs.tZ++ws.tZ=(vs++ws).tZ:=by simp
 by_cases hw:ws=[]
 .exact concat_meets {_,ho,rfl} {_,fj,rfl} noFill_tuple_add seq_tuple_add slot_tuple_add entry_tuple_add (args_tuple_add_2 _ _)
   (tuple_addW1 t b vs.tZ ws.tZ n n2 dd fC sl dD (by simpa using hv) (by simp[hw])) {ho,fj,h1 hw}
 .refine concat_meets {_,ho,rfl} {_,fj,rfl} noFill_tuple_add seq_tuple_add slot_tuple_add entry_tuple_add (args_tuple_add_2 _ _)
   (tuple_addW2 t b vs.tZ ws.tZ n n2 dd fC sl dD (by simpa using hv) (by simpa using hw) (by rwa[nZ,nZ])) {ho,fj,?_}
  rw[e];exact h2 hw
def sIx (n d:tQ):tL tN->tQ
 |none=>d
 |p' v=>if v<0 then(v+(n:tN)).uw else min v.uw n
def Sd(n d:tQ):sIx n d none=d:=rfl
def WN(n d k:tQ):sIx n d (p' (k:tN))=min k n:=by show(if(k:tN)<0 then((k:tN)+(n:tN)).uw else min (k:tN).uw n)=min k n;rw[ug (by lia),qv]
def sIx_le(n d:tQ)(hd:d<=n)(o:tL tN):sIx n d o<=n:=by
 cases o with
 |none=>exact hd
 |p' v =>
  show(if v<0 then(v+(n:tN)).uw else min v.uw n)<=n;by_cases hv:v<0
  .rw[tW hv];lia
  .rw[ug hv];exact tQ.min_le_right _ _
def Q3(v:tN)(n d:tQ):(if v<0 then max (v+(n:tN)) 0 else min v (n:tN))=((sIx n d (p' v):tQ):tN):=by
 show(if v<0 then max (v+(n:tN)) 0 else min v (n:tN))=(((if v<0 then(v+(n:tN)).uw else min v.uw n):tQ):tN);by_cases hv:v<0
 .simp![tW hv];exact(tN.ofNat_toNat _).symm
 .simp![ug hv];let{k,rfl}:=tN.eq_ofNat_of_zero_le (tN.not_lt.mp hv);rw[tN.toNat_natCast,tQ.min_def,tN.min_def];simp![tN.ofNat_le];split<;>rfl
def N8(lo hi:tL tN)(n:tQ):t6.Slice.sliceAdjust lo hi 1 (n:tN)=(((sIx n 0 lo:tQ):tN),((sIx n n hi:tQ):tN)):=by
 have h1:¬((1:tN)<0):=by lia
 unfold t6.Slice.sliceAdjust;refine Prod.ext ?_ ?_
 .cases lo with|none=>rfl|p' v=>exact Q3 v n 0
 .cases hi with|none=>rfl|p' v=>exact Q3 v n n
def NC(i j:tQ):t6.Slice.slicePlaces (i:tN) (j:tN) 1=j-i:=by unfold t6.Slice.slicePlaces;rw[tW ZB];split;(rw[tN.ediv_one,tN.sub_add_cancel,tN.toNat_sub]);(next h=>exact(tQ.sub_eq_zero_of_le (tN.ofNat_le.mp (tN.not_lt.mp h))).symm)
def Ho(p:IsPart v o)(h:Q o s):ue (uf ub w) A (t6.Slice.slicePartIndex v) Q E s:=by cases p with|none=>exact slicePart_none h|tS i t=>exact slicePart_int h
def C8{sl:tV}{vl vu:tM}{lo hi:tL tN}{n:tQ}{Q:tN×tN×tQ->ud->Prop}(hs:s.tK.IsSliceOf sl vl vu .none)(pl:IsPart vl lo)(pu:IsPart vu hi)
  (h:Q (((sIx n 0 lo:tQ):tN),1,sIx n n hi-sIx n 0 lo) s):ue (uf ub w) A (t6.Slice.sliceApplied (.t8 sl) (wx (n:tN))) Q E s:=by
 let{os,fm,fF,fW}:=id hs;refine nR (nR (pj fm fW (x:=vl) rfl (nR (pj fm fW (x:=vu) rfl (nR (pj fm fW (x:=.none) rfl (n6 ?_)))))));refine nR (slicePart_none ?_);refine nR (Ho pl (nR (Ho pu (nR (n6 ?_)))));show ue _ _ (match t6.Slice.sliceAdjust lo hi 1 (n:tN)with|(lo,hi)=>wx (lo,(1:tN),t6.Slice.slicePlaces lo hi 1)) _ _ s;rw[N8 lo hi n];show ue _ _ (wx (((sIx n 0 lo:tQ):tN),(1:tN),t6.Slice.slicePlaces ((sIx n 0 lo:tQ):tN) ((sIx n n hi:tQ):tN) 1)) _ _ s;rw[NC];exact n6 h
def SD(xs:vp tM)(i k:tQ):((tH.vq k).filterMap λ(m:tQ)=>xs[((i:tN)+(m:tN)*1).uw]?).tZ=((xs.uP.drop i).uB k).tZ:=by
 have e:(λ(m:tQ)=>xs[((i:tN)+(m:tN)*1).uw]?)=λm=>xs[i+m]?:=by
  funext m;have:((i:tN)+(m:tN)*1).uw=i+m:=by lia
  rw[this]
 rw[e];have:=pick_run xs i k;rw[tH.filterMap_map]at this;have e2:((λx=>xs[x]?)∘λx=>i+x)=λm=>xs[i+m]?:=rfl
 rw[e2]at this;rw[this]
def ER{t sl:tV}{uL:vp tM}{vl vu:tM}{lo hi:tL tN}{Q:Zcv}(ht:IsTup s.tK t uL)(hs:s.tK.IsSliceOf sl vl vu .none)(pl:IsPart vl lo)(pu:IsPart vu hi)
  (hw:¬(sIx uL.tX 0 lo=0/\sIx uL.tX uL.tX hi=uL.tX))
  (h:Q (.t8 s.tK.uc.tX) {s with tK:=s.tK.vY {cls:=.uJ "tuple",uX:=.seq ((uL.uP.drop (sIx uL.tX 0 lo)).uB (sIx uL.tX uL.tX hi-sIx uL.tX 0 lo)).tZ} })
  (hsz:uL.tX<=t9):ue (uf ub w) A (getItem (.t8 t) (.t8 sl)) Q E s:=by
 have cy:sizeOk (.seq ((uL.uP.drop (sIx uL.tX 0 lo)).uB (sIx uL.tX uL.tX hi-sIx uL.tX 0 lo)).tZ):=by
  show((uL.uP.drop (sIx uL.tX 0 lo)).uB (sIx uL.tX uL.tX hi-sIx uL.tX 0 lo)).tZ.tX<=t9;rw[nZ,oZ,qh,pX];exact tQ.le_trans (tQ.min_le_right ..) (tQ.le_trans (tQ.sub_le ..) hsz)
 let{os,fm,fF,fW}:=id hs;have kO:s.TypeIs (.t8 sl) "slice":={os,fm,fF}
 unfold getItem
 try with_reducible refine vQ ?_
 first|refine nR (n6 ?_)|skip
 refine nR (wpAny_sequenceKey ht.wM ZB ?_);refine nR (wpAny_callSpecial?_slot (name:=tO.ofString "__getitem__") ht.wM vT
  (v9 vT ht.wM entry_tuple_getitem ?_ (args_tuple_getitem _ _)))
 show ue _ _ (t6.Tuple.tupleItemsOf (.t8 t) >>= _) _ _ s;refine nR (tupleItemsOf_ ht ?_);refine nR (wpAny_typeOf kO ?_);refine nR (C8 hs pl pu ?_);have k7:¬((((sIx uL.tX 0 lo:tQ):tN)==0&&(1:tN)==1&&(sIx uL.tX uL.tX hi-sIx uL.tX 0 lo)==uL.tX)=true):=by intro q;rw[oB,oB]at q;have q1:((sIx uL.tX 0 lo:tQ):tN)=0:=eq_of_beq q.1.1;have q2:sIx uL.tX uL.tX hi-sIx uL.tX 0 lo=uL.tX:=eq_of_beq q.2;have q0:=tN.ofNat_eq_zero.mp q1;exact hw {q0,by rw[q0]at q2;exact q2}
 show ue _ _ (if(((sIx uL.tX 0 lo:tQ):tN)==0&&(1:tN)==1&&(sIx uL.tX uL.tX hi-sIx uL.tX 0 lo)==uL.tX)=true then _ else _) _ _ s;rw[ug k7,SD]
 first
  |exact nR (m:=t6.Tuple.tupleExact _) (wR (n6 {_,rfl,n6 h}) cy)
  |exact nR (m:=t6.Tuple.tupleExact _) (wR (nR (n6 (n6 {_,rfl,n6 h}))) cy)
  |exact nR (nR (m:=t6.Tuple.tupleExact _) (wR (n6 (n6 {_,rfl,n6 h})) cy))
  |exact nR (nR (m:=t6.Tuple.tupleExact _) (wR (n6 {_,rfl,n6 h}) cy))
end HT
namespace Lake.L2
open PySem PySem.Spec PyProof.Rows
def TO:=St->Hp->(tL tN->Hp->Prop)->Prop
def PO (X:Cx)(e:tL v7)(t:TO):Prop :=
 ∀(aa:Zao)(s:ud)(U:St)(H:Hp)(Q:tL tN->Hp->Prop),uF X aa U H s->t U H Q ->
  ue (uf X.ub X.w) X.A (evalPart e X.uh) (λu s'=>∃o H',uF X aa U H' s'/\IsPart u o/\Q o H') X.xe s
def Wx :TO:=λ_ H Q=>Q none H
def tPart (t:TE):TO:=λU H Q=>t U H λx H1=>∃i,x=.tS i/\Q (p' i) H1
def intsAre_of:∀{us:tH tM},vo (ns.tJ V.tS) us->IntsAre us ns:=by induction ns with|vO=>intro us r;rw[pM]at r;cases r;exact .vO|ux n ns ih =>intro us r;cases r with|ux r1 r2 =>let{t,e}:=r1;subst e;exact .ux n t (ih r2)
variable{X:Cx}{e:Expr}{te:TE}{lo hi:Option Expr}{tl th:TO}{pos p2:Pos}
def W7:PO X none Wx:=by intro aa s U H Q I h;exact n6 {none,H,I,.none,h}
def W6(h:PE X e te):PO X (p' e) (tPart te):=by
 intro aa s U H Q I hw;refine wo (h aa s U H _ I hw) λu s1 aj=>?_
 let{x,H1,I1,r1,q1}:= aj;let{i,rfl,q}:=q1;let{t,rfl}:=r1;exact{p' i,H1,I1,.tS i t,q}
def SlR (X:Cx)(r:V->tL tN->tL tN->Hp->VK->Prop):Prop :=
 ∀(aa:Zao)(s:ud)(U:St)(H:Hp)(x:V)(v vl vu:tM)(lo hi:tL tN)(sl:tV)(Q:VK),uF X aa U H s->vg x v->s.tK.IsSliceOf sl vl vu .none->IsPart vl lo->IsPart vu hi->r x lo hi H Q ->
  ∃T id,typeLookup (.uJ T) "__getitem__"=wx (p' (.uM id))/\s.TypeIs v T/\ue (uf X.ub X.w) X.A (getItem v (.t8 sl)) (EP X aa U Q) X.xe s
def SlR.or(h:SlR X r)(h':SlR X r'):SlR X (λx lo hi H Q=>r x lo hi H Q\/r' x lo hi H Q):=by
 intro aa s U H x v vl vu lo hi sl Q I rx hs pl pu q;rcases q with q|q
 .exact h aa s U H x v vl vu lo hi sl Q I rx hs pl pu q
 .exact h' aa s U H x v vl vu lo hi sl Q I rx hs pl pu q
def tSl (r:V->tL tN->tL tN->Hp->VK->Prop)(te:TE)(tl th:TO):TE:=λU H Q=>te U H λx H1=>tl U H1 λl H2=>th U H2 λu H3=>r x l u H3 Q
def Md{r:V->tL tN->tL tN->Hp->VK->Prop}(hr:SlR X r)(he:PE X e te)(hl:PO X lo tl)(hu:PO X hi th):PE X (.vz e (.Slice lo hi none p2) uG) (tSl r te tl th):=by
 intro aa s U H Q I h;refine Subscript_ (wo (he aa s U H _ I h) λv s1 aj=>?_);let{x,H1,I1,r1,q1}:= aj;refine wpAny_Slice (wo (hl aa s1 U H1 _ I1 q1) λvl s2 {l,H2,I2,pl,q2}=>wo (hu aa s2 U H2 _ I2 q2) λvu s3 aj=>?_);let{u,H3,I3,pu,q3}:= aj;refine n6 ?_;have I4:uF X aa U H3 {s3 with tK:=s3.tK.vY {cls:=.uJ "slice",uX:=.vt #[vl,vu,.none]} }:=I3.kept (t':=s3.vj) λb ob q=>nY _ q
 let{T,id,hT,ht,hg}:=hr aa {s3 with tK:=s3.tK.vY {cls:=.uJ "slice",uX:=.vt #[vl,vu,.none]} } U H3 x v vl vu l u s3.tK.uc.tX Q I4 r1 (uS.IsSliceOf.new ..) pl pu q3;exact tail_any (ops:=[.t8 s3.tK.uc.tX,v]) ht hT hg (by with_unfolding_all rfl)
def Y7 (xs:tH V)(lo hi:tL tN):tH V:=(xs.drop (HT.sIx xs.fg 0 lo)).uB (HT.sIx xs.fg xs.fg hi-HT.sIx xs.fg 0 lo)
def GP(xs:tH V)(lo hi:tL tN):(Y7 xs lo hi).fg<=xs.fg:=by
 unfold Y7;rw[oZ,qh]
 lia
def rSlT (K:Fg):V->tL tN->tL tN->Hp->VK->Prop:=λx lo hi H Q=>∃a xs,x=.t8 a/\SqT K H a xs /\
 ¬(HT.sIx xs.fg 0 lo=0/\HT.sIx xs.fg xs.fg hi=xs.fg)/\∀p,H p=none->Q (.t8 p) (vi H p (.uj (Y7 xs lo hi)))
def Jaz:SlR X (rSlT X.K):=by
 intro aa s U H x v vl vu lo hi sl Q I rx hs pl pu h;let{a,xs,rfl,hx,hw,q}:=h;cases rx;let{uU,r,ht,hz}:=I.wz hx;have hlen:uU.tZ.tX=xs.fg:=by rw[nZ];exact r.fg.symm
 refine{"tuple",_,PyProof.Rows.vT.t7,ht.wM,?_};refine HT.ER ht hs pl pu (by rwa[hlen]) ?_ (by rwa[hlen]);rw[hlen];refine{.t8 s.tK.uc.tX,_,I.laid (t':=s.vj) (o:=.uj (Y7 xs lo hi)) (λb ob q=>nY _ q) (oh _) ?_,rfl,q _ (I.zZ.vJ (oh _))};exact{oo (GP xs lo hi) hz,_,(r.drop (HT.sIx xs.fg 0 lo)).uB (HT.sIx xs.fg xs.fg hi-HT.sIx xs.fg 0 lo),PlT.new _ _}
def JaM (K:Fg):R2:=λx y H Q=>∃a b xs ys,x=.t8 a/\y=.t8 b/\SqT K H a xs/\SqT K H b ys/\xs≠[]/\xs.fg+ys.fg<=t9 /\
 (ys=[]->Q (.t8 a) H)/\(ys≠[]->∀p,H p=none->Q (.t8 p) (vi H p (.uj (xs++ys))))
def vo.K6(r:vo xs us):us=[]↔xs=[]:=by cases r with|vO=>simp|ux _ _=>simp
def Xt:OpR X (binaryOp .Add) (JaM X.K):=by intro aa s U H x y v u Q I rx ry h;let{a,b,xs,ys,rfl,rfl,ha,hb,hx,hz,q1,q2}:=h;cases rx;cases ry;let{uU,r1,p1,_}:=I.wz ha;let{aV,r2,p2,_}:=I.wz hb;refine HT.Zi p1 p2 (λz=>hx (r1.K6.mp z)) (λz=>{.t8 a,H,I,rfl,q1 (r2.K6.mp z)}) (λz=>?_) (by rwa[<- r1.fg,<- r2.fg]);refine{.t8 s.tK.uc.tX,_,I.laid (λb ob q=>nY _ q) (oh _) ?_,rfl,q2 (λw=>z (r2.K6.wO w)) _ (I.zZ.vJ (oh _))};exact{by rw[n9];exact hz,_,r1.append r2,PlT.new _ _}
def ixN (n:tQ)(i:tN):tL tQ:=if 0<=i then(if i<n then p' i.uw else none)else if -(n:tN)<=i then p' (i+n).uw else none
def atI {α:Type}(xs:tH α)(i:tN):tL α:=(ixN xs.fg i).u9 λj=>xs[j]?
def Qg(h:ixN n i=p' j):seqIndex? i n=p' j/\j<n/\-(n:tN)<=i/\i<n:=by
 unfold ixN at h;by_cases h0:0<=i
 .rw[tW h0]at h;by_cases h1:i<n
  .rw[tW h1]at h;have e:=tL.p'.inj h;exact{by rw[seqIndex_of h0 h1,e],by lia,by lia,h1}
  .rw[ug h1]at h;cases h
 .rw[ug h0]at h;by_cases h1:-(n:tN)<=i
  .rw[tW h1]at h;have e:=tL.p'.inj h;exact{by rw[seqIndex_neg (by lia) h1,e],by lia,h1,by lia}
  .rw[ug h1]at h;cases h
def Ly(h:atI xs i=p' v):∃j,seqIndex? i xs.fg=p' j/\xs[j]?=p' v/\j<xs.fg/\-(xs.fg:tN)<=i/\i<xs.fg:=by unfold atI at h;cases e:ixN xs.fg i with|none=>rw[e]at h;cases h|p' j =>rw[e]at h;let{h1,h2,h3,h4}:=Qg e;exact{j,h1,h,h2,h3,h4}
def A0{α:Type}{xs:tH α}{j:tQ}{v:α}(h:xs[j]?=p' v):atI xs (j:tN)=p' v:=by
 have hj:j<xs.fg:=(ou.mp h).1;have e:ixN xs.fg (j:tN)=p' j:=by unfold ixN;rw[tW (by lia),tW (by lia)];simp
 unfold atI;rwa[e]
def Jg (b:v7):Prop:=∀o i,subscripted b false o i=operate [o,i] (getItem o i)
def IxR (X:Cx)(r:R2):Prop :=
 ∀(value aC:v7)(aa:Zao)(s:ud)(U:St)(H:Hp)(x y:V)(v u:tM)(Q:VK),uF X aa U H s->vg x v->vg y u->r x y H Q ->
  subscripted aC false v u=operate [v,u] (getItem v u)->ue (uf X.ub X.w) X.A (subscriptTail value aC v u) (EP X aa U Q) X.xe s
def MtR (X:Cx)(id:wb)(r:V->tH V->Hp->VK->Prop):Prop :=
 ∀(aa:Zao)(s:ud)(U:St)(H:Hp)(x:V)(xs:tH V)(v:tM)(us:tH tM)(Q:VK),uF X aa U H s->vg x v->vo xs us->r x xs H Q ->
  ue (uf X.ub X.w) X.A (call (.uM id) (v::us)) (EP X aa U Q) X.xe s
variable{a b:Expr}{ta tb:TE}
variable{o:Expr}{es:List Expr}{to:TE}{name:Str}{aw ax:Pos}{T:String}{r:V->List V->Hp->VK->Prop}
section
def IxR.or{r}(h:IxR X r)(h':IxR X r'):IxR X (λx y H Q=>r x y H Q\/r' x y H Q):=by
 intro value aC aa s U H x y v u Q I rx ry q hs;rcases q with q|q
 .exact h value aC aa s U H x y v u Q I rx ry q hs
 .exact h' value aC aa s U H x y v u Q I rx ry q hs
def Jbf{r}(hr:IxR X r)(ha:PE X a ta)(hb:PE X b tb)(hs:Jg b):PE X (.vz a b uG) (tOp r ta tb):=by intro aa s U H Q I h;exact Subscript_ (binT ha hb I h λv u s2 x y H2 I2 rx ry q=>hr a b aa s2 U H2 x y v u Q I2 rx ry q (hs _ _))
inductive rIxL(K:Fg)(x:V)(y:V)(H:Hp)(Q:VK):Prop
 |mk (p xs i v:_) (h0:x=.t8 p) (h1:y=.tS i) (h2:SqL K H p xs) (h3:atI xs i=p' v) (h4:Q v H)
inductive rIxT(K:Fg)(x:V)(y:V)(H:Hp)(Q:VK):Prop
 |mk (p xs i v:_) (h0:x=.t8 p) (h1:y=.tS i) (h2:SqT K H p xs) (h3:atI xs i=p' v) (h4:Q v H)
inductive rIxS(x:V)(y:V)(H:Hp)(Q:VK):Prop
 |mk (z i c:_) (h0:x=.str z) (h1:y=.tS i) (h2:z.fg<=t9) (h3:atI z.cps.uP i=p' c) (h4:Q (.str {#[c]}) H)
def Qf:IxR X (rIxL X.K):=by
 intro value aC aa s U H x y v u Q I rx ry h hs;let{p,xs,i,z,rfl,rfl,hq,he,q}:=h;cases rx;let{t,rfl}:=ry;let{uU,r,pl,hz}:=I.list hq;let{j,h1,h2,h3,h4,h5}:=Ly he;let{w,ew,bU}:=r.get h2;have hl:=r.fg;have hn:=Hz;have aO:EP X aa U Q w s:={z,H,I,bU,q}
 by_cases h0:0<=i
 .have hj:i.uw=j:=by rw[seqIndex_of h0 h5]at h1;exact tL.p'.inj h1
  exact item_listR pl.vU h0 (by lia) (by rw[hj];simpa using ew) aO hs
 .have hj:(i+(uU.tZ.tX:tN)).uw=j:=by rw[seqIndex_neg (by lia) h4]at h1;rw[nZ,<- hl];exact tL.p'.inj h1
  exact subscriptTail_builtinR (x:=w) pl.vU.wM slot_list_getitem.t7
   (wpAny_getItem_list_neg (Q:=λr s'=>r=w/\EP X aa U Q r s') pl.vU (by lia) (by rw[nZ]<;>lia) (by lia) (by rw[hj];simpa using ew) {rfl,aO}) hs
def Qe:IxR X (rIxT X.K):=by
 intro value aC aa s U H x y v u Q I rx ry h hs;let{p,xs,i,z,rfl,rfl,hq,he,q}:=h;cases rx;let{t,rfl}:=ry;let{uU,r,pl,hz}:=I.wz hq;let{j,h1,h2,h3,h4,h5}:=Ly he;let{w,ew,bU}:=r.get h2;have hl:=r.fg;have hn:=Hz;have aO:EP X aa U Q w s:={z,H,I,bU,q}
 exact subscriptTail_builtinR (x:=w) pl.wM vT.t7
  (getItem_tuple (j:=j) (Q:=λr s'=>r=w/\EP X aa U Q r s') pl (by lia) (by lia) (by rwa[nZ,<- hl]) (by simpa using ew) {rfl,aO}) hs
def JbW:IxR X rIxS:=by
 intro value aC aa s U H x y v u Q I rx ry h hs;let{z,i,c,rfl,rfl,hz,he,q}:=h;let{t,rfl}:=rx;let{t',rfl}:=ry;let{j,h1,h2,h3,h4,h5}:=Ly he;have hl:z.cps.uP.fg=z.fg:=by simp[tO.fg]
 rw[hl]at h1 h4 h5;have hn:=Hz;exact tail_any (typeIs_str s z t) slot_str_getitem.t7 (getItem_str (c:=c) (by have e1:decide (i < -(2^63:tN))=false:=oK (by lia);have e2:decide (i>=2^63)=false:=oK (by lia);rw[e1,e2,uz.or_false]) (by rw[h1];simpa using h2) {.str {#[c]},H,I.tok _,{_,rfl},q}) hs
def rIx (K:Fg):R2:=λx y H Q=>rIxL K x y H Q\/rIxT K x y H Q\/rIxS x y H Q
def JbX:IxR X (rIx X.K):=Qf.or (Qe.or JbW)
def NG(uU:tH tM)(n j:tQ)(u:tM):Obj.mapSeq (·.setIfInBounds j u) {cls:=.uJ "list",uX:=.seq uU.tZ n}={cls:=.uJ "list",uX:=.seq (uU.wJ j u).tZ n}:=by simp[Obj.mapSeq]
def uF.tY(I:uF X aa U H s)(h:H p=p' (.tY xs)):
  ∃(uU:tH tM)(n:tQ),vo xs uU/\s.tK.ua p=p' {cls:=.uJ "list",uX:=.seq uU.tZ n}/\xs.fg<=t9:=by
 let{z,uU,n,r,e}:=I.zZ p _ h;exact{uU,n,r,e,z}
def uF.JbL{aa:Zao}{U:St}{H:Hp}{s:ud}{p:tV}{xs ys:tH V}{uU aH:tH tM}{n n':tQ}{f:Obj->Obj}(I:uF X aa U H s)(h:H p=p' (.tY xs))
  (ho:s.tK.ua p=p' {cls:=.uJ "list",uX:=.seq uU.tZ n}) (hf:f {cls:=.uJ "list",uX:=.seq uU.tZ n}={cls:=.uJ "list",uX:=.seq aH.tZ n' }) (r:vo ys aH) (hz:ys.fg<=t9) (t:tQ) :
  uF X aa U (vi H p (.tY ys)) {s with tK:=s.tK.update p f,vj:=t}:=by
 have e:(s.tK.update p f).ua p=p' {cls:=.uJ "list",uX:=.seq aH.tZ n' }:=by rw[pG f ho (by rw[hf]<;>rfl),hf]
 refine I.write (x:=p) (e:=p) (by rw[h];lk) (.uW rfl) (λb u hb q=>(oX _ _ (Ne.symm hb)).trans q) {_,e} ?_;exact{hz,aH,n',r,e}
inductive WR(o:V)(i:V)(v:V)(H:Hp)(Q:Hp->Prop):Prop
 |mk (p xs k j:_) (h0:o=.t8 p) (h1:i=.tS k) (h2:H p=p' (.tY xs)) (h3:ixN xs.fg k=p' j) (h4:Q (vi H p (.tY (xs.wJ j v))))
def set_list:UH X WR:=by
 intro aa s U H o i v ov iv u Q I ro ri rv h;let{p,xs,k,j,rfl,rfl,hp,hj,q}:=h;cases ro;let{t,rfl}:=ri;let{uU,n,r,ho,hz}:=I.tY hp;let{h1,h2,h3,h4}:=Qg hj;have hl:=r.fg;have hn:=Hz;have I':uF X aa U (vi H p (.tY (xs.wJ j v))) {s with tK:=s.tK.update p (Obj.mapSeq (·.setIfInBounds j u))} :=
  I.JbL hp ho (NG uU n j u) (r.wJ rv j) (by rwa[tH.length_set]) s.vj
 by_cases h0:0<=k
 .have hk:k.uw=j:=by rw[seqIndex_of h0 h4]at h1;exact tL.p'.inj h1
  exact PySem.W.ki_setAt ho h0 (by lia) (by rwa[nZ,<- hl]) (by rw[hk];exact{_,I',q})
 .have hk:(k+(uU.tZ.tX:tN)).uw=j:=by rw[seqIndex_neg (by lia) h3]at h1;rw[nZ,<- hl];exact tL.p'.inj h1
  exact PySem.W.ki_setBack ho (by lia) (by rwa[nZ,<- hl]) (by lia) (by rw[hk];exact{_,I',q})
def Jt(lo hi:tL tN)(n:tQ):(sliceBounds lo hi none n).1=((HT.sIx n 0 lo:tQ):tN)/\(sliceBounds lo hi none n).2.1=((HT.sIx n n hi:tQ):tN)/\(sliceBounds lo hi none n).2.2=1:=by
 refine{?_,?_,rfl}
 .cases lo with
  |none=>simp[sliceBounds,HT.sIx]
  |p' i =>
   simp![sliceBounds,HT.sIx,tL.getD_none,if_true];by_cases h:i<0
   .simp![h,if_true];rw[tW ZB,tN.min_eq_left (tN.add_le_of_le_sub_right (by rw[tN.sub_self];exact tN.le_of_lt h)),tN.max_comm];exact(tN.ofNat_toNat _).symm
   .simp![h,if_false];let{k,rfl}:=tN.eq_ofNat_of_zero_le (tN.not_lt.mp h);rw[tW ZB,tN.max_eq_right (tN.le_min.wO {tN.natCast_nonneg _,tN.natCast_nonneg _}),tN.toNat_natCast,tQ.min_def,tN.min_def];simp![tN.ofNat_le];split<;>rfl
 .cases hi with
  |none=>simp[sliceBounds,HT.sIx]
  |p' i =>
   simp![sliceBounds,HT.sIx,tL.getD_none,if_true];by_cases h:i<0
   .simp![h,if_true];rw[tW ZB,tN.min_eq_left (tN.add_le_of_le_sub_right (by rw[tN.sub_self];exact tN.le_of_lt h)),tN.max_comm];exact(tN.ofNat_toNat _).symm
   .simp![h,if_false];let{k,rfl}:=tN.eq_ofNat_of_zero_le (tN.not_lt.mp h);rw[tW ZB,tN.max_eq_right (tN.le_min.wO {tN.natCast_nonneg _,tN.natCast_nonneg _}),tN.toNat_natCast,tQ.min_def,tN.min_def];simp![tN.ofNat_le];split<;>rfl
def HW(uU:tH tM)(lo hi:tL tN):slicePick uU.tZ lo hi none=((uU.drop (HT.sIx uU.fg 0 lo)).uB (HT.sIx uU.fg uU.fg hi-HT.sIx uU.fg 0 lo)).tZ:=by let{h1,h2,h3}:=Jt lo hi uU.tZ.tX;unfold slicePick;rw[h1,h2,h3];simp![sliceRange_one,pick_run]<;>rfl
inductive rSlL(K:Fg)(x:V)(lo:tL tN)(hi:tL tN)(H:Hp)(Q:VK):Prop
 |mk (a xs:_) (h0:x=.t8 a) (h1:SqL K H a xs) (h2:∀p,H p=none->Q (.t8 p) (vi H p (.tY (Y7 xs lo hi))))
def OJ:SlR X (rSlL X.K):=by intro aa s U H x v vl vu lo hi sl Q I rx hs pl pu h;let{a,xs,rfl,hx,q}:=h;cases rx;let{uU,r,ht,hz}:=I.list hx;have hlen:=r.fg;refine{"list",_,slot_list_getitem.t7,ht.vU.wM,?_};refine wpAny_getItem_list_slice ht.vU hs pl pu .none (by simp) ?_ (by rw[nZ]<;>lia);rw[HW,<- hlen];refine{.t8 s.tK.uc.tX,_,I.laid (λb ob q=>nY _ q) (oh _) ?_,rfl,q _ (I.zZ.vJ (oh _))};exact{oo (GP xs lo hi) hz,_,0,(r.drop (HT.sIx xs.fg 0 lo)).uB (HT.sIx xs.fg xs.fg hi-HT.sIx xs.fg 0 lo),oi _ rfl}
def Fq :V->uz
 |.vG=>true
 |.l _=>true
 |.tS _=>true
 |.str _=>true
 |_=>false
def eqV :V->V->uz
 |.vG,.vG=>true
 |.l a,.l b=>a==b
 |.l a,.tS b=>(if a then 1 else 0)==b
 |.tS a,.l b=>a==(if b then 1 else 0)
 |.tS a,.tS b=>a==b
 |.str a,.str b=>a==b
 |_,_=>false
def VV(ry:vg y u)(rx:vg x v)(fy:Fq y=true)(fx:Fq x=true):vP.EqAt A s u v (eqV y x):=by
 cases y with
 |vG =>cases ry;cases x with|vG=>cases rx;exact vP.EqAt.same _|l b=>cases rx;exact vP.EqAt.none_bool b|tS b=>let{t,rfl}:=rx;exact vP.EqAt.none_int b t|str b=>let{t,rfl}:=rx;exact vP.EqAt.none_str b t|_=>exact uD (show false=true from fx) oG
 |l a =>cases ry;cases x with|vG=>cases rx;exact vP.EqAt.bool_none a|l b=>cases rx;exact vP.EqAt.bool_bool a b|tS b=>let{t,rfl}:=rx;exact vP.EqAt.bool_int a b t|str b=>let{t,rfl}:=rx;exact vP.EqAt.bool_str a b t|_=>exact uD (show false=true from fx) oG
 |tS a =>let{t',rfl}:=ry;cases x with|vG=>cases rx;exact vP.EqAt.int_none a t'|l b=>cases rx;exact vP.EqAt.int_bool a t' b|tS b=>let{t,rfl}:=rx;exact vP.EqAt.int_int a t' b t|str b=>let{t,rfl}:=rx;exact vP.EqAt.int_str a t' b t|_=>exact uD (show false=true from fx) oG
 |str a =>let{t',rfl}:=ry;cases x with|vG=>cases rx;exact vP.EqAt.str_none a t'|l b=>cases rx;exact vP.EqAt.str_bool a t' b|tS b=>let{t,rfl}:=rx;exact vP.EqAt.str_int a t' b t|str b=>let{t,rfl}:=rx;exact vP.EqAt.str_str a t' b t|_=>exact uD (show false=true from fx) oG
 |_=>exact uD (show false=true from fy) oG
def eqU (x:V)(u:tM):uz:=match u with|.none=>eqV .vG x|.bool b=>eqV (.l b) x|.tS i _=>eqV (.tS i) x|.str z _=>eqV (.str z) x|_=>false
def VT(r:vg y u)(f:Fq y=true):eqU x u=eqV y x:=by cases y with|vG=>cases r;rfl|l b=>cases r;rfl|tS i=>let{t,rfl}:=r;rfl|str z=>let{t,rfl}:=r;rfl|_=>exact uD (show false=true from f) oG
def G4:∀{xs:tH V}{us:tH tM},vo xs us->xs.all Fq=true->us.any (eqU x)=xs.any λy=>eqV y x
 |_,_,.vO,_=>rfl
 |y::xs,u::us,.ux r t,f=>by rw[qL,oB]at f;rw[qt,qt,VT r f.1,G4 t f.2]
def Er(rx:vg x v)(fx:Fq x=true):∀{xs:tH V}{us:tH tM},vo xs us->xs.all Fq=true->∀u∈us,vP.EqAt A s u v (eqU x u)
 |_,_,.vO,_=>λu hu=>by cases hu
 |y::xs,u::us,.ux r t,f=>λu' hu=>by
  rw[qL,oB]at f;rcases oz.mp hu with rfl|hu
  .rw[VT r f.1];exact VV r rx f.1 fx
  .exact Er rx fx t f.2 u' hu
def inV (x:V)(xs:tH V):uz:=xs.any λy=>eqV y x
inductive rIn(K:Fg)(neg:uz)(x:V)(y:V)(H:Hp)(Q:VK):Prop
 |mk (p xs:_) (h0:y=.t8 p) (h1:(SqL K H p xs\/SqT K H p xs)/\Fq x=true/\xs.all Fq=true/\Q (.l (if neg then !inV x xs else inV x xs)) H)
def JL:OpR X (u0 .In) (rIn X.K false):=by
 intro aa s U H x y v u Q I rx ry h;let{p,xs,rfl,hq,fx,fs,q}:=h;cases ry;rcases hq with hq|hq
 .let{uU,r,pl,hz}:=I.list hq;refine vP.in_listAt (eqU x) pl.vU (λw hw=>Er rx fx r fs w (by simpa using hw)) {.l _,H,I,rfl,?_};rwa[show uU.tZ.any (eqU x)=uU.any (eqU x) by simp,G4 r fs]
 .let{uU,r,pl,hz}:=I.wz hq;refine vP.in_tupleAt (eqU x) pl (λw hw=>Er rx fx r fs w (by simpa using hw)) {.l _,H,I,rfl,?_};rwa[show uU.tZ.any (eqU x)=uU.any (eqU x) by simp,G4 r fs]
def JJ:OpR X (u0 .NotIn) (rIn X.K true):=by
 intro aa s U H x y v u Q I rx ry h;let{p,xs,rfl,hq,fx,fs,q}:=h;cases ry;rcases hq with hq|hq
 .let{uU,r,pl,hz}:=I.list hq;refine vP.notIn_listAt (eqU x) pl.vU (λw hw=>Er rx fx r fs w (by simpa using hw)) {.l _,H,I,rfl,?_};rwa[show uU.tZ.any (eqU x)=uU.any (eqU x) by simp,G4 r fs]
 .let{uU,r,pl,hz}:=I.wz hq;refine vP.notIn_tupleAt (eqU x) pl (λw hw=>Er rx fx r fs w (by simpa using hw)) {.l _,H,I,rfl,?_};rwa[show uU.tZ.any (eqU x)=uU.any (eqU x) by simp,G4 r fs]
def JI:OpR X (u0 .NotIn) (λx y H Q=>∃i j,x=.str i/\y=.str j/\Q (.l (!(!(t6.tO.occurrences j i 0 j.fg 1).vb))) H):=by intro aa s U H x y v u Q I rx ry h;let{i,j,rfl,rfl,q}:=h;let{t,rfl}:=rx;let{t',rfl}:=ry;exact notIn_str {.l _,H,I,rfl,q}
def Kh:B7 X (.uM "len") (λxs H Q=>∃p ys,xs=[.t8 p]/\(SqL X.K H p ys\/SqT X.K H p ys)/\Q (.tS ys.fg) H):=by
 intro aa s U H xs us Q I r h;let{p,ys,rfl,hq,q}:=h;let{u,rfl,rx}:=vals1 r;cases rx;have hn:=Hz;rcases hq with hq|hq
 .let{uU,r',pl,hz}:=I.list hq;have hlen:=r'.fg;exact Calls.call_len_list pl.vU (by simp![nZ]<;>lia) {.tS ys.fg,H,I.tok _,{s.vj+1,by rw[nZ,hlen]},q}
 .let{uU,r',pl,hz}:=I.wz hq;have hlen:=r'.fg;exact len_tuple pl (by simp![nZ]<;>lia) {.tS ys.fg,H,I.tok _,{s.vj+1,by rw[nZ,hlen]},q}
def Kg:B7 X (.uM "len") (λxs H Q=>∃z,xs=[.str z]/\z.fg<=t9/\Q (.tS z.fg) H):=by intro aa s U H xs us Q I r h;let{z,rfl,hz,q}:=h;let{u,rfl,t,rfl}:=vals1 r;have hn:=Hz;exact len_str (by lia) {.tS z.fg,H,I.tok _,{_,rfl},q}
def Kf:B7 X (.uJ "list") (λxs H Q=>∃p ys,xs=[.t8 p]/\(SqL X.K H p ys\/SqT X.K H p ys)/\∀l,H l=none->Q (.t8 l) (vi H l (.tY ys))):=by
 intro aa s U H xs us Q I r h;let{p,ys,rfl,hq,q}:=h;let{u,rfl,rx}:=vals1 r;cases rx;have aO:∀(uU:tH tM),vo ys uU->ys.fg<=t9->∀(h':uS)(c':tQ),(∀b o',s.tK.ua b=p' o'->h'.ua b=p' o') ->
   h'.ua s.tK.uc.tX=p' {cls:=.uJ "list",dict:=none,uX:=.seq uU.tZ c',slots:=#[]}->EP X aa U Q (.t8 s.tK.uc.tX) {s with tK:=h' }:=λuU r' hz h' c' kp e =>
  {.t8 s.tK.uc.tX,_,I.laid (t':=s.vj) kp (oh _) (show Bt X.ub X.w _ h' _ (.tY ys)from{hz,uU,c',r',e}),rfl,q _ (I.zZ.vJ (oh _))}
 rcases hq with hq|hq
 .let{uU,r',pl,hz}:=I.list hq;have hlen:=r'.fg;let{o,ho,hc,n,hd}:=pl.vU;exact call_list_seq p (.uW rfl) ho hc hd (λh' c' kp e=>aO uU r' hz h' c' kp e) (by simp![nZ]<;>lia)
 .let{uU,r',pl,hz}:=I.wz hq;have hlen:=r'.fg;let{o,ho,hc,n,hd}:=pl;exact call_list_seq p (.uK rfl) ho hc hd (λh' c' kp e=>aO uU r' hz h' c' kp e) (by simp![nZ]<;>lia)
def IX:B7 X (.uJ "tuple") (λxs H Q=>∃p ys,xs=[.t8 p]/\((SqL X.K H p ys/\∀l,H l=none->Q (.t8 l) (vi H l (.uj ys)))\/(SqT X.K H p ys/\Q (.t8 p) H))):=by
 intro aa s U H xs us Q I r h;let{p,ys,rfl,h}:=h;let{u,rfl,rx}:=vals1 r;cases rx;rcases h with⟨hq,q⟩|⟨hq,q⟩
 .let{uU,r',pl,hz}:=I.list hq;have hlen:=r'.fg;refine call_tuple_list pl.vU (λh' kp=>?_) (by simp![nZ]<;>lia);have I1:uF X aa U H {s with tK:=h' }:=I.kept (t':=s.vj) kp;have I2:uF X aa U (vi H h'.uc.tX (.uj ys)) {s with tK:=h'.vY {cls:=.uJ "tuple",uX:=.seq uU.tZ} } :=
   I1.laid (t':=s.vj) (λb o e=>nY _ e) (oh _) (show Bt X.ub X.w _ _ _ (.uj ys)from{hz,uU,r',PlT.new _ _})
  exact{.t8 h'.uc.tX,_,I2,rfl,q _ (I1.zZ.vJ (oh _))}
 .let{uU,r',pl,hz}:=I.wz hq;exact call_tuple_same pl {.t8 p,H,I,rfl,q}
def tyV (K:Fg)(T:wb)(x:V)(H:Hp):Prop:=match x with
 |.str _=>T="str"
 |.tS _=>T="int"
 |.t8 p=>(T="list"/\∃xs,SqL K H p xs)\/(T="tuple"/\∃o,K.t7 p=p' o/\o.cls=.uJ "tuple"/\o.dict=none)\/
   (T="dict"/\((∃ag,H p=p' (.v ag))\/∃ag,H p=p' (.q ag)))\/(T="set"/\∃S n,H p=p' (.wJ S n))
 |_=>vd
def UU{aa:Zao}{U:St}{H:Hp}{s:ud}{T:wb}{x:V}{v:tM}(I:uF X aa U H s)(r:vg x v)(ty:tyV X.K T x H):
  s.TypeIs v T/\∀a,v=.t8 a->∃ob,s.tK.ua a=p' ob/\ob.dict=none:=by
 cases x with
 |str z =>let{t,rfl}:=r;cases(show T="str" from ty);exact{typeIs_str s z t,λ_ e=>nomatch e}
 |tS i =>let{t,rfl}:=r;cases(show T="int" from ty);exact{typeIs_int s i t,λ_ e=>nomatch e}
 |t8 p =>
  cases r;rcases ty with⟨rfl,xs,hq⟩|⟨rfl,o,hk,hc,hd⟩|⟨rfl,hk⟩|⟨rfl,S,n,hk⟩
  .let{uU,_,pl,_}:=I.list hq;refine{pl.vU.wM,λa e=>?_};cases e;let{o,n,e,c,hd,_}:=pl;exact{o,e,hd}
  .refine{ {o,I.kIn p o hk,hc},λa e=>?_};cases e;exact{o,I.kIn _ o hk,hd}
  .have z:∃o,s.tK.ua p=p' o/\o.ExactDict:=by
    rcases hk with⟨ag,hk⟩|⟨ag,hk⟩
    .let{_,_,_,_,o,_,_,e,ex,_}:=I.zZ p _ hk;exact{o,e,ex}
    .let{_,_,_,_,o,_,_,e,ex,_}:=I.zZ p _ hk;exact{o,e,ex}
   let{o,e,ex}:=z;refine{ {o,e,ex.1},λa e2=>?_};cases e2;exact{o,e,ex.2.1}
  .let{o,_,_,_,e,ex,_}:=I.zZ p _ hk;refine{ {o,e,ex.1},λa e2=>?_};cases e2;exact{o,e,ex.2.1}
 |_=>exact vd.tU ty
def tBM0 (K:Fg)(T:wb)(r:V->tH V->Hp->VK->Prop)(to:TE):TE:=λU H Q=>to U H λx H1=>tyV K T x H1/\r x [] H1 Q
def tBM (K:Fg)(T:wb)(r:V->tH V->Hp->VK->Prop)(to:TE)(t:TA):TE:=λU H Q=>to U H λx H1=>tyV K T x H1/\t U H1 λxs H2=>r x xs H2 Q
variable{t:TA}{id:String}
def Vm(pa:PlainAttrs T)(vH:Slot T name id)(b9:typeOf (.uM id)=wx (.uJ "method_descriptor"))(hm:MtR X id r)(ho:PE X o to)
  (aD:Zab X.uh o name:=by rfl) (aE:(aw.endLine==ax.line)=true:=by rfl):PE X (.vM (.ut o name aw) [] [] ax) (tBM0 X.K T r to):=by
 intro aa s U H Q I h;refine wpAny_Call_method0_late aD aE (wo (ho aa s U H _ I h) λv s1 aj=>?_);let{x,H1,I1,r1,ty,q1}:= aj;let{h1,h2}:=UU I1 r1 ty;exact{T,id,pa,vH,b9,h1,h2,Calls.callWith_builtin rfl (PySem.evalArgs_none (hm aa s1 U H1 x [] v [] Q I1 r1 .vO q1))}
def Xi(pa:PlainAttrs T)(vH:Slot T name id)(b9:typeOf (.uM id)=wx (.uJ "method_descriptor"))(hm:MtR X id r)(ho:PE X o to)(ha:PA X (e::es) t)
  (aD:Zab X.uh o name:=by rfl)
  (b6:((backTo ax (vD (e::es) X.uh)).all (λx=>!x.1)&&(backToKw ax (keywordEach [] X.uh)).all (λx=>x.1.u8)
  &&decide ((e::es).fg+([]:tH Keyword).fg+(if([]:tH Keyword).vb then 0 else 1)<30))=true:=by rfl)
  (aE:(aw.endLine==ax.line)=true:=by rfl) (hs:Zsc X.uh e es:=by rfl) (bw:Zbt X.uh ax es:=by rfl) :
  PE X (.vM (.ut o name aw) (e::es) [] ax) (tBM X.K T r to t):=by
 intro aa s U H Q I h;refine wpAny_Call_method_late aD b6 aE rfl (wo (ho aa s U H _ I h) λv s1 aj=>?_);let{x,H1,I1,r1,ty,q1}:= aj;let{h1,h2}:=UU I1 r1 ty;refine{T,id,pa,vH,b9,h1,h2,?_};have hA:=ha ax aa s1 U H1 _ I1 q1;rw[hs]at hA ⊢;refine Calls.callWith_builtin (by show(false||(backTo ax (vD es X.uh)).any (·.1))=false;rw[bw]<;>rfl) (Calls.evalArgs_plain ?_);refine wo hA λus s2 aj => ?_
 let{vs,H2,I2,r2,q2}:= aj;exact hm aa s2 U H2 x vs v us Q I2 r1 r2 q2
end
def MtM (X:Cx)(id:wb)(r:V->tH V->Hp->VK->Prop):Prop :=
 ∀(aa:Zao)(s:ud)(U:St)(H:Hp)(x:V)(xs:tH V)(v:tM)(us:tH tM)(Q:VK),uF X aa U H s->vg x v->vo xs us->r x xs H Q ->
  ue (uf X.ub X.w) X.A (call (.uM id) (v::us)) (EP X aa U Q) X.xe s
def vo.one:∀{x:V}{us:tH tM},vo [x] us->∃u,us=[u]/\vg x u
 |_,_,.ux r .vO=>{_,rfl,r}
def vo.zero:∀{us:tH tM},vo [] us->us=[]
 |_,.vO=>rfl
def vo.vf(h:vo xs us):vo xs.vf us.vf:=by induction h with|vO=>exact .vO|ux r t ih =>cases t with|vO=>exact .vO|ux q t'=>exact .ux r ih
def NW{α:Type}(l:tH α):l.eraseIdx (l.fg-1)=l.vf:=by
 induction l with
 |vO=>rfl
 |ux a r ih =>
  cases r with
  |vO=>rfl
  |ux b r =>
   have e:(a::b::r).fg-1=((b::r).fg-1)+1:=by
    have h1:(a::b::r).fg=r.fg+2:=rfl;have h2:(b::r).fg=r.fg+1:=rfl
    lia
   rw[e,tH.eraseIdx_cons_succ,ih]
   all_goals rfl
variable{aa:Zao}{U:St}{H:Hp}{s:Shared}{l b:Addr}{xs ys zs:List V}
def uF.X2{uU aH:tH tM}{n:tQ}{f:vp tM->vp tM}{t':tQ}(I:uF X aa U H s)(hH:H l=p' (.tY xs))
  (e:s.tK.ua l=p' {cls:=.uJ "list",uX:=.seq uU.tZ n}) (hf:f uU.tZ=aH.tZ) (hv:vo ys aH) (hz:ys.fg<=t9) :
  uF X aa U (vi H l (.tY ys)) {s with tK:=s.tK.update l (Obj.mapSeq f),vj:=t' }:=by
 have q:=PySem.IsL.update e f;rw[hf]at q;refine I.write (by rw[hH];exact trivial) (.uW rfl) (λb' u hb hu=>(oX s.tK (Obj.mapSeq f) (Ne.symm hb)).trans hu) {_,q} ?_;exact{hz,aH,_,hv,q}
def uF.lnew(I:uF X aa U H s)(hv:vo ys uU)(hz:ys.fg<=t9):
  uF X aa U (vi H s.tK.uc.tX (.tY ys)) {s with tK:=s.tK.vY {cls:=.uJ "list",uX:=.seq uU.tZ},vj:=t' } :=
 I.laid (λ_ _ q=>nY _ q) (oh _) {hz,uU,0,hv,oi _ rfl}
def uF.vJ(I:uF X aa U H s):H s.tK.uc.tX=none:=I.zZ.vJ (oh _)
def uF.Vw(I:uF X aa U H s)(hH:H l=p' (.tY xs)):xs.fg<=t9/\∃(uU:tH tM)(n:tQ),vo xs uU/\xs.fg=uU.fg/\s.tK.ua l=p' {cls:=.uJ "list",uX:=.seq uU.tZ n}:=by let{z,uU,n,r,e}:=I.zZ l _ hH;exact{z,uU,n,r,r.fg,e}
def Ml(h:n<=t9):t6.tH.listTooLong n=false:=by exact oK (by lia)
inductive O3(x:V)(vs:tH V)(H:Hp)(Q:VK):Prop
 |mk (l xs y:_) (h0:x=.t8 l) (h1:vs=[y]) (h2:H l=p' (.tY xs)) (h3:xs.fg<t9) (h4:Q .vG (vi H l (.tY (xs++[y]))))
def Gn:MtM X "list.append" O3:=by
 intro aa s U H x vs v us Q I rx rv h;let{l,xs,y,rfl,rfl,hH,hz,q}:=h;cases rx;let{u,rfl,ru}:=rv.one;let{z,uU,n,r,hl,e}:=I.Vw hH;refine call_meets F.slot_list_append {_,e,rfl} F.entry_list_append (F.args_list_append_2 _ _) (PySem.list_append l uU.tZ n u (by rw[nZ];lia)) {e,?_};refine{.vG,_,I.X2 hH e (by simp) (r.append (.ux ru .vO)) ?_,rfl,q};rw[n9,o9]
 lia
inductive Ib(x:V)(vs:tH V)(H:Hp)(Q:VK):Prop
 |mk (l b xs zs:_) (h0:x=.t8 l) (h1:vs=[.t8 b]) (h2:H l=p' (.tY xs)) (h3:H b=p' (.tY zs)) (h4:xs.fg+zs.fg<=t9) (h5:Q .vG (vi H l (.tY (xs++zs))))
def PN:MtM X "list.extend" Ib:=by
 intro aa s U H x vs v us Q I rx rv h;let{l,b,xs,zs,rfl,rfl,hH,hB,hz,q}:=h;cases rx;let{u,rfl,ru}:=rv.one;cases ru;let{z,uU,n,r,hl,e}:=I.Vw hH;let{z2,aV,n2,r2,bb,e2}:=I.Vw hB;have hsz:uU.tZ.tX+aV.tZ.tX<=t9:=by rw[nZ,nZ];lia
 have gf:¬(!uU.tZ.vb&&t6.tH.listTooLong (uU.tZ.tX+aV.tZ.tX))=true:=by rw[Ml hsz,uz.and_false];exact oG
 refine call_meets F.slot_list_extend {_,e,rfl} F.entry_list_extend (F.args_list_extend_2 _ _)
  (AutoSeq1.list_extend_list_list_0 l uU.tZ n b aV.tZ n2 gf (by rw[nZ];lia) (by lia)) {e,e2,?_}
 refine{.vG,_,I.X2 (aH:=uU++aV) hH e (by simp) (r.append r2) ?_,rfl,q};rw[n9]
 lia
inductive rPop(x:V)(vs:tH V)(H:Hp)(Q:VK):Prop
 |mk (l xs y:_) (h0:x=.t8 l) (h1:vs=[]) (h2:H l=p' (.tY xs)) (h3:xs[xs.fg-1]?=p' y) (h4:Q y (vi H l (.tY xs.vf)))
def JbE:MtM X "list.pop" rPop:=by
 intro aa s U H x vs v us Q I rx rv h;let{l,xs,y,rfl,rfl,hH,hy,q}:=h;cases rx;have lE:=rv.zero;subst lE;let{z,uU,n,r,hl,e}:=I.Vw hH;let{u,hu,ru}:=r.get hy;have lL:uU.tZ[uU.tZ.tX-1]?=p' u:=by show uU.tZ[uU.fg-1]?=p' u;rwa[<- vp.getElem?_toList,<- hl]
 refine call_meets F.slot_list_pop {_,e,rfl} F.entry_list_pop (F.args_list_pop_1 _) (MeetsSeq.list_pop_last l uU.tZ n u lL (by rw[nZ];lia)) {e,?_};refine{y,_,I.X2 (aH:=uU.vf) hH e ?_ r.vf ?_,ru,q}
 .show uU.tZ.eraseIdxIfInBounds (uU.tZ.tX-1)=uU.vf.tZ;rw[nZ,tH.eraseIdxIfInBounds_toArray,NW]
 .rw[tH.length_dropLast]
  lia
inductive rCat(x:V)(y:V)(H:Hp)(Q:VK):Prop
 |mk (l b xs zs:_) (h0:x=.t8 l) (h1:y=.t8 b) (h2:H l=p' (.tY xs)) (h3:H b=p' (.tY zs)) (h4:xs.fg+zs.fg<=t9) (h5:∀p,H p=none->Q (.t8 p) (vi H p (.tY (xs++zs))))
def Jbq:OpR X (binaryOp .Add) rCat:=by
 intro aa s U H x y v u Q I rx ry h;let{l,b,xs,zs,rfl,rfl,hH,hB,hz,q}:=h;cases rx;cases ry;let{z,uU,n,r,hl,e}:=I.Vw hH;let{z2,aV,n2,r2,bb,e2}:=I.Vw hB;refine PySem.P.add_list e e2 ?_ (by rw[nZ,nZ];lia);have ea:uU.tZ++aV.tZ=(uU++aV).tZ:=by simp
 rw[ea];exact{.t8 _,_,I.lnew (t':=s.vj) (r.append r2) (by rw[n9];lia),rfl,q _ I.vJ}
variable{prog:Program}{w:World}{A:Around}{E:Zcv}
set_option maxRecDepth 100000 in
section
variable{κ:Type}[DecidableEq κ]
def KG (ag:tH (κ×V))(k:κ):tL V:=(ag.find? λkv=>decide (kv.1=k)).tJ (·.2)
def putK (ag:tH (κ×V))(k:κ)(v:V):tH (κ×V) :=
 if(ag.any λkv=>decide (kv.1=k))=true then ag.tJ (λkv=>if kv.1=k then(kv.1,v)else kv)else ag++[(k,v)]
def El{p:κ×V}{r:tH (κ×V)}{k:κ}(e:p.1=k):KG (p::r) k=p' p.2:=by simp[KG,e]
def Em{p:κ×V}{r:tH (κ×V)}{k:κ}(e:¬p.1=k):KG (p::r) k=KG r k:=by simp[KG,e]
def LH(k:κ):∀ag:tH (κ×V),(ag.any λkv=>decide (kv.1=k))=(KG ag k).u8
 | []=>rfl
 |p::r=>by
  rw[qt];by_cases e:p.1=k
  .simp![El e,oV e,uz.true_or,tL.isSome_some]
  .rw[Em e,oK e,uz.false_or];exact LH k r
def D8(ag:tH (κ×V))(k:κ)(v:V):(putK ag k v).fg<=ag.fg+1:=by
 unfold putK;split
 .rw[nU];lia
 .rw[n9,om,tH.length_nil];lia
def Bg.Dv{o}(r:Bg o u):o.u8=u.u8:=by
 cases o with
 |none=>cases u with|none=>rfl|p' _=>exact(show vd from r).tU
 |p' _=>cases u with|none=>exact(show vd from r).tU|p' _=>rfl
def KV.vm{ag:tH (κ×V)}{vs:tH (κ×tM)}(r:KV ag vs)(k:κ):Bg (KG ag k) (valueAt vs k):=by
 induction r with
 |vO=>exact uQ.intro
 |@ux p q ps qs h t ih =>
  let{h1,h2}:=h;by_cases e:p.1=k
  .have e':q.1=k:=h1.symm.trans e;have b:valueAt (q::qs) k=p' q.2:=by simp[valueAt,e']
   rwa[El e,b]
  .have e':¬q.1=k:=λz=>e (h1.trans z)
   have b:valueAt (q::qs) k=valueAt qs k:=by simp[valueAt,e']
   rwa[Em e,b]
def KV.any{ag:tH (κ×V)}{vs:tH (κ×tM)}(r:KV ag vs)(k:κ):(ag.any λkv=>decide (kv.1=k))=vs.any λkv=>decide (kv.1=k):=by induction r with|vO=>rfl|ux h t ih=>rw[qt,qt,ih,h.1]
def KV.repl(r:KV ag vs)(k:κ)(ry:vg y u):
  KV (ag.tJ λkv=>if kv.1=k then(kv.1,y)else kv) (vs.tJ λkv=>if kv.1=k then(kv.1,u)else kv):=by
 induction r with
 |vO=>exact .vO
 |@ux p q ps qs h t ih =>
  rw[nV,nV];refine .ux ?_ ih;let{h1,h2}:=h;by_cases e:p.1=k
  .rw[tW e,tW (h1.symm.trans e)];exact{h1,ry}
  .rw[ug e,ug (λz=>e (h1.trans z))];exact{h1,h2}
def KV.put(r:KV ag vs)(k:κ)(ry:vg y u):KV (putK ag k y) (stored vs k u):=by
 unfold putK stored;rw[r.any k];by_cases e:(vs.any λkv=>decide (kv.1=k))=true
 .rw[tW e,tW e];exact r.repl k ry
 .rw[ug e,ug e];exact Paired.snoc r {rfl,ry}
def KV.fg(r:KV ag vs):ag.fg=vs.fg:=Paired.fg r
end
def NK(r:vg (kV k) u):(Bj P w).is k u=true:=by cases k with|uW i=>let{t,e}:=(show ∃t,u=tM.tS i t from r);subst e;exact K8 P w i t|uK x=>let{t,e}:=(show ∃t,u=tM.str x t from r);subst e;exact K7 P w x t
def JU:∀{ks:tH vc}{us:tH tM},vo (ks.tJ kV) us->ItemsAre (Bj P w) ks us
 | [],_,r=>by rw[pM]at r;cases r;exact .vO
 |k::ks,_,r=>by cases r with|ux h t=>exact .ux (NK h) (JU t)
abbrev KT(H:Hp):tH (tH vc×V)->tH (tH vc×tV×tM)->Prop:=Paired λp q=>p.1=q.1/\H q.2.1=p' (.uj (p.1.tJ kV))/\vg p.2 q.2.2
def KT.vm{ag:tH (tH vc×V)}{xs:tH (tH vc×tV×tM)}(r:KT H ag xs)(k:tH vc):Bg (KG ag k) ((atKey xs k).tJ (·.2)):=by
 induction r with
 |vO=>exact uQ.intro
 |@ux p q ps qs h t ih =>
  let{h1,_,h2}:=h;by_cases e:p.1=k
  .have e':q.1=k:=h1.symm.trans e;have b:atKey (q::qs) k=p' q.2:=by simp[atKey,e']
   rwa[El e,b]
  .have e':¬q.1=k:=λz=>e (h1.trans z)
   have b:atKey (q::qs) k=atKey qs k:=by simp[atKey,e']
   rwa[Em e,b]
def KT.repl{xs}(r:KT H ag xs)(k:tH vc)(ry:vg y u):
  KT H (ag.tJ λkv=>if kv.1=k then(kv.1,y)else kv) (xs.tJ (vA k u)):=by
 induction r with
 |vO=>exact .vO
 |@ux p q ps qs h t ih =>
  rw[nV,nV];refine .ux ?_ ih;let{h1,h2,h3}:=h;unfold vA;by_cases e:p.1=k
  .rw[tW e,tW (h1.symm.trans e)];exact{h1,h2,ry}
  .rw[ug e,ug (λz=>e (h1.trans z))];exact{h1,h2,h3}
def KT.put{ag:tH (tH vc×V)}{xs:tH (tH vc×tV×tM)}(r:KT H ag xs)(k:tH vc){y:V}{u:tM}(hb:H b=p' (.uj (k.tJ kV)))(ry:vg y u):
  KT H (putK ag k y) (storedH xs k b u):=by
 have e:(ag.any λkv=>decide (kv.1=k))=(atKey xs k).u8:=by rw[LH,(r.vm k).Dv,tL.isSome_map]
 unfold putK storedH;rw[e];by_cases q:(atKey xs k).u8=true
 .rw[tW q,tW q];exact r.repl k ry
 .rw[ug q,ug q];exact Paired.snoc r {rfl,hb,ry}
def KT.keeps{xs}(r:KT H ag xs)(ht:∀b ys,H b=p' (.uj ys)->H' b=p' (.uj ys)):KT H' ag xs :=
 Paired.mapP r λ_ _ z=>{z.1,ht _ _ z.2.1,z.2.2}
variable{P:Program}{h:Heap}{a:Addr}
def JaK(ok:HOk P w H h)(e:Rd H a u):Bt P w H h a u:=e.ok ok
def Fv(ok:HOk P w H h)(e:Rd H a (.v ag)):ag.fg<=t9/\(a==wa)=false/\∃vs,KV ag vs/\h.DictOf (Bj P w) a vs :=
 show Bt P w H h a (.v ag)from JaK ok e
def dk_of(ok:HOk P w H h)(e:H a=p' (.v ag)):ag.fg<=t9/\(a==wa)=false/\∃vs,KV ag vs/\h.DictOf (Bj P w) a vs:=Fv ok (.uW e)
def JQ(ok:HOk P w H h)(e:H a=p' (.uj (ks.tJ kV))):(tupleKind (Bj P w)).is h ks a:=by
 let{_,uU,r,o,h1,h2,n,h3,_}:=(show Bt P w H h a (.uj (ks.tJ kV))from ok a _ e)
 exact{o,uU.tZ,n,h1,h2,h3,by simpa using JU r}
def NX{ag:tH (tH vc×V)}(ok:HOk P w H h)(e:Rd H a (.q ag)):ag.fg<=t9/\(a==wa)=false /\
  ∃xs,KT H ag xs/\h.DictOfH (tupleKind (Bj P w)) a xs:=by
 let{z,y,xs,r,o,es,ep,h1,h2,h3,h4,h5}:=(show Bt P w H h a (.q ag)from JaK ok e)
 refine{z,y,xs,r,o,es,ep,h1,h2,h3,h4,λx hx=>?_,h5};have all:∀{l:tH (tH vc×V)}{m:tH (tH vc×tV×tM)},KT H l m->∀x∈m,(tupleKind (Bj P w)).is h x.1 x.2.1:=by
  intro l m q
  induction q with
  |vO=>intro x hx;exact nomatch hx
  |@ux p q ps qs hq t ih =>
   intro x hx;rcases oz.mp hx with e|hx
   .subst e;exact JQ ok (by rw[<- hq.1];exact hq.2.1)
   .exact ih x hx
 exact all r x hx
def dt_of(ok:HOk P w H h)(e:H a=p' (.q ag)):ag.fg<=t9/\(a==wa)=false /\
  ∃xs,KT H ag xs/\h.DictOfH (tupleKind (Bj P w)) a xs:=NX ok (.uW e)
def Kz (H:Hp)(a:tV)(y:V)(r:tL V):Prop :=
 (∃ag k,Rd H a (.v ag)/\y=kV k/\r=KG ag k)\/∃ag k b,Rd H a (.q ag)/\y=.t8 b/\H b=p' (.uj (k.tJ kV))/\r=KG ag k
def Oh (H:Hp)(a:tV)(y v:V)(H':Hp):Prop :=
 (∃ag k,H a=p' (.v ag)/\y=kV k/\ag.fg<t9/\H'=vi H a (.v (putK ag k v)))\/
 ∃ag k b,H a=p' (.q ag)/\y=.t8 b/\H b=p' (.uj (k.tJ kV))/\ag.fg<t9/\H'=vi H a (.q (putK ag k v))
def Kz.k{ag:tH (vc×V)}{k:vc}(e:H a=p' (.v ag)):Kz H a (kV k) (KG ag k):=.uW {ag,k,.uW e,rfl,rfl}
def Kz.t{ag:tH (tH vc×V)}{k:tH vc}(e:H a=p' (.q ag))(eb:H b=p' (.uj (k.tJ kV))):Kz H a (.t8 b) (KG ag k):=.uK {ag,k,b,.uW e,rfl,eb,rfl}
def Oh.k{ag:tH (vc×V)}{k:vc}{v:V}(e:H a=p' (.v ag))(hl:ag.fg<t9):Oh H a (kV k) v (vi H a (.v (putK ag k v))):=.uW {ag,k,e,rfl,hl,rfl}
def Oh.t{ag:tH (tH vc×V)}{k:tH vc}{v:V}(e:H a=p' (.q ag))(eb:H b=p' (.uj (k.tJ kV)))(hl:ag.fg<t9):
  Oh H a (.t8 b) v (vi H a (.q (putK ag k v))):=.uK {ag,k,b,e,rfl,eb,hl,rfl}
variable{y v:V}{u r:Value}{o:Option V}
def uF.big(I:uF X aa U H s):wa<s.tK.uc.tX:=by have h:=(I.mod.glob.keeps I.bk).lt;exact p8 ZB h
def J6(hu:A.vF+1<wc)(I:uF X aa U H s)(g:Kz H a y (p' v))(ry:vg y u)(h:∀w' s',uF X aa U H s'->vg v w'->Q w' s'):
  ue (uf X.ub X.w) A (getItem (.t8 a) u) Q E s:=by
 rcases g with⟨ag,k,e,ey,l⟩|⟨ag,k,b,e,ey,eb,l⟩
 .subst ey;let{z,hd,vs,aB,dd}:=Fv I.zZ e;let{w',hw,bU}:=Bg.some_of (by rw[l];exact aB.vm k);exact wpAny_getItem_of (NK ry) dd.mapOf hw (h w' _ (I.tok _) bU)
 .subst ey;cases(show u=tM.t8 b from ry);let{z,hd,xs,aB,dd}:=NX I.zZ e;let{w',hw,bU}:=Bg.some_of (by rw[l];exact aB.vm k);let{p,hp,lj}:=n8.mp hw;refine wpAny_getItem_heap (tupleKind_room_in1 hu) (JQ I.zZ eb) dd hp ?_;rw[lj];exact h w' _ (I.tok _) bU
def d_in(hu:A.vF+1<wc)(I:uF X aa U H s)(g:Kz H a y o)(ry:vg y u)(h:∀s',uF X aa U H s'->Q (.bool o.u8) s'):
  ue (uf X.ub X.w) A (u0 .In u (.t8 a)) Q E s:=by
 rcases g with⟨ag,k,e,ey,l⟩|⟨ag,k,b,e,ey,eb,l⟩
 .subst ey;let{z,hd,vs,aB,dd}:=Fv I.zZ e;refine wpAny_in_of (NK ry) hd dd.mapOf ?_;rw[<- (aB.vm k).Dv,<- l];exact h _ (I.tok _)
 .subst ey;cases(show u=tM.t8 b from ry);let{z,hd,xs,aB,dd}:=NX I.zZ e;refine wpAny_in_heap (tupleKind_room_in1 hu) (JQ I.zZ eb) hd dd ?_;have q:=(aB.vm k).Dv;rw[tL.isSome_map]at q;rw[<- q,<- l];exact h _ (I.tok _)
def Y6(hu:A.vF+1<wc)(I:uF X aa U H s)(g:Kz H a y o)(ry:vg y u)(h:∀s',uF X aa U H s'->Q (.bool (!o.u8)) s'):
  ue (uf X.ub X.w) A (u0 .NotIn u (.t8 a)) Q E s:=by
 rcases g with⟨ag,k,e,ey,l⟩|⟨ag,k,b,e,ey,eb,l⟩
 .subst ey;let{z,hd,vs,aB,dd}:=Fv I.zZ e;refine wpAny_notIn_of (NK ry) hd dd.mapOf ?_;rw[<- (aB.vm k).Dv,<- l];exact h _ (I.tok _)
 .subst ey;cases(show u=tM.t8 b from ry);let{z,hd,xs,aB,dd}:=NX I.zZ e;refine wpAny_notIn_heap (tupleKind_room_in1 hu) (JQ I.zZ eb) hd dd ?_;have q:=(aB.vm k).Dv;rw[tL.isSome_map]at q;rw[<- q,<- l];exact h _ (I.tok _)
def Q0(I:uF X aa U H s)(mu:Mut (H a))(hs:uS.SameBut a s.tK h')(he:∃q,h'.ua a=p' q)(new:Bt X.ub X.w (vi H a ob) h' a ob):
  uF X aa U (vi H a ob) {s with tK:=h',vj:=t' } :=
 I.write mu (.uW rfl) (λb q hb z=>(hs.2 b hb).trans z) he new
def QT(z:ag.fg<=t9)(hd:(a==wa)=false)(aB:KV ag vs)(dd:h'.DictOf (Bj P w) a vs):
  Bt P w H' h' a (.v ag):={z,hd,vs,aB,dd}
def J5{H':Hp}{Q:Unit->ud->Prop}(hu:A.vF+1<wc)(I:uF X aa U H s)(g:Oh H a y v H')(ry:vg y u)(rv:vg v r)(h:∀s',uF X aa U H' s'->Q () s'):
  ue (uf X.ub X.w) A (setItem (.t8 a) u r) Q E s:=by
 rcases g with⟨ag,k,e,ey,l,eH⟩|⟨ag,k,b,e,ey,eb,l,eH⟩
 .subst ey eH;let{z,hd,vs,aB,dd}:=dk_of I.zZ e;have hz:vs.fg<=t9:=by rwa[<- aB.fg]
  have hl:(putK ag k v).fg<=t9:=by have:=D8 ag k v;lia
  refine wpAny_setItem_pairs (hsz:=hz) (NK ry) dd λh' dE hs=>h _ ?_
  have he:∃q,h'.ua a=p' q:=let{q,_,_,hq,_}:=dE;{q,hq};exact Q0 I (by rw[e];exact uQ.intro) hs he (QT hl hd (aB.put k rv) dE)
 .subst ey eH;cases(show u=tM.t8 b from ry);let{z,hd,xs,aB,dd}:=dt_of I.zZ e;have hz:xs.fg<=t9:=by rwa[<- Paired.fg aB]
  have hl:(putK ag k v).fg<=t9:=by have:=D8 ag k v;lia
  refine wpAny_setItem_heap (hsz:=hz) (tupleKind_room_in1 hu) (JQ I.zZ eb) dd λh' dE hs=>h _ ?_
  let{q,es,ep,hq,h2,h3,h4,_,h5}:=dE;refine Q0 I (by rw[e];exact uQ.intro) hs {q,hq} {hl,hd,_,(aB.put k eb rv).keeps λc ys ec=>?_,q,es,ep,hq,h2,h3,h4,h5};rwa[Ap (ne_of ec e (λz=>nomatch z))]
variable{ag:List (Key×V)}{k:Key}
def d_len(I:uF X aa U H s)(e:Rd H a (.v ag))(h:∀t s',uF X aa U H s'->Q (.tS ag.fg t) s'):ue (uf X.ub X.w) A (call (.uM "len") [.t8 a]) Q E s:=by let{z,hd,vs,aB,dd}:=Fv I.zZ e;refine call_len_dict hd dd (by rw[<- aB.fg];rw[vk]at z;lia) ?_;rw[<- aB.fg];exact h _ _ (I.tok _)
def NoSl (i:v7):Prop:=∀ov iv,subscripted i false ov iv=operate [ov,iv] (getItem ov iv)
def WE{uh:Env}{value aC:v7}{id:wb}{Q:Zcv}
  (hl:typeLookup (.uJ T) "__getitem__"=wx (p' (.uM id))) (hs:NoSl aC)
  (h:ue (uf ub w) A (wD value uh) (λo ay=>ue (uf ub w) A (wD aC uh) (λi bA=>bA.TypeIs o T/\ue (uf ub w) A (getItem o i) Q E bA) E ay) E s) :
  ue (uf ub w) A (wD (.vz value aC uG) uh) Q E s:=by
 refine Subscript_ (v4 h (λo ay aN=>v4 aN (λi bA dm=>?_) λ_ _ x=>x) λ_ _ x=>x);let{hT,dm}:=dm;refine nR ?_;refine nR (wq hT hl ?_);have aO:ue (uf ub w) A (subscripted aC false o i) (λr aS=>ue (uf ub w) A (letTemporaryGo value o r >>= λ_=>wx r) Q E aS) E bA:=by rw[hs o i];exact wpAny_operating (v4 dm (λr aS cK=>nR (wpAny_letTemporaryGo (n6 cK))) λ_ _ x=>x)
 first
  |exact n6 (nR aO)
  |exact nR (n6 (nR aO))
  |exact nR aO
def GL(I:uF X aa U H s)(g:Kz H a y o):s.TypeIs (.t8 a) "dict":=by
 rcases g with⟨ag,k,e,_,_⟩|⟨ag,k,b,e,_,_,_⟩
 .let{_,_,vs,_,dd}:=Fv I.zZ e;exact dd.wM
 .let{_,_,xs,_,dd}:=NX I.zZ e;exact dd.wM
def tDGet (td ty:TE):TE:=λU H Q=>td U H λx H1=>ty U H1 λy H2=>∃a v,x=.t8 a/\Kz H2 a y (p' v)/\Q v H2
def JaC (td ty tv:TE):TS:=λD U H=>tv U H λv H1=>td U H1 λx H2=>ty U H2 λy H3=>∃a H4,x=.t8 a/\Oh H3 a y v H4/\D.nx U H4
variable{o i value:Expr}{aI bV:Pos}{td ty tv:TE}
def Xf(hu:X.A.vF+1<wc)(ho:PE X o td)(hi:PE X i ty)(hs:NoSl i):PE X (.vz o i uG) (tDGet td ty):=by intro aa s U H Q I h;refine WE PySem.F.slot_dict_getitem.t7 hs (wo (ho aa s U H _ I h) λu s1 {x,H1,I1,rx,q1}=>wo (hi aa s1 U H1 _ I1 q1) λiv s2 aj=>?_);let{y,H2,I2,ry,a,v,ex,g,q2}:= aj;subst ex;obtain rfl:u=tM.t8 a:=rx;exact{GL I2 g,J6 hu I2 g ry λw' s3 I3 bU=>{v,H2,I3,bU,q2} }
def K0(hu:X.A.vF+1<wc)(ho:PE X o td)(hi:PE X i ty)(hv:PE X value tv)(hs:swapsWith value (p' (.vz o i aI)) uG.line X.uh=wx false):
  PS X (.Assign [.vz o i aI] value uG) (JaC td ty tv):=by
 intro aa s U H D I h;refine wpAny_Assign_Subscript (wo (hv aa s U H _ I h) λr s1 {v,H1,I1,rv,q1}=>wo (ho aa s1 U H1 _ I1 q1) λu s2 {x,H2,I2,rx,q2}=>wo (hi aa s2 U H2 _ I2 q2) λiv s3 aj=>?_) hs;let{y,H3,I3,ry,a,H4,ex,g,q3}:= aj;subst ex;obtain rfl:u=tM.t8 a:=rx;exact J5 hu I3 g ry rv λs4 I4=>{U,H4,I4,q3}
def Uh(h:uS)(hb:wa<h.uc.tX):Bt P w H (h.vY {cls:=.uJ "dict",uX:=.dict #[]}) h.uc.tX (.v []) :=
 {pB _,vB.wO (Ne.symm (oI hb)),[],.vO,uS.DictOf.new h}
def Ud(h:uS)(hb:wa<h.uc.tX):Bt P w H (h.vY {cls:=.uJ "dict",uX:=.dict #[]}) h.uc.tX (.q []) :=
 {pB _,vB.wO (Ne.symm (oI hb)),[],.vO,_,#[],0,oi _ rfl,{rfl,rfl,rfl},rfl,rfl,oY}
def Jaq :TE:=λ_ H Q=>∀p,H p=none->Q (.t8 p) (vi H p (.v []))
def Jap :TE:=λ_ H Q=>∀p,H p=none->Q (.t8 p) (vi H p (.q []))
def Mf:PE X (.Dict [] [] uG) Jaq:=λaa s U H Q I h =>wpAny_Dict_empty {.t8 s.tK.uc.tX,_,I.laid (λ_ _ q=>nY _ q) (oh _) (Uh s.tK I.big),rfl,h _ (I.zZ.vJ (oh _))}
def SM:PE X (.Dict [] [] uG) Jap:=λaa s U H Q I h =>wpAny_Dict_empty {.t8 s.tK.uc.tX,_,I.laid (a:=s.tK.uc.tX) (o:=.q []) (t':=s.vj) (λ_ _ q=>nY _ q) (oh _) (Ud s.tK I.big),rfl,h _ (I.zZ.vJ (oh _))}
def IsD (H:Hp)(a:tV):Prop:=(∃ag,Rd H a (.v ag))\/∃ag,Rd H a (.q ag)
def Jb3(I:uF X aa U H s)(d:IsD H a):
  s.TypeIs (.t8 a) "dict"/\(∀b,tM.t8 a=.t8 b->∃ob,s.tK.ua b=p' ob/\ob.dict=none)/\(a==wa)=false:=by
 rcases d with⟨ag,e⟩|⟨ag,e⟩
 .let{_,hd,vs,_,dd}:=Fv I.zZ e;refine{dd.wM,λb q=>?_,hd};cases q;let{ob,_,_,h1,h2,_}:=dd;exact{ob,h1,h2.2.1}
 .let{_,hd,xs,_,dd}:=NX I.zZ e;refine{dd.wM,λb q=>?_,hd};cases q;let{ob,_,_,h1,h2,_}:=dd;exact{ob,h1,h2.2.1}
variable{d:V}{o:Option V}
variable{o f:Expr}{tx:TE}
def Ui{Q:Zcv}(I:uF X aa U H s)(e:Rd H a (.v ag))(h:∀p s',H p=none->uF X aa U (vi H p (.v ag)) s'->Q (.t8 p) s'):ue (uf X.ub X.w) A (call (.uJ "dict") [.t8 a]) Q E s:=by
 let{z,hd,vs,aB,dd}:=Fv I.zZ e;refine kt_call_dict hd dd (by rw[<- aB.fg];exact z) λh' dE hs=>?_
 refine h _ _ (I.zZ.vJ (oh _)) (I.laid (a:=s.tK.uc.tX) (o:=.v ag) (t':=s.vj) (λb q hq=>?_) (oh _) (QT z (vB.wO (Ne.symm (oI I.big))) aB dE));exact(hs.2 b (oI (ot hq))).trans (nY _ hq)
end Lake.L2
namespace Att
open PySem PySem.W PySem.Calls PyProof.Rows
def GB:∀(ns:tH tN)(vs:tH tM),WellAll P h vs (ns.tJ WData.tS)->IntsAre vs ns:=by
 intro ns
 induction ns with|vO =>intro vs w;cases w;exact .vO|ux n ns ih =>intro vs w;cases w with|ux a b =>cases a;exact .ux _ _ (ih _ b)
def ON{l:OpenLaw}{n:tQ}(hn:l.vZ=p' n){P:Params}{h:uS}{args:tH WData}{vals:tH tM}
  (cJ:l.row.toRowW.claim.pre args=true) (gv:WellAll P h vals args) :
  ∃a vs ns,vals=[tM.t8 a]/\args=[WData.list (ns.tJ WData.tS)]/\h.ua a=p' {cls:=.uJ "list",uX:=.seq vs.tZ}/\IntsAre vs ns/\ns.fg<=n:=by
 have lu:WShape.hasAll [] args [.list .tS]=true:=(pre_splitW cJ).1;have hc:l.pre.holds [] {args:=args}=true:=(pre_splitW cJ).2;let{d,r,rfl,h1,h2}:=hasAllW_cons lu;obtain rfl:=hasAllW_nil h2;let{xs,rfl,h3}:=hasW_list h1;let{ns,rfl}:=items_int h3;have hlen:ns.fg<=n:=by
  have h4:(WTm.not (.lt (.lit (.tS (n:tN))) (.wv (.arg 0)))).holds [] {args:=[.list (ns.tJ .tS)]}=true:=by have h4:=(holds_andW hc).1;rwa[hn]at h4
  have h5:=condW_of h4 (w_not (w_lt w_lit (w_len_list (w_arg rfl))));refine tQ.le_of_not_lt λq=>?_
  first
   |(rw[oV q']at h5;exact uD h5 ZB)
   |(simp at h5;lia)
 cases gv with|ux w1 w2 =>cases w2;cases w1 with|list ho cW=>exact{_,_,ns,rfl,rfl,ho,GB ns _ cW,hlen}
def Pj(l:OpenLaw)(args:tH WData):l.row.toRowW.claim.post args (.bool true) args=true :=
 postW_of
  (show WShape.has [] (.bool true) .bool=true by first|rfl|decide|simp[WShape.armsAll])
  (show(WTm.eq .res (.lit (.bool true))).value [] {args:=args,res:=p' (.bool true),after:=args}=p' (.bool (true==true))from w_eq_bool (w_res rfl) w_lit) rfl
variable{prog:Program}{w:World}{A:Around}{E:Zcv}{s:Shared}{K:Frag}
end Att
namespace Lake.L2
open PySem PySem.Spec PyProof.Rows
def Jl:∀{vs:tH tM}{ns:tH tN},IntsAre vs ns->vo (ns.tJ V.tS) vs
 |_,_,.vO=>.vO
 |_,_,.ux n t h=>.ux {t,rfl} (Jl h)
def Only (H:Hp):Prop:=∀b,H b=none\/∃o xs,H b=p' (.frz o (.tY xs))
def S6{P:wf}{w:wK}{K:Fg}{mg mb:Zsv}{CX:CXT}{k:tQ}{fa a:tV}{fd:FuncData}{x:tO}{sp:Sp}{ay:ud}{vs:tH tM}{ns:tH tN}
  (KX:K.In ay.tK) (jH:ay.tK.Ns uO mg) (hb:ay.tK.Ns builtinsNs mb) (kP:∀x:tO,x≠"__name__"->mb x=bootBuiltins x) (iQ:ay.tK.NoLimit) (hg:ay.gens=#[])
  (ha:ay.tK.ua a=p' {cls:=.uJ "list",uX:=.seq vs.tZ}) (hi:IntsAre vs ns) (hl:ns.fg<=t9) (hr:Di k callerA)
  (F:∀uk:uS,K.In uk->uk.Ns uO mg->Fm P w K mg uk CX k fa fd [x] sp) (fV:∀(s:ud)(u:tM),BindsTo s fd {[u],[]} [(x,u)])
  (dA:∀H:Hp,Only H->SqL K H a (ns.tJ V.tS)->sp [.t8 a] H (λv _=>v=.l true) λ_ _ _=>vd)
  (fU:∀H e s',CX [] H ay (λ_ _ _=>vd) e s'->vd) :
  codeAny (uf P w) callerA (.call (.t8 fa) {[.t8 a],[]}) (λr s'=>r=.ok (.wH (.bool true))/\OldK ay.tK s'.tK/\s'.os=ay.os/\AllBare s'.gens) ay:=by
 have rv:=Jl hi;have i6:=hi.fg;have core:∀H:Hp,Only H->SqL K H a (ns.tJ V.tS)->HOk P w H ay.tK->(∀b,H b≠none->b=a)->(H a≠none->K.t7 a=none) ->
   codeAny (uf P w) callerA (.call (.t8 fa) {[.t8 a],[]}) (λr s'=>r=.ok (.wH (.bool true))/\OldK ay.tK s'.tK/\s'.os=ay.os/\AllBare s'.gens) ay:=by
  intro H hO hS zZ hA hK;have cm:∀{b:tV}{o:Obj},ay.tK.ua b=p' o->H b=none->(Tc ay.tK H).ua b=p' o:=λe n=>Tb e n
  have gG:∀{b:tV}{o:Obj}{es:vp DictEntry}{ep:tQ},ay.tK.ua b=p' o->o.uX=.dict es ep->H b=none:=λ{b o es ep} e d=>by cases q:H b with|none=>rfl|p' u =>have e':b=a:=hA b (by rw[q];simp);subst e';rw[ha]at e;cases e;have d':Data.seq vs.tZ _=Data.dict es ep:=d;cases d'
  have hV:∀{b:tV}{m:Zsv},ay.tK.Ns b m->(Tc ay.tK H).Ns b m:=λ{b m} {o,es,ep,e,d,r}=>{o,es,ep,cm e (gG e d),d,r}
  have jw:K.In (Tc ay.tK H):=λb o e=>cm (KX b o e) (by cases q:H b with|none=>rfl|p' u =>have e':b=a:=hA b (by rw[q];simp);subst e';rw[hK (by rw[q];simp)]at e;cases e)
  have hM:Mod K mg (Tc ay.tK H):={jw,hV jH,{mb,hV hb,kP},let{mc,h1,h2}:=iQ;{mc,hV h1,h2} }
  have e0:ZA P w K mg (Tc ay.tK H) callerA [] ay H:={rfl,hM,λb o e=>Xz e,tQ.le_of_eq (Qq _ _),trivial,λb hb=>uD (show b∈([]:tH tV)from hb) (by simp),zZ,.of_eq hg}
  refine codeAny_mono ((F _ jw (hV jH)).run callerA [] ay H {[.t8 a],[]} [.t8 a] [.t8 a] _ _ hr e0 (fV ay (.t8 a)) (.ux rfl .vO) (dA H hO hS)) λr s' h=>?_
  cases r with
  |error e=>exact(fU H e s' h).tU
  |ok fl =>
   cases fl with
   |next=>exact vd.tU h
   |brk=>exact vd.tU h
   |cont=>exact vd.tU h
   |wH u =>
    let{v,H',os,bare,un,iT,r',q}:=h;have q':v=.l true:=q;subst q';obtain rfl:u=tM.bool true:=r';refine{rfl,OldK.of_keep λb o e=>?_,os,bare};cases q:H b with
    |none=>exact un.keep b o e q (by intro z;exact uD (show b∈([]:tH tV)from z) (by simp)) (by simp)
    |p' u =>
     rcases hO b with z|⟨ob,xs,z⟩
     .rw[q]at z;cases z
     .have z2:=un.zI b ob _ z;let{e1,_}:=zZ b _ z;let{e2,_}:=iT b _ z2;rw[e]at e1;cases e1;exact e2
 cases hk:K.t7 a with
 |p' o =>have e:=KX a o hk;rw[ha]at e;cases e;refine core (λ_=>none) (λ_=>.uW rfl) (.uK {_,vs.tZ,_,hk,rfl,rfl,rfl,by rw[nZ,i6];exact hl,by simpa using rv}) (λb u z=>by have z':(none:tL HO)=p' u:=z;cases z') (λb z=>uD rfl z) λz=>uD rfl z
 |none =>
  refine core (λb=>if b=a then p' (.frz {cls:=.uJ "list",uX:=.seq vs.tZ} (.tY (ns.tJ V.tS)))else none) (λb=>?_) (.uW (.uK { {cls:=.uJ "list",uX:=.seq vs.tZ},tW rfl})) (λb u z=>?_) (λb z=>?_) λ_=>hk
  .by_cases hb:b=a
   .exact .uK {_,_,tW hb}
   .exact .uW (ug hb)
  .by_cases hb:b=a
   .have z':=(tW hb).symm.trans z;cases z';subst hb;exact{ha,by rw[nU];exact hl,vs,_,rv,ha}
   .have z':=(ug hb).symm.trans z;cases z'
  .by_cases hb:b=a
   .exact hb
   .exact uD (ug hb) z
def inClass (s:Stmt)(j:tQ):Stmt:=match s with|.ClassDef _ _ _ vR _ _ _ _ _ _ _=>vR.uZ j (.Pass {0,0,0,0})|_=>.Pass {0,0,0,0}
def GO (s:Stmt):Arguments:=match s with|.FunctionDef _ a _ _ _ _ _ _ _ _=>a|_=>{posonlyargs:=[],args:=[],vararg:=none,kwonlyargs:=[],kw_defaults:=[],kwarg:=none,defaults:=[]}
def Ef (s:Stmt):tH Stmt:=match s with|.FunctionDef _ _ b _ _ _ _ _ _ _=>b|_=>[]
def Bw (s:Stmt):Scope:=match s with|.FunctionDef _ _ _ _ _ _ sc _ _ _=>sc|_=>{kind:=.function,uq:=[],isGenerator:=false,isCoroutine:=false}
abbrev E0:XK:=λ_ _ _=>vd
structure Fun(K:Fg)(x qual:tO)(st:Stmt)(f:tV)(fd:FuncData):Prop where
 ex:∃(oc:tM)(od:tL tV)(kV bN pm:tM)(an:tL tV)(cdv ct:tM)(eP:vp (tL tM)),
  fd=fnOf x qual (GO st) (Ef st) (Bw st) .none kV bN pm an cdv ct/\K.t7 f=p' {oc,od,.func fd,eP}/\codeIn K cdv qual=true
 kp:keepIn K (.t8 f)=true
variable{P:Program}{w:World}{K:Fg}{mg:Zsv}{base:Heap}
def Fun.binds{x qual:tO}{st:Stmt}{f:tV}{fd:FuncData}{ps:tH tO}(F:Fun K x qual st f fd)
  (h:∀(kV bN pm:tM)(an:tL tV)(cdv ct:tM)(us:tH tM),us.fg=ps.fg->bindArgs (fnOf x qual (GO st) (Ef st) (Bw st) .none kV bN pm an cdv ct) {us,[]}=wx (ps.zip us)):Binds K fd ps []:=by
 let{oc,od,kV,bN,pm,an,cdv,ct,eP,rfl,lk,cE}:=F.ex;exact .all (h kV bN pm an cdv ct)
def VI{x qual:tO}{st:Stmt}{f:tV}{oc:tM}{od an:tL tV}{eP:vp (tL tM)}{kV bN pm cdv ct:tM}(l:K.t7 f=p' {oc,od,.func (fnOf x qual (GO st) (Ef st) (Bw st) .none kV bN pm an cdv ct),eP})
  (c:codeIn K cdv qual=true) (k:keepIn K (.t8 f)=true):Fun K x qual st f (fnOf x qual (GO st) (Ef st) (Bw st) .none kV bN pm an cdv ct):={ {oc,od,kV,bN,pm,an,cdv,ct,eP,rfl,l,c},k}
def hu_of(hr:Di k A):A.vF+1<wc:=tQ.lt_of_le_of_lt (tQ.add_le_add_left (by decide:1<=64) _) hr.vF
variable{X:Cx}
def pv(i:tQ)(hN:X.N[i]?=p' x:=by rfl)(hv:Vis X.uh.uR x:=by first|exact Or.uW rfl|exact Or.uK (Or.uW rfl)|exact Or.uK (Or.uK rfl))(hd:Zdb x:=by decide)
  (cE:(x==("__classdict__":tO))=false:=by decide):PE X (.uE x uG) (KP i):=Ja9 hN hv hd cE
section
variable{κ:Type}[DecidableEq κ]
end
def Eg:∀(l:tH (tO×wG))(cs:tH (tO×tV)),(∀y∈l,y.2=.vK->∃c,uh.cells.t7 y.1=p' c)->(∀n c,cs.t7 n=p' c->uh.cells.t7 n=p' c) ->
  ∃cl,(forIn l cs λ(x:tO×wG)(r:tH (tO×tV))=>match x with|(name,kind)=>if(kind==wG.vK)=true then do let c <- cellOf uh name;wx (ForInStep.yield ((name,c)::r))else wx (ForInStep.yield r))=(wx cl:Sem _) /\
   (∀n c,cl.t7 n=p' c->uh.cells.t7 n=p' c)/\(∀y∈l,y.2=.vK->∃c,cl.t7 y.1=p' c)/\(∀n c,cs.t7 n=p' c->∃c',cl.t7 n=p' c')
 | [],cs,_,h2=>{cs,rfl,h2,(λ_ h=>nomatch h),λn c h=>{c,h} }
 |(n,k)::r,cs,h1,h2=>by
  by_cases e:k=.vK
  .subst e;let{c,hc}:=h1 (n,.vK) n5 rfl;have e1:cellOf uh n=(wx c:Sem _):=by unfold cellOf;rw[hc]
   let{cl,q1,q2,q3,q4}:=Eg r ((n,c)::cs) (λy hy=>h1 y (n4 _ hy)) (λn' c' q=>by rw[pf]at q;cases hb:n'==n with|true=>rw[hb]at q;cases q;rw[beq_iff_eq.mp hb];exact hc|false=>rw[hb]at q;exact h2 _ _ q);have eO:=q4 n c (by simp);refine{cl,?_,q2,λy hy hf=>?_,λn' c' q=>?_}
   .rw[tH.forIn_cons];simp![e1];exact q1
   .rcases oz.mp hy with rfl|hy
    .exact eO
    .exact q3 y hy hf
   .by_cases hb:n'=n
    .subst hb;exact eO
    .exact q4 n' c' (by rwa[pf,vB.wO hb])
  .let{cl,q1,q2,q3,q4}:=Eg r cs (λy hy=>h1 y (n4 _ hy)) h2;refine{cl,?_,q2,λy hy hf=>?_,q4}
   .rw[tH.forIn_cons];have hb:(k==wG.vK)=false:=by simpa using e
    simp![hb,pure_bind];exact q1
   .rcases oz.mp hy with rfl|hy
    .exact uD hf e
    .exact q3 y hy hf
def EE(h:∀y∈sc.uq,y.2=.vK->∃c,uh.cells.t7 y.1=p' c):
  ∃cl,closureFor sc uh=wx cl/\(∀n c,cl.t7 n=p' c->uh.cells.t7 n=p' c)/\(∀y∈sc.uq,y.2=.vK->∃c,cl.t7 y.1=p' c):=by
 let{cl,q1,q2,q3,_}:=Eg sc.uq [] h (λn c q=>by simp at q);refine{cl,?_,q2,q3};unfold closureFor;simp![bind_pure];refine Eq.trans ?_ q1;congr 1
variable{prog:Program}{A:Around}{R:Result->Shared->Prop}{s:Shared}
def J9(I:tQ->ud->Prop)
  (turn:∀n s,I n s->ue (uf ub w) A (pyNext it) (λr ay=>match r with
   |none=>R (.ok .next) ay
   |p' v=>ue (uf ub w) A (letOwnedTupleGo target it v) (λ_ ay=>ue (uf ub w) A (assign target uh v) (λ_ bA =>
     ue (uf ub w) A (forIn bj true λc r=>if r=true then do let ok <- isTrue c uh (wD c uh);wx (ForInStep.yield ok)else wx (ForInStep.yield r)) (λok aS =>
      if ok=true then ue (uf ub w) A (wD bB uh) (λx eB =>ue (uf ub w) A (call (.uM "list.append") [ar,x]) (λ_ gP=>∃m,m<n/\I m gP) (λ_ _=>vd) eB) (λ_ _=>vd) aS
      else ∃m,m<n/\I m aS) (λ_ _=>vd) bA) (λ_ _=>vd) ay) (λ_ _=>vd) ay) (λ_ _=>vd) s)
  (n:tQ) (h:I n s) :
  codeAny (uf ub w) A (.compLoop (.ListComp bB [{target,au,bj,0}] uR uG) 0 it ar uh) R s:=by
 refine codeAny_loop rfl I (λn s hI=>?_) n h;refine wpAny_noted ?_;refine nR (wpAny_standAt (nR (v4 (turn n s hI) (λr ay aN=>?_) λ_ _ h'=>h'.tU)));cases r with|none=>exact n6 aN|p' v =>refine nR (v4 aN (λ_ jY gA=>?_) λ_ _ h'=>h'.tU);refine nR (v4 gA (λ_ bA dm=>nR (v4 dm (λok aS cK=>?_) λ_ _ h'=>h'.tU)) λ_ _ h'=>h'.tU);cases ok with|false=>exact n6 {rfl,cK}|true =>exact nR (nR (v4 cK (λx eB iZ=>nR (v4 iZ (λ_ gP i4=>n6 (n6 {rfl,i4})) λ_ _ h'=>h'.tU)) λ_ _ h'=>h'.tU))
structure Nb(fn sc:Scope):Prop where
 kind:sc.kind=.function
 yO:∀y∈sc.uq,y.2≠.wI
 loc:∀y∈sc.uq,y.2=.local->sc.uq.t7 y.1=p' .local
 fr:∀y∈sc.uq,y.2=.vK->fn.uq.t7 y.1=p' .wI\/fn.uq.t7 y.1=p' .vK
def Fh (fn sc:Scope):uz :=
 decide (sc.kind=.function)&&sc.uq.all λy=>decide (y.2≠.wI)&&(decide (y.2≠.local)||decide (sc.uq.t7 y.1=p' .local)) &&
  (decide (y.2≠.vK)||decide (fn.uq.t7 y.1=p' .wI)||decide (fn.uq.t7 y.1=p' .vK))
def J8(h:Fh fn sc=true):Nb fn sc:=by
 unfold Fh at h;rw[oB,pH]at h;let{h1,h2}:=h;refine{oy h1,λy hy=>?_,λy hy e=>?_,λy hy e=>?_}
 all_goals
  have q:=h2 y hy;rw[oB,oB]at q;let{ {q1,q2},q3}:=q
 .exact oy q1
 .rw[pW]at q2;rcases q2 with q|q
  .exact uD e (oy q)
  .exact oy q
 .rw[pW,pW]at q3;rcases q3 with(q|q)|q
  .exact uD e (oy q)
  .exact .uW (oy q)
  .exact .uK (oy q)
def Cu{uh:Env}:∀{uq:tH (tO×wG)},
  (uq.tJ λ(n,k)=>if(k==wG.vK&&uh.uR.kind==.function&&uh.wu n==p' .wI)then(n,wG.wI)else(n,k)).t7 x=p' k'->∃k,uq.t7 x=p' k/\(k'=k\/(k=.vK/\k'=.wI))
 | [],h=>by simp at h
 |(n,k)::r,h=>by
  have h:tH.t7 x ((if(k==wG.vK&&uh.uR.kind==.function&&uh.wu n==p' .wI)=true then(n,wG.wI)else(n,k))::_)=p' k':=h;cases hx:x==n with
  |true =>
   refine{k,by simp[pf,hx],?_};by_cases hc:(k==wG.vK&&uh.uR.kind==.function&&uh.wu n==p' .wI)=true
   .rw[tW hc]at h;simp![pf,hx]at h;cases h;rw[oB,oB]at hc;exact .uK {beq_iff_eq.mp hc.1.1,rfl}
   .rw[ug hc]at h;simp![pf,hx]at h;cases h;exact .uW rfl
  |false =>
   let{k0,e1,e2}:=Cu (by
    by_cases hc:(k==wG.vK&&uh.uR.kind==.function&&uh.wu n==p' .wI)=true
    .rw[tW hc]at h;simpa only[pf,hx]using h
    .rw[ug hc]at h;simpa only[pf,hx]using h)
   exact{k0,by simp![pf,hx];exact e1,e2}
def Bz (X:Cx)(N:tH tO)(sc:Scope)(cl:tH (tO×tV))(C:tV)(s:ud)(H:Hp)(ex:tH tV):Cx :=
 {X with N:=N,zW:=s,y1:=H,uh:=compEnvC sc cl C X.uh,uY:=X.wA,wA:=X.wA,ex:=ex,fn:=λ_=>false,xe:=λ_ _=>vd}
def Ei (XN:tH tO)(sc:Scope):tH tO->tH (tL tQ)->uz
 | [],[]=>true
 |n::r,none::q=>Ei XN sc r q
 |n::r,p' i::q=>decide (XN[i]?=p' n)&&decide (sc.uq.t7 n=p' .vK)&&Ei XN sc r q
 |_,_=>false
def Fw (U:St)(wP:tH (tL tQ)):St:=wP.tJ λo=>o.u9 λi=>(U[i]?).join
def GV:∀{N:tH tO}{wP:tH (tL tQ)},Ei XN sc N wP=true->wP.fg=N.fg
 | [],[],_=>rfl
 |_::r,none::q,h=>by rw[om,om,GV (wP:=q) h]
 |_::r,p' i::q,h=>by unfold Ei at h;rw[oB]at h;rw[om,om,GV h.2]
 | [],_::_,h=>by cases h
 |_::_,[],h=>by cases h
def Kc:∀{N:tH tO}{wP:tH (tL tQ)}{j i:tQ}{n:tO},Ei XN sc N wP=true->N[j]?=p' n->wP[j]?=p' (p' i)->XN[i]?=p' n/\sc.uq.t7 n=p' .vK
 | [],_,j,i,n,_,h1,_=>by simp at h1
 |_::_,[],j,i,n,_,_,h2=>by simp at h2
 |n0::r,o::q,0,i,n,h,h1,h2=>by simp at h1 h2;subst h1;subst h2;unfold Ei at h;rw[oB,oB]at h;exact{oy h.1.1,oy h.1.2}
 |n0::r,o::q,j+1,i,n,h,h1,h2=>by refine Kc ?_ (by simpa using h1) (by simpa using h2);cases o with|none=>exact h|p' k =>unfold Ei at h;rw[oB]at h;exact h.2
variable{aa:Zao}{U:St}{H:Hp}{fp:List Addr}{N:List Str}{sc:Scope}{cl:List (Str×Addr)}{C:Addr}{src:List (Option Nat)}
def blk_ok(I:uF X aa U H s)(hf:∀b∈fp,Hh X aa H b)(e7:∀b∈fp,b<s.tK.uc.tX)(hS:Nb X.uh.uR sc)(hC:s.tK.uc.tX<=C)
  (b5:∀n c,cl.t7 n=p' c->X.uh.cells.t7 n=p' c) (bW:∀y∈sc.uq,y.2=.vK->∃c,cl.t7 y.1=p' c):(Bz X N sc cl C s H fp).Ok where
 mod:=I.ok.mod
 kind:=hS.kind
 glob:=I.ok.glob
 blt:=I.ok.blt
 above:=hC
 inj:=λx y c h1 h2=>I.ok.inj x y c (b5 _ _ h1) (b5 _ _ h2)
 has:=λx hx=>by
  have vK:∀k',(k'=wG.wI\/k'=wG.vK)->(relabel sc X.uh).uq.t7 x=p' k'->∃c,cl.t7 x=p' c:=λk' hk e=>by
   let{k,e1,e2}:=Cu e;have hm:=PySem.mem_of_lookup e1;exact bW _ hm (by
    rcases e2 with e2|⟨e2,_⟩
    .subst e2;rcases hk with hk|hk
     .exact uD hk (hS.yO _ hm)
     .exact hk
    .exact e2)
  rcases hx with hx|hx
  .exact vK _ (.uW rfl) hx
  .exact vK _ (.uK rfl) hx
 yR:=λx c h _=>uD (show false=true from h) oG
 hd:=I.ok.hd
 v5:=I.ok.v5
 yM:=.uW rfl
 yL:=λb hb=>{oI (oA (e7 b hb) hC),λx c e=>(hf b hb).2.2.2.2.1 x c (b5 x c e)}
 bs:=I.bs
 ze:=oo I.ok.ze I.sz
 zc:=λb o e hb=>by
  rcases(hf b hb).2.2.2.1 with z|z
  .exact I.ok.zc b o e z
  .exact uD (oA (ot e) (oo I.ok.ze z)) (pK _)
 zd:=λb hb hz=>by
  rcases oz.mp (I.Jr b hz)with z|z
  .exact(hf b hb).2.1 z
  .exact(hf b hb).2.2.1 z
 MH:=I.wA
 yW:=I.KR
def Zq(I:uF X aa U H s)(hf:∀b∈fp,Hh X aa H b)(e7:∀b∈fp,b<s.tK.uc.tX)(hS:Nb X.uh.uR sc)
  (b5:∀n c,cl.t7 n=p' c->X.uh.cells.t7 n=p' c) (bW:∀y∈sc.uq,y.2=.vK->∃c,cl.t7 y.1=p' c) (aU:Ei X.N sc N wP=true)
  (hD:s.tK.uc.tX<=D) (hC:s.tK.uc.tX<=C) (gS:D≠C) (hk:∀b o,s.tK.ua b=p' o->h'.ua b=p' o) (hn:h'.Ns C m) (hl:h'.ua D=p' {cls:=.uJ "list",uX:=.seq (#[]:vp tM)}) :
  uF (Bz X N sc cl C s H fp) aa (Fw U wP) (vi H D (.tY [])) {s with tK:=h',vj:=tk}:=by
 have old:∀{b:tV}{o:Obj},s.tK.ua b=p' o->b≠D/\b≠C:=λ{b o} e=>{oI (oA (ot e) hD),oI (oA (ot e) hC)}
 refine{blk_ok I hf e7 hS hC b5 bW,rfl,I.bare,Un.laid hk hD (I.zZ.vJ hD),{m,hn,λj x v e1 e2 e3=>?_},λx c e=>?_,?_,λx c e=>?_,λp hp=>?_,I.zZ.laid hk hD {pB _,[],0,.vO,hl},?_}
 .unfold Fw at e2;rw[oq]at e2;cases q:wP[j]? with
  |none=>rw[q]at e2;cases e2
  |p' o =>
   rw[q]at e2;cases o with
   |none=>cases e2
   |p' i =>
    have fR:(U[i]?).join=p' v:=tL.p'.inj e2;let{g1,g2}:=Kc aU e1 q;let{m0,_,kZ}:=I.loc;have cG:=hS.fr _ (PySem.mem_of_lookup g2) rfl;let{u,ru,lk}:=kZ i x v g1 (by cases r:U[i]? with|none=>rw[r]at fR;cases fR|p' u=>rw[r]at fR;cases u with|none=>cases fR|p' u=>have e5:=fR;cases e5;rfl) (cG.tU (λz=>.uK (.uW z)) λz=>.uK (.uK z));refine{u,ru,.uK {?_,?_} }
    .rcases e3 with e3|e3|e3
     .let{k,r1,r2}:=Cu (show(relabel sc X.uh).uq.t7 x=p' .local from e3);rw[g2]at r1;cases r1;rcases r2 with r2|⟨_,r2⟩<;>cases r2
     .exact .uW e3
     .exact .uK e3
    .let{c,hc}:=bW _ (PySem.mem_of_lookup g2) rfl;refine{c,hc,?_};rcases lk with⟨lk,_⟩|⟨_,c',gT,z⟩
     .rcases cG with z|z
      .have z':X.uh.wu x=p' .wI:=z;rw[lk]at z';cases z'
      .have z':X.uh.wu x=p' .vK:=z;rw[lk]at z';cases z'
     .have:=b5 _ _ hc;rw[gT]at this;cases this;let{o,ho,hd}:=z;exact{o,hk _ _ ho,hd}
 .let{v,o,ho,hd}:=I.wI x c (b5 x c e);exact{v,o,hk _ _ ho,hd}
 .show vi H D (.tY []) C=none;rw[Ap (Ne.symm gS)];exact(I.zZ.vJ hC)
 .let{v,o,ho,hd}:=I.wI x c (b5 x c e);rw[Ap (old ho).1];exact I.zV x c (b5 x c e)
 .let{p1,p2,p3,p4,p5}:=I.pin p hp;refine{hk _ _ p1,by rw[Ap (old p1).1];exact p2,(old p1).2,λz=>?_,p5};rcases oz.mp (I.Jr _ z)with z|z
  .exact p3 z
  .exact p4 z
 .show(Fw U wP).fg=N.fg;unfold Fw;rw[nU];exact GV aU
def V7 (X:Cx)(bj:tH v7)(t:TT):Prop :=
 ∀(aa:Zao)(s:ud)(U:St)(H:Hp)(Q:uz->Hp->Prop),uF X aa U H s->t U H Q ->
  ue (uf X.ub X.w) X.A (forIn bj true λc r=>if r=true then do let ok <- isTrue c X.uh (wD c X.uh);wx (ForInStep.yield ok)else wx (ForInStep.yield r)) (TP X aa U Q) X.xe s
def tYes :TT:=λ_ H Q=>Q true H
def Sz:V7 X [] tYes:=λaa s U H Q I h=>n6 {H,I,h}
def Sx(h:PT X c t):V7 X [c] t:=by intro aa s U H Q I q;rw[tH.forIn_cons];refine nR (nR (wo (h aa s U H Q I q) λb s1 q1=>n6 ?_));exact n6 q1
def compW (J:It)(g:TG)(tt:TT)(te:TE)(Q:VK)(ji:St)(H1:Hp):Prop:=∀D,H1 D=none ->
 ∃W:tQ->tQ->St->Hp->Prop,(∃m,W 0 m ji (vi H1 D (.tY [])))/\∀i m τ H2,W i m τ H2 ->
  (J.stop i H2/\Q (.t8 D) H2)\/(J.go i H2/\∃N:St->Hp->Prop,(∀fO H',N fO H'->∃m',m'<m/\W (i+1) m' fO H')/\∀x H3,J.yV i H2 x H3->g x τ H3 λbM H4=>tt bM H4 λb H5 =>if b=true then te bM H5 λy H6=>∃ys,H6 D=p' (.tY ys)/\ys.fg<t9/\N bM (vi H6 D (.tY (ys++[y])))else N bM H5)
def WB (wP:tH (tL tQ))(wi:TI)(g:TG)(tt:TT)(te:TE):TE:=λU H Q=>wi U H λJ H1=>compW J g tt te Q (Fw U wP) H1
variable{tg au bB:Expr}{bj:List Expr}{pos:Pos}{wi:TI}{g:TG}{tt:TT}{te:TE}
def MV(aJ:X.calm=true)(hS:Nb X.uh.uR sc)(aU:Ei X.N sc N wP=true)
  (hg:∀cl C s H fp,PG (Bz X N sc cl C s H fp) tg g) (ht:∀cl C s H fp,V7 (Bz X N sc cl C s H fp) bj tt) (he:∀cl C s H fp,PE (Bz X N sc cl C s H fp) bB te)
  {RR:tM->tV->Result->ud->Prop}
  (b5:∀n c,cl.t7 n=p' c->X.uh.cells.t7 n=p' c) (bW:∀y∈sc.uq,y.2=.vK->∃c,cl.t7 y.1=p' c)
  (I:uF X aa U H s) (T:Turn X.ub X.w X.K tg J fp it tn) (t0:tn 0 s.tK) (hf:∀b∈fp,Hh X aa H b) (hw:compW J g tt te Q (Fw U wP) H)
  (hR:∀(D C:tV)(s':ud)(τ:St)(H':Hp)(m:Zsv),s.tK.uc.tX<=C->s'.tK.Ns C m->uF (Bz X N sc cl C s H fp) aa τ H' s'->(∀b∈fp,H' b=none)->Q (.t8 D) H'->RR (.t8 D) C (.ok .next) s') :
  ue (uf X.ub X.w) X.A (newList []) (λar aS=>ue (uf X.ub X.w) X.A (newFunctionEnv sc X.uh.globals cl [] X.uh.qual none .none (p' X.uh)) (λfP eB =>codeAny (uf X.ub X.w) X.A (.compStart (.ListComp bB [{tg,au,bj,0}] sc uG) 0 (.t8 it) ar {fP with uR:=relabel sc X.uh}) (RR ar fP.vX) eB) E aS) E s:=by
 have e7:∀b∈fp,b<s.tK.uc.tX:=λb hb=>by let{o,e,_}:=T.obj 0 _ t0 b hb;exact ot e
 refine wR (wpAny_newFunctionEnv hS.yO (by intro y hy;simp at hy) (λaN dj b8=>?_) hS.kind);generalize hH2:s.tK.vY {cls:=.uJ "list",dict:=none,uX:=.seq ([]:tH tM).tZ}=H2 at dj b8 ⊢;have hC:H2.uc.tX=s.tK.uc.tX+1:=by rw[<- hH2,pA]
 have gS:s.tK.uc.tX≠H2.uc.tX:=by rw[hC];exact oI (qM _)
 have dG:s.tK.uc.tX<=H2.uc.tX:=by rw[hC];exact tQ.le_succ _
 have old:=λb o e=>b8.extBut b o (oI (oA (ot e) dG)) (nY _ (hH2▸nY _ e))
 let{W,{m0,w0},turn}:=hw s.tK.uc.tX (I.zZ.vJ (oh _));have Y0:uF (Bz X N sc cl H2.uc.tX s H fp) aa (Fw U wP) (vi H s.tK.uc.tX (.tY [])) {s with tK:=aN,vj:=s.vj+([]:tH (tO×tM)).fg} :=
  Zq I hf e7 hS b5 bW aU (oh _) dG gS old dj (b8.extBut _ _ gS (nY _ (hH2▸oi _ rfl)))
 have t1:tn 0 aN:=T.keep 0 _ _ t0 λb _ o e=>old b o e
 have cf:∀{H':Hp},(∀b∈fp,H' b=none)->∀b∈fp,Hh (Bz X N sc cl H2.uc.tX s H fp) aa H' b:=λ{H'} hn b hb =>{hn b hb,oI (oA (e7 b hb) dG),Y0.ok.zd b hb,.uW hb,(Y0.ok.yL b hb).2,(hf b hb).2.2.2.2.2}
 have loop:∀aS:ud,aS={s with tK:=aN,vj:=s.vj+([]:tH (tO×tM)).fg} ->
   codeAny (uf X.ub X.w) X.A (.compLoop (.ListComp bB [{tg,au,bj,0}] sc uG) 0 (.t8 it) (.t8 s.tK.uc.tX) (compEnvC sc cl H2.uc.tX X.uh)) (RR (.t8 s.tK.uc.tX) H2.uc.tX) aS:=by
  rintro aS rfl
  refine J9 (λn s'=>∃i τ H',uF (Bz X N sc cl H2.uc.tX s H fp) aa τ H' s'/\tn i s'.tK/\(∀b∈fp,H' b=none)/\W i n τ H') ?_ m0 {0,_,_,Y0,t1,(λb hb=>by
  rw[Ap (oI (e7 b hb))];exact(hf b hb).1),w0}
  intro n s4 {i,τ,H4,I4,t4,fr4,w4}
  rcases turn i n τ H4 w4 with⟨stop,qn⟩|⟨go,Nx,hNx,step⟩
  .refine wo (T.done (Bz X N sc cl H2.uc.tX s H fp) rfl rfl rfl aJ i aa s4 τ H4 _ I4 (cf fr4) t4 stop) λr s5 {hr,I5}=>?_
   subst hr;let{m5,k4,_}:=I5.loc;exact hR _ _ s5 τ H4 m5 dG k4 I5 fr4 qn
  .refine wo (T.item (Bz X N sc cl H2.uc.tX s H fp) rfl rfl rfl aJ i aa s4 τ H4 _ I4 (cf fr4) t4 go) λr s5 {u,hr,h5}=>?_
   subst hr;refine wo h5 λ_ s6 aj=>?_
   let{x,H6,I6,r6,y6,je,kE}:= aj;have again:∀{eC:St}{H7:Hp}{s7:ud}{m':tQ},uF (Bz X N sc cl H2.uc.tX s H fp) (aa++JF fp s6.tK) eC H7 s7->m'<n->W (i+1) m' eC H7 ->
     ∃m,m<n/\∃i τ H',uF (Bz X N sc cl H2.uc.tX s H fp) aa τ H' s7/\tn i s7.tK/\(∀b∈fp,H' b=none)/\W i m τ H':=λ{eC H7 s7 m'} I7 hm w7=>by
    refine{m',hm,i+1,eC,H7,I7.FG,T.keep _ _ _ je λb hb o e=>(I7.pin (b,o) (o8 _ (o8 _ (DO hb e)))).1,λb hb=>?_,w7};let{o,e,d}:=T.obj _ _ je b hb;exact(I7.pin (b,o) (o8 _ (o8 _ (DO hb e)))).2.1
   refine wo (hg cl H2.uc.tX s H fp _ s6 τ H6 x u _ (I6.pinned (cf kE) (T.obj _ _ je)) r6 (step x H6 y6)) λ_ s7 aj=>?_
   let{eC,H7,I7,q7}:= aj;refine wo (ht cl H2.uc.tX s H fp _ s7 eC H7 _ I7 q7) λb s8 aj=>?_
   let{H8,I8,q8}:= aj;cases b with
   |false =>let{m',hm,w8}:=hNx _ _ q8;exact again I8 hm w8
   |true =>
    refine wo (he cl H2.uc.tX s H fp _ s8 eC H8 _ I8 q8) λv s9 aj=>?_
    let{y,H9,I9,r9,ys,kL,hz,w9}:= aj;let{m',hm,w9}:=hNx _ _ w9;refine wo (Gn _ s9 eC H9 (.t8 s.tK.uc.tX) [y] (.t8 s.tK.uc.tX) [v] (λ_ Hn=>W (i+1) m' eC Hn) I9 rfl (.ux r9 .vO) {_,ys,y,rfl,rfl,kL,hz,w9}) λ_ nL aj=>?_
    let{_,mR,j9,_,mO}:= aj;exact again j9 hm mO
 exact codeAny_compStart_list (loop _ rfl) (T.self X.A 0 _ _ _ t1 (loop _ rfl))
def Rc(I:uF X aa U H s)(hf:∀b∈fp,Hh X aa H b)(J:uF (Bz X N sc cl C s H fp) aa τ H' s'):uF X aa U H' s' :=
 I.call' J.os J.uk J.zZ J.bare λb hb=>{(hf b hb).2.2.2.1,(hf b hb).2.1,(hf b hb).2.2.2.2.1,(hf b hb).2.2.2.2.2}
def Zo(I:uF X aa U H s)(hC:s.tK.uc.tX<=C)(hf:∀b∈fp,Hh X aa H b)
  (J:uF (Bz X N sc cl C s H fp) aa τ H' s') (hs:uS.SameBut C s'.tK h'):uF X aa U H' {s' with tK:=h' }:=by
 refine(Rc I hf J).turned (λb o hb e=>hs.extBut b o hb e) J.vK (qG (oA I.lt hC)) (.uK (oo I.sz hC)) (λx c e z=>?_) λp hp z=>?_
 .let{v,q}:=I.wI x c e;exact uD (oA q.lt (by rwa[z])) (pK _)
 .exact uD (oA (ot (I.pin p hp).1) (by rwa[z])) (pK _)
def Xg(N:tH tO)(wP:tH (tL tQ))(aJ:X.calm=true)(hi:PI X tg au wi)(hg:∀cl C s H fp,PG (Bz X N sc cl C s H fp) tg g)(ht:∀cl C s H fp,V7 (Bz X N sc cl C s H fp) bj tt)
  (he:∀cl C s H fp,PE (Bz X N sc cl C s H fp) bB te) (hS:Fh X.uh.uR sc=true:=by rfl) (aU:Ei X.N sc N wP=true:=by rfl)
  (hs:Zfs X.uh au:=by intro _;rfl):PE X (.ListComp bB [{tg,au,bj,0}] sc uG) (WB wP wi g tt te):=by
 intro aa s U H Q I h;have S:=J8 hS;let{cl,gU,b5,bW}:=EE λy hy e=>I.ok.has y.1 (S.fr y hy e)
 refine wpAny_comprehension_free rfl hs gU S.kind S.loc (wo (hi aa s U H _ I h) λv s1 h1=>wo h1 λgZ s2 h2=>?_);let{it,fp,tn,J,H2,e,I2,T,t2,f2,hw}:=h2;subst e;refine MV aJ S aU hg ht he b5 bW I2 T t2 f2 hw λD C s' τ H' m hC hn J' _ q=>?_
 exact{m,hn,λh' lr=>{.t8 D,H',Zo I2 hC f2 J' lr,rfl,q} }
def NB{i:tQ}{y:tO}{aI cc:Pos}(N:tH tO)(wP:tH (tL tQ))(aJ:X.calm=true)(hN:X.N.uA)(fY:X.N[i]?=p' y)(hy:Loc X.uh.uR y)(hi:PI X tg au wi)(hg:∀cl C s H fp,PG (Bz X N sc cl C s H fp) tg g)(ht:∀cl C s H fp,V7 (Bz X N sc cl C s H fp) bj tt)
  (he:∀cl C s H fp,PE (Bz X N sc cl C s H fp) bB te) (hS:Fh X.uh.uR sc=true:=by rfl) (aU:Ei X.N sc N wP=true:=by rfl)
  (hs:Zfs X.uh au:=by intro _;rfl) (gq:swapsWith (.ListComp bB [{tg,au,bj,0}] sc uG) (p' (.uE y aI)) cc.line X.uh=wx true:=by rfl)
  (hf:X.fn y=true\/X.uh.uR.uq.t7 y=p' .local:=by first|exact .uW rfl|exact .uK rfl|assumption) :
  PS X (.Assign [.uE y aI] (.ListComp bB [{tg,au,bj,0}] sc uG) cc) (Jau (WB wP wi g tt te) (TH i)):=by
 intro aa s U H D0 I h;have S:=J8 hS;let{cl,gU,b5,bW}:=EE (sc:=sc) (uh:=X.uh) λy hy e=>I.ok.has y.1 (S.fr y hy e)
 rw[exec_Assign_Name_used _ _ _ _ gq];refine nR (wpAny_standAt (nR ?_));refine nR (v4 (wpAny_comprehension_free (use:=p' (assign (.uE y aI) X.uh)) (Q:=λ_ s'=>SP X aa D0 .next s') rfl hs gU S.kind S.loc
  (wo (hi aa s U H _ I h) λv s1 h1=>wo h1 λgZ s2 h2=>?_)) (λ_ s' hq=>n6 (n6 hq)) λ_ _ e=>e)
 let{it,fp,tn,J,H2,e,I2,T,t2,f2,hw}:=h2;subst e;refine MV aJ S aU hg ht he b5 bW I2 T t2 f2 hw (RR:=λar C=>compPost (uf X.ub X.w) X.A X.xe (p' (assign (.uE y aI) X.uh)) (λ_ s'=>SP X aa D0 .next s') ar C) λD C s' τ H' m hC hn J' _ q=>?_
 have jQ:∀{b:tV}{o:Obj},s2.tK.ua b=p' o->b≠C:=λe=>oI (oA (ot e) hC)
 have cC:∀x c,X.uh.cells.t7 x=p' c->c≠C:=λx c e=>by let{v,o,ho,_}:=I2.wI x c e;exact jQ ho
 have lC:X.uh.vX≠C:=oI (oA I2.lt hC);refine wpAny_assign_Name (Jq (Rc I2 f2 J') hN fY hy (v:=.t8 D) rfl (λs3 I3 aj=>?_) hf);let{a,sb,ha}:= aj;refine{m,hn.sameBut sb (by
  rcases ha with rfl|ha
  .exact Ne.symm lC
  .exact Ne.symm (cC _ _ ha)),λh' bx=>{_,H',I3.turned (it:=C) (t':=s3.vj) (λb o hb e=>bx.extBut b o hb e) J'.vK (Ne.symm lC) (.uK (oo I2.sz hC)) cC (λp hp z=>jQ (I2.pin p hp).1 z),q} }
variable{a:Addr}{xs:List V}{Q:VK}{ji:St}{H1:Hp}
end Lake.L2
namespace PySem
namespace F
end F
variable{prog:Program}{w:World}{A:Around}{s:Shared}{R:Result->Shared->Prop}
variable{I:Addr}{fp wr:List Addr}{G:Array GenState->Array GenState->Prop}{n:Nat}{P:Nat->Value->Prop}{St:Nat->Shared->Prop}
variable{E:Zcv}
end PySem
namespace Lake.L2
open PySem PySem.Spec PyProof.Rows
variable{X:Cx}{aa:Zao}{U:St}{H:Hp}{s:Shared}
variable{a:Expr}{ta:TE}{p1 p2 bo aP:Pos}
def Ut(hc:X.calm=true):B7 X (.uM "sum") (λxs H Q=>∃(l:tV)(ns:tH tN),xs=[.t8 l]/\SqL X.K H l (ns.tJ V.tS)/\Q (.tS ns.sum) H):=by
 intro aa s U H xs us Q I r h;let{l,ns,rfl,hq,q}:=h;let{u,rfl,rx}:=vals1 r;cases rx;let{uU,rv,pl,hz}:=I.list hq;have hi:=intsAre_of rv;let{zs,hx}:=hi.allInts.uL;refine sum_intListG (I.ok.hd hc) (hx▸pl.vU) λh' tk t' hk=>?_
 have e1:ns=zs.uP.tJ (·.1):=by rw[<- nums_intItems,<- hx];exact(show numsOf uU.tZ.uP=ns from hi.numsOf).symm
 have e2:preSum (numAt zs) zs.tX=ns.sum:=by rw[preSum_eq,qR (by simp),e1]
 rw[e2];exact{.tS ns.sum,H,I.kept hk,{_,rfl},q}
def Ej:∀{bs:tH uz}{us:tH tM},vo (bs.tJ V.l) us->us=bs.tJ tM.bool
 | [],_,.vO=>rfl
 |b::bs,_,.ux r t=>by cases(show _=tM.bool b from r);rw[nV,Ej t]
def Ux(hc:X.calm=true):B7 X (.uM "all") (λxs H Q=>∃(l:tV)(bs:tH uz),xs=[.t8 l]/\SqL X.K H l (bs.tJ V.l)/\Q (.l (bs.all id)) H):=by
 intro aa s U H xs us Q I r h;let{l,bs,rfl,hq,q}:=h;let{u,rfl,rx}:=vals1 r;cases rx;let{uU,rv,pl,hz}:=I.list hq;have hb:=Ej rv;have hl:=pl.vU;refine call_all_walk (wpAny_pyIter_list hl ?_);refine{s.tK.uc.tX,[s.tK.uc.tX,l],[s.tK.uc.tX],uU.tZ.tX,_,_,λi=>(bs[i]?).uZ true,rfl,Walks.list (A:=X.A.in1) (I.ok.hd hc) _ l (oI (by let{_,e,_}:=hl;exact ot e)) uU.tZ,
  { {_,oi _ rfl,rfl,rfl},hl.vY _},λi v s' Q' E' hP hQ=>?_,λh' tk hk=>?_}
 .have e:=by simpa using hP
  rw[hb,oq]at e;cases eb:bs[i]? with|none=>rw[eb]at e;cases e|p' b =>rw[eb]at e;have e':=tL.p'.inj e;subst e';simp![eb]at hQ;exact wn hQ
 .have e:((tH.vq uU.tZ.tX).all λi=>(bs[i]?).uZ true)=bs.all id:=by
   have hlen:uU.tZ.tX=bs.fg:=by rw[hb];simp
   rw[hlen];rw[pO,pH,pH];constructor
   .intro hh b hm;let{i,hi,rfl}:=qj hm;have:=hh i (oR.wO hi);simpa[nX hi]using this
   .intro hh i hi;have b7:=oR.mp hi;have:=hh _ (qi b7);simpa[nX b7]using this
  rw[e];exact{.l _,H,I.kept (λb o e=>hk b o (λhm=>by rw[oF.mp hm]at e;exact pK _ (ot e)) (nY _ e)),rfl,q}
def Xq:OpR X (binaryOp .Mult) (rI IntMulOk λi j=>.tS (i*j)):=opI λ_ _ _ _ _ _ _ hc q=>mul_int q hc
def Px:OpR X (binaryOp .Mult) (λx y H Q=>∃z n,x=.str z/\y=.tS n/\MulOk z n/\Q (.str (Txt.mul z n)) H):=by intro aa s U H x y v u Q I rx ry h;let{z,n,rfl,rfl,zZ,q}:=h;let{t,rfl}:=rx;let{t',rfl}:=ry;exact SB.mul zZ λt' k=>{.str _,H,I.tok _,{_,rfl},q}
def Gg:∀{ys:tH tO}{us:tH tM},vo (ys.tJ V.str) us->StrsAre us ys
 | [],_,.vO=>.vO
 |y::ys,_,.ux r t=>by
  let{tk,rfl}:=(show ∃tk,_=tM.str y tk from r)
  exact .ux _ _ (Gg t)
def XQ:MtR X "str.join" (λx xs H Q=>∃(z:tO)(l:tV)(ys:tH tO),x=.str z/\xs=[.t8 l]/\SqL X.K H l (ys.tJ V.str)/\(ys.tJ (·.fg)).sum+ys.fg*z.fg<=16777216/\Q (.str (Txt.join z ys)) H):=by intro aa s U H x xs v us Q I rx rv h;let{z,l,ys,rfl,rfl,hq,zZ,q}:=h;let{t,rfl}:=rx;let{u,rfl,ru}:=vals1 rv;cases ru;let{uU,r,pl,hz}:=I.list hq;exact join_list pl.vU (Gg r) zZ λt' k=>{.str _,H,I.tok _,{_,rfl},q}
def Itrs (lo st:tN)(n:tQ):It:={λi _=>i<n,λi H x H'=>H'=H/\x=.tS (lo+i*st),λi _=>n<=i}
def KJ{P:wf}{w:wK}{K:Fg}{tg:v7}(it:tV)(lo st:tN)(n:tQ):Turn P w K tg (Itrs lo st n) [it] it (λi h=>IsRangeIter h it (lo+(i:tQ)*st) ((n:tN)-(i:tQ)) st) where
 mem:=by simp
 obj:=λi h st b hb=>by
  have e:b=it:=by simpa using hb
  subst e;exact{_,st,λv z=>by have z':Data.vt _=Data.wI v:=z;cases z'}
 keep:=λi h h' st k=>k it (by simp) _ st
 item:=by
  intro X hP hw hK hc i aa s U H E I hf mH hg;subst hP hw hK;let{f0,f1,f2,f3,f4,f5}:=hf it (by simp);have W:=Walks.vq (ub:=X.ub) (w:=X.w) (I.ok.hd hc) it lo st n;refine W.item i s _ _ hg mH λv h' tk hv aZ kk=>?_
  let{t,rfl}:=hv;have I1:uF X aa U H {s with tK:=h',vj:=tk}:=I.turned (λb o hb e=>kk b o (by simpa using hb) e) f0 f1 f3 f4 f5;exact{_,rfl,Ld (s:={s with tK:=h',vj:=tk}) (n:="range_iterator") aZ rfl rfl ZB {.tS (lo+i*st),H,I1,{t,rfl},{rfl,rfl},aZ,λb hb=>(hf b hb).1} }
 done:=by intro X hP hw hK hc i aa s U H E I hf st hg;subst hP hw hK;let{f0,f1,f2,f3,f4,f5}:=hf it (by simp);exact wpAny_pyNext_range_end (I.ok.hd hc) st (by have:n<=i:=hg;lia) λh' eb=>{rfl,I.turned (t':=s.vj) (λb o hb e=>eb b o hb e) f0 f1 f3 f4 f5}
 self:=λ_ _ _ _ _ st h=>wpAny_pyIter_rangeiter st h
def Jca (ta:TA):TI:=λU H R=>ta U H λvs H1=>∃i j c:tN,vs=[.tS i,.tS j,.tS c]/\0<c/\c<1073741824/\t6.Range.small i j c=true/\0<=t6.Range.ww i j c/\R (Itrs i c (t6.Range.ww i j c).uw) H1
variable{tg:Expr}
def Pn{b c:v7}{ta:TA}{p uG:Pos}(hg:Gl X "range")(hm:X.mg "range"=none)(ha:PA X [a,b,c] ta)(hs:vD [a,b,c] X.uh=[(false,wD a X.uh),(false,wD b X.uh),(false,wD c X.uh)]:=by rfl)
  (bh:Zs2 X.uh b c:=by rfl):PI X tg (.vM (.uE "range" p) [a,b,c] [] uG) (Jca ta):=by
 intro aa s U H R I h;refine Call_ (Dc I hg hm boot_range (wF (wo (ha uG aa s U H _ I h) λus s1 aj=>?_) (by rw[hs,bh]) (by rw[bh];rfl)));let{vs,H1,I1,r1,q1}:= aj;let{i,j,k,e,h0,hk,lA,hn,q}:=q1;subst e;cases r1 with
 |ux r rr =>
  cases rr with
  |ux r' rr =>
   cases rr with
   |ux r'' rr =>
    cases rr;let{t,rfl}:=r;let{t',rfl}:=r';let{h9,rfl}:=r'';refine call_range_3 (by lia) ?_ (.uW (PyProof.noPylong_small (by lia)));refine wpAny_pyIter_range (IsRange.new ..) lA ?_;have I2:uF X aa U H1 {s1 with tK:=s1.tK.vY {cls:=.uJ "range",uX:=.vt #[.tS i t,.tS j t',.tS k h9]},vj:=s1.vj}:=I1.kept λb o e=>nY _ e
    refine{(s1.tK.vY {cls:=.uJ "range",uX:=.vt #[.tS i t,.tS j t',.tS k h9]}).uc.tX,[(s1.tK.vY {cls:=.uJ "range",uX:=.vt #[.tS i t,.tS j t',.tS k h9]}).uc.tX],_,_,H1,rfl,
     I2.kept (t':=s1.vj) λb o e=>nY _ e,KJ _ i k (t6.Range.ww i j k).uw,?_,λb hb=>?_,q}
    .have e1:i+((0:tQ):tN)*k=i:=by simp
     have e2:(((t6.Range.ww i j k).uw:tQ):tN)-((0:tQ):tN)=t6.Range.ww i j k:=by lia
     show IsRangeIter _ _ (i+((0:tQ):tN)*k) ((((t6.Range.ww i j k).uw:tQ):tN)-((0:tQ):tN)) k;rw[e1,e2];exact oi _ rfl
    .have e:b=(s1.tK.vY {cls:=.uJ "range",uX:=.vt #[.tS i t,.tS j t',.tS k h9]}).uc.tX:=by simpa using hb
     subst e;exact I2.RG (oh _) (I2.zZ.vJ (oh _))
def Its (z:tO):It:={λi _=>i<z.cps.tX,λi H x H'=>H'=H/\∃c,z.cps[i]?=p' c/\x=.str {#[c]},λi _=>z.cps.tX<=i}
def Jcm(hQ:Q () s):ue M A (letOwnedTupleGo tg it (.str x t)) Q E s:=by
 cases tg<;>first
  |exact n6 hQ
  |(cases it<;>exact n6 hQ)
def RW{K:Fg}(it:tV)(ty:wb)(z:tO)(t:Tok)(b9:ty="str_ascii_iterator"\/ty="str_iterator"):Turn P w K tg (Its z) [it] it (λi h=>h.IsStrIter it ty z t i) where
 mem:=by simp
 obj:=λi h st b hb=>by
  have e:=by simpa using hb
  subst e;let{o,e,c,d}:=st;exact{o,e,λv z=>by rw[d]at z;cases z}
 keep:=λi h h' st k=>by let{o,e,c,d}:=st;exact{o,k it (by simp) o e,c,d}
 item:=by
  intro X hP hw hK hc i aa s U H E I hf st hg;subst hP hw hK;let{f0,f1,f2,f3,f4,f5}:=hf it (by simp);have aO:∀(v:tM)(h':uS)(tk:tQ),SignAt z i v->h'.IsStrIter it ty z t (i+1)->(∀b o,b∉[it]->s.tK.ua b=p' o->h'.ua b=p' o) ->
    ∃u,p' v=p' u/\ue (uf X.ub X.w) X.A (letOwnedTupleGo tg (.t8 it) u) (λ_ s2=>∃x H',uF X aa U H' s2/\vg x u/\(Its z).yV i H x H'/\s2.tK.IsStrIter it ty z t (i+1)/\∀b∈[it],H' b=none) E {s with tK:=h',vj:=tk}:=λv h' tk hv aZ kk=>by
   let{c,u,fF,rfl}:=hv;exact{_,rfl,Jcm {.str {#[c]},H,(I.turned (λb o hb e=>kk b o (by simpa using hb) e) f0 f1 f3 f4 f5),{u,rfl},{rfl,c,fF,rfl},aZ,λb hb=>(hf b hb).1} }
  rcases b9 with rfl|rfl
  .exact(Walks.strAscii (I.ok.hd hc) it z t).item i s _ _ hg st aO
  .exact(Walks.strWide (I.ok.hd hc) it z t).item i s _ _ hg st aO
 done:=by
  intro X hP hw hK hc i aa s U H E I hf st hg;let{f0,f1,f2,f3,f4,f5}:=hf it (by simp);have hz:=vp.getElem?_eq_none hg;rcases b9 with rfl|rfl
  .exact wpAny_pyNext_ascii_end (I.ok.hd hc) st hz λh' iK=>{rfl,I.turned (λb o hb e=>iK b o hb e) f0 f1 f3 f4 f5}
  .exact wpAny_pyNext_wide_end (I.ok.hd hc) st hz λh' iK=>{rfl,I.turned (λb o hb e=>iK b o hb e) f0 f1 f3 f4 f5}
 self:=λ_ _ _ _ _ st h=>by
  rcases b9 with rfl|rfl
  .exact wpAny_pyIter_striter_ascii st h
  .exact wpAny_pyIter_striter_wide st h
variable{a:Addr}{xs:List V}{g:TG}{te:TE}{Q:VK}{ji:St}{H1:Hp}
section
variable{K:Fg}
end
section
variable(K:Fg)
end
def PM:MtM X "list.pop" (λx vs H Q=>∃l e z,x=.t8 l/\vs=[]/\H l=p' (.tY (e++[z]))/\Q z (vi H l (.tY e))):=by intro aa s U H x vs v us Q I rx rv h;let{l,e,z,rfl,rfl,hH,q}:=h;refine JbE aa s U H _ _ v us Q I rx rv {l,e++[z],z,rfl,rfl,hH,by simp,?_};rwa[qf]
structure FnAt(P:wf)(w:wK)(K:Fg)(mg:Zsv)(uk:uS)(CX:CXT)(x:tO)(k:tQ)(ps:tH tO)(sp:Sp):Prop where
 ex:∃f fd,Fm P w K mg uk CX k f fd ps sp/\mg x=p' (.t8 f)/\keepIn K (.t8 f)=true/\Binds K fd ps []
variable{CX:CXT}{k:Nat}{ps:List Str}{sp:Sp}{E:XK}{x:Str}{p pos:Pos}{e:Expr}{es:List Expr}{t:TA}
def pe_gI(h:∃t,X.mg x=p' (.tS i t))(hg:Gl X x:=by rfl)(hd:Zdb x:=by decide):PE X (.uE x uG) (tC (.tS i)):=by let{t,h}:=h;exact Pr hg h {t,rfl} hd
def pe_gS(h:∃t,X.mg x=p' (.str z t))(hg:Gl X x:=by rfl)(hd:Zdb x:=by decide):PE X (.uE x uG) (tC (.str z)):=by let{t,h}:=h;exact Pr hg h {t,rfl} hd
def Qb{k}(h:Ha k v=true):vg (kV k) v:=by
 rcases A9 h with⟨i,t,rfl,rfl⟩|⟨x,t,rfl,rfl⟩
 .exact{t,rfl}
 .exact{t,rfl}
def Jk(r:KV ag vs)(h:ItemsOf (λi v=>∃k x,vs[i]?=p' (k,x)/\Ha k v=true) ar vs.fg):vo (ag.tJ λkv=>kV kv.1) ar.uP:=by
 let{h1,h2}:=h;have key:∀(ag:tH (vc×V))(vs:tH (vc×tM))(l:tH tM),KV ag vs->l.fg=vs.fg->(∀(j:tQ)(v:tM),l[j]?=p' v->∃k x,vs[j]?=p' (k,x)/\Ha k v=true)->vo (ag.tJ λkv=>kV kv.1) l:=by
  intro ag
  induction ag with
  |vO =>intro vs l r hl _;cases r;have:=qz (by simpa using hl);subst this;exact .vO
  |ux p ag ih =>
   intro vs l r hl hh;cases r with
   |@ux _ q _ vr e t =>
    cases l with
    |vO=>simp at hl
    |ux v l =>
     let{k,x,e1,e2}:=hh 0 v rfl;refine .ux ?_ (ih vr l t (by simpa using hl) λj w hw=>?_)
     .have:p.1=k:=by rw[e.1,(tL.p'.inj e1)]
      show vg (kV p.1) v;rw[this];exact Qb e2
     .exact hh (j+1) w hw
 exact key ag vs ar.uP r (by rwa[pX]) λj v e=>h2 j v (by rwa[<- vp.getElem?_toList])
structure Zz(P:wf)(w:wK)(K:Fg)(mg:Zsv)(uk:uS)(CX:CXT)(C:tV)(m:tO)(k:tQ)(ps:tH tO)(sp:Sp):Prop where
 cl:Cls K C
 ex:∃f fd,Fm P w K mg uk CX k f fd ps sp/\Meth K C m f/\Binds K fd ps []
structure MkAt(P:wf)(w:wK)(K:Fg)(mg:Zsv)(uk:uS)(CX:CXT)(x:tO)(C:tV)(k:tQ)(ps:tH tO)(sp:Sp):Prop where
 at_:mg x=p' (.t8 C)
 ex:∃f fd,Fm P w K mg uk CX k f fd ps sp/\Mk K C f/\Binds K fd ps []
variable{C:Addr}{m:Str}{aw:Pos}{o:Expr}
def Jbe(G:Zz X.ub X.w X.K X.mg X.uk CX C m k ps sp)(hr:Di k X.A)(hx:Passes CX X E)(he:PE X o ta)
  (ht:wD (.vM (.ut o m aw) [] [] uG) X.uh=(do
   let ov <- wD o X.uh
   standAt aw.atName
   let(f,first) <- holding [ov] (getMethod ov m pl)
   callWith uG f first (backTo uG (vD [] X.uh)) (backToKw uG (keywordEach [] X.uh))):=by rfl) :
  PE X (.vM (.ut o m aw) [] [] uG) (Wy C m sp [] E ta Jal):=by
 let{f,fd,F,hm,hb}:=G.ex;exact SJ he G.cl hm F hr hb .vO hx ht
def pe_mk(G:MkAt X.ub X.w X.K X.mg X.uk CX x C k ps sp)(hr:Di (k+1) X.A)(hx:Passes CX X E)(ha:PA X (e::es) t)(hg:Gl X x:=by rfl)(aY:Zdb x:=by decide)
  (he:Zsc X.uh e es:=by rfl) (aG:Zbt X.uh uG es:=by rfl):PE X (.vM (.uE x p) (e::es) [] uG) (Jao C sp [] E t):=by
 let{f,fd,F,M,hb}:=G.ex;exact Xe M F hr hg G.at_ hb .vO hx ha aY he aG
def orR (r r':R2):R2:=λx y H Q=>r x y H Q\/r' x y H Q
def OpR.orR(h:OpR X f r)(h':OpR X f r'):OpR X f (orR r r'):=λaa s U H x y v u Q I rx ry q=>q.tU (h aa s U H x y v u Q I rx ry) (h' aa s U H x y v u Q I rx ry)
def IxR.orR(h:IxR X r)(h':IxR X r'):IxR X (L2.orR r r'):=λvalue aC aa s U H x y v u Q I rx ry q e=>q.tU (λq=>h value aC aa s U H x y v u Q I rx ry q e) (λq=>h' value aC aa s U H x y v u Q I rx ry q e)
inductive JaL(x:V)(y:V)(H:Hp)(Q:VK):Prop
 |mk (a v:_) (h0:x=.t8 a) (h1:Kz H a y (p' v)) (h2:Q v H)
inductive rDIn(neg:uz)(y:V)(x:V)(H:Hp)(Q:VK):Prop
 |mk (a o:_) (h0:x=.t8 a) (h1:Kz H a y o) (h2:Q (.l (if neg then !o.u8 else o.u8)) H)
def Vr(hu:X.A.vF+1<wc):OpR X (u0 .In) (rDIn false):=by intro aa s U H y x v u Q I ry rx h;let{a,o,rfl,g,q}:=h;obtain rfl:u=tM.t8 a:=rx;exact d_in hu I g ry λs3 I3=>{.l o.u8,H,I3,rfl,q}
def Py(hu:X.A.vF+1<wc):OpR X (u0 .NotIn) (rDIn true):=by intro aa s U H y x v u Q I ry rx h;let{a,o,rfl,g,q}:=h;obtain rfl:u=tM.t8 a:=rx;exact Y6 hu I g ry λs3 I3=>{.l (!o.u8),H,I3,rfl,q}
def Yc(hu:X.A.vF+1<wc):IxR X JaL:=by
 intro value aC aa s U H x y v u Q I rx ry h hs;let{a,w,rfl,g,q}:=h;obtain rfl:v=tM.t8 a:=rx;have hT:=GL I g;refine nR ?_;refine nR (wq hT PySem.F.slot_dict_getitem.t7 ?_);have aO:ue (uf X.ub X.w) X.A (subscripted aC false (.t8 a) u) (λr aS=>ue (uf X.ub X.w) X.A (letTemporaryGo value (.t8 a) r >>= λ_=>wx r) (EP X aa U Q) X.xe aS) X.xe s:=by rw[hs];exact wpAny_operating (v4 (J6 hu I g ry λw' s3 I3 bU=>{w,H,I3,bU,q}) (λr aS cK=>nR (wpAny_letTemporaryGo (n6 cK))) λ_ _ x=>x)
 first
  |exact n6 (nR aO)
  |exact nR (n6 (nR aO))
  |exact nR aO
def Jbk (r r':TSet):TSet:=λo i v H Q=>r o i v H Q\/r' o i v H Q
def UH.orR(h:UH X r)(h':UH X r'):UH X (Jbk r r'):=λaa s U H o i v ov iv u Q I r1 r2 r3 q=>q.tU (h aa s U H o i v ov iv u Q I r1 r2 r3) (h' aa s U H o i v ov iv u Q I r1 r2 r3)
inductive WS(o:V)(i:V)(v:V)(H:Hp)(Q:Hp->Prop):Prop
 |mk (a H4:_) (h0:o=.t8 a) (h1:Oh H a i v H4) (h2:Q H4)
def set_dict(hu:X.A.vF+1<wc):UH X WS:=by intro aa s U H o i v ov iv u Q I ro ri rv h;let{a,H4,rfl,g,q}:=h;obtain rfl:ov=tM.t8 a:=ro;exact J5 hu I g ri rv λs4 I4=>{H4,I4,q}
def Vo (r r':tH V->Hp->VK->Prop):tH V->Hp->VK->Prop:=λvs H Q=>r vs H Q\/r' vs H Q
def B7.orR(h:B7 X f r)(h':B7 X f r'):B7 X f (Vo r r'):=λaa s U H xs us Q I rx q=>q.tU (h aa s U H xs us Q I rx) (h' aa s U H xs us Q I rx)
def orMt (r r':V->tH V->Hp->VK->Prop):V->tH V->Hp->VK->Prop:=λx vs H Q=>r x vs H Q\/r' x vs H Q
def MtR.orR{id:wb}(h:MtR X id r)(h':MtR X id r'):MtR X id (orMt r r'):=λaa s U H x xs v us Q I rx rs q=>q.tU (h aa s U H x xs v us Q I rx rs) (h' aa s U H x xs v us Q I rx rs)
def iSeq (K:Fg)(tl:TE):TI:=λU H R=>tl U H λx H1=>(∃a,x=.t8 a/\(∃xs,SqL K H1 a xs)/\R (Itl K a) H1)\/(∃a,x=.t8 a/\(∃xs,SqT K H1 a xs)/\R (Itt K a) H1)\/(∃z,x=.str z/\R (Its z) H1)
def Ja6(hl:PE X l tl):PI X tg l (iSeq X.K tl):=by
 intro aa s U H R I h;have key:∀(x:V)(H1:Hp)(v:tM)(s1:ud),uF X aa U H1 s1->vg x v->((∃a,x=.t8 a/\(∃xs,SqL X.K H1 a xs)/\R (Itl X.K a) H1)\/(∃a,x=.t8 a/\(∃xs,SqT X.K H1 a xs)/\R (Itt X.K a) H1)\/(∃z,x=.str z/\R (Its z) H1)) ->
   ue (uf X.ub X.w) X.A (pyIter v) (PIE X aa U tg R) X.xe s1:=by
  intro x H1 v s1 I1 r1 q1;rcases q1 with⟨a,e,⟨xs,hq⟩,q⟩|⟨a,e,⟨xs,hq⟩,q⟩|⟨z,e,q⟩
  .subst e;cases r1;let{uU,rv,p,hz}:=I1.list hq;refine wpAny_pyIter_list p.vU ?_;refine{s1.tK.uc.tX,[s1.tK.uc.tX],_,_,H1,rfl,I1.kept λb o e=>nY _ e,Oy a _,{_,oi _ rfl,rfl,rfl},λb hb=>?_,q};have e:=by simpa using hb
   subst e;exact I1.RG (oh _) (I1.zZ.vJ (oh _))
  .subst e;cases r1;let{uU,rv,p,hz}:=I1.wz hq;refine wpAny_pyIter_tuple (show s1.tK.IsTuple a uU.tZ from p) ?_;refine{s1.tK.uc.tX,[s1.tK.uc.tX],_,_,H1,rfl,I1.kept λb o e=>nY _ e,Nh a _,{_,oi _ rfl,rfl,rfl},λb hb=>?_,q};have e:=by simpa using hb
   subst e;exact I1.RG (oh _) (I1.zZ.vJ (oh _))
  .subst e;let{t,rfl}:=r1;have go:∀(ty:wb),(ty="str_ascii_iterator"\/ty="str_iterator")->PIE X aa U tg R (.t8 s1.tK.uc.tX) {s1 with tK:=s1.tK.vY {cls:=.uJ ty,uX:=.vt #[.str z t,.tS 0 0]} }:=λty b9=>by
    refine{s1.tK.uc.tX,[s1.tK.uc.tX],_,_,H1,rfl,I1.kept λb o e=>nY _ e,RW _ ty z t b9,{_,oi _ rfl,rfl,rfl},λb hb=>?_,q};have e:=by simpa using hb
    subst e;exact I1.RG (oh _) (I1.zZ.vJ (oh _))
   cases ha:z.cps.all (·<128)
   .exact wpAny_pyIter_wide ha (go _ (.uK rfl))
   .exact wpAny_pyIter_ascii ha (go _ (.uW rfl))
 refine wo (hl aa s U H _ I h) λv s1 aj => ?_
 let{x,H1,I1,r1,q1}:= aj;exact key x H1 v s1 I1 r1 q1
end Lake.L2
namespace PySem
namespace Zp
def Rz :uz->uS->tV->tV->tQ->Prop
 |true,h,it,l,k=>h.IsTupleIter it l k
 |false,h,it,l,k=>h.IsListIter it l k
def KA :uz->uS->tV->vp tM->Prop
 |true,h,l,xs=>h.IsTuple l xs
 |false,h,l,xs=>h.IsList l xs
abbrev Stop(h:uS)(e:tV):Prop:=∃o,h.ua e=p' o/\o.cls=.uJ "StopIteration"
variable{prog:Program}{w:World}{A:Around}{E Q:Zcv}{s:Shared}{it t l:Addr}{k:Nat}{xs:Array Value}{b:Bool}{h h':Heap}
variable{n l1 l2:Nat}{b1 b2:Bool}{ys:Array Value}
def Ug(hh:A.wp=none)(hit:s.tK.IsTupleIter it t k)(ht:s.tK.IsTuple t xs)(hQ:∀x h',xs[k]?=p' x->h'.IsTupleIter it t (k+1)->uS.SameBut it s.tK h'->Q x {s with tK:=h' })
  (hE:xs[k]?=none->∀h' e,uS.ExtBut it s.tK h'->Stop h' e->E (.t8 e) {s with tK:=h' }):ue (uf ub w) A (t6.SmallTypes.nextOf (.t8 it)) Q E s:=by
 let{ {_,cls,_,_},ho,hc,hd}:=id hit;let{ {_,_,_,_},ny,_,nl,kS}:=ht;subst hc hd kS;let{hp,g,d,tk,os}:=s;refine nR (wpAny_callSpecial?_slot hit.wM F.slot_tuple_iterator_next (v9 F.slot_tuple_iterator_next hit.wM F.entry_tuple_iterator_next ?_ (F.args_tuple_iterator_next_1 _)))
 wp_walk
 rw[qv];cases hx:xs[k]?
 .wp_walk
  unfold raiseNew
  wp_walk
  refine hE hx _ _ (((uS.SameBut.update ..).extBut.vY _).vY _) ?_;exact{_,oi _ rfl,rfl}
 .wp_walk
  exact{_,rfl,n6 (hQ _ _ hx {_,pG _ ho rfl,rfl,rfl} (uS.SameBut.update ..))}
def draw(hh:A.wp=none)(hit:Rz b s.tK it l k)(hl:KA b s.tK l xs)(hQ:∀x h',xs[k]?=p' x->Rz b h' it l (k+1)->uS.SameBut it s.tK h'->Q x {s with tK:=h' })
  (hE:xs[k]?=none->∀h' e,uS.ExtBut it s.tK h'->Stop h' e->E (.t8 e) {s with tK:=h' }):ue (uf ub w) A (t6.SmallTypes.nextOf (.t8 it)) Q E s:=by
 cases b
 .cases hx:xs[k]?
  .exact wpAny_nextOf_list_end hh hit hl hx (hE hx)
  .exact wpAny_nextOf_list_item hit hl hx λh'=>hQ _ h' hx
 .exact Ug hh hit hl hQ hE
def KA.at(c:KA b h l xs)(e:∀o,h.ua l=p' o->h'.ua l=p' o):KA b h' l xs:=by
 cases b
 .exact uS.IsList.at c e
 .exact uS.IsTuple.at c e
def Rz.at(c:Rz b h it l k)(e:∀o,h.ua it=p' o->h'.ua it=p' o):Rz b h' it l k:=by
 cases b
 .exact uS.IsListIter.at c e
 .exact uS.IsTupleIter.at c e
def Rz.obj(c:Rz b h it l k):∃o,h.ua it=p' o/\∀v,o.uX≠.wI v:=by cases b<;>exact let{o,e,_,d}:=c;{o,e,λv z=>by rw[d]at z;cases z}
def KA.lt(c:KA b h l xs):l<h.uc.tX:=by cases b<;>exact let{_,e,_}:=c;ot e
def kp{a b:tQ}(x:uS.SameBut a h h')(e:h.ua b=p' o)(ne:¬ @Eq tQ b a:=by lia):h'.ua b=p' o:=(x.2 b ne).trans e
def ke{a b:tQ}(x:uS.ExtBut a h h')(e:h.ua b=p' o)(ne:¬ @Eq tQ b a:=by lia):h'.ua b=p' o:=x b o ne e
def pu{b:tV}(e:h.ua b=p' o):(h.vY o').ua b=p' o:=nY _ e
abbrev ZS(h:uS)(n:tQ)(u:tM)(f:uz):Prop:=h.ua (n+4)=p' {cls:=.uJ "zip",uX:=.vt #[u,.bool f,.bool false,.t8 (n+2),.t8 (n+3)]}
structure Zst(b1 b2:uz)(n l1 l2 i:tQ)(h:uS):Prop where
 z:∃u f,(u=.none\/∃d:tQ,u=wN d)/\ZS h n u f
 p:IsPair h (n+2) (.t8 n) (.t8 (n+1))
 q:∃a b,IsPair h (n+3) a b
 a:Rz b1 h n l1 i
 b:Rz b2 h (n+1) l2 i
def Kp (n:tQ)(h h':uS):Prop:=∀(c:tQ) o,(c<n\/n+5<=c)->h.ua c=p' o->h'.ua c=p' o
def OG(x:uS.SameBut a h h')(z:h.ua a=p' {cls:=.uJ "zip",uX:=.vt vs})(y:Stop h e):Stop h' e:=by let{o,y,c}:=y;exact{o,kp x y λq=>by rw[q,z]at y;cases y;simp at c,c}
def aliveQ{Q:tL Obj->ud->Prop}(h:Q (s.tK.ua a) s):ue (uf ub w) A (loadIfAlive a) Q E s:=λ_ _ _=>h
def TR{Q:uz->ud->Prop}(hu:u=.none\/∃d:tQ,u=wN d)(hz:ZS s.tK n u f)(h1:Q true s)(h2:∀h',ZS h' n u true->uS.SameBut (n+4) s.tK h'->Q false {s with tK:=h' }):
  ue (uf ub w) A (t6.SmallTypes.ownedTupleIsFree (.t8 (n+4))) Q E s:=by
 refine nR (pj hz rfl rfl ?_);rcases hu with rfl|⟨d,rfl⟩
 .exact n6 h1
 .show ue _ _ (loadIfAlive ((d:tN).uw) >>= _) _ _ _;rw[qv];refine nR (aliveQ ?_);cases s.tK.ua d
  .exact n6 h1
  .refine nR (pj hz rfl rfl ?_);cases f
   .exact nR (v8 hz (by simp) λh3 he hs=>n6 (h2 h3 he hs))
   .exact n6 (h2 s.tK hz (uS.SameBut.uV _ _))
def RH(hh:A.wp=none)(t1:l1<n)(t2:l2<n)(st:Zst b1 b2 n l1 l2 k s.tK)(c1:KA b1 s.tK l1 xs)(c2:KA b2 s.tK l2 ys)
  (hQ:∀x y h',xs[k]?=p' x->ys[k]?=p' y->Zst b1 b2 n l1 l2 (k+1) h'->IsPair h' s.tK.uc.tX x y->Kp n s.tK h'->Q (.t8 s.tK.uc.tX) {s with tK:=h' })
  (hE:(xs[k]?=none\/ys[k]?=none)->∀h' e,Kp n s.tK h'->Stop h' e->E (.t8 e) {s with tK:=h' }) :
  ue (uf ub w) A (t6.«zip.__next__» {[.t8 (n+4)],[]}) (λaO s'=>∃v,aO=.done (.wH v)/\Q v s') E s:=by
 let{ {u,f,hu,hz},hp,{a,b,hq},i1,i2}:=st;have hl:@LT.lt tQ _ (n+4) s.tK.uc.tX:=ot hz;have s2:2<=t9:=by rw[vk];decide
 show ue _ _ (field (.t8 (n+4)) 2 >>= _) _ _ _;refine nR (pj hz rfl rfl ?_);refine nR (pj hz rfl rfl (nR (wg hp rfl ?_)));refine nR (TR hu hz ?_ λha za sa=>?_)
 .simp![if_true];refine nR (wpAny_rule (nR (pj hz rfl rfl (nR (v8 hz (by simp) λha za sa=>nR ?_)))));refine nR (nR (wpAny_onRaise ?_));refine nR (draw hh (i1.at λo e=>kp sa e) (c1.at λo e=>kp sa e) (λx hb hx i1 sb=>n6 ?_) λhx hb e eb he=>?_)
  .refine nR (wg (kp sb (kp sa hq)) rfl (nR (wpAny_updateSeq_pair (kp sb (kp sa hq)) λhc qc sc=>nR (wpAny_letGo (n6 (nR (nR (wpAny_onRaise ?_))))))));refine nR (draw hh (i2.at λo e=>kp sc (kp sb (kp sa e))) (c2.at λo e=>kp sc (kp sb (kp sa e))) (λy hd hy i2 sd=>n6 ?_) λhy hd e eb he=>?_)
   .refine nR (wg (kp sd qc) rfl (nR (wpAny_updateSeq_pair (kp sd qc) λhe qe se=>nR (wpAny_letGo (n6 (n6 (nR (wg qe rfl (nR (wpAny_newTuple (nR ?_)))))))))));have sz:he.uc.tX=s.tK.uc.tX:=by rw[se.1,sd.1,sc.1,sb.1,sa.1]
    refine nR (v8 (pu (kp se (kp sd (kp sc (kp sb za))))) (by simp) λhf zf sf=>v8 zf (by simp) λhg zg sg=>n6 {_,rfl,?_});have p1:=kp sg (kp sf (oi _ rfl));rw[sz]at p1 zg ⊢;exact hQ x y hg hx hy { {_,false,.uK {_,rfl},zg},kp sg (kp sf (pu (kp se (kp sd (kp sc (kp sb (kp sa hp))))))),{x,y,kp sg (kp sf (pu qe))},i1.at λo e=>kp sg (kp sf (pu (kp se (kp sd (kp sc e))))),i2.at λo e=>kp sg (kp sf (pu (kp se e)))} p1 λc o h q=>kp sg (kp sf (pu (kp se (kp sd (kp sc (kp sb (kp sa q)))))))
   .exact v8 (ke eb (kp sc (kp sb za))) (by simp) λhf _ sf=>hE (.uK hy) hf e (λc o h q=>kp sf (ke eb (kp sc (kp sb (kp sa q))))) (OG sf (ke eb (kp sc (kp sb za))) he)
  .exact v8 (ke eb za) (by simp) λhf _ sf=>hE (.uW hx) hf e (λc o h q=>kp sf (ke eb (kp sa q))) (OG sf (ke eb za) he)
 .simp![if_false,tH.forIn_cons,tH.forIn_nil];refine nR (nR (nR (vQ ?_)));refine nR (draw hh (i1.at λo e=>kp sa e) (c1.at λo e=>kp sa e) (λx hb hx i1 sb=>n6 (n6 ?_)) λhx hb e eb he=>hE (.uW hx) hb e (λc o h q=>ke eb (kp sa q)) he);refine nR (nR (vQ ?_));refine nR (draw hh (i2.at λo e=>kp sb (kp sa e)) (c2.at λo e=>kp sb (kp sa e)) (λy hc hy i2 sc=>n6 (n6 (n6 (nR (wpAny_newTuple ?_))))) λhx hc e eb he=>hE (.uK hx) hc e (λc o h q=>ke eb (kp sb (kp sa q))) he);have sz:hc.uc.tX=s.tK.uc.tX:=by rw[sc.1,sb.1,sa.1]
  refine n6 {_,rfl,?_};rw[sz];refine hQ x y _ hx hy { {u,true,hu,pu (kp sc (kp sb za))},pu (kp sc (kp sb (kp sa hp))),{a,b,pu (kp sc (kp sb (kp sa hq)))},i1.at λo e=>pu (kp sc e),i2.at λo e=>pu e} ?_ λc o h q=>pu (kp sc (kp sb (kp sa q)))
  rw[<- sz];exact oi _ rfl
end Zp
end PySem
namespace PySem
namespace Zp
variable{prog:Program}{w:World}{A:Around}{E:Zcv}{s:Shared}{l:Addr}{k n l1 l2:Nat}{xs ys:Array Value}{b b1 b2:Bool}
def Hi(hh:A.wp=none)(t1:l1<n)(t2:l2<n)(st:Zst b1 b2 n l1 l2 k s.tK)(c1:KA b1 s.tK l1 xs)(c2:KA b2 s.tK l2 ys)
  (hQ:∀x y h',xs[k]?=p' x->ys[k]?=p' y->Zst b1 b2 n l1 l2 (k+1) h'->IsPair h' s.tK.uc.tX x y->Kp n s.tK h'->Q (p' (.t8 s.tK.uc.tX)) {s with tK:=h' })
  (hE:(xs[k]?=none\/ys[k]?=none)->∀h',Kp n s.tK h'->Q none {s with tK:=h' }):ue (uf ub w) A (pyNext (.t8 (n+4))) Q E s:=by
 let{_,_,_,hz}:=st.z;have hT:s.TypeIs (.t8 (n+4)) "zip":={_,hz,rfl}
 exact nR (wpAny_attempt (wpAny_callSpecial?_slot hT F.slot_zip_next (v9 F.slot_zip_next hT F.entry_zip_next
  (RH hh t1 t2 st c1 c2 (λx y h' a b c d e=>n6 (hQ x y h' a b c d e)) λa h' e hk {o,ho,hc}=>nR (wpAny_isInstance {o,ho,hc} isSubtype_stop (n6 (hE a h' hk)))) (F.args_zip_next_1 _))))
def V9{tg:v7}(st:Zst b1 b2 n l1 l2 k s.tK)(h:∀h',Zst b1 b2 n l1 l2 k h'->uS.SameBut (n+4) s.tK h'->Q () {s with tK:=h' }):ue (uf ub w) A (letOwnedTupleGo tg (.t8 (n+4)) v) Q E s:=by
 have h0:=h _ st (uS.SameBut.uV _ _);let{ {u,f,hu,hz},hp,{a,b,hq},i1,i2}:=st;cases tg<;>first|exact n6 h0|skip
 all_goals cases v<;>first|exact n6 h0|skip
 all_goals
  refine nR (wpAny_load hz ?_);dsimp only;split
  .refine nR (wpAny_rule ?_);exact v8 hz (by simp) λh' z x=>h h' { {.none,f,.uW rfl,z},kp x hp,{a,b,kp x hq},i1.at λo e=>kp x e,i2.at λo e=>kp x e} x
  .exact n6 h0
def Jb1 (b:uz)(l:tV):Obj:={cls:=.uJ (cond b "tuple_iterator" "list_iterator"),uX:=.vt #[.t8 l,.tS 0 0]}
def uU(c:KA b s.tK l xs)(q:Q (.t8 s.tK.uc.tX) {s with tK:=s.tK.vY (Jb1 b l)}):ue (uf ub w) A (pyIter (.t8 l)) Q E s:=by
 cases b
 .exact wpAny_pyIter_list c q
 .exact wpAny_pyIter_tuple c q
def Rz.new(e:h.ua it=p' (Jb1 b l)):Rz b h it l 0:=by cases b<;>exact{_,e,rfl,rfl}
def Us(c1:KA b1 s.tK l1 xs)(c2:KA b2 s.tK l2 ys)(h:∀h',Zst b1 b2 s.tK.uc.tX l1 l2 0 h'->(∀c o,s.tK.ua c=p' o->h'.ua c=p' o)->Q (.t8 (s.tK.uc.tX+4)) {s with tK:=h' }):
  ue (uf ub w) A (call (.uJ "zip") [.t8 l1,.t8 l2]) Q E s:=by
 have M:Meets (t6.«zip.__new__» {[.uJ "zip",.t8 l1,.t8 l2],[]}) (λ_ R s=>KA b1 s.tK l1 xs/\KA b2 s.tK l2 ys/\∀h',Zst b1 b2 s.tK.uc.tX l1 l2 0 h'->(∀c o,s.tK.ua c=p' o->h'.ua c=p' o)->R (.ok (.wH (.t8 (s.tK.uc.tX+4)))) {s with tK:=h' }) :=
  .of_wp λub w A R s h=>by
   let{c1,c2,h}:=h;have gp:=sub_zip
   wp_walk using uU c1,uU (c2.at λo e=>pu e)
   refine{_,rfl,?_};simp![pA];have at':∀{h:uS}{o:Obj}{a:tQ},a=h.uc.tX->o.isFreed=false->(h.vY o).ua a=p' o:=λe f=>e▸oi _ f
   exact h _ { {_,false,.uW rfl,at' (by simp![pA]) rfl},pu (pu (at' (by simp![pA]) rfl)),{.none,.none,pu (at' (by simp![pA]) rfl)},.new (pu (pu (pu (pu (at' rfl rfl))))),.new (pu (pu (pu (at' (by simp![pA]) rfl))))} λc o e=>pu (pu (pu (pu (pu e))))
 exact callType_new F.called_zip ZB (F.typeCall_zip_2 _ _) (F.newCall_zip_2 _ _) (λobj=>F.args_object_init_3 obj _ _) F.entry_zip_new M {c1,c2,λh' z k=>{ {_,z.z.choose_spec.choose_spec.2,rfl},h h' z k} }
end Zp
end PySem
namespace Lake.L2
open PySem PySem.Spec PyProof.Rows
def SqB (b:uz)(K:Fg)(H:Hp)(a:tV)(xs:tH V):Prop:=match b with|true=>SqT K H a xs|false=>SqL K H a xs
variable{X:Cx}{aa:Zao}{U:St}{H H':Hp}{s:Shared}{a:Addr}{xs ys:List V}{b:Bool}
def uF.sqb(I:uF X aa U H s)(h:SqB b X.K H a xs):∃uU:tH tM,vo xs uU/\Zp.KA b s.tK a uU.tZ/\xs.fg<=t9:=by
 cases b
 .exact let{uU,r,p,z}:=I.list h;{uU,r,p.vU,z}
 .exact let{uU,r,p,z}:=I.wz h;{uU,r,p,z}
def uF.OH(I:uF X aa U H s)(h:SqB b X.K H a xs)(h':SqB b X.K H a ys):xs=ys:=by
 cases b
 .exact I.Ir h h'
 .exact I.Gb h h'
def uF.P7{fp:tH tV}(I:uF X aa U H s)(k:∀b o,b∉fp->s.tK.ua b=p' o->h'.ua b=p' o)(hf:∀b∈fp,Hh X aa H b)
  (up:∀b u,H b=p' u->H' b=p' u) (dn:∀b u,H' b=p' u->H b=p' u\/(s.tK.uc.tX<=b/\Bt X.ub X.w H' h' b u)):uF X aa U H' {s with tK:=h',vj:=t' }:=by
 have gF:∀b u,H b=p' u->b∉fp:=λb u e z=>by rw[(hf b z).1]at e;cases e
 refine I.step (λb hb=>?_) (λb o _ _ hc e _=>k b o hc e) (λb o _ _ hc e _=>{o.slots,k b o hc e}) (λb o _ e n=>?_)
  (λb o hc e=>{o,k b o hc e}) (λb _ e=>up b _ e) (λb _ _ e=>up b _ e) (λb ps e=>{#[],by rw[up b _ e];simp}) (λm hm=>?_) (λb u e=>?_) I.bare
 .let{f0,f1,f2,f3,f4,f5}:=hf b hb;exact{f3,f1,f4,f5}
 .cases q:H' b with
  |none=>rfl
  |p' u =>
   rcases dn b u q with z|z
   .rw[n]at z;cases z
   .exact uD (oA (ot e) z.1) (pK _)
 .let{o,es,ep,ho,r}:=hm;exact{o,es,ep,k _ o (λz=>(hf _ z).2.1 rfl) ho,r}
 .rcases dn b u e with z|z
  .refine(I.zZ b u z).U0 (λc v hc q=>k c v ?_ q) (λc q=>up c _ q) λc _ q=>up c _ q
   rcases hc with y|y
   .rw[y];exact gF b u z
   .exact gF c _ y
  .exact z.2
def uF.KI{fp:tH tV}(I:uF X aa U H s)(k:∀b o,b∉fp->s.tK.ua b=p' o->h'.ua b=p' o)(hf:∀b∈fp,Hh X aa H b):uF X aa U H {s with tK:=h',vj:=t' } :=
 I.P7 k hf (λ_ _ e=>e) λ_ _ e=>.uW e
def uF.X5{fp:tH tV}(I:uF X aa U H s)(k:∀b o,b∉fp->s.tK.ua b=p' o->h'.ua b=p' o)(hf:∀b∈fp,Hh X aa H b)(hp:s.tK.uc.tX<=p)(new:Bt X.ub X.w (vi H p o) h' p o):
  uF X aa U (vi H p o) {s with tK:=h',vj:=t' }:=by
 have fr:=I.zZ.vJ hp;refine I.P7 k hf (λb u e=>by rw[Ap (Bm e fr)];exact e) λb u e=>?_
 by_cases hb:b=p
 .subst hb;rw[Aq]at e;cases e;exact .uK {hp,new}
 .rw[Ap hb]at e;exact .uW e
abbrev RecIs(s:ud)(v:tM)(T:wb):Prop:=∃a vs,v=.t8 a/\s.tK.ua a=p' {cls:=.uJ T,uX:=.vt vs}
def Hint (s:ud)(v:tM):Prop:=∀(ub:wf)(w:wK)(A:Around)(E:Zcv)(Q:uz->ud->Prop)(s2:ud),(∀b o,s.tK.ua b=p' o->s2.tK.ua b=p' o)->(∀b tk,Q b {s2 with vj:=tk})->ue (uf ub w) A (t6.tH.listLengthHint v) Q E s2
def PIt (X:Cx)(tg au:v7)(T:wb)(wi:TI):Prop :=
 ∀(aa:Zao)(s:ud)(U:St)(H:Hp)(R:It->Hp->Prop),uF X aa U H s->wi U H R ->
  ue (uf X.ub X.w) X.A (wD au X.uh) (λv s1=>(RecIs s1 v T/\Hint s1 v)/\PIE X aa U tg R v s1) X.xe s
def PIt.pi(h:PIt X tg au T wi):PI X tg au wi:=λaa s U H R I q =>wo (h aa s U H R I q) λv s1 {_,it,fp,tn,J,H',e,I',t,t0,f,r}=>by subst e;exact t.self _ 0 _ _ _ t0 {it,fp,tn,J,H',rfl,I',t,t0,f,r}
def Itz (K:Fg)(b1:uz)(a1:tV)(b2:uz)(a2:tV):It :=
  {λi H=>∃xs ys x y,SqB b1 K H a1 xs/\SqB b2 K H a2 ys/\xs[i]?=p' x/\ys[i]?=p' y,
   λi H x H'=>∃T vx vy,H T=none/\x=.t8 T/\H'=vi H T (.uj [vx,vy])/\(∀xs,SqB b1 K H a1 xs->xs[i]?=p' vx)/\∀ys,SqB b2 K H a2 ys->ys[i]?=p' vy,
   λi H=>∃xs ys,SqB b1 K H a1 xs/\SqB b2 K H a2 ys/\(xs.fg<=i\/ys.fg<=i)}
abbrev fpZ(n:tQ):tH tV:=[n,n+1,n+2,n+3,n+4]
def VJ(k:Zp.Kp n h h')(b:tV)(o:Obj)(hb:b∉fpZ n)(e:h.ua b=p' o):h'.ua b=p' o:=by
 simp![oz,pY,or_false]at hb;have:∀c:tQ,¬(c=n\/c=n+1\/c=n+2\/c=n+3\/c=n+4)->c<n\/n+5<=c:=by lia
 exact k b o (this b hb) e
def RV{K:Fg}{n a1 a2:tQ}(t1:a1<n)(t2:a2<n):Turn P w K tg (Itz K b1 a1 b2 a2) (fpZ n) (n+4) (Zp.Zst b1 b2 n a1 a2) where
 mem:=by simp
 obj:=λi h { {_,_,_,hz},hp,{_,_,hq},h1,h2} b hb=>by
  simp![oz,pY,or_false]at hb;rcases hb with rfl|rfl|rfl|rfl|rfl
  .exact h1.obj
  .exact h2.obj
  .exact{_,hp,nofun}
  .exact{_,hq,nofun}
  .exact{_,hz,nofun}
 keep:=λi h h' { {u,f,e,hz},hp,{a,b,hq},h1,h2} k=>{ {u,f,e,k _ (by simp) _ hz},k _ (by simp) _ hp,{a,b,k _ (by simp) _ hq},h1.at λo e=>k _ (by simp) o e,h2.at λo e=>k _ (by simp) o e}
 item:=by
  intro X hP hw hK hc i aa s U H E I hf st {xs,ys,x,y,q1,q2,ex,ey};subst hP hw hK;let{fq,r1,c1,_}:=I.sqb q1;let{aV,r2,c2,_}:=I.sqb q2;let{u1,jK,mB}:=r1.get ex;let{u2,jL,mC}:=r2.get ey;have hz:=st.z;refine Zp.Hi (I.ok.hd hc) t1 t2 st c1 c2 (λv1 v2 h' e1 e2 aZ hp hk=>{_,rfl,Zp.V9 aZ λh2 eA sb=>?_}) λhn=>?_
  .simp![tH.getElem?_toArray,jK,jL,tL.p'.injEq]at e1 e2;subst e1 e2;let{_,_,_,hz}:=hz;have dP:@LT.lt tQ _ (n+4) s.tK.uc.tX:=ot hz;have fr:=I.zZ.vJ (oh s.tK.uc.tX);refine{.t8 s.tK.uc.tX,_,I.X5 (o:=.uj [x,y]) (λb o hb e=>sb.extBut _ _ (λq=>hb (by simp[q])) (VJ hk b o hb e)) hf (oh _) {by show 2<=t9;rw[vk];decide,[u1,u2],.ux mB (.ux mC .vO),{_,Zp.kp sb hp,rfl,_,rfl,rfl} },rfl,{_,x,y,fr,rfl,rfl,λzs hz=>by rw[I.OH hz q1];exact ex,λzs hz=>by rw[I.OH hz q2];exact ey},eA,λb hb=>?_};rw[Ap]
   .exact(hf b hb).1
   .rintro rfl
    simp![oz,pY,or_false]at hb;have:∀c:tQ,n+4<c->¬(c=n\/c=n+1\/c=n+2\/c=n+3\/c=n+4):=by lia
    exact this _ dP hb
  .simp[jK,jL]at hn
 done:=by
  intro X hP hw hK hc i aa s U H E I hf st {xs,ys,q1,q2,hend};subst hP hw hK;let{fq,r1,c1,_}:=I.sqb q1;let{aV,r2,c2,_}:=I.sqb q2;have e1:=r1.fg;have e2:=r2.fg;refine Zp.Hi (I.ok.hd hc) t1 t2 st c1 c2 (λv1 v2 h' g1 g2 _ _ _=>?_) λ_ h' hk=>{rfl,I.KI (VJ hk) hf}
  have:=(ou.mp (by simpa using g1:fq[i]?=p' v1)).1;have:=(ou.mp (by simpa using g2:aV[i]?=p' v2)).1
  lia
 self:=λ_ _ _ _ _ { {_,_,_,hz},_,_,_,_} h=>by refine wpAny_pyIter_slot {_,hz,rfl} F.slot_zip_iter (v9 F.slot_zip_iter {_,hz,rfl} F.entry_zip_iter ?_ (F.args_zip_iter_1 _));exact n6 {_,rfl,"zip",_,{_,hz,rfl},F.slot_zip_next.t7,h}
def Yh{T:wb}{vs:vp tM}(e:s.tK.ua a=p' {cls:=.uJ T,uX:=.vt vs})(h1:typeLookup (.uJ T) "__len__"=wx none)(h2:typeLookup (.uJ T) (tO.ofString "__length_hint__")=wx none):Hint s (.t8 a):=λub w A E Q s2 k h=>by
 have hT:s2.TypeIs (.t8 a) T:={_,k _ _ e,rfl}
 unfold t6.tH.listLengthHint;exact nR (wq hT h1 (nR (wq hT h2 (n6 (h _ s2.vj)))))
def iZip (K:Fg)(ta:TA):TI:=λU H R=>ta U H λvs H1=>∃b1 a1 b2 a2,vs=[.t8 a1,.t8 a2]/\(∃xs,SqB b1 K H1 a1 xs)/\(∃ys,SqB b2 K H1 a2 ys)/\R (Itz K b1 a1 b2 a2) H1
def Vg{tg a b:v7}{ta:TA}{p uG:Pos}(hg:Gl X "zip")(hm:X.mg "zip"=none)(ha:PA X [a,b] ta)(hs:Zs2 X.uh a b:=by rfl)(bh:Zs1 X.uh b:=by rfl):
  PIt X tg (.vM (.uE "zip" p) [a,b] [] uG) "zip" (iZip X.K ta):=by
 intro aa s U H R I h;refine Call_ (Dc I hg hm boot_zip (wF (wo (ha uG aa s U H _ I h) λus s1 aj=>?_) (by rw[hs,bh]) (by rw[bh];rfl)));let{vs,H1,I1,r1,q1}:= aj;let{b1,a1,b2,a2,e,{xs,hx},{ys,hy},q}:=q1;subst e;rcases r1 with _|⟨r,_|⟨r',⟨⟩⟩⟩
 cases r;cases r';let{fq,_,c1,_}:=I1.sqb hx;let{aV,_,c2,_}:=I1.sqb hy;refine Zp.Us c1 c2 λh' st k=>{ { {_,_,rfl,st.z.choose_spec.choose_spec.2},Yh st.z.choose_spec.choose_spec.2 (by rw[vI,uT];kernel_rfl) (by rw[vI,uT];kernel_rfl)},_,fpZ s1.tK.uc.tX,_,_,H1,rfl,I1.kept (t':=s1.vj) k,RV c1.lt c2.lt,st,λb hb=>?_,q}
 have gX:s1.tK.uc.tX<=b:=by
  simp![oz,pY,or_false]at hb;have:∀c m:tQ,(c=m\/c=m+1\/c=m+2\/c=m+3\/c=m+4)->m<=c:=by lia
  exact this _ _ hb
 exact I1.RG gX (I1.zZ.vJ gX)
def uF.inA(I:uF X aa U H s)(h:A.wp=X.A.wp)(f:A.v5=X.A.v5):uF {X with A:=A} aa U H s :=
 { {I.ok with hd:=λc=>h.trans (I.ok.hd c),v5:=f.trans I.ok.v5},I.os,I.bare,I.uk,I.loc,I.wI,I.vK,I.zV,I.pin,I.zZ,I.wv}
def Bnd (X:Cx)(J:It):Prop:=∀aa U H s i,uF X aa U H s->J.go i H->i<t9
def Put:=tQ->V->Hp->(HO->Prop)->Prop
def ItW (J:It)(S:tV)(put:Put)(Fin:Hp->Prop)(H0:Hp):Prop :=
 ∃W:tQ->tQ->Hp->Prop,(∃m,W 0 m H0)/\∀i m H,W i m H->(J.stop i H/\Fin H)\/(J.go i H/\∀x H',J.yV i H x H'->put i x H' λo=>∃m',m'<m/\W (i+1) m' (vi H' S o))
variable{J:It}{fp:List Addr}{it S:Addr}{tn:Nat->Heap->Prop}{x:Str}{p:Pos}{Fin:Hp->Prop}{put:Put}
def Qj{W:tQ->tQ->Hp->Prop}(T:Turn X.ub X.w X.K (.uE x p) J fp it tn)(hc:X.calm=true)(hh:A.wp=X.A.wp)(hr:A.v5=X.A.v5)
  (hw:(J.stop i H/\Fin H)\/(J.go i H/\∀x H',J.yV i H x H'->put i x H' λo=>∃m',m'<m/\W (i+1) m' (vi H' S o))) (I:uF X aa U H s) (t:tn i s.tK) (hf:∀b∈fp,Hh X aa H b)
  (hn:∀s',uF X aa U H s'->Fin H->ue (uf X.ub X.w) A (k none) Q E s')
  (hs:∀v u H' s',J.go i H->uF X aa U H' s'->vg v u->(put i v H' λo=>∃m',m'<m/\W (i+1) m' (vi H' S o))->tn (i+1) s'.tK->(∀b∈fp,Hh X aa H' b)->ue (uf X.ub X.w) A (k (p' u)) Q E s') :
  ue (uf X.ub X.w) A (pyNext (.t8 it) >>= k) Q E s:=by
 rcases hw with⟨st,aO⟩|⟨go,nx⟩
 .refine nR (wo (T.done {X with A:=A} rfl rfl rfl hc i aa s U H _ (I.inA hh hr) hf t st) λr s1 aj=>?_);let{e,I1}:= aj;subst e;exact hn s1 (I1.inA hh.symm hr.symm) aO
 .refine nR (wo (T.item {X with A:=A} rfl rfl rfl hc i aa s U H _ (I.inA hh hr) hf t go) λr s1 aj=>?_);let{u,e,q}:= aj;subst e;exact(nR (wo q λ_ s2 {y,H',I2,ry,hy,t2,fr}=>hs y u H' s2 go (I2.inA hh.symm hr.symm) ry (nx y H' hy) t2 λb hb=>{fr b hb,(hf b hb).2}):ue _ A (letOwnedTupleGo (.uE x p) (.t8 it) u >>= λ_=>k (p' u)) Q E s1)
def putL (S:tV):Put:=λi x H Q=>∃ys,H S=p' (.tY ys)/\ys.fg<=i/\Q (.tY (ys++[x]))
def MM{W:tQ->tQ->Hp->Prop}(T:Turn X.ub X.w X.K (.uE x p) J fp it tn)(hb:Bnd X J)(hc:X.calm=true)(hh:A.wp=X.A.wp)(hr:A.v5=X.A.v5)
  (hw:∀i m H,W i m H->(J.stop i H/\Fin H)\/(J.go i H/\∀x H',J.yV i H x H'->putL S i x H' λo=>∃m',m'<m/\W (i+1) m' (vi H' S o))) (hR:∀H s',uF X aa U H s'->Fin H->R (.ok (.wH res)) s') (m:tQ) :
  ∀(i:tQ)(H:Hp)(s:ud),W i m H->uF X aa U H s->tn i s.tK->(∀b∈fp,Hh X aa H b)->codeAny (uf X.ub X.w) A (.uM "list.extend.loop" {[.t8 S,.t8 it,res],[]}) R s:=by
 induction m using tQ.strongRecOn with
 |_ m ih =>
  intro i H s w I t hf;refine codeAny_builtin F.entry_extend_loop ?_;refine Qj T hc hh hr (hw i m H w) I t hf (λs' I' f=>n6 (hR H s' I' f)) λv u H' s' go I' r {ys,e,hz,m',hm,w'} t' dy=>?_
  have:=hb _ _ _ _ _ I go;let{_,uU,n,rv,hl,eo}:=I'.Vw e;have ne:=λb hb=>Bm e (dy b hb).1
  exact nR (wpAny_updateSeq eo rfl (n6 {plainId_quiet F.plain_extend_loop _,ih m' hm (i+1) _ _ w' (I'.X2 e eo (by simp) (rv.append (.ux r .vO)) (by simp;lia)) (T.keep _ _ _ t' λb hb o q=>(oX _ _ (ne b hb)).trans q) λb hb=>{(Ap (ne b hb).symm).trans (dy b hb).1,(dy b hb).2} }) (by rw[nZ];lia) (by simp;lia))
def ext_it{A:Around}{T:wb}{vs:vp tM}{H1:Hp}{Q:Zcv}{E:Zcv}{res:tM}{c:tQ}(Tn:Turn X.ub X.w X.K (.uE x p) J fp it tn)(bd:Bnd X J)(hc:X.calm=true)(hh:A.wp=X.A.wp)(hr:A.v5=X.A.v5)(hT:Hint s (.t8 it))(hn:T≠"list"/\T≠"tuple")
  (I:uF X aa U (vi H1 S (.tY [])) s) (e1:s.tK.ua S=p' {cls:=.uJ "list",uX:=.seq #[] c}) (t0:tn 0 s.tK) (eo:s.tK.ua it=p' {cls:=.uJ T,uX:=.vt vs}) (hf:∀b∈fp,Hh X aa (vi H1 S (.tY [])) b) (w:ItW J S (putL S) Fin (vi H1 S (.tY [])))
  (hR:∀H s',uF X aa U H s'->Fin H->Q res s') :
  ue (uf X.ub X.w) A.in1 (t6.tH.listExtendWith (.t8 S) (.t8 it) res) (λaO s'=>match aO with|.done f=>wants Q E (.ok f) s'|.again c'=>c'.quiet=true/\codeAny (uf X.ub X.w) A c' (wants Q E) s') (λe s'=>wants Q E (.error e) s') s:=by
 let{W,{m,w0},hw}:=w;have ne:S≠it:=Bm Aq (hf it Tn.mem).1;unfold t6.tH.listExtendWith;refine nR (wpAny_typeOf {_,eo,rfl} ?_);rw[ug (by simp[t6.tH.listSameRef,ne,hn])];refine nR (Tn.self _ 0 _ _ _ t0 (nR (vQ (hT _ _ _ _ _ _ (λ_ _ e=>e) λb tk=>?_))));split
 .have e2:=pG (Obj.mapSeq (·.vY tM.none)) e1 rfl;have I2:=(I.X2 (t':=tk) (f:=(·.vY tM.none)) (uU:=[]) (aH:=[.none]) (ys:=[.vG]) Aq e1 rfl (.ux rfl .vO) (by rw[vk];decide)).X2 (t':=tk) (f:=(·.pop)) (uU:=[.none]) (aH:=[]) (ys:=[]) Aq e2 rfl .vO (pB _);rw[KH,KH]at I2;refine nR (wpAny_rule (nR (nR (wpAny_updateSeq e1 rfl (wpAny_updateSeq (hz:=by seq_fits) e2 rfl (n6 {plainId_quiet F.plain_extend_loop _,MM Tn bd hc hh hr hw hR m 0 _ _ w0 I2 (Tn.keep _ _ _ t0 λb hb o q=>?_) hf}))))));have ne:=Bm (H:=vi H1 S (.tY [])) Aq (hf b hb).1;exact(oX _ _ ne).trans ((oX _ _ ne).trans q)
 .exact n6 {plainId_quiet F.plain_extend_loop _,MM Tn bd hc hh hr hw hR m 0 _ _ w0 (I.kept (t':=tk) λ_ _ e=>e) t0 hf}
def Wz (X:Cx)(wi:TI):TE:=λU H Q=>wi U H λJ H1=>Bnd X J/\∀S,H1 S=none->ItW J S (putL S) (Q (.t8 S)) (vi H1 S (.tY []))
def JG{T:wb}{au:v7}{wi:TI}{p1 bo:Pos}(hc:X.calm=true)(dQ:X.mg "list"=none)(hi:PIt X (.uE x p) au T wi)(hn:T≠"list"/\T≠"tuple")(dJ:Gl X "list":=by rfl)(he:Zs1 X.uh au:=by rfl):
  PE X (.vM (.uE "list" p1) [au] [] bo) (Wz X wi):=by
 intro aa s U H Q I h;refine vS (Dc I dJ dQ boot_list (wF ?_ he rfl));rw[he];refine Calls.spliced_cons (wo (hi aa s U H _ I h) λv s1 { { {it,_,e,eo},hT},_,fp,tn,J,H1,e',I1,Tn,t0,hf,bd,q}=>Calls.spliced_nil ?_);subst e;cases e';refine callType_codes (Q₁:=λobj ay=>obj=.t8 s1.tK.uc.tX/\ay={s1 with tK:=s1.tK.vY {cls:=.uJ "list",uX:=.seq #[]} }) F.called_list (F.typeCall_list_1 _) F.entry_list_init (code_list_new _ {rfl,rfl}) λobj ay aN=>?_
 let{rfl,rfl}:=aN;have hS:(s1.tK.vY {cls:=.uJ "list",uX:=.seq #[]}).ua s1.tK.uc.tX=p' {cls:=.uJ "list",uX:=.seq #[]}:=oi _ rfl;refine{ {_,hS,rfl},F.args_list_init_2 _ _,?_};have ne:∀{b o},s1.tK.ua b=p' o->s1.tK.uc.tX≠b:=λe=>(oI (ot e)).symm
 show ue _ _ (do let old <- t6.tH.listItems (.t8 s1.tK.uc.tX);t6.tH.listUpdate (.t8 s1.tK.uc.tX) (λ_=>#[]);letGo old.uP.vn;t6.tH.listExtendWith (.t8 s1.tK.uc.tX) (.t8 it) .none) _ _ _;unfold t6.tH.listItems;have k1:∀b o,s1.tK.ua b=p' o->((s1.tK.vY {cls:=.uJ "list",uX:=.seq #[]}).update s1.tK.uc.tX (Obj.mapSeq λ_=>(#[]:vp tM))).ua b=p' o:=λb o e=>(oX _ _ (ne e)).trans (nY _ e)
 have e1:=pG (Obj.mapSeq λ_=>(#[]:vp tM)) hS rfl;exact nR (nR (wg hS rfl (n6 (nR (wpAny_updateSeq hS rfl (nR (wpAny_letGo (ext_it (A:=X.A.in1) Tn bd hc rfl rfl (λP w A E Q s2 k=>hT P w A E Q s2 λb o e=>k b o (k1 b o e)) hn (I1.laid (t':=s1.vj) k1 (oh _) {pB _,[],_,.vO,e1}) e1 (Tn.keep _ _ _ t0 λb _ o=>k1 b o) (k1 _ _ eo) (λb hb=>{(Ap (let{_,e,_}:=Tn.obj _ _ t0 b hb;(ne e).symm)).trans (hf b hb).1,(hf b hb).2}) (q _ I1.vJ) λH s' I' q=>{rfl,.t8 s1.tK.uc.tX,H,I',rfl,q}))))))))
def Rb:Bnd X (Itz X.K b1 a1 b2 a2):=λ_ _ _ _ i I {xs,_,_,_,q1,_,e,_}=>by
 let{_,_,_,z}:=I.sqb q1;have:=(ou.mp e).1
 lia
def Itv (K:Fg)(a:tV)(n:tQ):It :=
 {λi H=>i<n/\∃xs x,SqL K H a xs/\xs.fg=n/\xs[n-1-i]?=p' x,λi H x H'=>H'=H/\∀xs,SqL K H a xs->xs[n-1-i]?=p' x,λi _=>n<=i}
def RX{K:Fg}(a it:tV)(n:tQ):Turn P w K tg (Itv K a n) [it] it (λi h=>i<=n/\h.IsRevIter it a ((n:tN)-1-i)) where
 mem:=by simp
 obj:=λi h st b hb=>by
  have e:=by simpa using hb
  subst e;let{_,o,e,c,d}:=st;exact{o,e,λv z=>by rw[d]at z;cases z}
 keep:=λi h h' st k=>{st.1,st.2.at λo e=>k it (by simp) o e}
 item:=by
  intro X hP hw hK hc i aa s U H E I hf st hg;subst hP hw hK;let{hi,xs,x,hq,_,hx}:=hg;let{uU,rv,p,hz}:=I.list hq;let{u,hu,ru}:=rv.get hx;let{f0,f1,f2,f3,f4,f5}:=hf it (by simp);have e:(n:tN)-1-i=((n-1-i:tQ):tN):=by lia
  have eA:=st.2;rw[e]at eA;refine wpAny_pyNext_rev_item eA p.vU (by simpa using hu) λh' aZ sb=>?_
  let{o,e,c,d}:=id aZ;exact{u,rfl,Ld e c d ZB {x,H,(I.turned (λb o hb e=>(sb.2 b hb).trans e) f0 f1 f3 f4 f5),ru,{rfl,λys hy=>by rwa[I.Ir hy hq]},{by lia,by
   have e2:(n:tN)-1-((i+1:tQ):tN)=((n-1-i:tQ):tN)-1:=by lia
   rwa[e2]},λb hb=>(hf b hb).1} }
 done:=by
  intro X hP hw hK hc i aa s U H E I hf st hg;have hg:n<=i:=hg;let{f0,f1,f2,f3,f4,f5}:=hf it (by simp);have e:(n:tN)-1-i=-1:=by have:=st.1;lia
  have eA:=st.2;rw[e]at eA;exact wpAny_pyNext_rev_end (I.ok.hd hc) eA λh' eb=>{rfl,I.turned (λb o hb e=>eb b o hb e) f0 f1 f3 f4 f5}
 self:=λ_ _ _ _ _ st h=>wpAny_pyIter_revIter st.2 h
def Ta{vs:vp tM}(e:s.tK.ua a=p' {cls:=.uJ "list_reverseiterator",uX:=.vt vs}):Hint s (.t8 a):=λub w A E Q s2 k h=>by
 have hT:s2.TypeIs (.t8 a) "list_reverseiterator":={_,k _ _ e,rfl}
 unfold t6.tH.listLengthHint;refine nR (wq hT (by rw[vI,uT];kernel_rfl:typeLookup (.uJ "list_reverseiterator") "__len__"=wx none) ?_);refine nR (wq hT (by rw[vI,uT];kernel_rfl:typeLookup (.uJ "list_reverseiterator") (tO.ofString "__length_hint__")=wx (p' (.uM "list_reverseiterator.__length_hint__"))) ?_);generalize hid:("list_reverseiterator.__length_hint__":wb)=id0
 wp_delta
 rw[show splitId id0=p' ("list_reverseiterator","__length_hint__")from by subst hid;decide +kernel];subst hid;exact nR (wpAny_isInstance (b:=true) hT (by rw[isSubtype_type];kernel_rfl) (n6 (h _ s2.vj)))
def iRev (K:Fg)(ta:TE):TI:=λU H R=>ta U H λx H1=>∃a xs,x=.t8 a/\SqL K H1 a xs/\R (Itv K a xs.fg) H1
def Vh{tg a:v7}{ta:TE}{p2 aP:Pos}(cI:X.mg "reversed"=none)(ha:PE X a ta)(cH:Gl X "reversed":=by rfl)(df:Zs1 X.uh a:=by rfl):
  PIt X tg (.vM (.uE "reversed" p2) [a] [] aP) "list_reverseiterator" (iRev X.K ta):=by
 intro aa s U H R I h;refine vS (Dc I cH cI boot_reversed (wF ?_ df rfl));rw[df];refine Calls.spliced_cons (wo (ha aa s U H _ I h) λu s1 aj=>?_);let{x,H1,I1,r1,l,ys,ex,hq,q}:= aj;subst ex;cases r1;let{uU,rv,pl,hz}:=I1.list hq;have e:((uU.tZ.tX:tQ):tN)-1=(ys.fg:tN)-1-((0:tQ):tN):=by rw[nZ,<- rv.fg];lia
 refine Calls.spliced_nil (call_reversed_list pl.vU { { {_,_,rfl,oi _ rfl},Ta (oi _ rfl)},_,[s1.tK.uc.tX],_,_,H1,rfl,I1.kept (t':=s1.vj) λb o e=>nY _ e,RX l _ ys.fg,{pB _,_,oi _ rfl,rfl,by rw[<- e];rfl},λb hb=>?_,q});rw[oF.mp hb];exact I1.RG (oh _) I1.vJ
def SqL.keep{K:Fg}(h:SqL K H a xs)(e:H S=none):SqL K (vi H S o) a xs:=by
 rcases h with h|h
 .have:a≠S:=λz=>by rcases h with h|⟨_,h⟩<;>(rw[z,e]at h;cases h)
  exact .uW (by unfold Rd at *;rwa[Ap this])
 .exact .uK h
def JaJ{K:Fg}(hq:SqL K H a ys)(hS:H S=none)(q:Fin (vi H S (.tY ys.vn))):ItW (Itv K a ys.fg) S (putL S) Fin (vi H S (.tY [])):=by
 refine{λi m H2=>m=ys.fg-i/\i<=ys.fg/\H2=vi H S (.tY (ys.vn.uB i)),{_,rfl,pB _,rfl},?_}
 intro i m _ {rfl,hi,rfl}
 by_cases h:i<ys.fg
 .have e:ys[ys.fg-1-i]?=p' ys[ys.fg-1-i]:=nX (by lia);refine .uK { {h,ys,_,hq.keep hS,rfl,e},λx H' {e1,e2}=>{_,e1▸Aq,by simp;lia,_,by lia,rfl,h,?_} };have:=e2 ys (hq.keep hS);rw[e1,KH,qJ,tH.getElem?_reverse h,this];rfl
 .have:i=ys.fg:=by lia
  subst this;rw[show ys.vn.uB ys.fg=ys.vn by rw[<- qE,pP]];exact .uW {oh _,q}
def Zn:Bnd X (Itv X.K a n):=λ_ _ _ _ i I {h,xs,_,q,e,_}=>by
 let{_,_,_,z}:=I.list q
 lia
end Lake.L2
namespace PySem
def Ll(l b:tV)(uL bL:vp tM)(n n2:tQ)(fC:tL tV)(dD:vp (tL tM))(nB:¬(!uL.vb&&t6.tH.listTooLong (uL.tX+bL.tX))=true)(nC:uL.tX<=t9)(bh:uL.tX+bL.tX<=t9+1):
  Meets (t6.«list.extend» {[.t8 l,.t8 b],[]}) (λ_ R s=>s.tK.ua l=p' {cls:=.uJ "list",dict:=none,uX:=.seq uL n,slots:=#[]}/\s.tK.ua b=p' {cls:=.uJ "tuple",dict:=fC,uX:=.seq bL n2,slots:=dD} /\
   R (.ok (.wH tM.none)) {s with tK:=s.tK.update l (Obj.mapSeq λx=>x++bL),vj:=s.vj}) :=
 .of_wp λub w A R s h=>by
  let{hp,g,d,tk,os}:=s;let{hl,hb,h}:=h;have f1:=AutoSeq1.idx_int;have f2:=AutoSeq1.sub_tuple_tuple;have f3:=AutoSeq1.sub_list_list;have f4:=AutoSeq1.sub_tuple_list;have f5:=AutoSeq1.sub_list_tuple
  wp_walk using (wpAny_updateSeq hl rfl),wpAny_loadPart' hl,wpAny_loadPart' hb
  exact{_,rfl,h}
end PySem
namespace Lake.L2
open PySem PySem.Spec PyProof.Rows
variable{X:Cx}
inductive Sk(K:Fg)(x:V)(vs:tH V)(H:Hp)(Q:VK):Prop
 |mk (l b xs zs:_) (h0:x=.t8 l) (h1:vs=[.t8 b]) (h2:H l=p' (.tY xs)) (h3:SqT K H b zs) (h4:xs.fg+zs.fg<=t9) (h5:Q .vG (vi H l (.tY (xs++zs))))
def XS:MtM X "list.extend" (Sk X.K):=by
 intro aa s U H x vs v us Q I rx rv h;let{l,b,xs,zs,rfl,rfl,hH,hB,hz,q}:=h;cases rx;let{u,rfl,ru}:=rv.one;cases ru;let{z,uU,n,r,hl,e}:=I.Vw hH;let{aV,r2,{ {cls,dd,uX,sl},ho,hc,n2,hd},z2}:=I.wz hB;subst hc hd;have e2:=r2.fg;have hsz:uU.tZ.tX+aV.tZ.tX<=t9:=by rw[nZ,nZ];lia
 refine call_meets F.slot_list_extend {_,e,rfl} F.entry_list_extend (F.args_list_extend_2 _ _) (Ll l b uU.tZ aV.tZ n n2 dd sl (by rw[Ml hsz,uz.and_false];exact oG) (by rw[nZ];lia) (by lia)) {e,ho,?_};refine{.vG,_,I.X2 hH e (by simp) (r.append r2) ?_,rfl,q};rw[n9]
 lia
inductive U6(K:Fg)(x:V)(y:V)(H:Hp)(Q:VK):Prop
 |mk (a b ys:_) (h0:x=.t8 a) (h1:y=.t8 b) (h2:SqT K H a []) (h3:SqT K H b ys) (h4:Q (.t8 b) H)
def SR:OpR X (binaryOp .Add) (U6 X.K):=by intro aa s U H x y v u Q I rx ry h;let{a,b,ys,rfl,rfl,ha,hb,q}:=h;cases rx;cases ry;let{uU,r1,{ {cls,dd,uX,sl},ho,hc,n,hd},_}:=I.wz ha;let{aV,r2,{ {iw,fC,data2,dD},fj,bW,n2,hd2},_}:=I.wz hb;subst hc hd bW hd2;cases r1;exact concat_meets {_,ho,rfl} {_,fj,rfl} noFill_tuple_add seq_tuple_add slot_tuple_add entry_tuple_add (args_tuple_add_2 _ _) (tuple_addW0 a b _ _ n n2 dd fC sl dD (by simp)) {ho,fj,{.t8 b,H,I,rfl,q} }
end Lake.L2
namespace PySem
namespace F
def K5:typeLookup (.uJ "tuple") "__reversed__"=wx none:=by rw[vI,uT];kernel_rfl
def Ij:Manifest.owners.t7 (wb.ofList ['d','e','s','r','e','v','e','r'].vn)=p' Manifest.sig_reversed:=by kernel_rfl
def Dk:Slot "reversed" "__next__" "reversed.__next__" :=
 .of (owner:="reversed") (n:="__next__") (by rw[vI,uT];kernel_rfl) (by decide +kernel) (by decide +kernel) (by decide +kernel)
  (by first|exact .uW (by decide +kernel)|exact .uK (by decide +kernel)) (by rw[isSubtype_type];kernel_rfl)
def IK:entryFor table "reversed.__next__"=p' t6.«reversed.__next__»:=entryFor_of_tree (by kernel_rfl)
def Ku(a:tM):argsOk "reversed.__next__" {[a],[]}:=by unfold argsOk;rw[signature?_of (n:=['_','_','t','x','e','n','_','_']) (by kernel_rfl) Ij];kernel_rfl
def Fb:Slot "reversed" "__iter__" "reversed.__iter__" :=
 .of (owner:="reversed") (n:="__iter__") (by rw[vI,uT];kernel_rfl) (by decide +kernel) (by decide +kernel) (by decide +kernel)
  (by first|exact .uW (by decide +kernel)|exact .uK (by decide +kernel)) (by rw[isSubtype_type];kernel_rfl)
def Kv(a:tM):argsOk "reversed.__iter__" {[a],[]}:=by unfold argsOk;rw[signature?_of (n:=['_','_','r','e','t','i','_','_']) (by kernel_rfl) Ij];kernel_rfl
def IL:entryFor table "reversed.__iter__"=p' t6.«dict_keyiterator.__iter__» :=
 entryFor_alias (id':="dict_keyiterator.__iter__") (by kernel_rfl) (by first|rfl|decide +kernel|(unfold wb.splitOn;simp +decide [wb.splitOnAux])) (by decide +kernel) (by kernel_rfl)
def Js:Slot "reversed" "__init__" "object.__init__" :=
 .of (owner:="object") (n:="__init__") (by rw[vI,uT];kernel_rfl) (by decide +kernel) (by decide +kernel) (by decide +kernel)
  (by first|exact .uW (by decide +kernel)|exact .uK (by decide +kernel)) (by rw[isSubtype_type];kernel_rfl)
def Q6:TypeCalled "reversed" "reversed.__new__" "object.__init__" :=
 {by decide +kernel,by decide +kernel,{_,_,mro_reversed},made_reversed,by decide +kernel,by rw[isSubtype_type];kernel_rfl,Js}
def SV:typeLookup (.uJ "reversed") "__len__"=wx none:=by rw[vI,uT];kernel_rfl
def Dl:Slot "reversed" "__length_hint__" "reversed.__length_hint__" :=
 .of (owner:="reversed") (n:="__length_hint__") (by rw[vI,uT];kernel_rfl) (by decide +kernel) (by decide +kernel) (by decide +kernel)
  (by first|exact .uW (by decide +kernel)|exact .uK (by decide +kernel)) (by rw[isSubtype_type];kernel_rfl)
def IM:entryFor table "reversed.__length_hint__"=p' t6.«reversed.__length_hint__»:=entryFor_of_tree (by kernel_rfl)
def Kw(a:tM):argsOk "reversed.__length_hint__" {[a],[]}:=by unfold argsOk;rw[signature?_of (n:="__length_hint__".uP.vn) (by kernel_rfl) Ij];kernel_rfl
end F
end PySem
namespace PySem
open PyProof.Rows (IsTup)
namespace Rv
variable{prog:Program}{w:World}{A:Around}{E:Zcv}{s:Shared}
end Rv
end PySem
namespace Lake.L2
open PySem PySem.Spec PyProof.Rows
end Lake.L2
namespace HT
open PySem PyProof.Rows
variable{prog:Program}{w:World}{A:Around}{E:Zcv}{s:Shared}
def ES{lo hi:tL tN}(ht:IsTup s.tK t uL)(hs:s.tK.IsSliceOf sl vl vu .none)(pl:IsPart vl lo)(pu:IsPart vu hi)
  (hw:sIx uL.tX 0 lo=0/\sIx uL.tX uL.tX hi=uL.tX) (h:Q (.t8 t) s):ue (uf ub w) A (getItem (.t8 t) (.t8 sl)) Q E s:=by
 let{os,fm,fF,fW}:=id hs;unfold getItem
 try with_reducible refine vQ ?_
 first|refine nR (n6 ?_)|skip
 refine nR (wpAny_sequenceKey ht.wM ZB ?_);refine nR (wpAny_callSpecial?_slot ht.wM vT
  (v9 vT ht.wM entry_tuple_getitem ?_ (args_tuple_getitem _ _)))
 show ue _ _ (t6.Tuple.tupleItemsOf (.t8 t) >>= _) _ _ s;refine nR (tupleItemsOf_ ht ?_);refine nR (wpAny_typeOf ({os,fm,fF}) ?_);refine nR (C8 hs pl pu ?_);show ue _ _ (if(((sIx uL.tX 0 lo:tQ):tN)==0&&(1:tN)==1&&(sIx uL.tX uL.tX hi-sIx uL.tX 0 lo)==uL.tX)=true then _ else _) _ _ s;rw[tW (by rw[hw.1,hw.2];simp)];refine nR ?_;refine nR (wpAny_typeOf ht.wM (n6 ?_));exact nR (wpAny_rule (n6 {_,rfl,n6 h}))
end HT
namespace Lake.L2
open PySem PySem.Spec PyProof.Rows
inductive rSlA(K:Fg)(x:V)(lo:tL tN)(hi:tL tN)(H:Hp)(Q:VK):Prop
 |mk (a xs:_) (h0:x=.t8 a) (h1:SqT K H a xs) (h2:(HT.sIx xs.fg 0 lo=0/\HT.sIx xs.fg xs.fg hi=xs.fg)) (h3:Q (.t8 a) H)
def JaA:SlR X (rSlA X.K):=by
 intro aa s U H x v vl vu lo hi sl Q I rx hs pl pu h;let{a,xs,rfl,hx,hw,q}:=h;cases rx;let{uU,r,ht,hz}:=I.wz hx;have hlen:uU.tZ.tX=xs.fg:=by rw[nZ];exact r.fg.symm
 refine{"tuple",_,PyProof.Rows.vT.t7,ht.wM,?_};exact HT.ES ht hs pl pu (by rwa[hlen]) {.t8 a,H,I,rfl,q}
end Lake.L2
namespace Lake.L2
open PySem PySem.Spec PySem.W PyProof.Rows
def B6 :tH tN->tQ
 | []=>0
 |n::ns=>t6.tN.vh n+1+B6 ns
def GY:∀ns:tH tN,WData.weightAll (ns.tJ WData.tS)=B6 ns
 | []=>by simp[WData.weightAll,B6]
 |n::ns=>by simp![nV,WData.weightAll,GY ns];rfl
end Lake.L2
namespace Lake.L2
open PySem PySem.Spec
def U5(h:Ha k u=true):vg (kV k) u:=by
 cases k with
 |uW i =>
  have h:tM.isInt i u=true:=h;cases u<;>first
   |(simp[tM.isInt]at h;subst h;exact{_,rfl})
   |(simp at h)
   |(cases h)
 |uK x =>
  have h:tM.isStrOf x u=true:=h;cases u<;>first
   |(simp[tM.isStrOf]at h;subst h;exact{_,rfl})
   |(simp at h)
   |(cases h)
def epOf (o:Obj):tQ:=match o.uX with|.dict _ ep=>ep|_=>0
def Itd (a:tV)(o:Obj)(ag:tH (vc×V)):It :=
 {λi H=>H a=p' (.frz o (.v ag))/\i<ag.fg,λi H x H'=>H'=H/\∃k,(ag.tJ (·.1))[i]?=p' k/\x=kV k,λi H=>H a=p' (.frz o (.v ag))/\ag.fg<=i}
variable{X:Cx}{aa:Zao}{U:St}{H:Hp}{s:Shared}{a:Addr}{o:Obj}{ag:List (Key×V)}
def uF.ZM(I:uF X aa U H s)(e:H a=p' (.frz o (.v ag))):(a==wa)=false/\∃vs,KV ag vs/\s.tK.DictAt (Bj X.ub X.w) a vs (epOf o):=by
 let{h1,h2}:=(show Bt X.ub X.w H s.tK a (.frz o (.v ag))from I.zZ a _ e)
 let{z,hd,vs,aB,dd}:=(show ag.fg<=t9/\(a==wa)=false/\∃vs,KV ag vs/\s.tK.DictOf (Bj X.ub X.w) a vs from h2)
 refine{hd,vs,aB,?_};let{o',es,ep,ho,hc,iJ,r}:=dd;rw[h1]at ho;cases ho;refine{o,es,h1,hc,?_,r};unfold epOf;rw[iJ]
def uF.freeze(I:uF X aa U H s)(e:H a=p' (.v ag)):∃o,uF X aa U (vi H a (.frz o (.v ag))) s:=by
 let{z,hd,vs,aB,dd}:=(show ag.fg<=t9/\(a==wa)=false/\∃vs,KV ag vs/\s.tK.DictOf (Bj X.ub X.w) a vs from((show Bt X.ub X.w H s.tK a (.v ag)from I.zZ a _ e)))
 let{o,es,ep,ho,r}:=id dd;exact{o,I.write (by rw[e];exact uQ.intro) (.uW rfl) (λ_ _ _ z=>z) {o,ho} {ho,z,hd,vs,aB,dd} }
def Oz{P:wf}{w:wK}{K:Fg}{tg:v7}(a it:tV)(o:Obj)(ag:tH (vc×V)):Turn P w K tg (Itd a o ag) [it] it (λi h=>h.IsKeyIter it a i ag.fg (epOf o)) where
 mem:=by simp
 obj:=λi h st b hb=>by
  have e:b=it:=by simpa using hb
  subst e;let{o,e,c,d}:=st;exact{o,e,λv z=>by rw[d]at z;cases z}
 keep:=λi h h' st k=>by let{o,e,r}:=st;exact{o,k it (by simp) o e,r}
 item:=by
  intro X hP hw hK hc i aa s U H E I hf st hg;subst hP hw hK;let{he,hi}:=hg;let{hd,vs,aB,da}:=I.ZM he;have hl:=aB.fg;have b7:i<vs.fg:=by lia
  let{f0,f1,f2,f3,f4,f5}:=hf it (by simp);have hx:vs[i]?=p' ((vs[i]).1,(vs[i]).2):=nX b7;rw[hl]at st;refine wpAny_pyNext_dict_item st da hx λkey h' hk aZ sb=>?_
  rw[<- hl]at aZ;have I1:uF X aa U H {s with tK:=h' }:=I.turned (t':=s.vj) (λb o hb e=>(sb.2 b hb).trans e) f0 f1 f3 f4 f5;let{o',e,c,d}:=id aZ;have eM:(ag.tJ (·.1))[i]?=p' (vs[i]).1:=by
   have:ag.tJ (·.1)=vs.tJ (·.1):=by
    clear hx b7 hl da st hk aZ sb I1 e c d he hi;unfold KV at aB
    induction aB with|vO=>rfl|ux h t ih=>rw[nV,nV,h.1,ih]
   rw[this,oq,nX b7];rfl
  exact{key,rfl,Ld (s:={s with tK:=h' }) e c d ZB {kV (vs[i]).1,H,I1,U5 hk,{rfl,_,eM,rfl},aZ,λb hb=>(hf b hb).1} }
 done:=by intro X hP hw hK hc i aa s U H E I hf st hg;subst hP hw hK;let{he,hi}:=hg;let{hd,vs,aB,da}:=I.ZM he;have hl:=aB.fg;let{f0,f1,f2,f3,f4,f5}:=hf it (by simp);rw[hl]at st;exact wpAny_pyNext_dict_end (I.ok.hd hc) st da (o7 (by lia)) λh' eb=>{rfl,I.turned (t':=s.vj) (λb o hb e=>eb b o hb e) f0 f1 f3 f4 f5}
 self:=λ_ _ _ _ _ st h=>wpAny_pyIter_keyiter st h
variable{tg:Expr}
def GW(hc:X.calm=true):B7 X (.uJ "list") (λxs H Q=>∃p ag,xs=[.t8 p]/\Rd H p (.v ag)/\∀l,H l=none->Q (.t8 l) (vi H l (.tY (ag.tJ λkv=>kV kv.1)))):=by
 intro aa s U H xs us Q I r h;let{p,ag,rfl,hp,q}:=h;let{u,rfl,rx}:=vals1 r;cases rx;let{z,hd,vs,aB,dd}:=Fv I.zZ hp;let{ep,da}:=dd.dictAt;refine PySem.W.kdl_call (kdl_dict hd) (I.ok.hd hc) da (by rwa[<- (Paired.fg aB)]) λh' tk ar c' kp e bZ=>?_
 refine{.t8 s.tK.uc.tX,_,I.laid kp (oh _) (show Bt X.ub X.w _ h' _ (.tY (ag.tJ λkv=>kV kv.1))from{by rw[nU];exact z,ar.uP,c',Jk aB bZ,by simpa using e}),rfl,q _ (I.zZ.vJ (oh _))}
def N0:B7 X (.uM "len") (λxs H Q=>∃a ag,xs=[V.t8 a]/\Rd H a (.v ag)/\Q (.tS ag.fg) H):=by intro aa s U H xs us Q I r h;let{a,ag,rfl,ha,q}:=h;let{u,rfl,ru}:=vals1 r;cases ru;exact d_len I ha λt s' I'=>{.tS ag.fg,H,I',{t,rfl},q}
def N1:B7 X (.uJ "dict") (λxs H Q=>∃a ag,xs=[.t8 a]/\Rd H a (.v ag)/\∀l,H l=none->Q (.t8 l) (vi H l (.v ag))):=by intro aa s U H xs us Q I r h;let{a,ag,rfl,ha,q}:=h;let{u,rfl,rx}:=vals1 r;cases rx;exact Ui I ha λp s' hp I'=>{.t8 p,_,I',rfl,q p hp}
def Jcd (td:TE):TI:=λU H R=>td U H λx H1=>∃a ag,x=.t8 a/\((H1 a=p' (.v ag)/\∀o,R (Itd a o ag) (vi H1 a (.frz o (.v ag))))\/∃o,H1 a=p' (.frz o (.v ag))/\R (Itd a o ag) H1)
def SG{l:v7}{td:TE}(hl:PE X l td):PI X tg l (Jcd td):=by
 intro aa s U H R I h;refine wo (hl aa s U H _ I h) λv s1 aj=>?_
 let{x,H1,I1,r1,q1}:= aj;let{a,ag,e,hq}:=q1;subst e;cases r1
 suffices key:∃(o:Obj)(H2:Hp),uF X aa U H2 s1/\H2 a=p' (.frz o (.v ag))/\R (Itd a o ag) H2 by
  let{o,H2,I2,h2,q}:=key;let{hd,vs,aB,da}:=I2.ZM h2;have hlen:=aB.fg;refine wpAny_pyIter_dict hd da ?_;refine{s1.tK.uc.tX,[s1.tK.uc.tX],_,_,_,rfl,I2.kept (t':=s1.vj) λb o e=>nY _ e,Oz a _ o ag,{_,oi _ rfl,rfl,by rw[hlen];rfl},λb hb=>?_,q};have e:b=s1.tK.uc.tX:=by simpa using hb
  subst e;exact I2.RG (oh _) (I2.zZ.vJ (oh _))
 rcases hq with⟨hq,q⟩|⟨o,hq,q⟩
 .let{o,I2}:=I1.freeze hq;exact{o,_,I2,Aq,q o}
 .exact{o,H1,I1,hq,q}
def tFrz (td:TE):TE:=λU H Q=>td U H λx H1=>∃a ag,x=.t8 a/\H1 a=p' (.v ag)/\∀o,Q (.t8 a) (vi H1 a (.frz o (.v ag)))
def Vl{e:v7}{td:TE}(h:PE X e td):PE X e (tFrz td):=by
 intro aa s U H Q I q;refine wo (h aa s U H _ I q) λv s1 aj=>?_
 let{x,H1,I1,r1,a,ag,ex,hq,q}:= aj;subst ex;cases r1;let{o,I2}:=I1.freeze hq;exact{.t8 a,_,I2,rfl,q o}
end Lake.L2
namespace Lake.L2
open PySem PySem.Spec PyProof.Rows PySem.W
def PY:∀(K:Fg),(K.tJ (·.1)).tJ h.ua=K.tJ (λp=>p' p.2)->K.In h
 | [],_=>λa o e=>by cases e
 |p::K,hk=>λa o e=>by
  simp![nV,tH.ux.injEq]at hk;rw[pf]at e;by_cases q:a=p.1
  .subst q;rw[show(p.1==p.1)=true by simp]at e;cases e;exact hk.1
  .rw[show(a==p.1)=false by simpa using q]at e;exact PY K hk.2 a o e
end Lake.L2
namespace Lake.L2
open PySem PySem.Spec PyProof.Rows
def ExT (h:uS)(vs:vp tM)(a:tV)(fl:tM):tL tV->Prop
 |none=>vs[1]?=p' .none
 |p' T=>vs[1]?=p' (.t8 T)/\T≠a/\∃oT ts,h.ua T=p' oT/\oT.uX=.vt ts/\ts[3]?=p' fl
inductive UJ(h:uS)(a:tV)(c:tM)(T:tL tV)(fl:tM):Prop
 |mk (oe:Obj) (vs:vp tM) (h0:h.ua a=p' oe) (h1:oe.cls=c) (h2:oe.dict=none) (h3:oe.uX=.vt vs) (h4:ExT h vs a fl T)
def Obj.QU(o:Obj)(f:vp tM->vp tM):(o.mapFields f).dict=o.dict:=by let{_,_,dt,_}:=o;cases dt<;>rfl
variable{M:Model}{A:Around}{E:Zcv}{s:Shared}
theorem MQ
  (cG:A.v5=p' (uh::uY)) (hl:s.tK.FunFrames uk (uh::uY)) (hf:uh.frame=p' L) (he:s.tK.ua e=p' oe) (dI:oe.dict=none) (hd:oe.uX=.vt vs) (hsz:1<vs.tX)
  (h:∀h' T,s.tK.uc.tX<=T->(∀b o,s.tK.ua b=p' o->b∉frs (uh::uY)->b≠e->h'.ua b=p' o)->(∀b o,s.tK.ua b=p' o->b∈frs (uh::uY)->∃sl,h'.ua b=p' {o with slots:=sl}) ->
   UJ h' e oe.cls (p' T) (wN L)->Q () {s with tK:=h' }) :
  ue M A (do let a <- frameOf uh;let pl <- entryPlaceOf L hadNext;let b <- EntryCells.newEntry head a .none (wN L) .none pl;setField (.t8 e) 1 b) Q E s:=by
 have jU:e∉(uh::uY).filterMap (·.frame):=λhm=>by let{_,o,ho,dR}:=hl.mem hm;rw[he]at ho;injection ho with ho;subst ho;exact dR vs hd
 refine nR (wpAny_frameOf_fun cG hl hf λaN cx=>?_);refine nR (wpAny_entryPlaceOf λpl aG=>?_);refine nR (wR ?_ (aG.sizeOk5 _ _ _ _ _));have eJ:=(cx.2.1 e jU).trans he;have eK:=nY {cls:=.uJ "traceback",dict:=none,uX:=.vt ([head,.t8 L,.none,wN L,.none]++(if pl.vb then tH.uN 6 tM.none else pl)).tZ} eJ;refine wpAny_setField eK hd hsz ?_;have eY:=qG (ot eJ);have eI:=Obj.data_mapFields hd (·.setIfInBounds 1 (tM.t8 aN.uc.tX));have keep:∀b o,b≠e->aN.ua b=p' o ->
   ((aN.vY {cls:=.uJ "traceback",dict:=none,uX:=.vt ([head,.t8 L,.none,wN L,.none]++(if pl.vb then tH.uN 6 tM.none else pl)).tZ}).update e (Obj.mapFields (·.setIfInBounds 1 (tM.t8 aN.uc.tX)))).ua b=p' o:=λb o cY hb=>by
  rw[oX _ _ (Ne.symm cY)];exact nY _ hb
 refine h _ aN.uc.tX (by rw[cx.1];exact oh _) (λb o hb hn cY=>keep b o cY ((cx.2.1 b hn).trans hb)) (λb o hb hn=>?_) ?_
 .let{sl,q}:=cx.2.2 b o hb;exact{sl,keep b _ (λz=>jU (by rwa[<- z])) q}
 .exact{_,_,(pG (Obj.mapFields (·.setIfInBounds 1 (tM.t8 aN.uc.tX))) eK (Obj.isFreed_of_fields eI)),Obj.cls_mapFields _ _,(Obj.QU _ _).trans dI,eI,by simp[hsz],eY,_,_,((oX (aN.vY {cls:=.uJ "traceback",dict:=none,uX:=.vt ([head,.t8 L,.none,wN L,.none]++(if pl.vb then tH.uN 6 tM.none else pl)).tZ})
  (Obj.mapFields (·.setIfInBounds 1 (tM.t8 aN.uc.tX))) (Ne.symm eY)).trans (oi aN rfl)),rfl,by first|(simp;done)|(rcases aG with rfl|⟨_,_,_,_,_,_,_,rfl⟩<;>simp)}
structure RD(X:Cx):Prop where
 pn:X.pn=[]
 ex:X.ex=[]
 st:X.wA=X.uh::X.uY
 fr:X.uh.frame=p' X.uh.vX
def Bt.get(x:Bt P w H h a o):∃u,h.ua a=p' u:=by cases o with|tY xs=>let{_,_,_,_,e}:=x;exact{_,e}|uj xs=>let{_,_,_,ob,e,_}:=x;exact{_,e}|v ag=>let{_,_,_,_,o,_,_,e,_}:=x;exact{_,e}|q ag=>let{_,_,_,_,o,_,_,e,_}:=x;exact{_,e}|wJ S n=>let{o,_,_,_,e,_}:=x;exact{_,e}|vE C dx fs=>let{_,_,_,e,_}:=x;exact{_,e}|uI y=>let{_,e}:=x;exact{_,e}|xd fs=>let{_,{_,_,_,e,_},_}:=x;exact{_,e}|yF lo hi=>let{_,_,_,e}:=x;exact{_,e}|frz ob u=>let{e,_}:=x;exact{_,e}|yT ps=>exact{_,(show h.ua a=p' _ from x)}|met f y=>exact{_,(show h.ua a=p' _ from x)}|ext φ=>let{_,{_,e},_}:=x;exact{_,e}
def HOk.none(x:HOk P w H h)(e:h.ua a=none):H a=none:=by cases q:H a with|none=>rfl|p' u =>let{o,z}:=(x a u q).get;rw[e]at z;cases z
variable{X:Cx}{U:St}{H:Hp}{h':Heap}{ch:List Addr}
def uF.kp(I:uF X aa U H s)(iU:X.pn=[])(k:∀b o,s.tK.ua b=p' o->b∉frs X.wA->b∉ch->h'.ua b=p' o)(sl:∀b o,s.tK.ua b=p' o->b∈frs X.wA->∃sl,h'.ua b=p' {o with slots:=sl})
  (nc:∀b∈ch,X.zW.tK.ua b=none/\H b=none/\∃o vs,s.tK.ua b=p' o/\o.uX=.vt vs):uF X [] U H {s with tK:=h' }:=by
 have any:=λb o e n=>by
  by_cases hb:b∈frs X.wA
  .exact sl b o e hb
  .exact{o.slots,k b o e hb n}
 have n0:∀b o,X.zW.tK.ua b=p' o->b∉ch:=λb o e z=>by have:=(nc b z).1;rw[e]at this;cases this
 have nf:∀b o,s.tK.ua b=p' o->(∀vs,o.uX≠.vt vs)->b∉ch:=λb o e hd z=>by let{_,_,o',vs,e',d}:=nc b z;rw[e]at e';cases e';exact hd vs d
 have bQ:∀x c,X.uh.cells.t7 x=p' c->∀v,s.tK.IsCell c v->h'.IsCell c v:=λx c e v {o,ho,hd}=>by let{l,q}:=any c o ho (nf c o ho λvs z=>by rw[hd]at z;cases z);exact{_,q,hd}
 refine{I.ok,I.os,I.bare,{λb o e n hb hx=>?_,λb o e n hb hx=>?_,I.uk.vK,λb o e hx=>?_,I.uk.zz,I.uk.zI,I.uk.zA},?_,λx c e=>?_,I.vK,I.zV,λp hp=>?_,λb u e=>?_,I.wv}
 .refine k b o (I.uk.keep b o e n hb hx) (λz=>?_) (n0 b o e);rcases oz.mp (I.Jr b z)with z|z
  .exact oI (oA (ot e) I.ok.above) z
  .exact hb z
 .let{l,e1}:=I.uk.vH b o e n hb hx;let{l',e2}:=any b _ e1 (n0 b o e);exact{l',e2}
 .let{o',e1}:=I.uk.there b o e hx;let{l',e2}:=any b _ e1 (n0 b o e);exact{_,e2}
 .let{m,{o,es,ep,ho,hd,r},hl}:=I.loc;let{l,q}:=any _ o ho (nf _ o ho λvs z=>by rw[hd]at z;cases z);refine{m,{_,es,ep,q,hd,r},λi x v e1 e2 e3=>?_};let{u,rv,z}:=hl i x v e1 e2 e3;refine{u,rv,?_};rcases z with z|⟨kk,c,e,z⟩
  .exact .uW z
  .exact .uK {kk,c,e,bQ x c e _ z}
 .let{v,z}:=I.wI x c e;exact{v,bQ x c e v z}
 .rw[iU]at hp;cases hp
 .have nn:∀c,(c=b\/H c=p' (.uI b))->H c≠none:=λc hc z=>by
   rcases hc with rfl|hc
   .rw[z]at e;cases e
   .rw[z]at hc;cases hc
  exact(I.zZ b u e).U0 (λc v hc q=>k c v q (λz=>nn c hc (I.KR c z)) λz=>nn c hc (nc c z).2.1) (λ_ q=>q) λ_ _ q=>q
def uF.new(I:uF X aa U H s)(D:X.ex=[])(e:s.tK.ua b=none):X.zW.tK.ua b=none/\H b=none:=by refine{?_,I.zZ.none e};cases q:X.zW.tK.ua b with|none=>rfl|p' o =>let{o',z}:=I.uk.there b o q (by rw[D];simp);rw[e]at z;cases z
variable{a:Addr}{c fl:Value}{T:Option Addr}{Q:Unit->Shared->Prop}
def NewX (X:Cx)(H:Hp)(a:tV)(T:tL tV):Prop:=∀b,b=a\/T=p' b->X.zW.tK.ua b=none/\H b=none
def UJ.there(e:UJ s.tK a c T fl):∀b,b=a\/T=p' b->∃o vs,s.tK.ua b=p' o/\o.uX=.vt vs:=by
 let{oe,vs,h1,h2,h3,h4,h5}:=e;intro b hb;rcases hb with rfl|rfl
 .exact{oe,vs,h1,h4}
 .let{_,_,oT,ts,q1,q2,_}:=h5;exact{oT,ts,q1,q2}
def K3(D:RD X)(cG:A.v5=p' X.wA)(I:uF X [] U H s)(e:UJ s.tK a c T fl)(kU:fl=.none\/fl=wN X.uh.vX)(nw:NewX X H a T)
  (h:∀h' T',UJ h' a c (p' T') (wN X.uh.vX)->NewX X H a (p' T')->uF X [] U H {s with tK:=h' }->Q () {s with tK:=h' }):ue M A (noteFrame (.t8 a) X.uh) Q E s:=by
 have hl:=I.wA;rw[D.st]at cG hl;let{oe,vs,he,bT,dI,hd,ht}:=id e;subst bT;unfold noteFrame;simp![D.fr];cases T with
 |none =>
  refine nR (pj he hd ht ?_);refine MQ cG hl D.fr he dI hd (qd.mp ht).1 λh' T' q1 q2 q3 q4=>?_
  have nT:=I.new D.ex (uS.get?_none_of_le q1);refine h h' T' q4 (λb hb=>hb.tU (λz=>nw b (.uW z)) λz=>by cases z;exact nT) (I.kp (ch:=[a]) D.pn (λb o x y z=>q2 b o x (by rwa[<- D.st]) λw=>z (by simp[w])) (λb o x y=>q3 b o x (by rwa[<- D.st])) λb hb=>?_);rw[oF.mp hb];exact{(nw a (.uW rfl)).1,(nw a (.uW rfl)).2,oe,vs,he,hd}
 |p' T =>
  let{h1,eY,oT,ts,hT,dH,h3}:=ht;refine nR (pj he hd h1 ?_);refine nR (pj hT dH h3 ?_);rcases kU with rfl|rfl
  .rw[ug (show ¬((tM.none==wN X.uh.vX)=true)from by simp[wN])];refine nR (wpAny_setField hT dH (qd.mp h3).1 ?_);have other:∀b,b≠T->(s.tK.update T (Obj.mapFields (·.setIfInBounds 3 tM.none))).ua b=s.tK.ua b:=λb hb=>oX _ _ (Ne.symm hb)
   have lX:T∉frs X.wA:=λhm=>by let{_,o,ho,dR}:=I.wA.mem hm;rw[hT]at ho;injection ho with ho;subst ho;exact dR ts dH
   refine MQ cG (hl.of_keeps λb o hb dR=>{o,(other b ((λb o hb dR q=>by rw[q,hT]at hb;injection hb with hb;subst hb;exact dR ts dH) b o hb dR)).trans hb,rfl}) D.fr ((other a (Ne.symm eY)).trans he) dI hd (qd.mp h1).1 λh' T' q1 q2 q3 q4=>?_
   have nT:=I.new D.ex (uS.get?_none_of_le (by have:(s.tK.update T (Obj.mapFields (·.setIfInBounds 3 tM.none))).uc.tX=s.tK.uc.tX:=uS.size_after_update ..;rwa[<- this]));refine h h' T' q4 (λb hb=>hb.tU (λz=>nw b (.uW z)) λz=>by cases z;exact nT) (I.kp (ch:=[a,T]) D.pn (λb o x y z=>?_) (λb o x y=>?_) λb hb=>?_)
   .exact q2 b o ((other b λw=>z (by simp[w])).trans x) (by rwa[<- D.st]) λw=>z (by simp[w])
   .exact q3 b o ((other b λw=>lX (by rwa[<- w])).trans x) (by rwa[<- D.st])
   .have eF:b=a\/p' T=p' b:=by
     rcases oz.mp hb with z|z
     .exact .uW z
     .exact .uK (by rw[oF.mp z])
    exact{(nw b eF).1,(nw b eF).2,e.there b eF}
  .rw[tW (show(wN X.uh.vX==wN X.uh.vX)=true from by simp)];exact n6 (h s.tK T e nw I)
def Ey(iU:X.pn=[])(I:uF X [] U H s)(e:UJ s.tK a c T fl)(nw:NewX X H a T)
  (h:∀h',UJ h' a c T (f.tU .none λf=>wN f)->uF X [] U H {s with tK:=h' }->Q () {s with tK:=h' }):ue M A (setFlight (.t8 a) f) Q E s:=by
 let{oe,vs,he,bT,dI,hd,ht}:=id e;cases T with
 |none =>refine nR (pj he hd ht ?_);exact n6 (h s.tK {oe,vs,he,bT,dI,hd,ht} I)
 |p' T =>
  let{h1,eY,oT,ts,hT,dH,h3}:=ht;have hsz:=(qd.mp h3).1;refine nR (pj he hd h1 ?_);have other:∀b,b≠T->(s.tK.update T (Obj.mapFields (·.setIfInBounds 3 (f.tU tM.none λf=>wN f)))).ua b=s.tK.ua b:=λb hb=>oX _ _ (Ne.symm hb)
  refine wpAny_setField hT dH hsz (h _ {oe,vs,(other a (Ne.symm eY)).trans he,bT,dI,hd,h1,eY,_,_,pG _ hT (Obj.isFreed_of_fields (Obj.data_mapFields dH _)),Obj.data_mapFields dH _,by simp[hsz]} (I.kp (ch:=[T]) iU (λb o x _ z=>(other b λw=>z (by simp[w])).trans x) (λb o x y=>?_) λb hb=>?_))
  .refine{o.slots,(other b λw=>?_).trans x};let{_,o',cu,dR}:=I.wA.mem y;rw[w,hT]at cu;injection cu with cu;subst cu;exact dR ts dH
  .rw[oF.mp hb];exact{(nw T (.uK rfl)).1,(nw T (.uK rfl)).2,e.there T (.uK rfl)}
def XE:=tM->St->Hp->Prop
inductive XW(X:Cx)(Z:XE)(e:tM)(s:ud):Prop
 |mk (a:tV) (c:tM) (T:tL tV) (fl:tM) (U:St) (H:Hp) (h0:e=.t8 a) (h1:uF X [] U H s) (h2:UJ s.tK a c T fl) (h3:fl=.none\/fl=wN X.uh.vX) (h4:NewX X H a T) (h5:Z c U H)
inductive CX1(P:wf)(w:wK)(uY:tH Env)(H:Hp)(s:ud)(E:XK)(e:tM)(s':ud):Prop
 |mk (a:tV) (c:tM) (T:tL tV) (H':Hp) (h0:e=.t8 a) (h1:s'.os=s.os) (h2:AllBare s'.gens) (h3:Un (frs uY) [] H H' s.tK s'.tK) (h4:HOk P w H' s'.tK) (h5:UJ s'.tK a c T .none) (h6:∀b,b=a\/T=p' b->s.tK.ua b=none/\H' b=none) (h7:E c none H')
variable{Z Z':XE}{e:Value}{s':Shared}{aa:Zao}
def XW.imp(h:XW X Z e s)(k:∀c U H,Z c U H->Z' c U H):XW X Z' e s :=
 let{a,c,T,fl,U,H,q1,q2,q3,q4,q5,q6}:=h
 {a,c,T,fl,U,H,q1,q2,q3,q4,q5,k _ _ _ q6}
def XW.F9(h:XW (X.F9 E) Z e s):XW X Z e s :=
 let{a,c,T,fl,U,H,q1,q2,q3,q4,q5,q6}:=h
 {a,c,T,fl,U,H,q1,q2.D1,q3,q4,q5,q6}
def CX1.xw(D:X.ex=[])(I:uF X aa U H s)(h:CX1 X.ub X.w X.wA H s (λc _ H'=>Z c U H') e s'):XW X Z e s':=by let{a,c,T,H',rfl,q1,q2,q3,q4,q5,q6,q7}:=h;exact{a,c,T,.none,U,H',rfl,(I.call' q1 q3 q4 q2 λb z=>uD z (by simp)).Ii λ_ z=>uD z (by simp),q5,.uW rfl,λb hb=>{(I.new D (q6 b hb).1).1,(q6 b hb).2},q7}
def XW.uI(D:RD X):PassesOwn (uf X.ub X.w) X.A X.uh (XW X Z):=by
 intro e s' h;let{a,c,T,fl,U,H,rfl,I,q3,q4,q5,q6}:=h;refine K3 D I.ok.v5 I q3 q4 q5 λh1 T1 e1 n1 I1=>?_
 let{oe,vs,he,hc,dI,hd,ht}:=id e1;refine nR (pj he hd ht.1 ?_);rw[D.fr];exact Ey D.pn I1 e1 n1 λh2 e2 I2=>{a,c,p' T1,wN X.uh.vX,U,H,rfl,I2,e2,.uK rfl,n1,q6}
variable{P:Program}{w:World}{K:Fg}{mg:Zsv}{base:Heap}{N:List Str}{qual:Str}{scope:Scope}{f:Addr}{cd:Value}{outer:List Env}{E:XK}
def defCx:RD (NZ (CX1 P w) P w K mg uk N qual uR f cd A uY s H E):={rfl,rfl,rfl,rfl}
def xe_of(h:XW (NZ (CX1 P w) P w K mg uk N qual uR f cd A uY s H E) (λc _ H'=>E c none H') e s'):(NZ (CX1 P w) P w K mg uk N qual uR f cd A uY s H E).xe e s':=by
 let{a,c,T,fl,U,H',rfl,I,q3,q4,q5,q6}:=h;show ue _ _ (leaving (NZ (CX1 P w) P w K mg uk N qual uR f cd A uY s H E).uh (.t8 a)) _ _ s';refine nR (K3 defCx I.ok.v5 I q3 q4 q5 λh1 T1 e1 n1 I1=>?_);refine Ey rfl I1 e1 n1 λh2 e2 I2=>?_
 exact{a,c,p' T1,H',rfl,I2.os,I2.bare,I2.uk,I2.zZ,e2,n1,q6}
def Lk (X:Cx)(Z:XE):Prop:=∀(aa:Zao)(U:St)(H:Hp)(s:ud)(e:tM)(s':ud),uF X aa U H s->CX1 X.ub X.w X.wA H s (λc _ H'=>Z c U H') e s'->X.xe e s'
def Lk.of(D:X.ex=[])(k:∀e s,XW X Z e s->X.xe e s):Lk X Z:=λ_ _ _ _ _ _ I h=>k _ _ (CX1.xw D I h)
variable{k:Nat}{C:Addr}{fd:FuncData}{ps:List Str}{sp:Sp}{x m:Str}{p pos aw:Pos}{e o:Expr}{es:List Expr}{ta:TE}{t:TA}
def Jas (sp:Sp)(Z:XE)(t:TA):TE:=λU H Q=>t U H λvs H1=>sp vs H1 Q λc _ H'=>Z c U H'
def OR{Q}(F:Fm X.ub X.w X.K X.mg X.uk (CX1 X.ub X.w) k f fd ps sp)(hr:Di k X.A)(hb:Binds X.K fd ps [])(hx:Lk X Z)
  (I:uF X aa U H s) (r:vo vs us) (h:sp vs H Q λc _ H'=>Z c U H'):ue (uf X.ub X.w) X.A (call (.t8 f) us) (EP X aa U Q) X.xe s:=by
 have b:=hb s us I.kIn (by rw[oJ];exact(by rw[<- r.fg];exact F.wv _ _ _ _ h));rw[oJ]at b;refine wpAny_call (codeAny_mono (F.run X.A X.wA s H {us,[]} us vs Q _ hr I.env0 b r h) λr s' hq=>?_);cases r with|error e=>exact hx aa U H s e s' I hq|ok fl =>cases fl with|wH u=>exact I.after hq|next=>exact vd.tU hq|brk=>exact vd.tU hq|cont=>exact vd.tU hq
def Jbg(G:FnAt X.ub X.w X.K X.mg X.uk (CX1 X.ub X.w) x k ps sp)(hr:Di k X.A)(hx:Lk X Z)(ha:PA X (e::es) t)(hg:Gl X x:=by rfl)(aY:Zdb x:=by decide)
  (he:Zsc X.uh e es:=by rfl) (aG:Zbt X.uh uG es:=by rfl):PE X (.vM (.uE x p) (e::es) [] uG) (Jas sp Z t):=by
 let{f,fd,F,hm,hk,hb}:=G.ex;intro aa s U H Q I h;refine vS (Gw I hg hm ?_ aY);refine callWith_K I.ok.mod.yU hk (wo (ha uG aa s U H _ I h) λus s1 {vs,H1,I1,r,q}=>{I1.kIn,?_}) he aG;exact OR F hr hb hx I1 r q
def ZO :tH tM:=[.uJ "ValueError",.uJ "Exception",.uJ "BaseException",.uJ "object"]
structure ExC(K:Fg)(x:tO)(C:tV):Prop where
 at_:nsIn K uO x=p' (p' (.t8 C))
 ok:excIn K C ZO "ValueError.__new__"=true
def strD :tM->tO
 |.str s _=>s
 |_=>""
def JbB{h:uS}{m:Zsv}(G:h.Ns a m):∃l:tH tO,∀x,x∉l->m x=none:=by let{_,es,_,_,_,hk,hf}:=G;refine{es.uP.tJ λd=>strD d.key,λx hx=>?_};rw[<- hf];refine tL.map_eq_none_iff.wO (vp.find?_eq_none.wO λd md hd=>hx ?_);let{n,t,e}:=hk d md;refine oa.wO {d,md.vm,?_};rw[e]at hd ⊢;exact eq_of_beq hd
def Jak (C:tV)(Z:XE)(t:TA):TS:=λ_ U H=>t U H λvs H1=>vs.fg<=1000/\Z (.t8 C) U H1
meta def ExC.uI{h:uS}(c:ExC K x C)(M:Mod K mg h):OwnCls x C ZO "ValueError.__new__" mg h :=
 let{l,hl}:=JbB M.glob
 let{_,b,hb}:=M.blt
 PySem.W.own_of_in (p:=default) (loose:=l) M.yU {M.glob,b,M.nolimit,hb,λx _ h _ _ _=>hl x h} c.at_ c.ok
variable{np ax:Pos}
def X1(D:X.ex=[])(I:uF X aa U H s)(hm:uS.MadeExcOf s.tK h' a (.t8 C) us)(q:Z (.t8 C) U H):XW X Z (.t8 a) {s with tK:=h' }:=by
 let{t,ht,_,_}:=hm.there;refine{a,.t8 C,none,.none,U,H,rfl,(I.kept hm.keeps).Ii λ_ z=>uD z (by simp),{_,_,ht,rfl,rfl,rfl,rfl},.uW rfl,λb hb=>?_,q};rcases hb with rfl|hb
 .exact I.new D hm.new
 .cases hb
def Sr(c:ExC X.K x C)(D:X.ex=[])(hc:X.calm=true)(hx:∀e s,XW X Z e s->X.xe e s)(ha:PA X (e::es) t)(hg:Gl X x:=by rfl)(aY:Zdb x:=by decide)
  (he:Zsc X.uh e es:=by rfl) (aG:Zbt X.uh ax es:=by rfl) :
  PS X (.Raise (p' (.vM (.uE x np) (e::es) [] ax)) none uG) (Jak C Z t):=by
 intro aa s U H D' I h;let{tl,N,nm,q,bs,hdct,sn,sub,ab,col,dd,k0,k1,k2,k3,k5,mN,hC,hN,k6,T}:=(c.uI I.ok.mod).obj;refine wpAny_Raise_call_subT (C:=C) (nm:=nm) (q:=q) (N:=N) (bs:=bs) (bm:=tl) (hdct:=hdct) (sn:=sn) (sub:=sub) (ab:=ab) (col:=col) (dd:=dd) (k0:=k0) (k1:=k1) (k2:=k2) (k3:=k3) (k5:=k5)
  PySem.F.excBase_ValueError (mN:=mN) (T.hasType PySem.F.excBase_ValueError.hasBase) (I.ok.hd hc) (by rw[he];show(false||(backTo ax (vD es X.uh)).any (·.1))=false;rw[aG];rfl) k6 (Gw I hg (c.uI I.ok.mod).bound {rfl,?_} aY)
 have h1:=ha ax aa s U H _ I h;rw[he]at h1 ⊢;refine Calls.evalArgs_plain (wo h1 λus s2 {vs,H1,I1,r,hl,hz}=>{rfl,?_,I1.bk _ _ hC,hN.keeps I1.bk,T.keeps I1.bk,λh' a hm=>hx _ _ (X1 D I1 hm hz)});show us.fg<=t9;rw[<- r.fg,vk]
 lia
def exO (c:tM)(a:tV):HO:=.ext λh=>∃o vs,h.ua a=p' o/\o.cls=c/\o.dict=none/\o.uX=.vt vs
abbrev Cx.hand(X:Cx)(a:tV):Cx:={X with A:=X.A.mark (p' (.t8 a)),calm:=false,xe:=λ_ _=>vd}
def Cx.Ok.hand(ok:X.Ok):(X.hand a).Ok :=
 {ok.mod,ok.kind,ok.glob,ok.blt,ok.above,ok.inj,ok.has,ok.yR,(λz=>nomatch z),ok.v5,ok.yM,ok.yL,ok.bs,ok.ze,ok.zc,ok.zd,ok.MH,ok.yW}
def uF.hand(I:uF X aa U H s):uF (X.hand a) aa U H s:={I.ok.hand,I.os,I.bare,I.uk,I.loc,I.wI,I.vK,I.zV,I.pin,I.zZ,I.wv}
def uF.Hl(ok:X.Ok)(I:uF (X.hand a) aa U H s):uF X aa U H s:={ok,I.os,I.bare,I.uk,I.loc,I.wI,I.vK,I.zV,I.pin,I.zZ,I.wv}
def PS0 (X:Cx)(st:Stmt)(t:TS):Prop:=∀(s:ud)(U:St)(H:Hp)(D:Ends),uF X [] U H s->t D U H->ue (uf X.ub X.w) X.A (exec st X.uh) (SP X [] D) X.xe s
def UG (X:Cx)(st:tH Stmt)(t:TS):Prop:=∀(s:ud)(U:St)(H:Hp)(D:Ends),uF X [] U H s->t D U H->ue (uf X.ub X.w) X.A (execs st X.uh) (SP X [] D) X.xe s
variable{st:Stmt}{rest:List Stmt}{t u:TS}
def PS.zero(h:PS X st t):PS0 X st t:=λs U H D I q=>h [] s U H D I q
def PSs.zero(h:PSs X uu t):UG X uu t:=λs U H D I q=>h [] s U H D I q
def Pa(h1:PS0 X st t)(h2:UG X uu u):UG X (st::uu) (tSeq t u):=by intro s U H D I h;refine wpAny_execs_cons (wo (h1 s U H {D with nx:=u D} I h) λf s1 q=>?_);cases f with|next =>let{az,H',I',q}:=q;exact h2 s1 az H' D I' q|wH v=>exact q|brk=>exact q|cont=>exact q
def UG.unw{E}(h:UG (X.F9 E) uu t)(k:∀e s,E e s->X.xe e s):UG X uu t:=λs U H D I hw =>v4 (h s U H D (I.F9 _) hw) (λ_ _ q=>q.D1) λe s z=>k e s z
def fn_of0{dV kV bN pm cdv ct oc:tM}{an od:tL tV}
  {eP:vp (tL tM)} {N ps:tH tO} {sp:Sp} (lk:K.t7 f=p' {oc,od,.func (fnOf name qual params vR uR dV kV bN pm an cdv ct),eP}) (cE:codeIn K cdv qual=true) (S:Ji N ps uR)
  (wv:∀vs H Q E,sp vs H Q E->vs.fg=ps.fg)
  (cZ:∀(A:Around)(uY:tH Env)(s:ud)(H:Hp)(vs:tH V)(Q:VK)(E:XK),Di k (A.deeper (envOfC qual uR s.tK.uc.tX f cdv))->sp vs H Q E ->
   ∃t,UG (NZ CX P w K mg uk N qual uR f cdv A uY s H E) vR t/\t {nx:=λ_ H'=>Q .vG H',rt:=Q} (start N vs) H) :
  Fm P w K mg uk CX (k+1) f (fnOf name qual params vR uR dV kV bN pm an cdv ct) ps sp:=by
 refine{wv,λA uY s H args us vs Q E hr e0 hb r dA=>?_};have KX:K.In s.tK:=e0.mod.yU.keeps λb o e=>(e0.bs b o e).1
 refine codeAny_call_function hr.depth (KX _ _ lk) rfl S.co S.gen rfl (PySem.W.codeRec_of KX cE) (hb _ _ _ _ ?_);refine wpAny_newFunctionEnv_cells S.kind (λ{n,v} hy=>by
  rcases S.par n (qo hy).1 with q|q
  .exact .uW q
  .exact .uK {q,PySem.W.cellsFrom_some _ _ _ (.uW q)}) λuh he s1 x=>?_
 subst he;refine{(e0.mod.nolimit.keeps λb o e=>(e0.bs b o e).1).keeps x.toInCall.keep,codeAny_func ?_};let{t,ht,hq}:=cZ A uY s H vs Q E (hr.deeper _) dA;have I:uF (NZ CX P w K mg uk N qual uR f cdv A uY s H E) [] (start N vs) H s1:=Qm S hr.hd e0 (wv _ _ _ _ dA) r x;refine v4 (ht s1 (start N vs) H _ I hq) (λfl s' hs=>?_) λe s' hs=>hs
 have aO:∀{az:St}{H':Hp}{v:V}{u:tM},uF (NZ CX P w K mg uk N qual uR f cdv A uY s H E) [] az H' s'->vg v u->Q v H'->CE uY P w H s Q u s' :=
  λ{az H' v u} J rv q=>{v,H',J.os,J.bare,J.uk,J.zZ,rv,q}
 cases fl with|wH u =>let{v,az,H',J,rv,q}:=hs;exact aO J rv q|next =>let{az,H',J,q}:=hs;exact aO (v:=V.vG) (u:=tM.none) J rfl q|brk =>let{_,_,_,q}:=hs;exact vd.tU q|cont =>let{_,_,_,q}:=hs;exact vd.tU q
def Fun.ok0(F:Fun K x qual st f fd)(S:Ji N ps (Bw st))(wv:∀vs H Q E,sp vs H Q E->vs.fg=ps.fg)
  (cZ:∀(cdv:tM)(A:Around)(uY:tH Env)(s:ud)(H:Hp)(vs:tH V)(Q:VK)(E:XK),Di k (A.deeper (envOfC qual (Bw st) s.tK.uc.tX f cdv))->sp vs H Q E ->
   ∃t,UG ((NZ (CX1 P w) P w K mg uk N qual (Bw st) f cdv A uY s H E).F9 (XW (NZ (CX1 P w) P w K mg uk N qual (Bw st) f cdv A uY s H E) λc _ H'=>E c none H')) (Ef st) t/\t {nx:=λ_ H'=>Q .vG H',rt:=Q} (start N vs) H) :
  Fm P w K mg uk (CX1 P w) (k+1) f fd ps sp:=by
 let{oc,od,kV,bN,pm,an,cdv,ct,eP,rfl,lk,cE}:=F.ex;refine fn_of0 lk cE S wv λA uY s H vs Q E hr dA=>?_
 let{t,h,q}:=cZ cdv A uY s H vs Q E hr dA;exact{t,h.unw λ_ _=>xe_of,q}
variable{n:Str}{i:Nat}{bK:Pos}{body aR:List Stmt}{bt:Stmt}{tb:Ends->TS}{th:TS}
def SP.Hl{f}(ok:X.Ok)(h:SP (X.hand a) [] D f s'):SP X [] D f s':=by cases f with|next=>let{az,H',I,q}:=h;exact{az,H',I.Hl ok,q}|brk=>let{az,H',I,q}:=h;exact{az,H',I.Hl ok,q}|cont=>let{az,H',I,q}:=h;exact{az,H',I.Hl ok,q}|wH u=>let{v,az,H',I,r,q}:=h;exact{v,az,H',I.Hl ok,r,q}
end Lake.L2
namespace PySem.W
open PySem PySem.Spec PySem.Calls PyProof.Rows
variable{prog:Program}{w:World}{A:Around}{E:Zcv}{K:Frag}{x D:Addr}{ox:Obj}
structure ExK(K:Frag)(D:tV):Prop where
 ga:findIn K (.t8 D) "__getattribute__"=p' (p' (.uM "BaseException.__getattribute__"))
 gt:findIn K (.t8 D) "__getattr__"=p' none
 ca:findIn K (.t8 D) "__class__"=p' (p' (.uM "object.__class__"))
 gs:specialIn K (.uM "object.__class__") "__get__"=p' (p' (.uM "getset_descriptor.__get__"))
 tk:takesIn K (.uM "object.__class__")=p' true
 mo:mroIn K D (.uJ "object")=p' true
 mb:mroIn K D (.uJ "BaseException")=p' true
end PySem.W
namespace Lake.L2
open PySem PySem.Spec PyProof.Rows
variable{X:Cx}
end Lake.L2
namespace Lake.L2
open PySem PySem.Spec PySem.W PyProof.Rows
def Nf{l:OpenLaw}{K:Params->Fg}{CX:wK->CXT}{sp:Fg->Sp}{x:tO}
  (hn:l.vZ=p' n) (eN:n<=t9) (gW:d.params.defaults=[]) (hr:Di k callerA)
  (hY:∀(w:wK)(h:uS),YP w h->(K w.params).In h)
  (F:∀(w:wK)(mg:Zsv)(fa:tV)(h:uS),(K w.params).In h->h.Ns uO mg->mg d.name=p' (.t8 fa) ->
   ∃fd:FuncData,(∀(s:ud)(u:tM),BindsTo s fd {[u],[]} [(x,u)]) /\
    ∀uk:uS,(K w.params).In uk->uk.Ns uO mg->Fm l.ub w (K w.params) mg uk (CX w) k fa fd [x] (sp (K w.params)))
  (dA:∀(K:Fg)(H:Hp)(a:tV)(ns:tH tN),ns.fg<=n->B6 ns<=2^20->Only H->SqL K H a (ns.tJ V.tS)->sp K [.t8 a] H (λv _=>v=.l true) λ_ _ _=>vd)
  (fU:∀(w:wK)(H:Hp)(s:ud)(e:tM)(s':ud),CX w [] H s (λ_ _ _=>vd) e s'->vd) :
  WalkO q loose XP YP l.row.toRowW d [] (λf vs=>PySem.call f vs):=by
 intro w zW ay mg mb G Y fa o pm cd bN dV kV ho hd cE hD gg hg args vals as cJ dN jJ gv jB;let{a,vs,ns,rfl,rfl,iS,hints,hlen}:=Att.ON hn cJ gv;have KX:=hY w _ Y;let{fd,hb,hF}:=F w mg fa _ KX G.T.g gg;refine PySem.W.enter_call (codeAny_mono (S6 KX G.T.g G.T.b G.T.builtins G.T.nolimit hg iS hints (oo hlen eN) hr hF hb (λH hO hS=>dA (K w.params) H a ns hlen (by
  have h1:(WData.list (ns.tJ WData.tS)).layable=true:=by unfold WData.layableAll at dN;simpa using dN
  unfold WData.layable at h1;rw[oB]at h1;have h2:=oy h1.2;rwa[<- GY]) hO hS) λH e s'=>fU w H ay e s') λr s' hq=>?_)
 let{rfl,h2,h3,h4}:=hq;exact{.uW {.bool true,.bool true,[],rfl,λ_=>rfl,.bool true,Att.Pj l _,λ_=>{tH.Pairwise.vO,λ_ hm=>(nomatch hm)} },h2,h3,h4}
def KC{l:OpenLaw}{K:Params->Fg}{as:tH tV}{CX:wK->CXT}{sp:Fg->Sp}{x:tO}
  (hn:l.vZ=p' n) (eN:n<=t9) (gW:d.params.defaults=[]) (hr:Di k callerA)
  (hK:∀P:Params,as=(K P).tJ (·.1))
  (F:∀(w:wK)(mg:Zsv)(fa:tV)(h:uS),(K w.params).In h->h.Ns uO mg->mg d.name=p' (.t8 fa) ->
   ∃fd:FuncData,(∀(s:ud)(u:tM),BindsTo s fd {[u],[]} [(x,u)]) /\
    ∀uk:uS,(K w.params).In uk->uk.Ns uO mg->Fm l.ub w (K w.params) mg uk (CX w) k fa fd [x] (sp (K w.params)))
  (dA:∀(K:Fg)(H:Hp)(a:tV)(ns:tH tN),ns.fg<=n->B6 ns<=2^20->Only H->SqL K H a (ns.tJ V.tS)->sp K [.t8 a] H (λv _=>v=.l true) λ_ _ _=>vd)
  (fU:∀(w:wK)(H:Hp)(s:ud)(e:tM)(s':ud),CX w [] H s (λ_ _ _=>vd) e s'->vd) :
  WalkX q loose XP (PySem.W.X.obsZ as) (PySem.W.X.valZ K N tk) l.row.toRowW d [] (λf vs=>PySem.call f vs):=by
 intro w zW ay mg mb G Y fa o pm cd bN dV kV ho hd cE hD gg hg args vals kb hL cJ dN jJ gv jB;refine(Nf (l:=l) (q:=q) (loose:=loose) (XP:=XP) (YP:=λw h=>(K w.params).In h) (d:=d) (K:=K) (CX:=CX) (sp:=sp) (x:=x) hn eN gW hr (λ_ _ h=>h) F dA fU) w zW ay mg mb G ?_ fa o pm cd bN dV kV ho hd cE hD gg hg args vals kb cJ dN jJ gv jB;have h1:as.tJ zW.tK.ua=(K w.params).tJ (λp=>p' p.2):=uC Prod.fst Y;rw[hK w.params]at h1;exact λa o e=>hL.keeps a o (PY _ h1 a o e)
end Lake.L2
namespace Lake.L2
open PySem PySem.Spec PyProof.Rows
variable{X:Cx}{k:Nat}{C:Addr}{ps:List Str}{sp:Sp}{Z:XE}{x m:Str}{p pos aw:Pos}{e o:Expr}{es:List Expr}{ta:TE}{t:TA}
def Jan (C:tV)(m:tO)(sp:Sp)(Z:XE)(ta:TE)(t:TA):TE:=λU H Q=>ta U H λx H1=>∃a dx fs,x=.t8 a/\H1 a=p' (.vE C dx fs)/\fs.t7 m=none /\
 t U H1 λvs H2=>sp (x::vs) H2 Q λc _ H'=>Z c U H'
def Vj(G:Zz X.ub X.w X.K X.mg X.uk (CX1 X.ub X.w) C m k ps sp)(hr:Di k X.A)(hx:Lk X Z)(he:PE X o ta)(ha:PA X (e::es) t)
  (dW:Zsc X.uh e es:=by rfl) (aG:Zbt X.uh uG es:=by rfl)
  (ht:wD (.vM (.ut o m aw) (e::es) [] uG) X.uh=(do
   let ov <- wD o X.uh
   standAt aw.atName
   let(f,first) <- holding [ov] (getMethod ov m pl)
   callWith uG f first (backTo uG (vD (e::es) X.uh)) (backToKw uG (keywordEach [] X.uh))):=by rfl) :
  PE X (.vM (.ut o m aw) (e::es) [] uG) (Jan C m sp Z ta t):=by
 let{f,fd,F,hm,hb}:=G.ex;intro aa s U H Q I h;refine methodCall_KW (wo (he aa s U H _ I h) λu s1 aj=>?_) ht;let{x,H1,I1,rx,a,dx,fs,ex,ea,l,q}:= aj;subst ex;obtain rfl:u=tM.t8 a:=rx;refine HD I1 ea G.cl hm l ?_;refine callWith_K I.ok.mod.yU hm.kp (wo (ha uG aa s1 U H1 _ I1 q) λus s2 {vs,H2,I2,r,q2}=>{I2.kIn,?_}) dW aG;exact OR (vs:=.t8 a::vs) F hr hb hx I2 (.ux rfl r) q2
def Jbi:Passes (CX1 X.ub X.w) X E0:=λ_ _ _ _ _ _ _ {_,_,_,_,_,_,_,_,_,_,_,q}=>q.tU
variable{v:Expr}{a:Str}{j:Nat}{cp fp jp:Pos}
def Uw(hc:X.calm=true):B7 X (.uM "any") (λxs H Q=>∃(l:tV)(bs:tH uz),xs=[.t8 l]/\SqL X.K H l (bs.tJ V.l)/\Q (.l (bs.any id)) H):=by
 intro aa s U H xs us Q I r h;let{l,bs,rfl,hq,q}:=h;let{u,rfl,rx}:=vals1 r;cases rx;let{uU,rv,pl,hz}:=I.list hq;have hb:=Ej rv;have hl:=pl.vU;refine call_any_walk (wpAny_pyIter_list hl ?_);refine{s.tK.uc.tX,[s.tK.uc.tX,l],[s.tK.uc.tX],uU.tZ.tX,_,_,λi=>(bs[i]?).uZ false,rfl,Walks.list (A:=X.A.in1) (I.ok.hd hc) _ l (oI (by let{_,e,_}:=hl;exact ot e)) uU.tZ,
  { {_,oi _ rfl,rfl,rfl},hl.vY _},λi v s' Q' E' hP hQ=>?_,λh' tk hk=>?_}
 .have e:=by simpa using hP
  rw[hb,oq]at e;cases eb:bs[i]? with|none=>rw[eb]at e;cases e|p' b =>rw[eb]at e;have e':=tL.p'.inj e;subst e';simp![eb]at hQ;exact wn hQ
 .have e:((tH.vq uU.tZ.tX).any λi=>(bs[i]?).uZ false)=bs.any id:=by
   have hlen:uU.tZ.tX=bs.fg:=by rw[hb];simp
   rw[hlen];rw[pO,qQ,qQ];constructor
   .intro{i,hi,hh}
    have b7:=oR.mp hi;exact{bs[i],qi b7,by simpa[nX b7]using hh}
   .intro{b,hm,hh}
    let{i,hi,rfl}:=qj hm;exact{i,oR.wO hi,by simpa[nX hi]using hh}
  rw[e];exact{.l _,H,I.kept (λb o e=>hk b o (λhm=>by rw[oF.mp hm]at e;exact pK _ (ot e)) (nY _ e)),rfl,q}
end Lake.L2
namespace Lake.L2
open PySem PySem.Spec
def Iti (a:tV)(o:Obj)(ag:tH (vc×V)):It :=
 {λi H=>H a=p' (.frz o (.v ag))/\i<ag.fg,λi H x H'=>∃T k v,H T=none/\x=.t8 T/\H'=vi H T (.uj [kV k,v])/\ag[i]?=p' (k,v),λi H=>H a=p' (.frz o (.v ag))/\ag.fg<=i}
def KV.at:∀{ag:tH (κ×V)}{vs:tH (κ×tM)}{i:tQ}{q:κ×tM},KV ag vs->vs[i]?=p' q->∃v,ag[i]?=p' (q.1,v)/\vg v q.2
 |_,_,_,_,.vO,e=>by simp at e
 |(k,v)::_,_::_,0,_,.ux h t,e=>by simp at e;subst e;exact{v,by simp[<- h.1],h.2}
 |_::_,_::_,i+1,_,.ux h t,e=>by let{v,e1,e2}:=KV.at t (by simpa using e);exact{v,by simpa using e1,e2}
def Nq(a it:tV)(o:Obj)(ag:tH (vc×V)):Turn P w K (.Tuple eV k0 bV) (Iti a o ag) [it] it (λi h=>∃ok ov,IsItemIter h it a i ag.fg (epOf o) ok ov) where
 mem:=by simp
 obj:=λi h st b hb=>by
  have e:=by simpa using hb
  subst e;let{ok,ov,e}:=st;exact{_,e,λv z=>nomatch z}
 keep:=λi h h' st k=>by let{ok,ov,e}:=st;exact{ok,ov,k it (by simp) _ e}
 item:=by
  intro X hP hw hK hc i aa s U H E I hf st hg;subst hP hw hK;let{he,hi}:=hg;let{hd,vs,aB,da}:=I.ZM he;have hl:=aB.fg;have b7:i<vs.fg:=by lia
  have hx:vs[i]?=p' ((vs[i]).1,(vs[i]).2):=nX b7;let{v,ev,rv}:=KV.at aB hx;let{ok,ov,st}:=st;rw[hl]at st;refine wpAny_pyNext_items_item st da hx λkey h' hk aZ kN bx dz=>{_,rfl,?_}
  refine wpAny_letOwnedTupleGo_items aZ λjt jM sb=>?_
  rw[<- hl]at jM;have Il:uF X aa U (vi H s.tK.uc.tX (.uj [kV (vs[i]).1,v])) {s with tK:=s.tK.vY {cls:=.uJ "tuple",uX:=.seq #[key,(vs[i]).2]},vj:=s.vj} :=
   I.laid (λb o e=>nY _ e) (oh _) {by show 2<=t9;rw[vk];decide,[key,(vs[i]).2],.ux (U5 hk) (.ux rv .vO),{_,oi _ rfl,rfl,_,rfl,rfl} }
  have dy:∀b∈[it],Hh X aa (vi H s.tK.uc.tX (.uj [kV (vs[i]).1,v])) b:=λb hb=>by
   let{f0,f}:=hf b hb;have e:b=it:=by simpa using hb
   subst e;exact{by rw[Ap (oI (ot st))];exact f0,f}
  exact{.t8 s.tK.uc.tX,_,(Il.KI (λb o hb e=>by
   have nz:b≠it:=λq=>hb (by simp[q])
   refine sb.extBut _ _ nz ?_;by_cases hbT:b=s.tK.uc.tX
   .subst hbT;have e':(s.tK.vY {cls:=.uJ "tuple",uX:=.seq #[key,(vs[i]).2]}).ua s.tK.uc.tX=p' o:=e;rw[oi _ rfl]at e';cases e';exact kN
   .have e':(s.tK.vY {cls:=.uJ "tuple",uX:=.seq #[key,(vs[i]).2]}).ua b=p' o:=e;rw[uS.get?_push_ne _ _ _ hbT]at e';exact dz b o nz e') dy),rfl,{s.tK.uc.tX,_,v,I.zZ.vJ (oh _),rfl,rfl,ev},{_,_,jM},λb hb=>(dy b hb).1}
 done:=by intro X hP hw hK hc i aa s U H E I hf st hg;subst hP hw hK;let{he,hi}:=hg;let{hd,vs,aB,da}:=I.ZM he;have hl:=aB.fg;let{ok,ov,st}:=st;rw[hl]at st;exact wpAny_pyNext_items_end (I.ok.hd hc) st da (o7 (by lia)) λh' eb=>{rfl,I.KI (λb o hb e=>eb b o (λq=>hb (by simp[q])) e) hf}
 self:=λA i s Q E st h=>by let{ok,ov,st}:=st;exact PySem.W.kcp_self st h
def Jcc (td:TE):TI:=λU H R=>td U H λx H1=>∃a o ag,x=.t8 a/\H1 a=p' (.frz o (.v ag))/\R (Iti a o ag) H1
def SE(ho:PE X o td)(aD:Zab X.uh o "items":=by rfl)(aE:(aw.endLine==ax.line)=true:=by rfl):
  PI X (.Tuple eV k0 bV) (.vM (.ut o "items" aw) [] [] ax) (Jcc td):=by
 intro aa s U H R I h;refine wpAny_Call_method0_late aD aE (wo (ho aa s U H _ I h) λv s1 aj=>?_);let{x,H1,I1,r1,a,ob,ag,ex,hd,q}:= aj;subst ex;cases r1;let{hS,vs,aB,da}:=I1.ZM hd;let{t1,t2,_}:=Jb3 I1 (.uW {ag,.uK {ob,hd} });refine{"dict","dict.items",PySem.F.plainAttrs_dict,PySem.F.slot_dict_items,PySem.F.type_dict_items,t1,t2,Calls.callWith_builtin rfl (PySem.evalArgs_none ?_)};refine call_meetsIn PySem.F.slot_dict_items da.dictOf.wM PySem.F.entry_dict_items (PySem.F.args_dict_items_1 _) (meets_dict_items (Bj X.ub X.w) a hS) { {vs,da.dictOf},?_};have I2:uF X aa U H1 {s1 with tK:=s1.tK.vY {cls:=.uJ "dict_items",uX:=.vt #[.t8 a]} }:=I1.kept λb o e=>nY _ e
 refine wpAny_pyIter_items {_,oi _ rfl,rfl,rfl} (da.vY _) ?_;refine{_,[_],_,Iti a ob ag,H1,rfl,I2.kept λb o e=>nY _ e,Nq a _ ob ag,{.none,.none,by rw[aB.fg];exact oi _ rfl},λb hb=>?_,q};have e:=oF.mp hb;subst e;exact I2.RG (oh _) (I2.zZ.vJ (oh _))
end Lake.L2
namespace PySem
namespace Zp
def RK:typeLookup (.uJ "zip") "__getattr__"=wx none:=by rw[vI,uT];kernel_rfl
def RM:typeLookup (.uJ "zip") "keys"=wx none:=by rw[vI,uT];kernel_rfl
def Oj:entryFor table "zip.__getattribute__"=p' t6.«object.__getattribute__» :=
 entryFor_alias (id':="object.__getattribute__") (by kernel_rfl) (by decide +kernel) (by decide +kernel) (by kernel_rfl)
def RL(a:tV)(vs:vp tM)(u:Tok):
  Meets (t6.«object.__getattribute__» {[.t8 a,.str "keys" u],[]}) (λA R s=>s.tK.ua a=p' {cls:=.uJ "zip",dict:=none,uX:=.vt vs,slots:=#[]}/\raisesAttr (.t8 a) "keys" A R s) :=
 Meets.of_wp λub w A R s hs=>by
  let{hx,hs}:=hs;have jC:=RM
  repeat (any_goals (first|assumption|wp_step))
  try simp![if_false]
  repeat (any_goals (first|assumption|wp_step))
  exact wpAny_raiseAttrError hs.1 hs.2 (attrMsg_fits (by decide +kernel) (by size_fits))
theorem RI
  (hx:s.tK.ua a=p' {cls:=.uJ "zip",uX:=.vt vs}) (hA:A.wp=none)
  (h:∀h' tk,(∀b o,s.tK.ua b=p' o->h'.ua b=p' o)->Q none {s with tK:=h',vj:=tk}):ue (uf ub w) A (getAttr? (.t8 a) "keys") Q E s:=by
 let{hp,g,d,tk,os}:=s;have hT:∀jg,({hp,g,d,jg,os}:ud).TypeIs (.t8 a) "zip":=λ_=>{_,hx,rfl}
 have f1:=sub_AttributeError;have f3:=F.slot_zip_getattribute.t7;have f4:=F.slot_zip_getattribute.u9 (.t8 a);have f5:=RK
 repeat (any_goals (first|assumption|exact hT _|((with_reducible show ue _ _ (call (tM.uM "zip.__getattribute__") _ _) _ _ _);refine call_meets F.slot_zip_getattribute (hT _) Oj (F.args_zip_getattribute_2 _ _) (RL a vs _) {hx,hA,λh' jg e gw=>?_})|wp_step))
 let{t',u',he}:=gw.there;unfold getattributeRaised
 repeat (any_goals (first|assumption|wp_step))
 exact h h' jg gw.1
def QP:entryFor table "dict.update.loop"=p' t6.«dict.update.loop»:=entryFor_of_fast (by kernel_rfl)
def Gj:plainId "dict.update.loop"=true:=by decide +kernel
end Zp
end PySem
namespace Lake.L2
open PySem PySem.Spec PyProof.Rows
def putD (S:tV):Put:=λi x H Q=>∃a k v ag,x=.t8 a/\H a=p' (.uj [kV k,v])/\H S=p' (.v ag)/\ag.fg<=i/\Q (.v (putK ag k v))
variable{X:Cx}{aa:Zao}{U:St}{J:It}{fp:List Addr}{it S:Addr}{tn:Nat->Heap->Prop}{x:Str}{p:Pos}{Fin:Hp->Prop}
def RU{A:Around}{R:Result->ud->Prop}{res:tM}{W:tQ->tQ->Hp->Prop}(T:Turn X.ub X.w X.K (.uE x p) J fp it tn)(hb:Bnd X J)(hc:X.calm=true)(hh:A.wp=X.A.wp)(hr:A.v5=X.A.v5)
  (hw:∀i m H,W i m H->(J.stop i H/\Fin H)\/(J.go i H/\∀x H',J.yV i H x H'->putD S i x H' λo=>∃m',m'<m/\W (i+1) m' (vi H' S o))) (hR:∀H s',uF X aa U H s'->Fin H->R (.ok (.wH res)) s') (m:tQ) :
  ∀(i:tQ)(H:Hp)(s:ud),W i m H->uF X aa U H s->tn i s.tK->(∀b∈fp,Hh X aa H b)->codeAny (uf X.ub X.w) A (.uM "dict.update.loop" {[.t8 S,.t8 it,wN i,res],[]}) R s:=by
 induction m using tQ.strongRecOn with
 |_ m ih =>
  intro i H s w I t hf;refine codeAny_builtin Zp.QP ?_;rw[Around.under_plainId Zp.Gj _];refine Qj (A:=A.in1) (m:=m) T hc hh hr (hw i m H w) I t hf (λs' I' f=>nR (n6 (n6 (hR H s' I' f)))) λv u H' s' go I' r {a,k,v,ag,e1,e2,e,hz,m',hm,w'} t' dy=>?_
  have:=hb _ _ _ _ _ I go;subst e1;cases r;have ne:∀b∈fp,b≠S:=λb hb=>(Bm e (dy b hb).1).symm
  let{_,uU,rv,ht}:=I'.zZ a _ e2;rcases rv with _|⟨r1,_|⟨r2,⟨⟩⟩⟩
  let{o,eo,co,n,dt,_}:=ht;let{z,hd,vs,aB,dd}:=dk_of I'.zZ e;refine nR (vQ (nR (wpAny_tryCatch ?_)));unfold t6.Dict.pairItems;refine nR (wpAny_typeOf (T:="tuple") {_,eo,co} ?_);rw[tW ZB];refine nR (wg eo dt (n6 ?_));refine(vQ (wpAny_dictSet_pairs (NK r1) dd (λh2 hd2 sb=>?_) (by rw[<- aB.fg];exact z)):ue _ _ (holding [_,_] (dictSet S _ _)) _ _ _);have he:∃q,h2.ua S=p' q:=let{q,_,_,hq,_}:=hd2;{q,hq};exact n6 {plainId_quiet Zp.Gj _,ih m' hm (i+1) _ _ w' (I'.write (t':=s'.vj+1) (x:=S) (e:=S) (by rw[e];exact uQ.intro) (.uW rfl) (λb u hb hu=>sb.extBut b u hb hu) he (QT (by have:=D8 ag k v;lia) hd (aB.put k r2) hd2)) (T.keep _ _ _ t' λb hb o q=>sb.extBut b o (ne b hb) q) λb hb=>{(Ap (ne b hb)).trans (dy b hb).1,(dy b hb).2} }
def V8 (T:wb):Prop:=∀(ub:wf)(w:wK)(A:Around)(E:Zcv)(s:ud)(a:tV)(vs:vp tM)(Q:tL tM->ud->Prop),A.wp=none->s.tK.ua a=p' {cls:=.uJ T,uX:=.vt vs}->(∀h' tk,(∀b o,s.tK.ua b=p' o->h'.ua b=p' o)->Q none {s with tK:=h',vj:=tk}) ->
 ue (uf ub w) A (getAttr? (.t8 a) "keys") Q E s
def WA (X:Cx)(wi:TI):TE:=λU H Q=>wi U H λJ H1=>Bnd X J/\∀S,H1 S=none->ItW J S (putD S) (Q (.t8 S)) (vi H1 S (.v []))
def Pt{au:v7}{T:wb}{wi:TI}{p1 bo:Pos}(hc:X.calm=true)(dQ:X.mg "dict"=none)(hi:PIt X (.uE x p) au T wi)(hT:V8 T)(hn:T≠"dict")(dJ:Gl X "dict":=by rfl)(he:Zs1 X.uh au:=by rfl):
  PE X (.vM (.uE "dict" p1) [au] [] bo) (WA X wi):=by
 intro aa s U H Q I h;refine vS (Dc I dJ dQ boot_dict (wF ?_ he rfl));rw[he];refine Calls.spliced_cons (wo (hi aa s U H _ I h) λv s1 { { {it,_,e,eo},_},_,fp,tn,J,H1,e',I1,Tn,t0,hf,bd,q}=>Calls.spliced_nil ?_);subst e;cases e';refine callType_codes (Q₁:=λobj ay=>obj=.t8 s1.tK.uc.tX/\ay={s1 with tK:=s1.tK.vY {cls:=.uJ "dict",uX:=.dict #[]} }) F.kt_called_dict (F.kt_typeCall_dict_1 _) F.entry_dict_init (kt_code_dict_new _ {rfl,rfl}) ?_
 intro obj ay {rfl,rfl}
 have fh:(s1.tK.vY {cls:=.uJ "dict",uX:=.dict #[]}).DictOf (Bj X.ub X.w) s1.tK.uc.tX []:=uS.DictOf.new s1.tK;refine{fh.wM,F.args_dict_init_2 _ _,?_};unfold t6.«dict.__init__» t6.Dict.selfAndRest;refine nR (nR (wpAny_notOrdered_dict fh.wM (n6 ?_)));show ue _ _ (t6.Dict.updateFrom "dict.__init__" s1.tK.uc.tX (.t8 it) [] .none) _ _ _;unfold t6.Dict.updateFrom;refine nR (wpAny_typeOf {_,nY _ eo,rfl} ?_);rw[tW (by simp[hn])];refine nR (hT _ _ _ _ _ _ _ _ (I1.ok.hd hc) (nY _ eo) λh2 tk k2=>?_);have k:∀b o,s1.tK.ua b=p' o->h2.ua b=p' o:=λb o e=>k2 b o (nY _ e)
 have jZ:=Tn.keep _ _ _ t0 λb _ o=>k b o
 let{o,es,ep,ho,r}:=fh;let{W,{m,w0},hw}:=q _ I1.vJ;refine nR (wpAny_rule (nR (Tn.self _ 0 _ _ _ jZ (n6 {plainId_quiet Zp.Gj _,?_}))));exact RU (A:=X.A.in1) Tn bd hc rfl rfl hw (λH s' I' q=>{rfl,.t8 s1.tK.uc.tX,H,I',rfl,q}) m 0 _ _ w0 (I1.laid (t':=tk) k (oh _) {pB _,vB.wO (qG I1.big),[],.vO,o,es,ep,k2 _ _ ho,r}) jZ λb hb=>{(Ap (let{_,e,_}:=Tn.obj _ _ t0 b hb;oI (ot e))).trans (hf b hb).1,(hf b hb).2}
def NF:V8 "zip":=λ_ _ _ _ _ _ _ _ hA hx h=>Zp.RI hx hA h
end Lake.L2
namespace Lake.L2
def mxF (b n:tN):tN:=if n>b then n else b
def mxD (d:tN):tH tN->tN
 | []=>d
 |n::ns=>ns.foldl mxF n
def mxR (d:tN):tL tN->tH tN->tN
 |none,r=>mxD d r
 |p' b,r=>r.foldl mxF b
end Lake.L2
namespace PySem.Mx
open PySem PySem.Spec PyProof.Rows L2
inductive St(S:tV)(h:uS):tL tN->Prop
 |no (c:tQ) (e:h.ua S=p' {cls:=.uJ "list",uX:=.seq #[] c}):St S h none
 |y (b:tN) (t u:Tok) (c:tQ) (e:h.ua S=p' {cls:=.uJ "list",uX:=.seq #[.tS b t,.tS b u] c}):St S h (p' b)
variable{prog:Program}{w:World}{A:Around}{R:Result->Shared->Prop}{l it S:Addr}{ns:List Int}{d:Int}{td:Tok}{items:Array Value}
def put{n:tN}{tu:Tok}{o:vp tM}{c:tQ}{E:Zcv}{α:Type}{Q:α->ud->Prop}{k:Unit->Sem α}{s:ud}(e:s.tK.ua S=p' {cls:=.uJ "list",uX:=.seq o c})(hz:o.tX<=t9)
  (h:∀h',St S h' (p' n)->uS.SameBut S s.tK h'->ue (uf ub w) A (k ()) Q E {s with tK:=h' }):ue (uf ub w) A (updateSeq S (λ_=>#[.tS n tu,.tS n tu]) >>= k) Q E s :=
 nR (wpAny_updateSeq e rfl (h _ (.y n tu tu _ (pG _ e rfl)) (.update ..)) hz)
def loop(hh:A.wp=none)(hi:∀(i:tQ)(n:tN),ns[i]?=p' n->∃t,uL[i]?=p' (tM.tS n t))(hz:uL.tX=ns.fg)(n1:l≠S)(n2:it≠S)(n3:l≠it):
  ∀(r:tH tN)(i:tQ)(b:tL tN)(s:ud),ns.drop i=r->s.tK.IsList l uL->s.tK.IsListIter it l i->St S s.tK b ->
  (∀h' tk t,(∀a o,a≠it->a≠S->s.tK.ua a=p' o->h'.ua a=p' o)->R (.ok (.wH (.tS (mxR d b r) t))) {s with tK:=h',vj:=tk}) ->
  codeAny (uf ub w) A (.uM "max.loop" {[.t8 it,.none,.t8 S],[(tO.ofString "default",.tS d td)]}) R s:=by
 have dh:(toString "max"++toString ".loop":wb)="max.loop":=by decide
 intro r
 induction r with
 |vO =>intro i b s er hl ht hS hR;refine codeAny_builtin F.entry_max_loop ?_;rw[Around.under_plainId F.plain_max_loop _];have ex:uL[i]?=none:=vp.getElem?_eq_none (by have:=tH.drop_eq_nil_iff.mp er;lia);cases hS with|no c e=>exact nR (wg e rfl (nR (wpAny_tryCatch (wpAny_pyNext_list_end (A:=A.in1) hh ht hl ex λh' eb=>nR (wpAny_rule (n6 (hR h' s.vj td λa o h _ q=>eb a o h q)))))))|y b t u c e =>refine nR (wg e rfl (nR (wpAny_tryCatch (wpAny_pyNext_list_end (A:=A.in1) hh ht hl ex λh' eb=>?_))));exact nR (wpAny_updateSeq (eb S _ n2.symm e) rfl (nR (wpAny_letGo (n6 (hR _ s.vj t λa o h1 h2 q=>(oX _ _ h2.symm).trans (eb a o h1 q))))))
 |ux n r ih =>
  intro i b s er hl ht hS hR;refine codeAny_builtin F.entry_max_loop ?_;rw[Around.under_plainId F.plain_max_loop _];have e0:ns[i]?=p' n:=by rw[<- tQ.add_zero i,<- tH.getElem?_drop,er];rfl
  have kA:ns.drop (i+1)=r:=by simpa using uC tH.tail er
  let{tu,hx}:=hi i n e0;have go:∀b' (s':ud),s'.gens=s.gens/\s'.drawn=s.drawn/\s'.os=s.os->(∀a o,a≠it->a≠S->s.tK.ua a=p' o->s'.tK.ua a=p' o)->s'.tK.IsListIter it l (i+1)->St S s'.tK b'->mxR d b' r=mxR d b (n::r) ->
    codeAny (uf ub w) A (.uM "max.loop" {[.t8 it,.none,.t8 S],[(tO.ofString "default",.tS d td)]}) R s':=λb' s' eg k t' S' em=>by
   refine ih (i+1) b' s' kA (hl.at λo=>k l o n3 n1) t' S' λh' tk t k'=>?_
   have:=hR h' tk t λa o h1 h2 q=>k' a o h1 h2 (k a o h1 h2 q)
   let{e1,e2,e3}:=eg;rw[em,e1,e2,e3];exact this
  cases hS with
  |no c e =>
   refine nR (wg e rfl (nR (wpAny_tryCatch (wpAny_pyNext_list_item (A:=A.in1) ht hl hx λh' t' sb=>?_))));refine put (n:=n) (tu:=tu) (s:={s with tK:=h' }) ((sb.2 S n2.symm).trans e) (pB _) λh2 S2 gO=>?_
   rw[dh];exact n6 {plainId_quiet F.plain_max_loop _,go (p' n) _ {rfl,rfl,rfl} (λa o h1 h2 q=>(gO.2 a h2).trans ((sb.2 a h1).trans q)) (t'.at λo q=>(gO.2 it n2).trans q) S2 rfl}
  |y b t u c e =>
   refine nR (wg e rfl (nR (wpAny_tryCatch (wpAny_pyNext_list_item (A:=A.in1) ht hl hx λh' t' sb=>?_))));have eS:=(sb.2 S n2.symm).trans e;refine nR (n6 (nR (wpAny_tryCatch (vQ (nR ?_)))));refine richCompare_gives (op:=.Gt) (typeIs_int _ _ tu) (typeIs_int _ _ u) F.slot_int_gt F.entry_int_gt (F.args_int_gt_2 _ _) (gives_int_gt _ _ tu u) (λx=>nomatch x) ?_;refine(nR (vQ (wn ?_)):ue _ _ (holding _ (truthy _) >>= _) _ _ _);refine nR (wpAny_letGo (n6 ?_));cases hb:decide (n>b)with
   |true =>
    refine put (n:=n) (tu:=tu) (s:={s with tK:=h' }) eS (by rw[vk];show 2<=_;decide) λh2 S2 gO=>nR (wpAny_letGo ?_)
    rw[dh];exact n6 {plainId_quiet F.plain_max_loop _,go (p' n) _ {rfl,rfl,rfl} (λa o h1 h2 q=>(gO.2 a h2).trans ((sb.2 a h1).trans q)) (t'.at λo q=>(gO.2 it n2).trans q) S2 (uC (r.foldl mxF) (tW (oy hb)).symm)}
   |false =>refine nR (wpAny_letGo ?_);rw[dh];exact n6 {plainId_quiet F.plain_max_loop _,go (p' b) _ {rfl,rfl,rfl} (λa o h1 h2 q=>(sb.2 a h1).trans q) t' (.y b t u c eS) (uC (r.foldl mxF) (ug (of_decide_eq_false hb)).symm)}
end PySem.Mx
namespace Lake.L2
open PySem PySem.Spec PyProof.Rows
def Rx(a v:tM):argsOk "max" {[a],[(tO.ofString "default",v)]}:=by unfold argsOk;kernel_rfl
def tMaxD (K:Fg)(d:tN)(ta:TA):TE:=λU H Q=>ta U H λvs H1=>∃(l:tV)(ns:tH tN),vs=[.t8 l]/\SqL K H1 l (ns.tJ V.tS)/\Q (.tS (mxD d ns)) H1
def Xd{X:Cx}{a:v7}{ta:TA}{d:tN}{j:tQ}{p uG kp cp:Pos}(hc:X.calm=true)(hm:X.mg "max"=none)(ha:PA X [a] ta)(hg:Gl X "max":=by rfl)
  (he:Zs1 X.uh a:=by rfl) :
  PE X (.vM (.uE "max" p) [a] [{p' "default",.Constant (.tS d) j cp,kp}] uG) (tMaxD X.K d ta):=by
 intro aa s U H Q I h;refine vS (Dc I hg hm boot_max ?_);refine callWith_kw ?_ (by rw[he];rfl) (by rw[he];rfl) rfl rfl;refine wo (ha uG aa s U H _ I h) λus s1 aj=>?_
 let{vs,H1,I1,r1,l,ns,e,hl,q}:= aj;subst e;let{u,rfl,rx}:=vals1 r1;cases rx;refine wo (W9 (nm:=p' "default") (gB:=kp) (Me (X:=X) (i:=d) (j:=j) (uG:=cp)) Ja5 uG aa s1 U H1 (λzs H2=>zs=[.tS d]/\H2=H1) I1 {rfl,rfl}) λws s2 aj=>?_
 let{zs,H2,I2,rz,ez,eH}:= aj;subst ez eH;let{u2,rfl,t2,rfl}:=vals1 rz;let{uU,rv,pl,hz}:=I2.list hl;have gd:=rv.fg;have dP:l<s2.tK.uc.tX:=by let{_,_,e,_}:=pl;exact ot e
 refine(kmb_tree F.kind_max F.plain_max F.entry_max (Rx _ _) ?_:ue _ _ (call (.uM "max") [.t8 l] [(tO.ofString "default",.tS d t2)]) _ _ _);show ue _ _ (t6.Builtins.bindParams "max" ["key","default"] 0 {[],[(tO.ofString "default",.tS d t2)]} >>= _) _ _ _;refine nR (wpAny_of_eq (show t6.Builtins.bindParams "max" ["key","default"] 0 {[],[(tO.ofString "default",.tS d t2)]}=wx [none,p' (.tS d t2)]from by rfl) (nR (n6 (nR (wpAny_pyIter_list pl.vU (nR (wR ?_)))))));refine n6 {plainId_quiet F.plain_max_loop _,Mx.loop (uL:=uU.tZ) (I.ok.hd hc) (λi n e=>?_) (by rw[nZ,<- gd,nU]) ?_ ?_ ?_ ns 0 none _ rfl ((pl.vU.vY _).vY _) {_,nY _ (oi _ rfl),rfl,rfl} (.no 0 (oi _ rfl)) λh' tk t k=>{.tS (mxD d ns),H2,I2.kept λb o e=>?_,{t,rfl},q} }
 .let{u,hu,t,rfl}:=rv.get (show(ns.tJ V.tS)[i]?=p' (.tS n) by rw[oq,e];rfl);exact{t,by simpa using hu}
 .rw[pA];exact oI (tQ.lt_succ_of_lt dP)
 .rw[pA];exact oI (qM _)
 .exact oI dP
 .exact k b o (oI (ot e)) (by rw[pA];exact oI (tQ.lt_succ_of_lt (ot e))) (nY _ (nY _ e))
end Lake.L2
namespace PySem
open PyProof.Rows (IsTup)
namespace Rw
abbrev Is(h:uS)(a t:tV)(i:tN):Prop:=h.ua a=p' {cls:=.uJ "reversed",uX:=.vt #[.t8 t,wN i]}
variable{prog:Program}{w:World}{A:Around}{E:Zcv}{s:Shared}
def Mp{i:tQ}(hh:A.wp=none)(hit:Is s.tK it t ((i:tN)-1))(ht:IsTup s.tK t uL)(hz:uL.tX<=t9)(hi:i<=uL.tX)
  (hQ:∀j x h' tk,i=j+1->uL[j]?=p' x->Is h' it t ((j:tN)-1)->uS.SameBut it s.tK h'->Q (p' x) {s with tK:=h',vj:=tk})
  (hE:i=0->∀h',uS.ExtBut it s.tK h'->Q none {s with tK:=h' }):ue (uf ub w) A (pyNext (.t8 it)) Q E s:=by
 have hT:s.TypeIs (.t8 it) "reversed":={_,hit,rfl}
 let{hp,g,d,tk,os}:=s;dsimp only at hit;unfold pyNext;refine nR (wpAny_attempt (wpAny_callSpecial?_slot hT F.Dk (v9 F.Dk hT F.IK ?_ (F.Ku _))));cases i with
 |zero =>
  have hs:=isSubtype_stop
  change hp.ua it=p' {cls:=.uJ "reversed",uX:=.vt #[.t8 t,wN (-1)]} at hit
  wp_walk
  unfold raiseNew
  wp_walk
  exact hE rfl _ λb o hb e=>nY _ (nY _ ((uS.SameBut.update ..).extBut b o hb ((uS.SameBut.update ..).extBut b o hb e)))
 |succ j =>
  have e:((j+1:tQ):tN)-1=(j:tN):=by lia
  rw[e]at hit;have hj:j<uL.tX:=hi;have hx:=vp.getElem?_eq_getElem hj;rw[vk]at hz;show ue _ _ (field (.t8 it) 0 >>= _) _ _ _;refine nR (pj hit rfl rfl (nR (pj hit rfl rfl ?_)));show ue _ _ (if(j:tN)<0 then _ else _) _ _ _;rw[ug (by lia)];refine nR (wq ht.wM PyProof.Rows.vT.t7 ?_);refine nR (wpAny_mkInt (nR (wpAny_attempt (PyProof.Rows.getItem_tuple ht (by lia) (by lia) (by unfold seqIndex?;simp![show ¬((j:tN)<0)from by lia,if_false];simp[hj]) hx (nR (pj hit rfl rfl ?_))))));exact nR (v8 hit (by simp) λh' e' sb=>n6 {_,rfl,n6 (hQ j _ h' _ rfl hx e' sb)})
def Uu(hz:uL.tX<=t9)(ht:IsTup s.tK t uL)(h:∀h' tk,Is h' s.tK.uc.tX t ((uL.tX:tN)-1)->(∀b o,s.tK.ua b=p' o->h'.ua b=p' o)->Q (.t8 s.tK.uc.tX) {s with tK:=h',vj:=tk}):
  ue (uf ub w) A (call (.uJ "reversed") [.t8 t]) Q E s:=by
 have M:Meets (t6.«reversed.__new__» {[.uJ "reversed",.t8 t],[]}) (λ_ R s=>IsTup s.tK t uL/\∀tk,R (.ok (.wH (.t8 s.tK.uc.tX))) {s with tK:=s.tK.vY {cls:=.uJ "reversed",uX:=.vt #[.t8 t,wN ((uL.tX:tN)-1)]},vj:=tk}) :=
  .of_wp λub w A R s {ht,h}=>by
   have f1:=F.K5;have f2:=PyProof.Rows.vT.t7;have f3:isSubtype (.uJ "tuple") (.uJ "dict")=wx false:=by rw[isSubtype_type];kernel_rfl
   have f4:=newClass_reversed (tM.t8 t);have hT:=ht.wM;let{hp,g,d,tk,os}:=s
   wp_walk using len_tuple ht (by rw[vk]at hz;lia)
   exact{_,rfl,h _}
 exact callType_new F.Q6 ZB (F.typeCall_reversed_1 _) (F.newCall_reversed_1 _) (λob=>F.args_object_init_2 ob _) F.entry_reversed_new M {ht,λtk=>{ {_,oi _ rfl,rfl},h _ tk (oi _ rfl) λb o e=>nY _ e} }
end Rw
end PySem
namespace Lake.L2
open PySem PySem.Spec PyProof.Rows
def Itw (K:Fg)(a:tV)(n:tQ):It :=
 {λi H=>i<n/\∃xs x,SqT K H a xs/\xs.fg=n/\xs[n-1-i]?=p' x,λi H x H'=>H'=H/\∀xs,SqT K H a xs->xs[n-1-i]?=p' x,λi H=>n<=i/\∃xs,SqT K H a xs/\xs.fg=n}
def Ox{K:Fg}(a it:tV)(n:tQ):Turn P w K tg (Itw K a n) [it] it (λi h=>i<=n/\Rw.Is h it a (((n-i:tQ):tN)-1)) where
 mem:=by simp
 obj:=λi h st b hb=>by rw[oF.mp hb];exact{_,st.2,nofun}
 keep:=λi h h' st k=>{st.1,k it (by simp) _ st.2}
 item:=by
  intro X hP hw hK hc i aa s U H E I hf st {hi,xs,x,hq,hl,hx};subst hP hw hK;let{uU,rv,p,hz}:=I.wz hq;let{u,hu,ru}:=rv.get hx;have gd:=rv.fg;let{f0,f1,f2,f3,f4,f5}:=hf it (by simp);refine Rw.Mp (I.ok.hd hc) st.2 p (by rw[nZ];lia) (by rw[nZ];lia) (λj v h' tk e hv aZ sb=>?_) λe=>by lia
  have ej:j=n-1-i:=by lia
  subst ej;have hv:=by simpa using hv
  rw[hu]at hv;cases hv;exact{u,rfl,Ld aZ rfl rfl ZB {x,H,I.turned (λb o hb e=>(sb.2 b hb).trans e) f0 f1 f3 f4 f5,ru,{rfl,λys hy=>by rw[I.Gb hy hq];exact hx},{hi,by rw[show n-(i+1)=n-1-i by lia];exact aZ},λb hb=>(hf b hb).1} }
 done:=by intro X hP hw hK hc i aa s U H E I hf st {hg,xs,hq,hl};subst hP hw hK;let{uU,rv,p,hz}:=I.wz hq;have gd:=rv.fg;let{f0,f1,f2,f3,f4,f5}:=hf it (by simp);exact Rw.Mp (I.ok.hd hc) st.2 p (by rw[nZ];lia) (by rw[nZ];lia) (λj v h' tk e=>by lia) λ_ h' eb=>{rfl,I.turned (λb o hb e=>eb b o hb e) f0 f1 f3 f4 f5}
 self:=λ_ _ _ _ _ st h=>wpAny_pyIter_slot {_,st.2,rfl} F.Fb (v9 F.Fb {_,st.2,rfl} F.IL (n6 {_,rfl,"reversed",_,{_,st.2,rfl},F.Dk.t7,h}) (F.Kv _))
def Qp{s:ud}{it t:tV}{i:tQ}{uL:vp tM}(hit:Rw.Is s.tK it t ((i:tN)-1))(ht:IsTup s.tK t uL)(hz:uL.tX<=t9)(hi:i<=uL.tX):Hint s (.t8 it):=λub w A E Q s2 k h=>by
 have e9:=k _ _ hit;have lB:IsTup s2.tK t uL:=let{o,e,r}:=ht;{o,k _ _ e,r};have hT:s2.TypeIs (.t8 it) "reversed":={_,e9,rfl}
 have iL:(uL.tX:tN)<2^63:=by rw[vk]at hz;lia
 unfold t6.tH.listLengthHint;refine nR (wq hT F.SV ?_);refine(nR (wq hT F.Dl.t7 ?_):ue _ _ (specialOf (tM.t8 it) (tO.ofString "__length_hint__") >>= _) _ _ _);generalize hid:("reversed.__length_hint__":wb)=id0
 wp_delta
 rw[show splitId id0=p' ("reversed","__length_hint__")from by subst hid;decide +kernel];subst hid;refine nR (wpAny_isInstance (T:="reversed") (b:=true) hT (by rw[isSubtype_type];kernel_rfl) ?_);rw[ug ZB];refine wpAny_ite_split (λfE=>uD fE ZB) (λ_=>?_);refine nR (wpAny_rule (nR (wpAny_of_eq (F.Dl.u9 _) (nR (wpAny_attempt (v9 F.Dl hT F.IM ?_ (F.Kw _)))))));unfold t6.«reversed.__length_hint__»;refine nR (wpAny_of_eq (a:=tM.t8 it) rfl (nR (pj e9 rfl (x:=.t8 t) rfl ?_)));rw[ug (show ¬((tM.t8 t==tM.none)=true)from oG)];refine nR (len_tuple lB iL (nR (m:=asInt? _) (n6 (nR (pj e9 rfl (x:=wN ((i:tN)-1)) rfl ?_)))));dsimp only[wN];rw[ug (by lia),show(i:tN)-1+1=(i:tN) by lia];refine nR (wpAny_mkInt (n6 {_,rfl,?_}));have gz:=hz;rw[vk]at gz;have f1:t6.tH.listFitsIndex (i:tN)=true:=by
  unfold t6.tH.listFitsIndex;rw[oB,decide_eq_true_eq,decide_eq_true_eq]
  lia
 have f2:t6.tH.listTooLong (i:tN).uw=false:=by unfold t6.tH.listTooLong;exact oK (by lia)
 have f3:¬((i:tN)<0):=by lia
 simp![asInt?,pure_bind,f1,f2,f3,uz.not_true,uz.false_eq_true,if_false];exact n6 (h _ _)
def iRevT (K:Fg)(ta:TE):TI:=λU H R=>ta U H λx H1=>∃a xs,x=.t8 a/\SqT K H1 a xs/\R (Itw K a xs.fg) H1
def Xa{X:Cx}{tg a:v7}{ta:TE}{p2 aP:Pos}(cI:X.mg "reversed"=none)(ha:PE X a ta)(cH:Gl X "reversed":=by rfl)(df:Zs1 X.uh a:=by rfl):
  PIt X tg (.vM (.uE "reversed" p2) [a] [] aP) "reversed" (iRevT X.K ta):=by
 intro aa s U H R I h;refine vS (Dc I cH cI boot_reversed (wF ?_ df rfl));rw[df];refine Calls.spliced_cons (wo (ha aa s U H _ I h) λu s1 aj=>?_);let{x,H1,I1,r1,l,ys,ex,hq,q}:= aj;subst ex;cases r1;let{uU,rv,pl,hz}:=I1.wz hq;have gd:=rv.fg;refine Calls.spliced_nil (Rw.Uu (by rw[nZ];lia) pl λh' tk st k=>{ { {_,_,rfl,st},Qp (i:=uU.tZ.tX) st (let{o,e,r}:=pl;{o,k _ _ e,r}) (by rw[nZ];lia) (oh _)},_,[s1.tK.uc.tX],_,_,H1,rfl,I1.kept k,Ox l _ ys.fg,{pB _,by rw[gd];simpa using st},λb hb=>?_,q});rw[oF.mp hb];exact I1.RG (oh _) I1.vJ
end Lake.L2
namespace Lake.L2
open PySem PySem.Spec
variable{X:Cx}{aa:Zao}{U:List (Option V)}{H:Hp}{s:Shared}{a:Addr}{o:Obj}{ag:List (Key×V)}{ck:HO}{xs:List V}
def uF.thaw(I:uF X aa U H s)(e:H a=p' (.frz o ck))(n:∀o u,X.y1 a≠p' (.frz o u))(nf:∀o w,ck≠.frz o w):uF X aa U (vi H a ck) s:=by
 have h1:=(show Bt X.ub X.w H s.tK a (.frz o ck)from I.zZ a _ e)
 have ne:∀{b:tV}{u:HO},H b=p' u->(∀o w,u≠.frz o w)->vi H a ck b=p' u:=λ{b u} z q=>by unfold vi;rw[ug (λx=>by subst x;rw[e]at z;cases z;exact q _ _ rfl)];exact z
 have no:∀{b:tV},H b=none->vi H a ck b=none:=λ{b} z=>by unfold vi;rw[ug (λx=>by subst x;rw[e]at z;cases z)];exact z
 have st:∀{b:tV}{u:HO},Bt X.ub X.w H s.tK b u->Bt X.ub X.w (vi H a ck) s.tK b u:=λz=>z.U0 (λ_ _ _ q=>q) (λ_ q=>ne q (λ_ _=>nofun)) λ_ _ q=>ne q (λ_ _=>nofun)
 exact{I.ok,I.os,I.bare,{I.uk.keep,I.uk.vH,λb ob q z x=>no (I.uk.vK b ob q z x),I.uk.there,λb xs q=>ne (I.uk.zz b xs q) (λ_ _=>nofun),λb ob u q=>by
  have q':=I.uk.zI b ob u q;unfold vi;rw[ug (λx=>by subst x;exact n _ _ q)];exact q',λb ps q=>by
  let{m,z}:=I.uk.zA b ps q;exact{m,ne z (λ_ _=>nofun)} },I.loc,I.wI,no I.vK,λx c q=>no (I.zV x c q),λp q=>{(I.pin p q).1,no (I.pin p q).2.1,(I.pin p q).2.2},λb u q=>by
  by_cases z:b=a
  .subst z;rw[Aq]at q;cases q;exact st h1.2
  .unfold vi at q;rw[ug z]at q;exact st (I.zZ b u q),I.wv}
def uF.YA(I:uF X aa U H s)(e:H a=p' (.tY xs)):∃o,uF X aa U (vi H a (.frz o (.tY xs))) s:=by
 have h2:=(show Bt X.ub X.w H s.tK a (.tY xs)from I.zZ a _ e)
 let{_,_,_,_,ho}:=id h2;exact{_,I.write (x:=a) (e:=a) (t':=s.vj) (h':=s.tK) (by rw[e];exact uQ.intro) (.uW rfl) (λ_ _ _ z=>z) {_,ho} {ho,h2} }
inductive Jaj(td:TE)(U:St)(H:Hp)(Q:VK):Prop
 |mk (a xs:_) (h0:H a=p' (.tY xs)) (h1:∀o,td U (vi H a (.frz o (.tY xs))) λv H1=>H1 a=p' (.frz o (.tY xs))/\Q v (vi H1 a (.tY xs)))
def SI{e:v7}{td:TE}(h:PE X e td):PE X e (Jaj td):=by
 intro aa s U H Q I q;let{a,xs,ha,q}:=q;let{o,I2}:=I.YA ha;refine wo (h aa s U _ _ I2 (q o)) λv s1 aj => ?_
 let{x,H1,I1,r1,h1,q1}:= aj;refine{x,_,I1.thaw h1 (λob u z=>by rw[I.uk.zI a ob u z]at ha;cases ha) (λ_ _=>nofun),r1,q1}
end Lake.L2
namespace PySem
open PyProof.Rows
namespace So
def lt_iff:∀a b:tH tQ,Spec.ltCps a b=true↔a<b
 | [],[]=>by simp[Spec.ltCps]
 | [],b::bs=>by simp[Spec.ltCps]
 |a::as,[]=>by simp[Spec.ltCps]
 |a::as,b::bs=>by have:=lt_iff as bs;rw[tH.cons_lt_cons_iff,<- this];rw[show Spec.ltCps (a::as) (b::bs)=(decide (a<b)||decide (a=b)&&Spec.ltCps as bs)from rfl];simp
def leS (a b:tO):uz:=!Spec.ltCps b.cps.uP a.cps.uP
def Eb{a b:tO}:leS a b=true↔a.cps.uP<=b.cps.uP:=by unfold leS;rw[<- tH.not_lt,<- lt_iff];simp
def srt (ss:tH tO):tH tO:=ss.mergeSort leS
def Vy(a b c:tO)(h:leS a b=true)(k:leS b c=true):leS a c=true:=Eb.wO (tH.le_trans (Eb.mp h) (Eb.mp k))
def JbM{a b:tO}(h:leS a b=true)(k:leS b a=true):a=b:=by have:=tH.le_antisymm (Eb.mp h) (Eb.mp k);cases a;cases b;simpa using this
def OZ:∀{x:tO}{r:tH tO},risingS x r=true->tH.Pairwise (λa b=>leS a b=true) (x::r)
 |x,[],_=>by simp
 |x,y::r,h=>by
  rw[risingS.eq_2,oB]at h;have p:=OZ h.2;refine tH.pairwise_cons.wO {λz m=>?_,p};rcases oz.mp m with rfl|m
  .exact h.1
  .exact Vy _ _ _ h.1 ((tH.pairwise_cons.mp p).1 z m)
def Jaw(ss:tH tO):tH.Pairwise (λa b=>leS a b=true) (srt ss):=tH.pairwise_mergeSort Vy (λa b=>by rw[pW,Eb,Eb];exact tH.le_total _ _) ss
def FJ(ss:tH tO):(srt ss).Perm ss:=tH.mergeSort_perm ..
def Jay{a b:tH tO}(h:a.Perm b)(k:tH.Pairwise (λa b=>leS a b=true) a):a=srt b:=tH.Perm.eq_of_pairwise (le:=λa b=>leS a b=true) (λ_ _ _ _=>JbM) k (Jaw b) (h.trans (FJ b).symm)
def Jax{a b:tH tO}(h:a.Perm b)(k:sortedS a=true):a=srt b:=Jay h (by cases a with|vO=>exact .vO|ux x r=>exact OZ k)
variable{prog:Program}{w:World}{A:Around}{E:Zcv}{s:Shared}
def sortL{vs:tH tM}{ss:tH tO}{Q:Zcv}(x:StrsAre vs ss)(jv:vs.fg<64)
  (h:∀(h':uS)(out:tH tM)(e:tQ),(∀b o,s.tK.ua b=p' o->h'.ua b=p' o)->h'.ua s.tK.uc.tX=p' (seqObj "list" out.tZ e)->StrsAre out (srt ss)->Q (.t8 s.tK.uc.tX) {s with tK:=h' }) :
  ue (uf ub w) A (newList vs >>= λl=>holding [l] (call (.uM "list.sort") [l]) >>= λ_=>wH l) (λaO s'=>∃v,aO=.done (.wH v)/\Q v s') E s:=by
 have hz:vs.fg<=t9:=by rw[vk];lia
 refine nR (wpAny_newList ?_ hz);refine nR (vQ ?_);have hD:(s.tK.vY (seqObj "list" vs.tZ 0)).ua s.tK.uc.tX=p' (seqObj "list" vs.tZ 0):=oi _ rfl;refine v9 (T:="list") slot_list_sort {_,hD,rfl} entry_list_sort ?_ (args_list_sort _);refine list_sort_treeK strKind_oneLt hD x.keysOf (λmK mM uu e=>keyKind_strs (e▸x)) jv λaZ pm y=>{_,rfl,n6 {_,rfl,?_} }
 let{nM,x',l8,mG}:=sorted_out_str x pm y;let{e,he}:=sortedHeap_at (out:=vp.tJ (λx=>x.2) (arrOf aZ)) hD;refine h _ (vp.tJ (λx=>x.2) (arrOf aZ)).uP e (λb o q=>?_) (by rw[vp.toArray_toList];exact he) (Jax l8 mG▸x');rw[sortedHeap_old (oI (ot q)) (by rw[pA];exact tQ.lt_succ_of_lt (ot q))];exact nY _ q
def Uj{T:wb}{r d:tV}{n:tQ}{P:tQ->tM->Prop}{OK:uS->Prop}{Q:tH tM->ud->Prop}(K:W.KdlSrc ub w T r d n P OK)(hh:A.wp=none)(ok:OK s.tK)(hn:n<=t9)
  (h:∀(h':uS)(tk:tQ)(ar:vp tM),(∀b o,s.tK.ua b=p' o->h'.ua b=p' o)->s.tK.uc.tX<=h'.uc.tX->ItemsOf P ar n->Q ar.uP {s with tK:=h',vj:=tk}):ue (uf ub w) A (collect (.t8 r)) Q E s:=by
 have hs:=K.there _ ok;have hN:(s.tK.vY {cls:=tM.uJ "list",uX:=.seq #[]}).ua s.tK.uc.tX=p' {cls:=tM.uJ "list",uX:=.seq #[]}:=oi _ rfl;have key:∀R:Result->ud->Prop,(∀(h':uS)(tk:tQ)(ar:vp tM)(c:tQ),(∀b o,b≠s.tK.uc.tX->(s.tK.vY {cls:=tM.uJ "list",uX:=.seq #[]}).ua b=p' o->h'.ua b=p' o)->h'.ua s.tK.uc.tX=p' {cls:=.uJ "list",uX:=.seq ar c}->ItemsOf P ar n->R (.ok (.wH (.t8 s.tK.uc.tX))) {s with tK:=h',vj:=tk})->codeAny (uf ub w) A (.uM "proto.collect" {uG:=[.t8 r]}) R s:=λR hR=>by refine codeAny_builtin entry_proto_collect' ?_;unfold t6.«proto.collect»;refine nR (wpAny_newList ?_ (by simp));refine n6 {Code.quiet_builtin _ (by kernel_rfl),codeAny_builtin entry_list_iadd' ?_};refine nR (wpAny_of_eq (a:=(tM.t8 s.tK.uc.tX,[tM.t8 r])) rfl ?_);exact W.kdl_extend (A:=A) (s:={s with tK:=s.tK.vY {cls:=tM.uJ "list",uX:=.seq #[]} }) K hh (K.keep _ _ ok λb _ o e=>nY _ e) s.tK.uc.tX (qG hs.1) (qG hs.2) _ 0 hN hR hn
 refine nR (wpAny_runValue (key _ λh' tk ar c kp e it=>?_));refine nR (wpAny_load e ?_);exact n6 (h h' tk ar (λb o q=>kp b o (oI (ot q)) (nY _ q)) (tQ.le_of_lt (ot e)) it)
end So
end PySem
namespace Lake.L2
open PySem PySem.Spec PyProof.Rows
def OF:∀{ss:tH tO}{us:tH tM},vo (ss.tJ V.str) us->StrsAre us ss
 | [],us,r=>by cases r;exact .vO
 |x::ss,us,r=>by cases r with|ux r1 r2 =>let{t,rfl}:=r1;exact .ux x t (OF r2)
def Ot:∀{us:tH tM}{ss:tH tO},StrsAre us ss->vo (ss.tJ V.str) us
 |_,_,.vO=>.vO
 |_,_,.ux y t h=>.ux {t,rfl} (Ot h)
def WI{ss:tH tO}:(So.srt ss).fg=ss.fg:=(So.FJ ss).length_eq
variable{X:Cx}
def Ke(hc:X.calm=true):B7 X (.uM "sorted") (λxs H Q=>∃a ag ss,xs=[.t8 a]/\Rd H a (.v ag)/\(ag.tJ λkv=>kV kv.1)=ss.tJ V.str/\ss.fg<64/\∀l,H l=none->Q (.t8 l) (vi H l (.tY ((So.srt ss).tJ V.str)))):=by
 intro aa s U H xs us Q I r h;let{p,ag,ss,rfl,hp,hk,jv,q}:=h;let{u,rfl,rx}:=vals1 r;cases rx;let{z,hd,vs,aB,dd}:=Fv I.zZ hp;let{ep,da}:=dd.dictAt;have hlen:ag.fg=vs.fg:=Paired.fg aB;refine Calls.call_function_entry kind_sorted plain_sorted entry_sorted (args_sorted1 _) ?_;unfold t6.sorted;refine nR (wpAny_of_eq (a:=()) rfl ?_);refine nR (So.Uj (kdl_dict (ep:=ep) hd) (I.ok.hd hc) da (by rw[<- hlen];exact z) λh' tk ar kp le it=>?_);have x:=Jk aB it;rw[hk]at x;have hz:ar.uP.fg=ss.fg:=by simpa using x.fg.symm
 refine So.sortL (OF x) (by lia) λh2 out e lM he xo=>?_
 exact{.t8 h'.uc.tX,_,I.laid (t':=tk) (o:=.tY ((So.srt ss).tJ V.str)) (λb o q=>lM b o (kp b o q)) le {by rw[vk,nU,WI];lia,out,e,Ot xo,he},rfl,q _ (I.zZ.vJ le)}
end Lake.L2
namespace Lake.L2
open PySem PySem.Spec PyProof.Rows PySem.W
def ZTryN (K:Fg)(C:tV)(th:TS)(D:Ends):XE:=λc U H=>exmOne K c (.t8 C)=p' true/\th D U H
variable{X:Cx}{C:Addr}{x:Str}{np pos bK:Pos}{body aR:List Stmt}{bt:Stmt}{tb:Ends->TS}{th:TS}
def Sv(D:RD X)(hC:X.mg x=p' (.t8 C))(hb:∀D,PSs (X.F9 (XW X (ZTryN X.K C th D))) vR (tb D))(hs:∀a,PSs (X.hand a) (bt::aR) th)
  (hg:Gl X x:=by rfl) (aY:Zdb x:=by decide) :
  PS0 X (.Try vR [.ExceptHandler (p' (.uE x np)) none (bt::aR) bK] [] [] uG) (λD=>tb D D):=by
 intro s U H D' I h;refine wpAny_Try_except (v4 (hb D' [] s U H D' (I.F9 _) h) (λf s1 q=>?_) λe s1 q=>?_)
 .have q:=q.D1;cases f with|next=>exact wpAny_execs_nil q|wH v=>exact q|brk=>exact q|cont=>exact q
 .let{a,c,T,fl,cS,H1,rfl,I1,e1,f1,n1,z1,z2}:=q;refine K3 D I1.ok.v5 I1 e1 f1 n1 λh2 T2 e2 n2 I2=>?_
  refine Ey (f:=none) D.pn I2 e2 n2 λh3 e3 I3=>?_
  refine wpAny_handleBy_cons (codeAny_handlers_test (Gw (X:=X.hand a) I3.hand hg hC ?_ aY)) (by intro q;cases q);let{oe,vs,he,bT,dI,hd,ht}:=id e3;have LT:Looks (uf X.ub X.w) h3 (typeOf (.t8 a)) c:=bT▸(PySem.W.Looks.ld he).andThen .now;refine PySem.W.Looks.here (s:={s1 with tK:=h3}) (PySem.W.exm_one I3.kIn LT z1) ?_;refine codeAny_handlers_suite ?_;refine Ey (f:=none) D.pn I3 e3 n2 λh4 e4 I4=>?_
  exact v4 (hs a [] _ _ _ D' I4.hand z2) (λf s7 q=>q.Hl I.ok) λ_ _ z=>vd.tU z
end Lake.L2
namespace Lake.FL
open PySem PySem.Spec L2
inductive T where
 |vG|l (b:uz)|tS (i:tN)|str (x:tO)
 |uj (ts:tH T)|tY (ts:tH T)
 |n (ts:tH T)
 |v (ks:tH vc) (ts:tH T)|q (ks:tH (tH vc)) (ts:tH T)
 |vE (C:tV) (fs:tH tO) (ts:tH T)
 |dF (ks:tH vc) (ts:tH T)
 |yy (c:tO)
inductive FO where
 |tY (ts:tH T)|v (ks:tH vc) (ts:tH T)|q (ks:tH (tH vc)) (ts:tH T)
 |vE (C:tV) (fs:tH tO) (os:tH FO)|vm (t:T)
 |yx (os:tH FO)|yw (os:tH FO)
 |dO (ks:tH vc) (os:tH FO)|la (p:tV) (ts:tH T)
inductive Sl where
 |vm (t:T)|uI (o:FO)|u7 (o:FO)
def FS:=tH (tL Sl)
inductive Rv where
 |t (t:T)|nw (o:FO)|x (i:tQ)
inductive Out(α:Type) where
 |ok (a:α) (fs:FS)|wy (c:tO) (fs:FS)|ur
inductive SO where
 |nx (fs:FS)|wH (r:Rv) (fs:FS)|brk (fs:FS)|cnt (fs:FS)|wy (c:tO) (fs:FS)|ur
def tj:=Rv->Rv->FS->Out Rv
def tm:=FS->Out Rv
def tq:=FS->Out (tH Rv)
def tw:=FS->Out uz
def tz:=T->FS->tL FS
def tB:=FS->Out (tH T)
def tD:=tQ->tL V
def tE:=tH (tL tQ)
inductive Tg where
 |no|fz|cl|j (b:uz) (i:tQ) (π:tH tQ)
structure Wd where
 o:tV->Tg
def Wd.f (F:Wd)(a:tV):Prop:=F.o a=.fz
def Wd.p (F:Wd)(a:tV):Prop:=F.o a=.cl
instance:CoeFun Wd λ_=>tV->Prop:=⟨Wd.f⟩
def Lf (F:Wd)(H:Hp)(F':Wd)(H':Hp):Prop:=∀a,F a->F' a/\H' a=H a
structure Le(F:Wd)(H:Hp)(F':Wd)(H':Hp):Prop where
 f:Lf F H F' H'
 p:∀a,F.p a->F'.p a/\H' a=H a
def Le.uV:Le F H F H:={λ_ h=>{h,rfl},λ_ h=>{h,rfl} }
def Le.trans(x:Le F H F1 H1)(y:Le F1 H1 F2 H2):Le F H F2 H2 :=
 {λa h=>let{p,q}:=x.f a h;let{p2,q2}:=y.f a p;{p2,q2.trans q},λa h=>let{p,q}:=x.p a h;let{p2,q2}:=y.p a p;{p2,q2.trans q} }
section
variable(K:Fg)
def KL (a:tV)(vs:tH V):Prop:=∃(o:Obj)(uU:vp tM)(n:tQ),K.t7 a=p' o/\o.cls=.uJ "list"/\o.dict=none/\o.uX=.seq uU n/\uU.tX<=t9/\vo vs uU.uP
def StL (F:Wd)(H:Hp)(a:tV)(vs:tH V):Prop:=(F a/\Rd H a (.tY vs))\/KL K a vs
def StT (F:Wd)(H:Hp)(a:tV)(vs:tH V):Prop:=K=K/\F a/\H a=p' (.uj vs)
end
variable{F':Wd}{H':Hp}{a:Addr}{vs:List V}
section
variable{K:Fg}{F:Wd}{H:Hp}
def StL.sq(h:StL K F H a vs):SqL K H a vs:=by
 rcases h with⟨_,h⟩|h
 .exact .uW h
 .exact .uK h
def StT.sq(h:StT K F H a vs):SqT K H a vs:=SqT.of h.2.2
def Rd.same(h:Rd H a u)(e:H' a=H a):Rd H' a u:=by unfold Rd at *;rwa[e]
def StL.lf(l:Lf F H F' H')(h:StL K F H a vs):StL K F' H' a vs:=by
 rcases h with⟨f,h⟩|h
 .exact .uW {(l a f).1,FL.Rd.same h (l a f).2}
 .exact .uK h
end
def CD (K:Fg)(c:tO):tL tV:=match nsIn K uO c with|p' (p' (.t8 C))=>p' C|_=>none
section
variable(K:Fg)(F:Wd)(H:Hp)
mutual
def AK:T->V->Prop
 |.non,v=>v=.non
 |.l b,v=>v=.l b
 |.int i,v=>v=.int i
 |.str x,v=>v=.str x
 |.tup ts,v=>∃a vs,v=.ref a/\StT K F H a vs/\Ai ts vs
 |.lst ts,v=>∃a vs,v=.ref a/\F a/\H a=some (.lst vs)/\Ai ts vs
 |.n ts,v=>∃a vs,v=.ref a/\StL K F H a vs/\Ai ts vs
 |.v ks ts,v=>∃a ag,v=.ref a/\F a/\Rd H a (.v ag)/\ag.map (·.1)=ks/\Ai ts (ag.map (·.2))
 |.q ks ts,v=>∃a ag,v=.ref a/\F a/\H a=some (.q ag)/\ag.map (·.1)=ks/\Ai ts (ag.map (·.2))
 |.ins C fs ts,v=>∃a dx ag,v=.ref a/\F a/\H a=some (.ins C dx ag)/\ag.map (·.1)=fs/\Ai ts (ag.map (·.2))
 |.dF ks ts,v=>∃a ag,v=.ref a/\F a/\(∃o,H a=some (.frz o (.v ag)))/\ag.map (·.1)=ks/\Ai ts (ag.map (·.2))
 |.yy c,v=>∃a C,v=.ref a/\F a/\H a=some (exO (.ref C) a)/\CD K c=some C
def Ai:List T->List V->Prop
 | [],vs=>vs=[]
 |t::ts,vs=>∃v r,vs=v::r/\AK t v/\Ai ts r
end
end
mutual
def toT:FO->T
 |.val t=>t
 |.lst ts=>.lst ts
 |.v ks ts=>.v ks ts
 |.q ks ts=>.q ks ts
 |.ins C fs os=>.ins C fs (LO os)
 |.yx os=>.lst (LO os)
 |.yw os=>.tup (LO os)
 |.dO ks os=>.v ks (LO os)
 |.la _ ts=>.lst ts
def LO:List FO->List T
 | []=>[]
 |o::os=>toT o::LO os
end
variable{K:Fg}{F:Wd}{H:Hp}{b b':Bool}{i i':Nat}{π fN:List Nat}{o:FO}{v:V}{ts:List T}
variable{B:tD}{fs:FS}{U:St}
mutual
theorem AK.lf(l:Lf F H F' H'):∀{t:T}{v:V},AK K F H t v->AK K F' H' t v
 |.non,_,h|.l _,_,h|.int _,_,h|.str _,_,h=>h
 |.tup ts,_,h=>by exact let⟨a,vs,e,s,r⟩:=h;⟨a,vs,e,⟨rfl,(l a s.2.1).1,(l a s.2.1).2.trans s.2.2⟩,Ai.lf l r⟩
 |.lst ts,_,h=>by exact let⟨a,vs,e,f,s,r⟩:=h;⟨a,vs,e,(l a f).1,(l a f).2.trans s,Ai.lf l r⟩
 |.n ts,_,h=>by exact let⟨a,vs,e,s,r⟩:=h;⟨a,vs,e,s.lf l,Ai.lf l r⟩
 |.v ks ts,_,h=>by exact let⟨a,ag,e,f,s,k,r⟩:=h;⟨a,ag,e,(l a f).1,FL.Rd.same s (l a f).2,k,Ai.lf l r⟩
 |.q ks ts,_,h=>by exact let⟨a,ag,e,f,s,k,r⟩:=h;⟨a,ag,e,(l a f).1,(l a f).2.trans s,k,Ai.lf l r⟩
 |.ins C fs ts,_,h=>by exact let⟨a,dx,ag,e,f,s,k,r⟩:=h;⟨a,dx,ag,e,(l a f).1,(l a f).2.trans s,k,Ai.lf l r⟩
 |.dF ks ts,_,h=>by exact let⟨a,ag,e,f,⟨o,s⟩,k,r⟩:=h;⟨a,ag,e,(l a f).1,⟨o,(l a f).2.trans s⟩,k,Ai.lf l r⟩
 |.yy c,_,h=>by exact let⟨a,C,e,f,s,k⟩:=h;⟨a,C,e,(l a f).1,(l a f).2.trans s,k⟩
theorem Ai.lf(l:Lf F H F' H'):∀{ts:List T}{vs:List V},Ai K F H ts vs->Ai K F' H' ts vs
 | [],_,h=>h
 |t::ts,_,h=>by exact let⟨v,r,e,h1,h2⟩:=h;⟨v,r,e,AK.lf l h1,Ai.lf l h2⟩
end
def AK.le(l:Le F H F' H')(h:AK K F H t v):AK K F' H' t v:=h.lf l.f
def Ai.le(l:Le F H F' H')(h:Ai K F H ts vs):Ai K F' H' ts vs:=h.lf l.f
def Ai.iff:∀{ts:tH T}{vs:tH V},Ai K F H ts vs↔vs.fg=ts.fg/\∀(k:tQ)(t:T)(v:V),ts[k]?=p' t->vs[k]?=p' v->AK K F H t v
 | [],vs=>by simp[Ai]
 |t::ts,[]=>by simp[Ai]
 |t::ts,v::vs=>by
  simp![Ai,tH.ux.injEq,om,tQ.add_right_cancel_iff];constructor
  .intro{_,r,{rfl,rfl},h,h'}
   let{l,q}:=Ai.iff.mp h';refine{l,λk t v e1 e2=>?_};cases k with|zero=>cases e1;cases e2;exact h|succ k=>exact q k t v e1 e2
  .exact λ{l,q}=>{v,vs,{rfl,rfl},q 0 t v rfl rfl,Ai.iff.wO {l,λk=>q (k+1)} }
def Ai.wv(h:Ai K F H ts vs):vs.fg=ts.fg:=(Ai.iff.mp h).1
def Ai.at(h:Ai K F H ts vs)(e:ts[i]?=p' t):∃v,vs[i]?=p' v/\AK K F H t v:=by let{l,q}:=Ai.iff.mp h;have hi:=l▸(ou.mp e).1;exact{vs[i],nX hi,q i t _ e (nX hi)}
def Ai.app:∀{ts us:tH T}{vs ws:tH V},Ai K F H ts vs->Ai K F H us ws->Ai K F H (ts++us) (vs++ws)
 | [],_,_,_,h,h'=>by simp![Ai]at h;subst h;exact h'
 |t::ts,us,_,ws,h,h'=>by let{v,r,rfl,h1,h2}:=h;exact{v,r++ws,rfl,h1,Ai.app h2 h'}
def Ai.one(h:AK K F H t v):Ai K F H [t] [v]:=by exact{v,[],rfl,h,rfl}
def Ai.uB(n:tQ)(h:Ai K F H ts vs):Ai K F H (ts.uB n) (vs.uB n):=by
 let{l,q}:=Ai.iff.mp h;refine Ai.iff.wO {by simp[l],λk t v e1 e2=>?_};rw[qI]at e1 e2;split at e1
 .exact q k t v e1 (by simp_all)
 .cases e1
def Ai.drop(n:tQ)(h:Ai K F H ts vs):Ai K F H (ts.drop n) (vs.drop n):=by let{l,q}:=Ai.iff.mp h;refine Ai.iff.wO {by simp[l],λk t v e1 e2=>q (n+k) t v (by simpa using e1) (by simpa using e2)}
def Ai.wJ(r:AK K F H t v)(n:tQ)(h:Ai K F H ts vs):Ai K F H (ts.wJ n t) (vs.wJ n v):=by
 let{l,q}:=Ai.iff.mp h;refine Ai.iff.wO {by simp[l],λk t' v' e1 e2=>?_};rw[qu]at e1 e2;split at e1
 .simp_all
 .exact q k t' v' e1 (by simp_all)
def Ai.rev:∀{ts:tH T}{vs:tH V},Ai K F H ts vs->Ai K F H ts.vn vs.vn
 | [],_,h=>by simp![Ai]at h;subst h;simp[Ai]
 |t::ts,_,h=>by let{v,r,rfl,h1,h2}:=h;rw[tH.reverse_cons,tH.reverse_cons];exact Ai.app (Ai.rev h2) (Ai.one h1)
inductive Sh where
 |tY|uj|v (ks:tH vc)|q (ks:tH (tH vc))|vE (C:tV) (fs:tH tO)|la (p:tV)
def FO.vw :FO->tL (Sh×tH FO)
 |.vm _=>none
 |.tY ts=>p' (.tY,ts.tJ .vm)
 |.v ks ts=>p' (.v ks,ts.tJ .vm)
 |.q ks ts=>p' (.q ks,ts.tJ .vm)
 |.vE C fs os=>p' (.vE C fs,os)
 |.yx os=>p' (.tY,os)
 |.yw os=>p' (.uj,os)
 |.dO ks os=>p' (.v ks,os)
 |.la p ts=>p' (.la p,ts.tJ .vm)
def Has (a:tV)(h:tL HO):Sh->tH V->Prop
 |.tY,vs=>h=p' (.tY vs)
 |.uj,vs=>h=p' (.uj vs)
 |.v ks,vs=>∃ag,h=p' (.v ag)/\ag.tJ (·.1)=ks/\ag.tJ (·.2)=vs
 |.q ks,vs=>∃ag,h=p' (.q ag)/\ag.tJ (·.1)=ks/\ag.tJ (·.2)=vs
 |.vE C fs,vs=>∃dx ag,h=p' (.vE C dx ag)/\ag.tJ (·.1)=fs/\ag.tJ (·.2)=vs
 |.la p,vs=>a=p/\h=p' (.tY vs)
inductive Bg(K:Fg)(F:Wd)(H:Hp)(b:uz)(i:tQ):tH tQ->FO->V->Prop
 |vm {π t v} (r:AK K F H t v):Bg K F H b i π (.vm t) v
 |nd {π o sh os a vs} (e:o.vw=p' (sh,os)) (f:F.o a=.j b i π) (h:Has a (H a) sh vs) (l:vs.fg=os.fg) (c:∀(k:tQ)(o:FO)(v:V),os[k]?=p' o->vs[k]?=p' v->Bg K F H b i (k::π) o v):Bg K F H b i π o (.t8 a)
def Bg.inv{os:tH FO}(h:Bg K F H b i π o v)(e:o.vw=p' (sh,os)):∃a vs,v=.t8 a/\F.o a=.j b i π/\Has a (H a) sh vs/\vs.fg=os.fg/\∀(k:tQ)(o:FO)(v:V),os[k]?=p' o->vs[k]?=p' v->Bg K F H b i (k::π) o v:=by cases h with|vm r=>cases e|nd e' f h l c=>rw[e]at e';cases e';exact{_,_,rfl,f,h,l,c}
def Bg.t{t:T}(h:Bg K F H b i π (.vm t) v):AK K F H t v:=by cases h with|vm r=>exact r|nd e=>cases e
def Bg.vals(h:Bg K F H b i π o v)(e:o.vw=p' (sh,ts.tJ .vm)):∃a vs,v=.t8 a/\F.o a=.j b i π/\Has a (H a) sh vs/\Ai K F H ts vs:=by let{a,vs,e,f,h,l,c}:=h.inv e;exact{a,vs,e,f,h,Ai.iff.wO {by simpa using l,λk t v e1 e2=>(c k (.vm t) v (by simp[e1]) e2).t} }
def Bg.of(e:o.vw=p' (sh,ts.tJ .vm))(f:F.o a=.j b i π)(h:Has a (H a) sh vs)(r:Ai K F H ts vs):Bg K F H b i π o (.t8 a):=by
 let{l,q}:=Ai.iff.mp r;refine .nd e f h (by simpa using l) λk o v e1 e2=>?_
 rw[oq,n8]at e1;let{t,e1,rfl}:=e1;exact .vm (q k t v e1 e2)
def Bg.mv(hm:∀a ρ,F.o a=.j b i (ρ++π)->F'.o a=.j b' i' (ρ++fN)/\H' a=H a)(l:Lf F H F' H')(h:Bg K F H b i π o v):Bg K F' H' b' i' fN o v:=by induction h generalizing fN with|vm r=>exact .vm (r.lf l)|nd e f h n c ih =>let{q1,q2}:=hm _ [] f;exact .nd e q1 (q2▸h) n λk o v e1 e2=>ih k o v e1 e2 λa ρ z=>by simpa using hm a (ρ++[k]) (by simpa using z)
def En:∀ts:tH T,LO (ts.tJ .vm)=ts
 | []=>rfl
 |t::ts=>by rw[nV,LO,En ts];rfl
def KN:∀os:tH FO,LO os=os.tJ toT
 | []=>rfl
 |o::os=>by rw[LO,KN os];rfl
def Bg.frz(hm:∀a ρ,F.o a=.j b i (ρ++π)->F' a/\H' a=H a)(l:Lf F H F' H')(h:Bg K F H b i π o v):AK K F' H' (toT o) v:=by
 induction h with
 |vm r=>exact r.lf l
 |@nd π o sh os a vs e f h n c ih =>
  let{q1,q2}:=hm _ [] f;rw[<- q2]at h;have r:Ai K F' H' (LO os) vs:=Ai.iff.wO {by rw[KN];simpa using n,λk t v e1 e2=>by rw[KN,oq,n8]at e1;let{o,e1,rfl}:=e1;exact ih k o v e1 e2 λa ρ z=>hm a (ρ++[k]) (by simpa using z)};cases o<;>cases e<;>(try rw[En]at r)<;>simp![toT,AK]<;>first
   |exact{a,vs,rfl,q1,h,r}
   |exact{a,vs,rfl,{rfl,q1,h},r}
   |exact{a,vs,rfl,q1,h.2,r}
   |exact let{ag,h,e1,e2}:=h;{a,ag,rfl,q1,.uW h,e1,e2▸r}
   |exact let{ag,h,e1,e2}:=h;{a,ag,rfl,q1,h,e1,e2▸r}
   |exact let{dx,ag,h,e1,e2}:=h;{a,dx,ag,rfl,q1,h,e1,e2▸r}
def SlR (K:Fg)(F:Wd)(B:tD)(H:Hp)(i:tQ):Sl->V->Prop
 |.vm t,v=>AK K F H t v
 |.uI o,v=>Bg K F H true i [] o v
 |.u7 o,v=>Bg K F H true i [] o v/\B i=p' v
structure vN(K:Fg)(F:Wd)(B:tD)(H:Hp)(fs:FS)(U:St):Prop where
 ln:U.fg=fs.fg
 sl:∀(i:tQ)(s:Sl),fs[i]?=p' (p' s)->∃v,U[i]?=p' (p' v)/\SlR K F B H i s v
 td:∀a,H a=none->F.o a=.no
def SlR.mv(hm:∀a ρ,F.o a=.j true i ρ->F'.o a=.j true i ρ/\H' a=H a)(l:Lf F H F' H')(h:SlR K F B H i s v):SlR K F' B H' i s v:=by cases s with|vm t=>exact AK.lf l h|uI o=>exact Bg.mv (π:=[]) (λa ρ z=>hm a _ z) l h|u7 o=>exact{Bg.mv (π:=[]) (λa ρ z=>hm a _ z) l h.1,h.2}
def vN.wJ(h:vN K F B H fs U)(l:Lf F H F' H')(hm:∀a j ρ,j≠i->F.o a=.j true j ρ->F'.o a=.j true j ρ/\H' a=H a)(td:∀a,H' a=none->F'.o a=.no)
  (hs:∀s,x=p' s->∃v,y=p' v/\SlR K F' B H' i s v):vN K F' B H' (fs.wJ i x) (U.wJ i y):=by
 refine{by simp[h.ln],λj s e=>?_,td};have hn:=h.ln;rw[qu]at e ⊢;split at e
 .rename_i fI;subst fI;split at e
  .let{v,rfl,r}:=hs s (by simpa using e);rw[tW rfl,tW (by lia)];exact{v,rfl,r}
  .cases e
 next fI=>rw[ug fI];let{v,e1,r}:=h.sl j s e;exact{v,e1,r.mv (λa ρ z=>hm a j ρ (λq=>fI q.symm) z) l}
def vN.to(h:vN K F B H fs U)(l:Lf F H F' H')(hm:∀a j ρ,F.o a=.j true j ρ->F'.o a=.j true j ρ/\H' a=H a)(td:∀a,H' a=none->F'.o a=.no):vN K F' B H' fs U :=
 {h.ln,λj s e=>let{v,e1,r}:=h.sl j s e;{v,e1,r.mv (λa ρ z=>hm a j ρ z) l},td}
structure Xp where
 p:Wd->(tD)->Hp->tO->FS->Prop
 mono:∀{F:Wd}{B:tD}{H:Hp}{c:tO}{fs:FS}{F':Wd}{H':Hp},p F B H c fs->Le F H F' H'->p F' B H' c fs
def Xp.no :Xp:={λ_ _ _ _ _=>vd,λh _=>h}
def sat (Z:Xp)(B:tD){α β:Type}(R:Wd->Hp->FS->α->β->Prop)(F:Wd)(H:Hp)(o:Out α)(Q:β->Hp->Prop):Prop :=
 match o with|.ok a fs=>∀F' H' b,Le F H F' H'->R F' H' fs a b->Q b H'|.wy c fs=>Z.p F B H c fs|.ur=>vd
def sat.le{o}(h:sat Z B R F H o Q)(l:Le F H F' H'):sat Z B R F' H' o Q:=by
 cases o with
 |ok a fs=>exact λF2 H2 b l2 r=>h F2 H2 b (l.trans l2) r
 |wy c fs=>exact Z.mono h l
 |ur=>exact h
def Out.u9 {α β:Type}(o:Out α)(k:α->FS->Out β):Out β:=match o with|.ok a fs=>k a fs|.wy c fs=>.wy c fs|.ur=>.ur
def sat.imp{Z:Xp}{α β:Type}{R:Wd->Hp->FS->α->β->Prop}{o:Out α}{Q Q':β->Hp->Prop}(h:sat Z B R F H o Q)(i:∀b H,Q b H->Q' b H):sat Z B R F H o Q':=by
 cases o with
 |ok a fs=>exact λF2 H2 b l r=>i _ _ (h F2 H2 b l r)
 |wy c fs=>exact h
 |ur=>exact h
def As{o}{R2:Wd->Hp->FS->γ->δ->Prop}
  (h:sat Z B R2 F H (o.u9 k) Q) (hk:∀a fs F' H' b,Le F H F' H'->R1 F' H' fs a b->sat Z B R2 F' H' (k a fs) Q->Q' b H'):sat Z B R1 F H o Q':=by
 cases o with
 |ok a fs=>exact λF2 H2 b l r=>hk a fs F2 H2 b l r (sat.le h l)
 |wy c fs=>exact h
 |ur=>exact h
def Zx (K:Fg)(F:Wd)(H:Hp)(U:St)(k:tQ):Rv->V->Prop
 |.t t,v=>AK K F H t v
 |.nw o,v=>Bg K F H false k [] o v
 |.x i,v=>U[i]?=p' (p' v)
def RR (K:Fg)(B:tD)(U:St)(F:Wd)(H:Hp)(fs:FS)(r:Rv)(u:V):Prop:=vN K F B H fs U/\Zx K F H U 0 r u
def CQ (K:Fg)(F:Wd)(H:Hp)(U:St):Rv->V->Prop
 |.t t,v=>AK K F H t v
 |.nw _,_=>vd
 |.x i,v=>U[i]?=p' (p' v)
def Out.bnd {α:Type}(o:Out Rv)(k:Rv->FS->Out α):Out α:=o.u9 λr fs=>match r with|.nw _=>.ur|.t t=>k (.t t) fs|.x i=>k (.x i) fs
variable{Z:Xp}{r:Rv}{u:V}
def CQ.le(h:CQ K F H U r u)(l:Le F H F' H'):CQ K F' H' U r u:=by cases r with|t t=>exact AK.le l h|nw o=>exact h|x i=>exact h
def CQ.rr(h:CQ K F H U r u):Zx K F H U k r u:=by cases r with|nw o=>exact h.tU|_=>exact h
def RR.of(h:vN K F B H fs U)(q:CQ K F H U r u):RR K B U F H fs r u:={h,q.rr}
def RR.ok(h:RR K B U F H fs r u):vN K F B H fs U:=h.1
def AB{o}{R2:Wd->Hp->FS->γ->δ->Prop}
  (h:sat Z B R2 F H (o.bnd k) Q) (hk:∀r fs F' H' u,Le F H F' H'->vN K F' B H' fs U->CQ K F' H' U r u->sat Z B R2 F' H' (k r fs) Q->Q' u H'):sat Z B (RR K B U) F H o Q':=by
 refine As h λr fs F' H' u l q s=>?_
 cases r with|nw o=>exact s.tU|t t=>exact hk (.t t) fs F' H' u l q.1 q.2 s|x i=>exact hk (.x i) fs F' H' u l q.1 q.2 s
inductive tF(K:Fg)(Z:Xp)(f:tm)(U:St)(H:Hp)(Q:VK):Prop
 |mk (F:Wd) (B:tD) (fs:FS) (h0:vN K F B H fs U) (h1:sat Z B (RR K B U) F H (f fs) Q)
def RB (K:Fg)(B:tD)(U:St):Wd->Hp->FS->uz->uz->Prop:=λF H fs b b'=>vN K F B H fs U/\b'=b
inductive tT(K:Fg)(Z:Xp)(f:tw)(U:St)(H:Hp)(Q:uz->Hp->Prop):Prop
 |mk (F:Wd) (B:tD) (fs:FS) (h0:vN K F B H fs U) (h1:sat Z B (RB K B U) F H (f fs) Q)
def Jf (K:Fg)(F:Wd)(H:Hp)(U:St):tH Rv->tH V->Prop
 | [],vs=>vs=[]
 |r::rs,vs=>∃v w,vs=v::w/\CQ K F H U r v/\Jf K F H U rs w
def RA (K:Fg)(B:tD)(U:St):Wd->Hp->FS->tH Rv->tH V->Prop:=λF H fs rs vs=>vN K F B H fs U/\Jf K F H U rs vs
inductive tA(K:Fg)(Z:Xp)(f:tq)(U:St)(H:Hp)(Q:tH V->Hp->Prop):Prop
 |mk (F:Wd) (B:tD) (fs:FS) (h0:vN K F B H fs U) (h1:sat Z B (RA K B U) F H (f fs) Q)
def FE (X:Cx)(Z:Xp)(e:v7)(f:tm):Prop:=PE X e (tF X.K Z f)
def FT (X:Cx)(Z:Xp)(e:v7)(f:tw):Prop:=PT X e (tT X.K Z f)
def FA (X:Cx)(Z:Xp)(es:tH v7)(f:tq):Prop:=PA X es (tA X.K Z f)
def AH(h:PE X e t)(i:∀U H Q,t' U H Q->t U H Q):PE X e t':=λaa s U H Q I q=>h aa s U H Q I (i _ _ _ q)
def JC(h:PT X e t)(i:∀U H Q,t' U H Q->t U H Q):PT X e t':=λaa s U H Q I q=>h aa s U H Q I (i _ _ _ q)
def Mi(h:PA X e t)(i:∀U H Q,t' U H Q->t U H Q):PA X e t':=λuG aa s U H Q I q=>h uG aa s U H Q I (i _ _ _ q)
def BS(h:PS X e t)(i:∀D U H,t' D U H->t D U H):PS X e t':=λaa s U H D I q=>h aa s U H D I (i _ _ _ q)
def O9(h:PSs X e t)(i:∀D U H,t' D U H->t D U H):PSs X e t':=λaa s U H D I q=>h aa s U H D I (i _ _ _ q)
def Wd.tag (F:Wd)(p:tV)(t:Tg):Wd:={λa=>if a=p then t else F.o a}
def reT (b:uz)(i:tQ)(g:tH tQ->Tg):Tg->Tg
 |.j c j ρ=>if c=b/\j=i then g ρ else .j c j ρ
 |t=>t
def Wd.re (F:Wd)(b:uz)(i:tQ)(g:tH tQ->Tg):Wd:={λa=>reT b i g (F.o a)}
variable{p:Addr}{o:HO}{t:Tg}{j:Nat}{g:List Nat->Tg}{ob dB:FO}
def O0:reT b i g (.j b i ρ)=g ρ:=by simp[reT]
def L1(h:¬(c=b/\j=i)):reT b i g (.j c j ρ)=.j c j ρ:=by simp![reT];rw[ug h]
def Bh:(F.tag p t).o p=t:=by simp[Wd.tag]
def Br(h:a≠p):(F.tag p t).o a=F.o a:=by simp[Wd.tag,h]
def Le.re:Le F H (F.re b i g) H:={λa f=>{by show reT _ _ _ (F.o a)=_;rw[show F.o a=_ from f];rfl,rfl},λa f=>{by show reT _ _ _ (F.o a)=_;rw[show F.o a=_ from f];rfl,rfl} }
def Bo(h:vi H p o a=none):a≠p/\H a=none:=by
 by_cases e:a=p
 .rw[e,Aq]at h;cases h
 .rw[Ap e]at h;exact{e,h}
def vN.vJ(h:vN K F B H fs U)(hp:H p=none)(hn:F.o a≠.no):a≠p:=λe=>hn (e▸h.td p hp)
def vN.Ea(h:vN K F B H fs U)(hp:H p=none):Le F H (F.tag p t) (vi H p o) :=
 {λa f=>have q:=h.vJ hp (by rw[show F.o a=_ from f];nofun);{(Br q).trans f,Ap q},λa f=>have q:=h.vJ hp (by rw[show F.o a=_ from f];nofun);{(Br q).trans f,Ap q} }
def vN.alloc(h:vN K F B H fs U)(hp:H p=none):vN K (F.tag p t) B (vi H p o) fs U :=
 h.to (h.Ea hp).f (λa j ρ z=>have q:=h.vJ hp (by rw[z];nofun);{(Br q).trans z,Ap q}) λa e=>(Br (Bo e).1).trans (h.td a (Bo e).2)
def vN.re(h:vN K F B H fs U):vN K (F.re false i g) B H fs U :=
 h.to Le.re.f (λa j ρ z=>{by show reT _ _ _ (F.o a)=_;rw[z];exact L1 (by simp),rfl}) λa e=>by show reT _ _ _ (F.o a)=_;rw[h.td a e];rfl
def HX{l:tH α}(h:l[i]?=p' x):l.wJ i x=l:=by let{h',rfl}:=ou.mp h;exact tH.set_getElem_self h'
def vN.reS(h:vN K F B H fs U)(e:U[i]?=p' y)(hs:∀s,x=p' s->∃v,y=p' v/\SlR K (F.re true i g) B H i s v):vN K (F.re true i g) B H (fs.wJ i x) U:=by have:=h.wJ Le.re.f (λa j ρ hj z=>{by show reT _ _ _ (F.o a)=_;rw[z];exact L1 (by simp[hj]),rfl}) (λa e=>by show reT _ _ _ (F.o a)=_;rw[h.td a e];rfl) hs;rwa[HX e]at this
def Ce(ok:vN K F B H fs U)(hp:H p=none)(s:sat Z B (RR K B U) F H (.ok (.nw ob) fs) Q)(e:ob.vw=p' (sh,ts.tJ .vm))(h:Has p (p' o) sh vs)(r:Ai K F H ts vs):Q (.t8 p) (vi H p o) :=
 s _ _ _ (ok.Ea hp) {ok.alloc hp,.of e Bh (by rwa[Aq]) (r.le (ok.Ea hp))}
def Hs{t:T}(ok:vN K F B H fs U)(hp:H p=none)(s:sat Z B (RR K B U) F H (.ok (.t t) fs) Q)(r:AK K (F.tag p .fz) (vi H p o) t (.t8 p)):Q (.t8 p) (vi H p o) :=
 s _ _ _ (ok.Ea hp) {ok.alloc hp,r}
def Sl.put :Sl->FO->Sl
 |.uI _,o=>.uI o
 |.u7 _,o=>.u7 o
 |.vm t,_=>.vm t
def Ax (fs:FS)(i:tQ):tL FO:=match fs[i]? with|p' (p' (.uI o))=>p' o|p' (p' (.u7 o))=>p' o|_=>none
def vA (fs:FS)(i:tQ)(o:FO):FS:=match fs[i]? with|p' (p' s)=>fs.wJ i (p' (s.put o))|_=>fs
meta def vN.uI(h:vN K F B H fs U)(e:Ax fs i=p' ob):∃v,U[i]?=p' (p' v)/\Bg K F H true i [] ob v:=by
 unfold Ax at e;split at e
 next es=>cases e;exact h.sl _ _ es
 next es=>cases e;exact let{v,e1,r}:=h.sl _ _ es;{v,e1,r.1}
 .cases e
def vN.at(h:vN K F B H fs U)(r:U[i]?=p' (p' u))(e:Ax fs i=p' ob):Bg K F H true i [] ob u:=by let{v,e1,q}:=h.uI e;rw[r]at e1;cases e1;exact q
def vN.put(h:vN K F B H fs U)(e:Ax fs i=p' ob)(l:Lf F H F' H')(hm:∀a j ρ,j≠i->F.o a=.j true j ρ->F'.o a=.j true j ρ/\H' a=H a)(td:∀a,H' a=none->F'.o a=.no)
  (r:∀v,U[i]?=p' (p' v)->Bg K F' H' true i [] dB v):vN K F' B H' (vA fs i dB) U:=by
 have key:∀s,fs[i]?=p' (p' s)->(∀v,U[i]?=p' (p' v)->SlR K F B H i s v->SlR K F' B H' i (s.put dB) v)->vN K F' B H' (vA fs i dB) U:=λs es hs=>by let{v,e1,q}:=h.sl i s es;have:=h.wJ (x:=p' (s.put dB)) l hm td (λs' e=>by cases e;exact{v,rfl,hs v e1 q});rw[HX e1]at this;unfold vA;rwa[es]
 unfold Ax at e;split at e
 next es=>exact key _ es λv e1 _=>r v e1
 next es=>exact key _ es λv e1 q=>{r v e1,q.2}
 .cases e
def C9(f:F.o a=.j true i π):Le F H F (vi H a o) :=
 {λb z=>{z,Ap λe=>by rw[e]at z;exact nomatch f.symm.trans z},λb z=>{z,Ap λe=>by rw[e]at z;exact nomatch f.symm.trans z} }
def vN.vi(h:vN K F B H fs U)(e:Ax fs i=p' ob)(f:F.o a=.j true i π)(r:∀v,U[i]?=p' (p' v)->Bg K F (vi H a o) true i [] dB v):vN K F B (L2.vi H a o) (vA fs i dB) U :=
 h.put e (C9 f).f (λb j ρ hj z=>{z,Ap λe=>hj (by rw[e,f]at z;cases z;rfl)}) (λb z=>h.td b (Bo z).2) r
def vN.updV(h:vN K F B H fs U)(e:Ax fs i=p' ob)(r:U[i]?=p' (p' (.t8 a)))(f:F.o a=.j true i [])(ev:dB.vw=p' (sh,ts.tJ .vm))(hs:Has a (p' o) sh vs)(rt:Ai K F H ts vs):vN K F B (L2.vi H a o) (vA fs i dB) U :=
 h.vi e f λv z=>by rw[r]at z;cases z;exact .of ev f (by rw[Aq];exact hs) (rt.le (C9 f))
def Aa (i:tQ):tm:=λfs=>match fs[i]? with|p' (p' (.vm t))=>.ok (.t t) fs|p' (p' (.uI _))=>.ok (.x i) fs|p' (p' (.u7 _))=>.ok (.x i) fs|_=>.ur
def gc (t:T):tm:=λfs=>.ok (.t t) fs
variable{X:Cx}{e:Expr}
meta def fe_v(i:tQ)(hN:X.N[i]?=p' x:=by rfl)(hv:Vis X.uh.uR x:=by first|exact Or.uW rfl|exact Or.uK (Or.uW rfl)|exact Or.uK (Or.uK rfl))(hd:Zdb x:=by decide)
  (cE:(x==("__classdict__":tO))=false:=by decide):FE X Z (.uE x uG) (Aa i):=by
 refine AH (pv i hN hv hd cE) λU H Q aj=>?_
 let{F,B,fs,ok,s}:= aj;unfold Aa at s;split at s
 next es=>exact let{u,e1,q}:=ok.sl _ _ es;{u,e1,s F H u Le.uV {ok,q} }
 next es=>exact let{u,e1,q}:=ok.sl _ _ es;{u,e1,s F H u Le.uV {ok,e1} }
 next es=>exact let{u,e1,q}:=ok.sl _ _ es;{u,e1,s F H u Le.uV {ok,e1} }
 .exact s.tU
def ZN(t:T)(h:PE X e (tC v))(r:∀K F H,AK K F H t v):FE X Z e (gc t) :=
 AH h λU H Q {F,B,fs,ok,s}=>s F H v Le.uV (RR.of ok (r _ _ _))
def fe_int:FE X Z (.Constant (.tS i) j uG) (gc (.tS i)):=ZN _ Me λ_ _ _=>rfl
def fe_bl:FE X Z (.Constant (.bool b) j uG) (gc (.l b)):=ZN _ pe_bl λ_ _ _=>rfl
def fe_non:FE X Z (.Constant .none j uG) (gc .vG):=ZN _ Jbd λ_ _ _=>rfl
def fe_str:FE X Z (.Constant (.str x) j uG) (gc (.str x)):=ZN _ Jbb λ_ _ _=>rfl
def fe_gI(h:∃t,X.mg x=p' (.tS i t))(hg:Gl X x:=by rfl)(hd:Zdb x:=by decide):FE X Z (.uE x uG) (gc (.tS i)):=ZN _ (pe_gI h hg hd) λ_ _ _=>rfl
def fe_gS(h:∃t,X.mg x=p' (.str z t))(hg:Gl X x:=by rfl)(hd:Zdb x:=by decide):FE X Z (.uE x uG) (gc (.str z)):=ZN _ (pe_gS h hg hd) λ_ _ _=>rfl
def fz (f:tm):tm:=λfs=>(f fs).u9 λr fs=>match r with|.t t=>.ok (.t t) fs|.nw o=>.ok (.t (toT o)) fs|.x i=>match fs[i]? with|p' (p' (.uI o))=>.ok (.t (toT o)) (fs.wJ i (p' (.vm (toT o))))|_=>.ur
variable{f:tm}{o:FO}{Q:VK}
def Bg.fzR(h:Bg K F H b i [] o u):AK K (F.re b i λ_=>.fz) H (toT o) u :=
 h.frz (λa ρ z=>{by show reT _ _ _ (F.o a)=_;rw[z];exact O0,rfl}) Le.re.f
def Bg.mvR(h:Bg K F H b i [] o u):Bg K (F.re b i λρ=>.j c j (ρ++π)) H c j π o u :=
 h.mv (π:=[]) (λa ρ z=>{by show reT _ _ _ (F.o a)=_;rw[z,O0,oJ],rfl}) Le.re.f
def RR.fz(q:RR K B U F H fs (.x i) u)(es:fs[i]?=p' (p' (.uI o))):RR K B U (F.re true i λ_=>.fz) H (fs.wJ i (p' (.vm (toT o)))) (.t (toT o)) u:=by let{ok,q}:=q;let{v,e1,r}:=ok.sl _ _ es;cases(show _=_ from q).symm.trans e1;exact{ok.reS q λs e=>by cases e;exact{u,rfl,Bg.fzR r},Bg.fzR r}
def RR.mv(q:RR K B U F H fs (.x i) u)(es:fs[i]?=p' (p' (.uI o))):RR K B U (F.re true i λρ=>.j false 0 (ρ++[])) H (fs.wJ i none) (.nw o) u:=by let{ok,q}:=q;let{v,e1,r}:=ok.sl _ _ es;cases(show _=_ from q).symm.trans e1;exact{ok.reS q nofun,Bg.mvR r}
def fe_fz(h:FE X Z e f):FE X Z e (fz f):=by
 refine AH h λU H Q aj => ?_
 let{F,B,fs,ok,s}:= aj;refine{F,B,fs,ok,?_};refine As s λr fs F' H' u l q s=>?_
 cases r with
 |t t=>exact s F' H' u Le.uV q
 |nw o=>exact s _ H' u Le.re {q.1.re,Bg.fzR q.2}
 |x i =>
  dsimp only at s;split at s
  next es=>exact s _ H' u Le.re (q.fz es)
  .exact s.tU
def big :tQ:=1000000
def DI:big<=t9:=by rw[vk];decide
def Fi:big<t9:=by rw[vk];decide
def BD (fs:FS):Rv->tL (tH T)
 |.t (.tY ts)=>p' ts
 |.t (.n ts)=>p' ts
 |.x i=>match Ax fs i with|p' (.tY ts)=>p' ts|_=>none
 |_=>none
def KU :Rv->tL (tH T)
 |.t (.uj ts)=>p' ts
 |_=>none
variable{x:Rv}
meta def Bb(h:vN K F B H fs U)(r:CQ K F H U x u)(e:BD fs x=p' ts):∃a vs,u=.t8 a/\SqL K H a vs/\Ai K F H ts vs:=by
 unfold BD at e;split at e
 .cases e;simp![CQ,AK]at r;let{a,vs,e,f,s,q}:=r;exact{a,vs,e,SqL.of s,q}
 .cases e;simp![CQ,AK]at r;let{a,vs,e,s,q}:=r;exact{a,vs,e,s.sq,q}
 .rename_i i;split at e
  next bE eo=>cases e;let{a,vs,e,_,s,q}:=(h.at r eo).vals rfl;exact{a,vs,e,SqL.of s,q}
  .cases e
 .cases e
def BG(r:CQ K F H U x u)(e:KU x=p' ts):∃a vs,u=.t8 a/\SqT K H a vs/\Ai K F H ts vs:=by
 unfold KU at e;split at e
 .cases e;let{a,vs,e,s,q}:=r;exact{a,vs,e,s.sq,q}
 .cases e
def Ru{t}{i:tN}(r:Ai K F H ts vs)(e:atI ts i=p' t):∃v,atI vs i=p' v/\AK K F H t v:=by unfold atI at e ⊢;rw[r.wv];cases q:ixN ts.fg i with|none=>rw[q]at e;cases e|p' j =>rw[q]at e;exact r.at e
def Ai.ints:∀{ns:tH tN}{vs:tH V},Ai K F H (ns.tJ T.tS) vs->vs=ns.tJ V.tS
 | [],_,h=>by simpa[Ai]using h
 |n::ns,_,h=>by let{v,r,rfl,rfl,h}:=h;rw[nV,Ai.ints h]
def Ai.bls:∀{ns:tH uz}{vs:tH V},Ai K F H (ns.tJ T.l) vs->vs=ns.tJ V.l
 | [],_,h=>by simpa[Ai]using h
 |n::ns,_,h=>by let{v,r,rfl,rfl,h}:=h;rw[nV,Ai.bls h]
def Ai.strs:∀{ns:tH tO}{vs:tH V},Ai K F H (ns.tJ T.str) vs->vs=ns.tJ V.str
 | [],_,h=>by simpa[Ai]using h
 |n::ns,_,h=>by let{v,r,rfl,rfl,h}:=h;rw[nV,Ai.strs h]
def Fl :tH T->tL (tH tN)
 | []=>p' []
 |.tS i::r=>(Fl r).tJ (i::·)
 |_=>none
def Lz :tH T->tL (tH uz)
 | []=>p' []
 |.l i::r=>(Lz r).tJ (i::·)
 |_=>none
def Dd :tH T->tL (tH tO)
 | []=>p' []
 |.str i::r=>(Dd r).tJ (i::·)
 |_=>none
def G3:∀{ts:tH T}{ns:tH tN},Fl ts=p' ns->ts=ns.tJ T.tS
 | [],_,e=>by cases e;rfl
 |t::r,_,e=>by cases t<;>simp![Fl,n8,reduceCtorEq]at e;let{ns,e,rfl}:=e;rw[nV,<- G3 e]
def Jd:∀{ts:tH T}{ns:tH uz},Lz ts=p' ns->ts=ns.tJ T.l
 | [],_,e=>by cases e;rfl
 |t::r,_,e=>by cases t<;>simp![Lz,n8,reduceCtorEq]at e;let{ns,e,rfl}:=e;rw[nV,<- Jd e]
def Kt:∀{ts:tH T}{ns:tH tO},Dd ts=p' ns->ts=ns.tJ T.str
 | [],_,e=>by cases e;rfl
 |t::r,_,e=>by cases t<;>simp![Dd,n8,reduceCtorEq]at e;let{ns,e,rfl}:=e;rw[nV,<- Kt e]
def Ag (g:tj)(fa fb:tm):tm:=λfs=>(fa fs).bnd λx fs=>(fb fs).bnd λy fs=>g x y fs
def OpF (K:Fg)(Z:Xp)(r:R2)(g:tj):Prop:=∀(F:Wd)(B:tD)(H:Hp)(U:St)(fs:FS)(x y:Rv)(u w:V)(Q:VK),vN K F B H fs U->CQ K F H U x u->CQ K F H U y w ->
 sat Z B (RR K B U) F H (g x y fs) Q->r u w H Q
def wk (f:tm):tw:=λfs=>(f fs).u9 λr fs=>match r with|.t (.l b)=>.ok b fs|_=>.ur
variable{a b c:Expr}{fa fb fc:tm}{r r':R2}{g g':tj}{pos:Pos}
def F0(hg:OpF K Z r g)(h:tF K Z (Ag g fa fb) U H Q):tOp r (tF K Z fa) (tF K Z fb) U H Q:=by let{F,B,fs,ok,s}:=h;exact{F,B,fs,ok,AB s λx ae F1 H1 u l av rx s1=>{F1,B,ae,av,AB s1 λy aq F2 H2 w l2 aL ry s2=>hg F2 B H2 U aq x y u w Q aL (rx.le l2) ry s2} }
meta def V5{Q}(h:tT K Z (wk f) U H Q):tF K Z f U H λx H'=>∃k,x=.l k/\Q k H':=by
 let{F,B,fs,ok,s}:=h;refine{F,B,fs,ok,As s λr ae F1 H1 u l q s1=>?_};split at s1
 next b=>let{o1,q}:=q;exact{b,q,s1 F1 H1 b Le.uV {o1,rfl} }
 .exact s1.tU
def NS(hg:OpF X.K Z r g)(ho:OpR X (binaryOp op) r)(ha:FE X Z a fa)(hb:FE X Z b fb):FE X Z (.BinOp a op b uG) (Ag g fa fb) :=
 AH (pe_op ho ha hb) λ_ _ _ h=>F0 hg h
def J2(hg:OpF X.K Z r g)(ho:OpR X (u0 op) r)(ha:FE X Z a fa)(hb:FE X Z b fb)(hm:behindInMarks op b=false):FE X Z (.vW a [op] [b] uG) (Ag g fa fb) :=
 AH (Xh ho ha hb hm) λ_ _ _ h=>F0 hg h
def Cr(hg:OpF X.K Z r g)(ho:OpR X (u0 op) r)(ha:FE X Z a fa)(hb:FE X Z b fb)(hm:behindInMarks op b=false):FT X Z (.vW a [op] [b] uG) (wk (Ag g fa fb)) :=
 JC (WY ho ha hb hm) λ_ _ _ h=>F0 hg (V5 h)
def fe_ix(hg:OpF X.K Z r g)(hr:IxR X r)(ha:FE X Z a fa)(hb:FE X Z b fb)(hs:Jg b):FE X Z (.vz a b uG) (Ag g fa fb) :=
 AH (Jbf hr ha hb hs) λ_ _ _ h=>F0 hg h
def chain (g g':tj)(fa fb fc:tm):tm:=λfs=>(fa fs).bnd λx fs=>(fb fs).bnd λy fs=>(g x y fs).bnd λz fs=>match z with
 |.t (.l true)=>(fc fs).bnd λw fs=>g' y w fs
 |.t (.l false)=>.ok (.t (.l false)) fs
 |_=>.ur
def Za(hg:OpF K Z r g)(e8:OpF K Z r' g')(h:tF K Z (chain g g' fa fb fc) U H Q):OA r r' (tF K Z fa) (tF K Z fb) (tF K Z fc) U H Q:=by
 let{F,B,fs,ok,s}:=h;refine{F,B,fs,ok,AB s λx ae F1 H1 u l av rx s1=>{F1,B,ae,av,AB s1 λy aq F2 H2 w l2 aL ry s2=>hg F2 B H2 U aq x y u w _ aL (rx.le l2) ry ?_} };refine AB s2 λz bR F3 H3 v l3 bC rz s3=>?_
 split at s3
 .refine{true,rz,?_};exact{F3,B,bR,bC,AB s3 λw' bY F4 H4 v' l4 dr bU s4=>e8 F4 B H4 U bY y w' w v' Q dr ((ry.le l3).le l4) bU s4}
 .refine{false,rz,?_};exact s3 F3 H3 (.l false) Le.uV (RR.of bC rfl)
 .exact s3.tU
def SX{a b:tN}(ha:t6.tN.vh a<=2^26)(hb:t6.tN.vh b<=2^26):IntMulOk a b:=by intro h;rw[oB]at h;have h2:=oy (show decide _=true from h.2);have e:bitsLine=134217728:=rfl;omega
def gI (g:tN->tN->tm):tj
 |.t (.tS i),.t (.tS j),fs=>g i j fs
 |_,_,_=>.ur
def okT (t:T)(fs:FS):Out Rv:=.ok (.t t) fs
def gAdd :=gI λi j=>okT (.tS (i+j))
def Dw :=gI λi j=>okT (.tS (i-j))
def ZJ :=gI λi j fs=>if(decide (-(2^64)<i/\i<2^64)||decide (-(2^64)<j/\j<2^64)||(decide (t6.tN.vh i<=2^26)&&decide (t6.tN.vh j<=2^26)))=true then okT (.tS (i*j)) fs else .ur
def B5 :=gI λi j fs=>if 0<j then okT (.tS (i%j)) fs else .ur
def EU :=gI λi j fs=>if 0<j/\j<1073741824 then okT (.tS (i/j)) fs else .ur
def gLt :=gI λi j=>okT (.l (decide (i<j)))
def gLe :=gI λi j=>okT (.l (decide (i<=j)))
def gGt :=gI λi j=>okT (.l (decide (j<i)))
def gGe :=gI λi j=>okT (.l (decide (j<=i)))
meta def SN{g}{v}{t:tN->tN->T}(hv:∀K F H i j,AK K F H (t i j) (v i j))(hg:∀i j fs,g i j fs=.ur\/(C i j/\g i j fs=okT (t i j) fs)):OpF K Z (rI C v) (gI g):=by
 intro F B H U fs x y u w Q ok rx ry s;unfold gI at s;split at s
 .rename_i i j;rcases hg i j fs with e|⟨c,e⟩
  .rw[e]at s;exact s.tU
  .rw[e]at s;exact{i,j,rx,ry,c,s F H _ Le.uV (RR.of ok (hv _ _ _ _ _))}
 .exact s.tU
meta def Hw{v}{t:tN->tN->T}(hv:∀K F H i j,AK K F H (t i j) (v i j)):OpF K Z (rI0 v) (gI λi j=>okT (t i j)):=by
 intro F B H U fs x y u w Q ok rx ry s;unfold gI at s;split at s
 next i j=>exact{i,j,rx,ry,s F H _ Le.uV (RR.of ok (hv _ _ _ _ _))}
 .exact s.tU
def Jbz:OpF K Z (rI0 λi j=>.tS (i+j)) gAdd:=Hw λ_ _ _ _ _=>rfl
def Jbt:OpF K Z (rI0 λi j=>.tS (i-j)) Dw:=Hw λ_ _ _ _ _=>rfl
def of_lt:OpF K Z (rI0 λi j=>.l (decide (i<j))) gLt:=Hw λ_ _ _ _ _=>rfl
def of_le:OpF K Z (rI0 λi j=>.l (decide (i<=j))) gLe:=Hw λ_ _ _ _ _=>rfl
def of_gt:OpF K Z (rI0 λi j=>.l (decide (j<i))) gGt:=Hw λ_ _ _ _ _=>rfl
def of_ge:OpF K Z (rI0 λi j=>.l (decide (j<=i))) gGe:=Hw λ_ _ _ _ _=>rfl
def Jbw:OpF K Z (rI (λ_ j=>0<j) λi j=>.tS (i%j)) B5:=SN (t:=λi j=>.tS (i%j)) (λ_ _ _ _ _=>rfl) λi j fs=>by
 by_cases h:0<j
 .exact .uK {h,tW h}
 .exact .uW (ug h)
def Jby:OpF K Z (rI CDiv λi j=>.tS (i/j)) EU:=SN (t:=λi j=>.tS (i/j)) (λ_ _ _ _ _=>rfl) λi j fs=>by
 by_cases h:0<j/\j<1073741824
 .exact .uK {h,tW h}
 .exact .uW (ug h)
def Jbv:OpF K Z (rI IntMulOk λi j=>.tS (i*j)) ZJ:=SN (t:=λi j=>.tS (i*j)) (λ_ _ _ _ _=>rfl) λi j fs=>by
 by_cases h:(decide (-(2^64)<i/\i<2^64)||decide (-(2^64)<j/\j<2^64)||(decide (t6.tN.vh i<=2^26)&&decide (t6.tN.vh j<=2^26)))=true
 .refine .uK {?_,tW h};rw[pW,pW,oB]at h;rcases h with(h|h)|⟨h1,h2⟩
  .exact CMul.ok (.uW (oy h))
  .exact CMul.ok (.uK (oy h))
  .exact SX (oy h1) (oy h2)
 .exact .uW (ug h)
def plV :T->tL V
 |.vG=>p' .vG
 |.l b=>p' (.l b)
 |.tS i=>p' (.tS i)
 |.str x=>p' (.str x)
 |_=>none
def BV{t}(e:plV t=p' v)(r:AK K F H t u):u=v:=by cases t<;>cases e<;>exact r
def gEq (neg:uz):tj
 |.t x,.t y,fs=>match plV x,plV y with|p' u,p' w=>if WM u w=true then okT (.l (if neg then !decide (u=w)else decide (u=w))) fs else .ur|_,_=>.ur
 |_,_,_=>.ur
def W8 :tH T->tL (tH V)
 | []=>p' []
 |t::r=>(plV t).u9 λv=>(W8 r).tJ (v::·)
def Ig:∀{ts:tH T}{us vs:tH V},W8 ts=p' vs->Ai K F H ts us->us=vs/\vs.all Fq=true
 | [],_,_,e,r=>by cases e;exact{r,rfl}
 |t::ts,_,_,e,r=>by let{v,w,rfl,r1,r2}:=r;simp![W8,oE,n8]at e;let{v',e1,ws,e2,rfl}:=e;let{rfl,h}:=Ig e2 r2;have:=BV e1 r1;subst this;refine{rfl,?_};rw[qL,h,uz.and_true];cases t<;>first|(cases e1;rfl)|cases e1
def Cq{t}(e:plV t=p' v):Fq v=true:=by cases t<;>first|(cases e;rfl)|cases e
def gIn (neg:uz):tj
 |.t x,y,fs=>match plV x with
  |p' v=>match(match BD fs y with|p' ts=>W8 ts|none=>(KU y).u9 W8)with|p' vs=>okT (.l (if neg then !inV v vs else inV v vs)) fs|none=>.ur
  |none=>.ur
 |_,_,_=>.ur
def JY (neg:uz):tj
 |.t (.str i),.t (.str j),fs=>okT (.l (if neg then !(!(t6.tO.occurrences j i 0 j.fg 1).vb)else !(t6.tO.occurrences j i 0 j.fg 1).vb)) fs
 |_,_,_=>.ur
def of_eq:OpF K Z rEq (gEq false):=by
 intro F B H U fs x y u w Q ok rx ry s;unfold gEq at s;split at s
 .split at s
  .rename_i e1 e2;split at s
   next hs=>have h1:=BV e1 rx;have h2:=BV e2 ry;subst h1 h2;exact{hs,s F H _ Le.uV (RR.of ok rfl)}
   .exact s.tU
  .exact s.tU
 .exact s.tU
def of_ne:OpF K Z rNe (gEq true):=by
 intro F B H U fs x y u w Q ok rx ry s;unfold gEq at s;split at s
 .split at s
  .rename_i e1 e2;split at s
   next hs=>have h1:=BV e1 rx;have h2:=BV e2 ry;subst h1 h2;exact{hs,s F H _ Le.uV (RR.of ok rfl)}
   .exact s.tU
  .exact s.tU
 .exact s.tU
meta def Xy(neg:uz):OpF K Z (rIn K neg) (gIn neg):=by
 intro F B H U fs x y u w Q ok rx ry s;unfold gIn at s;split at s
 .split at s
  .rename_i v e1;split at s
   .rename_i vs e2;have h1:=BV e1 rx;subst h1;split at e2
    next ts e3=>let{a,us,rfl,hs,q}:=Bb ok ry e3;let{rfl,hf}:=Ig e2 q;exact{a,us,rfl,.uW hs,Cq e1,hf,s F H _ Le.uV (RR.of ok rfl)}
    .rw[oE]at e2;let{ts,e3,e2}:=e2;let{a,us,rfl,hs,q}:=BG ry e3;let{rfl,hf}:=Ig e2 q;exact{a,us,rfl,.uK hs,Cq e1,hf,s F H _ Le.uV (RR.of ok rfl)}
   .exact s.tU
  .exact s.tU
 .exact s.tU
meta def Mj:OpF K Z (λx y H Q=>∃i j,x=.str i/\y=.str j/\Q (.l (!(t6.tO.occurrences j i 0 j.fg 1).vb)) H) (JY false):=by
 intro F B H U fs x y u w Q ok rx ry s;unfold JY at s;split at s
 next i j=>exact{i,j,rx,ry,s F H _ Le.uV (RR.of ok rfl)}
 .exact s.tU
meta def K2:OpF K Z (λx y H Q=>∃i j,x=.str i/\y=.str j/\Q (.l (!(!(t6.tO.occurrences j i 0 j.fg 1).vb))) H) (JY true):=by
 intro F B H U fs x y u w Q ok rx ry s;unfold JY at s;split at s
 next i j=>exact{i,j,rx,ry,s F H _ Le.uV (RR.of ok rfl)}
 .exact s.tU
def gIx :tj
 |x,.t (.tS i),fs=>match BD fs x with
  |p' ts=>match atI ts i with|p' t=>okT t fs|none=>.ur
  |none=>match x with
   |.t (.uj ts)=>match atI ts i with|p' t=>okT t fs|none=>.ur
   |.t (.str z)=>if z.fg<=big then match atI z.cps.uP i with|p' c=>okT (.str {#[c]}) fs|none=>.ur
    else .ur
   |_=>.ur
 |_,_,_=>.ur
meta def of_ix:OpF K Z (rIx K) gIx:=by
 intro F B H U fs x y u w Q ok rx ry s;unfold gIx at s;split at s
 .rename_i i;split at s
  .rename_i ts e;split at s
   next t et=>let{a,vs,rfl,hs,q}:=Bb ok rx e;let{v,ev,rv}:=Ru q et;exact .uW {a,vs,i,v,rfl,ry,hs,ev,s F H v Le.uV (RR.of ok rv)}
   .exact s.tU
  .split at s
   .rename_i ts _;split at s
    next t et=>let{a,vs,rfl,hs,q}:=BG rx rfl;let{v,ev,rv}:=Ru q et;exact .uK (.uW {a,vs,i,v,rfl,ry,hs,ev,s F H v Le.uV (RR.of ok rv)})
    .exact s.tU
   .rename_i z _;split at s
    .rename_i hz;split at s
     next c ec=>exact .uK (.uK {z,i,c,rx,ry,oo hz DI,ec,s F H _ Le.uV (RR.of ok rfl)})
     .exact s.tU
    .exact s.tU
   .exact s.tU
 .exact s.tU
def TL :tj
 |.t (.str i),.t (.str j),fs=>if i.fg+j.fg<=big then okT (.str (i++j)) fs else .ur
 |_,_,_=>.ur
def TJ :tj
 |.t (.str z),.t (.tS n),fs=>if z.fg=1/\1<=n/\n<=1000 then okT (.str (Txt.mul z n)) fs else .ur
 |_,_,_=>.ur
def XO(hz:z.fg=1)(h0:1<=n)(h1:n<=1000):MulOk z n:=by
 refine{?_,λ_ _=>?_,λ_ _=>?_}
 .rw[uz.or_eq_false_iff];exact{oK (by omega),oK (by omega)}
 .have h:=by omega
  have h2:1<=((2:tN)^63-1)/n:=(tN.le_ediv_iff_mul_le (by omega)).wO (by omega);omega
 .unfold t6.tO.tooLong;refine oK ?_;rw[hz];have h3:(1000:tQ)<=t9:=by rw[vk];decide
  omega
meta def XD:OpF K Z (λx y H Q=>∃i j,x=.str i/\y=.str j/\i.fg+j.fg<=t9/\Q (.str (i++j)) H) TL:=by
 intro F B H U fs x y u w Q ok rx ry s;unfold TL at s;split at s
 .rename_i i j;split at s
  next h=>exact{i,j,rx,ry,oo h DI,s F H _ Le.uV (RR.of ok rfl)}
  .exact s.tU
 .exact s.tU
meta def Xx:OpF K Z (λx y H Q=>∃z n,x=.str z/\y=.tS n/\MulOk z n/\Q (.str (Txt.mul z n)) H) TJ:=by
 intro F B H U fs x y u w Q ok rx ry s;unfold TJ at s;split at s
 .rename_i i j;split at s
  next h=>exact{i,j,rx,ry,XO h.1 h.2.1 h.2.2,s F H _ Le.uV (RR.of ok rfl)}
  .exact s.tU
 .exact s.tU
def truR (fs:FS):Rv->tL uz
 |.t .vG=>p' false
 |.t (.l b)=>p' b
 |.t (.tS i)=>p' (i !=0)
 |.t (.str x)=>if x.fg<=big then p' ((x.fg:tN)!=0)else none
 |.t (.tY ts)=>p' !ts.vb
 |.t (.uj ts)=>p' !ts.vb
 |.x i=>match Ax fs i with|p' (.tY ts)=>p' !ts.vb|p' (.v ks _)=>p' !ks.vb|_=>none
 |_=>none
def Ge (f:tm):tw:=λfs=>(f fs).bnd λr fs=>match truR fs r with|p' b=>.ok b fs|none=>.ur
def Ep (f:tw):tw:=λfs=>(f fs).u9 λb fs=>.ok (!b) fs
def E8 (f g:tw):tw:=λfs=>(f fs).u9 λb fs=>if b=true then g fs else .ok false fs
def orT (f g:tw):tw:=λfs=>(f fs).u9 λb fs=>if b=true then .ok true fs else g fs
def andV (f g:tm):tm:=λfs=>(f fs).bnd λr fs=>match r with|.t (.l true)=>g fs|.t (.l false)=>okT (.l false) fs|_=>.ur
def ifV (c:tw)(f g:tm):tm:=λfs=>(c fs).u9 λb fs=>if b=true then f fs else g fs
def Cg{xs:tH α}{ys:tH β}(h:ys.fg=xs.fg):(!ys.vb)=!xs.vb:=by cases xs<;>cases ys<;>simp_all
meta def Ws{b:uz}(h:vN K F B H fs U)(r:CQ K F H U x u)(e:truR fs x=p' b):TruV K u H b:=by
 cases x with
 |nw=>cases e
 |x i =>
  change (match Ax fs i with|p' (.tY ts)=>p' !ts.vb|p' (.v ks _)=>p' !ks.vb|_=>none)=p' b at e
  split at e
  next ts eo=>cases e;let{a,vs,rfl,hs,q}:=Bb (ts:=ts) h r (by simp[BD,eo]);exact .uW {vs,hs,(Cg q.wv).symm}
  next ks ts eo=>cases e;let{a,_,rfl,_,{ag,hd,rfl,rfl},_}:=(h.at r eo).vals rfl;exact .uK (.uK {ag,hd,(Cg (by simp))})
  .cases e
 |t t =>
  cases t with
  |str x =>
   change (if x.fg<=big then p' ((x.fg:tN)!=0)else none)=p' b at e
   split at e
   next hz=>cases e;cases r;exact{oo hz DI,rfl}
   .cases e
  |tY ts =>cases e;let{a,vs,rfl,hs,q}:=Bb h r rfl;exact .uW {vs,hs,(Cg q.wv).symm}
  |uj ts =>cases e;let{a,vs,rfl,hs,q}:=BG r rfl;exact .uK (.uW {vs,hs,(Cg q.wv).symm})
  |_=>first|(cases e;cases r;rfl)|cases e
variable{ga gb:tw}{rest:List Expr}
meta def TM(ha:FE X Z a fa)(he:∀aQ,isTrue a X.uh aQ=(do let v <- aQ;standAt a.uG;holding [v] (truthy v))):FT X Z a (Ge fa):=by
 refine JC (L8 ha he) λU H Q aj => ?_
 let{F,B,fs,ok,s}:= aj;refine{F,B,fs,ok,AB s λr ae F1 H1 u l av rx s1=>?_};split at s1
 next b e=>exact{b,Ws av rx e,s1 F1 H1 b Le.uV {av,rfl} }
 .exact s1.tU
def ft_not(ha:FT X Z a ga):FT X Z (.UnaryOp .Not a uG) (Ep ga):=by
 refine JC (JaZ ha) λU H Q aj => ?_
 let{F,B,fs,ok,s}:= aj;refine{F,B,fs,ok,As s λb ae F1 H1 b' l q s1=>?_};let{av,rfl}:=q;exact s1 F1 H1 _ Le.uV {av,rfl}
def FW (X:Cx)(Z:Xp)(e:v7)(f:tw):Prop:=PW X e (tT X.K Z f)
def FW.ft(h:FW X Z a ga):FT X Z a ga:=PW.pt h
def Va{t}(h:PW X e t)(i:∀U H Q,t' U H Q->t U H Q):PW X e t':=λaQ aa s U H Q I q=>h aQ aa s U H Q I (i _ _ _ q)
def Yx(ha:FT X Z a ga):FW X Z (.BoolOp .And [a] uG) ga:=WW ha
def fw_or1(ha:FT X Z a ga):FW X Z (.BoolOp .Or [a] uG) ga:=JaX ha
def fw_and(ha:FT X Z a ga)(hb:FW X Z (.BoolOp .And (b::uu) uG) gb):FW X Z (.BoolOp .And (a::b::uu) uG) (E8 ga gb):=by
 refine Va (JaY ha hb) λU H Q aj => ?_
 let{F,B,fs,ok,s}:= aj;refine{F,B,fs,ok,As s λb ae F1 H1 b' l q s1=>?_};let{av,rfl}:=q;cases b' with|true =>exact{F1,B,ae,av,s1}|false =>exact s1 F1 H1 _ Le.uV {av,rfl}
def fw_or(ha:FT X Z a ga)(hb:FW X Z (.BoolOp .Or (b::uu) uG) gb):FW X Z (.BoolOp .Or (a::b::uu) uG) (orT ga gb):=by
 refine Va (pw_or ha hb) λU H Q aj => ?_
 let{F,B,fs,ok,s}:= aj;refine{F,B,fs,ok,As s λb ae F1 H1 b' l q s1=>?_};let{av,rfl}:=q;cases b' with|true =>exact s1 F1 H1 _ Le.uV {av,rfl}|false =>exact{F1,B,ae,av,s1}
def fe_one(h:FE X Z a fa):FE X Z (.BoolOp op [a] uG) fa:=Jbc h
def fe_and(ha:FE X Z a fa)(hb:FE X Z (.BoolOp .And (b::uu) uG) fb):FE X Z (.BoolOp .And (a::b::uu) uG) (andV fa fb):=by
 refine AH (Jbh ha hb) λU H Q aj => ?_
 let{F,B,fs,ok,s}:= aj;refine{F,B,fs,ok,AB s λr ae F1 H1 u l av rx s1=>?_};split at s1
 .exact{true,rx,by rw[tW rfl];exact{F1,B,ae,av,s1} }
 .exact{false,rx,by rw[ug ZB];exact s1 F1 H1 _ Le.uV (RR.of av rfl)}
 .exact s1.tU
def fe_if(hc:FT X Z c ga)(ha:FE X Z a fa)(hb:FE X Z b fb):FE X Z (.IfExp c a b uG) (ifV ga fa fb):=by
 refine AH (SK hc ha hb) λU H Q aj => ?_
 let{F,B,fs,ok,s}:= aj;refine{F,B,fs,ok,As s λb ae F1 H1 b' l q s1=>?_};let{av,rfl}:=q;cases b' with|true =>rw[tW rfl]at s1 ⊢;exact{F1,B,ae,av,s1}|false =>rw[ug ZB]at s1 ⊢;exact{F1,B,ae,av,s1}
def MI(hg:OpF X.K Z r g)(e8:OpF X.K Z r' g')(ha:FE X Z a fa)(hb:FE X Z b fb)(hc:FE X Z c fc)
  (h:∀{ta tb tc:TE},PE X a ta->PE X b tb->PE X c tc->PT X (.vW a [op,op'] [b,c] uG) (Ww (OA r r' ta tb tc))):FT X Z (.vW a [op,op'] [b,c] uG) (wk (chain g g' fa fb fc)) :=
 JC (h ha hb hc) λ_ _ _ q=>Za hg e8 (V5 q)
def Ae :tq:=λfs=>.ok [] fs
def Ab (f:tm)(g:tq):tq:=λfs=>(f fs).bnd λr fs=>(g fs).u9 λrs fs=>.ok (r::rs) fs
def N6 :tH Rv->tL (tH T)
 | []=>p' []
 |.t t::r=>(N6 r).tJ (t::·)
 |_=>none
def F8:∀{rs:tH Rv}{vs:tH V}{ts:tH T},Jf K F H U rs vs->N6 rs=p' ts->Ai K F H ts vs
 | [],_,_,h,e=>by cases e;exact h
 |.t t::r,_,_,h,e=>by simp![N6,n8]at e;let{ts,e,rfl}:=e;let{v,w,rfl,h1,h2}:=h;exact{v,w,rfl,h1,F8 h2 e}
 |.nw _::r,_,_,h,e=>by simp[N6]at e
 |.x _::r,_,_,h,e=>by simp[N6]at e
def An (g:tH T->tm)(f:tq):tm:=λfs=>(f fs).u9 λrs fs=>match N6 rs with|p' ts=>if ts.fg<=big then g ts fs else .ur|none=>.ur
def Az (ts:tH T)(fs:FS):Out Rv:=.ok (.t (.uj ts)) fs
def BC (ts:tH T)(fs:FS):Out Rv:=.ok (.t (.tY ts)) fs
def BQ (ts:tH T)(fs:FS):Out Rv:=.ok (.nw (.tY ts)) fs
variable{es:List Expr}{g:tq}
def fa_nil:FA X Z [] Ae:=Mi JH λU H Q {F,B,fs,ok,s}=>s F H [] Le.uV {ok,rfl}
def YV(ha:FE X Z e f)(hr:FA X Z es g)(hs:Zsc X.uh e es:=by rfl):FA X Z (e::es) (Ab f g):=by
 refine Mi (D7 ha hr hs) λU H Q aj => ?_
 let{F,B,fs,ok,s}:= aj;refine{F,B,fs,ok,AB s λr ae F1 H1 u l av rx s1=>{F1,B,ae,av,As s1 λrs aq F2 H2 us l2 q s2=>?_} };exact s2 F2 H2 (u::us) Le.uV {q.1,u,us,rfl,rx.le l2,q.2}
def DL(ok:vN K F B H fs U)(hp:H p=none)(r:Ai K F H ts us):AK K (F.tag p .fz) (vi H p (.uj us)) (.uj ts) (.t8 p):=by exact{p,us,rfl,{rfl,Bh,Aq},r.le (ok.Ea hp)}
def Ht(ok:vN K F B H fs U)(hp:H p=none)(r:Ai K F H ts us):AK K (F.tag p .fz) (vi H p (.tY us)) (.tY ts) (.t8 p):=by exact{p,us,rfl,Bh,Aq,r.le (ok.Ea hp)}
meta def fe_tup(h:FA X Z es g):FE X Z (.Tuple es x1 uG) (An Az g):=by
 refine AH (Jba h) λU H Q aj => ?_
 let{F,B,fs,ok,s}:= aj;refine{F,B,fs,ok,As s λrs ae F1 H1 us l q s1=>?_};let{av,q}:=q;split at s1
 .rename_i ts e;have r:=F8 q e;split at s1
  next hl=>refine{by rw[r.wv];exact oo hl DI,λp hp=>Hs av hp s1 (DL av hp r)}
  .exact s1.tU
 .exact s1.tU
meta def fe_lst(h:FA X Z es g):FE X Z (.tH es uG) (An BC g):=by
 refine AH (Vk h) λU H Q aj => ?_
 let{F,B,fs,ok,s}:= aj;refine{F,B,fs,ok,As s λrs ae F1 H1 us l q s1=>?_};let{av,q}:=q;split at s1
 .rename_i ts e;have r:=F8 q e;split at s1
  next hl=>refine{by rw[r.wv];exact oo hl DI,λp hp=>Hs av hp s1 (Ht av hp r)}
  .exact s1.tU
 .exact s1.tU
meta def YN(h:FA X Z es g):FE X Z (.tH es uG) (An BQ g):=by
 refine AH (Vk h) λU H Q aj => ?_
 let{F,B,fs,ok,s}:= aj;refine{F,B,fs,ok,As s λrs ae F1 H1 us l q s1=>?_};let{av,q}:=q;split at s1
 .rename_i ts e;have r:=F8 q e;split at s1
  next hl=>exact{by rw[r.wv];exact oo hl DI,λp hp=>Ce av hp s1 rfl rfl r}
  .exact s1.tU
 .exact s1.tU
def DY :tm:=λfs=>.ok (.nw (.v [] [])) fs
def Jcn :tm:=λfs=>.ok (.nw (.q [] [])) fs
def T6:FE X Z (.Dict [] [] uG) DY:=by refine AH Mf λU H Q {F,B,fs,ok,s} p hp=>Ce ok hp s rfl {[],rfl,rfl,rfl} rfl
def T5:FE X Z (.Dict [] [] uG) Jcn:=by refine AH SM λU H Q {F,B,fs,ok,s} p hp=>Ce (ts:=[]) ok hp s rfl {[],rfl,rfl,rfl} rfl
def Cn (K:Fg)(Z:Xp)(r:tH V->Hp->VK->Prop)(g:tH Rv->tm):Prop:=∀(F:Wd)(B:tD)(H:Hp)(U:St)(fs:FS)(rs:tH Rv)(vs:tH V)(Q:VK),vN K F B H fs U->Jf K F H U rs vs ->
 sat Z B (RR K B U) F H (g rs fs) Q->r vs H Q
def Ad (g:tH Rv->tm)(f:tq):tm:=λfs=>(f fs).u9 λrs fs=>g rs fs
variable{fa:tq}{g:List Rv->tm}{r:List V->Hp->VK->Prop}{p:Pos}{x:Str}{Ty:String}
section
variable{id:String}
def DR(e8:Cn X.K Z r g)(hc:B7 X (.uM id) r)(hm:X.mg x=none)(hv:bootBuiltins x=p' (.uM id))(ha:FA X Z (e::es) fa)(hg:Gl X x:=by rfl)(hn:x≠"__name__":=by decide)(aY:Zdb x:=by decide)
  (he:Zsc X.uh e es:=by rfl) (aG:Zbt X.uh uG es:=by rfl):FE X Z (.vM (.uE x p) (e::es) [] uG) (Ad g fa) :=
 AH (Mg hc hg hm hv ha hn aY he aG) λU H Q {F,B,fs,ok,s}=>{F,B,fs,ok,As s λrs ae F1 H1 us l q s1=>e8 F1 B H1 U ae rs us Q q.1 q.2 s1}
def EA(e8:Cn X.K Z r g)(hc:B7 X (.uJ Ty) r)(hm:X.mg x=none)(hv:bootBuiltins x=p' (.uJ Ty))(ha:FA X Z (e::es) fa)(hg:Gl X x:=by rfl)(hn:x≠"__name__":=by decide)(aY:Zdb x:=by decide)
  (he:Zsc X.uh e es:=by rfl) (aG:Zbt X.uh uG es:=by rfl):FE X Z (.vM (.uE x p) (e::es) [] uG) (Ad g fa) :=
 AH (Pu hc hg hm hv ha hn aY he aG) λU H Q {F,B,fs,ok,s}=>{F,B,fs,ok,As s λrs ae F1 H1 us l q s1=>e8 F1 B H1 U ae rs us Q q.1 q.2 s1}
end
def Yt :tH Rv->tm
 | [x],fs=>match BD fs x with|p' ts=>okT (.tS ts.fg) fs|none=>match KU x with|p' ts=>okT (.tS ts.fg) fs|none=>.ur
 |_,_=>.ur
def Lh :tH Rv->tm
 | [.t (.str z)],fs=>if z.fg<=big then okT (.tS z.fg) fs else .ur
 |_,_=>.ur
def ZH :Rv->tL tN
 |.t (.tS i)=>p' i
 |_=>none
def GC{x:Rv}{i:tN}(e:ZH x=p' i):x=.t (.tS i):=by
 cases x with
 |t t=>cases t<;>first|(cases e;done)|(cases e;rfl)
 |_=>cases e
def int2 (g:tN->tN->tN):tH Rv->tm
 | [x,y],fs=>match ZH x,ZH y with|p' i,p' j=>okT (.tS (g i j)) fs|_,_=>.ur
 |_,_=>.ur
def ET :tH Rv->tm:=int2 λi j=>if j<i then j else i
def QA :tH Rv->tm
 | [.t (.tS i)],fs=>okT (.tS i) fs
 | [.t (.l k)],fs=>okT (.tS (if k then 1 else 0)) fs
 |_,_=>.ur
def Oc :tH Rv->tm
 | [x],fs=>match(BD fs x).u9 Fl with|p' ns=>okT (.tS ns.sum) fs|none=>.ur
 |_,_=>.ur
def ZL :tH Rv->tm
 | [x],fs=>match(BD fs x).u9 Lz with|p' ns=>okT (.l (ns.all id)) fs|none=>.ur
 |_,_=>.ur
def Ys :tH Rv->tm
 | [x],fs=>match BD fs x with|p' ts=>.ok (.nw (.tY ts)) fs|none=>match KU x with|p' ts=>.ok (.nw (.tY ts)) fs|none=>.ur
 |_,_=>.ur
def BK :tH Rv->tm
 | [x],fs=>match BD fs x with|p' ts=>okT (.uj ts) fs|none=>match KU x with|p' ts=>okT (.uj ts) fs|none=>.ur
 |_,_=>.ur
def JS :vc->T
 |.uW i=>.tS i
 |.uK x=>.str x
def Qz :tH Rv->tm
 | [.t (.v ks _)],fs=>.ok (.nw (.tY (ks.tJ JS))) fs
 |_,_=>.ur
def Bi{x}(h:Jf K F H U [x] vs):∃v,vs=[v]/\CQ K F H U x v:=by let{v,w,rfl,h1,h2}:=h;have:=h2;subst this;exact{v,rfl,h1}
def cf_len:Cn K Z (λxs H Q=>∃p ys,xs=[.t8 p]/\(SqL K H p ys\/SqT K H p ys)/\Q (.tS ys.fg) H) Yt:=by
 intro F B H U fs rs vs Q ok q s;unfold Yt at s;split at s
 .let{v,rfl,qq}:=Bi q;have q:=qq;split at s
  next ts e=>let{a,us,rfl,hs,r}:=Bb ok q e;exact{a,us,rfl,.uW hs,by rw[r.wv];exact s F H _ Le.uV (RR.of ok rfl)}
  .split at s
   next ts e=>let{a,us,rfl,hs,r}:=BG q e;exact{a,us,rfl,.uK hs,by rw[r.wv];exact s F H _ Le.uV (RR.of ok rfl)}
   .exact s.tU
 .exact s.tU
meta def Ze:Cn K Z (λxs H Q=>∃z,xs=[.str z]/\z.fg<=t9/\Q (.tS z.fg) H) Lh:=by
 intro F B H U fs rs vs Q ok q s;unfold Lh at s;split at s
 .rename_i z;let{v,rfl,qq}:=Bi q;cases qq;split at s
  next hz=>exact{z,rfl,oo hz DI,s F H _ Le.uV (RR.of ok rfl)}
  .exact s.tU
 .exact s.tU
def Zg{g:tN->tN->tN}:Cn K Z (λxs H Q=>∃i j,xs=[.tS i,.tS j]/\Q (.tS (g i j)) H) (int2 g):=by
 intro F B H U fs rs vs Q ok q s;unfold int2 at s;split at s
 .split at s
  next e1 e2=>cases GC e1;cases GC e2;let{v,w,rfl,q1,v2,w2,rfl,q2,q3}:=q;cases q1;cases q2;cases q3;exact{_,_,rfl,s F H _ Le.uV (RR.of ok rfl)}
  .exact s.tU
 .exact s.tU
def Zb:Cn K Z (λxs H Q=>∃i j,xs=[.tS i,.tS j]/\Q (.tS (if j<i then j else i)) H) ET:=Zg
def Zh:Cn K Z (λxs H Q=>(∃i,xs=[.tS i]/\Q (.tS i) H)\/∃k,xs=[.l k]/\Q (.tS (if k then 1 else 0)) H) QA:=by
 intro F B H U fs rs vs Q ok q s;cases rs with
 |vO=>exact s.tU
 |ux r rs =>
  cases r with
  |t t =>
   cases t with
   |tS =>cases rs with|vO =>let{v,rfl,qq}:=Bi q;have q:=qq;cases q;exact .uW {_,rfl,s F H _ Le.uV (RR.of ok rfl)}|_=>exact s.tU
   |l =>cases rs with|vO =>let{v,rfl,qq}:=Bi q;have q:=qq;cases q;exact .uK {_,rfl,s F H _ Le.uV (RR.of ok rfl)}|_=>exact s.tU
   |_=>exact s.tU
  |_=>exact s.tU
meta def cf_sum:Cn K Z (λxs H Q=>∃(l:tV)(ns:tH tN),xs=[.t8 l]/\SqL K H l (ns.tJ V.tS)/\Q (.tS ns.sum) H) Oc:=by
 intro F B H U fs rs vs Q ok q s;unfold Oc at s;split at s
 .let{v,rfl,qq}:=Bi q;split at s
  next ns e=>rw[oE]at e;let{ts,e1,e2}:=e;let{a,us,rfl,hs,r}:=Bb ok qq e1;rw[G3 e2]at r;rw[Ai.ints r]at hs;exact{a,ns,rfl,hs,s F H _ Le.uV (RR.of ok rfl)}
  .exact s.tU
 .exact s.tU
meta def cf_all:Cn K Z (λxs H Q=>∃(l:tV)(bs:tH uz),xs=[.t8 l]/\SqL K H l (bs.tJ V.l)/\Q (.l (bs.all id)) H) ZL:=by
 intro F B H U fs rs vs Q ok q s;unfold ZL at s;split at s
 .let{v,rfl,qq}:=Bi q;split at s
  next ns e=>rw[oE]at e;let{ts,e1,e2}:=e;let{a,us,rfl,hs,r}:=Bb ok qq e1;rw[Jd e2]at r;rw[Ai.bls r]at hs;exact{a,ns,rfl,hs,s F H _ Le.uV (RR.of ok rfl)}
  .exact s.tU
 .exact s.tU
def Zc:Cn K Z (λxs H Q=>∃p ys,xs=[.t8 p]/\(SqL K H p ys\/SqT K H p ys)/\∀l,H l=none->Q (.t8 l) (vi H l (.tY ys))) Ys:=by
 intro F B H U fs rs vs Q ok q s;unfold Ys at s;split at s
 .let{v,rfl,qq}:=Bi q;have q:=qq;split at s
  next ts e=>let{a,us,rfl,hs,r}:=Bb ok q e;exact{a,us,rfl,.uW hs,λp hp=>Ce ok hp s rfl rfl r}
  .split at s
   next ts e=>let{a,us,rfl,hs,r}:=BG q e;exact{a,us,rfl,.uK hs,λp hp=>Ce ok hp s rfl rfl r}
   .exact s.tU
 .exact s.tU
meta def Uo:Cn K Z (λxs H Q=>∃p ys,xs=[.t8 p]/\((SqL K H p ys/\∀l,H l=none->Q (.t8 l) (vi H l (.uj ys)))\/(SqT K H p ys/\Q (.t8 p) H))) BK:=by
 intro F B H U fs rs vs Q ok q s;unfold BK at s;split at s
 .rename_i x;let{v,rfl,qq}:=Bi q;have q:=qq;split at s
  next ts e=>let{a,us,rfl,hs,r}:=Bb ok q e;exact{a,us,rfl,.uW {hs,λp hp=>Hs ok hp s (DL ok hp r)} }
  .split at s
   .rename_i ts e;let{a,us,rfl,hs,r}:=BG q e;have ex:x=.t (.uj ts):=by
     unfold KU at e;split at e
     .cases e;rfl
     .cases e
    rw[ex]at q;exact{a,us,rfl,.uK {hs,s F H _ Le.uV (RR.of ok q)} }
   .exact s.tU
 .exact s.tU
def Iv:∀ks:tH vc,Ai K F H (ks.tJ JS) (ks.tJ kV)
 | []=>by simp[Ai]
 |.uW i::r=>by exact{_,_,rfl,rfl,Iv r}
 |.uK i::r=>by exact{_,_,rfl,rfl,Iv r}
meta def Uq:Cn K Z (λxs H Q=>∃p ag,xs=[.t8 p]/\Rd H p (.v ag)/\∀l,H l=none->Q (.t8 l) (vi H l (.tY (ag.tJ λkv=>kV kv.1)))) Qz:=by
 intro F B H U fs rs vs Q ok q s;unfold Qz at s;split at s
 .rename_i ks ts;let{v,rfl,qq}:=Bi q;have q:=qq;let{a,ag,rfl,f,hd,rfl,r}:=q;refine{a,ag,rfl,hd,λp hp=>Ce ok hp s rfl rfl ?_};have e:(ag.tJ λkv=>kV kv.1)=(ag.tJ (·.1)).tJ kV:=by rw[oj];rfl
  rw[e];exact Iv _
 .exact s.tU
def MtF (K:Fg)(Z:Xp)(r:V->tH V->Hp->VK->Prop)(g:Rv->tH Rv->tm):Prop:=∀(F:Wd)(B:tD)(H:Hp)(U:St)(fs:FS)(x:Rv)(rs:tH Rv)(u:V)(vs:tH V)(Q:VK),vN K F B H fs U->CQ K F H U x u->Jf K F H U rs vs ->
 sat Z B (RR K B U) F H (g x rs fs) Q->r u vs H Q
def AA (g:Rv->tH Rv->tm)(fo:tm)(fa:tq):tm:=λfs=>(fo fs).bnd λx fs=>if(BD fs x).u8=true then(fa fs).u9 λrs fs=>g x rs fs else .ur
def S0 (g:Rv->tH Rv->tm)(fo:tm)(fa:tq):tm:=λfs=>(fo fs).bnd λx fs=>match x with
 |.t (.str _)=>(fa fs).u9 λrs fs=>g x rs fs
 |_=>.ur
variable{o:Expr}{fo:tm}{g:Rv->List Rv->tm}{r:V->List V->Hp->VK->Prop}{aw ax:Pos}{name:Str}
section
variable{id:String}
def YT(hg:MtF X.K Z r g)(vH:Slot "list" name id)(b9:typeOf (.uM id)=wx (.uJ "method_descriptor"))(hm:MtR X id r)(ho:FE X Z o fo)(ha:FA X Z (e::es) fa)
  (aD:Zab X.uh o name:=by rfl)
  (b6:((backTo ax (vD (e::es) X.uh)).all (λx=>!x.1)&&(backToKw ax (keywordEach [] X.uh)).all (λx=>x.1.u8)
  &&decide ((e::es).fg+([]:tH Keyword).fg+(if([]:tH Keyword).vb then 0 else 1)<30))=true:=by rfl)
  (aE:(aw.endLine==ax.line)=true:=by rfl) (hs:Zsc X.uh e es:=by rfl) (bw:Zbt X.uh ax es:=by rfl) :
  FE X Z (.vM (.ut o name aw) (e::es) [] ax) (AA g fo fa):=by
 refine AH (Xi plainAttrs_list vH b9 hm ho ha aD b6 aE hs bw) λU H Q aj => ?_
 let{F,B,fs,ok,s}:= aj;refine{F,B,fs,ok,AB s λx ae F1 H1 u l av rx s1=>?_};split at s1
 next he=>let{ts,fS}:=qm.mp he;let{a,vs,rfl,hs,q}:=Bb av rx fS;exact{.uW {rfl,vs,hs},F1,B,ae,av,As s1 λrs aq F2 H2 us l2 q2 s2=>hg F2 B H2 U aq x rs _ us Q q2.1 (rx.le l2) q2.2 s2}
 .exact s1.tU
def fe_bm0(hg:MtF X.K Z r g)(vH:Slot "list" name id)(b9:typeOf (.uM id)=wx (.uJ "method_descriptor"))(hm:MtR X id r)(ho:FE X Z o fo)
  (aD:Zab X.uh o name:=by rfl) (aE:(aw.endLine==ax.line)=true:=by rfl):FE X Z (.vM (.ut o name aw) [] [] ax) (AA g fo Ae):=by
 refine AH (Vm plainAttrs_list vH b9 hm ho aD aE) λU H Q aj => ?_
 let{F,B,fs,ok,s}:= aj;refine{F,B,fs,ok,AB s λx ae F1 H1 u l av rx s1=>?_};split at s1
 next he=>let{ts,fS}:=qm.mp he;let{a,vs,rfl,hs,q}:=Bb av rx fS;exact{.uW {rfl,vs,hs},hg F1 B H1 U ae x [] _ [] Q av rx rfl s1}
 .exact s1.tU
def VP(hg:MtF X.K Z r g)(vH:Slot "str" name id)(b9:typeOf (.uM id)=wx (.uJ "method_descriptor"))(hm:MtR X id r)(ho:FE X Z o fo)(ha:FA X Z (e::es) fa)
  (aD:Zab X.uh o name:=by rfl)
  (b6:((backTo ax (vD (e::es) X.uh)).all (λx=>!x.1)&&(backToKw ax (keywordEach [] X.uh)).all (λx=>x.1.u8)
  &&decide ((e::es).fg+([]:tH Keyword).fg+(if([]:tH Keyword).vb then 0 else 1)<30))=true:=by rfl)
  (aE:(aw.endLine==ax.line)=true:=by rfl) (hs:Zsc X.uh e es:=by rfl) (bw:Zbt X.uh ax es:=by rfl) :
  FE X Z (.vM (.ut o name aw) (e::es) [] ax) (S0 g fo fa):=by
 refine AH (Xi PySem.F.plainAttrs_str vH b9 hm ho ha aD b6 aE hs bw) λU H Q aj => ?_
 let{F,B,fs,ok,s}:= aj;refine{F,B,fs,ok,AB s λx ae F1 H1 u l av rx s1=>?_};split at s1
 .have mD:=rx;cases rx;exact{rfl,F1,B,ae,av,As s1 λrs aq F2 H2 us l2 q2 s2=>hg F2 B H2 U aq _ rs _ us Q q2.1 (CQ.le mD l2) q2.2 s2}
 .exact s1.tU
end
def Dy :Rv->tH Rv->tm
 |.x i,[.t t],fs=>match Ax fs i with|p' (.tY ts)=>if ts.fg<big then .ok (.t .vG) (vA fs i (.tY (ts++[t])))else .ur|_=>.ur
 |_,_,_=>.ur
def G7 :Rv->tH Rv->tm
 |.x i,[],fs=>match Ax fs i with
  |p' (.tY ts)=>match ts.getLast? with|p' t=>.ok (.t t) (vA fs i (.tY ts.vf))|none=>.ur
  |_=>.ur
 |_,_,_=>.ur
def gExt :Rv->tH Rv->tm
 |.x i,[.t (.tY us)],fs=>match Ax fs i with|p' (.tY ts)=>if ts.fg+us.fg<=big then .ok (.t .vG) (vA fs i (.tY (ts++us)))else .ur|_=>.ur
 |_,_,_=>.ur
def Li :Rv->tH Rv->tm
 |.t (.str z),[x],fs=>match(BD fs x).u9 Dd with|p' ys=>if(ys.tJ (·.fg)).sum+ys.fg*z.fg<=big then okT (.str (Txt.join z ys)) fs else .ur|none=>.ur
 |_,_,_=>.ur
def Ai.last{t}(r:Ai K F H ts vs)(e:ts.getLast?=p' t):∃z,vs=vs.vf++[z]/\AK K F H t z/\Ai K F H ts.vf vs.vf:=by
 have hl:=r.wv;rw[tH.getLast?_eq_getElem?]at e;let{z,ez,rz}:=r.at e;have bK:=by have:=(ou.mp e).1;omega
 refine{z,?_,rz,?_}
 .have aX:vs≠[]:=by intro q;rw[q]at hl;simp at hl;omega
  have h1:=(oH aX).symm;have h2:vs.getLast aX=z:=by
   rw[tH.getLast_eq_getElem];have:=(ou.mp ez)
   let{h3,h4}:=this;rw[<- h4];congr 1;rw[hl]
  rwa[h2]at h1
 .rw[tH.dropLast_eq_take,tH.dropLast_eq_take,hl];exact r.uB _
def vN.list(h:vN K F B H fs U)(r:U[i]?=p' (p' u))(e:Ax fs i=p' (.tY ts)):∃a vs,u=.t8 a/\H a=p' (.tY vs)/\Ai K F H ts vs /\
  ∀bE bH,Ai K F H bE bH->vN K F B (L2.vi H a (.tY bH)) (vA fs i (.tY bE)) U/\Le F H F (L2.vi H a (.tY bH)):=by
 let{a,vs,rfl,f,hs,q}:=(h.at r e).vals rfl;exact{a,vs,rfl,hs,q,λbE bH q'=>{h.updV e r f rfl rfl q',C9 f} }
meta def JbJ:MtF K Z O3 Dy:=by
 intro F B H U fs x rs u vs Q ok rx q s;unfold Dy at s;split at s
 .rename_i i t;let{v,rfl,qq}:=Bi q;split at s
  .rename_i ts e;split at s
   next hl=>let{a,us,rfl,hs,r,k}:=ok.list rx e;let{bF,l}:=k (ts++[t]) (us++[v]) (r.app (Ai.one qq));exact{a,us,v,rfl,rfl,hs,by rw[r.wv];exact p8 hl Fi,s F _ _ l (RR.of bF rfl)}
   .exact s.tU
  .exact s.tU
 .exact s.tU
def JbH:MtF K Z (λx vs H Q=>∃l e z,x=.t8 l/\vs=[]/\H l=p' (.tY (e++[z]))/\Q z (vi H l (.tY e))) G7:=by
 intro F B H U fs x rs u vs Q ok rx q s;unfold G7 at s;split at s
 .have:=q;subst this;split at s
  .rename_i ts e;split at s
   next t et=>let{a,us,rfl,hs,r,k}:=ok.list rx e;let{z,ez,rz,rd}:=r.last et;let{bF,l}:=k _ _ rd;refine{a,us.vf,z,rfl,rfl,by rw[<- ez];exact hs,s F _ z l (RR.of bF (AK.le l rz))}
   .exact s.tU
  .exact s.tU
 .exact s.tU
def JbI:MtF K Z Ib gExt:=by
 intro F B H U fs x rs u vs Q ok rx q s;unfold gExt at s;split at s
 .rename_i i ws;let{v,rfl,qq}:=Bi q;split at s
  .rename_i ts e;split at s
   next hl=>let{a,us,rfl,hs,r,k}:=ok.list rx e;let{b,zs,rfl,f,hb,rz}:=qq;let{bF,l}:=k _ _ (r.app rz);exact{a,b,us,zs,rfl,rfl,hs,hb,by rw[r.wv,rz.wv];exact oo hl DI,s F _ _ l (RR.of bF rfl)}
   .exact s.tU
  .exact s.tU
 .exact s.tU
def XU:MtF K Z (λx xs H Q=>∃(z:tO)(l:tV)(ys:tH tO),x=.str z/\xs=[.t8 l]/\SqL K H l (ys.tJ V.str)/\(ys.tJ (·.fg)).sum+ys.fg*z.fg<=16777216/\Q (.str (Txt.join z ys)) H) Li:=by
 intro F B H U fs x rs u vs Q ok rx q s;unfold Li at s;split at s
 .rename_i z x;let{v,rfl,qq}:=Bi q;cases rx;split at s
  .rename_i ys e;rw[oE]at e;let{ts,e1,e2}:=e;split at s
   next hl=>let{a,us,rfl,hs,r}:=Bb ok qq e1;rw[Kt e2]at r;rw[Ai.strs r]at hs;exact{z,a,ys,rfl,rfl,hs,oo hl ZB,s F H _ Le.uV (RR.of ok rfl)}
   .exact s.tU
  .exact s.tU
 .exact s.tU
def EJ :T->tL vc
 |.tS i=>p' (.uW i)
 |.str x=>p' (.uK x)
 |_=>none
def Df :tH T->tL (tH vc)
 | []=>p' []
 |t::r=>(EJ t).u9 λk=>(Df r).tJ (k::·)
def CS{t}(e:EJ t=p' k)(r:AK K F H t u):u=kV k:=by
 unfold EJ at e;split at e
 .cases e;exact r
 .cases e;exact r
 .cases e
def Gf:∀{ts:tH T}{us:tH V}{ks:tH vc},Df ts=p' ks->Ai K F H ts us->us=ks.tJ kV
 | [],_,_,e,r=>by cases e;exact r
 |t::ts,_,_,e,r=>by simp![Df,oE,n8]at e;let{k,e1,ks,e2,rfl}:=e;let{v,w,rfl,r1,r2}:=r;rw[nV,Gf e2 r2,CS e1 r1]
def BB {κ:Type}[DecidableEq κ]:tH κ->tH T->κ->tL T
 |k::ks,t::ts,j=>if k=j then p' t else BB ks ts j
 |_,_,_=>none
def Fp {κ:Type}[DecidableEq κ](ks:tH κ)(ts:tH T)(j:κ)(v:T):tH κ×tH T :=
 if(ks.any λk=>decide (k=j))=true then(ks,tH.zipWith (λk t=>if k=j then v else t) ks ts)else(ks++[j],ts++[v])
section
variable{κ:Type}[DecidableEq κ]
def FD:∀{ag:tH (κ×V)}{ts:tH T}{j:κ},Ai K F H ts (ag.tJ (·.2))->(BB (ag.tJ (·.1)) ts j=none/\KG ag j=none)\/∃t v,BB (ag.tJ (·.1)) ts j=p' t/\KG ag j=p' v/\AK K F H t v
 | [],ts,j,r=>by have h:=r.wv;cases ts with|vO=>exact .uW {rfl,rfl}|ux t ts=>simp at h
 |(k,v)::ag,ts,j,r=>by
  cases ts with
  |vO =>have h:=r.wv;simp at h
  |ux t ts =>
   let{v',w,e,r1,r2}:=r;cases e;by_cases hk:k=j
   .refine .uK {t,v,?_,El hk,r1};simp![nV,BB];rw[tW hk]
   .have e1:BB (((k,v)::ag).tJ (·.1)) (t::ts) j=BB (ag.tJ (·.1)) ts j:=by simp![nV,BB];rw[ug hk]
    rw[e1,Em hk];exact FD r2
def Oi{j:κ}{t:T}{w:V}(q:AK K F H t w):∀{ag:tH (κ×V)}{ts:tH T},Ai K F H ts (ag.tJ (·.2)) ->
  Ai K F H (tH.zipWith (λk t'=>if k=j then t else t') (ag.tJ (·.1)) ts) ((ag.tJ λkv=>if kv.1=j then(kv.1,w)else kv).tJ (·.2))
 | [],ts,r=>by have h:=r.wv;cases ts with|ux t ts=>simp at h|vO=>exact rfl
 |(k,v)::ag,ts,r=>by
  cases ts with
  |vO =>have h:=r.wv;simp at h
  |ux t' ts =>
   simp![nV,Ai]at r;let{v',w',e,r1,r2}:=r;cases e;have ih:=Oi q (j:=j) r2;simp![nV,tH.zipWith_cons_cons,Ai];by_cases hk:k=j
   .rw[tW hk,tW hk];exact{w,_,rfl,q,ih}
   .rw[ug hk,ug hk];exact{v,_,rfl,r1,ih}
def FR{j}{t}(q:AK K F H t w){ag:tH (κ×V)}(r:Ai K F H ts (ag.tJ (·.2))):
  (putK ag j w).tJ (·.1)=(Fp (ag.tJ (·.1)) ts j t).1/\Ai K F H (Fp (ag.tJ (·.1)) ts j t).2 ((putK ag j w).tJ (·.2)):=by
 have e:((ag.tJ (·.1)).any λk=>decide (k=j))=(ag.any λkv=>decide (kv.1=j)):=by rw[tH.any_map];rfl
 unfold putK Fp;rw[e];by_cases h:(ag.any λkv=>decide (kv.1=j))=true
 .rw[tW h,tW h];refine{?_,Oi q r};rw[oj];refine tH.map_congr_left λp hp=>?_
  show(if p.1=j then(p.1,w)else p).1=p.1;split<;>rfl
 .rw[ug h,ug h];refine{by rw[nW];rfl,?_};rw[nW];exact r.app (Ai.one q)
end
def QW (fs:FS):Rv->T->tL (tL T)
 |.t (.v ks ts),y=>(EJ y).tJ λk=>BB ks ts k
 |.t (.dF ks ts),y=>(EJ y).tJ λk=>BB ks ts k
 |.t (.q ks ts),.uj y=>(Df y).tJ λk=>BB ks ts k
 |.x i,y=>match Ax fs i with
  |p' (.v ks ts)=>(EJ y).tJ λk=>BB ks ts k
  |p' (.q ks ts)=>match y with
   |.uj y=>(Df y).tJ λk=>BB ks ts k
   |_=>none
  |_=>none
 |_,_=>none
variable{x:Rv}{y:T}{w:V}
meta def QV{o:tL T}(h:vN K F B H fs U)(rx:CQ K F H U x u)(ry:AK K F H y w)(e:QW fs x y=p' o):
  ∃a o',u=.t8 a/\Kz H a w o'/\((o=none/\o'=none)\/∃t v,o=p' t/\o'=p' v/\AK K F H t v):=by
 have key:∀{a:tV}{ag:tH (vc×V)}{ts:tH T},Rd H a (.v ag)->Ai K F H ts (ag.tJ (·.2))->(EJ y).tJ (λk=>BB (ag.tJ (·.1)) ts k)=p' o ->
   ∃o',Kz H a w o'/\((o=none/\o'=none)\/∃t v,o=p' t/\o'=p' v/\AK K F H t v):=by
  intro a ag ts hd r e;rw[n8]at e;let{k,ek,eo}:=e;have:=CS ek ry;subst this;refine{_,.uW {ag,k,hd,rfl,rfl},?_};rcases FD (j:=k) r with⟨h1,h2⟩|⟨t,v,h1,h2,h3⟩
  .exact .uW {eo.symm.trans h1,h2}
  .exact .uK {t,v,eo.symm.trans h1,h2,h3}
 have JS:∀{a:tV}{ag:tH (tH vc×V)}{ts ys:tH T},H a=p' (.q ag)->Ai K F H ts (ag.tJ (·.2))->y=.uj ys->(Df ys).tJ (λk=>BB (ag.tJ (·.1)) ts k)=p' o ->
   ∃o',Kz H a w o'/\((o=none/\o'=none)\/∃t v,o=p' t/\o'=p' v/\AK K F H t v):=by
  intro a ag ts ys hd r ey e;rw[n8]at e;let{k,ek,eo}:=e;subst ey;simp![AK]at ry;let{b,vs,rfl,hb,rb}:=ry;have:=Gf ek rb;subst this;refine{_,Kz.t hd hb.2.2,?_};rcases FD (j:=k) r with⟨h1,h2⟩|⟨t,v,h1,h2,h3⟩
  .exact .uW {eo.symm.trans h1,h2}
  .exact .uK {t,v,eo.symm.trans h1,h2,h3}
 cases x with
 |nw=>cases e
 |t t =>
  simp![CQ]at rx;cases t with
  |v =>simp![AK]at rx;let{a,ag,rfl,f,hd,rfl,r}:=rx;exact let{o',h}:=key hd r e;{a,o',rfl,h}
  |dF =>simp![AK]at rx;let{a,ag,rfl,f,{ob,hd},rfl,r}:=rx;exact let{o',h}:=key (.uK {ob,hd}) r e;{a,o',rfl,h}
  |q =>cases y with|uj ys =>simp![AK]at rx;let{a,ag,rfl,f,hd,rfl,r}:=rx;exact let{o',h}:=JS hd r rfl e;{a,o',rfl,h}|_=>cases e
  |_=>cases e
 |x i =>
  change (match Ax fs i with|p' (.v ks ts)=>(EJ y).tJ λk=>BB ks ts k|p' (.q ks ts)=>(match y with|.uj y=>(Df y).tJ λk=>BB ks ts k|_=>none)|_=>none)=p' o at e
  split at e
  next eo=>let{a,_,rfl,_,{ag,hd,rfl,rfl},r}:=(h.at rx eo).vals rfl;exact let{o',h}:=key (.uW hd) r e;{a,o',rfl,h}
  next eo=>cases y with|uj ys =>let{a,_,rfl,_,{ag,hd,rfl,rfl},r}:=(h.at rx eo).vals rfl;exact let{o',h}:=JS hd r rfl e;{a,o',rfl,h}|_=>cases e
  .cases e
def JZ :tj
 |x,.t y,fs=>match QW fs x y with|p' (p' t)=>okT t fs|_=>.ur
 |_,_,_=>.ur
def Yv (neg:uz):tj
 |.t y,x,fs=>match QW fs x y with|p' o=>okT (.l (if neg then !o.u8 else o.u8)) fs|_=>.ur
 |_,_,_=>.ur
variable{i:Expr}{fi:tm}
def E9 :tH tO->tH T->tO->tL T
 |f::fs,t::ts,g=>if g==f then p' t else E9 fs ts g
 |_,_,_=>none
def A4 :tH tO->tH FO->tO->tL FO
 |f::fs,t::ts,g=>if g==f then p' t else A4 fs ts g
 |_,_,_=>none
def Yu (C:tV)(f:tO):Rv->tm
 |.t (.vE C' fs ts),st=>if C'=C then match E9 fs ts f with|p' t=>okT t st|none=>.ur
  else .ur
 |.x i,st=>match Ax st i with
  |p' (.vE C' fs os)=>if C'=C then match A4 fs os f with|p' (.vm t)=>okT t st|_=>.ur
   else .ur
  |_=>.ur
 |_,_=>.ur
def LK{g}:∀{ag:tH (tO×V)}{ts:tH T}{t:T},Ai K F H ts (ag.tJ (·.2))->E9 (ag.tJ (·.1)) ts g=p' t->∃v,ag.t7 g=p' v/\AK K F H t v
 | [],ts,t,r,e=>by cases ts<;>simp[E9]at e
 |(k,v)::ag,ts,t,r,e=>by cases ts with|vO=>simp[E9]at e|ux t' ts =>let{v',w',ee,r1,r2}:=r;cases ee;simp![nV,E9]at e;rw[pf];cases hb:g==k with|true =>rw[hb]at e;cases e;exact{v,rfl,r1}|false =>rw[hb]at e;exact LK r2 (by simpa using e)
def LJ{g}{t}:∀{ag:tH (tO×V)}{os:tH FO},A4 (ag.tJ (·.1)) os g=p' t->∃(k:tQ)(v:V),os[k]?=p' t/\(ag.tJ (·.2))[k]?=p' v/\ag.t7 g=p' v
 | [],os,e=>by cases os<;>simp[A4]at e
 |(k,v)::ag,[],e=>by simp[A4]at e
 |(k,v)::ag,o::os,e=>by simp![nV,A4]at e;rw[pf];cases hb:g==k with|true=>rw[hb]at e;cases e;exact{0,v,rfl,rfl,rfl}|false=>rw[hb]at e;exact let{n,w,h}:=LJ (by simpa using e);{n+1,w,h}
def CM (C:tV)(f:tO)(fo:tm):tm:=λfs=>(fo fs).bnd λx fs=>Yu C f x fs
variable{C:Addr}{f:Str}
meta def fe_fld(c:Cls X.K C)(n:AR X.K C f)(ho:FE X Z o fo)(hb:Zab X.uh o f:=by rfl):FE X Z (.ut o f uG) (CM C f fo):=by
 refine AH (Fe ho hb) λU H Q aj => ?_
 let{F,B,fs,ok,s}:= aj;refine{F,B,fs,ok,AB s λx ae F1 H1 u l av rx s1=>?_};unfold Yu at s1;split at s1
 .rename_i C' gs ts;split at s1
  .rename_i hC;subst hC;split at s1
   next t e=>let{a,dx,ag,rfl,ff,hd,rfl,r}:=rx;let{v,e1,rv}:=LK r e;exact{a,C',dx,ag,v,rfl,hd,c,n,e1,s1 F1 H1 v Le.uV (RR.of av rv)}
   .exact s1.tU
  .exact s1.tU
 .rename_i i;split at s1
  .rename_i C' gs os eo;split at s1
   .rename_i hC;subst hC;split at s1
    next t e=>let{a,_,rfl,_,{dx,ag,hd,rfl,rfl},hl,r}:=(av.at rx eo).inv rfl;let{k,v2,e2,e3,e4}:=LJ e;exact{a,C',dx,ag,v2,rfl,hd,c,n,e4,s1 F1 H1 v2 Le.uV (RR.of av (r k _ v2 e2 e3).t)}
    .exact s1.tU
   .exact s1.tU
  .exact s1.tU
 .exact s1.tU
def FK (K:Fg)(Z:Xp)(B:tD)(F:Wd)(H:Hp)(o:SO)(D:Ends):Prop:=match o with|.nx fs=>∀F' H' U,Le F H F' H'->vN K F' B H' fs U->D.nx U H'|.wH r fs=>∀F' H' U u,Le F H F' H'->RR K B U F' H' fs r u->D.rt u H'|.brk fs=>∀F' H' U,Le F H F' H'->vN K F' B H' fs U->D.bk U H'|.cnt fs=>∀F' H' U,Le F H F' H'->vN K F' B H' fs U->D.ct U H'|.wy c fs=>Z.p F B H c fs|.ur=>vd
inductive tSt(K:Fg)(Z:Xp)(g:FS->SO)(D:Ends)(U:St)(H:Hp):Prop
 |mk (F:Wd) (B:tD) (fs:FS) (h0:vN K F B H fs U) (h1:FK K Z B F H (g fs) D)
def GS (X:Cx)(Z:Xp)(st:Stmt)(g:FS->SO):Prop:=PS X st (tSt X.K Z g)
def GSs (X:Cx)(Z:Xp)(jf:tH Stmt)(g:FS->SO):Prop:=PSs X jf (tSt X.K Z g)
def FK.le{o}(h:FK K Z B F H o D)(l:Le F H F' H'):FK K Z B F' H' o D:=by
 cases o with
 |nx fs=>exact λF2 H2 U l2 k=>h F2 H2 U (l.trans l2) k
 |wH r fs=>exact λF2 H2 U u l2 k=>h F2 H2 U u (l.trans l2) k
 |brk fs=>exact λF2 H2 U l2 k=>h F2 H2 U (l.trans l2) k
 |cnt fs=>exact λF2 H2 U l2 k=>h F2 H2 U (l.trans l2) k
 |wy c fs=>exact Z.mono h l
 |ur=>exact h
def nxS :FS->SO:=λfs=>.nx fs
def Ak (g h:FS->SO):FS->SO:=λfs=>match g fs with|.nx fs=>h fs|o=>o
def SO.of {α:Type}(o:Out α)(k:α->FS->SO):SO:=match o with|.ok a fs=>k a fs|.wy c fs=>.wy c fs|.ur=>.ur
def BU{α β:Type}{R:Wd->Hp->FS->α->β->Prop}{o:Out α}{k:α->FS->SO}{D:Ends}{Q:β->Hp->Prop}(h:FK K Z B F H (SO.of o k) D)
  (hk:∀a fs F' H' b,Le F H F' H'->R F' H' fs a b->FK K Z B F' H' (k a fs) D->Q b H'):sat Z B R F H o Q:=by
 cases o with
 |ok a fs=>exact λF2 H2 b l r=>hk a fs F2 H2 b l r (FK.le h l)
 |wy c fs=>exact h
 |ur=>exact h
def putSl (i:tQ)(r:Rv)(fs:FS):tL FS:=match r with|.t t=>p' (fs.wJ i (p' (.vm t)))|.nw o=>p' (fs.wJ i (p' (.uI o)))|.x _=>none
def HV (i:tQ)(r:Rv)(fs:FS):tL FS:=match fs[i]? with|none=>none|p' (p' (.u7 _))=>none|p' _=>putSl i r fs
meta def KS{i}{r}(h:RR K B U F H fs r u)(e:HV i r fs=p' ak):∃F',Le F H F' H/\vN K F' B H ak (U.wJ i (p' u)):=by
 have e:=by
  unfold HV at e;split at e
  .cases e
  .cases e
  .exact e
 let{ok,q}:=h;cases r with|t t=>cases e;exact{F,Le.uV,ok.wJ Le.uV.f (λ_ _ _ _ z=>{z,rfl}) ok.td λs e=>by cases e;exact{u,rfl,q} }|nw o=>cases e;exact{_,Le.re,ok.re.wJ Le.uV.f (λ_ _ _ _ z=>{z,rfl}) ok.re.td λs e=>by cases e;exact{u,rfl,Bg.mvR q} }|x j=>cases e
def Av (i:tQ)(f:tm):FS->SO:=λfs=>SO.of (f fs) λr fs=>match HV i r fs with|p' fs=>.nx fs|none=>.ur
def Au (f:tm):FS->SO:=λfs=>SO.of (f fs) λ_ fs=>.nx fs
def vV (f:tm):FS->SO:=λfs=>SO.of (f fs) λr fs=>.wH r fs
def wQ (c:tw)(g h:FS->SO):FS->SO:=λfs=>SO.of (c fs) λb fs=>if b=true then g fs else h fs
variable{st:Stmt}{rest a b:List Stmt}{f:tm}{fc:tw}{g h:FS->SO}
def Yn:GSs X Z [] nxS:=O9 W0 λD U H {F,B,fs,ok,s}=>s F H U Le.uV ok
def Te(h1:GS X Z st g)(h2:GSs X Z uu h):GSs X Z (st::uu) (Ak g h):=by
 refine O9 (Sn h1 h2) λD U H aj => ?_
 let{F,B,fs,ok,s}:= aj;refine{F,B,fs,ok,?_};unfold Ak at s;cases e:g fs with
 |nx ae =>rw[e]at s;exact λF1 H1 cS l k=>{F1,B,ae,k,FK.le s l}
 |wH r ae=>rwa[e]at s
 |brk ae=>rwa[e]at s
 |cnt ae=>rwa[e]at s
 |wy c ae=>rwa[e]at s
 |ur=>rwa[e]at s
def Ym(h1:GS X Z st g):GSs X Z [st] g:=WZ h1
def Tt:GS X Z (.Break uG) (λfs=>.brk fs):=BS Su λD U H {F,B,fs,ok,s}=>s F H U Le.uV ok
def Yo(he:FE X Z e f)(hs:swapsWith e none uG.line X.uh=wx false:=by rfl):GS X Z (.v7 e uG) (Au f) :=
 BS (W3 he hs) λD U H {F,B,fs,ok,s}=>{F,B,fs,ok,BU s λr ae F1 H1 u l q s1=>s1 F1 H1 U Le.uV q.ok}
def Jci(he:FE X Z e f):GS X Z (.Return (p' e) uG) (vV f) :=
 BS (Ja1 he) λD U H {F,B,fs,ok,s}=>{F,B,fs,ok,BU s λr ae F1 H1 u l q s1=>s1 F1 H1 U u Le.uV q}
def gs_if(hc:FT X Z c fc)(ha:GSs X Z a g)(hb:GSs X Z b h):GS X Z (.If c a b uG) (wQ fc g h):=by
 refine BS (ps_if hc ha hb) λD U H aj => ?_
 let{F,B,fs,ok,s}:= aj;refine{F,B,fs,ok,BU s λr ae F1 H1 u l q s1=>?_};let{av,rfl}:=q;cases u with|true =>exact{F1,B,ae,av,s1}|false =>exact{F1,B,ae,av,s1}
meta def JaB{i}(s:tSt K Z (Av i f) D U H):Jau (tF K Z f) (TH i) D U H:=by
 let{F,B,fs,ok,s}:=s;refine{F,B,fs,ok,BU s λr ae F1 H1 u l q s1=>?_};split at s1
 next aq e2=>exact let{F2,l2,ok}:=KS q e2;s1 F2 H1 _ l2 ok
 .exact s1.tU
def Jch{X}{x}(i:tQ)(hN:X.N.uA)(hx:Loc X.uh.uR x)(he:FE X Z e f)(hi:X.N[i]?=p' x:=by rfl)(hs:swapsWith e (p' (.uE x aI)) uG.line X.uh=wx false:=by rfl)(hf:X.fn x=true\/X.uh.uR.uq.t7 x=p' .local:=by first|exact .uW rfl|exact .uK rfl|assumption):
  GS X Z (.Assign [.uE x aI] e uG) (Av i f) :=
 BS (Ja0 hN hi hx he hs hf) λ_ _ _ s=>JaB s
def tG (K:Fg)(gt:tz):TG:=λv U H Q=>∃F B fs t,vN K F B H fs U/\AK K F H t v/\match gt t fs with|p' ak=>∀F' H' az,Le F H F' H'->vN K F' B H' ak az->Q az H'|none=>vd
def tGs (K:Fg)(gt:tH T->FS->tL FS):TGs:=λvs U H Q=>∃F B fs ts,vN K F B H fs U/\Ai K F H ts vs/\match gt ts fs with|p' ak=>∀F' H' az,Le F H F' H'->vN K F' B H' ak az->Q az H'|none=>vd
def GT (X:Cx)(tg:v7)(gt:tz):Prop:=PG X tg (tG X.K gt)
def GTs (X:Cx)(tgs:tH v7)(gt:tH T->FS->tL FS):Prop:=PGs X tgs (tGs X.K gt)
def Vi{t}(h:PG X e t)(i:∀v U H Q,t' v U H Q->t v U H Q):PG X e t':=λaa s U H v u Q I r q=>h aa s U H v u Q I r (i _ _ _ _ q)
def Pq{e}{t}(h:PGs X e t)(i:∀v U H Q,t' v U H Q->t v U H Q):PGs X e t':=λaa s U H v u Q I r q=>h aa s U H v u Q I r (i _ _ _ _ q)
def wd (i:tQ):tz:=λt fs=>HV i (.t t) fs
def AL :tH T->FS->tL FS
 | [],fs=>p' fs
 |_,_=>none
def Aj (g:tz)(h:tH T->FS->tL FS):tH T->FS->tL FS
 |t::ts,fs=>(g t fs).u9 λfs=>h ts fs
 |_,_=>none
def AM (n:tQ)(h:tH T->FS->tL FS):tz
 |.uj ts,fs=>if ts.fg=n then h ts fs else none
 |_,_=>none
variable{g:tz}{h:List T->FS->Option FS}
meta def Yl{X}{x}(i:tQ)(hN:X.N.uA)(hx:Loc X.uh.uR x)(hi:X.N[i]?=p' x:=by rfl)(hf:X.fn x=true\/X.uh.uR.uq.t7 x=p' .local:=by first|exact .uW rfl|exact .uK rfl|assumption):GT X (.uE x uG) (wd i):=by
 refine Vi (Xc hN hi hx hf) λv U H Q aj=>?_
 let{F,B,fs,t,ok,r,s}:= aj;split at s
 next ak e=>exact let{F2,l2,ok}:=KS (RR.of (r:=.t t) ok r) e;s F2 H _ l2 ok
 .exact s.tU
def Yk:GTs X [] AL:=by
 refine Pq Xb λv U H Q aj=>?_
 let{F,B,fs,ts,ok,r,s}:= aj;cases ts with|vO=>exact{r,s F H U Le.uV ok}|ux t ts=>exact s.tU
def Td(h1:GT X e g)(h2:GTs X es h)
  (hc:∀{t:TG}{u:TGs},PG X e t->PGs X es u->PGs X (e::es) (gCons t u)):GTs X (e::es) (Aj g h):=by
 refine Pq (hc h1 h2) λv U H Q aj=>?_
 let{F,B,fs,ts,ok,r,s}:= aj;cases ts with
 |vO=>exact s.tU
 |ux t ts =>
  let{v',w,rfl,r1,r2}:=r;refine{v',w,rfl,F,B,fs,t,ok,r1,?_};simp![Aj]at s;cases e1:g t fs with
  |none=>rwa[e1]at s
  |p' ae =>
   rw[e1]at s;exact λF1 H1 cS l k=>{F1,B,ae,ts,k,r2.le l,by
    simp![oM]at s;split at s
    .exact λF2 H2 eT l2 k2=>s F2 H2 eT (l.trans l2) k2
    .exact s.tU}
meta def Jcg(hc:X.calm=true)(h1:GTs X es h)(hn:(assignEach es X.uh).fg=n:=by rfl)(dW:(assignEach es X.uh).findIdx? (·.1)=none:=by rfl):GT X (.Tuple es k uG) (AM n h):=by
 refine Vi (Ja7 hc h1 hn dW) λv U H Q aj=>?_
 let{F,B,fs,t,ok,r,s}:= aj;unfold AM at s;split at s
 .rename_i ak e;split at e
  .rename_i ts;split at e
   next hl=>let{a,vs,rfl,hs,r}:=r;refine{a,vs,rfl,hs.sq,by rw[r.wv];exact hl,F,B,fs,ts,ok,r,?_};rwa[e]
   .cases e
  .cases e
 .exact s.tU
def G8 (f:tm)(g:tz):FS->SO:=λfs=>SO.of (f fs) λr fs=>match r with
 |.t t=>match g t fs with|p' fs=>.nx fs|none=>.ur
 |_=>.ur
variable{tg:Expr}
meta def Jcl(he:FE X Z e f)(hg:GT X tg g)(hs:swapsWithSole [tg] e uG.line X.uh=wx false:=by rfl)(hw:swappedStores [tg] e X.uh=wx none:=by rfl)
  (h1:(assignEach [tg] X.uh).tJ (·.2)=[assign tg X.uh]:=by rfl):GS X Z (.Assign [tg] e uG) (G8 f g):=by
 refine BS (Vc he hg hs hw h1) λD U H aj => ?_
 let{F,B,fs,ok,s}:= aj;refine{F,B,fs,ok,BU s λr ae F1 H1 u l q s1=>?_};split at s1
 .rename_i t;let{o1,q}:=q;refine{F1,B,ae,t,o1,q,?_};split at s1
  next aq e2=>exact λF2 H2 eT l2 k2=>s1 F2 H2 eT l2 k2
  .exact s1.tU
 .exact s1.tU
def Nw (K:Fg)(F:Wd)(H:Hp)(F':Wd)(H':Hp):Prop:=Le F H F' H'/\∀B fs U,vN K F B H fs U->vN K F' B H' fs U
def Nw.uV:Nw K F H F H:={Le.uV,λ_ _ _ h=>h}
def JOk (K:Fg)(F:Wd)(H:Hp)(J:It)(ts:tH T):Prop:=∀(F':Wd)(H':Hp),(∀a,F a->F' a/\H' a=H a)->(∃B fs U,vN K F' B H' fs U)->∀i,(∀t,ts[i]?=p' t->J.go i H'/\∀x cB,J.yV i H' x cB->∃F'',Nw K F' H' F'' cB/\AK K F'' cB t x)/\(ts.fg<=i->J.stop i H')
def JOk.within(h:JOk K F H J ts)(f:∀a,F a->F2 a):JOk K F2 H J ts:=λF3 H3 l=>h F3 H3 λa z=>l a (f a z)
def stays{t}{x}(e:H'=H)(r:AK K F H t x):∃F',Nw K F H F' H'/\AK K F' H' t x:=by subst e;exact{F,Nw.uV,r}
def RJ (K:Fg)(B:tD)(U:St):Wd->Hp->FS->tH T->It->Prop:=λF H fs ts J=>vN K F B H fs U/\JOk K F H J ts
inductive tI(K:Fg)(Z:Xp)(f:tB)(U:St)(H:Hp)(R:It->Hp->Prop):Prop
 |mk (F:Wd) (B:tD) (fs:FS) (h0:vN K F B H fs U) (h1:sat Z B (RJ K B U) F H (f fs) R)
def FI (X:Cx)(Z:Xp)(tg au:v7)(f:tB):Prop:=PI X tg au (tI X.K Z f)
def Fc{t}(h:PI X tg e t)(i:∀U H Q,t' U H Q->t U H Q):PI X tg e t':=λaa s U H Q I q=>h aa s U H Q I (i _ _ _ q)
def signs (z:tO):tH T:=z.cps.uP.tJ λc=>T.str {#[c]}
def upTo (lo:tN)(n:tQ):tH T:=(tH.vq n).tJ λi=>T.tS (lo+(i:tQ))
def upBy (lo st:tN)(n:tQ):tH T:=(tH.vq n).tJ λi=>T.tS (lo+(i:tQ)*st)
def G6 (f:tq):tB:=λfs=>(f fs).u9 λrs fs=>match rs with| [.t (.tS j)]=>if -(2^62)<=j/\j<2^62 then .ok (upTo 0 j.uw) fs else .ur|_=>.ur
def Jb0 (f:tq):tB:=λfs=>(f fs).u9 λrs fs=>match rs with| [.t (.tS i),.t (.tS j)]=>if -(2^62)<=i/\i<2^62/\-(2^62)<=j/\j<2^62 then .ok (upTo i (j-i).uw) fs else .ur|_=>.ur
def Yd (f:tq):tB:=λfs=>(f fs).u9 λrs fs=>match rs with| [x,y,z]=>(match ZH x,ZH y with|p' i,p' j=>(match ZH z with|p' c=>if 0<c/\c<1073741824/\t6.Range.small i j c=true/\0<=t6.Range.ww i j c then .ok (upBy i c (t6.Range.ww i j c).uw) fs else .ur|none=>.ur)|_,_=>.ur)|_=>.ur
variable{l a b:Expr}
def Mv{a:tV}(hs:∀(F':Wd) H',(∀a,F a->F' a/\H' a=H a)->SqL K H' a vs)(r:Ai K F H ts vs):JOk K F H (Itl K a) ts:=by intro F' H' l _ i;refine{λt et=>?_,λhl=>{vs,hs F' H' l,by rwa[r.wv]} };let{v,ev,rv}:=(Ai.lf l r).at et;refine{ {vs,v,hs F' H' l,ev},λx cB hy=>stays hy.1 ?_};have:=hy.2 vs (hs F' H' l);rw[ev]at this;cases this;exact rv
def X9{a:tV}(hs:∀(F':Wd) H',(∀a,F a->F' a/\H' a=H a)->SqT K H' a vs)(r:Ai K F H ts vs):JOk K F H (Itt K a) ts:=by intro F' H' l _ i;refine{λt et=>?_,λhl=>{vs,hs F' H' l,by rwa[r.wv]} };let{v,ev,rv}:=(Ai.lf l r).at et;refine{ {vs,v,hs F' H' l,ev},λx cB hy=>stays hy.1 ?_};have:=hy.2 vs (hs F' H' l);rw[ev]at this;cases this;exact rv
def JT:JOk K F H (Itr lo n) (upTo lo n):=by
 intro F' H' l _ i;refine{λt et=>?_,λhl=>by unfold upTo at hl;simpa[Itr]using hl};unfold upTo at et;rw[oq]at et;have hi:i<n:=by
  by_cases h:i<n
  .exact h
  .rw[o7 (by simpa using h)]at et;cases et
 rw[pq hi]at et;cases et;exact{hi,λx cB hy=>stays hy.1 hy.2}
def NL{st}:JOk K F H (Itrs lo st n) (upBy lo st n):=by
 intro F' H' l _ i;refine{λt et=>?_,λhl=>by unfold upBy at hl;simpa[Itrs]using hl};unfold upBy at et;rw[oq]at et;have hi:i<n:=by
  by_cases h:i<n
  .exact h
  .rw[o7 (by simpa using h)]at et;cases et
 rw[pq hi]at et;cases et;exact{hi,λx cB hy=>stays hy.1 hy.2}
def Ya:JOk K F H (Its z) (signs z):=by
 intro F' H' l _ i;refine{λt et=>?_,λhl=>by unfold signs at hl;simpa[Its]using hl};unfold signs at et;rw[oq,n8]at et;let{c,ec,rfl}:=et;have hi:=by have:=(ou.mp ec).1;simpa using this
 refine{hi,λx cB hy=>stays hy.1 ?_};let{c',e1,e2}:=hy.2;rw[vp.getElem?_toList]at ec;rw[ec]at e1;cases e1;exact e2
meta def QM(hm:X.mg "range"=none)(ha:FA X Z [a] fa)(hg:Gl X "range":=by rfl)(hs:Zs1 X.uh a:=by rfl):FI X Z tg (.vM (.uE "range" p) [a] [] uG) (G6 fa):=by
 refine Fc (Pp hg hm ha hs) λU H Q aj => ?_
 let{F,B,fs,ok,s}:= aj;refine{F,B,fs,ok,As s λrs ae F1 H1 us l q s1=>?_};let{av,q}:=q;split at s1
 .rename_i j;split at s1
  next hj=>let{v,rfl,qq}:=Bi q;cases qq;exact{j,rfl,hj.1,hj.2,s1 F1 H1 _ Le.uV {av,JT} }
  .exact s1.tU
 .exact s1.tU
def QL(hm:X.mg "range"=none)(ha:FA X Z [a,b] fa)(hg:Gl X "range":=by rfl)
  (h:∀{ta:TA},PA X [a,b] ta->PI X tg (.vM (.uE "range" p) [a,b] [] uG) (Jcb ta)):FI X Z tg (.vM (.uE "range" p) [a,b] [] uG) (Jb0 fa):=by
 refine Fc (h ha) λU H Q aj => ?_
 let{F,B,fs,ok,s}:= aj;refine{F,B,fs,ok,As s λrs ae F1 H1 us l q s1=>?_};let{av,q}:=q;split at s1
 .rename_i i j;split at s1
  next hj=>let{v,w,rfl,q1,v2,w2,rfl,q2,q3}:=q;cases q1;cases q2;cases q3;exact{i,j,rfl,hj,s1 F1 H1 _ Le.uV {av,JT} }
  .exact s1.tU
 .exact s1.tU
def QK(ha:FA X Z [a,b,c] fa)
  (h:∀{ta:TA},PA X [a,b,c] ta->PI X tg (.vM (.uE "range" p) [a,b,c] [] uG) (Jca ta)):FI X Z tg (.vM (.uE "range" p) [a,b,c] [] uG) (Yd fa):=by
 refine Fc (h ha) λU H Q aj => ?_
 let{F,B,fs,ok,s}:= aj;refine{F,B,fs,ok,As s λrs ae F1 H1 us l q s1=>?_};let{av,q}:=q;split at s1
 .split at s1
  .split at s1
   .rename_i e1 e2 _ _ e3;split at s1
    next hj=>cases GC e1;cases GC e2;cases GC e3;let{v,w,rfl,q1,v2,w2,rfl,q2,v3,w3,rfl,q3,q4}:=q;cases q1;cases q2;cases q3;cases q4;exact{_,_,_,rfl,hj.1,hj.2.1,hj.2.2.1,hj.2.2.2,s1 F1 H1 _ Le.uV {av,NL} }
    .exact s1.tU
   .exact s1.tU
  .exact s1.tU
 .exact s1.tU
def Dz (gt:tz)(vR:FS->SO):tH T->FS->SO
 | [],fs=>.nx fs
 |t::ts,fs=>match gt t fs with|none=>.ur|p' fs=>match vR fs with|.nx fs=>Dz gt vR ts fs|.cnt fs=>Dz gt vR ts fs|.brk fs=>.nx fs|o=>o
def Bv (wP:tB)(gt:tz)(vR:FS->SO):FS->SO:=λfs=>SO.of (wP fs) λts fs=>Dz gt vR ts fs
variable{au:Expr}{src:tB}{gt:tz}{g:FS->SO}{body:List Stmt}
def Jcj(hp:PassesOwn (uf X.ub X.w) X.A X.uh X.xe)(hc:X.calm=true)(hi:FI X Z tg au wP)(hg:GT X tg gt)(hb:GSs X Z vR g)
  (hs:Zfs X.uh au:=by intro _;rfl):GS X Z (.For tg au vR [] uG) (Bv wP gt g):=by
 refine BS (Ja2 hp hc hi hg hb hs) λD U H aj => ?_
 let{F,B,fs,ok,s}:= aj;refine{F,B,fs,ok,BU s λts ae F1 H1 J l q s1=>?_};let{av,jk}:=q;refine{λi m U H=>m=ts.fg-i/\∃F' ak,Le F1 H1 F' H/\vN X.K F' B H ak U/\FK X.K Z B F' H (Dz gt g (ts.drop i) ak) D,{ts.fg,rfl,F1,ae,Le.uV,av,s1},?_}
 intro i m U H {rfl,F2,aq,l2,aL,s2}
 by_cases hi:i<ts.fg
 .refine .uK ?_;rw[(pR hi)]at s2;let{j1,j2}:=(jk F2 H l2.f {_,_,_,aL} i).1 _ (nX hi);refine{j1,λaz H'=>∃F' ak,Le F1 H1 F' H'/\vN X.K F' B H' ak az/\FK X.K Z B F' H' (Dz gt g (ts.drop (i+1)) ak) D,λaz H' h=>{ts.fg-(i+1),by lia,rfl,h},λx H' hy=>?_};let{j8,{jO,nw},rx}:=j2 x H' hy;replace l2:=l2.trans jO;replace s2:=FK.le s2 jO;replace aL:=nw _ _ _ aL;refine{j8,B,aq,ts[i],aL,rx,?_};simp![Dz]at s2;cases eg:gt ts[i] aq with
  |none=>rwa[eg]at s2
  |p' bR =>
   rw[eg]at s2;intro F3 H3 cU l3 bC;refine{F3,B,bR,bC,?_};have s3:=FK.le s2 l3;simp! at s3;cases eb:g bR with
   |nx bY =>rw[eb]at s3;exact λF4 H4 jh l4 dr=>{F4,bY,(l2.trans l3).trans l4,dr,FK.le s3 l4}
   |cnt bY =>rw[eb]at s3;exact λF4 H4 jh l4 dr=>{F4,bY,(l2.trans l3).trans l4,dr,FK.le s3 l4}
   |brk bY=>rwa[eb]at s3
   |wH r bY=>rwa[eb]at s3
   |wy c bY=>rwa[eb]at s3
   |ur=>rwa[eb]at s3
 .refine .uW {(jk F2 H l2.f {_,_,_,aL} i).2 (by lia),?_};rw[tH.drop_eq_nil_of_le (by lia)]at s2;exact s2 F2 H U Le.uV aL
def BY (c:tw)(vR:FS->SO):tQ->FS->SO
 |0,_=>.ur
 |n+1,fs=>SO.of (c fs) λb fs=>if b=true then(match vR fs with|.nx fs=>BY c vR n fs|.cnt fs=>BY c vR n fs|.brk fs=>.nx fs|o=>o)else .nx fs
def Tf(n:tQ)(hp:PassesOwn (uf X.ub X.w) X.A X.uh X.xe)(hc:FT X Z c fc)(hb:GSs X Z vR g):GS X Z (.While c vR [] uG) (BY fc g n):=by
 refine BS (Sq hp hc hb) λD U H aj=>?_
 let{F,B,fs,ok,s}:= aj;refine{λm az H'=>∃F' ak,Le F H F' H'/\vN X.K F' B H' ak az/\FK X.K Z B F' H' (BY fc g m ak) D,{n,F,fs,Le.uV,ok,s},?_}
 intro m cS H1 {F1,ae,l1,av,s1}
 cases m with
 |zero=>exact s1.tU
 |succ m =>
  refine{F1,B,ae,av,BU s1 λb aq F2 H2 b' l2 q s2=>?_};let{aL,rfl}:=q;cases b' with
  |false =>exact s2 F2 H2 cS Le.uV aL
  |true =>
   refine{λaz H'=>∃F' ak,Le F H F' H'/\vN X.K F' B H' ak az/\FK X.K Z B F' H' (BY fc g m ak) D,λaz H' h=>{m,by lia,h},F2,B,aq,aL,?_};cases eb:g aq with
   |nx bY =>rw[eb]at s2;exact λF4 H4 jh l4 dr=>{F4,bY,(l1.trans l2).trans l4,dr,FK.le s2 l4}
   |cnt bY =>rw[eb]at s2;exact λF4 H4 jh l4 dr=>{F4,bY,(l1.trans l2).trans l4,dr,FK.le s2 l4}
   |brk bY=>rwa[eb]at s2
   |wH r bY=>rwa[eb]at s2
   |wy c bY=>rwa[eb]at s2
   |ur=>rwa[eb]at s2
def vN.uB(h:vN K F B H fs U)(n:tQ):vN K F B H (fs.uB n) (U.uB n):=by
 refine{by simp[h.ln],λi s e=>?_,h.td};rw[qI]at e ⊢;split at e
 next hi=>rw[tW hi];exact h.sl i s e
 .cases e
def RR.uB{r}(h:RR K B U F H fs r u)(n:tQ)(hr:∀i,r≠.x i):RR K B (U.uB n) F H (fs.uB n) r u:=by refine{h.1.uB n,?_};cases r with|t t=>exact h.2|nw o=>exact h.2|x i=>exact(hr i rfl).tU
def vN.more(h:vN K F B H fs U)(n:tQ):vN K F B H (fs++tH.uN n none) (U++tH.uN n none):=by
 refine{by simp[h.ln],λi s e=>?_,h.td};rw[tH.getElem?_append]at e ⊢;rw[h.ln];split at e
 next hi=>rw[tW hi];exact h.sl i s e
 .rw[tH.getElem?_replicate]at e;split at e<;>cases e
inductive Ini where
 |no|vm (t:T)|vH (j:tQ)|new (o:FO)
def Ob (fs:FS):Ini->tL Sl
 |.no=>none
 |.vm t=>p' (.vm t)
 |.new o=>p' (.u7 o)
 |.vH j=>match fs[j]? with|p' (p' (.vm t))=>p' (.vm t)|p' (p' (.uI o))=>p' (.u7 o)|p' (p' (.u7 o))=>p' (.u7 o)|_=>none
def Bu (fs:FS)(is:tH Ini):FS:=is.tJ (Ob fs)
def AX (fs:FS):Ini->tL tQ
 |.vH j=>if(Ax fs j).u8=true then p' j else none
 |_=>none
def Cd (fs:FS)(is:tH Ini):tH tQ:=is.filterMap (AX fs)
def va (fs:FS)(j:tQ):tH Ini->tQ->tL tQ
 | [],_=>none
 |i::r,k=>if AX fs i=p' j then p' k else va fs j r (k+1)
def DZ (fs:FS)(is:tH Ini)(τ:FS)(j:tQ)(s:tL Sl):tL (tL Sl):=match va fs j is 0 with|none=>p' s|p' k=>match τ[k]?,s with|p' (p' (.u7 o)),p' s=>p' (p' (s.put o))|_,_=>none
def CF (fs:FS)(is:tH Ini)(τ:FS):tQ->FS->tL FS
 |_,[]=>p' []
 |j,s::r=>match DZ fs is τ j s,CF fs is τ (j+1) r with|p' s',p' r'=>p' (s'::r')|_,_=>none
def B3 (is:tH Ini)(τ fs:FS):tL FS:=CF fs is τ 0 fs
def placeOf_some:∀{is:tH Ini}{k k':tQ},va fs j is k=p' k'->k<=k'/\∃i,is[k'-k]?=p' i/\AX fs i=p' j
 | [],_,_,e=>by simp[va]at e
 |i::r,k,k',e=>by
  simp![va]at e;split at e
  next h=>cases e;exact{oh _,i,by simp,h}
  .let{h1,i',h2,h3}:=placeOf_some e;refine{by lia,i',?_,h3};rw[show k'-k=(k'-(k+1))+1 by lia];simpa using h2
def placeOf_none:∀{is:tH Ini}{k:tQ},va fs j is k=none->j∉Cd fs is
 | [],_,_,h=>by simp[Cd]at h
 |i::r,k,e,h=>by
  simp![va]at e;split at e
  .cases e
  .rename_i hn;unfold Cd at h;rw[pN]at h;cases q:AX fs i with
   |none =>rw[q]at h;exact placeOf_none e h
   |p' j' =>
    rw[q]at h;rcases oz.mp h with h|h
    .exact hn (by rw[q,h])
    .exact placeOf_none e h
def JO:∀{is:tH Ini}{k k':tQ}{i i':Ini}{j:tQ},(Cd fs is).uA->is[k]?=p' i->is[k']?=p' i'->AX fs i=p' j->AX fs i'=p' j->k=k'
 | [],_,_,_,_,_,_,e,_,_,_=>by simp at e
 |i0::r,k,k',i,i',j,nd,e,e',h,h'=>by
  have mem:∀{m:tQ}{x:Ini},r[m]?=p' x->AX fs x=p' j->j∈Cd fs r:=λhm hx=>qH.wO {_,pJ hm,hx}
  unfold Cd at nd;rw[pN]at nd;cases k with
  |zero =>simp at e;subst e;rw[h]at nd;have fK:=nd;cases k' with|zero=>rfl|succ k'=>exact((o5.mp fK).1 (mem (by simpa using e') h')).tU
  |succ k =>cases k' with|zero =>simp at e';subst e';rw[h']at nd;exact((o5.mp nd).1 (mem (by simpa using e) h)).tU|succ k' =>exact uC (·+1) (JO (by cases q:AX fs i0 with|none=>rwa[q]at nd|p' j'=>rw[q]at nd;exact(o5.mp nd).2) (by simpa using e) (by simpa using e') h h')
meta def M6:∀{r r':FS}{j:tQ},CF fs is τ j r=p' r'->r'.fg=r.fg/\∀i s,r[i]?=p' s->∃s',r'[i]?=p' s'/\DZ fs is τ (j+i) s=p' s'
 | [],_,_,e=>by cases e;exact{rfl,λi s q=>by simp at q}
 |s::r,_,j,e=>by
  simp![CF]at e;split at e
  next s' r' h1 h2=>cases e;let{q1,q2}:=M6 h2;refine{by simp[q1],λi s0 q=>?_};cases i with|zero =>simp at q;subst q;exact{s',rfl,h1}|succ i =>let{s1,e1,e2}:=q2 i s0 (by simpa using q);exact{s1,by simpa using e1,by rwa[show j+(i+1)=j+1+i by lia]}
  .cases e
def UI (K:Fg)(F:Wd)(H:Hp)(U:St)(k:tQ)(i:Ini)(v:tL V):Prop:=match i with|.no=>uQ|.vm t=>∃u,v=p' u/\AK K F H t u|.vH j=>U[j]?=p' v|.new o=>∃u,v=p' u/\Bg K F H false k [] o u
def Bof (U:St):tD:=λk=>(U[k]?).join
def G5:Bof U k=p' v↔U[k]?=p' (p' v):=by unfold Bof;cases U[k]?<;>simp
def G9 (fs:FS)(is:tH Ini):Tg->Tg
 |.j true j ρ=>match va fs j is 0 with|p' k=>.j true k ρ|none=>.cl
 |.j false k ρ=>match is[k]? with|p' (.new _)=>.j true k ρ|_=>.cl
 |t=>t
def Zr (fs:FS)(is:tH Ini):Tg->Tg
 |.j true k ρ=>match is[k]? with|p' (.new _)=>.j false k ρ|p' i=>(match AX fs i with|p' j=>.j true j ρ|none=>.no)|none=>.no
 |.cl=>.no
 |t=>t
def Wd.lend (F:Wd)(fs:FS)(is:tH Ini):Wd:={λa=>G9 fs is (F.o a)}
open Classical in
def Wd.back (F:Wd)(fs:FS)(is:tH Ini)(F2:Wd):Wd:={λa=>if(F.lend fs is).p a then F.o a else Zr fs is (F2.o a)}
variable{F2:Wd}{H2:Hp}{ak τ:FS}{eU eT:St}{is:List Ini}{k:Nat}{ρ:List Nat}{a:Addr}
def EN:Lf F H (F.lend fs is) H:=λa f=>{by show G9 _ _ (F.o a)=_;rw[show F.o a=_ from f];rfl,rfl}
def K9{i}(h:AX fs i=p' j):i=.vH j/\(Ax fs j).u8=true:=by
 unfold AX at h;split at h
 .split at h
  .cases h;exact{rfl,‹_›}
  .cases h
 .cases h
def vN.lend(ok:vN K F B H fs U)(hl:eU.fg=is.fg)(hi:∀(k:tQ)(i:Ini)(v:tL V),is[k]?=p' i->eU[k]?=p' v->UI K F H U k i v)(nd:(Cd fs is).uA):
  vN K (F.lend fs is) (Bof eU) H (Bu fs is) eU:=by
 refine{by simp[Bu,hl],λk s e=>?_,λa z=>by show G9 _ _ (F.o a)=_;rw[ok.td a z];rfl};rw[Bu,oq,n8]at e;let{i,ei,e}:=e;have hk:k<eU.fg:=by rw[hl];exact(ou.mp ei).1
 have ek:=nX hk;have io:=hi k i _ ei ek;have Cd:∀{j:tQ}{o:FO}{v:V},Ax fs j=p' o->i=.vH j->Bg K F H true j [] o v->Bg K (F.lend fs is) H true k [] o v:=λ{j o v} eo e1 r=>by
  refine r.mv (π:=[]) (λa ρ z=>{?_,rfl}) EN;show G9 _ _ (F.o a)=_;rw[z];have e2:AX fs (.vH j)=p' j:=by simp[AX,eo]
  cases q:va fs j is 0 with|none=>exact uD (qH.wO {i,pJ ei,by rw[e1,e2]}) (placeOf_none q)|p' k' =>let{_,i',g1,g2}:=placeOf_some q;have:=JO nd ei (by simpa using g1) (by rw[e1,e2]) g2;subst this;simp![G9,q]
 cases i with
 |no=>cases e
 |vm t=>cases e;exact let{u,eu,r}:=io;{u,by rw[ek,eu],r.lf EN}
 |new o =>cases e;let{u,eu,r}:=io;refine{u,by rw[ek,eu],r.mv (π:=[]) (λa ρ z=>{?_,rfl}) EN,G5.wO (by rw[ek,eu])};show G9 _ _ (F.o a)=_;rw[z];simp![G9,ei]
 |vH j =>
  have io:U[j]?=p' eU[k]:=io;simp![Ob]at e;split at e
  next es=>cases e;exact let{v,e1,r}:=ok.sl _ _ es;{v,by rw[ek,<- io,e1],AK.lf EN r}
  next es=>cases e;let{v,e1,r}:=ok.sl _ _ es;rw[e1]at io;exact{v,by rw[ek,<- io],Cd (by simp[Ax,es]) rfl r,G5.wO (by rw[ek,<- io])}
  next es=>cases e;let{v,e1,r}:=ok.sl _ _ es;rw[e1]at io;exact{v,by rw[ek,<- io],Cd (by simp[Ax,es]) rfl r.1,G5.wO (by rw[ek,<- io])}
  .cases e
def M5(l:Le (F.lend fs is) H F2 H2)(h:(F.lend fs is).p a):(F.back fs is F2).o a=F.o a/\H2 a=H a:={by simp[Wd.back,h],(l.p a h).2}
def Kn(l:Le (F.lend fs is) H F2 H2)(h:F2.o a≠.cl):(F.back fs is F2).o a=Zr fs is (F2.o a):=by
 have:¬(F.lend fs is).p a:=λz=>h (l.p a z).1
 simp[Wd.back,this]
def Dt(l:Le (F.lend fs is) H F2 H2):Lf F2 H2 (F.back fs is F2) H2:=λa f=>{(Kn l (by rw[show F2.o a=_ from f];nofun)).trans (by rw[show F2.o a=_ from f];rfl),rfl}
def CW(l:Le (F.lend fs is) H F2 H2):Le F H (F.back fs is F2) H2 :=
 {λa f=>have q:=l.f a (EN (H:=H) a f).1;{(Dt l a q.1).1,q.2},λa f=>have q:=M5 l (by show G9 _ _ (F.o a)=_;rw[show F.o a=_ from f];rfl);{q.1.trans f,q.2} }
def PH{o}(l:Le (F.lend fs is) H F2 H2)(r:Bg K F2 H2 false k [] o u):Bg K (F.back fs is F2) H2 false k [] o u :=
 r.mv (π:=[]) (λa ρ z=>{(Kn l (by rw[z];nofun)).trans (by rw[z];rfl),rfl}) (Dt l)
def vN.back(ok:vN K F B H fs U)(hi:∀(k:tQ)(i:Ini)(v:tL V),is[k]?=p' i->eU[k]?=p' v->UI K F H U k i v)(l:Le (F.lend fs is) H F2 H2)
  (o2:vN K F2 (Bof eU) H2 τ eT) (eb:B3 is τ fs=p' ak):vN K (F.back fs is F2) B H2 ak U:=by
 let{b1,b2}:=M6 eb;refine{by rw[b1];exact ok.ln,λj s' e=>?_,λa z=>?_}
 .have hj:=b1▸(ou.mp e).1;let{s1,e1,e2}:=b2 j fs[j] (nX hj);rw[e]at e1;cases e1;unfold DZ at e2;rw[tQ.zero_add]at e2;split at e2
  next q=>let{v,g1,g2}:=ok.sl j s' (by rw[nX hj];simpa using e2);exact{v,g1,g2.mv (λa ρ z=>have q:=M5 l (by show G9 _ _ (F.o a)=_;rw[z];simp![G9,q]);{q.1.trans z,q.2}) (CW l).f}
  .rename_i k q;let{_,i,g1,g2}:=placeOf_some q;rw[tQ.sub_zero]at g1;let{rfl,ho}:=K9 g2;split at e2
   .rename_i o s h1 h2;cases e2;let{v,f1,f2,f3}:=o2.sl k _ h1;have sj:=hi k _ _ g1 (G5.mp f3);have r:Bg K (F.back fs is F2) H2 true j [] o v:=f2.mv (π:=[]) (λa ρ z=>{(Kn l (by rw[z];nofun)).trans (by rw[z];simp[Zr,g1,g2]),rfl}) (Dt l);have es:fs[j]?=p' (p' s):=by rw[nX hj,h2]
    let{w,k1,k2}:=ok.sl j s es;rw[sj]at k1;cases k1;refine{v,sj,?_};cases s with|vm t=>simp[Ax,es]at ho|uI o=>exact r|u7 o=>exact{r,k2.2}
   .cases e2
 .by_cases h:(F.lend fs is).p a
  .rw[(M5 l h).1];exact ok.td a ((M5 l h).2▸z)
  .have:=o2.td a z;rw[Kn l (by rw[this];nofun),this];rfl
end Lake.FL
namespace Lake.FL
open PySem PySem.Spec L2
inductive EZ(K:Fg)(Z:Xp)(cv:tM)(U:St)(H:Hp):Prop
 |mk (F:Wd) (B:tD) (fs:FS) (c:tO) (C:tV) (h0:CD K c=p' C) (h1:cv=.t8 C) (h2:vN K F B H fs U) (h3:Z.p F B H c fs)
def spX (K:Fg)(p:tQ)(Fn:tm):Sp:=λvs H Q E=>vs.fg=p/\∃F cV,vN K F (Bof (vs.tJ p')) H cV (vs.tJ p')/\match Fn cV with|.ok r τ=>∀F' H' u az,Le F H F' H'->RR K (Bof (vs.tJ p')) az F' H' τ r u->Q u H'|.wy c τ=>∀C,CD K c=p' C->∀F' H' az,Le F H F' H'->vN K F' (Bof (vs.tJ p')) H' τ az->E (.t8 C) none H'|.ur=>vd
def A2 (n:tQ)(g:FS->SO):tm:=λargs=>match g (args++tH.uN n none)with
 |.nx τ=>.ok (.t .vG) (τ.uB args.fg)
 |.wH (.t t) τ=>.ok (.t t) (τ.uB args.fg)
 |.wH (.nw o) τ=>.ok (.nw o) (τ.uB args.fg)
 |.wH (.x i) τ=>match τ[i]? with|p' (p' (.uI o))=>.ok (.nw o) ((τ.wJ i none).uB args.fg)|_=>.ur
 |.wy c τ=>.wy c (τ.uB args.fg)
 |_=>.ur
def AF :Rv->Ini
 |.t t=>.vm t
 |.x i=>.vH i
 |.nw o=>.new o
def Q9 (Fn:tm)(rs:tH Rv)(fs:FS):Out Rv :=
 if(Cd fs (rs.tJ AF)).uA then(match Fn (Bu fs (rs.tJ AF))with|.ok (.t t) τ=>(match B3 (rs.tJ AF) τ fs with|p' ak=>.ok (.t t) ak|none=>.ur)|.ok (.nw o) τ=>(match B3 (rs.tJ AF) τ fs with|p' ak=>.ok (.nw o) ak|none=>.ur)|_=>.ur)else .ur
def D4 (Fn:tm)(rs:tH Rv)(fs:FS):Out Rv :=
 if(Cd fs (rs.tJ AF)).uA then(match Fn (Bu fs (rs.tJ AF))with|.ok (.t t) τ=>(match B3 (rs.tJ AF) τ fs with|p' ak=>.ok (.t t) ak|none=>.ur)|.ok (.nw o) τ=>(match B3 (rs.tJ AF) τ fs with|p' ak=>.ok (.nw o) ak|none=>.ur)|.wy c τ=>(match B3 (rs.tJ AF) τ fs with|p' ak=>.wy c ak|none=>.ur)|_=>.ur)else .ur
def Af (p:tQ)(Fn:tm):tH Rv->tm:=λrs fs=>if rs.fg=p then D4 Fn rs fs else .ur
def Jf.wv:∀{rs:tH Rv}{vs:tH V},Jf K F H U rs vs->vs.fg=rs.fg
 | [],_,h=>by cases h;rfl
 |r::rs,_,h=>by let{v,w,rfl,h1,h2}:=h;simp[Jf.wv h2]
def RelRs (K:Fg)(F:Wd)(H:Hp)(U:St)(rs:tH Rv)(vs:tH V):Prop:=vs.fg=rs.fg/\∀(k:tQ)(r:Rv)(v:V),rs[k]?=p' r->vs[k]?=p' v->Zx K F H U k r v
def RAn (K:Fg)(B:tD)(U:St)(F:Wd)(H:Hp)(fs:FS)(rs:tH Rv)(vs:tH V):Prop:=vN K F B H fs U/\RelRs K F H U rs vs
inductive tAn(K:Fg)(Z:Xp)(f:tq)(U:St)(H:Hp)(Q:tH V->Hp->Prop):Prop
 |mk (F:Wd) (B:tD) (fs:FS) (h0:vN K F B H fs U) (h1:sat Z B (RAn K B U) F H (f fs) Q)
def FAn (X:Cx)(Z:Xp)(es:tH v7)(f:tq):Prop:=PA X es (tAn X.K Z f)
def Ac (f:tm)(g:tq):tq:=λfs=>(f fs).u9 λr fs=>(g fs).u9 λrs fs=>.ok (r::rs) fs
def shT :Tg->Tg
 |.j false k ρ=>.j false (k+1) ρ
 |t=>t
def Wd.Xl (F:Wd):Wd:=F.re false 0 λ_=>.cl
open Classical in
def Wd.join (F F2:Wd):Wd:={λa=>if F.Xl.p a then F.o a else shT (F2.o a)}
variable{K:Fg}{F F' F2:Wd}{H H' H2:Hp}{B:tD}{fs aq:FS}{U:St}{r:Rv}{u:V}{rs:List Rv}{vs us:List V}{Z:Xp}{Q:VK}{Fn:tm}{E:XK}{a:Addr}
def Zx.mv(hm:∀a ρ,F.o a=.j false k ρ->F'.o a=.j false k' ρ/\H' a=H a)(l:Lf F H F' H')(h:Zx K F H U k r u):Zx K F' H' U k' r u:=by cases r with|t t=>exact AK.lf l h|nw o=>exact Bg.mv (π:=[]) (λa ρ z=>hm a _ z) l h|x i=>exact h
def VA(l:Le F.Xl H F2 H2)(h:F.Xl.p a):(F.join F2).o a=F.o a/\H2 a=H a:={by simp[Wd.join,h],(l.p a h).2}
def My(l:Le F.Xl H F2 H2)(h:F2.o a≠.cl):(F.join F2).o a=shT (F2.o a):=by
 have:¬F.Xl.p a:=λz=>h (l.p a z).1
 simp[Wd.join,this]
def RAn.join(q:RR K B U F H fs r u)(l:Le F.Xl H F2 H2)(q2:RAn K B U F2 H2 aq rs us):RAn K B U (F.join F2) H2 aq (r::rs) (u::us)/\Le F H (F.join F2) H2:=by
 have f2:Lf F2 H2 (F.join F2) H2:=λa f=>{(My l (by rw[show F2.o a=_ from f];nofun)).trans (by rw[show F2.o a=_ from f];rfl),rfl}
 have le:Le F H (F.join F2) H2:={λa f=>have q:=l.f a (Le.re (H:=H).f a f).1;{(f2 a q.1).1,q.2},λa f=>have q:=VA l (Le.re (H:=H).p a f).1;{q.1.trans f,q.2} }
 refine{ {q2.1.to f2 (λa j ρ z=>{(My l (by rw[z];nofun)).trans (by rw[z];rfl),rfl}) λa z=>?_,by simp[q2.2.1],λk r' v e1 e2=>?_},le}
 .have:=q2.1.td a z;rw[My l (by rw[this];nofun),this];rfl
 .cases k with|zero =>cases e1;cases e2;exact q.2.mv (λa ρ z=>have q:=VA l (by show reT _ _ _ (F.o a)=_;rw[z,O0]);{q.1.trans z,q.2}) le.f|succ k=>exact(q2.2.2 k r' v e1 e2).mv (λa ρ z=>{(My l (by rw[z];nofun)).trans (by rw[z];rfl),rfl}) f2
def RAn.vY(q:RAn K B U F H fs rs vs)(h:CQ K F H U r u):RAn K B U {λa=>shT (F.o a)} H fs (r::rs) (u::vs)/\Le F H {λa=>shT (F.o a)} H:=by
 have l:Le F H {λa=>shT (F.o a)} H:={λa f=>{by show shT (F.o a)=_;rw[show F.o a=_ from f];rfl,rfl},λa f=>{by show shT (F.o a)=_;rw[show F.o a=_ from f];rfl,rfl} }
 refine{ {q.1.to l.f (λa j ρ z=>{by show shT (F.o a)=_;rw[z];rfl,rfl}) λa z=>by show shT (F.o a)=_;rw[q.1.td a z];rfl,by simp[q.2.1],λk r' v e1 e2=>?_},l};cases k with|zero=>cases e1;cases e2;exact(h.le l).rr|succ k=>exact(q.2.2 k r' v e1 e2).mv (λa ρ z=>{by show shT (F.o a)=_;rw[z];rfl,rfl}) l.f
def MB(q:RelRs K F H U rs vs)(k:tQ)(i:Ini)(v:tL V)(e1:(rs.tJ AF)[k]?=p' i)(e2:(vs.tJ p')[k]?=p' v):UI K F H U k i v:=by rw[oq,n8]at e1 e2;let{r,er,rfl}:=e1;let{u,eu,rfl}:=e2;have rr:=q.2 k r u er eu;cases r with|t t=>exact{u,rfl,rr}|nw o=>exact{u,rfl,rr}|x i=>exact rr
meta def GX(q:RAn K B U F H fs rs vs)(s:sat Z B (RR K B U) F H (D4 Fn rs fs) Q):spX K rs.fg Fn vs H Q λc _ H'=>EZ K Z c U H':=by
 unfold D4 at s;split at s
 .rename_i nd;have hi:=MB q.2;refine{q.2.1,_,_,q.1.lend (by simp[q.2.1]) hi nd,?_};split at s
  .rename_i t τ e;rw[e];split at s
   next ak eb=>exact λF' H' u az l k=>s _ H' u (CW l) {q.1.back hi l k.1 eb,AK.lf (Dt l) k.2}
   .exact s.tU
  .rename_i o τ e;rw[e];split at s
   next ak eb=>exact λF' H' u az l k=>s _ H' u (CW l) {q.1.back hi l k.1 eb,PH l k.2}
   .exact s.tU
  .rename_i c τ e;rw[e];split at s
   next ak eb=>exact λC hC F' H' az l k=>{_,B,ak,c,C,hC,rfl,q.1.back hi l k eb,Z.mono s (CW l)}
   .exact s.tU
  .exact s.tU
 .exact s.tU
meta def Uy(q:RAn K B U F H fs rs vs)(s:sat Z B (RR K B U) F H (Q9 Fn rs fs) Q):spX K rs.fg Fn vs H Q E:=by
 unfold Q9 at s;split at s
 .rename_i nd;have hi:=MB q.2;refine{q.2.1,_,_,q.1.lend (by simp[q.2.1]) hi nd,?_};split at s
  .rename_i t τ e;rw[e];split at s
   next ak eb=>exact λF' H' u az l k=>s _ H' u (CW l) {q.1.back hi l k.1 eb,AK.lf (Dt l) k.2}
   .exact s.tU
  .rename_i o τ e;rw[e];split at s
   next ak eb=>exact λF' H' u az l k=>s _ H' u (CW l) {q.1.back hi l k.1 eb,PH l k.2}
   .exact s.tU
  .exact s.tU
 .exact s.tU
variable{X:Cx}{e:Expr}{es:List Expr}{f:tm}{g:tq}
def YU:FAn X Z [] Ae:=Mi JH λU H Q {F,B,fs,ok,s}=>s F H [] Le.uV {ok,rfl,nofun}
def MC{Q}{R2:Wd->Hp->FS->γ->δ->Prop}(q:RR K B U F1 H1 ae r u)(s1:sat Z B R2 F1 H1 ((g ae).u9 k) Q)
  (hk:∀rs aq F2 H2 us,Le F1 H1 F2 H2->RAn K B U F2 H2 aq (r::rs) (u::us)->sat Z B R2 F2 H2 (k rs aq) Q->Q' us H2):tAn K Z g U H1 Q':=by
 refine{F1.Xl,B,ae,q.1.re,?_};cases eg:g ae with|ur=>rwa[eg]at s1|wy c t=>rw[eg]at s1;exact Z.mono s1 Le.re|ok rs aq =>rw[eg]at s1;exact λF2 H2 us l2 q2=>have z:=RAn.join q l2 q2;hk rs aq _ H2 us z.2 z.1 (sat.le s1 z.2)
def T9(ha:FE X Z e f)(hr:FAn X Z es g)(hs:Zsc X.uh e es:=by rfl):FAn X Z (e::es) (Ac f g) :=
 Mi (D7 ha hr hs) λU H Q {F,B,fs,ok,s}=>{F,B,fs,ok,As s λr ae F1 H1 u l q s1=>MC q s1 λrs aq F2 H2 us _ ra s2=>s2 F2 H2 (u::us) Le.uV ra}
variable{x m:Str}{k p:Nat}{ps:List Str}{o:Expr}{fa:tq}{fo:tm}{pp pos aw:Pos}{C:Addr}
variable{x dx:Addr}
def Lq (p:tQ)(Fn:tm):tH Rv->tm:=λrs fs=>if rs.fg=p then Q9 Fn rs fs else .ur
def Cw (C:tV)(m:tO)(fs:FS):Rv->uz
 |.t (.vE C' gs _)=>decide (C'=C)&&!gs.any (·==m)
 |.x i=>match Ax fs i with|p' (.vE C' gs _)=>decide (C'=C)&&!gs.any (·==m)|_=>false
 |_=>false
def Gs{ag:tH (tO×V)}(h:((ag.tJ (·.1)).any (·==m))=false):ag.t7 m=none:=by
 induction ag with
 |vO=>rfl
 |ux p r ih =>
  rw[nV,qt,uz.or_eq_false_iff]at h;let{k,v}:=p;rw[pf];have:(m==k)=false:=by have h1:=h.1;rw[vB]at h1 ⊢;exact λe=>h1 e.symm
  rw[this];exact ih h.2
meta def MA(ok:vN K F B H fs U)(q:CQ K F H U r u)(h:Cw C m fs r=true):∃a dx ag,u=.t8 a/\H a=p' (.vE C dx ag)/\ag.t7 m=none:=by
 unfold Cw at h;split at h
 next C' gs ts=>rw[oB]at h;have hC:=oy h.1;subst hC;let{a,dx,ag,rfl,f,hd,rfl,r}:=q;exact{a,dx,ag,rfl,hd,Gs (by simpa using h.2)}
 .rename_i i;split at h
  next C' gs os eo=>rw[oB]at h;have hC:=oy h.1;subst hC;let{a,_,rfl,_,{dx,ag,hd,rfl,rfl},_}:=(ok.at q eo).inv rfl;exact{a,dx,ag,rfl,hd,Gs (by simpa using h.2)}
  .cases h
 .cases h
def Dg (C:tV)(m:tO)(p:tQ)(Fn:tm)(fo:tm)(fa:tq):tm:=λfs=>(fo fs).bnd λx fs=>if Cw C m fs x=true then(fa fs).u9 λrs fs=>Lq p Fn (x::rs) fs else .ur
def CK (C:tV)(p:tQ)(Fn:tm)(rs:tH Rv)(fs:FS):Out Rv :=
 if(Cd fs (rs.tJ AF)).uA/\rs.fg+1=p then(match Fn (p' (.u7 (.vE C [] []))::Bu fs (rs.tJ AF))with|.ok (.t .vG) (p' (.u7 o)::τ)=>(match B3 (rs.tJ AF) τ fs with|p' ak=>.ok (.nw o) ak|none=>.ur)|_=>.ur)else .ur
def Mb:∀{is:tH Ini}{k:tQ},va fs j is (k+1)=(va fs j is k).tJ (·+1)
 | [],_=>rfl
 |i::r,k=>by
  simp![va];split
  .rfl
  .exact Mb
def Rj{o:FO}:B3 (.new o::is) (s::τ) fs=B3 is τ fs:=by
 have h1:∀j x,DZ fs (.new o::is) (s::τ) j x=DZ fs is τ j x:=λj x=>by unfold DZ;have:va fs j (.new o::is) 0=(va fs j is 0).tJ (·+1):=Mb;rw[this];cases va fs j is 0<;>rfl
 have h2:∀r j,CF fs (.new o::is) (s::τ) j r=CF fs is τ j r:=λr=>by
  induction r with
  |vO=>exact λ_=>rfl
  |ux a r ih=>exact λj=>by simp![CF,h1,ih]
 exact h2 fs 0
def JbF{x dx:tV}(q:RAn K B U F H fs rs vs)(hx:H x=none)(fG:H dx=none)(aX:dx≠x):
  ∃F',RAn K B U F' (vi (vi H dx (.uI x)) x (.vE C dx [])) fs (.nw (.vE C [] [])::rs) (.t8 x::vs)/\Le F H F' (vi (vi H dx (.uI x)) x (.vE C dx [])):=by
 have gw:vi H dx (.uI x) x=none:=by rwa[Ap aX.symm]
 let{q1,l1}:=q.vY (r:=.t .vG) rfl;have l2:=(q1.1.Ea (t:=.no) fG).trans ((q1.1.alloc fG).Ea (t:=.j false 0 []) (o:=.vE C dx []) gw);refine{_,{(q1.1.alloc fG).alloc gw,by simp[q.2.1],λk r v e1 e2=>?_},l1.trans l2};cases k with|zero=>cases e1;cases e2;exact .nd rfl Bh (by rw[Aq];exact{dx,[],rfl,rfl,rfl}) rfl nofun|succ k=>exact(q1.2.2 (k+1) r v e1 e2).mv (λa ρ z=>by have h1:=q1.1.vJ fG (by rw[z];nofun);have h2:=q1.1.vJ hx (by rw[z];nofun);exact{by rw[Br h2,Br h1];exact z,by rw[Ap h2,Ap h1]}) l2.f
def EM{o:FO}(q1:RAn K B U F' H' fs (.nw (.vE C [] [])::rs) (.t8 x::vs))(l:Le (F'.lend fs ((.nw (.vE C [] [])::rs).tJ AF)) H' F2 H2)(k:vN K F2 (Bof ((.t8 x::vs).tJ p')) H2 (p' (.u7 o)::τ) az)(eb:B3 (rs.tJ AF) τ fs=p' ak):
  RR K B U (F'.back fs ((.nw (.vE C [] [])::rs).tJ AF) F2) H2 ak (.nw o) (.t8 x):=by
 refine{q1.1.back (MB q1.2) l k (Rj.trans eb),?_};let{v,e1,r,e2}:=k.sl 0 _ rfl;cases G5.mp e2;exact r.mv (π:=[]) (λa ρ z=>{(Kn l (by rw[z];nofun)).trans (by rw[z];rfl),rfl}) (Dt l)
meta def S4(q:RAn K B U F H fs rs vs)(s:sat Z B (RR K B U) F H (CK C p Fn rs fs) Q)(hx:H x=none)(fG:H dx=none)(aX:dx≠x):
  spX K p Fn (.t8 x::vs) (vi (vi H dx (.uI x)) x (.vE C dx [])) (λv H2=>v=.vG/\Q (.t8 x) H2) E:=by
 unfold CK at s;split at s
 .rename_i hh;let{F',q1,l1}:=JbF q hx fG aX;refine{by rw[om,q.2.1];exact hh.2,_,_,q1.1.lend (by simp[q.2.1]) (MB q1.2) (show(Cd fs (rs.tJ AF)).uA from hh.1),?_};rw[show Bu fs ((.nw (.vE C [] [])::rs).tJ AF)=p' (.u7 (.vE C [] []))::Bu fs (rs.tJ AF)from rfl];split at s
  .rename_i o τ e;rw[e];split at s
   next ak eb=>exact λF2 H2 u az l k=>{k.2,s _ H2 _ (l1.trans (CW l)) (EM q1 l k.1 eb)}
   .exact s.tU
  .exact s.tU
 .exact s.tU
def Bq (gt:tz)(ft:tw)(fe:tm):tH T->FS->tH T->tL (tH T×FS)
 | [],τ,ar=>p' (ar,τ)
 |t::ts,τ,ar=>match gt t τ with|none=>none|p' τ=>match ft τ with|.ok true τ=>(match fe τ with|.ok (.t v) τ=>if ar.fg<big then Bq gt ft fe ts τ (ar++[v])else none|_=>none)|.ok false τ=>Bq gt ft fe ts τ ar|_=>none
def CG :tw:=λfs=>.ok true fs
def AW (new:uz)(wP:tE)(fi:tB)(gt:tz)(ft:tw)(fe:tm):tm:=λfs=>(fi fs).u9 λts fs =>if(Cd fs (wP.tJ λo=>o.tU Ini.no Ini.vH)).uA/\(wP.all λo=>o.tU true λj=>decide (j<fs.fg))=true then(match Bq gt ft fe ts (Bu fs (wP.tJ λo=>o.tU Ini.no Ini.vH)) []with|p' (vs,τ)=>(match B3 (wP.tJ λo=>o.tU Ini.no Ini.vH) τ fs with|p' ak=>if new=true then .ok (.nw (.tY vs)) ak else .ok (.t (.tY vs)) ak|none=>.ur)|none=>.ur)else .ur
def FIf (X:Cx)(bj:tH v7)(ft:tw):Prop:=V7 X bj (tT X.K Xp.no ft)
def SA{e}(h:V7 X e t)(i:∀U H Q,t' U H Q->t U H Q):V7 X e t':=λaa s U H Q I q=>h aa s U H Q I (i _ _ _ q)
def YG:FIf X [] CG:=SA Sz λU H Q {F,B,fs,ok,s}=>s F H true Le.uV {ok,rfl}
def YF(h:FT X Xp.no c ft):FIf X [c] ft:=Sx h
def Ul{o}(hp:F.p p):Lf F H F (vi H p o):=λa f=>{f,Ap λe=>by rw[e]at f;exact nomatch (show F.o p=_ from hp).symm.trans f}
def vN.upP{o}(h:vN K F B H fs U)(hp:F.p p):vN K F B (L2.vi H p o) fs U :=
 h.to (Ul hp) (λa j ρ z=>{z,Ap λe=>by rw[e]at z;exact nomatch (show F.o p=_ from hp).symm.trans z}) λa z=>h.td a (Bo z).2
def vN.tag(h:vN K F B H fs U)(hn:F.o p=.no)(hp:H p≠none):vN K (F.tag p t) B H fs U/\Le F H (F.tag p t) H:=by
 have ne:∀{a x},F.o a=x->x≠.no->a≠p:=λz q e=>q (by rw[<- z,e,hn])
 have l:Le F H (F.tag p t) H:={λa f=>{(Br (ne f nofun)).trans f,rfl},λa f=>{(Br (ne f nofun)).trans f,rfl} }
 exact{h.to l.f (λa j ρ z=>{(Br (ne z nofun)).trans z,rfl}) λa z=>(Br λe=>hp (by rwa[<- e])).trans (h.td a z),l}
variable{N:List Str}{sc:Scope}{tg au bB:Expr}{bj:List Expr}{fi:tB}{gt:tz}{ft:tw}{fe:tm}
inductive CI(K:Fg)(W:Wd)(H1:Hp)(D:tV)(Bc:tD)(gt:tz)(ft:tw)(fe:tm)(r:tH T×FS)(l:tH T)(bp:St)(H2:Hp):Prop
 |mk (F2:Wd) (τ:FS) (ar:tH T) (ys:tH V) (l2:Le W H1 F2 H2) (pD:F2.p D) (aL:vN K F2 Bc H2 τ bp) (eE:H2 D=p' (.tY ys)) (cM:Ai K F2 H2 ar ys) (ec:Bq gt ft fe l τ ar=p' r):CI K W H1 D Bc gt ft fe r l bp H2
def CI.put{r}(nP:¬W.p D)(gC:Le W H1 F6 H6)(p6:F6.p D)(o6:vN K F6 Bc H6 τ3 bp)(gK:Ai K F6 H6 ar ys)(rv:AK K F6 H6 v y)
  (aW:Bq gt ft fe l τ3 (ar++[v])=p' r):CI K W H1 D Bc gt ft fe r l bp (vi H6 D (.tY (ys++[y]))) :=
 .mk F6 τ3 (ar++[v]) (ys++[y]) {λa f=>{(gC.f a f).1,(Ul p6 a (gC.f a f).1).2.trans (gC.f a f).2},λa f=>{(gC.p a f).1,(Ap λe=>nP (by rwa[<- e])).trans (gC.p a f).2} }
  p6 (o6.upP p6) Aq (Ai.lf (Ul p6) (gK.app (Ai.one rv))) aW
def CI.one{gt}{r}(nP:¬W.p D)(hJ:Le W H1 F5 H5)(p5:F5.p D)(hZ:vN K F5 Bc H5 bM bp)(kJ:H5 D=p' (.tY ys))(eQ:Ai K F5 H5 ar ys)
  (aW:(match fe bM with|.ok (.t v) τ=>if ar.fg<big then Bq gt ft fe l τ (ar++[v])else none|_=>none)=p' r) :
  tF K Xp.no fe bp H5 λy H6=>∃ys,H6 D=p' (.tY ys)/\ys.fg<t9/\CI K W H1 D Bc gt ft fe r l bp (vi H6 D (.tY (ys++[y]))):=by
 refine{F5,Bc,bM,hZ,?_};cases ee:fe bM with
 |wy c τ3=>rw[ee]at aW;cases aW
 |ur=>rw[ee]at aW;cases aW
 |ok w τ3 =>
  rw[ee]at aW;cases w with
  |nw o=>cases aW
  |x o=>cases aW
  |t v =>
   dsimp only at aW;by_cases hlen:ar.fg<big
   .rw[tW hlen]at aW;intro F6 H6 y l6 q6;have p6:=l6.p D p5;exact{ys,p6.2.trans kJ,by rw[eQ.wv];exact p8 hlen Fi,CI.put nP (hJ.trans l6) p6.1 q6.1 (eQ.le l6) q6.2 aW}
   .rw[ug hlen]at aW;cases aW
def CI.turn{r}{x}(nP:¬W.p D)(l2:Le W H1 F3 H3)(pD:F3.p D)(aL:vN K F3 Bc H3 τ bp)(eE:H3 D=p' (.tY ys))(cM:Ai K F3 H3 ar ys)
  (aW:Bq gt ft fe (t::l) τ ar=p' r) (rx:AK K F3 H3 t x) :
  tG K gt x bp H3 λbM H4=>tT K Xp.no ft bM H4 λb H5=>if b=true then tF K Xp.no fe bM H5 λy H6=>∃ys,H6 D=p' (.tY ys)/\ys.fg<t9/\CI K W H1 D Bc gt ft fe r l bM (vi H6 D (.tY (ys++[y])))else CI K W H1 D Bc gt ft fe r l bM H5:=by
 simp![Bq]at aW;refine{F3,Bc,τ,t,aL,rx,?_};cases eg:gt t τ with|none=>rw[eg]at aW;cases aW|p' fB =>rw[eg]at aW;intro F4 H4 j7 l4 dr;refine{F4,Bc,fB,dr,?_};dsimp only at aW;cases et:ft fB with|wy c bM=>rw[et]at aW;cases aW|ur=>rw[et]at aW;cases aW|ok b bM =>rw[et]at aW;intro F5 H5 b' l5 q5;let{hZ,rfl}:=q5;have p4:=l4.p D pD;have p5:=l5.p D p4.1;have h5:=(p5.2.trans p4.2).trans eE;have hJ:=(l2.trans l4).trans l5;have r5:=(cM.le l4).le l5;cases b' with|false =>exact .mk F5 bM ar ys hJ p5.1 hZ h5 r5 aW|true =>exact CI.one nP hJ p5.1 hZ h5 r5 aW
def Zl(ok:vN K F B H fs U)(cW:(wP.all λo=>o.tU true λj=>decide (j<fs.fg))=true)(k:tQ)(i:Ini)(v:tL V)(e1:(wP.tJ λo=>o.tU Ini.no Ini.vH)[k]?=p' i)(e2:(Fw U wP)[k]?=p' v):UI K F H U k i v:=by unfold Fw at e2;rw[oq,n8]at e1 e2;let{o,eo,rfl}:=e1;let{o',jq,rfl}:=e2;rw[eo]at jq;cases jq;cases o with|none=>exact trivial|p' j =>show U[j]?=p' ((U[j]?).join);rw[nX (by rw[ok.ln];exact oy (pH.mp cW _ (pJ eo)))];rfl
meta def VY(h:tF K Z (AW new wP fi gt ft fe) U H Q):WB wP (tI K Z fi) (tG K gt) (tT K Xp.no ft) (tF K Xp.no fe) U H Q:=by
 let{F,B,fs,ok,s}:=h;refine{F,B,fs,ok,As s λts ae F1 H1 J l q s1=>?_};let{av,jk}:=q;split at s1
 .rename_i di;have hi:=Zl av di.2;have p2:=av.lend (by unfold Fw;simp) hi di.1;split at s1
  .rename_i vs j5 ec;split at s1
   .rename_i ak eb;intro D hD;have nP:¬(F1.lend ae (wP.tJ λo=>o.tU Ini.no Ini.vH)).p D:=λz=>nomatch (p2.td D hD).symm.trans z
    refine{λi m bp H2=>m=ts.fg-i/\CI K (F1.lend ae (wP.tJ λo=>o.tU Ini.no Ini.vH)) H1 D (Bof (Fw U wP)) gt ft fe (vs,j5) (ts.drop i) bp H2,{ts.fg,rfl,.mk _ _ [] [] (p2.Ea hD) Bh (p2.alloc hD) Aq rfl ec},λi m bp H2 hc=>?_};let{rfl,F2,τ,ar,ys,l2,pD,aL,eE,cM,aW}:=hc;have jI:=(jk.within λa f=>(EN (H:=H1) a f).1) F2 H2 l2.f {_,_,_,aL} i;by_cases hit:i<ts.fg
    .have ei:=nX hit;rw[pR hit]at aW;let{j1,j2}:=jI.1 _ ei;refine .uK {j1,CI K _ H1 D (Bof (Fw U wP)) gt ft fe (vs,j5) (ts.drop (i+1)),λj6 H' h=>{ts.fg-(i+1),by lia,rfl,h},λx H3 hy=>?_};let{F3,{dX,nw},rx}:=j2 x H3 hy;exact CI.turn nP (l2.trans dX) (dX.p D pD).1 (nw _ _ _ aL) ((dX.p D pD).2.trans eE) (cM.le dX) aW rx
    .refine .uW {jI.2 (by lia),?_};rw[tH.drop_eq_nil_of_le (by lia)]at aW;cases (aW);have o3:=av.back hi l2 aL eb;have nb:(F1.back ae (wP.tJ λo=>o.tU Ini.no Ini.vH) F2).o D=.no:=by have:F2.o D=.cl:=pD;simp![Wd.back,nP,this];rfl
     cases new with|true =>let{o4,l4}:=o3.tag nb (by rw[eE];nofun);exact s1 _ H2 (.t8 D) ((CW l2).trans l4) {o4,.of rfl Bh eE ((cM.lf (Dt l2)).le l4)}|false =>let{o4,l4}:=o3.tag nb (by rw[eE];nofun);refine s1 _ H2 (.t8 D) ((CW l2).trans l4) {o4,?_};exact{D,ys,rfl,Bh,eE,(cM.lf (Dt l2)).le l4}
   .exact s1.tU
  .exact s1.tU
 .exact s1.tU
def YR(new:uz)(N:tH tO)(wP:tE)(aJ:X.calm=true)(hi:FI X Z tg au fi)(hg:∀cl C s H fp,GT (Bz X N sc cl C s H fp) tg gt)(ht:∀cl C s H fp,FIf (Bz X N sc cl C s H fp) bj ft)
  (he:∀cl C s H fp,FE (Bz X N sc cl C s H fp) Xp.no bB fe) (hS:Fh X.uh.uR sc=true:=by rfl) (aU:Ei X.N sc N wP=true:=by rfl)
  (hs:Zfs X.uh au:=by intro _;rfl):FE X Z (.ListComp bB [{tg,au,bj,0}] sc uG) (AW new wP fi gt ft fe) :=
 AH (Xg (g:=tG X.K gt) (tt:=tT X.K Xp.no ft) (te:=tF X.K Xp.no fe) N wP aJ hi hg ht he hS aU hs) λ_ _ _ h=>VY h
def NO(new:uz)(i:tQ)(N:tH tO)(wP:tE)(aJ:X.calm=true)(hN:X.N.uA)(hy:Loc X.uh.uR y)(hi:FI X Z tg au fi)(hg:∀cl C s H fp,GT (Bz X N sc cl C s H fp) tg gt)(ht:∀cl C s H fp,FIf (Bz X N sc cl C s H fp) bj ft)
  (he:∀cl C s H fp,FE (Bz X N sc cl C s H fp) Xp.no bB fe) (fY:X.N[i]?=p' y:=by rfl) (hS:Fh X.uh.uR sc=true:=by rfl) (aU:Ei X.N sc N wP=true:=by rfl)
  (hs:Zfs X.uh au:=by intro _;rfl) (gq:swapsWith (.ListComp bB [{tg,au,bj,0}] sc uG) (p' (.uE y aI)) cc.line X.uh=wx true:=by rfl)
  (hf:X.fn y=true\/X.uh.uR.uq.t7 y=p' .local:=by first|exact .uW rfl|exact .uK rfl|assumption) :
  GS X Z (.Assign [.uE y aI] (.ListComp bB [{tg,au,bj,0}] sc uG) cc) (Av i (AW new wP fi gt ft fe)) :=
 BS (NB (g:=tG X.K gt) (tt:=tT X.K Xp.no ft) (te:=tF X.K Xp.no fe) N wP aJ hN fY hy hi hg ht he hS aU hs gq hf) λ_ _ _ s=>VY (JaB s)
end Lake.FL
namespace Lake.FL
open PySem PySem.Spec L2
def orG (g g':tj):tj:=λx y fs=>match g x y fs with|.ur=>g' x y fs|o=>o
def OpF.or(h:OpF K Z r g)(h':OpF K Z r' g'):OpF K Z (orR r r') (orG g g'):=by intro F B H U fs x y u w Q ok rx ry s;unfold orG at s;cases e:g x y fs with|ok a t=>rw[e]at s;exact .uW (h F B H U fs x y u w Q ok rx ry (by rw[e];exact s))|wy c t=>rw[e]at s;exact .uW (h F B H U fs x y u w Q ok rx ry (by rw[e];exact s))|ur=>rw[e]at s;exact .uK (h' F B H U fs x y u w Q ok rx ry s)
def orC (g g':tH Rv->tm):tH Rv->tm:=λx fs=>match g x fs with|.ur=>g' x fs|o=>o
def Cn.or(h:Cn K Z r g)(h':Cn K Z r' g'):Cn K Z (Vo r r') (orC g g'):=by intro F B H U fs x u Q ok rx s;unfold orC at s;cases e:g x fs with|ok a t=>rw[e]at s;exact .uW (h F B H U fs x u Q ok rx (by rw[e];exact s))|wy c t=>rw[e]at s;exact .uW (h F B H U fs x u Q ok rx (by rw[e];exact s))|ur=>rw[e]at s;exact .uK (h' F B H U fs x u Q ok rx s)
def exL (fs:FS):Rv->tL (tH T)
 |.t (.tY ts)=>p' ts
 |.x i=>match Ax fs i with|p' (.tY ts)=>p' ts|_=>none
 |_=>none
meta def VR(h:vN K F B H fs U)(r:CQ K F H U x u)(e:exL fs x=p' ts):∃a vs,u=.t8 a/\H a=p' (.tY vs)/\Ai K F H ts vs:=by
 unfold exL at e;split at e
 .cases e;let{a,vs,e,f,s,q}:=r;exact{a,vs,e,s,q}
 .rename_i i;split at e
  next bE eo=>cases e;let{a,vs,e,_,s,q}:=(h.at r eo).vals rfl;exact{a,vs,e,s,q}
  .cases e
 .cases e
def NR :tj:=λx y fs=>match exL fs x,exL fs y with|p' ts,p' us=>if ts.fg+us.fg<=big then .ok (.nw (.tY (ts++us))) fs else .ur|_,_=>.ur
def QE :tj
 |.t (.uj ts),.t (.uj us),fs=>if ts≠[]/\ts.fg+us.fg<=big then okT (.uj (ts++us)) fs else .ur
 |_,_,_=>.ur
variable{K:Fg}{Z:Xp}
meta def XC:OpF K Z rCat NR:=by
 intro F B H U fs x y u w Q ok rx ry s;unfold NR at s;split at s
 .rename_i ts us e1 e2;split at s
  next hl=>let{a,vs,rfl,hs,r}:=VR ok rx e1;let{b,ws,rfl,bh,r2}:=VR ok ry e2;exact{a,b,vs,ws,rfl,rfl,hs,bh,by rw[r.wv,r2.wv];exact oo hl DI,λp hp=>Ce ok hp s rfl rfl (r.app r2)}
  .exact s.tU
 .exact s.tU
meta def XB:OpF K Z (JaM K) QE:=by
 intro F B H U fs x y u w Q ok rx ry s;unfold QE at s;split at s
 .rename_i ts us;split at s
  .rename_i hl;let{a,vs,rfl,hs,r}:=BG rx rfl;let{b,ws,rfl,bh,r2}:=BG ry rfl;refine{a,b,vs,ws,rfl,rfl,hs,bh,λz=>hl.1 ?_,by rw[r.wv,r2.wv];exact oo hl.2 DI,λz=>?_,λ_ p hp=>Hs ok hp s (DL ok hp (r.app r2))}
   .have:=r.wv;rw[z]at this;exact qz this.symm
   .have e:=by have:=r2.wv;rw[z]at this;exact qz this.symm
    subst e;rw[oJ]at s;exact s F H _ Le.uV (RR.of ok rx)
  .exact s.tU
 .exact s.tU
def QD :tj
 |.t (.uj []),.t (.uj us),fs=>okT (.uj us) fs
 |_,_,_=>.ur
meta def SU:OpF K Z (U6 K) QD:=by
 intro F B H U fs x y u w Q ok rx ry s;unfold QD at s;split at s
 next us=>let{a,vs,rfl,hs,r}:=BG rx rfl;let{b,ws,rfl,bh,r2}:=BG ry rfl;subst(by simpa using r);exact{a,b,ws,rfl,rfl,hs,bh,s F H _ Le.uV (RR.of ok ry)}
 .exact s.tU
meta def XA:OpF K Z JaL JZ:=by
 intro F B H U fs x y u w Q ok rx ry s;unfold JZ at s;split at s
 .split at s
  .rename_i t e;let{a,o',rfl,hd,h}:=QV ok rx ry e;rcases h with⟨h1,_⟩|⟨t',v,h1,h2,h3⟩
   .cases h1
   .cases h1;subst h2;exact{a,v,rfl,hd,s F H v Le.uV (RR.of ok h3)}
  .exact s.tU
 .exact s.tU
meta def PD(neg:uz):OpF K Z (rDIn neg) (Yv neg):=by
 intro F B H U fs y x w u Q ok ry rx s;unfold Yv at s;split at s
 .split at s
  .rename_i t e;let{a,o',rfl,hd,h}:=QV ok rx ry e;refine{a,o',rfl,hd,?_};have:o'.u8=t.u8:=by
    rcases h with⟨h1,h2⟩|⟨t',v,h1,h2,h3⟩
    .rw[h1,h2];rfl
    .rw[h1,h2];rfl
   rw[this];exact s F H _ Le.uV (RR.of ok rfl)
  .exact s.tU
 .exact s.tU
def AG :=orG gAdd (orG TL (orG NR (orG QE QD)))
def BH :=orG ZJ TJ
def Aw :=orG gIx JZ
def Dh (neg:uz):=orG (Yv neg) (orG (JY neg) (gIn neg))
def TK :tH Rv->tm
 | [.t (.v ks _)],fs=>okT (.tS ks.fg) fs
 | [.x i],fs=>match Ax fs i with|p' (.v ks _)=>okT (.tS ks.fg) fs|_=>.ur
 |_,_=>.ur
def AI :=orC Yt (orC Lh TK)
def Dx :=orC Ys Qz
meta def Zf:Cn K Z (λxs H Q=>∃a ag,xs=[V.t8 a]/\Rd H a (.v ag)/\Q (.tS ag.fg) H) TK:=by
 intro F B H U fs rs vs Q ok q s;cases rs with
 |vO=>exact s.tU
 |ux r rs =>
  cases r with
  |nw=>exact s.tU
  |t t =>
   cases t with
   |v ks ts =>
    cases rs with
    |vO =>
     let{v,rfl,qq}:=Bi q;simp![CQ,AK]at qq;let{a,ag,rfl,f,hd,rfl,r}:=qq
     change sat Z B (RR K B U) F H (okT (.tS (ag.tJ (·.1)).fg) fs) Q at s
     rw[nU]at s;exact{a,ag,rfl,hd,s F H _ Le.uV (RR.of ok rfl)}
    |_=>exact s.tU
   |_=>exact s.tU
  |x i =>
   cases rs with
   |vO =>
    let{v,rfl,qq}:=Bi q
    change sat Z B (RR K B U) F H (match Ax fs i with|p' (.v ks _)=>okT (.tS ks.fg) fs|_=>.ur) Q at s
    split at s
    next eo=>let{a,_,rfl,_,{ag,hd,rfl,_},_}:=(ok.at qq eo).vals rfl;rw[nU]at s;exact{a,ag,rfl,.uW hd,s F H _ Le.uV (RR.of ok rfl)}
    .exact s.tU
   |_=>exact s.tU
variable{X:Cx}{a b:Expr}{fa fb:tm}{pos:Pos}
def fe_add(ha:FE X Z a fa)(hb:FE X Z b fb):FE X Z (.BinOp a .Add b uG) (Ag AG fa fb) :=
 NS (OpF.or Jbz (OpF.or XD (OpF.or XC (OpF.or XB SU)))) (OpR.orR Jbr (OpR.orR ND (OpR.orR Jbq (OpR.orR Xt SR)))) ha hb
def fe_sub(ha:FE X Z a fa)(hb:FE X Z b fb):FE X Z (.BinOp a .Sub b uG) (Ag Dw fa fb):=NS Jbt Jbl ha hb
def fe_mul(ha:FE X Z a fa)(hb:FE X Z b fb):FE X Z (.BinOp a .Mult b uG) (Ag BH fa fb):=NS (OpF.or Jbv Xx) (OpR.orR Xq Px) ha hb
def fe_mod(ha:FE X Z a fa)(hb:FE X Z b fb):FE X Z (.BinOp a .Mod b uG) (Ag B5 fa fb):=NS Jbw Jbn ha hb
def fe_div(ha:FE X Z a fa)(hb:FE X Z b fb):FE X Z (.BinOp a .FloorDiv b uG) (Ag EU fa fb):=NS Jby Xr ha hb
def fe_sx(hu:X.A.vF+1<wc)(ha:FE X Z a fa)(hb:FE X Z b fb)(hs:Jg b):FE X Z (.vz a b uG) (Ag Aw fa fb):=fe_ix (OpF.or of_ix XA) (IxR.orR JbX (Yc hu)) ha hb hs
def fe_eq(ha:FE X Z a fa)(hb:FE X Z b fb):FE X Z (.vW a [.Eq] [b] uG) (Ag (gEq false) fa fb):=J2 of_eq Xs ha hb (Cf _)
def ft_eq(ha:FE X Z a fa)(hb:FE X Z b fb):FT X Z (.vW a [.Eq] [b] uG) (wk (Ag (gEq false) fa fb)):=Cr of_eq Xs ha hb (Cf _)
def ft_ne(ha:FE X Z a fa)(hb:FE X Z b fb):FT X Z (.vW a [.NotEq] [b] uG) (wk (Ag (gEq true) fa fb)):=Cr of_ne op_ne ha hb (Cf _)
def ft_lt(ha:FE X Z a fa)(hb:FE X Z b fb):FT X Z (.vW a [.Lt] [b] uG) (wk (Ag gLt fa fb)):=Cr of_lt Jbo ha hb (Cf _)
def ft_le(ha:FE X Z a fa)(hb:FE X Z b fb):FT X Z (.vW a [.LtE] [b] uG) (wk (Ag gLe fa fb)):=Cr of_le SQ ha hb (Cf _)
def ft_gt(ha:FE X Z a fa)(hb:FE X Z b fb):FT X Z (.vW a [.Gt] [b] uG) (wk (Ag gGt fa fb)):=Cr of_gt op_gt ha hb (Cf _)
def ft_ge(ha:FE X Z a fa)(hb:FE X Z b fb):FT X Z (.vW a [.GtE] [b] uG) (wk (Ag gGe fa fb)):=Cr of_ge op_ge ha hb (Cf _)
def fe_in(hu:X.A.vF+1<wc)(ha:FE X Z a fa)(hb:FE X Z b fb)(hm:behindInMarks .In b=false:=by rfl):FE X Z (.vW a [.In] [b] uG) (Ag (Dh false) fa fb) :=
 J2 (OpF.or (PD false) (OpF.or Mj (Xy false))) (OpR.orR (Vr hu) (OpR.orR JK JL)) ha hb hm
def ft_in(hu:X.A.vF+1<wc)(ha:FE X Z a fa)(hb:FE X Z b fb)(hm:behindInMarks .In b=false:=by rfl):FT X Z (.vW a [.In] [b] uG) (wk (Ag (Dh false) fa fb)) :=
 Cr (OpF.or (PD false) (OpF.or Mj (Xy false))) (OpR.orR (Vr hu) (OpR.orR JK JL)) ha hb hm
def TQ(hu:X.A.vF+1<wc)(ha:FE X Z a fa)(hb:FE X Z b fb)(hm:behindInMarks .NotIn b=false:=by rfl):FT X Z (.vW a [.NotIn] [b] uG) (wk (Ag (Dh true) fa fb)) :=
 Cr (OpF.or (PD true) (OpF.or K2 (Xy true))) (OpR.orR (Py hu) (OpR.orR JI JJ)) ha hb hm
def itU (f:tm):tB:=λfs=>(f fs).bnd λr fs=>match r with|.t (.tY ts)=>.ok ts fs|.t (.n ts)=>.ok ts fs|.t (.uj ts)=>.ok ts fs|.t (.str z)=>.ok (signs z) fs|_=>.ur
def fi_seq(hl:FE X Z l f):FI X Z tg l (itU f):=by
 refine Fc (Ja6 hl) λU H Q aj => ?_
 let{F,B,fs,ok,s}:= aj;refine{F,B,fs,ok,AB s λr ae F1 H1 u l av rx s1=>?_};split at s1
 next ts=>let{a,vs,rfl,ff,hs,r}:=rx;exact .uW {a,rfl,{vs,SqL.of hs},s1 F1 H1 _ Le.uV {av,Mv (λF' H' l=>SqL.of ((l a ff).2.trans hs)) r} }
 next ts=>let{a,vs,rfl,hs,r}:=rx;exact .uW {a,rfl,{vs,hs.sq},s1 F1 H1 _ Le.uV {av,Mv (λF' H' l=>(StL.lf l hs).sq) r} }
 next ts=>let{a,vs,rfl,hs,r}:=rx;exact .uK (.uW {a,rfl,{vs,hs.sq},s1 F1 H1 _ Le.uV {av,X9 (λF' H' l=>SqT.of ((l a hs.2.1).2.trans hs.2.2)) r} })
 next z=>exact .uK (.uK {z,rx,s1 F1 H1 _ Le.uV {av,Ya} })
 .exact s1.tU
def Qw :Rv->Rv->Rv->FS->SO
 |.x i,.t (.tS k),.t t,fs=>match Ax fs i with
  |p' (.tY ts)=>match ixN ts.fg k with|p' j=>.nx (vA fs i (.tY (ts.wJ j t)))|none=>.ur
  |_=>.ur
 |_,_,_,_=>.ur
def Lg :Rv->Rv->Rv->FS->SO
 |.x i,.t y,.t t,fs=>match Ax fs i with
  |p' (.v ks ts)=>match EJ y with|p' k=>if ks.fg<big then .nx (vA fs i (.v (Fp ks ts k t).1 (Fp ks ts k t).2))else .ur|none=>.ur
  |p' (.q ks ts)=>match y with
   |.uj ys=>match Df ys with|p' k=>if ks.fg<big then .nx (vA fs i (.q (Fp ks ts k t).1 (Fp ks ts k t).2))else .ur|none=>.ur
   |_=>.ur
  |_=>.ur
 |_,_,_,_=>.ur
def Tz :Rv->Rv->Rv->FS->SO:=λo i v fs=>match Qw o i v fs with|.ur=>Lg o i v fs|s=>s
def Ba (fv fo fi:tm):FS->SO:=λfs=>SO.of ((fv fs).bnd λv fs=>(fo fs).bnd λo fs=>(fi fs).bnd λi fs=>.ok (v,o,i) fs) λ(v,o,i) fs=>Tz o i v fs
variable{B:tD}{F:Wd}{H:Hp}{U:St}{fs:FS}{D:Ends}
meta def TB(ok:vN K F B H fs U)(ro:CQ K F H U o uo)(ri:CQ K F H U i ui)(rv:CQ K F H U v uv)(s:FK K Z B F H (Qw o i v fs) D):WR uo ui uv H (λH3=>D.nx U H3):=by
 unfold Qw at s;split at s
 .rename_i i k t;split at s
  .rename_i ts e;split at s
   next j ej=>let{a,us,rfl,hs,r,kk}:=ok.list ro e;let{bF,l}:=kk (ts.wJ j t) (us.wJ j uv) (Ai.wJ rv j r);exact{a,us,k,j,rfl,ri,hs,by rw[r.wv];exact ej,s F _ U l bF}
   .exact s.tU
  .exact s.tU
 .exact s.tU
meta def TC(ok:vN K F B H fs U)(ro:CQ K F H U o uo)(ri:CQ K F H U i ui)(rv:CQ K F H U v uv)(s:FK K Z B F H (Lg o i v fs) D):WS uo ui uv H (λH3=>D.nx U H3):=by
 unfold Lg at s;split at s
 .rename_i i y t;split at s
  .rename_i ks ts e;split at s
   .rename_i k ek;split at s
    next hl=>let{a,_,rfl,f,{ag,hs,rfl,rfl},q}:=(ok.at ro e).vals rfl;have:=CS ek ri;subst this;refine{a,_,rfl,Oh.k hs (by rw[nU]at hl;exact p8 hl Fi),?_};let{h1,h2}:=FR rv q;exact s F _ U (C9 f) (ok.updV e ro f rfl {_,rfl,h1,rfl} h2)
    .exact s.tU
   .exact s.tU
  .rename_i ks ts e;split at s
   .rename_i ys;split at s
    .rename_i k ek;split at s
     next hl=>let{a,_,rfl,f,{ag,hs,rfl,rfl},q}:=(ok.at ro e).vals rfl;let{b,vs,rfl,hb,rb}:=ri;have:=Gf ek rb;subst this;refine{a,_,rfl,Oh.t hs hb.2.2 (by rw[nU]at hl;exact p8 hl Fi),?_};let{h1,h2}:=FR rv q;exact s F _ U (C9 f) (ok.updV e ro f rfl {_,rfl,h1,rfl} h2)
     .exact s.tU
    .exact s.tU
   .exact s.tU
  .exact s.tU
 .exact s.tU
def Tj(hu:X.A.vF+1<wc)(he:FE X Z e fv)(ho:FE X Z o fo)(hi:FE X Z i fi)
  (h:∀{te to ti:TE}{t:TSet},PE X e te->PE X o to->PE X i ti->UH X t->PS X (.Assign [.vz o i bV] e uG) (Jau te (gSub to ti t))):GS X Z (.Assign [.vz o i bV] e uG) (Ba fv fo fi):=by
 refine BS (h he ho hi (UH.orR set_list (set_dict hu))) λD U H aj=>?_
 let{F,B,fs,ok,s}:= aj;exact{F,B,fs,ok,(by
  refine AB (BU (R:=λF' H' ak (a:Rv×Rv×Rv) (b:V×V×V)=>vN X.K F' B H' ak U/\CQ X.K F' H' U a.1 b.1/\CQ X.K F' H' U a.2.1 b.2.1/\CQ X.K F' H' U a.2.2 b.2.2) (Q:=λb H3=>Jbk WR WS b.2.1 b.2.2 b.1 H3 λH4=>D.nx U H4) s (λa ak F' H' b l q s2=>by
   let{q1,q2,q3,q4}:=q;dsimp only at s2 q2 q3 q4 ⊢;unfold Tz at s2;split at s2
   .exact .uK (TC q1 q3 q4 q2 s2)
   .exact .uW (TB q1 q3 q4 q2 s2))) λv ae F1 H1 uv l1 av rv s2=>?_
  refine{F1,B,ae,av,AB s2 λo aq F2 H2 uo l2 aL ro s3=>{F2,B,aq,aL,AB s3 λi bR F3 H3 ui l3 bC ri s4=>?_} };exact s4 F3 H3 (uv,uo,ui) Le.uV {bC,(rv.le l2).le l3,ro.le l3,ri})}
def Tp:GS X Z st (λ_=>.ur):=BS Ss λD U H {F,B,fs,ok,s}=>s.tU
def ZP :Rv->tL FO
 |.t t=>p' (.vm t)
 |.nw o=>p' o
 |.x _=>none
def Dp :tH tO->tH FO->tO->FO->tL (tH tO×tH FO)
 | [],[],f,o=>p' ([f],[o])
 |g::gs,x::os,f,o=>if g=f then(match x with|.vm _=>p' (g::gs,o::os)|_=>none)else(Dp gs os f o).tJ λp=>(g::p.1,x::p.2)
 |_,_,_,_=>none
def B0 :tH tO->tH FO->tO->FO->tH FO
 |g::gs,x::os,f,o=>if f==g then o::os else x::B0 gs os f o
 |_,os,_,_=>os
variable{F':Wd}{H':Hp}{i:Nat}{b:Bool}{π fN:List Nat}{r:Rv}{u v:V}{C a:Addr}{gs:List Str}{os:List FO}{f:Str}{o o':FO}{x:HO}
def LU:∀{ag:tH (tO×V)}{os:tH FO},A4 (ag.tJ (·.1)) os f=p' o->∃(k:tQ)(v:V),os[k]?=p' o/\(ag.tJ (·.2))[k]?=p' v/\ag.t7 f=p' v/\∀x,B0 (ag.tJ (·.1)) os f x=os.wJ k x
 | [],os,e=>by cases os<;>simp[A4]at e
 |(k,v)::ag,[],e=>by simp[A4]at e
 |(k,v)::ag,o1::os,e=>by simp![nV,A4,B0]at e ⊢;rw[pf];cases hb:f==k with|true=>rw[hb]at e;cases e;exact{0,v,rfl,rfl,rfl,λ_=>rfl}|false=>rw[hb]at e;exact let{n,w,h1,h2,h3,h4}:=LU (by simpa using e);{n+1,w,h1,h2,h3,λx=>by simp[h4 x]}
def L7:∀{ag:tH (tO×V)}{os bz:tH FO}{cO:tH tO},Dp (ag.tJ (·.1)) os f o=p' (cO,bz)->∃k:tQ,(FU f y ag).tJ (·.1)=cO/\(ag.fg=os.fg->(FU f y ag).fg=bz.fg) /\
  ∀(m:tQ)(o':FO)(v:V),bz[m]?=p' o'->((FU f y ag).tJ (·.2))[m]?=p' v->(m=k/\o'=o/\v=y)\/(os[m]?=p' o'/\(ag.tJ (·.2))[m]?=p' v)
 | [],os,bz,cO,e=>by cases os with|ux x os=>simp[Dp]at e|vO =>cases e;refine{0,rfl,λ_=>rfl,λm o' v e1 e2=>?_};cases m with|zero=>cases e1;cases e2;exact .uW {rfl,rfl,rfl}|succ m=>cases e1
 |(g,x)::ag,os,bz,cO,e=>by
  cases os with
  |vO=>simp[Dp]at e
  |ux o1 os =>
   simp![nV,Dp,FU]at e ⊢;by_cases hg:g=f
   .rw[tW hg]at e ⊢;cases o1<;>cases e;refine{0,rfl,λh=>by simpa using h,λm o' v e1 e2=>?_};cases m with|zero=>cases e1;cases e2;exact .uW {rfl,rfl,rfl}|succ m=>exact .uK {e1,e2}
   .rw[ug hg,n8]at e;rw[ug hg];let{p,ep,e}:=e;cases e;let{k,h1,h2,h3}:=L7 ep;refine{k+1,by rw[nV,h1],λh=>by simpa using h2 (by simpa using h),λm o' v e1 e2=>?_};cases m with|zero=>exact .uK {e1,e2}|succ m=>exact(h3 m o' v e1 e2).imp (λh=>{by rw[h.1],h.2}) id
def Bg.skip(f:F.o a=.j c j fN)(hn:∀ρ,¬(c=b/\j=i/\fN=ρ++π))(h:Bg K F H b i π o v):Bg K F (vi H a x) b i π o v :=
 h.mv (λa' ρ z=>{z,Ap λe=>by rw[e,f]at z;cases z;exact hn ρ {rfl,rfl,rfl} }) λa' z=>{z,Ap λe=>by rw[e]at z;exact nomatch f.symm.trans z}
def RR.store(q:RR K B U F H fs r u)(e:Ax fs i=p' (.vE C gs os))(er:ZP r=p' o)(ep:Dp gs os f o=p' p):∃a dx ag F',U[i]?=p' (p' (.t8 a))/\H a=p' (.vE C dx ag)/\ag.tJ (·.1)=gs /\
  Le F H F' (vi H a (.vE C dx (FU f u ag)))/\vN K F' B (vi H a (.vE C dx (FU f u ag))) (vA fs i (.vE C p.1 p.2)) U:=by
 let{ok,q}:=q;let{v,sv,ro}:=ok.uI e;let{a,_,rfl,fa,{dx,ag,hd,rfl,rfl},hl,rc}:=ro.inv rfl;let{k,h1,h2,h3}:=L7 ep;have f':(F.re false 0 λρ=>.j true i (ρ++[k])).o a=.j true i []:=by show reT _ _ _ (F.o a)=_;rw[fa];exact L1 (by simp)
 have l:=(Le.re (H:=H)).trans (C9 (o:=.vE C dx (FU f u ag)) f');refine{a,dx,ag,_,sv,hd,rfl,l,ok.re.vi e f' λw ew=>?_};rw[sv]at ew;cases ew;refine .nd rfl f' (by rw[Aq];exact{dx,_,rfl,h1,rfl}) (by simpa using h2 (by simpa using hl)) λm o' v e1 e2=>?_
 rcases h3 m o' v e1 e2 with⟨rfl,rfl,rfl⟩|⟨e3,e4⟩
 .cases r with|t t=>cases er;exact .vm (AK.le l q)|nw o=>cases er;exact Bg.skip f' (by simp) (Bg.mvR q)|x j=>cases er
 .exact Bg.skip f' (by simp) ((rc m o' v e3 e4).mv (λb ρ z=>{by show reT _ _ _ (F.o b)=_;rw[z];exact L1 (by simp),rfl}) Le.re.f)
def vN.fld(ok:vN K F B H fs U)(e:Ax fs i=p' (.vE C gs os))(ef:A4 gs os f=p' o):∃a dx ag v k,U[i]?=p' (p' (.t8 a))/\H a=p' (.vE C dx ag)/\ag.tJ (·.1)=gs/\ag.t7 f=p' v/\Bg K F H true i [k] o v /\
  ∀F' H' o',Lf F H F' H'->(∀b j ρ,F.o b=.j true j ρ->(∀τ,¬(j=i/\ρ=τ++[k]))->F'.o b=.j true j ρ/\H' b=H b)->(∀b,H' b=none->F'.o b=.no)->Bg K F' H' true i [k] o' v->vN K F' B H' (vA fs i (.vE C gs (B0 gs os f o'))) U:=by
 let{v,sv,ro}:=ok.uI e;let{a,_,rfl,fa,{dx,ag,hd,rfl,rfl},hl,rc}:=ro.inv rfl;let{k,v,h1,h2,h3,h4}:=LU ef;refine{a,dx,ag,v,k,sv,hd,rfl,h3,rc k o v h1 h2,λF' H' o' l hm td r=>ok.put e l (λb j ρ hj z=>hm b j ρ z λ_ q=>hj q.1) td λw ew=>?_};rw[sv]at ew;cases ew;have q:=hm a i [] fa (by simp);refine .nd rfl q.1 (by rw[q.2];exact{dx,ag,hd,rfl,rfl}) (by rw[h4,tH.length_set];exact hl) λm o1 v1 e1 e2=>?_
 rw[h4,qu]at e1;by_cases hk:k=m
 .subst hk;rw[tW rfl]at e1;split at e1
  .cases e1;rw[h2]at e2;cases e2;exact r
  .cases e1
 .rw[ug hk]at e1;exact(rc m o1 v1 e1 e2).mv (λb ρ z=>hm b i _ z λτ q=>hk (by simpa using uC tH.getLast? q.2.symm)) l
def vN.TU(ok:vN K F B H fs U)(e:Ax fs i=p' (.vE C gs os))(ef:A4 gs os f=p' o)(ev:o.vw=p' (sh,ts.tJ .vm)):∃a dx ag b vs,U[i]?=p' (p' (.t8 a))/\H a=p' (.vE C dx ag)/\ag.tJ (·.1)=gs/\ag.t7 f=p' (.t8 b)/\Has b (H b) sh vs/\Ai K F H ts vs /\
  ∀o' jc bE bH x,o'.vw=p' (jc,bE.tJ .vm)->Has b (p' x) jc bH->Ai K F H bE bH->vN K F B (L2.vi H b x) (vA fs i (.vE C gs (B0 gs os f o'))) U/\Le F H F (L2.vi H b x):=by
 let{a,dx,ag,v,k,h1,h2,h3,h4,r,bk}:=ok.fld e ef;let{b,vs,rfl,fb,hs,rt}:=r.vals ev;refine{a,dx,ag,b,vs,h1,h2,h3,h4,hs,rt,λo' jc bE bH x e1 e2 e3=>{bk F _ o' (C9 fb).f (λc j ρ z q=>{z,Ap λe=>?_}) (λc z=>ok.td c (Bo z).2) (.of e1 fb (by rwa[Aq]) (e3.le (C9 fb))),C9 fb} };rw[e,fb]at z;cases z;exact q [] {rfl,rfl}
def Ez (C:tV)(f:tO)(i:tQ)(fv:tm):FS->SO:=λfs=>SO.of (fv fs) λr fs=>match ZP r,Ax fs i with|p' o,p' (.vE C' gs os)=>if C'=C/\gs.fg<900 then(match Dp gs os f o with|p' p=>.nx (vA fs i (.vE C p.1 p.2))|none=>.ur)else .ur|_,_=>.ur
meta def Jck{x}(c:Cls X.K C)(n:AR X.K C f)(i:tQ)(he:FE X Z e fv)
  (h:∀{tv:TE},PE X e tv->PS X (.Assign [.ut (.uE x p1) f p2] e uG) (sFld X.K (KP i) tv f)):GS X Z (.Assign [.ut (.uE x p1) f p2] e uG) (Ez C f i fv):=by
 refine BS (h he) λD U H aj => ?_
 let{F,B,fs,ok,s}:= aj;refine{F,B,fs,ok,BU s λr ae F1 H1 u l q s1=>?_};split at s1
 .rename_i o C' gs os e1 e2;split at s1
  .rename_i hC;let{rfl,hl}:=hC;split at s1
   next p ep=>let{a,dx,ag,F',h1,h2,h3,l',bF}:=q.store e2 e1 ep;exact{_,h1,a,C',dx,ag,rfl,h2,c,n,by rw[<- h3,nU]at hl;lia,s1 F' _ U l' bF}
   .exact s1.tU
  .exact s1.tU
 .exact s1.tU
def Ck (C:tV)(f:tO)(i j:tQ)(fv:tm):FS->SO:=λfs=>SO.of (fv fs) λr fs=>match r with|.t t=>(match Ax fs i with|p' (.vE C' gs os)=>(match fs[j]? with|p' (p' (.vm y))=>if C'=C then(match A4 gs os f with|p' (.v ks ts)=>(match EJ y with|p' k=>if ks.fg<big then .nx (vA fs i (.vE C gs (B0 gs os f (.v (Fp ks ts k t).1 (Fp ks ts k t).2))))else .ur|none=>.ur)|_=>.ur)else .ur|_=>.ur)|_=>.ur)|_=>.ur
meta def Tr{x y:tO}{e:v7}{fv:tm}{p1 p2 p3 p4:Pos}(c:Cls X.K C)(n:AR X.K C f)(i j:tQ)(he:FE X Z e fv)
  (h:∀{tv:TE},PE X e tv->PS X (.Assign [.vz (.ut (.uE x p1) f p2) (.uE y p3) p4] e uG) (JaC (tFld X.K (KP i) f) (KP j) tv)) :
  GS X Z (.Assign [.vz (.ut (.uE x p1) f p2) (.uE y p3) p4] e uG) (Ck C f i j fv):=by
 refine BS (h he) λD U H aj => ?_
 let{F,B,fs,ok,s}:= aj;refine{F,B,fs,ok,BU s λr ae F1 H1 u l q s1=>?_};split at s1
 .rename_i t;split at s1
  .rename_i C' gs os e2;split at s1
   .rename_i y' e3;split at s1
    .rename_i hC;subst hC;split at s1
     .rename_i ks ts e4;split at s1
      .rename_i k e5;split at s1
       next hl=>let{av,rt}:=q;let{a,dx,ag,b,_,h1,h2,h3,h4,{bu,hb,rfl,rfl},rd,bk}:=av.TU e2 e4 rfl;let{uy,e6,ry}:=av.sl _ _ e3;cases CS e5 ry;let{g1,g2}:=FR (j:=k) rt rd;let{bF,l'}:=bk (.v (Fp (bu.tJ (·.1)) ts k t).1 (Fp (bu.tJ (·.1)) ts k t).2) _ _ _ (.v (putK bu k u)) rfl {_,rfl,g1,rfl} g2;exact{_,h1,a,C',dx,ag,.t8 b,rfl,h2,c,n,h4,kV k,e6,b,_,rfl,Oh.k hb (by rw[nU]at hl;exact p8 hl Fi),s1 F1 _ U l' bF}
       .exact s1.tU
      .exact s1.tU
     .exact s1.tU
    .exact s1.tU
   .exact s1.tU
  .exact s1.tU
 .exact s1.tU
variable{e:Expr}{es:List Expr}{fa:tq}{p:Pos}
def fe_len(hm:X.mg "len"=none)(ha:FA X Z (e::es) fa)(hg:Gl X "len":=by rfl)(he:Zsc X.uh e es:=by rfl)(aG:Zbt X.uh uG es:=by rfl):
  FE X Z (.vM (.uE "len" p) (e::es) [] uG) (Ad AI fa):=DR (Cn.or cf_len (Cn.or Ze Zf)) (B7.orR Kh (B7.orR Kg N0)) hm PySem.boot_len ha hg ZB ZB he aG
def YL(hm:X.mg "min"=none)(ha:FA X Z (e::es) fa)(hc:X.calm=true:=by rfl)(hg:Gl X "min":=by rfl)(he:Zsc X.uh e es:=by rfl)(aG:Zbt X.uh uG es:=by rfl):
  FE X Z (.vM (.uE "min" p) (e::es) [] uG) (Ad ET fa):=DR Zb (Q7 hc) hm boot_min ha hg ZB ZB he aG
def fe_sum(hm:X.mg "sum"=none)(ha:FA X Z (e::es) fa)(hc:X.calm=true:=by rfl)(hg:Gl X "sum":=by rfl)(he:Zsc X.uh e es:=by rfl)(aG:Zbt X.uh uG es:=by rfl):
  FE X Z (.vM (.uE "sum" p) (e::es) [] uG) (Ad Oc fa):=DR cf_sum (Ut hc) hm boot_sum ha hg ZB ZB he aG
def fe_all(hm:X.mg "all"=none)(ha:FA X Z (e::es) fa)(hc:X.calm=true:=by rfl)(hg:Gl X "all":=by rfl)(he:Zsc X.uh e es:=by rfl)(aG:Zbt X.uh uG es:=by rfl):
  FE X Z (.vM (.uE "all" p) (e::es) [] uG) (Ad ZL fa):=DR cf_all (Ux hc) hm boot_all ha hg ZB ZB he aG
def YO(hm:X.mg "list"=none)(ha:FA X Z (e::es) fa)(hc:X.calm=true:=by rfl)(hg:Gl X "list":=by rfl)(he:Zsc X.uh e es:=by rfl)(aG:Zbt X.uh uG es:=by rfl):
  FE X Z (.vM (.uE "list" p) (e::es) [] uG) (Ad Dx fa):=EA (Cn.or Zc Uq) (B7.orR Kf (GW hc)) hm boot_list ha hg ZB ZB he aG
def TX(hm:X.mg "tuple"=none)(ha:FA X Z (e::es) fa)(hg:Gl X "tuple":=by rfl)(he:Zsc X.uh e es:=by rfl)(aG:Zbt X.uh uG es:=by rfl):
  FE X Z (.vM (.uE "tuple" p) (e::es) [] uG) (Ad BK fa):=EA Uo IX hm boot_tuple ha hg ZB ZB he aG
def YQ(hm:X.mg "int"=none)(ha:FA X Z (e::es) fa)(hg:Gl X "int":=by rfl)(he:Zsc X.uh e es:=by rfl)(aG:Zbt X.uh uG es:=by rfl):
  FE X Z (.vM (.uE "int" p) (e::es) [] uG) (Ad QA fa):=EA Zh Q8 hm boot_int ha hg ZB ZB he aG
def ZD (f:tm):tm:=λfs=>(f fs).bnd λr fs=>match BD fs r with|p' ts=>.ok (.nw (.tY ts.vn)) fs|none=>.ur
def NU{a:v7}{f:tm}{p1 p2 bo aP:Pos}(hc:X.calm=true)(dQ:X.mg "list"=none)(cI:X.mg "reversed"=none)(ha:FE X Z a f)(dJ:Gl X "list":=by rfl)(cH:Gl X "reversed":=by rfl)
  (he:vD [(.vM (.uE "reversed" p2) [a] [] aP:v7)] X.uh=[(false,wD (.vM (.uE "reversed" p2) [a] [] aP) X.uh)]:=by rfl) (df:Zs1 X.uh a:=by rfl) :
  FE X Z (.vM (.uE "list" p1) [.vM (.uE "reversed" p2) [a] [] aP] [] bo) (ZD f):=by
 refine AH (JG (x:="") (p:=p1) hc dQ (Vh cI ha cH df) {ZB,ZB} dJ he) λU H Q aj => ?_
 let{F,B,fs,ok,s}:= aj;refine{F,B,fs,ok,AB s λr ae F1 H1 u l av rx s1=>?_};split at s1
 next ts fS=>let{a,vs,rfl,hs,q}:=Bb av rx fS;exact{a,vs,rfl,hs,Zn,λd hd=>JaJ hs hd (Ce av hd s1 rfl rfl q.rev)}
 .exact s1.tU
def XJ (f:tm):tm:=λfs=>(f fs).bnd λr fs=>match r with|.t (.tS i)=>okT (.tS (-i)) fs|_=>.ur
def fe_neg{a}{f}(ha:FE X Z a f):FE X Z (.UnaryOp .USub a uG) (XJ f):=by
 refine AH (pe_un Jad ha) λU H Q aj => ?_
 let{F,B,fs,ok,s}:= aj;refine{F,B,fs,ok,AB s λr ae F1 H1 u l av rx s1=>?_};split at s1
 .exact{_,rx,s1 F1 H1 _ Le.uV (RR.of av rfl)}
 .exact s1.tU
def ZI :=gI λi j fs=>if 0<=j/\j<=1000000/\i.natAbs<2^64 then okT (.tS (i^j.uw)) fs else .ur
def Jbu:OpF K Z (rI CPow λi j=>.tS (i^j.uw)) ZI:=SN (t:=λi j=>.tS (i^j.uw)) (λ_ _ _ _ _=>rfl) λi j fs=>by
 by_cases h:0<=j/\j<=1000000/\i.natAbs<2^64
 .exact .uK {h,tW h}
 .exact .uW (ug h)
def fe_pow{a b:v7}{fa:tm}(ha:FE X Z a fa)(hb:FE X Z b fb):FE X Z (.BinOp a .Pow b uG) (Ag ZI fa fb):=NS Jbu Jbm ha hb
def RP (K:Fg)(B:tD)(U:St):Wd->Hp->FS->tL tN->tL tN->Prop:=λF H fs a b=>vN K F B H fs U/\b=a
inductive tP(K:Fg)(Z:Xp)(f:FS->Out (tL tN))(U:St)(H:Hp)(Q:tL tN->Hp->Prop):Prop
 |mk (F:Wd) (B:tD) (fs:FS) (h0:vN K F B H fs U) (h1:sat Z B (RP K B U) F H (f fs) Q)
def FP (X:Cx)(Z:Xp)(e:tL v7)(f:FS->Out (tL tN)):Prop:=PO X e (tP X.K Z f)
def Vd{e:tL v7}(h:PO X e t)(i:∀U H Q,t' U H Q->t U H Q):PO X e t':=λaa s U H Q I q=>h aa s U H Q I (i _ _ _ q)
def noP :FS->Out (tL tN):=λfs=>.ok none fs
def B9 (f:tm):FS->Out (tL tN):=λfs=>(f fs).bnd λr fs=>match r with|.t (.tS i)=>.ok (p' i) fs|_=>.ur
def Lo (ts:tH T)(lo hi:tL tN):tH T:=(ts.drop (HT.sIx ts.fg 0 lo)).uB (HT.sIx ts.fg ts.fg hi-HT.sIx ts.fg 0 lo)
def IQ(r:Ai K F H ts vs):Ai K F H (Lo ts lo hi) (Y7 vs lo hi):=by unfold Lo Y7;rw[r.wv];exact(r.drop _).uB _
def Ky :Rv->tL tN->tL tN->tm:=λx lo hi fs=>match BD fs x with|p' ts=>okT (.tY (Lo ts lo hi)) fs|none=>match x with|.t (.uj ts)=>okT (.uj (Lo ts lo hi)) fs|_=>.ur
def slF (f:tm)(l h:FS->Out (tL tN)):tm:=λfs=>(f fs).bnd λx fs=>(l fs).u9 λlo fs=>(h fs).u9 λhi fs=>Ky x lo hi fs
variable{lo hi:Option Expr}{f:tm}{l h:FS->Out (Option Int)}{p2:Pos}
def YE:FP X Z none noP:=Vd W7 λU H Q {F,B,fs,ok,s}=>s F H none Le.uV {ok,rfl}
def YD(he:FE X Z e f):FP X Z (p' e) (B9 f):=by
 refine Vd (W6 he) λU H Q aj => ?_
 let{F,B,fs,ok,s}:= aj;refine{F,B,fs,ok,AB s λr ae F1 H1 u l av rx s1=>?_};split at s1
 .exact{_,rx,s1 F1 H1 _ Le.uV {av,rfl} }
 .exact s1.tU
meta def fe_sl(he:FE X Z e f)(hl:FP X Z lo l)(hu:FP X Z hi h):FE X Z (.vz e (.Slice lo hi none p2) uG) (slF f l h):=by
 refine AH (Md (SlR.or OJ (SlR.or Jaz JaA)) he hl hu) λU H Q aj => ?_
 let{F,B,fs,ok,s}:= aj;refine{F,B,fs,ok,AB s λx ae F1 H1 u l1 av rx s1=>{F1,B,ae,av,As s1 λlo aq F2 H2 i7 l2 q2 s2=>?_} };let{aL,rfl}:=q2;refine{F2,B,aq,aL,As s2 λhi bR F3 H3 b7 l3 q3 s3=>?_};let{bC,rfl}:=q3;have gL:=(rx.le l2).le l3;unfold Ky at s3;split at s3
 next ts e=>let{a,vs,rfl,hs,r}:=Bb bC gL e;exact .uW {a,vs,rfl,hs,λp hp=>Hs bC hp s3 (Ht bC hp (IQ r))}
 .split at s3
  .rename_i ts _;let{a,vs,rfl,hs,r}:=BG gL rfl;by_cases hw:HT.sIx ts.fg 0 i7=0/\HT.sIx ts.fg ts.fg b7=ts.fg
   .refine .uK (.uK {a,vs,rfl,hs,by rw[r.wv];exact hw,s3 F3 H3 _ Le.uV (RR.of bC ?_)});have e:Lo ts i7 b7=ts:=by unfold Lo;rw[hw.1,hw.2];simp
    rw[e];exact gL
   .exact .uK (.uW {a,vs,rfl,hs,by rw[r.wv];exact hw,λp hp=>Hs bC hp s3 (DL bC hp (IQ r))})
  .exact s3.tU
def KY :T->tL (tH T)
 |.tY ts=>p' ts
 |.n ts=>p' ts
 |.uj ts=>p' ts
 |_=>none
def v6 :tH T->tH T->tH T
 |x::xs,y::ys=>.uj [x,y]::v6 xs ys
 |_,_=>[]
def pairs_at:∀{xs ys:tH T}{i:tQ}{t:T},(v6 xs ys)[i]?=p' t->∃x y,xs[i]?=p' x/\ys[i]?=p' y/\t=.uj [x,y]
 | [],_,i,t,h=>by simp[v6]at h
 |_::_,[],i,t,h=>by simp[v6]at h
 |x::xs,y::ys,0,t,h=>by simp![v6,qK,tL.p'.injEq]at h;exact{x,y,rfl,rfl,h.symm}
 |x::xs,y::ys,i+1,t,h=>by simp![v6]at h;simpa using pairs_at h
def pairs_len:∀{xs ys:tH T}{i:tQ},(v6 xs ys).fg<=i->xs.fg<=i\/ys.fg<=i
 | [],_,i,h=>.uW (by simp)
 |_::_,[],i,h=>.uK (by simp)
 |x::xs,y::ys,0,h=>by simp[v6]at h
 |x::xs,y::ys,i+1,h=>by simp![v6,om,tQ.add_le_add_iff_right]at h;simpa using pairs_len h
def HY(r:AK K F H t u)(e:KY t=p' ts):∃b a vs,u=.t8 a/\Ai K F H ts vs/\∀(F':Wd)(H':Hp),(∀a,F a->F' a/\H' a=H a)->SqB b K H' a vs:=by
 unfold KY at e;split at e
 .cases e;let{a,vs,rfl,f,hs,r}:=r;exact{false,a,vs,rfl,r,λF' H' l=>SqL.of ((l a f).2.trans hs)}
 .cases e;let{a,vs,rfl,hs,r}:=r;exact{false,a,vs,rfl,r,λF' H' l=>(StL.lf l hs).sq}
 .cases e;let{a,vs,rfl,hs,r}:=r;exact{true,a,vs,rfl,r,λF' H' l=>SqT.of ((l a hs.2.1).2.trans hs.2.2)}
 .cases e
def itZ (f g:tm):tB:=λfs=>(f fs).bnd λr fs=>(g fs).bnd λr' fs=>match r,r' with
 |.t x,.t y=>match KY x,KY y with|p' xs,p' ys=>.ok (v6 xs ys) fs|_,_=>.ur
 |_,_=>.ur
def Qd(h1:∀(F':Wd)(H':Hp),(∀a,F a->F' a/\H' a=H a)->SqB b1 K H' a1 vs)(h2:∀(F':Wd)(H':Hp),(∀a,F a->F' a/\H' a=H a)->SqB b2 K H' a2 ws)
  (r1:Ai K F H xs vs) (r2:Ai K F H ys ws):JOk K F H (Itz K b1 a1 b2 a2) (v6 xs ys):=by
 intro F' H' l {B,fs,U,ok} i;refine{λt et=>?_,λhl=>{vs,ws,h1 F' H' l,h2 F' H' l,by rw[r1.wv,r2.wv];exact pairs_len hl} };let{x,y,ex,ey,rfl}:=pairs_at et;let{v,ev,rv}:=(Ai.lf l r1).at ex;let{w,ew,bU}:=(Ai.lf l r2).at ey;refine{ {vs,ws,v,w,h1 F' H' l,h2 F' H' l,ev,ew},λz cB hy=>?_};let{T,vx,vy,hn,rfl,rfl,g1,g2}:=hy;have e1:=g1 vs (h1 F' H' l);have e2:=g2 ws (h2 F' H' l);rw[ev]at e1;rw[ew]at e2;cases e1;cases e2;refine{F'.tag T .fz,{ok.Ea hn,λB fs U k=>k.alloc hn},?_};exact{T,[v,w],rfl,{rfl,Bh,Aq},by exact{v,[w],rfl,rv.le (ok.Ea hn),w,[],rfl,bU.le (ok.Ea hn),rfl} }
def Ff:∀{xs ys:tH T},(v6 xs ys).fg=min xs.fg ys.fg
 | [],_=>by simp[v6]
 |_::_,[]=>by simp[v6]
 |x::xs,y::ys=>by
  simp![v6,om,Ff]
  lia
variable{S:Addr}{J:It}{ts:List T}{Q:VK}{put:Put}
def JbZ(P:tQ->HO->Wd->Hp->Prop)(ok:vN K F B H fs U)(hS:H S=none)(jk:JOk K F H J ts)(s:sat Z B (RR K B U) F H (.ok (.nw ob) fs) Q)(h0:P 0 o0 (F.tag S .cl) (vi H S o0))
  (hm:∀{i o F1 H1 F2 H2},Lf F1 H1 F2 H2->P i o F1 H1->P i o F2 H2) (hp:∀i t x F3 H3 o,ts[i]?=p' t->AK K F3 H3 t x->P i o F3 H3->H3 S=p' o->put i x H3 λo'=>P (i+1) o' F3 H3)
  (he:∀o F' H',P ts.fg o F' H'->H' S=p' o->F'.o S=.j false 0 []->Bg K F' H' false 0 [] ob (.t8 S)) (pm:∀{i x H q q'},(∀o,q o->q' o)->put i x H q->put i x H q'):ItW J S put (Q (.t8 S)) (vi H S o0):=by
 refine{λi m H2=>m=ts.fg-i/\i<=ts.fg/\∃F2 o,Le F H F2 H2/\F2.p S/\vN K F2 B H2 fs U/\H2 S=p' o/\P i o F2 H2,{_,rfl,pB _,_,o0,ok.Ea hS,Bh,ok.alloc hS,Aq,h0},?_}
 intro i m H2 {rfl,hi,F2,o,l2,p2,aL,e2,h2}
 have jI:=jk F2 H2 l2.f {_,_,_,aL} i;have ne:∀{a x},F.o a=x->x≠.no->a≠S:=λz q e=>q (by rw[<- z,e,(ok.td S hS)])
 by_cases hit:i<ts.fg
 .let{j1,j2}:=jI.1 _ (nX hit);refine .uK {j1,λx H3 hy=>?_};let{F3,{l3,nw},rx}:=j2 x H3 hy;have p3:=(l3.p S p2).1;have dX:=l2.trans l3;exact pm (λo' h=>{_,by lia,rfl,hit,F3,o',{λa f=>{(dX.f a f).1,(Ap (ne f nofun)).trans (dX.f a f).2},λa f=>{(dX.p a f).1,(Ap (ne f nofun)).trans (dX.p a f).2} },p3,(nw _ _ _ aL).upP p3,Aq,hm (Ul p3) h}) (hp i _ x F3 H3 o (nX hit) rx (hm l3.f h2) ((l3.p S p2).2.trans e2))
 .have e:i=ts.fg:=by lia
  subst e;have n2:∀{a x},F2.o a=x->x≠.cl->a≠S:=λz q e=>q (by rwa[<- z,e])
  have l3:Lf F2 H2 (F2.tag S (.j false 0 [])) H2:=λa f=>{(Br (n2 f nofun)).trans f,rfl}
  refine .uW {jI.2 (oh _),s _ _ _ {λa f=>{(Br (ne f nofun)).trans (l2.f a f).1,(l2.f a f).2},λa f=>{(Br (ne f nofun)).trans (l2.p a f).1,(l2.p a f).2} } {aL.to l3 (λa j ρ z=>{(Br (n2 z nofun)).trans z,rfl}) λa z=>(Br λe=>by rw[e,e2]at z;cases z).trans (aL.td a z),he o _ _ (hm l3 h2) e2 Bh} }
def X3(ok:vN K F B H fs U)(hS:H S=none)(jk:JOk K F H J ts)(s:sat Z B (RR K B U) F H (.ok (.nw (.tY ts)) fs) Q):ItW J S (putL S) (Q (.t8 S)) (vi H S (.tY [])):=by
 refine JbZ (λi o F H=>∃vs,o=.tY vs/\Ai K F H (ts.uB i) vs) ok hS jk s {[],rfl,rfl} (λl {vs,e,r}=>{vs,e,r.lf l}) (λi t x F3 H3 o et rx {vs,e,r} eo=>{vs,e▸eo,?_,_,rfl,?_}) (λo F' H' {vs,e,r} eo f=>.of rfl f (e▸eo) (by rwa[pP]at r)) λh {ys,e,l,q}=>{ys,e,l,h _ q}
 .have:=r.wv;rw[oZ]at this;lia
 .rw[qJ,et];exact r.app (Ai.one rx)
def FIt (X:Cx)(Z:Xp)(au:v7)(ty:wb)(g:tB):Prop:=∃wi:TI,(∀tg,PIt X tg au ty wi)/\∀U H Q,tI X.K Z g U H (λJ H1=>Bnd X J->Q J H1)->wi U H Q
def lstI (g:tB):tm:=λfs=>(g fs).u9 λts fs=>.ok (.nw (.tY ts)) fs
def zipF (f g:tm):tm:=lstI (itZ f g)
variable{a b au tg:Expr}{fa:tm}{g:tB}{p1 bo aP:Pos}{ty:String}
def fi_it(h:FIt X Z au ty g):FI X Z tg au g:=let{_,h,k}:=h;Fc (h tg).pi λ_ _ _ {F,B,fs,ok,s}=>k _ _ _ {F,B,fs,ok,s.imp λ_ _ q _=>q}
def QN(hc:X.calm=true)(dQ:X.mg "list"=none)(h:FIt X Z au ty g)(hn:ty≠"list"/\ty≠"tuple":=by decide)(dJ:Gl X "list":=by rfl)(he:Zs1 X.uh au:=by rfl):
  FE X Z (.vM (.uE "list" p1) [au] [] bo) (lstI g):=let{_,h,k}:=h;AH (JG hc dQ (h (.uE "" p1)) hn dJ he) λ_ _ _ {F,B,fs,ok,s}=>k _ _ _ {F,B,fs,ok,As s λ_ _ _ _ _ _ {av,jk} s1 bd=>{bd,λ_ hS=>X3 av hS jk s1} }
def Qi(hm:X.mg "zip"=none)(ha:FE X Z a fa)(hb:FE X Z b fb)(hg:Gl X "zip":=by rfl)
  (hs:Zs2 X.uh a b:=by rfl) (bh:Zs1 X.uh b:=by rfl):FIt X Z (.vM (.uE "zip" p2) [a,b] [] aP) "zip" (itZ fa fb):=by
 refine{_,λtg=>Vg hg hm (D7 ha (D7 hb JH bh) (hs.trans (uC (_::·) bh.symm))) hs bh,λU H Q aj=>?_};let{F,B,fs,ok,s}:= aj;refine{F,B,fs,ok,AB s λr ae F1 H1 u l1 av rx s1=>{F1,B,ae,av,AB s1 λr' aq F2 H2 u' l2 aL ry s2=>?_} };split at s2
 .rename_i x y;split at s2
  next xs ys e1 e2=>let{b1,a1,vs,rfl,q1,h1}:=HY (AK.le l2 rx) e1;let{b2,a2,ws,rfl,q2,h2}:=HY ry e2;exact{b1,a1,b2,a2,rfl,{vs,h1 F2 H2 λ_ f=>{f,rfl} },{ws,h2 F2 H2 λ_ f=>{f,rfl} },s2 F2 H2 _ Le.uV {aL,Qd h1 h2 q1 q2} Rb}
  .exact s2.tU
 .exact s2.tU
def Ou :tH wb:=["NoneType","bool","int","str","tuple","list","dict"]
def subTy (t T:wb):uz:=t==T||(t == "bool"&&T == "int")
def Kit (K:Fg)(T:wb):Prop:=∀t,t∈Ou->kitOne K (.uJ t) (.uJ T)=p' (subTy t T)
def S7:Kit K "dict":=λt h=>by simp![Ou,oz,pY,or_false]at h;rcases h with rfl|rfl|rfl|rfl|rfl|rfl|rfl<;>rfl
def orM (g g':Rv->tH Rv->tm):Rv->tH Rv->tm:=λx rs fs=>match g x rs fs with|.ur=>g' x rs fs|o=>o
def MtF.or{g}{r}(h:MtF K Z r g)(h':MtF K Z r' g'):MtF K Z (orMt r r') (orM g g'):=by intro F B H U fs x rs u vs Q ok rx q s;unfold orM at s;cases e:g x rs fs with|ok a t=>rw[e]at s;exact .uW (h F B H U fs x rs u vs Q ok rx q (by rw[e];exact s))|wy c t=>rw[e]at s;exact .uW (h F B H U fs x rs u vs Q ok rx q (by rw[e];exact s))|ur=>rw[e]at s;exact .uK (h' F B H U fs x rs u vs Q ok rx q s)
def QB :Rv->tH Rv->tm
 |.x i,[.t (.uj us)],fs=>match Ax fs i with|p' (.tY ts)=>if ts.fg+us.fg<=big then .ok (.t .vG) (vA fs i (.tY (ts++us)))else .ur|_=>.ur
 |_,_,_=>.ur
def XY:MtF K Z (Sk K) QB:=by
 intro F B H U fs x rs u vs Q ok rx q s;unfold QB at s;split at s
 .rename_i i ws;let{v,rfl,qq}:=Bi q;split at s
  .rename_i ts e;split at s
   next hl=>let{a,us,rfl,hs,r,k}:=ok.list rx e;let{b,zs,rfl,hb,rz}:=qq;let{bF,l}:=k _ _ (r.app rz);exact{a,b,us,zs,rfl,rfl,hs,hb.sq,by rw[r.wv,rz.wv];exact oo hl DI,s F _ _ l (RR.of bF rfl)}
   .exact s.tU
  .exact s.tU
 .exact s.tU
def Ec :=orM gExt QB
def XX:MtF K Z (orMt Ib (Sk K)) Ec:=MtF.or JbI XY
def XR:MtR X "list.extend" (orMt Ib (Sk X.K)):=MtR.orR PN XS
variable{o f:Expr}{fo fk fd:tm}{aw ax:Pos}
def slN (f:tm)(l h:FS->Out (tL tN)):tm:=λfs=>(f fs).bnd λx fs=>(l fs).u9 λlo fs=>(h fs).u9 λhi fs=>match BD fs x with|p' ts=>.ok (.nw (.tY (Lo ts lo hi))) fs|none=>.ur
def fe_slN{f:tm}(he:FE X Z e f)(hl:FP X Z lo l)(hu:FP X Z hi h):FE X Z (.vz e (.Slice lo hi none p2) uG) (slN f l h):=by
 refine AH (Md OJ he hl hu) λU H Q aj => ?_
 let{F,B,fs,ok,s}:= aj;refine{F,B,fs,ok,AB s λx ae F1 H1 u l1 av rx s1=>{F1,B,ae,av,As s1 λlo aq F2 H2 i7 l2 q2 s2=>?_} };let{aL,rfl}:=q2;refine{F2,B,aq,aL,As s2 λhi bR F3 H3 b7 l3 q3 s3=>?_};let{bC,rfl}:=q3;have gL:=(rx.le l2).le l3;split at s3
 next ts e=>let{a,vs,rfl,hs,r}:=Bb bC gL e;exact{a,vs,rfl,hs,λp hp=>Ce bC hp s3 rfl rfl (IQ r)}
 .exact s3.tU
def Gd :T->tL (tH T)
 |.uj ts=>p' ts
 |_=>none
def RY(e:Gd t=p' ts):t=.uj ts:=by cases t<;>first|(cases e;rfl)|cases e
def Hb (f:T->T->tL uz):tH T->tH T->tL uz
 |x::xs,y::ys=>(f x y).u9 λb=>(Hb f xs ys).tJ (b&&·)
 |_,_=>p' true
def eqT :tQ->T->T->tL uz
 |0,x,y=>(plV x).u9 λu=>(plV y).tJ (eqV u)
 |n+1,x,y=>match Gd x with
  |p' xs=>match Gd y with|p' ys=>(Hb (eqT n) xs ys).tJ (·&&xs.fg==ys.fg)|none=>(plV y).tJ λ_=>false
  |none=>match Gd y with
   |p' _=>(plV x).tJ λ_=>false
   |none=>(plV x).u9 λu=>(plV y).tJ (eqV u)
def eAt (f:T->T->tL uz)(xs ys:tH T)(j:tQ):uz:=(f (xs.uZ j .vG) (ys.uZ j .vG)).uZ false
def C5{f}:∀{xs ys:tH T}{b:uz},Hb f xs ys=p' b->b=(tH.vq (min xs.fg ys.fg)).all (eAt f xs ys)
 | [],_,_,e=>by cases e;simp
 |_::_,[],_,e=>by cases e;simp
 |x::xs,y::ys,b,e=>by
  simp![Hb,oE,n8]at e;let{c,e1,d,e2,rfl}:=e;rw[om,om,tQ.succ_min_succ,tH.range_succ_eq_map,qL,tH.all_map,(C5 e2)];have h0:eAt f (x::xs) (y::ys) 0=c:=by simp[eAt,e1]
  rw[h0];congr 1
def Lm{f}:∀{xs ys:tH T}{b:uz},Hb f xs ys=p' b->∀(j:tQ)(x y:T),xs[j]?=p' x->ys[j]?=p' y->f x y=p' (eAt f xs ys j)
 | [],_,_,e=>by intro j x y h;simp at h
 |_::_,[],_,e=>by intro j x y _ h;simp at h
 |x::xs,y::ys,b,e=>by simp![Hb,oE,n8]at e;let{c,e1,d,e2,rfl}:=e;intro j x' y' h1 h2;cases j with|zero =>simp![qK,tL.p'.injEq]at h1 h2;subst h1 h2;simp[eAt,e1]|succ j =>have:=Lm e2 _ _ _ h1 h2;rw[this];simp[eAt]
def Uc(h:Fq v=true):eqV v v=true:=by cases v<;>first|rfl|exact beq_self_eq_true _|cases h
def Vf{b}{x}(rx:AK K F H x v)(ry:AK K F H y v)(e:((plV x).u9 λu=>(plV y).tJ (eqV u))=p' b):b=true:=by simp![oE,n8]at e;let{u,e1,w,e2,rfl}:=e;have h1:=BV e1 rx;have h2:=BV e2 ry;subst h1 h2;exact Uc (Cq e1)
def JE{a}{x}(e:plV x=p' u)(r:AK K F H x v):v≠.t8 a:=by have h1:=BV e r;subst h1;have:=Cq e;intro h;subst h;cases this
def CH(e:Gd t=p' ts)(r:AK K F H t v):∃a vs,v=.t8 a/\StT K F H a vs/\Ai K F H ts vs:=by cases RY e;simpa only[AK]using r
def MO:∀{n:tQ}{x y:T}{v:V}{b:uz},eqT n x y=p' b->AK K F H x v->AK K F H y v->b=true
 |0,x,y,v,b,e,rx,ry=>Vf rx ry e
 |n+1,x,y,v,b,e,rx,ry=>by
  unfold eqT at e;cases e1:Gd x with
  |none =>rw[e1]at e;cases e2:Gd y with|none=>rw[e2]at e;exact Vf rx ry e|p' ys =>rw[e2]at e;let{a,vs,rfl,_}:=CH e2 ry;let{u,e3,_}:=n8.mp e;exact uD rfl (JE e3 rx)
  |p' xs =>
   rw[e1]at e;let{a,vs,rfl,sx,gM}:=CH e1 rx;cases e2:Gd y with
   |none =>rw[e2]at e;let{u,e3,_}:=n8.mp e;exact uD rfl (JE e3 ry)
   |p' ys =>
    rw[e2]at e;let{a',bH,ea,sy,gN}:=CH e2 ry;cases ea;have hv:vs=bH:=by have:=sx.2.2.symm.trans sy.2.2;injection this with this;injection this
    subst hv;let{c,e3,rfl}:=n8.mp e;have hl:xs.fg=ys.fg:=by rw[<- gM.wv,<- gN.wv]
    rw[oB];refine{?_,by simp[hl]};rw[C5 e3,pH];intro j hj;rw[oR]at hj;have h1:j<xs.fg:=by lia
    have h2:j<ys.fg:=by lia
    have g1:=nX h1;have g2:=nX h2;let{v1,q1,r1}:=gM.at g1;let{v2,q2,r2}:=gN.at g2;have:=by rw[q1]at q2;injection q2
    subst this;exact MO (Lm e3 _ _ _ g1 g2) r1 r2
variable{aa:Zao}{s:Shared}
def MK{l}{u}(hl:s.tK.IsTuple l uL)(hu:A.vF<wc)(ry:vg y u)(fy:Fq y=true):
  vP.EqAt A s (.t8 l) u false/\vP.EqAt A s u (.t8 l) false/\vP.RcAt A s (.t8 l) u false/\vP.RcAt A s u (.t8 l) false:=by
 cases y with|vG=>cases ry;exact{.tuple_none hl hu,.none_tuple hl hu,.tuple_none hl hu,.none_tuple hl hu}|l b=>cases ry;exact{.tuple_bool _ hl hu,.bool_tuple _ hl hu,.tuple_bool _ hl hu,.bool_tuple _ hl hu}|tS b=>let{t,rfl}:=ry;exact{.tuple_int _ _ hl hu,.int_tuple _ _ hl hu,.tuple_int _ _ hl hu,.int_tuple _ _ hl hu}|str b=>let{t,rfl}:=ry;exact{.tuple_str _ _ hl hu,.str_tuple _ _ hl hu,.tuple_str _ _ hl hu,.str_tuple _ _ hl hu}|_=>cases fy
def Mc{b}{u}{x}(rx:AK X.K F H x v)(ry:AK X.K F H y w)(qx:vg v u)(qy:vg w u')(e:((plV x).u9 λu=>(plV y).tJ (eqV u))=p' b):vP.EqAt A s u u' b:=by simp![oE,n8]at e;let{p,e1,q,e2,rfl}:=e;have h1:=BV e1 rx;have h2:=BV e2 ry;subst h1 h2;exact VV qx qy (Cq e1) (Cq e2)
def items_eqAt{b}{f}(e:Hb f xs ys=p' b)(rx:Ai X.K F H xs vs)(ry:Ai X.K F H ys ws)(qx:vo vs us)(qy:vo ws us')
  (ih:∀{x y:T}{v w:V}{u u':tM}{b:uz},f x y=p' b->AK X.K F H x v->AK X.K F H y w->vg v u->vg w u'->vP.EqAt A s u u' b) :
  ∀j (h1:j<us.tZ.tX) (h2:j<us'.tZ.tX),vP.EqAt A s us.tZ[j] us'.tZ[j] (eAt f xs ys j):=by
 intro j h1 h2;have l1:=rx.wv;have l2:=ry.wv;have l3:=qx.fg;have l4:=qy.fg;rw[nZ]at h1 h2;have g1:xs[j]?=p' (xs[j]'(by lia)):=nX (by lia);have g2:ys[j]?=p' (ys[j]'(by lia)):=nX (by lia);let{v,q1,r1}:=rx.at g1;let{w,q2,r2}:=ry.at g2;let{u,p1,o1}:=qx.get q1;let{u',p2,o2}:=qy.get q2;rw[nX h1]at p1;rw[nX h2]at p2;injection p1 with p1;injection p2 with p2;rw[show us.tZ[j]=us[j] by simp,show us'.tZ[j]=us'[j] by simp,p1,p2];exact ih (Lm e _ _ _ g1 g2) r1 r2 o1 o2
def HJ(I:uF X aa U H s):∀{n:tQ}{A:Around}{x y:T}{v w:V}{u u':tM}{b:uz},A.vF+n<wc->eqT n x y=p' b->AK X.K F H x v->AK X.K F H y w->vg v u->vg w u'->vP.EqAt A s u u' b
 |0,A,x,y,v,w,u,u',b,hu,e,rx,ry,qx,qy=>Mc rx ry qx qy e
 |n+1,A,x,y,v,w,u,u',b,hu,e,rx,ry,qx,qy=>by
  have e0:=e;unfold eqT at e;cases e1:Gd x with
  |none =>rw[e1]at e;cases e2:Gd y with|none=>rw[e2]at e;exact Mc rx ry qx qy e|p' ys =>rw[e2]at e;let{a,vs,rfl,st,_}:=CH e2 ry;let{p,e3,rfl}:=n8.mp e;have h1:=BV e3 rx;subst h1;cases qy;let{uU,_,ht,_}:=I.wz st.sq;exact(MK ht (by lia) qx (Cq e3)).2.1
  |p' xs =>
   rw[e1]at e;let{a,vs,rfl,sx,gM}:=CH e1 rx;cases qx;let{uU,vx,ht,_}:=I.wz sx.sq;cases e2:Gd y with
   |none =>rw[e2]at e;let{p,e3,rfl}:=n8.mp e;have h1:=BV e3 ry;subst h1;exact(MK ht (by lia) qy (Cq e3)).1
   |p' ys =>
    rw[e2]at e;let{a',bH,rfl,sy,gN}:=CH e2 ry;cases qy;let{aH,du,dk,_}:=I.wz sy.sq;by_cases fE:a=a'
    .subst fE;rw[MO e0 rx ry];exact vP.EqAt.same _
    .let{c,e3,rfl}:=n8.mp e;have l1:uU.fg=xs.fg:=by rw[<- vx.fg,gM.wv]
     have l2:aH.fg=ys.fg:=by rw[<- du.fg,gN.wv]
     have:=vP.RcAt.tuples ht dk (by lia) (items_eqAt e3 gM gN vx du (λh r1 r2 o1 o2=>HJ I (A:=A.in1) (by show A.vF+1+n<_;lia) h r1 r2 o1 o2));rw[nZ,nZ,l1,l2,<- C5 e3]at this;exact vP.EqAt.of_refs fE this
def eqB (neg:uz)(xs ys:tH T)(fs:FS):Out Rv:=match Hb (eqT 60) xs ys with|p' b=>okT (.l (if neg then !(b&&xs.fg==ys.fg)else(b&&xs.fg==ys.fg))) fs|none=>.ur
def MG (neg:uz):tj:=λx y fs=>match KU x with
 |p' xs=>match KU y with|p' ys=>eqB neg xs ys fs|none=>.ur
 |none=>match BD fs x with
  |p' xs=>match BD fs y with|p' ys=>eqB neg xs ys fs|none=>.ur
  |none=>.ur
def EqS (X:Cx)(neg:uz)(H:Hp)(x y:V)(b:uz):Prop:=∀(aa:Zao)(U:St)(s:ud)(u w:tM),uF X aa U H s->vg x u->vg y w ->
 if neg then vP.RcNeAt X.A s u w (!b)else vP.RcAt X.A s u w b
inductive rEqS(X:Cx)(neg:uz)(x:V)(y:V)(H:Hp)(Q:VK):Prop
 |mk (b:_) (h0:EqS X neg H x y b) (h1:Q (.l (if neg then !b else b)) H)
def Vq:OpR X (u0 .Eq) (rEqS X false):=by intro aa s U H x y v u Q I rx ry h;let{b,e,q}:=h;exact(e aa U s v u I rx ry) X.ub X.w X.xe _ {.l b,H,I,rfl,q}
def Pw:OpR X (u0 .NotEq) (rEqS X true):=by intro aa s U H x y v u Q I rx ry h;let{b,e,q}:=h;exact(e aa U s v u I rx ry) X.ub X.w X.xe _ {.l (!b),H,I,rfl,q}
def Y1{a}{b}(hu:X.A.vF+61<wc)(e:Hb (eqT 60) xs ys=p' b)(sx:SqT X.K H a vs)(sy:SqT X.K H a' ws)(rx:Ai X.K F H xs vs)(ry:Ai X.K F H ys ws):
  EqS X neg H (.t8 a) (.t8 a') (b&&xs.fg==ys.fg):=by
 intro aa U s u w I qx qy;cases qx;cases qy;let{uU,vx,ht,_}:=I.wz sx;let{aH,du,dk,_}:=I.wz sy;have l1:uU.fg=xs.fg:=by rw[<- vx.fg,rx.wv]
 have l2:aH.fg=ys.fg:=by rw[<- du.fg,ry.wv]
 have he:=items_eqAt e rx ry vx du (λh r1 r2 o1 o2=>HJ I (A:=X.A.in1) (by show X.A.vF+1+60<_;lia) h r1 r2 o1 o2);cases neg with|false =>have:=vP.RcAt.tuples ht dk (by lia) he;rwa[nZ,nZ,l1,l2,<- C5 e]at this|true =>have:=vP.RcNeAt.tuples ht dk (by lia) he;rwa[nZ,nZ,l1,l2,<- C5 e]at this
def Y2{a}{b}(hu:X.A.vF+61<wc)(e:Hb (eqT 60) xs ys=p' b)(sx:SqL X.K H a vs)(sy:SqL X.K H a' ws)(rx:Ai X.K F H xs vs)(ry:Ai X.K F H ys ws):
  EqS X neg H (.t8 a) (.t8 a') (b&&xs.fg==ys.fg):=by
 intro aa U s u w I qx qy;cases qx;cases qy;let{uU,vx,ht,_}:=I.list sx;let{aH,du,dk,_}:=I.list sy;have l1:uU.fg=xs.fg:=by rw[<- vx.fg,rx.wv]
 have l2:aH.fg=ys.fg:=by rw[<- du.fg,ry.wv]
 have he:=items_eqAt e rx ry vx du (λh r1 r2 o1 o2=>HJ I (A:=X.A.in1) (by show X.A.vF+1+60<_;lia) h r1 r2 o1 o2);by_cases hl:xs.fg=ys.fg
 .have hs:uU.tZ.tX=aH.tZ.tX:=by rw[nZ,nZ];lia
  have hb:(b&&xs.fg==ys.fg)=(tH.vq uU.tZ.tX).all (eAt (eqT 60) xs ys):=by rw[C5 e,hl,tQ.min_self,nZ,l1,hl];simp
  rw[hb];cases neg with|false=>exact vP.RcAt.lists ht.vU dk.vU hs (by lia) he|true=>exact vP.RcNeAt.lists ht.vU dk.vU hs (by lia) he
 .have hs:(uU.tZ.tX !=aH.tZ.tX)=true:=by rw[nZ,nZ,bne_iff_ne];lia
  have hb:(b&&xs.fg==ys.fg)=false:=by simp[hl]
  rw[hb];cases neg with|false=>exact vP.RcAt.lists_lengths ht.vU dk.vU hs (by lia)|true=>exact vP.RcNeAt.lists_lengths ht.vU dk.vU hs (by lia)
def PC(neg:uz)(hu:X.A.vF+61<wc):OpF X.K Z (rEqS X neg) (MG neg):=by
 intro F B H U fs x y u w Q ok rx ry s;unfold MG at s;cases e1:KU x with
 |p' xs =>rw[e1]at s;cases e2:KU y with|none=>rw[e2]at s;exact s.tU|p' ys =>rw[e2]at s;let{a,vs,rfl,sx,r1}:=BG rx e1;let{a',ws,rfl,sy,r2}:=BG ry e2;simp![eqB]at s;cases e3:Hb (eqT 60) xs ys with|none=>rw[e3]at s;exact s.tU|p' b =>rw[e3]at s;exact{_,Y1 hu e3 sx sy r1 r2,s F H _ Le.uV (RR.of ok rfl)}
 |none =>rw[e1]at s;cases e2:BD fs x with|none=>rw[e2]at s;exact s.tU|p' xs =>rw[e2]at s;cases e3:BD fs y with|none=>rw[e3]at s;exact s.tU|p' ys =>rw[e3]at s;let{a,vs,rfl,sx,r1}:=Bb ok rx e2;let{a',ws,rfl,sy,r2}:=Bb ok ry e3;simp![eqB]at s;cases e4:Hb (eqT 60) xs ys with|none=>rw[e4]at s;exact s.tU|p' b =>rw[e4]at s;exact{_,Y2 hu e4 sx sy r1 r2,s F H _ Le.uV (RR.of ok rfl)}
def Ql (fs:FS):Rv->tL uz
 |.t t=>p' (match t with|.vG=>true|_=>false)
 |.x i=>match Ax fs i with|p' (.v _ _)=>p' false|p' (.tY _)=>p' false|_=>none
 |.nw _=>none
def Od (neg:uz):tj:=λx y fs=>match y with
 |.t .vG=>match Ql fs x with|p' b=>okT (.l (if neg then !b else b)) fs|none=>.ur
 |_=>.ur
def Mz{x:Rv}{b:uz}(ok:vN K F B H fs U)(rx:CQ K F H U x u)(e:Ql fs x=p' b):decide (u=V.vG)=b:=by
 cases x with
 |t t =>have rx:AK K F H t u:=rx;cases t with|vG=>cases e;cases rx;rfl|l=>cases e;cases rx;rfl|tS=>cases e;cases rx;rfl|str=>cases e;cases rx;rfl|vE=>cases e;simp![AK]at rx;let{a,dx,vs,rfl,_}:=rx;rfl|_=>cases e;simp![AK]at rx;let{a,vs,rfl,_}:=rx;rfl
 |nw o=>cases e
 |x i =>
  simp![Ql]at e;split at e
  next eo=>cases e;let{a,_,rfl,_}:=(ok.at rx eo).vals rfl;rfl
  next eo=>cases e;let{a,_,rfl,_}:=(ok.at rx eo).vals rfl;rfl
  .cases e
meta def Vs:OpF K Z (λx y H Q=>y=.vG/\Q (.l (decide (x=.vG))) H) (Od false):=by
 intro F B H U fs x y u w Q ok rx ry s;unfold Od at s;split at s
 .split at s
  next b e=>refine{ry,?_};rw[(Mz ok rx e)];exact s F H _ Le.uV (RR.of ok rfl)
  .exact s.tU
 .exact s.tU
def fe_isN(ha:FE X Z a fa)(hb:FE X Z b fb):FE X Z (.vW a [.Is] [b] uG) (Ag (Od false) fa fb):=J2 Vs Vp ha hb (Cf _)
def ft_isN(ha:FE X Z a fa)(hb:FE X Z b fb):FT X Z (.vW a [.Is] [b] uG) (wk (Ag (Od false) fa fb)):=Cr Vs Vp ha hb (Cf _)
def itD (f:tm):tB:=λfs=>(f fs).bnd λr fs=>match r with
 |.x i=>match fs[i]? with|p' (p' (.uI (.v ks ts)))=>.ok (ks.tJ JS) (fs.wJ i (p' (.vm (.v ks ts))))|_=>.ur
 |.t (.dF ks ts)=>.ok (ks.tJ JS) fs
 |_=>.ur
def vN.frzD{ks:tH vc}(h:vN K F B H fs U)(e:U[i]?=p' (p' u))(es:fs[i]?=p' (p' (.uI (.v ks ts)))):
  ∃a ag F',u=.t8 a/\H a=p' (.v ag)/\ag.tJ (·.1)=ks/\F' a/\∀o,Le F H F' (L2.vi H a (.frz o (.v ag)))/\Ai K F' (L2.vi H a (.frz o (.v ag))) ts (ag.tJ (·.2))/\∀t,AK K F' (L2.vi H a (.frz o (.v ag))) t (.t8 a)->vN K F' B (L2.vi H a (.frz o (.v ag))) (fs.wJ i (p' (.vm t))) U:=by
 let{v,e1,r}:=h.sl _ _ es;rw[e]at e1;cases (e1);let{a,_,rfl,f,{ag,hd,hk,rfl},q}:=Bg.vals r rfl;refine{a,ag,F.tag a .fz,rfl,hd,hk,Bh,λob=>?_};have ne:∀{b x},F.o b=x->x≠.j true i []->(F.tag a .fz).o b=x/\L2.vi H a (.frz ob (.v ag)) b=H b:=λ{b x} z n=>have q:b≠a:=λe=>n (by rw[<- z,e,f]);{(Br q).trans z,Ap q}
 have l:Le F H (F.tag a .fz) (L2.vi H a (.frz ob (.v ag))):={λb z=>ne z nofun,λb z=>ne z nofun}
 refine{l,q.le l,λt rt=>?_};have:=h.wJ (i:=i) (x:=p' (.vm t)) (y:=p' (.t8 a)) l.f (λb j ρ hj z=>ne z λq=>hj (by cases (q);rfl)) (λb z=>(Br (Bo z).1).trans (h.td b (Bo z).2)) λs e=>by cases (e);exact{_,rfl,rt}
 rwa[HX e]at this
def Mw{a}{o}(f:F a)(e:H a=p' (.frz o (.v ag))):JOk K F H (Itd a o ag) ((ag.tJ (·.1)).tJ JS):=by
 intro F' H' l _ i;have e':=(l a f).2.trans e;refine{λt et=>?_,λhl=>{e',by simpa using hl} };have hi:=by have:=(ou.mp et).1;simpa using this
 refine{ {e',hi},λx cB hy=>stays hy.1 ?_};let{k,ek,rfl}:=hy.2;rw[oq,ek]at et;cases et;cases k<;>rfl
meta def YH{f}{l}(hl:FE X Z l f):FI X Z tg l (itD f):=by
 refine Fc (SG hl) λU H Q aj => ?_
 let{F,B,fs,ok,s}:= aj;refine{F,B,fs,ok,AB s λr ae F1 H1 u l av rx s1=>?_};split at s1
 .split at s1
  next ks ts es=>let{a,ag,F',rfl,hd,rfl,ff,k}:=av.frzD rx es;refine{a,ag,rfl,.uW {hd,λo=>?_} };let{l2,r2,aL}:=k o;exact s1 _ _ (Itd a o ag) l2 {aL _ (by simp![AK];exact{a,ag,rfl,ff,.uK {o,Aq},rfl,r2}),Mw ff Aq}
  .exact s1.tU
 .simp![CQ,AK]at rx;let{a,ag,rfl,f,{o,hd},rfl,r}:=rx;exact{a,ag,rfl,.uK {o,hd,s1 _ _ (Itd a o ag) Le.uV {av,Mw f hd} } }
 .exact s1.tU
def Hc (fs:FS):Rv->tL (tH vc×tH T)
 |.t (.v ks ts)=>p' (ks,ts)
 |.t (.dF ks ts)=>p' (ks,ts)
 |.x i=>match Ax fs i with|p' (.v ks ts)=>p' (ks,ts)|_=>none
 |_=>none
meta def ED{x:Rv}(h:vN K F B H fs U)(rx:CQ K F H U x u)(e:Hc fs x=p' (ks,ts)):
  ∃a ag,u=.t8 a/\Rd H a (.v ag)/\ag.tJ (·.1)=ks/\Ai K F H ts (ag.tJ (·.2)):=by
 unfold Hc at e;split at e
 .cases e;simp![CQ,AK]at rx;let{a,ag,rfl,f,hd,rfl,r}:=rx;exact{a,ag,rfl,hd,rfl,r}
 .cases e;simp![CQ,AK]at rx;let{a,ag,rfl,f,{ob,hd},rfl,r}:=rx;exact{a,ag,rfl,.uK {ob,hd},rfl,r}
 .rename_i i;split at e
  next eo=>cases e;let{a,_,rfl,_,{ag,hd,rfl,rfl},r}:=(h.at rx eo).vals rfl;exact{a,ag,rfl,.uW hd,rfl,r}
  .cases e
 .cases e
def eqD (dq:tH vc)(bE:tH T):tH vc->tH T->tL uz
 |k::ks,t::ts=>match BB dq bE k with|none=>p' false|p' t'=>(eqT 60 t t').u9 λb=>(eqD dq bE ks ts).tJ (b&&·)
 |_,_=>p' true
def gEqD (neg:uz):tj:=λx y fs=>match Hc fs x with
 |p' (ks,ts)=>match Hc fs y with
  |p' (dq,bE)=>match eqD dq bE ks ts with|p' r=>okT (.l (if neg then !(ks.fg==dq.fg&&r)else(ks.fg==dq.fg&&r))) fs|none=>.ur
  |none=>.ur
 |none=>.ur
def Yg{A:Around}(I:uF X aa U H s)(hu:A.vF+60<wc){cL:tH (vc×V)}{bH:tH (vc×tM)}{bE:tH T}(dZ:KV cL bH)(fL:Ai X.K F H bE (cL.tJ (·.2))):
  ∀{ag:tH (vc×V)}{vs:tH (vc×tM)}{ts:tH T}{r:uz},KV ag vs->Ai X.K F H ts (ag.tJ (·.2))->eqD (cL.tJ (·.1)) bE (ag.tJ (·.1)) ts=p' r->PySem.W.KeqHits A s bH vs r:=by
 intro ag vs ts r aB
 induction aB generalizing ts r with
 |vO=>intro rt e;have:=rt.wv;cases ts with|vO=>cases e;exact .vO|ux=>cases this
 |@ux kv kv' ag vs h tl ih =>
  let{k,v}:=kv;let{k',u}:=kv';let{h1,h2}:=h;have h1:k=k':=h1;have h2:vg v u:=h2;subst h1;intro rt e;cases ts with
  |vO=>have:=rt.wv;cases this
  |ux t ts =>
   simp![nV,Ai]at rt;let{v0,r0,e0,mj,mm}:=rt;cases e0;simp![nV,eqD]at e;have q:=dZ.vm k;rcases FD (j:=k) fL with⟨g1,g2⟩|⟨t',v',g1,g2,g3⟩
   .rw[g1]at e;cases e;rw[g2]at q;refine .miss ?_;cases hx:valueAt bH k with|none=>rfl|p' x=>rw[hx]at q;exact q.tU
   .rw[g1]at e;simp![oE,n8]at e;let{b,e1,r',e2,rfl}:=e;rw[g2]at q;cases hx:valueAt bH k with|none=>rw[hx]at q;exact q.tU|p' y =>rw[hx]at q;exact .hit hx (HJ I hu e1 mj g3 h2 q) (ih mm e2)
def EqO (X:Cx)(neg:uz)(H:Hp)(x y:V)(b:uz):Prop:=∀(aa:Zao)(U:St)(s:ud)(u w:tM)(Q:Zcv)(E:Zcv),uF X aa U H s->vg x u->vg y w->Q (.bool b) s ->
 ue (uf X.ub X.w) X.A (u0 (if neg then .NotEq else .Eq) u w) Q E s
inductive rEqO(X:Cx)(neg:uz)(x:V)(y:V)(H:Hp)(Q:VK):Prop
 |mk (b:_) (h0:EqO X neg H x y b) (h1:Q (.l b) H)
def Jbp:OpR X (u0 .Eq) (rEqO X false):=by intro aa s U H x y v u Q I rx ry h;let{b,e,q}:=h;exact e aa U s v u _ _ I rx ry {.l b,H,I,rfl,q}
def Jbx(neg:uz)(hu:X.A.vF+61<wc):OpF X.K Z (rEqO X neg) (gEqD neg):=by intro F B H U fs x y u w Q ok rx ry s;unfold gEqD at s;cases e1:Hc fs x with|none=>rw[e1]at s;exact s.tU|p' p =>let{ks,ts}:=p;rw[e1]at s;cases e2:Hc fs y with|none=>rw[e2]at s;exact s.tU|p' p =>let{dq,bE}:=p;rw[e2]at s;dsimp only at s;cases e3:eqD dq bE ks ts with|none=>rw[e3]at s;exact s.tU|p' r =>rw[e3]at s;let{a,ag,rfl,hd,rfl,rt}:=ED ok rx e1;let{a',cL,rfl,bP,rfl,fL}:=ED ok ry e2;refine{_,?_,s F H _ Le.uV (RR.of ok rfl)};intro aa az sh u w Q' E' I qx qy q;cases qx;cases qy;let{z,hS,vs,aB,dd}:=Fv I.zZ hd;let{z',jx,bH,dZ,dE}:=Fv I.zZ bP;rw[nU,nU,(Paired.fg aB),(Paired.fg dZ)]at q;have hits:=Yg (A:=X.A.in1) I (by show X.A.vF+1+60<_;lia) dZ fL aB rt e3;cases neg with|false=>exact PySem.W.keq_eq hS jx dd dE (by lia) (λ_=>hits) q|true=>exact PySem.W.keq_ne hS jx dd dE (by lia) (λ_=>hits) q
def gEqV (neg:uz):=orG (gEq neg) (orG (MG neg) (gEqD neg))
def fe_eqV(hu:X.A.vF+61<wc)(ha:FE X Z a fa)(hb:FE X Z b fb):FE X Z (.vW a [.Eq] [b] uG) (Ag (gEqV false) fa fb):=J2 (OpF.or of_eq (OpF.or (PC false hu) (Jbx false hu))) (OpR.orR Xs (OpR.orR Vq Jbp)) ha hb (Cf _)
def Ye(hr:Di k A):A.vF+61<wc:=by have:=hr.vF;lia
def Ew :tH Rv->tm
 | [x],fs=>match Hc fs x with|p' p=>.ok (.nw (.v p.1 p.2)) fs|none=>.ur
 |_,_=>.ur
meta def Ur:Cn K Z (λxs H Q=>∃a ag,xs=[.t8 a]/\Rd H a (.v ag)/\∀l,H l=none->Q (.t8 l) (vi H l (.v ag))) Ew:=by
 intro F B H U fs rs vs Q ok q s;unfold Ew at s;split at s
 .let{v,rfl,qq}:=Bi q;split at s
  next p e=>let{a,ag,rfl,hd,ek,r}:=ED ok qq e;exact{a,ag,rfl,hd,λl hl=>Ce ok hl s rfl {ag,rfl,ek,rfl} r}
  .exact s.tU
 .exact s.tU
variable{f:tm}{fa:tq}
def T7(hm:X.mg "dict"=none)(ha:FA X Z [a] fa)(hg:Gl X "dict":=by rfl)(he:Zs1 X.uh a:=by rfl):FE X Z (.vM (.uE "dict" p) [a] [] uG) (Ad Ew fa) :=
 EA Ur N1 hm boot_dict ha (hg:=hg) (he:=he)
def fzD (f:tm):tm:=λfs=>(f fs).bnd λr fs=>match r with
 |.x i=>match fs[i]? with|p' (p' (.uI (.v ks ts)))=>.ok (.t (.dF ks ts)) (fs.wJ i (p' (.vm (.dF ks ts))))|_=>.ur
 |_=>.ur
meta def fe_fzD(h:FE X Z e f):FE X Z e (fzD f):=by
 refine AH (Vl h) λU H Q aj => ?_
 let{F,B,fs,ok,s}:= aj;refine{F,B,fs,ok,AB s λr ae F1 H1 u l av rx s1=>?_};split at s1
 .rename_i i;split at s1
  .rename_i ks ts es;let{a,ag,F',rfl,hd,rfl,ff,k}:=av.frzD rx es;refine{a,ag,rfl,hd,λo=>?_};let{l2,r2,aL}:=k o;have r3:AK X.K F' (vi H1 a (.frz o (.v ag))) (.dF (ag.tJ (·.1)) ts) (.t8 a):=by simp![AK];exact{a,ag,rfl,ff,{o,Aq},rfl,r2}
   exact s1 _ _ (.t8 a) l2 {aL _ r3,r3}
  .exact s1.tU
 .exact s1.tU
def Lks (X:Cx)(Z:Xp):Prop:=Lk X (EZ X.K Z)
def Lks.no:Lks X Xp.no:=λ_ _ _ _ _ _ _ {_,_,_,_,_,_,_,_,_,_,_,{_,_,_,_,_,_,_,_,z} }=>z.tU
structure LkD(X:Cx)(Z:Xp):Prop where
 d:RD X
 k:∀e s,XW X (EZ X.K Z) e s->X.xe e s
 uI:PassesOwn (uf X.ub X.w) X.A X.uh X.xe
def LkD.lk(l:LkD X Z):Lks X Z:=Lk.of l.d.ex l.k
def Zd (K:Fg)(E:XK):Xp:={λF B H c fs=>∀C,CD K c=p' C->∀F' H' az,Le F H F' H'->vN K F' B H' fs az->E (.t8 C) none H',λh l C hC F' H' az l' k=>h C hC F' H' az (l.trans l') k}
def GS0 (X:Cx)(Z:Xp)(st:Stmt)(g:FS->SO):Prop:=PS0 X st (tSt X.K Z g)
def GSs0 (X:Cx)(Z:Xp)(jf:tH Stmt)(g:FS->SO):Prop:=UG X jf (tSt X.K Z g)
variable{st:Stmt}{rest:List Stmt}{g h:FS->SO}
def GS.zero(q:GS X Z st g):GS0 X Z st g:=PS.zero q
def GSs.zero(q:GSs X Z uu g):GSs0 X Z uu g:=PSs.zero q
def GD(h1:GS0 X Z st g)(h2:GSs0 X Z uu h):GSs0 X Z (st::uu) (Ak g h):=by
 intro s0 U H D I q;refine Pa h1 h2 s0 U H D I ?_;let{F,B,fs,ok,s}:=q;refine{F,B,fs,ok,?_};unfold Ak at s;cases e:g fs with
 |nx ae =>rw[e]at s;exact λF1 H1 cS l k=>{F1,B,ae,k,FK.le s l}
 |wH r ae=>rwa[e]at s
 |brk ae=>rwa[e]at s
 |cnt ae=>rwa[e]at s
 |wy c ae=>rwa[e]at s
 |ur=>rwa[e]at s
variable{P:Program}{w:World}{mg:Zsv}{base:Heap}
meta def VL{f}{x}{fd}(Fu:Fun K x qual st f fd)(S:Ji N ps (Bw st))(p n:tQ)(hp:ps.fg=p)(hn:N.fg=p+n)
  (hb:∀cdv (A:Around) uY (s:ud) H E E' (Z:Xp),Di k (A.deeper (envOfC qual (Bw st) s.tK.uc.tX f cdv))->LkD ((NZ (CX1 P w) P w K mg uk N qual (Bw st) f cdv A uY s H E).F9 E') Z ->
   GSs0 ((NZ (CX1 P w) P w K mg uk N qual (Bw st) f cdv A uY s H E).F9 E') Z (Ef st) g):Fm P w K mg uk (CX1 P w) (k+1) f fd ps (spX K p (A2 n g)):=by
 refine Fu.ok0 S (λvs H Q E h=>by rw[h.1,hp]) (λcdv A uY s H vs Q E hr h=>{_,hb cdv A uY s H E _ (Zd K E) hr { {rfl,rfl,rfl,rfl},λe s q=>?_,XW.uI defCx},?_})
 .refine XW.imp (XW.F9 q) λc U H z=>?_
  let{F,B,fs,c,C,hC,rfl,ok,z}:=z;exact z C hC F H U Le.uV ok
 let{hl,F,cV,ok,h}:=h;have es:L2.start N vs=vs.tJ p'++tH.uN n none:=by unfold L2.start;rw[hl,hn,tQ.add_sub_cancel_left]
 rw[es];refine{F,Bof (vs.tJ p'),cV++tH.uN n none,ok.more n,?_};unfold A2 at h;cases e:g (cV++tH.uN n none)with
 |nx τ =>rw[e]at h;intro F' H' az l k;exact h F' H' .vG (az.uB cV.fg) l (RR.uB (RR.of (r:=.t .vG) k rfl) _ nofun)
 |wH r τ =>
  rw[e]at h;intro F' H' az u l k;cases r with
  |t t=>exact h F' H' u (az.uB cV.fg) l (RR.uB k _ nofun)
  |nw o=>exact h F' H' u (az.uB cV.fg) l (RR.uB k _ nofun)
  |x i =>
   dsimp only at h;split at h
   .rename_i r' fO e2;split at e2
    next o eo=>cases e2;exact h _ H' u (az.uB cV.fg) (l.trans Le.re) (RR.uB (RR.mv k eo) _ nofun)
    .cases e2
   .rename_i c fO e2;split at e2
    .cases e2
    .cases e2
   .exact h.tU
 |brk τ=>rw[e]at h;exact h.tU
 |cnt τ=>rw[e]at h;exact h.tU
 |wy c τ =>rw[e]at h;intro C hC F' H' az l k;exact h C hC F' H' (az.uB cV.fg) l (RR.uB (RR.of (r:=.t .vG) k rfl) _ nofun).ok
 |ur=>rwa[e]at h
variable{x:Str}{k p:Nat}{ps:List Str}{Fn:tm}{pp np:Pos}
def fe_fnX(G:FnAt X.ub X.w X.K X.mg X.uk (CX1 X.ub X.w) x k ps (spX X.K p Fn))(hr:Di k X.A)(lk:Lks X Z)(ha:FAn X Z (e::es) fa)(hg:Gl X x:=by rfl)(aY:Zdb x:=by decide)
  (he:Zsc X.uh e es:=by rfl) (aG:Zbt X.uh uG es:=by rfl):FE X Z (.vM (.uE x pp) (e::es) [] uG) (Ad (Af p Fn) fa):=by
 refine AH (Jbg G hr lk ha hg aY he aG) λU H Q aj => ?_
 let{F,B,fs,ok,s}:= aj;refine{F,B,fs,ok,As s λrs ae F1 H1 us l q s1=>?_};unfold Af at s1;split at s1
 next hp=>rw[<- hp];exact GX q s1
 .exact s1.tU
structure ExT1(K:Fg)(mg:Zsv)(x:tO):Prop where
 ex:∃C,nsIn K uO x=p' (p' (.t8 C))/\CD K x=p' C/\excIn K C ZO "ValueError.__new__"=true
def Dm (c:tO)(fa:tq):FS->SO:=λfs=>SO.of (fa fs) λrs fs=>if rs.fg<=1000 then .wy c fs else .ur
def To(c:ExT1 X.K X.mg x)(l:LkD X Z)(hc:X.calm=true)(ha:FA X Z (e::es) fa)(hg:Gl X x:=by rfl)(aY:Zdb x:=by decide)
  (he:Zsc X.uh e es:=by rfl) (aG:Zbt X.uh ax es:=by rfl) :
  GS X Z (.Raise (p' (.vM (.uE x np) (e::es) [] ax)) none uG) (Dm x fa):=by
 let{C,h1,h2,h3}:=c.ex;refine BS (Sr {h1,h3} l.d.ex hc l.k ha hg aY he aG) λD U H aj => ?_
 let{F,B,fs,ok,s}:= aj;refine{F,B,fs,ok,BU s λrs ae F1 H1 us l q s1=>?_};split at s1
 next hl=>exact{by rw[q.2.wv];exact hl,F1,B,ae,x,C,h2,rfl,q.1,s1}
 .exact s1.tU
def YW (K:Fg)(ds:tH tO)(tab:tO->tO->uz)(c:tO):uz:=match CD K c with
 |p' C=>excIn K C ZO "ValueError.__new__"&&(findIn K (.t8 C) "__getattribute__"==p' (p' (.uM "BaseException.__getattribute__")))&&(findIn K (.t8 C) "__getattr__"==p' none) &&
  (findIn K (.t8 C) "__class__"==p' (p' (.uM "object.__class__")))&&(PySem.W.specialIn K (.uM "object.__class__") "__get__"==p' (p' (.uM "getset_descriptor.__get__")))&&(PySem.W.takesIn K (.uM "object.__class__")==p' true) &&
  (mroIn K C (.uJ "object")==p' true)&&(mroIn K C (.uJ "BaseException")==p' true)&&(clsIn K C).u8&&(kitOne K (.t8 C) (.uJ "ValueError")==p' true) &&
  ds.all λd=>match CD K d with|p' D=>(kitOne K (.t8 C) (.t8 D)==p' (tab c d))&&(!tab c d||exmOne K (.t8 C) (.t8 D)==p' true)|none=>false
 |none=>false
def exAll (K:Fg)(rs ds:tH tO)(tab:tO->tO->uz):uz:=rs.all (YW K ds tab)&&ds.all λd=>(CD K d).u8
structure N9(K:Fg)(mg:Zsv)(rs ds:tH tO)(tab:tO->tO->uz):Prop where
 k:∀c∈rs,∀C,CD K c=p' C->PySem.W.ExK K C/\(clsIn K C).u8=true
 uI:∀c∈rs,∀d∈ds,∀C D,CD K c=p' C->CD K d=p' D->kitOne K (.t8 C) (.t8 D)=p' (tab c d)/\(tab c d=true->exmOne K (.t8 C) (.t8 D)=p' true)
 ve:∀c∈rs,∀C,CD K c=p' C->kitOne K (.t8 C) (.uJ "ValueError")=p' true
 at_:∀c∈rs,∃C,nsIn K uO c=p' (p' (.t8 C))/\CD K c=p' C/\excIn K C ZO "ValueError.__new__"=true
 yu:∀d∈ds,∃D,mg d=p' (.t8 D)/\CD K d=p' D
def V0{c:tO}(e:CD K c=p' C):nsIn K uO c=p' (p' (.t8 C)):=by
 unfold CD at e;split at e
 next D q=>cases e;exact q
 .cases e
meta def cls_mg{h:uS}{c:tO}(X:K.In h)(G:h.Ns uO mg)(e:CD K c=p' C):mg c=p' (.t8 C):=mg_of X G (V0 e)
def N9.of{h:uS}{rs ds:tH tO}{tab:tO->tO->uz}(X:K.In h)(G:h.Ns uO mg)(e:exAll K rs ds tab=true):N9 K mg rs ds tab:=by
 unfold exAll at e;rw[oB]at e;let{e1,e2}:=e;have one:∀c∈rs,∀C,CD K c=p' C->excIn K C ZO "ValueError.__new__"=true/\PySem.W.ExK K C/\(clsIn K C).u8=true/\kitOne K (.t8 C) (.uJ "ValueError")=p' true /\
   ∀d∈ds,∀D,CD K d=p' D->kitOne K (.t8 C) (.t8 D)=p' (tab c d)/\(tab c d=true->exmOne K (.t8 C) (.t8 D)=p' true):=λc hc C hC=>by
  have q:=pH.mp e1 c hc;unfold YW at q;rw[hC]at q;simp![oB,beq_iff_eq]at q;let{ { { { { { { { { {q1,q2},q3},q4},q5},q6},q7},q8},q9},l9},me}:=q;refine{q1,{q2,q3,q4,q5,q6,q7,q8},q9,l9,λd hd D hD=>?_};have z:=pH.mp me d hd;rw[hD]at z;simp![oB,beq_iff_eq]at z;refine{z.1,λht=>?_};have z2:=z.2;rw[ht]at z2;simpa using z2
 refine{λc hc C hC=>{(one c hc C hC).2.1,(one c hc C hC).2.2.1},λc hc d hd C D hC hD=>(one c hc C hC).2.2.2.2 d hd D hD,λc hc C hC=>(one c hc C hC).2.2.2.1,λc hc=>?_,λd hd=>?_}
 .have q:=pH.mp e1 c hc;unfold YW at q;cases hC:CD K c with|none=>rw[hC]at q;cases q|p' C=>exact{C,V0 hC,rfl,(one c hc C hC).1}
 .let{D,hD}:=qm.mp (pH.mp e2 d hd);exact{D,cls_mg X G hD,hD}
def N9.t1(t:N9 K mg rs ds tab)(h:c∈rs):ExT1 K mg c:=⟨t.at_ c h⟩
variable{p:Pos}{cs ds:List Str}{tab:Str->Str->Bool}
def itV (f:tm):tB:=λfs=>(f fs).bnd λr fs=>match r with|.t (.tY ts)=>.ok ts.vn fs|_=>.ur
def fi_rev{l:v7}(cI:X.mg "reversed"=none)(hl:FE X Z l f)(cH:Gl X "reversed":=by rfl)(df:Zs1 X.uh l:=by rfl):
  FI X Z tg (.vM (.uE "reversed" p2) [l] [] aP) (itV f):=by
 refine Fc (Vh cI hl cH df).pi λU H Q aj => ?_
 let{F,B,fs,ok,s}:= aj;refine{F,B,fs,ok,AB s λr ae F1 H1 u l av rx s1=>?_};split at s1
 .rename_i ts;simp![CQ,AK]at rx;let{a,vs,rfl,ff,hs,r}:=rx;refine{a,vs,rfl,SqL.of hs,s1 F1 H1 _ Le.uV {av,λF' H' l _ i=>?_} };have r':=Ai.lf l r;have bx:SqL X.K H' a vs:=SqL.of ((l a ff).2.trans hs);have hl:=r.wv;refine{λt et=>?_,λbb=>by show vs.fg<=i;rw[hl,<- qE];exact bb};have hi:i<ts.fg:=by have:=(ou.mp et).1;simpa using this
  rw[tH.getElem?_reverse hi]at et;let{v,ev,rv}:=r'.at et;rw[<- hl]at ev;refine{ {by lia,vs,v,bx,rfl,ev},λx cB hy=>stays hy.1 ?_};have:=hy.2 vs bx;rw[ev]at this;cases this;exact rv
 .exact s1.tU
variable{p j:Nat}{cp fp jp:Pos}{m a:Str}{v:Expr}
def Bd (C:tV)(m:tO)(p:tQ)(Fn:tm)(fo:tm)(fa:tq):tm:=λfs=>(fo fs).bnd λx fs=>if Cw C m fs x=true then(fa fs).u9 λrs fs=>Af p Fn (x::rs) fs else .ur
def fe_mtX(G:Zz X.ub X.w X.K X.mg X.uk (CX1 X.ub X.w) C m k ps (spX X.K p Fn))(hr:Di k X.A)(lk:Lks X Z)(ho:FE X Z o fo)(ha:FAn X Z (e::es) fa)
  (dW:Zsc X.uh e es:=by rfl) (aG:Zbt X.uh uG es:=by rfl)
  (ht:wD (.vM (.ut o m aw) (e::es) [] uG) X.uh=(do
   let ov <- wD o X.uh
   standAt aw.atName
   let(f,first) <- holding [ov] (getMethod ov m pl)
   callWith uG f first (backTo uG (vD (e::es) X.uh)) (backToKw uG (keywordEach [] X.uh))):=by rfl) :
  FE X Z (.vM (.ut o m aw) (e::es) [] uG) (Bd C m p Fn fo fa):=by
 refine AH (Vj G hr lk ho ha dW aG ht) λU H Q aj => ?_
 let{F,B,fs,ok,s}:= aj;refine{F,B,fs,ok,AB s λr ae F1 H1 u l av rx s1=>?_};split at s1
 .rename_i hi;let{a,dx,ag,rfl,hd,hn}:=MA av rx hi;refine{a,dx,ag,rfl,hd,hn,F1,B,ae,av,As s1 λrs aq F2 H2 us l2 q s2=>?_};unfold Af at s2;split at s2
  next hp=>rw[<- hp];exact have z:=q.vY (rx.le l2);GX z.1 (sat.le s2 z.2)
  .exact s2.tU
 .exact s1.tU
def YK(G:Zz X.ub X.w X.K X.mg X.uk (CX1 X.ub X.w) C m k ps (spX X.K p Fn))(hr:Di k X.A)(ho:FE X Z o fo)
  (h:∀{ta:TE},PE X o ta->PE X (.vM (.ut o m aw) [] [] uG) (Wy C m (spX X.K p Fn) [] E0 ta Jal)):FE X Z (.vM (.ut o m aw) [] [] uG) (Dg C m p Fn fo Ae):=by
 refine AH (h ho) λU H Q aj => ?_
 let{F,B,fs,ok,s}:= aj;refine{F,B,fs,ok,AB s λr ae F1 H1 u l av rx s1=>?_};split at s1
 .rename_i hi;let{a,dx,ag,rfl,hd,hn}:=MA av rx hi;refine{a,dx,ag,rfl,hd,hn,?_};have s2:sat Z B (RR X.K B U) F1 H1 (Lq p Fn [r] ae) Q:=s1;unfold Lq at s2;split at s2
  next hp=>rw[<- hp];exact have z:=RAn.vY (vs:=[]) {av,rfl,nofun} rx;Uy z.1 (sat.le s2 z.2)
  .exact s2.tU
 .exact s1.tU
def fe_mkX(G:MkAt X.ub X.w X.K X.mg X.uk (CX1 X.ub X.w) x C k ps (spX X.K p Fn))(hr:Di (k+1) X.A)(ha:FAn X Z (e::es) fa)(hg:Gl X x:=by rfl)(aY:Zdb x:=by decide)
  (he:Zsc X.uh e es:=by rfl) (aG:Zbt X.uh uG es:=by rfl):FE X Z (.vM (.uE x pp) (e::es) [] uG) (Ad (CK C p Fn) fa):=by
 refine AH (pe_mk G hr Jbi ha hg aY he aG) λU H Q aj => ?_
 let{F,B,fs,ok,s}:= aj;refine{F,B,fs,ok,As s λrs ae F1 H1 us l q s1=>?_};intro a dx h1 h2 h3;rw[oJ];exact S4 q s1 h1 h2 h3
def ft_neT{a:v7}{fa:tm}(hu:X.A.vF+61<wc)(ha:FE X Z a fa)(hb:FE X Z b fb):FT X Z (.vW a [.NotEq] [b] uG) (wk (Ag (MG true) fa fb)):=Cr (PC true hu) Pw ha hb (Cf _)
def ZK :tH Rv->tm
 | [x],fs=>match(BD fs x).u9 Lz with|p' ns=>okT (.l (ns.any id)) fs|none=>.ur
 |_,_=>.ur
meta def cf_any:Cn K Z (λxs H Q=>∃(l:tV)(bs:tH uz),xs=[.t8 l]/\SqL K H l (bs.tJ V.l)/\Q (.l (bs.any id)) H) ZK:=by
 intro F B H U fs rs vs Q ok q s;unfold ZK at s;split at s
 .let{v,rfl,qq}:=Bi q;split at s
  next ns e=>rw[oE]at e;let{ts,e1,e2}:=e;let{a,us,rfl,hs,r}:=Bb ok qq e1;rw[Jd e2]at r;rw[Ai.bls r]at hs;exact{a,ns,rfl,hs,s F H _ Le.uV (RR.of ok rfl)}
  .exact s.tU
 .exact s.tU
variable{a:Expr}{p aI:Pos}
def fe_any(hm:X.mg "any"=none)(ha:FA X Z (e::es) fa)(hc:X.calm=true:=by rfl)(hg:Gl X "any":=by rfl)(he:Zsc X.uh e es:=by rfl)(aG:Zbt X.uh uG es:=by rfl):
  FE X Z (.vM (.uE "any" p) (e::es) [] uG) (Ad ZK fa):=DR cf_any (Uw hc) hm boot_any ha hg ZB ZB he aG
variable{v1 v2:Expr}{gs:List (tm)}
def ft_eqT{fa}(hu:X.A.vF+61<wc)(ha:FE X Z a fa)(hb:FE X Z b fb):FT X Z (.vW a [.Eq] [b] uG) (wk (Ag (MG false) fa fb)):=Cr (PC false hu) Vq ha hb (Cf _)
def atomT :T->uz
 |.vG=>true
 |.l _=>true
 |.tS _=>true
 |.str _=>true
 |_=>false
def AK.atom{v}(e:atomT t=true)(h:AK K F H t v):AK K F' H' t v/\∀b,v≠.t8 b:=by cases t<;>cases e<;>cases h<;>exact{rfl,λ_=>nofun}
variable{p:Nat}
def IB :tj:=Od true
def Xv:OpF K Z (λx y H Q=>y=.vG/\Q (.l (!decide (x=.vG))) H) IB:=by
 intro F B H U fs x y u w Q ok rx ry s;unfold IB Od at s;split at s
 .split at s
  next b e=>exact{ry,Mz ok rx e▸s F H _ Le.uV (RR.of ok rfl)}
  .exact s.tU
 .exact s.tU
variable{fa:tm}
def QH(ha:FE X Z a fa)(hb:FE X Z b fb):FT X Z (.vW a [.IsNot] [b] uG) (wk (Ag IB fa fb)):=Cr Xv Xn ha hb (Cf _)
variable{f:Str}{fe:tm}
def Ie (C:tV)(f:tO)(i:tQ):tm:=λfs=>match Ax fs i with|p' (.vE C' gs os)=>if C'=C then(match A4 gs os f with|p' (.la p ts)=>(match ts.getLast? with|p' t=>.ok (.t t) (vA fs i (.vE C gs (B0 gs os f (.la p ts.vf))))|none=>.ur)|_=>.ur)else .ur|_=>.ur
def T3(c:Cls X.K C)(n:AR X.K C f)(i:tQ)(hx:PE X (.uE x p1) (KP i))(cX:Zab X.uh (.uE x p1) f:=by rfl)
  (aD:attributeBase (.ut (.uE x p1) f p2) "pop" X.uh (wD (.ut (.uE x p1) f p2) X.uh)=wD (.ut (.uE x p1) f p2) X.uh:=by rfl) (aE:(aw.endLine==ax.line)=true:=by rfl) :
  FE X Z (.vM (.ut (.ut (.uE x p1) f p2) "pop" aw) [] [] ax) (Ie C f i):=by
 refine AH (Vm plainAttrs_list slot_list_pop type_list_pop PM (Fe hx cX) aD aE) λU H Q aj=>?_
 let{F,B,fs,ok,s}:= aj;unfold Ie at s;split at s
 .rename_i C' gs os eo;split at s
  .rename_i hC;subst hC;split at s
   .rename_i p ts ef;split at s
    next t et=>let{a,dx,ag,_,vs,a1,hd,rfl,e1,{rfl,hp},rt,bk}:=ok.TU eo ef rfl;let{z,ez,rz,rd}:=Ai.last rt et;let{bF,l'}:=bk (.la _ ts.vf) _ _ _ (.tY vs.vf) rfl {rfl,rfl} rd;exact{_,a1,a,C',dx,ag,.t8 _,rfl,hd,c,n,e1,.uW {rfl,vs,SqL.of hp},_,_,z,rfl,rfl,by rw[<- ez];exact hp,s F _ z l' (RR.of bF (rz.le l'))}
    .exact s.tU
   .exact s.tU
  .exact s.tU
 .exact s.tU
def C7 (C:tV)(f:tO)(i:tQ)(fe:tm):tm:=λfs=>match Ax fs i with
 |p' (.vE C' gs os)=>if C'=C then(match A4 gs os f with
  |p' (.la p _)=>(fe fs).bnd λr ae=>(match r,Ax ae i with|.t t,p' (.vE C2 fT h8)=>if C2=C then(match A4 fT h8 f with|p' (.la p2 cj)=>if p2=p/\cj.fg<big then .ok (.t .vG) (vA ae i (.vE C fT (B0 fT h8 f (.la p (cj++[t])))))else .ur|_=>.ur)else .ur|_,_=>.ur)
  |_=>.ur)else .ur
 |_=>.ur
def T8(c:Cls X.K C)(n:AR X.K C f)(i:tQ)(hx:PE X (.uE x p1) (KP i))(he:FE X Z e fe)(cX:Zab X.uh (.uE x p1) f:=by rfl)
  (aD:attributeBase (.ut (.uE x p1) f p2) "append" X.uh (wD (.ut (.uE x p1) f p2) X.uh)=wD (.ut (.uE x p1) f p2) X.uh:=by rfl)
  (b6:((backTo ax (vD [e] X.uh)).all (λx=>!x.1)&&(backToKw ax (keywordEach [] X.uh)).all (λx=>x.1.u8)
  &&decide (([e]:tH v7).fg+([]:tH Keyword).fg+(if([]:tH Keyword).vb then 0 else 1)<30))=true:=by rfl)
  (aE:(aw.endLine==ax.line)=true:=by rfl) (hs:vD [e] X.uh=(false,wD e X.uh)::vD [] X.uh:=by rfl) :
  FE X Z (.vM (.ut (.ut (.uE x p1) f p2) "append" aw) [e] [] ax) (C7 C f i fe):=by
 refine AH (Xi plainAttrs_list PySem.F.slot_list_append PySem.F.type_list_append Gn (Fe hx cX) (D7 he JH hs) aD b6 aE hs) λU H Q aj=>?_
 let{F,B,fs,ok,s}:= aj;unfold C7 at s;split at s
 .rename_i C' gs os eo;split at s
  .rename_i hC;subst hC;split at s
   .rename_i p ts ef;let{a,dx,ag,_,vs,a1,hd,rfl,e1,{rfl,hp},rt,_}:=ok.TU eo ef rfl;refine{_,a1,a,C',dx,ag,.t8 _,rfl,hd,c,n,e1,.uW {rfl,vs,SqL.of hp},F,B,fs,ok,AB s λr ae F1 H1 u l av rx s1=>?_};split at s1
    .rename_i t C2 fT h8 kz;split at s1
     .rename_i kI;subst kI;split at s1
      .rename_i p2 cj ku;split at s1
       next aG=>let{rfl,hl}:=aG;let{a',fQ,cL,_,bH,mS,bP,rfl,m9,{rfl,gi},fL,bk}:=av.TU kz ku rfl;let{bF,l'}:=bk (.la _ (cj++[t])) _ _ _ (.tY (bH++[u])) rfl {rfl,rfl} (fL.app (Ai.one rx));exact{_,bH,u,rfl,rfl,gi,by rw[fL.wv];exact p8 hl Fi,s1 F1 _ .vG l' (RR.of bF rfl)}
       .exact s1.tU
      .exact s1.tU
     .exact s1.tU
    .exact s1.tU
   .exact s.tU
  .exact s.tU
 .exact s.tU
def Nv (C:tV)(f:tO)(i:tQ):tw:=λfs=>match Ax fs i with|p' (.vE C' gs os)=>if C'=C then(match A4 gs os f with|p' (.la _ ts)=>.ok (!ts.vb) fs|_=>.ur)else .ur|_=>.ur
def TN(c:Cls X.K C)(n:AR X.K C f)(i:tQ)(hx:PE X (.uE x p1) (KP i))(cX:Zab X.uh (.uE x p1) f:=by rfl)
  (he:∀aQ,isTrue (.ut (.uE x p1) f p2) X.uh aQ=(do let v <- aQ;standAt (v7.ut (.uE x p1) f p2).uG;holding [v] (truthy v))):FT X Z (.ut (.uE x p1) f p2) (Nv C f i):=by
 refine JC (L8 (Fe hx cX) he) λU H Q aj=>?_
 let{F,B,fs,ok,s}:= aj;unfold Nv at s;split at s
 .rename_i C' gs os eo;split at s
  .rename_i hC;subst hC;split at s
   next p ts ef=>let{a,dx,ag,_,vs,a1,hd,rfl,e1,{rfl,hp},rt,_}:=ok.TU eo ef rfl;exact{_,a1,a,C',dx,ag,.t8 _,rfl,hd,c,n,e1,_,.uW {vs,SqL.of hp,(Cg rt.wv).symm},s F H _ Le.uV {ok,rfl} }
   .exact s.tU
  .exact s.tU
 .exact s.tU
variable{p3 p4 p5 p6:Pos}
def Qh (C:tV)(f:tO)(i:tQ):tm:=λfs=>match Ax fs i with|p' (.vE C' gs os)=>if C'=C then(match A4 gs os f with|p' (.la _ (t::_))=>okT t fs|_=>.ur)else .ur|_=>.ur
def T4(c:Cls X.K C)(n:AR X.K C f)(i:tQ)(hx:PE X (.uE x p1) (KP i))(hs:Jg (.Constant (.tS 0) j ax))(cX:Zab X.uh (.uE x p1) f:=by rfl):
  FE X Z (.vz (.ut (.uE x p1) f p2) (.Constant (.tS 0) j ax) uG) (Qh C f i):=by
 refine AH (Jbf Qf (Fe hx cX) Me hs) λU H Q aj=>?_
 let{F,B,fs,ok,s}:= aj;unfold Qh at s;split at s
 .rename_i C' gs os eo;split at s
  .rename_i hC;subst hC;split at s
   next p t ts ef=>let{a,dx,ag,_,vs,a1,hd,rfl,e1,{rfl,hp},rt,_}:=ok.TU eo ef rfl;let{w,r,rfl,bU,_}:=rt;exact{_,a1,a,C',dx,ag,.t8 _,rfl,hd,c,n,e1,_,w::r,0,w,rfl,rfl,SqL.of hp,A0 rfl,s F H w Le.uV (RR.of ok bU)}
   .exact s.tU
  .exact s.tU
 .exact s.tU
def OE (C:tV)(f:tO)(i:tQ)(k:tN):FS->SO:=λfs=>match Ax fs i with|p' (.vE C' gs os)=>if C'=C/\gs.fg<900 then(match A4 gs os f with|p' (.vm (.tS n))=>(match Dp gs os f (.vm (.tS (n-k)))with|p' p=>.nx (vA fs i (.vE C p.1 p.2))|none=>.ur)|_=>.ur)else .ur|_=>.ur
def Ti(c:Cls X.K C)(n:AR X.K C f)(i:tQ)(hx:PE X (.uE x p1) (KP i)):
  GS X Z (.AugAssign (.ut (.uE x p1) f p2) .Sub (.Constant (.tS k) j ax) uG) (OE C f i k):=by
 refine BS (Pb hx Me Jb6) λD U H aj=>?_
 let{F,B,fs,ok,s}:= aj;unfold OE at s;split at s
 .rename_i C' gs os eo;split at s
  .rename_i hC;let{rfl,hl}:=hC;split at s
   .rename_i m ef;split at s
    next p ep=>let{a,dx,ag,v0,k0,b1,bd,rfl,be,br,_}:=ok.fld eo ef;cases br.t;let{a',fQ,cL,F',c1,c2,c3,l',bF}:=RR.store (r:=.t (.tS (m-k))) {ok,rfl} eo rfl ep;rw[b1]at c1;cases c1;rw[bd]at c2;cases c2;exact{_,b1,a,C',dx,ag,.tS m,rfl,bd,c,n,be,m,k,rfl,rfl,dx,ag,bd,by rw[nU]at hl;lia,s F' _ U l' bF}
    .exact s.tU
   .exact s.tU
  .exact s.tU
 .exact s.tU
def asDO :FO->tL (tH vc×tH FO)
 |.v [] []=>p' ([],[])
 |.dO ks os=>p' (ks,os)
 |_=>none
def Zu{o}{p}(e:asDO o=p' p):o.vw=p' (.v p.1,p.2):=by unfold asDO at e;split at e<;>cases e<;>rfl
def Ic{v}{k:vc}(h:k∉ag.tJ (·.1)):putK ag k v=ag++[(k,v)]:=by unfold putK;rw[ug];intro z;let{q,hq,e}:=qQ.mp z;exact h (oa.wO {q,hq,oy e})
def GJ (C:tV)(f:tO)(i jy:tQ):FS->SO:=λfs=>match Ax fs i,fs[jy]? with|p' (.vE C' gs os),p' (p' (.vm y))=>if C'=C then(match A4 gs os f,EJ y with|p' o,p' k=>(match asDO o with|p' (ks,ds)=>if ks.fg<big/\(ks.any λq=>decide (q=k))=false then .nx (vA fs i (.vE C gs (B0 gs os f (.dO (ks++[k]) (ds++[.v [] []])))))else .ur|none=>.ur)|_,_=>.ur)else .ur|_,_=>.ur
meta def Tq(hu:X.A.vF+1<wc)(c:Cls X.K C)(n:AR X.K C f)(i jy:tQ)(hx:PE X (.uE x p1) (KP i))(hy:PE X (.uE y p3) (KP jy))(cX:Zab X.uh (.uE x p1) f:=by rfl)
  (hs:swapsWith (.Dict [] [] p5) (p' (.vz (.ut (.uE x p1) f p2) (.uE y p3) p4)) uG.line X.uh=wx false:=by rfl) :
  GS X Z (.Assign [.vz (.ut (.uE x p1) f p2) (.uE y p3) p4] (.Dict [] [] p5) uG) (GJ C f i jy):=by
 refine BS (K0 hu (Fe hx cX) hy Mf hs) λD U H aj=>?_
 let{F,B,fs,ok,s}:= aj;unfold GJ at s;split at s
 .rename_i C' gs os y' eo ey;split at s
  .rename_i hC;subst hC;split at s
   .rename_i o k ef ek;split at s
    .rename_i ks ds ed;split at s
     .rename_i hk;intro p hp;let{a,dx,ag,v,m,a1,hd,rfl,e1,r1,bk}:=ok.fld eo ef;let{b,_,rfl,fb,{bu,hb,rfl,rfl},hl,rc}:=r1.inv (Zu ed);have ne:∀{z τ},F.o z=τ->τ≠.no->τ≠.j true i [m]->(F.tag p (.j true i [ds.fg,m])).o z=τ/\vi (vi H p (.v [])) b (.v (bu++[(k,.t8 p)])) z=H z:=λ{z τ} h h1 h2=>by have q1:=ok.vJ hp (by rwa[h]);exact{(Br q1).trans h,by rw[Ap (λq=>h2 (by rw[<- h,q,fb])),Ap q1]}
      have pb:p≠b:=(ok.vJ hp (by rw[fb];nofun)).symm;have l:Le F H (F.tag p (.j true i [ds.fg,m])) (vi (vi H p (.v [])) b (.v (bu++[(k,.t8 p)]))):={λz h=>ne h nofun nofun,λz h=>ne h nofun nofun}
      let{uy,e6,ry}:=ok.sl _ _ ey;cases CS ek ry;refine{_,a1,a,C',dx,ag,.t8 b,rfl,by rw[Ap λq=>by rw[q,hp]at hd;cases hd];exact hd,c,n,e1,kV k,e6,b,_,rfl,Oh.k (by rw[Ap pb.symm];exact hb) (by have:=hk.1;rw[nU]at this;exact p8 this Fi),?_};rw[Ic (λm=>by have:=qa.mp hk.2 k m;simp at this)];exact s _ _ U l (bk _ _ (.dO (bu.tJ (·.1)++[k]) (ds++[.v [] []])) l.f (λz j ρ h h2=>ne h nofun λq=>by cases q;exact h2 [] {rfl,rfl}) (λz h=>(Br (Bo (Bo h).2).1).trans (ok.td z (Bo (Bo h).2).2)) (.nd rfl ((Br pb.symm).trans fb) (by rw[Aq];exact{_,rfl,by simp,rfl}) (by simpa using hl) λj o v g1 g2=>by
       rw[nW,tH.getElem?_append]at g2;rw[tH.getElem?_append]at g1;rw[hl]at g2;split at g1
       next hj=>rw[tW hj]at g2;exact(rc j o v g1 g2).mv (λz ρ h=>ne h nofun λq=>by simpa using uC tH.fg (Tg.j.inj q).2.2) l.f
       .rename_i hj;rw[ug hj]at g2;have ej:j-ds.fg=0:=by cases q:j-ds.fg<;>simp_all
        rw[ej]at g1 g2;cases g1;cases g2;have:j=ds.fg:=by lia
        subst this;exact .of rfl Bh (by rw[Ap pb,Aq];exact{[],rfl,rfl,rfl}) rfl))
     .exact s.tU
    .exact s.tU
   .exact s.tU
  .exact s.tU
 .exact s.tU
def itI (f:tm):tB:=λfs=>(f fs).bnd λr fs=>match r with|.t (.dF ks ts)=>.ok (v6 (ks.tJ JS) ts) fs|_=>.ur
def itVT (f:tm):tB:=λfs=>(f fs).bnd λr fs=>match r with|.t (.uj ts)=>.ok ts.vn fs|_=>.ur
def GN (fa:tq):tm:=λfs=>(fa fs).u9 λrs fs=>match rs with| [.t x,.t y]=>(match KY x,KY y with|p' xs,p' ys=>(match Df xs with|p' ks=>if ks.uA/\ks.fg=ys.fg then .ok (.nw (.v ks ys)) fs else .ur|none=>.ur)|_,_=>.ur)|_=>.ur
def maxD (d:tN)(fa:tq):tm:=λfs=>(fa fs).u9 λrs fs=>match rs with| [x]=>(match(BD fs x).u9 Fl with|p' ns=>okT (.tS (mxD d ns)) fs|none=>.ur)|_=>.ur
def VF (x:T):tH T->tL uz
 | []=>p' false
 |y::ys=>(eqT 9 y x).u9 λb=>(VF x ys).tJ (b||·)
def NQ :tj:=λx y fs=>match x with|.t x=>(match(BD fs y).u9 (VF x)with|p' b=>okT (.l !b) fs|none=>.ur)|_=>.ur
def Ct (fs:FS):FS:=fs.tJ λs=>match s with|p' (.vm t)=>p' (.vm t)|_=>none
def Gk (j:tQ)(f:tm):tm:=λfs=>match Ax fs j with|p' o=>(match f ((Ct fs).wJ j (p' (.vm (toT o))))with|.ok (.t t) _=>if atomT t=true then .ok (.t t) fs else .ur|.wy c τ=>.wy c τ|_=>.ur)|none=>.ur
def HQ :tH vc->tH FO->vc->tL FO
 |k::ks,o::os,j=>if k=j then p' o else HQ ks os j
 |_,_,_=>none
def Ju :tH vc->tH FO->vc->FO->tH FO
 |k::ks,o::os,j,x=>if k=j then x::os else o::Ju ks os j x
 |_,os,_,_=>os
def dput2 (C:tV)(f:tO)(i jy jz:tQ)(fv:tm):FS->SO:=λfs=>SO.of (fv fs) λr fs=>match r with|.t t=>(match Ax fs i with|p' (.vE C' gs os)=>(match fs[jy]? with|p' (p' (.vm y))=>(match fs[jz]? with|p' (p' (.vm z))=>if C'=C then(match A4 gs os f with|p' (.dO ks ds)=>(match EJ y with|p' k=>(match EJ z with|p' k2=>(match HQ ks ds k with|p' (.v cQ cj)=>if cQ.fg<big then .nx (vA fs i (.vE C gs (B0 gs os f (.dO ks (Ju ks ds k (.v (Fp cQ cj k2 t).1 (Fp cQ cj k2 t).2))))))else .ur|_=>.ur)|none=>.ur)|none=>.ur)|_=>.ur)else .ur|_=>.ur)|_=>.ur)|_=>.ur)|_=>.ur
def Oa (A:tQ->tV):tQ->tH FO->tH FO
 |_,[]=>[]
 |i,.tY ts::os=>.la (A i) ts::Oa A (i+1) os
 |i,o::os=>o::Oa A (i+1) os
open Classical in
def newMeth (C:tV)(m:tO)(p:tQ)(Fn:tm)(fo:tm)(fa:tq):tm:=λfs=>(fo fs).u9 λr fs=>match r with
 |.nw (.vE C' gs os)=>if C'=C/\gs.any (·==m)=false then(fa fs).u9 λrs fs =>if ∀A,Af p Fn (.nw (.vE C gs (Oa A 0 os))::rs) fs=Af p Fn (.nw (.vE C gs (Oa (λi=>i) 0 os))::rs) fs then Af p Fn (.nw (.vE C gs (Oa (λi=>i) 0 os))::rs) fs else .ur
  else .ur
 |_=>.ur
end Lake.FL
namespace Lake.L2
open PySem PySem.Spec
end Lake.L2
namespace Lake.FL
open PySem PySem.Spec L2
variable{X:Cx}{Z:Xp}{tg l o a b e:Expr}{f fa fb:tm}{g:tq}{p1 p2 pos bo aP aw ax bV kp cp:Pos}{eV:List Expr}{k0 j:Nat}{d:Int}
def TV(ho:FE X Z o f)(aD:Zab X.uh o "items":=by rfl)(aE:(aw.endLine==ax.line)=true:=by rfl):
  FI X Z (.Tuple eV k0 bV) (.vM (.ut o "items" aw) [] [] ax) (itI f):=by
 refine Fc (SE ho aD aE) λU H Q aj => ?_
 let{F,B,fs,ok,s}:= aj;refine{F,B,fs,ok,AB s λr ae F1 H1 u l av rx s1=>?_};split at s1
 .rename_i ks ts;let{a,ag,rfl,ff,{ob,hd},rfl,r}:=rx;refine{a,ob,ag,rfl,hd,s1 F1 H1 _ Le.uV {av,λF' H' l {B2,aq,eT,aL} i=>?_} };have bP:=(l a ff).2.trans hd;have hl:=r.wv;rw[nU]at hl;refine{λt et=>?_,λbb=>{bP,?_} }
  .let{x,y,ex,ey,rfl}:=pairs_at et;rw[oq,n8]at ex;let{k,ek,rfl}:=ex;let{v,ev,rv}:=(Ai.lf l r).at ey;rw[oq,n8]at ek ev;let{q,eq,rfl}:=ek;let{q2,eq2,rfl}:=ev;rw[eq]at eq2;cases eq2;refine{ {bP,(ou.mp eq).1},λx cB hy=>?_};let{T,k',v',hn,rfl,rfl,e3}:=hy;rw[eq]at e3;cases e3;refine{F'.tag T .fz,{aL.Ea hn,λB fs U k=>k.alloc hn},?_};refine{T,_,rfl,{rfl,Bh,Aq},_,_,rfl,?_,_,_,rfl,rv.le (aL.Ea hn),rfl};cases k'<;>rfl
  .rcases pairs_len bb with h|h
   .simpa using h
   .lia
 .exact s1.tU
def Qk(cI:X.mg "reversed"=none)(hl:FE X Z l f)(cH:Gl X "reversed":=by rfl)(df:Zs1 X.uh l:=by rfl):
  FIt X Z (.vM (.uE "reversed" p2) [l] [] aP) "reversed" (itVT f):=by
 refine{_,λtg=>Xa cI hl cH df,λU H Q {F,B,fs,ok,s}=>{F,B,fs,ok,AB s λr ae F1 H1 u l av rx s1=>?_} };split at s1
 .rename_i ts;simp![CQ,AK]at rx;let{a,vs,rfl,hs,r}:=rx;refine{a,vs,rfl,hs.sq,s1 F1 H1 _ Le.uV {av,λF' H' l _ i=>?_} λ_ _ _ _ i I {h,xs,_,q,e,_}=>by let{_,_,_,z}:=I.wz q;lia};have r':=Ai.lf l r;have bx:SqT X.K H' a vs:=SqT.of ((l a hs.2.1).2.trans hs.2.2);have hl:=r.wv;refine{λt et=>?_,λbb=>{by rw[hl,<- qE];exact bb,vs,bx,rfl} };have hi:i<ts.fg:=by have:=(ou.mp et).1;simpa using this
  rw[tH.getElem?_reverse hi]at et;let{v,ev,rv}:=r'.at et;rw[<- hl]at ev;refine{ {by lia,vs,v,bx,rfl,ev},λx cB hy=>stays hy.1 ?_};have:=hy.2 vs bx;rw[ev]at this;cases this;exact rv
 .exact s1.tU
def LR:∀{xs:tH T}{ks:tH vc},Df xs=p' ks->ks.fg=xs.fg/\∀(i:tQ)(x:T),xs[i]?=p' x->∃k,ks[i]?=p' k/\EJ x=p' k
 | [],_,e=>by cases e;simp
 |t::ts,_,e=>by simp![Df,oE,n8]at e;let{k,e1,ks,e2,rfl}:=e;let{l,h}:=LR e2;refine{by simp[l],λi x e=>?_};cases i with|zero=>cases e;exact{k,rfl,e1}|succ i=>exact h i x e
def DP (K:Fg)(ks:tH vc)(ys:tH T)(i:tQ)(o:HO)(F:Wd)(H:Hp):Prop:=∃ag,o=.v ag/\ag.tJ (·.1)=ks.uB i/\Ai K F H (ys.uB i) (ag.tJ (·.2))
def Y5(ek:Df xs=p' ks)(nd:ks.uA)(hl:ks.fg=ys.fg)(ok:vN K F B H fs U)(hS:H S=none)(jk:JOk K F H J (v6 xs ys))
  (s:sat Z B (RR K B U) F H (.ok (.nw (.v ks ys)) fs) Q):ItW J S (putD S) (Q (.t8 S)) (vi H S (.v [])):=by
 let{l,ha}:=LR ek;refine JbZ (DP K ks ys) ok hS jk s {[],rfl,rfl,rfl} (λl {vs,e,k,r}=>{vs,e,k,r.lf l}) (λi t x F3 H3 o et rx {ag,e,ke,r} eo=>?_) (λo F' H' {ag,e,ke,r} eo f=>?_) λh {a,k,v,ag,e1,e2,e3,l,q}=>{a,k,v,ag,e1,e2,e3,l,h _ q}
 .let{x,y,ex,ey,rfl}:=pairs_at et;let{k,e1,e2}:=ha i x ex;let{a,_,rfl,st,v,_,rfl,r1,w,_,rfl,r2,rfl}:=rx;have nk:k∉ag.tJ (·.1):=by
   rw[ke];intro m;let{j,hj}:=tH.mem_iff_getElem?.mp m;rw[qI]at hj;split at hj
   .have:=(tH.getElem?_inj (ou.mp hj).1 nd).mp (hj.trans e1.symm)
    lia
   .cases hj
  refine{a,k,w,ag,rfl,CS e2 r1▸st.2.2,e▸eo,(by have:=uC tH.fg ke;simp at this;lia),_,rfl,?_,?_}
  .rw[Ic nk,qJ,e1];simp[ke]
  .rw[Ic nk,qJ,ey];simpa using r.app (Ai.one r2)
 .have hp:(v6 xs ys).fg=ks.fg:=by rw[Ff];lia
  rw[hp]at ke r;rw[pP]at ke;rw[hl,pP]at r;exact .of rfl f {ag,e▸eo,ke,rfl} r
meta def NV(hc:X.calm=true)(dQ:X.mg "dict"=none)(cI:X.mg "zip"=none)(ha:FA X Z [a,b] g)(dJ:Gl X "dict":=by rfl)(cH:Gl X "zip":=by rfl)
  (he:vD [(.vM (.uE "zip" p2) [a,b] [] aP:v7)] X.uh=[(false,wD (.vM (.uE "zip" p2) [a,b] [] aP) X.uh)]:=by rfl) (hs:Zs2 X.uh a b:=by rfl) (bh:Zs1 X.uh b:=by rfl) :
  FE X Z (.vM (.uE "dict" p1) [.vM (.uE "zip" p2) [a,b] [] aP] [] bo) (GN g):=by
 refine AH (Pt (x:="") (p:=p1) hc dQ (Vg cH cI ha hs bh) NF ZB dJ he) λU H Q aj => ?_
 let{F,B,fs,ok,s}:= aj;refine{F,B,fs,ok,As s λrs ae F1 H1 us l q s1=>?_};split at s1
 .rename_i x y;split at s1
  .rename_i xs ys e1 e2;split at s1
   .rename_i ks ek;split at s1
    next hk=>let{av,u,w,rfl,rx,u2,w2,rfl,ry,rfl}:=q;let{b1,a1,vs,rfl,q1,h1}:=HY rx e1;let{b2,a2,ws,rfl,q2,h2}:=HY ry e2;exact{b1,a1,b2,a2,rfl,{vs,h1 F1 H1 λ_ f=>{f,rfl} },{ws,h2 F1 H1 λ_ f=>{f,rfl} },Rb,λS hS=>Y5 ek hk.1 hk.2 av hS (Qd h1 h2 q1 q2) s1}
    .exact s1.tU
   .exact s1.tU
  .exact s1.tU
 .exact s1.tU
def YM(hc:X.calm=true)(hm:X.mg "max"=none)(ha:FA X Z [a] g)(hg:Gl X "max":=by rfl)(he:Zs1 X.uh a:=by rfl):
  FE X Z (.vM (.uE "max" p1) [a] [{p' "default",.Constant (.tS d) j cp,kp}] uG) (maxD d g):=by
 refine AH (Xd hc hm ha hg he) λU H Q aj => ?_
 let{F,B,fs,ok,s}:= aj;refine{F,B,fs,ok,As s λrs ae F1 H1 us l q s1=>?_};split at s1
 .rename_i x;split at s1
  next ns en=>let{av,u,w,rfl,rx,rfl}:=q;rw[oE]at en;let{ts,e1,e2}:=en;let{l,vs,rfl,hq,r}:=Bb av rx e1;have:=G3 e2;subst this;have:=Ai.ints r;subst this;exact{l,ns,rfl,hq,s1 F1 H1 _ Le.uV (RR.of av rfl)}
  .exact s1.tU
 .exact s1.tU
variable{m6 m7:Pos}{j1 j2:Nat}{x1 x2 k1 k2:Str}
def NinS (X:Cx)(H:Hp)(x y:V)(b:uz):Prop:=∀(aa:Zao)(U:St)(s:ud)(u w:tM),uF X aa U H s->vg x u->vg y w->∀(Q:Zcv),Q (.bool !b) s->ue (uf X.ub X.w) X.A (u0 .NotIn u w) Q X.xe s
def Xo:OpR X (u0 .NotIn) (λx y H Q=>∃b,NinS X H x y b/\Q (.l !b) H):=by intro aa s U H x y v u Q I rx ry {b,h,q};exact h aa U s v u I rx ry _ {.l !b,H,I,rfl,q}
def Qo:∀{ys:tH T}{b:uz},VF x ys=p' b->(∀(i:tQ)(y:T),ys[i]?=p' y->∃c,eqT 9 y x=p' c)/\(b=true↔∃(i:tQ)(y:T),ys[i]?=p' y/\eqT 9 y x=p' true)
 | [],b,e=>by cases e;exact{λi y h=>by simp at h,by simp}
 |y::ys,b,e=>by
  simp![VF,oE,n8]at e;let{c,e1,d,e2,rfl}:=e;let{h1,h2}:=Qo e2;refine{λi z h=>?_,?_}
  .cases i with|zero=>simp at h;subst h;exact{c,e1}|succ i=>exact h1 i z (by simpa using h)
  .rw[pW,h2];constructor
   .rintro(h|⟨i,z,h,h'⟩)
    .exact{0,y,rfl,by rw[e1,h]}
    .exact{i+1,z,by simpa using h,h'}
   .intro{i,z,h,h'}
    cases i with|zero=>simp at h;subst h;rw[e1]at h';cases h';exact .uW rfl|succ i=>exact .uK {i,z,by simpa using h,h'}
open Classical in
def SW{b:uz}(hu:X.A.vF+61<wc)(e:VF x ys=p' b)(rx:AK X.K F H x v)(sy:SqL X.K H p vs)(ry:Ai X.K F H ys vs):NinS X H v (.t8 p) b:=by
 intro aa U s u w I qx qy Q q;cases qy;let{uU,vy,pl,hz}:=I.list sy;let{h1,h2}:=Qo e;have key:∀(i:tQ)(z:T),ys[i]?=p' z->∃w',uU[i]?=p' w'/\∀c,eqT 9 z x=p' c->vP.EqAt X.A.in1 s w' u c:=λi z gz=>by let{v1,e1,r1}:=ry.at gz;let{w1,e2,r2}:=vy.get e1;exact{w1,e2,λc hc=>HJ I (by show X.A.vF+1+9<_;lia) hc r1 rx r2 qx}
 have ln:uU.fg=ys.fg:=by rw[<- vy.fg,ry.wv]
 let ee:tM->uz:=λw'=>decide (∃(i:tQ)(z:T),ys[i]?=p' z/\uU[i]?=p' w'/\eqT 9 z x=p' true)
 refine vP.notIn_listAt ee pl.vU (λw' hw=>?_) ?_
 .have lK:=by simpa using hw
  let{i,hi,ei}:=qj lK;have jl:uU[i]?=p' w':=by rw[nX hi,ei]
  by_cases h:∃(i:tQ)(z:T),ys[i]?=p' z/\uU[i]?=p' w'/\eqT 9 z x=p' true
  .let{i,z,g1,g2,g3}:=id h;let{w1,f1,f2}:=key i z g1;rw[g2]at f1;cases f1;rw[show ee w'=true from oV h];exact f2 true g3
  .have gy:ys[i]?=p' (ys[i]'(by lia)):=nX (by lia);let{c,ec}:=h1 i _ gy;let{w1,f1,f2}:=key i _ gy;rw[jl]at f1;cases f1;rw[show ee w'=false from oK h];cases c with|true=>exact(h {i,_,gy,jl,ec}).tU|false=>exact f2 false ec
 .have:uU.tZ.any ee=b:=by
   rw[pO,h2];simp![tH.any_toArray,qQ];constructor
   .intro{w',_,h}
    let{i,z,g1,_,g3}:=oy h;exact{i,z,g1,g3}
   .intro{i,z,g1,g3}
    let{w1,f1,_}:=key i z g1;exact{w1,pJ f1,oV {i,z,g1,f1,g3} }
  rwa[this]
meta def Xw(hu:X.A.vF+61<wc):OpF X.K Z (λx y H Q=>∃b,NinS X H x y b/\Q (.l !b) H) NQ:=by
 intro F B H U fs x y u w Q ok rx ry s;unfold NQ at s;split at s
 .rename_i t;split at s
  next b e=>rw[oE]at e;let{ys,e1,e2}:=e;let{p,vs,rfl,hq,r}:=Bb ok ry e1;exact{b,SW hu e2 rx hq r,s F H _ Le.uV (RR.of ok rfl)}
  .exact s.tU
 .exact s.tU
def Yy(hu:X.A.vF+61<wc)(ha:FE X Z a fa)(hb:FE X Z b fb)(hm:behindInMarks .NotIn b=false:=by rfl):FT X Z (.vW a [.NotIn] [b] uG) (wk (Ag NQ fa fb)):=Cr (Xw hu) Xo ha hb hm
def Jce(hr:Di k A):A.vF+191<wc:=by have:=hr.un;lia
end Lake.FL
namespace Lake.FL
open PySem PySem.Spec L2
def Jcf :Tg->Tg
 |.j _ _ _=>.cl
 |t=>t
open Classical in
def Wd.look (F:Wd)(S:tV->Prop):Wd:={λb=>if S b then .fz else Jcf (F.o b)}
def Wd.BR (F F2:Wd):Wd:={λb=>match F.o b with|.j c i ρ=>.j c i ρ|.cl=>.cl|_=>F2.o b}
variable{K:Fg}{F F2:Wd}{H H' H2 H3:Hp}{B:tD}{fs:FS}{U:St}{j:Nat}{t:T}{v:V}{S:Addr->Prop}{b:Addr}
def JN(h:S b):(F.look S).o b=.fz:=by simp[Wd.look,h]
def Hy(h:¬S b):(F.look S).o b=Jcf (F.o b):=by simp[Wd.look,h]
def Ng(e:F.o b=.j c i ρ):(F.BR F2).o b=.j c i ρ:=by simp![Wd.BR,e]
def Iu(hS:∀b,S b->∃ρ,F.o b=.j true j ρ)(hH:∀b,¬S b->H' b=H b):Le F H (F.look S) H' :=
  {λb f=>have n:=λs=>let{_,e}:=hS b s;nomatch e.symm.trans f;{by show(F.look S).o b=_;rw[Hy n,show F.o b=_ from f];rfl,hH b n},
   λb f=>have n:=λs=>let{_,e}:=hS b s;nomatch e.symm.trans f;{by show(F.look S).o b=_;rw[Hy n,show F.o b=_ from f];rfl,hH b n} }
def vN.look(ok:vN K F B H fs U)(hS:∀b,S b->∃ρ,F.o b=.j true j ρ)(hH:∀b,¬S b->H' b=H b)(hN:∀b,S b->H' b≠none)(e:U[j]?=p' (p' v))(rt:AK K (F.look S) H' t v):vN K (F.look S) B H' ((Ct fs).wJ j (p' (.vm t))) U:=by
 refine{by simp[Ct,ok.ln],λi s es=>?_,λb z=>?_}
 .rw[qu]at es;split at es
  .rename_i fI;subst fI;split at es
   .cases es;exact{v,e,rt}
   .cases es
  .rw[Ct,oq,n8]at es;let{x,ex,es}:=es;split at es
   .cases es;exact let{w,e1,r}:=ok.sl _ _ ex;{w,e1,AK.le (Iu hS hH) r}
   .cases es
 .have n:=λs=>hN b s z
  rw[Hy n,ok.td b (hH b n▸z)];rfl
def vN.BR(ok:vN K F B H fs U)(hS:∀b,S b->∃ρ,F.o b=.j true j ρ)(hH:∀b,¬S b->H' b=H b)(l:Le (F.look S) H' F2 H2)(td:∀b,H2 b=none->F2.o b=.no)(h3:∀b,¬S b->H3 b=H2 b)(hs:∀b,S b->H3 b=H b):vN K (F.BR F2) B H3 fs U/\Le F H (F.BR F2) H3:=by
 have l0:=(Iu hS hH).trans l;have uI:∀{b c i ρ},F.o b=.j c i ρ->H3 b=H b:=λ{b c i ρ} e=>by
  by_cases s:S b
  .exact hs b s
  .rw[h3 b s,(l.p b (by show(F.look S).o b=_;rw[Hy s,e];rfl)).2,hH b s]
 have nS:∀{b x},F.o b=x->(∀c i ρ,x≠.j c i ρ)->¬S b:=λe n s=>let{_,z}:=hS _ s;n _ _ _ (e.symm.trans z)
 have le:Le F H (F.BR F2) H3:={λb f=>have n:=nS f (λ_ _ _=>nofun);{by show(F.BR F2).o b=_;simp![Wd.BR,show F.o b=_ from f];exact(l0.f b f).1,by rw[h3 b n];exact(l0.f b f).2},
  λb f=>have n:=nS f (λ_ _ _=>nofun);{by show(F.BR F2).o b=_;simp![Wd.BR,show F.o b=_ from f],by rw[h3 b n];exact(l0.p b f).2} }
 refine{ok.to le.f (λb i ρ z=>{Ng z,uI z}) λb z=>?_,le};cases e:F.o b with|j c i ρ=>exact nomatch e.symm.trans (ok.td b (uI e▸z))|cl=>exact nomatch e.symm.trans (ok.td b ((le.p b e).2▸z))|fz=>exact nomatch e.symm.trans (ok.td b ((le.f b e).2▸z))|no=>simp![Wd.BR,e];exact td b ((h3 b (nS e (λ_ _ _=>nofun)))▸z)
meta def YI(j:tQ)(he:FE X Z e f):FE X Z e (Gk j f):=by
 refine AH he λU H Q aj=>?_
 let{F,B,fs,ok,s}:= aj;unfold Gk at s;split at s
 .rename_i o eo;let{u,e1,q}:=ok.uI eo;have hS:∀b,(∃ρ,F.o b=.j true j ρ)->∃ρ,F.o b=.j true j ρ:=λ_ h=>h
  have l:=Iu (H':=H) hS λ_ _=>rfl
  refine{_,B,_,ok.look hS (λ_ _=>rfl) (λb h z=>by let{ρ,h}:=h;exact nomatch h.symm.trans (ok.td b z)) e1 (q.frz (λa ρ z=>{JN {_,z},rfl}) l.f),?_};cases ef:f ((Ct fs).wJ j (p' (.vm (toT o))))with
  |wy c τ=>rw[ef]at s;exact Z.mono s l
  |ur=>rwa[ef]at s
  |ok r τ =>
   rw[ef]at s;cases r with
   |nw t=>exact s.tU
   |x t=>exact s.tU
   |t t =>
    dsimp only at s;split at s
    .rename_i ha;intro F2 H2 w l2 q2;let{bC,l3}:=ok.BR hS (λ_ _=>rfl) l2 q2.1.td (λ_ _=>rfl) λb h=>(l2.f b (JN h)).2
     exact s _ H2 w l3 {bC,(AK.atom ha q2.2).1}
    .exact s.tU
 .exact s.tU
def LV:∀{ag:tH (vc×V)}{os:tH FO},HQ (ag.tJ (·.1)) os k=p' o->∃(n:tQ)(v:V),os[n]?=p' o/\(ag.tJ (·.2))[n]?=p' v/\KG ag k=p' v/\∀x,Ju (ag.tJ (·.1)) os k x=os.wJ n x
 | [],os,e=>by cases os<;>simp[HQ]at e
 |(g,v)::ag,[],e=>by simp[HQ]at e
 |(g,v)::ag,o1::os,e=>by
  simp![nV,HQ,Ju]at e ⊢;by_cases hb:g=k
  .rw[tW hb]at e;cases e;exact{0,v,rfl,rfl,El hb,λ_=>by rw[tW hb];rfl}
  .rw[ug hb]at e;exact let{n,w,h1,h2,h3,h4}:=LV e;{n+1,w,h1,h2,by rw[Em hb];exact h3,λx=>by rw[ug hb,h4 x];rfl}
variable{X:Cx}{Z:Xp}{x y z f:Str}{v:Expr}{fv:tm}{C:Addr}{p1 p2 p3 p4 p5 p6 pos:Pos}
meta def Ts(hu:X.A.vF+1<wc)(c:Cls X.K C)(n:AR X.K C f)(i jy jz:tQ)(hx:PE X (.uE x p1) (KP i))(hy:PE X (.uE y p3) (KP jy))(hz:PE X (.uE z p5) (KP jz))(hv:FE X Z v fv)(cX:Zab X.uh (.uE x p1) f:=by rfl)
  (hs:swapsWith v (p' (.vz (.vz (.ut (.uE x p1) f p2) (.uE y p3) p4) (.uE z p5) p6)) uG.line X.uh=wx false:=by rfl) (hn:NoSl (.uE y p3):=by exact λ_ _=>rfl) :
  GS X Z (.Assign [.vz (.vz (.ut (.uE x p1) f p2) (.uE y p3) p4) (.uE z p5) p6] v uG) (dput2 C f i jy jz fv):=by
 refine BS (K0 hu (Xf hu (Fe (f:=f) hx cX) hy hn) hz hv hs) λD U H aj => ?_
 let{F,B,fs,ok,s}:= aj;refine{F,B,fs,ok,BU s λr ae F1 H1 u l q s1=>?_};split at s1
 .rename_i t;split at s1
  .rename_i C' gs os eo;split at s1
   .rename_i yt ey;split at s1
    .rename_i zt ez;split at s1
     .rename_i hC;subst hC;split at s1
      .rename_i ks ds ef;split at s1
       .rename_i k ek;split at s1
        .rename_i k2 kx;split at s1
         .rename_i cQ cj ed;split at s1
          .rename_i bb;let{av,rt}:=q;let{a,dx,ag,w,m,a1,hd,rfl,e1,r1,bk}:=av.fld eo ef;let{b,_,rfl,fb,{bu,aY,rfl,rfl},hl,rc}:=r1.inv rfl;let{n2,v2,g1,g2,g3,g4}:=LV ed;let{c2,_,rfl,fc,{fw,bW,rfl,rfl},ja}:=(rc n2 _ v2 g1 g2).vals rfl;have vH:∀{j:tQ}{t':T}{kk:vc},ae[j]?=p' (p' (.vm t'))->EJ t'=p' kk->U[j]?=p' (p' (kV kk)):=λ{j t' kk} ej et=>by let{uy,e6,ry}:=av.sl _ _ ej;cases CS et ry;exact e6
           have ne:∀{z j ρ},F1.o z=.j true j ρ->¬(j=i/\ρ=[n2,m])->z≠c2:=λh n e=>n (by rw[e,fc]at h;cases h;exact{rfl,rfl})
           let{lZ,l7}:=FR (j:=k2) rt ja;have bF:=bk F1 (vi H1 c2 (.v (putK fw k2 u))) (.dO (bu.tJ (·.1)) (Ju (bu.tJ (·.1)) ds k (.v (Fp (fw.tJ (·.1)) cj k2 t).1 (Fp (fw.tJ (·.1)) cj k2 t).2))) (C9 fc).f (λz j ρ h h2=>{h,Ap (ne h λq=>h2 [n2] q)}) (λz h=>av.td z (Bo h).2)
            (.nd rfl fb (by rw[Ap (ne fb (by simp))];exact{bu,aY,rfl,rfl}) (by rw[g4,tH.length_set];exact hl) λj o v h1 h2=>by
             rw[g4,qu]at h1;by_cases hj:n2=j
             .subst hj;rw[tW rfl]at h1;split at h1
              .cases h1;rw[g2]at h2;cases h2;exact .of rfl fc (by rw[Aq];exact{_,rfl,lZ,rfl}) (l7.le (C9 fc))
              .cases h1
             .rw[ug hj]at h1;exact(rc j o v h1 h2).skip fc λρ q=>hj (by have:=uC tH.vn q.2.2;simp at this;exact this.1))
           exact{_,a1,a,C',dx,ag,.t8 b,rfl,hd,c,n,e1,kV k,vH ey ek,b,.t8 c2,rfl,by rw[<- g3];exact Kz.k aY,kV k2,vH ez kx,c2,_,rfl,Oh.k bW (by rw[nU]at bb;exact p8 bb Fi),s1 F1 _ U (C9 fc) bF}
          .exact s1.tU
         .exact s1.tU
        .exact s1.tU
       .exact s1.tU
      .exact s1.tU
     .exact s1.tU
    .exact s1.tU
   .exact s1.tU
  .exact s1.tU
 .exact s1.tU
end Lake.FL
namespace Lake.FL
open PySem PySem.Spec L2
def Mu:∀{os:tH FO}{j:tQ},(Oa A j os).fg=os.fg
 | [],_=>rfl
 |o::os,j=>by cases o<;>simp[Oa,Mu]
def P8:∀{os:tH FO}{j k:tQ}{o':FO},(Oa A j os)[k]?=p' o'->∃o,os[k]?=p' o/\((∃ts,o=.tY ts/\o'=.la (A (j+k)) ts)\/o'=o)
 | [],_,_,_,e=>by simp[Oa]at e
 |o::os,j,0,o',e=>by cases o<;>(simp![Oa]at e;cases e;exact{_,rfl,by simp})
 |o::os,j,k+1,o',e=>by
  have e:=by cases o<;>simpa[Oa]using e
  rw[show j+(k+1)=j+1+k by lia];exact P8 e
def X6{os:tH FO}(h:Bg K F H b i π (.vE C gs os) v):∃A,Bg K F H b i π (.vE C gs (Oa A 0 os)) v:=by
 let{a,vs,rfl,f,hs,l,rc}:=h.inv rfl;refine{λn=>match vs[n]? with|p' (.t8 a)=>a|_=>0,.nd rfl f hs (by rw[Mu];exact l) λk o' v e1 e2=>?_};obtain⟨o,e3,h|rfl⟩:=P8 e1
 .let{ts,rfl,rfl}:=h;let{a',us,rfl,f',bx,r}:=(rc k _ v e3 e2).vals rfl;exact .of rfl f' {by simp[e2],bx} r
 .exact rc k _ v e3 e2
variable{X:Cx}{Z:Xp}{k p:Nat}{ps:List Str}{Fn fo:tm}{e o:Expr}{es:List Expr}{fa:tq}{pos aw:Pos}{C:Addr}{m:Str}
def NT{pl:Sem uz}(G:Zz X.ub X.w X.K X.mg X.uk (CX1 X.ub X.w) C m k ps (spX X.K p Fn))(hr:Di k X.A)(lk:Lks X Z)(ho:FE X Z o fo)(ha:FAn X Z (e::es) fa)
  (dW:Zsc X.uh e es:=by rfl) (aG:Zbt X.uh uG es:=by rfl)
  (ht:wD (.vM (.ut o m aw) (e::es) [] uG) X.uh=(do
   let ov <- wD o X.uh
   standAt aw.atName
   let(f,first) <- holding [ov] (getMethod ov m pl)
   callWith uG f first (backTo uG (vD (e::es) X.uh)) (backToKw uG (keywordEach [] X.uh))):=by rfl) :
  FE X Z (.vM (.ut o m aw) (e::es) [] uG) (newMeth C m p Fn fo fa):=by
 refine AH (Vj G hr lk ho ha dW aG ht) λU H Q aj => ?_
 let{F,B,fs,ok,s}:= aj;refine{F,B,fs,ok,As s λr ae F1 H1 u l q s1=>?_};split at s1
 .rename_i C' gs os;split at s1
  .rename_i hC;let{rfl,hm}:=hC;let{a,_,rfl,_,{dx,ag,hd,rfl,rfl},_}:=Bg.inv (show Bg _ _ _ false 0 [] (.vE C' gs os) u from q.2) rfl;refine{a,dx,ag,rfl,hd,Gs hm,MC q s1 λrs aq F2 H2 us _ ra s2=>?_};split at s2
   .rename_i cW;let{A,rA}:=X6 (ra.2.2 0 _ _ rfl rfl);rw[<- cW A]at s2;unfold Af at s2;split at s2
    next hp=>rw[<- hp];exact GX {ra.1,by simpa using ra.2.1,λk r v e1 e2=>by cases k with|zero=>cases e1;cases e2;exact rA|succ k=>exact ra.2.2 (k+1) r v e1 e2} s2
    .exact s2.tU
   .exact s2.tU
  .exact s1.tU
 .exact s1.tU
variable{K:Fg}{F F':Wd}{H H':Hp}
def Wv(ok:vN K F B H fs U)(e:U[j]?=p' (p' (.t8 a)))(f:F.o a=.j true j [])(ha:H a=p' x)(rt:∀l:Le F H (F.look (·=a)) (vi H a y),AK K (F.look (·=a)) (vi H a y) t (.t8 a)):
  vN K (F.look (·=a)) B (vi H a y) ((Ct fs).wJ j (p' (.vm t))) U/\∀F2 H2,Le (F.look (·=a)) (vi H a y) F2 H2->(∀b,H2 b=none->F2.o b=.no)->H2 a=p' y/\vN K (F.BR F2) B (vi H2 a x) fs U/\Le F H (F.BR F2) (vi H2 a x)/\∀b,b≠a->F2.o b≠.cl->(F.BR F2).o b=F2.o b:=by
 have hS:∀b,b=a->∃ρ,F.o b=.j true j ρ:=λb h=>{[],h▸f}
 have hH:∀b,¬b=a->vi H a y b=H b:=λb h=>Ap h
 refine{ok.look hS hH (λb h=>by rw[h,Aq];nofun) e (rt (Iu hS hH)),λF2 H2 l td=>?_};let{bC,l3}:=ok.BR hS hH l td (λb h=>Ap h) λb h=>by rw[h,Aq,ha]
 refine{(l.f a (JN rfl)).2.trans Aq,bC,l3,λb hb hc=>?_};have q:=l.p b;cases e:F.o b with|j c i ρ=>exact(hc (q (by show(F.look _).o b=_;rw[Hy (S:=(·=a)) hb,e];rfl)).1).tU|cl=>exact(hc (q (by show(F.look _).o b=_;rw[Hy (S:=(·=a)) hb,e];rfl)).1).tU|fz=>simp![Wd.BR,e]|no=>simp![Wd.BR,e]
mutual
def noS:T->Bool
 |.tup ts=>DX ts
 |.lst ts=>DX ts
 |.n _=>false
 |.v _ ts=>DX ts
 |.q _ ts=>DX ts
 |.ins _ _ ts=>DX ts
 |.dF _ ts=>DX ts
 |_=>true
def DX:List T->Bool
 | []=>true
 |t::ts=>noS t&&DX ts
end
mutual
def RE:FO->Bool
 |.val t=>noS t
 |.lst ts=>DX ts
 |.v _ ts=>DX ts
 |.q _ ts=>DX ts
 |.ins _ _ os=>Gm os
 |.yx os=>Gm os
 |.yw os=>Gm os
 |.dO _ os=>Gm os
 |.la _ ts=>DX ts
def Gm:List FO->Bool
 | []=>true
 |o::os=>RE o&&Gm os
end
def Fo (j:tQ)(f:tm):tm:=λfs=>match fs[j]? with|p' (p' (.uI (.tY ts)))=>(match f ((Ct fs).wJ j (p' (.vm (.n ts))))with|.ok (.nw o) _=>if RE o=true then .ok (.nw o) fs else .ur|_=>.ur)|_=>.ur
variable{xs:List V}
mutual
theorem AK.noS(hF:∀b u,F b->H b=some u->(∀x,u≠.frz x (.lst xs))->F' b/\H' b=some u):∀{t:T}{v:V},noS t=true->AK K F H t v->AK K F' H' t v
 |.non,_,_,h|.l _,_,_,h|.int _,_,_,h|.str _,_,_,h=>h
 |.tup ts,_,e,h=>by simp only[AK]at h ⊢;exact let⟨a,vs,e1,s,r⟩:=h;⟨a,vs,e1,⟨rfl,hF a _ s.2.1 s.2.2 (λ_=>nofun)⟩,Ai.noS hF e r⟩
 |.lst ts,_,e,h=>by simp only[AK]at h ⊢;exact let⟨a,vs,e1,f,s,r⟩:=h;have q:=hF a _ f s (λ_=>nofun);⟨a,vs,e1,q.1,q.2,Ai.noS hF e r⟩
 |.n _,_,e,_=>by cases e
 |.v ks ts,_,e,h=>by
  simp only[AK]at h ⊢;obtain⟨a,ag,e1,f,s,k,r⟩:=h;rcases s with s|⟨o,s⟩
  .exact have q:=hF a _ f s (λ_=>nofun);⟨a,ag,e1,q.1,.inl q.2,k,Ai.noS hF e r⟩
  .exact have q:=hF a _ f s (λ_=>nofun);⟨a,ag,e1,q.1,.inr ⟨o,q.2⟩,k,Ai.noS hF e r⟩
 |.q ks ts,_,e,h=>by simp only[AK]at h ⊢;exact let⟨a,ag,e1,f,s,k,r⟩:=h;have q:=hF a _ f s (λ_=>nofun);⟨a,ag,e1,q.1,q.2,k,Ai.noS hF e r⟩
 |.ins C fs ts,_,e,h=>by simp only[AK]at h ⊢;exact let⟨a,dx,ag,e1,f,s,k,r⟩:=h;have q:=hF a _ f s (λ_=>nofun);⟨a,dx,ag,e1,q.1,q.2,k,Ai.noS hF e r⟩
 |.dF ks ts,_,e,h=>by simp only[AK]at h ⊢;exact let⟨a,ag,e1,f,⟨o,s⟩,k,r⟩:=h;have q:=hF a _ f s (λ_=>nofun);⟨a,ag,e1,q.1,⟨o,q.2⟩,k,Ai.noS hF e r⟩
 |.yy c,_,e,h=>by simp only[AK]at h ⊢;exact let⟨a,C,e1,f,s,k⟩:=h;have q:=hF a _ f s (λ_=>by unfold exO;nofun);⟨a,C,e1,q.1,q.2,k⟩
theorem Ai.noS(hF:∀b u,F b->H b=some u->(∀x,u≠.frz x (.lst xs))->F' b/\H' b=some u):∀{ts:List T}{vs:List V},DX ts=true->Ai K F H ts vs->Ai K F' H' ts vs
 | [],_,_,h=>h
 |t::ts,_,e,h=>by simp only[DX,oB]at e;exact let⟨v,r,e1,h1,h2⟩:=h;⟨v,r,e1,AK.noS hF e.1 h1,Ai.noS hF e.2 h2⟩
end
def Mo:∀{os:tH FO}{k:tQ}{o:FO},Gm os=true->os[k]?=p' o->RE o=true
 | [],_,_,_,e=>by simp at e
 |o::os,k,o',h,e=>by simp![Gm,oB]at h;cases k with|zero=>cases e;exact h.1|succ k=>exact Mo h.2 e
def Mn:∀ts:tH T,Gm (ts.tJ .vm)=DX ts
 | []=>by simp[Gm,DX]
 |t::ts=>by simp[Gm,DX,RE,Mn ts]
def XG{o}{os:tH FO}(e:o.vw=p' (sh,os))(h:RE o=true):Gm os=true:=by cases o<;>cases e<;>simpa only[RE,Mn]using h
def Bg.noS{o}(hF:∀b u,F b->H b=p' u->(∀x,u≠.frz x (.tY xs))->F' b/\H' b=p' u)(hm:∀a ρ,F.o a=.j b i ρ->F'.o a=.j b i ρ/\H' a=H a)(e:RE o=true)(h:Bg K F H b i π o v):Bg K F' H' b i π o v:=by induction h with|vm r=>simp![RE]at e;exact .vm (r.noS hF e)|nd ev f hs n c ih=>exact have q:=hm _ _ f;.nd ev q.1 (q.2▸hs) n λk o v e1 e2=>ih k o v e1 e2 (Mo (XG ev e) e1)
def TY(j:tQ)(he:FE X Z e f):FE X Z e (Fo j f):=by
 refine AH (SI he) λU H Q aj=>?_
 let{F,B,fs,ok,s}:= aj;unfold Fo at s;split at s
 .rename_i ts es;let{u,e1,q}:=ok.sl _ _ es;let{a,xs,rfl,fa,ha,ja}:=Bg.vals q rfl;refine{a,xs,ha,λo=>?_};let{av,bk}:=Wv (t:=.n ts) ok e1 fa ha λl=>by exact{a,xs,rfl,.uW {JN rfl,.uK {o,Aq} },ja.le l}
  refine{_,B,_,av,?_};cases ef:f ((Ct fs).wJ j (p' (.vm (.n ts))))with
  |wy c τ=>rw[ef]at s;exact s.tU
  |ur=>rwa[ef]at s
  |ok r τ =>
   rw[ef]at s;cases r with
   |x t=>exact s.tU
   |t t=>exact s.tU
   |nw t =>
    dsimp only at s;split at s
    .rename_i hn;intro F2 H2 w l2 q2;let{ju,bC,l3,k3}:=bk F2 H2 l2 q2.1.td;refine{ju,s _ _ w l3 {bC,Bg.noS (xs:=xs) (λb u fb z nx=>?_) (λb ρ z=>?_) hn q2.2} }
     .have hb:b≠a:=λy=>by rw[y,ju]at z;cases z;exact nx o rfl
      exact{(k3 b hb (by rw[show F2.o b=_ from fb];nofun)).trans fb,(Ap hb).trans z}
     .have hb:b≠a:=λy=>by rw[y,((l2.f a (JN rfl)).1)]at z;cases z
      exact{(k3 b hb (by rw[z];nofun)).trans z,Ap hb}
    .exact s.tU
 .exact s.tU
def fzN (f:tm):tm:=λfs=>(f fs).u9 λr fs=>match r with|.nw (.v ks ts)=>.ok (.t (.dF ks ts)) fs|_=>.ur
variable{B:tD}{U:St}{fs:FS}{x:Rv}{u:V}
def fe_fzN{f:tm}(h:FE X Z e f):FE X Z e (fzN f):=by
 refine AH (Vl h) λU H Q aj => ?_
 let{F,B,fs,ok,s}:= aj;refine{F,B,fs,ok,As s λr ae F1 H1 u l q s1=>?_};split at s1
 .let{o1,q}:=q;let{a,_,rfl,f,{ag,hd,rfl,rfl},q}:=Bg.vals q rfl;refine{a,ag,rfl,hd,λob=>?_};have ne:∀{b x},F1.o b=x->(∀ρ,x≠.j false 0 ρ)->(F1.tag a .fz).o b=x/\vi H1 a (.frz ob (.v ag)) b=H1 b:=λ{b x} z n=>have q:b≠a:=λe=>n [] (by rw[<- z,e,f]);{(Br q).trans z,Ap q}
  have l2:Le F1 H1 (F1.tag a .fz) (vi H1 a (.frz ob (.v ag))):={λb z=>ne z λ_=>nofun,λb z=>ne z λ_=>nofun}
  refine s1 _ _ (.t8 a) l2 {o1.to l2.f (λb j ρ z=>ne z λ_=>nofun) λb z=>(Br (Bo z).1).trans (o1.td b (Bo z).2),?_};simp![Zx,AK];exact{a,ag,rfl,Bh,{ob,Aq},rfl,q.le l2}
 .exact s1.tU
end Lake.FL
namespace Lake.FL
open PySem PySem.Spec PyProof.Rows L2
def tgs :v7->tH tO
 |.uE y _=>[y]
 |.Tuple es _ _=>es.filterMap λe=>match e with|.uE y _=>p' y|_=>none
 |_=>[]
def nOf (M:tH tO):tH tO->tH (tL tQ)->tH tO
 |_,[]=>[]
 |t,p' i::r=>M.uZ i ""::nOf M t r
 |t::u,none::r=>t::nOf M u r
 | [],none::r=>nOf M [] r
def ndB :tH tO->uz
 | []=>true
 |x::r=>!r.contains x&&ndB r
def JbD:∀{l:tH tO},ndB l=true->l.uA
 | [],_=>oY
 |x::r,h=>by simp![ndB,oB,uz.not_eq_true',tH.contains_eq_mem,decide_eq_false_iff_not]at h;exact o5.wO {h.1,JbD h.2}
variable{X:Cx}{Z:Xp}{tg au bB:Expr}{bj:List Expr}{sc:Scope}{pos:Pos}{fi:tB}{gt:tz}{ft:tw}{fe:tm}
def YS{new:uz}{wP:tE}(aJ:X.calm=true)(hi:FI X Z tg au fi)(hg:∀cl C s H fp,GT (Bz X (nOf X.N (tgs tg) wP) sc cl C s H fp) tg gt)(ht:∀cl C s H fp,FIf (Bz X (nOf X.N (tgs tg) wP) sc cl C s H fp) bj ft)
  (he:∀cl C s H fp,FE (Bz X (nOf X.N (tgs tg) wP) sc cl C s H fp) Xp.no bB fe) (hS:Fh X.uh.uR sc=true:=by rfl) (aU:Ei X.N sc (nOf X.N (tgs tg) wP) wP=true:=by rfl)
  (hs:Zfs X.uh au:=by intro _;rfl):FE X Z (.ListComp bB [{tg,au,bj,0}] sc uG) (AW new wP fi gt ft fe):=YR new _ wP aJ hi hg ht he hS aU hs
def Yp{new:uz}{i:tQ}{wP:tE}{y:tO}{aI cc:Pos}(aJ:X.calm=true)(hN:X.N.uA)(hy:Loc X.uh.uR y)(hi:FI X Z tg au fi)(hg:∀cl C s H fp,GT (Bz X (nOf X.N (tgs tg) wP) sc cl C s H fp) tg gt)(ht:∀cl C s H fp,FIf (Bz X (nOf X.N (tgs tg) wP) sc cl C s H fp) bj ft)
  (he:∀cl C s H fp,FE (Bz X (nOf X.N (tgs tg) wP) sc cl C s H fp) Xp.no bB fe) (fY:X.N[i]?=p' y:=by rfl) (hS:Fh X.uh.uR sc=true:=by rfl) (aU:Ei X.N sc (nOf X.N (tgs tg) wP) wP=true:=by rfl)
  (hs:Zfs X.uh au:=by intro _;rfl) (gq:swapsWith (.ListComp bB [{tg,au,bj,0}] sc uG) (p' (.uE y aI)) cc.line X.uh=wx true:=by rfl)
  (hf:X.fn y=true\/X.uh.uR.uq.t7 y=p' .local:=by first|exact .uW rfl|exact .uK rfl|assumption) :
  GS X Z (.Assign [.uE y aI] (.ListComp bB [{tg,au,bj,0}] sc uG) cc) (Av i (AW new wP fi gt ft fe)):=NO new i _ wP aJ hN hy hi hg ht he fY hS aU hs gq hf
end Lake.FL
namespace Lake.FL
open PySem PySem.Spec L2
def WJ (ss:tL (tH tO))(fs:FS):Out Rv:=match ss with|p' ss=>if ss.fg<64 then .ok (.nw (.tY ((So.srt ss).tJ T.str))) fs else .ur|none=>.ur
def JX :tH Rv->tm
 | [x],fs=>WJ ((Hc fs x).u9 λp=>Dd (p.1.tJ JS)) fs
 |_,_=>.ur
def LS{K:Fg}{F:Wd}{H:Hp}:∀ss:tH tO,Ai K F H (ss.tJ T.str) (ss.tJ V.str)
 | []=>by simp[Ai]
 |s::ss=>by simp![nV,Ai];exact{_,_,rfl,by simp[AK],LS ss}
def JP:∀{ks:tH vc}{ss:tH tO},Dd (ks.tJ JS)=p' ss->ks.tJ kV=ss.tJ V.str
 | [],_,e=>by cases e;rfl
 |.uW i::r,_,e=>by simp[Dd,JS]at e
 |.uK x::r,_,e=>by simp![nV,JS,Dd,n8]at e;let{ns,e,rfl}:=e;rw[nV,JP e];rfl
variable{K:Fg}{Z:Xp}
def Up:Cn K Z (λxs H Q=>∃a ag ss,xs=[.t8 a]/\Rd H a (.v ag)/\(ag.tJ λkv=>kV kv.1)=ss.tJ V.str/\ss.fg<64/\∀l,H l=none->Q (.t8 l) (vi H l (.tY ((So.srt ss).tJ V.str)))) JX:=by
 intro F B H U fs rs vs Q ok q s;unfold JX WJ at s;split at s
 .let{v,rfl,qq}:=Bi q;split at s
  .rename_i ss e;rw[oE]at e;let{p,e,e2}:=e;let{a,ag,rfl,hd,ek,r}:=ED (ks:=p.1) (ts:=p.2) ok qq e;split at s
   next c=>refine{a,ag,ss,rfl,hd,?_,c,λp hp=>Ce ok hp s rfl rfl (LS _)};rw[<- JP e2,<- ek,oj];rfl
   .exact s.tU
  .exact s.tU
 .exact s.tU
variable{X:Cx}{a:Expr}{f:tm}{fa:tq}{p p1 p2 pos bo aP:Pos}
def TZ(hc:X.calm=true)(hm:X.mg "sorted"=none)(ha:FA X Z [a] fa)(hg:Gl X "sorted":=by rfl)(he:Zs1 X.uh a:=by rfl):FE X Z (.vM (.uE "sorted" p) [a] [] uG) (Ad JX fa) :=
 DR Up (Ke hc) hm PyProof.Rows.boot_sorted ha (hg:=hg) (he:=he)
def nwV (f:tm):tm:=λfs=>(f fs).u9 λr fs=>match r with|.t t=>.ok (.nw (.vm t)) fs|_=>.ur
def fe_nwV{e:v7}(h:FE X Z e f):FE X Z e (nwV f):=by
 refine AH h λU H Q aj => ?_
 let{F,B,fs,ok,s}:= aj;refine{F,B,fs,ok,?_};refine As s λr fs F' H' u l q s=>?_
 cases r with|t t =>exact s F' H' u Le.uV {q.1,.vm q.2}|nw o=>exact s.tU|x i=>exact s.tU
def Jo (bG:tO->uz)(h:FS->SO)(c:tO)(fs:FS):SO:=if bG c=true then(match h fs with|.wy _ _=>.ur|o=>o)else .ur
def Nu (bG:tO->uz)(g h:FS->SO):FS->SO:=λfs=>match g fs with|.wy c fs=>Jo bG h c fs|o=>o
def ZtryN (K:Fg)(Z:Xp)(bG:tO->uz)(h:FS->SO)(D:Ends):Xp:={λF B H c fs=>FK K Z B F H (Jo bG h c fs) D,λq l=>FK.le q l}
def Tu{x:tO}{C:tV}{np bK:Pos}{vR aR:tH Stmt}{bt:Stmt}{g h:FS->SO}(bG:tO->uz)(l:LkD X Z)(hC:X.mg x=p' (.t8 C))(hk:∀c C',bG c=true->CD X.K c=p' C'->exmOne X.K (.t8 C') (.t8 C)=p' true)
  (hb:∀E' Z',LkD (X.F9 E') Z'->GSs (X.F9 E') Z' vR g) (hs:∀a,GSs (X.hand a) Xp.no (bt::aR) h) (hg:Gl X x:=by rfl) (aY:Zdb x:=by decide) :
  GS0 X Z (.Try vR [.ExceptHandler (p' (.uE x np)) none (bt::aR) bK] [] [] uG) (Nu bG g h):=by
 have key:=Sv (X:=X) (C:=C) (x:=x) (np:=np) (uG:=uG) (bK:=bK) (vR:=vR) (bt:=bt) (aR:=aR) (th:=tSt X.K Xp.no h) (tb:=λD=>tSt X.K (ZtryN X.K Z bG h D) g) l.d hC (λD=>?_) hs hg aY
 .intro s0 U H D I q;refine key s0 U H D I ?_;let{F,B,fs,ok,s}:=q;refine{F,B,fs,ok,?_};unfold Nu at s;cases e:g fs<;>(rw[e]at s;exact s)
 .refine hb _ _ { {l.d.pn,l.d.ex,l.d.st,l.d.fr},λe s q=>XW.imp (XW.F9 q) λcv U H z=>?_,XW.uI l.d};let{F,B,fs,c,C',kH,rfl,ok,z}:=z;have z:FK X.K Z B F H (Jo bG h c fs) D:=z;unfold Jo at z;split at z
  next gY=>refine{hk c C' gY kH,F,B,fs,ok,?_};cases eh:h fs with|nx bR=>rw[eh]at z;exact z|wH r bR=>rw[eh]at z;exact z|brk bR=>rw[eh]at z;exact z|cnt bR=>rw[eh]at z;exact z|wy c bR=>rw[eh]at z;exact z.tU|ur=>rw[eh]at z;exact z
  .exact z.tU
def JW{x:tO}{np bK:Pos}{vR aR:tH Stmt}{bt:Stmt}{g h:FS->SO}{rs ds:tH tO}{tab:tO->tO->uz}(t:N9 X.K X.mg rs ds tab)(hx:x∈ds)(l:LkD X Z)
  (hb:∀E' Z',LkD (X.F9 E') Z'->GSs (X.F9 E') Z' vR g) (hs:∀a,GSs (X.hand a) Xp.no (bt::aR) h) (hg:Gl X x:=by rfl) (aY:Zdb x:=by decide) :
  GS0 X Z (.Try vR [.ExceptHandler (p' (.uE x np)) none (bt::aR) bK] [] [] uG) (Nu (λc=>rs.contains c&&tab c x) g h):=by
 let{C,h1,h2}:=t.yu x hx;refine Tu _ l h1 (λc C' ho hc=>?_) hb hs hg aY;rw[oB]at ho;exact(t.uI c (by simpa using ho.1) x hx C' C hc h2).2 ho.2
def augP (i:tQ)(f:tm):FS->SO:=λfs=>match fs[i]? with
 |p' (p' (.vm (.tS a)))=>SO.of (f fs) λr fs=>(match r with|.t (.tS b)=>if -(2^64)<b/\b<2^64 then(match HV i (.t (.tS (a*b))) fs with|p' fs=>.nx fs|none=>.ur)else .ur|_=>.ur)
 |_=>.ur
def Jb4:PIp X .Mult (λx y H Q=>∃i j,x=.tS i/\y=.tS j/\IntMulOk i j/\Q (.tS (i*j)) H):=by intro aa s U H x y v u Q I r1 r2 h;let{i,j,rfl,rfl,hm,q}:=h;let{t,rfl}:=r1;let{t',rfl}:=r2;exact PySem.P.imul_int {.tS _,H,I.tok _,{_,rfl},q} hm
def Yq{x:tO}{e:v7}{aI:Pos}(i:tQ)(hN:X.N.uA)(hx:Loc X.uh.uR x)(he:FE X Z e f)(hi:X.N[i]?=p' x:=by rfl)
  (hf:X.fn x=true\/X.uh.uR.uq.t7 x=p' .local:=by first|exact .uW rfl|exact .uK rfl|assumption):GS X Z (.AugAssign (.uE x aI) .Mult e uG) (augP i f):=by
 refine BS (Ja4 hN hi hx he Jb4 hf) λD U H aj=>?_
 let{F,B,fs,ok,s}:= aj;unfold augP at s;split at s
 .rename_i a ea;let{u,e1,q}:=ok.sl _ _ ea;refine{u,e1,F,B,fs,ok,BU s λr ae F1 H1 y l q1 s1=>?_};split at s1
  .rename_i b;let{o1,qb}:=q1;split at s1
   .rename_i hb;split at s1
    next aq e2=>exact let{F2,l2,aL}:=KS (RR.of (r:=.t (.tS (a*b))) o1 rfl) e2;{a,b,q,qb,CMul.ok (.uK hb),s1 F2 H1 _ l2 aL}
    .exact s1.tU
   .exact s1.tU
  .exact s1.tU
 .exact s.tU
def Uv:B7 X (.uM "isinstance") (λxs H Q=>∃a ag,xs=[.t8 a,.ty "dict"]/\Rd H a (.v ag)/\Q (.l true) H):=by
 intro aa s U H xs us Q I r h;let{a,ag,rfl,hd,q}:=h;cases r with
 |ux r1 rr =>
  cases rr with
  |ux r2 rr =>
   cases rr;obtain rfl:_=tM.uJ "dict":=r2;cases(show _=tM.t8 a from r1);let{_,_,vs,_,o,es,ep,h1,h2,_}:=(show Bt X.ub X.w H s.tK a (.v ag)from hd.ok I.zZ)
   exact PySem.W.kia_one PySem.W.kitx_dict I.kIn {o,h1,h2.1} (S7 "dict" ZB) (λz=>nomatch z) λtk=>{.l true,H,I.tok tk,rfl,q}
def isD (f:tm):tm:=λfs=>(f fs).bnd λr fs=>match Hc fs r with|p' _=>okT (.l true) fs|none=>.ur
def fe_isD(hm:X.mg "isinstance"=none)(cI:X.mg "dict"=none)(ha:FE X Z a f)(hg:Gl X "isinstance":=by rfl)(cH:Gl X "dict":=by rfl)
  (hs:vD [a,.uE "dict" p2] X.uh=(false,wD a X.uh)::vD [.uE "dict" p2] X.uh:=by rfl) (bh:vD [.uE "dict" p2] X.uh=[(false,wD (.uE "dict" p2) X.uh)]:=by rfl) (aG:(backTo uG (vD [.uE "dict" p2] X.uh)).any (·.1)=false:=by rfl) :
  FE X Z (.vM (.uE "isinstance" p) [a,.uE "dict" p2] [] uG) (isD f):=by
 refine AH (Mg Uv hg hm PyProof.Rows.boot_isinstance (D7 ha (D7 (Xj (v:=.ty "dict") cH cI boot_dict rfl ZB ZB) JH bh) hs) ZB ZB hs aG) λU H Q aj=>?_
 let{F,B,fs,ok,s}:= aj;refine{F,B,fs,ok,AB s λr ae F1 H1 u l1 av rx s1=>?_};split at s1
 next q e=>let{b,ag,rfl,hd,_,_}:=ED (ks:=q.1) (ts:=q.2) av rx e;exact{b,ag,rfl,hd,s1 F1 H1 _ Le.uV (RR.of av rfl)}
 .exact s1.tU
def GF :tj:=λx y fs=>match KU x,KU y with|p' xs,p' ys=>(match Hb (eqT 180) xs ys with|p' b=>okT (.l (!(b&&xs.fg==ys.fg))) fs|none=>.ur)|_,_=>.ur
variable{b:Expr}{fa fb:tm}
def PB(hu:X.A.vF+191<wc):OpF X.K Z (rEqS X true) GF:=by
 intro F B H U fs x y u w Q ok rx ry s;unfold GF at s;split at s
 .rename_i xs ys e1 e2;split at s
  .rename_i b e3;let{a,vs,rfl,sx,r1}:=BG rx e1;let{a',ws,rfl,sy,r2}:=BG ry e2;refine{_,λaa U s u w I qx qy=>?_,s F H _ Le.uV (RR.of ok rfl)};cases qx;cases qy;let{uU,vx,ht,_}:=I.wz sx;let{aH,du,dk,_}:=I.wz sy;have l1:uU.fg=xs.fg:=by rw[<- vx.fg,r1.wv]
   have l2:aH.fg=ys.fg:=by rw[<- du.fg,r2.wv]
   have he:=items_eqAt (s:=s) (A:=X.A.in1) e3 r1 r2 vx du (λh r1 r2 o1 o2=>HJ I (n:=180) (A:=X.A.in1) (by show X.A.vF+1+180<_;lia) h r1 r2 o1 o2);have:=vP.RcNeAt.tuples ht dk (A:=X.A) (by lia) he;rw[nZ,nZ,l1,l2,<- C5 e3]at this;exact this
  .exact s.tU
 .exact s.tU
def YJ(hu:X.A.vF+191<wc)(ha:FE X Z a fa)(hb:FE X Z b fb):FE X Z (.vW a [.NotEq] [b] uG) (Ag GF fa fb):=J2 (PB hu) Pw ha hb (Cf _)
def Yz(hu:X.A.vF+191<wc)(ha:FE X Z a fa)(hb:FE X Z b fb):FT X Z (.vW a [.NotEq] [b] uG) (wk (Ag GF fa fb)):=Cr (PB hu) Pw ha hb (Cf _)
end Lake.FL
namespace Lake.Sy
open PySem PySem.Spec L2 FL
abbrev xrs:tH tO:=["BadCount","TooLong"]
abbrev xds:tH tO:=["TooLong"]
def xtab (c d:tO):uz:=c==d||d == "SayError"
def top (i:tQ):Stmt:=PySem.Challenge.pw_stairsay_k61_against.main.vR.uZ i (.Pass {0,0,0,0})
structure Tx(K:Fg)(mg:Zsv)(ao:tV)(ah:tV)(ai:tV)(af:tV):Prop where
 yE:mg "all"=none
 yD:mg "any"=none
 zi:mg "dict"=none
 yC:mg "int"=none
 zU:mg "isinstance"=none
 yB:mg "len"=none
 zh:mg "list"=none
 yS:mg "max"=none
 yA:mg "min"=none
 zy:mg "range"=none
 zQ:mg "reversed"=none
 y0:mg "sorted"=none
 yz:mg "sum"=none
 zx:mg "tuple"=none
 yX:mg "zip"=none
 yQ:∃t,mg "LETTERS"=p' (.str ("abcdefghijklmnopqrstuvwxyz":tO) t)
 zO:∃t,mg "MOST_ARGUMENTS"=p' (.tS 3 t)
 zr:∃t,mg "MOST_DEEP"=p' (.tS 40 t)
 zS:∃t,mg "MOST_DEEP_CALLS"=p' (.tS 20 t)
 zC:∃t,mg "MOST_KINDS"=p' (.tS 4 t)
 zH:∃t,mg "MOST_LETTERS"=p' (.tS 12 t)
 zE:∃t,mg "MOST_MAKERS"=p' (.tS 4 t)
 zB:∃t,mg "MOST_PARTS"=p' (.tS 2 t)
 zN:∃t,mg "MOST_SIZE_runs"=p' (.tS 300 t)
 zT:∃t,mg "MOST_SIZE_things"=p' (.tS 7 t)
 zu:Cls K ao
 zP:Cls K ah
 yZ:Cls K ai
 yY:Cls K af
 zq:AR K ah "heads"
 zX:AR K ah "rows_by_function"
 zp:AR K ah "stock"
 zR:AR K ao "calls_left"
 zl:AR K ao "program"
 zG:AR K ao "waiting"
 zD:AR K ao "worths"
 zk:AR K ai "heads"
 zK:AR K ai "kinds_by_name"
 zo:AR K ai "lessers"
 zb:AR K ai "own"
 zj:AR K ai "stock"
 zJ:AR K af "home_by_maker"
 zM:AR K af "makers_by_kind"
 zL:AR K af "parts_by_maker"
 xt:N9 K mg xrs xds xtab
abbrev xL(s:tO):=gc (.str s)
abbrev xa(i:tN):=gc (.tS i)
abbrev xb(f:tm)(a0 a1 a2:tm):=Ad (Af 3 f) (Ac a0 (Ac a1 (Ac a2 Ae)))
abbrev xc(f:tm)(a0 a1:tm):=Ad (Af 2 f) (Ac a0 (Ac a1 Ae))
abbrev xf(f:tm)(a0 a1 a2 a3:tm):=Ad (Af 4 f) (Ac a0 (Ac a1 (Ac a2 (Ac a3 Ae))))
abbrev xg(f:tm)(a0 a1 a2 a3 a4:tm):=Ad (Af 5 f) (Ac a0 (Ac a1 (Ac a2 (Ac a3 (Ac a4 Ae)))))
abbrev xh(f:tm)(a0 a1 a2 a3 a4 a5 a6:tm):=Ad (Af 7 f) (Ac a0 (Ac a1 (Ac a2 (Ac a3 (Ac a4 (Ac a5 (Ac a6 Ae)))))))
abbrev xi(f:tm)(a0 a1 a2 a3 a4 a5:tm):=Ad (Af 6 f) (Ac a0 (Ac a1 (Ac a2 (Ac a3 (Ac a4 (Ac a5 Ae))))))
abbrev xj(f:tm)(a0:tm):=Ad (Af 1 f) (Ac a0 Ae)
def DJ :FS->SO :=
  (Ak (wQ (Ep (wk (chain gLe gLe (gc (.tS 1)) (Ad AI (Ab (Aa 0) Ae)) (gc (.tS 12))))) (vV (gc (.l false))) nxS)
  (vV (Ad ZL (Ab (AW false [none] (itU (fz (Aa 0))) (wd 0) CG (Ag (Dh false) (fz (Aa 0)) (gc (.str ("abcdefghijklmnopqrstuvwxyz":tO))))) Ae))))
def Bf :tm:=A2 0 (DJ)
def rn:=fz (Aa 0)
def rp:=fz (Aa 1)
def rq:=fz (Aa 2)
def rB:=fz (Aa 3)
def rD:=fz (Aa 4)
def rE:=fz (Aa 5)
def rF:=An BQ Ae
def rG:=fz (Aa 7)
def rH:=fz (Aa 6)
def rM:=Ab (Aa 4) Ae
def rO:=Aa 10
def rP:=fz (Aa 8)
def rQ:=xL "name"
def rR:=Ag Aw (Aa 9) (xa 0)
def rS:=Ab (Aa 1) Ae
def rT:=Ab (Aa 6) Ae
def rV:=An Az (Ab (xL "") (Ab (An Az Ae) (Ab (xL "") (Ab (An BC Ae) Ae))))
def rW:=wd 0
def rC:=AM 2 (Aj rW (Aj (wd 1) AL))
def rX:=fz (Ag AG (fz (Ad Dx (Ab rO Ae))) (fz (Ad Dx (Ab (Aa 8) Ae))))
def rY:=fz (Aa 9)
def rZ:=Ag Aw (Aa 3) (xa 0)
def r8:=Ag Aw (Aa 3) (xa 1)
def sm:=Aj (wd 7) (Aj (wd 8) AL)
def so:=Ag Aw (Aa 1) rn
def sr:=Ac (Ad AI (Ab (Ag Aw (Aa 3) (xa 2)) Ae)) Ae
def su:=gc .vG
def sw:=wd 4
def rK:=AM 2 (Aj sw (Aj (wd 5) AL))
def sA:=Ab (gc (.l false)) Ae
def sB:=Ad AI (Ab (Aa 0) Ae)
def rL:=Yd (Ab (Aa 1) (Ab (Ad ET (Ab sB (Ab (xa 63) Ae))) (Ab (Aa 2) Ae)))
def sC:=fz (AA G7 (Aa 3) Ae)
def sD:=fz (AA G7 (Aa 7) Ae)
def sE:=Ad AI (Ab (Aa 2) Ae)
def sF:=Ag Aw (Aa 3) (xa 3)
def sG:=Ag Aw (Aa 0) (xa 0)
def sH:=Ag Aw (Aa 2) (xa 0)
def sI:=Ab (Aa 12) Ae
def sJ:=wk (Ag (gEq false) (Aa 6) (xa 0))
def sK:=gc (.l true)
def sL:=fz rO
def sM:=itU rp
def sN:=Aa 11
def sO:=wd 6
def rN:=Aj (wd 5) (Aj sO AL)
def sk:=Aj sO (Aj (wd 7) AL)
def sP:=Ab rE Ae
def sQ:=wk (Ag (Dh false) rq (Aa 1))
def sR:=Ad AI rM
def sS:=Aj (wd 9) (Aj (wd 10) AL)
def sT:=itU rn
def sU:=xa 2147483629
def sV:=xa 12
def sW:=xL "make"
def sX:=xL "call"
def sY:=XJ (xa 1)
def sZ:=B9 (xa 1)
def tf:=wd 3
def rJ:=AM 2 (Aj (wd 2) (Aj tf AL))
def Rn :FS->SO :=
  (Ak (Av 3 (Ad Oc (Ab (AW false [none,p' 0] rL rW CG so) Ae)))
  (Ak (Av 4 rF)
  (Ak (Av 5 (Ag B5 (Aa 3) sU))
  (Ak (Av 6 (Ag EU (Aa 3) (xa 2)))
  (Ak (Bv (G6 (Ab (xa 150) Ae)) (wd 7) (Ak (Av 5 (Ag B5 (Ag AG (Ag AG (Ag BH (Aa 5) (Aa 5)) (Aa 3)) (Aa 7)) sU))
  (Ak (Au (AA Dy (Aa 4) (Ab (Ag B5 (Ag Aw (An BC (Ab rH (Ab (Ag B5 (Ag BH (Aa 5) (Aa 5)) (xa 2147483587)) Ae))) (Ag B5 (Aa 3) (xa 2))) (xa 1000003)) Ae)))
  (Av 6 (Ag EU (Aa 6) (xa 1000003))))))
  (vV (ZD (Aa 4))))))))
def BO :tm:=A2 5 (Rn)
def M8 :FS->SO :=
  (Ak (Av 2 (xL "abcdefghijklmnopqrstuvwxyz"))
  (Ak (Av 3 (Ag BH (Ag AG (Ag AG (Ag BH (Aa 0) (Aa 0)) (Aa 0)) (xa 1)) (xa 982451653)))
  (Ak (Av 4 (Ag AG (xa 1) (Ag B5 (Aa 3) sV)))
  (Ak (Av 5 (Ag B5 (Ag EU (Aa 3) sV) (Aa 4)))
  (Ak (Av 6 (AW false [none,p' 2,p' 3] (G6 rM) rW CG (Ag Aw (Aa 1) (Ag B5 (Ag AG (Ag EU (Aa 2) (Ag AG (Aa 0) (xa 5))) (Ag BH (Aa 0) (Aa 0))) (xa 26)))))
  (Ak (Av 7 (Ag Aw (An BC (Ab (xa 1) (Ab (xa 3) (Ab (xa 5) (Ab (xa 7) (Ab (xa 9) (Ab (xa 11) Ae))))))) (Ag B5 (Ag EU (Aa 3) (xa 144)) (xa 6))))
  (Ak (Av 8 rF)
  (Ak (Bv (G6 rS) (wd 9) (Ak (Av 10 (Ag Aw (Aa 2) (Ag B5 (Ag AG (Ag EU (Aa 3) (xa 864)) (Ag BH (Aa 9) (Aa 7))) (xa 26))))
  (wQ (wk (Ag (gEq false) (Ag B5 (Ag EU (Aa 3) (xa 900)) (xa 3)) (xa 1))) (Au (AA Dy (Aa 8) (Ab (Ag BH (Ag Aw (Aa 6) (xa 0)) (Ag AG (Ag B5 (Ag AG (Aa 9) (Ag EU (Aa 3) (xa 7))) sV) (xa 1))) Ae))) (Au (AA Dy (Aa 8) (Ab (Ag AG (Ag AG (fz (S0 Li (xL "") (Ab (slF (Aa 6) noP (B9 (Aa 5))) Ae))) rO) (fz (S0 Li (xL "") (Ab (slF (Aa 6) (B9 (Ag AG (Aa 5) (xa 1))) noP) Ae)))) Ae))))))
  (vV (Aa 8))))))))))
def Cs :tm:=A2 9 (M8)
def N5 :FS->SO :=
  (Ak (wQ (wk (Ag gLt (Aa 1) sB)) (vV (Ag Aw (Aa 0) rp)) nxS)
  (vV (xa 0)))
def Ay :tm:=A2 0 (N5)
def UC :FS->SO :=
  (Ak (Av 4 (Ag Aw (An BC (Ab (xa 0) (Ab (xa 1) (Ab (xa 1) (Ab (xa 2) Ae))))) (Ag B5 sC (xa 4))))
  (Ak (Av 5 (An BC (Ab sC (Ab sC Ae))))
  (Ak (Av 6 sB)
  (Ak (wQ (Ge (Aa 2)) (Av 6 rp) nxS)
  (Ak (wQ sJ (vV (An Az Ae)) nxS)
  (vV (Ad BK (Ab (AW false [none,p' 0,p' 6,p' 5] (G6 rM) rW CG (Ag Aw (Aa 1) (Ag B5 (Ag Aw (Aa 3) rn) (Aa 2)))) Ae))))))))
def FX :tm:=A2 3 (UC)
def Na :FS->SO :=
  (Ak (Av 1 (xb BO rn (xa 0) (xa 3)))
  (Ak (Av 2 (Ag Aw (An BC (Ab (xa 1) (Ab (xa 2) (Ab (xa 3) (Ab (xa 2) (Ab (xa 1) (Ab (xa 4) (Ab (xa 2) (Ab (xa 3) Ae))))))))) (Ag B5 (fz (AA G7 (Aa 1) Ae)) (xa 8))))
  (Ak (Av 3 (fz (xc Cs (fz (xc Ay rn (xa 0))) rq)))
  (Ak (Av 4 (fz (xc Cs (fz (xc Ay rn (xa 1))) sV)))
  (Ak (Av 5 rF)
  (Ak (Av 6 (xa 0))
  (Ak (Bv (G6 (Ab (Aa 2) Ae)) (wd 7) (Ak (Av 8 rF)
  (Ak (Bv (G6 (Ab (Ag AG (xa 1) (Ag B5 (fz (AA G7 (Aa 1) Ae)) (Ag Aw (An BC (Ab (xa 4) (Ab (xa 3) Ae))) (Ad QA (Ab (Ag (gEq false) (Aa 2) (xa 4)) Ae))))) Ae)) (wd 9) (Ak (Au (AA Dy (Aa 8) (Ab (An Az (Ab (Ag Aw (Aa 4) rH) (Ab (fz (xf FX rB rG (Ag (gEq false) (Aa 9) (xa 0)) (Aa 1))) Ae))) Ae)))
  (Av 6 (Ag AG (Aa 6) (xa 1)))))
  (Au (AA Dy (Aa 5) (Ab (An Az (Ab (Ag Aw (Aa 3) rG) (Ab rP Ae))) Ae))))))
  (vV (Aa 5)))))))))
def FZ :tm:=A2 9 (Na)
def UB :FS->SO :=
  (Ak (Av 1 DY)
  (Ak (Bv sT rJ (Ba rB (Aa 1) rq))
  (vV (Aa 1))))
def IG :tm:=A2 3 (UB)
def N4 :FS->SO :=
  (Ak (Av 5 (AW true [none,none,p' 4] sM rC (wk (Ag (gEq false) (Aa 1) (Aa 2))) (An Az (Ab rQ (Ab rn Ae)))))
  (Ak (Bv (itU (Ag Aw (Aa 0) rD)) (AM 2 sk) (Au (AA Dy (Aa 5) (Ab (An Az (Ab sW (Ab rH (Ab rG Ae)))) Ae))))
  (Ak (Bv (itU rq) (AM 3 (Aj (wd 8) sS)) (wQ (wk (Ag (gEq false) rO (Aa 4))) (Au (AA Dy (Aa 5) (Ab (An Az (Ab sX (Ab rP (Ab rY Ae)))) Ae))) nxS))
  (Ak (wQ (E8 (wk (Ag (gEq false) (Ag Aw (Aa 3) (xa 2)) (Aa 4))) (wk (Ag (MG true) sF (An BC Ae)))) (Au (AA Dy (Aa 5) (Ab (An Az (Ab sX (Ab rZ (Ab r8 Ae)))) Ae))) nxS)
  (vV (Aa 5))))))
def EX :tm:=A2 6 (N4)
def M9 (rec:tm):FS->SO :=
  (Ak (G8 (Ag Aw (Ag Aw (Aa 0) rp) (xa 0)) rJ)
  (vV (An Az (Ab sW (Ab rq (Ab (Ad BK (Ab (AW false [none,p' 0] (itU rB) rW CG (fz (xc rec rp rn))) Ae)) Ae))))))
def EC :tQ->tm
 |0=>λ_=>.ur
 |n+1=>A2 2 (M9 (EC n))
def EG (rec:tm):FS->SO :=
  (Ak (Av 7 (fz (xg EX rn rp rq rB rD)))
  (Ak (Av 8 (fz (AA G7 (Aa 5) Ae)))
  (Ak (wQ sJ (Av 7 (AW false [none] (itU rG) rW (wk (Ag (gEq false) sG rQ)) rn)) nxS)
  (Ak (wQ (wk (Ag (MG false) (Aa 7) (An BC Ae))) (vV (xc (EC 4) rn rD)) nxS)
  (Ak (Av 9 (Ag Aw (Aa 7) (Ag Dw sY (Ag B5 (Aa 8) (Ad AI (Ab (Aa 7) Ae))))))
  (Ak (wQ (wk (Ag (gEq false) rR rQ)) (vV (Aa 9)) nxS)
  (Ak (Av 10 rF)
  (Ak (Bv (G6 (Ab (Ad AI (Ab (Ag Aw (Aa 9) (xa 2)) Ae)) Ae)) (wd 11) (wQ (E8 (wk (Ag (gEq false) sN (xa 0))) (E8 (wk (Ag (gEq false) rR sX)) (wk (Ag (gEq false) (Ag Aw (Aa 9) (xa 1)) rZ)))) (Au (AA Dy rO (Ab (An Az (Ab rQ (Ab (Ag Aw sF (Ag B5 (fz (AA G7 (Aa 5) Ae)) (Ad AI (Ab sF Ae)))) Ae))) Ae))) (Au (AA Dy rO (Ab (fz (xh rec rn rp rq rB (Ag Aw (Ag Aw (Aa 9) (xa 2)) (fz sN)) (Aa 5) (Ag Dw (Aa 6) (xa 1)))) Ae)))))
  (vV (An Az (Ab rR (Ab (Ag Aw (Aa 9) (xa 1)) (Ab (Ad BK (Ab rO Ae)) Ae)))))))))))))
def AU :tQ->tm
 |0=>λ_=>.ur
 |n+1=>A2 5 (EG (AU n))
def G2 :FS->SO :=
  (Ak (Av 6 (fz (Ad JX rS)))
  (Ak (Av 7 (xb BO rn rq (xa 7)))
  (Ak (Av 8 (Ag Aw (An BC (Ab (xa 1) (Ab (xa 2) (Ab (xa 2) (Ab (Ag Aw (An BC (Ab (xa 3) (Ab (xa 2) Ae))) (Ad QA (Ab (Ag (gEq false) (Ad AI rT) (xa 4)) Ae))) Ae))))) (Ag B5 sD (xa 4))))
  (Ak (Av 9 (Ad BK (Ab (AW false [none,p' 6,p' 7] (G6 (Ab (Aa 8) Ae)) rW CG (Ag Aw (Aa 1) (Ag B5 (fz (AA G7 (Aa 2) Ae)) (Ad AI rS)))) Ae)))
  (Ak (Av 10 (Ag Aw (An BC (Ab (Ag Aw (Aa 6) (Ag B5 sD (Ad AI rT))) (Ab rR Ae))) (Ag B5 sD (xa 2))))
  (Ak (Av 11 (Ad BK (Ab (slF (Aa 5) (B9 (xa 2)) (B9 (Ag AG (xa 1) (Aa 8)))) Ae)))
  (Ak (Av 12 rF)
  (Ak (Bv (itU (Ag Aw (Aa 1) rR)) (AM 2 (Aj (wd 13) (Aj (wd 14) AL))) (Ak (Av 15 (fz (Ag AG (fz (zipF (Aa 5) (Aa 14))) (fz (zipF sN (slF (Aa 9) sZ noP))))))
  (Ak (Av 16 (AW false [none,none,p' 9] (itZ (Aa 5) (Aa 14)) rC (wk (Ag (gEq false) (Aa 1) sH)) rn))
  (Ak (Av 7 (xb BO rn (Ag AG (Ag AG (Aa 2) (Ad AI sI)) (xa 1)) (xa 9)))
  (Ak (Av 17 (fz (xh (AU 4) rp (fz (Aa 15)) rB (An Az (Ab rD (Ab rY (Ab sL (Ab (fz (Aa 16)) Ae))))) sL (Aa 7) (xa 3))))
  (Au (AA Dy (Aa 12) (Ab (An Az (Ab (Ad BK (Ab (slF (Aa 5) noP (B9 (Ad AI (Ab (Aa 14) Ae)))) Ae)) (Ab (fz (Aa 17)) Ae))) Ae))))))))
  (vV (An Az (Ab rD (Ab rY (Ab sL (Ab (fz sN) (Ab (Ad BK sI) Ae)))))))))))))))
def C4 :tm:=A2 12 (G2)
def Fj :FS->SO :=
  (Ak (Av 3 (An BC Ae))
  (Ak (Bv (itD (Aa 1)) sw (Av 3 (fz (Ag AG (Aa 3) (AW false [none,none] (itU (Ag Aw (Aa 1) rD)) rC CG rn)))))
  (Ak (Av 5 rF)
  (Ak (Bv (itU (fz (Ag AG (fz (xc Cs (fz (xc Ay rn (xa 2))) sV)) (An BC (Ab (xL "f") (Ab (xL "fg") (Ab (xL "fgh") (Ab (xL "fghi") Ae)))))))) sO (wQ (E8 (wk (Ag (Dh true) rH (Aa 3))) (wk (Ag (Dh true) rH (Aa 5)))) (Au (AA Dy (Aa 5) (Ab rH Ae))) nxS))
  (Ak (Av 7 (fz (xc Cs (fz (xc Ay rn (xa 3))) (xa 4))))
  (Ak (Av 8 rF)
  (Ak (Av 9 rF)
  (Ak (Bv (G6 (Ab (Ad ET (Ab (Aa 2) (Ab (Ad AI sP) Ae))) Ae)) (wd 10) (Ak (Au (AA Dy (Aa 8) (Ab (fz (Fo 9 (nwV (xi C4 rn rp sL rY (Ag Aw (Aa 5) sL) rG)))) Ae)))
  (Au (AA Dy (Aa 9) (Ab (slF (Ag Aw (Aa 8) sY) noP (B9 (xa 3))) Ae)))))
  (vV (Aa 8))))))))))
def DE :tm:=A2 8 (Fj)
def Jb :FS->SO :=
  (Ak (wQ (Ep (wk (chain gLe gLe (xa 1) sB (xa 4)))) (Dm "BadCount" (Ab (xL "a stock has one to four kinds") Ae)) nxS)
  (Ak (Av 1 DY)
  (Bv sT rJ (Ak (wQ (Ep (Ge (fz (xj Bf rq)))) (λ_=>.ur) nxS)
  (Ak (wQ sQ (λ_=>.ur) nxS)
  (Ak (wQ (Ep (wk (chain gLe gLe (xa 1) (Ad AI (Ab (Aa 3) Ae)) (xa 4)))) (λ_=>.ur) nxS)
  (Ba sK (Aa 1) rq)))))))
def C3 :tm:=A2 3 (Jb)
def Ja :FS->SO :=
  (Ak (wQ (Ep (Ge (fz (xj Bf rn)))) (λ_=>.ur) nxS)
  (Ak (wQ (wk (Ag (Dh false) rn (Aa 2))) (λ_=>.ur) nxS)
  (Ak (wQ (wk (Ag gGt (Ad AI rS) (xa 2))) (λ_=>.ur) nxS)
  (Bv sM sw (wQ (wk (Ag (Dh true) rD (Aa 3))) (λ_=>.ur) nxS)))))
def Ca :tm:=A2 1 (Ja)
def Hg :FS->SO :=
  (Bv sM tf (wQ (wk (Ag (Dh true) rB (Aa 2))) (λ_=>.ur) nxS))
def BW :tm:=A2 1 (Hg)
def Hf :FS->SO :=
  (Ak (Av 1 (AW false [none,none] sT rC CG rn))
  (Ak (Av 2 rF)
  (Ak (Av 3 DY)
  (Bv sT rK (Ak (Av 6 (Ag Aw (Ag Aw (Aa 5) (xa 0)) (xa 0)))
  (Ak (Bv (itU rE) (AM 2 sm) (Ak (Au (xf Ca rG rP (Aa 3) rp))
  (Ak (wQ (wk (Ag (gEq false) (Aa 7) (Aa 6))) (Au (xb BW rG rP (Aa 2))) nxS)
  (Ba sK (Aa 3) rG))))
  (Au (AA Dy (Aa 2) (Ab rD Ae)))))))))
def CA :tm:=A2 8 (Hf)
def Kq (af:tV):FS->SO :=
  (Ak (Au (xj C3 rp))
  (Ak (Au (xj CA rp))
  (Ak (Ez af "makers_by_kind" 0 DY)
  (Ak (Ez af "parts_by_maker" 0 DY)
  (Ak (Ez af "home_by_maker" 0 DY)
  (Bv sM rJ (Ak (Ck af "makers_by_kind" 0 2 (AW false [none,none] (itU rB) rC CG rn))
  (Bv (itU rB) rK (Ak (Ck af "parts_by_maker" 0 4 (Ad BK (Ab (Aa 5) Ae)))
  (Ck af "home_by_maker" 0 4 rq))))))))))
def DB (af:tV):tm:=A2 4 (Kq af)
def BX (af:tV):FS->SO :=
  (Ak (wQ (wk (Ag (Dh true) rp (CM af "makers_by_kind" (Aa 0)))) (λ_=>.ur) nxS)
  (vV (Ad Dx (Ab (Ag Aw (CM af "makers_by_kind" (Aa 0)) rp) Ae))))
def AY (af:tV):tm:=A2 0 (BX af)
def Cc (af:tV):FS->SO :=
  (vV (Ad Dx (Ab (CM af "makers_by_kind" (Aa 0)) Ae)))
def AJ (af:tV):tm:=A2 0 (Cc af)
def N3 (af:tV):FS->SO :=
  (vV (Ad ZK (Ab (AW false [none,p' 1,p' 0] (itU (fz (Dg af "kinds" 1 (AJ af) rn Ae))) rW CG (Ag (Dh false) rp (fz (Bd af "makers" 2 (AY af) rq (Ac rn Ae))))) Ae)))
def EW (af:tV):tm:=A2 0 (N3 af)
def Ko (af:tV):FS->SO :=
  (Ak (G8 rq (AM 5 (Aj tf (Aj sw (Aj (wd 5) sk)))))
  (Ak (wQ (Ep (Ge (fz (xj Bf rB)))) (λ_=>.ur) nxS)
  (Ak (wQ (orT (wk (Ag (Dh false) rB (Aa 1))) (Ge (fz (xc (EW af) rn rB)))) (λ_=>.ur) nxS)
  (Ak (wQ (Ep (wk (chain gLe gLe (xa 1) sR (xa 3)))) (λ_=>.ur) nxS)
  (Ak (Bv (itU (fz (Ag AG (fz (Ad Dx rM)) (An BC sP)))) (wd 8) (wQ (wk (Ag (Dh true) rP (fz (Dg af "kinds" 1 (AJ af) rn Ae)))) (λ_=>.ur) nxS))
  (Ak (wQ (wk (Ag (gEq true) (Ad AI rT) (Ag Dw sR (xa 1)))) (λ_=>.ur) nxS)
  (wQ (wk (Ag (gEq true) (Ad AI (Ab (Aa 7) Ae)) (Ad AI (Ab (fz (Bd af "makers" 2 (AY af) rn (Ac (Ag Aw (Aa 4) (xa 0)) Ae))) Ae)))) (λ_=>.ur) nxS)))))))
def DA (af:tV):tm:=A2 6 (Ko af)
def Cb (af:tV):FS->SO :=
  (Ak (wQ (wk (Ag (Dh true) rp (CM af "parts_by_maker" (Aa 0)))) (λ_=>.ur) nxS)
  (vV (Ag Aw (CM af "parts_by_maker" (Aa 0)) rp)))
def A6 (af:tV):tm:=A2 0 (Cb af)
def I0 :FS->SO :=
  (Ak (Av 1 DY)
  (Bv sT (wd 2) (Ak (wQ (Ep (Ge (fz (xj Bf rq)))) (λ_=>.ur) nxS)
  (Ak (wQ sQ (λ_=>.ur) nxS)
  (Ba sK (Aa 1) rq)))))
def C1 :tm:=A2 2 (I0)
def Kr (af:tV):FS->SO :=
  (Ak (wQ (wk (Ag (Dh true) rp (CM af "home_by_maker" (Aa 0)))) (λ_=>.ur) nxS)
  (vV (Ag Aw (CM af "home_by_maker" (Aa 0)) rp)))
def DC (af:tV):tm:=A2 0 (Kr af)
def GZ (ai:tV)(af:tV):FS->SO :=
  (Ak (wQ (wk (Ag (gEq false) (Aa 1) sW)) (vV (An Az (Ab (fz (Bd af "parts" 2 (A6 af) (CM ai "stock" (Aa 0)) (Ac rq Ae))) (Ab (fz (Bd af "home" 2 (DC af) (CM ai "stock" (Aa 0)) (Ac rq Ae))) Ae)))) nxS)
  (Ak (wQ (wk (Ag (Dh true) rq (CM ai "heads" (Aa 0)))) (λ_=>.ur) nxS)
  (vV (Ag Aw (CM ai "heads" (Aa 0)) rq))))
def Bs (ai:tV)(af:tV):tm:=A2 0 (GZ ai af)
def He (ai:tV):FS->SO :=
  (Ak (wQ (wk (Ag (Dh true) rp (CM ai "kinds_by_name" (Aa 0)))) (λ_=>.ur) nxS)
  (vV (Ag Aw (CM ai "kinds_by_name" (Aa 0)) rp)))
def Cz (ai:tV):tm:=A2 0 (He ai)
def IZ (ai:tV)(af:tV)(rec:tm):FS->SO :=
  (Ak (wQ (wk (Ag (gEq false) (Ag Aw (Aa 1) (xa 0)) rQ)) (vV (xc (Cz ai) rn (Ag Aw (Aa 1) (xa 1)))) nxS)
  (Ak (G8 rp (AM 3 (Aj (wd 2) (Aj tf (Aj sw AL)))))
  (Ak (G8 (fz (xb (Bs ai af) rn rq rB)) (AM 2 rN))
  (Ak (wQ (wk (Ag (gEq true) sR (Ad AI (Ab (Aa 5) Ae)))) (λ_=>.ur) nxS)
  (Ak (wQ (E8 (wk (Ag (gEq false) (Aa 2) sX)) (E8 (wk (Ag (gEq false) (Aa 3) (CM ai "own" (Aa 0)))) (wk (Ag NQ (Ag Aw (Aa 4) (xa 0)) (CM ai "lessers" (Aa 0)))))) (λ_=>.ur) nxS)
  (Ak (Bv (itZ (Aa 4) (Aa 5)) (AM 2 sm) (wQ (wk (Ag (gEq true) (fz (xc rec rn rG)) (Aa 8))) (λ_=>.ur) nxS))
  (vV (Aa 6))))))))
def BN (ai:tV)(af:tV):tQ->tm
 |0=>λ_=>.ur
 |n+1=>A2 7 (IZ ai af (BN ai af n))
def Ks (ai:tV):FS->SO :=
  (Ak (Ez ai "stock" 0 rp)
  (Ak (Ez ai "heads" 0 rq)
  (Ak (Ez ai "kinds_by_name" 0 rB)
  (Ak (Ez ai "own" 0 rD)
  (Ez ai "lessers" 0 rE)))))
def DD (ai:tV):tm:=A2 0 (Ks ai)
def Ls (ai:tV)(af:tV):FS->SO :=
  (Ak (G8 rq (AM 5 (Aj (wd 5) (Aj sO (Aj (wd 7) (Aj (wd 8) (Aj (wd 9) AL)))))))
  (Ak (G8 rD (AM 2 (Aj (wd 10) (Aj (wd 11) AL))))
  (Ak (Av 12 (fz (Bd af "parts" 2 (A6 af) rn (Ac rB Ae))))
  (Ak (wQ (wk (Ag (gEq true) (Ad AI (Ab rO Ae)) (Ad AI sI))) (λ_=>.ur) nxS)
  (Ak (Au (xj C1 rX))
  (Ak (Av 13 (fz (GN (Ab rX (Ab (fz (Ag AG (fz (Ad Dx sI)) (fz (Ad Dx (Ab (slF (Aa 6) sZ noP) Ae))))) Ae)))))
  (Ak (Av 14 (AW false [none,p' 13,p' 6] (itU sL) rW (wk (Ag (gEq false) so sH)) (An Az (Ab rQ (Ab rn Ae)))))
  (wQ (wk (Ag (gEq true) (fz (xc (BN ai af 20) (fz (Ad (CK ai 6 (DD ai)) (Ac rn (Ac rp (Ac (fz (Aa 13)) (Ac rE (Ac (fz (Aa 14)) Ae))))))) (fz sN))) (Aa 7))) (λ_=>.ur) nxS))))))))
def Ed (ai:tV)(af:tV):tm:=A2 10 (Ls ai af)
def D5 (ah:tV)(ai:tV)(af:tV):FS->SO :=
  (Ak (Ez ah "stock" 0 rp)
  (Ak (Ez ah "heads" 0 DY)
  (Ak (Ez ah "rows_by_function" 0 DY)
  (Bv (itU rq) tf (Ak (Au (Gk 0 (xb (DA af) rp (CM ah "heads" (Aa 0)) rB)))
  (Ak (G8 rB (AM 5 (Aj sw (Aj (wd 5) (Aj sO sm)))))
  (Ak (Ck ah "heads" 0 4 (An Az (Ab (Ad BK (Ab (Aa 5) Ae)) (Ab rH Ae))))
  (Ak (GJ ah "rows_by_function" 0 4)
  (Bv (itZ (fz (Bd af "makers" 2 (AY af) rp (Ac (Ag Aw (Aa 5) (xa 0)) Ae))) (Aa 8)) (AM 2 sS) (Ak (Au (Gk 0 (xg (Ed ai af) rp (CM ah "heads" (Aa 0)) rB rY sL)))
  (dput2 ah "rows_by_function" 0 4 9 (An Az (Ab (Ag AG (Ad BK (Ab (Ag Aw rO (xa 0)) Ae)) (Ad BK (Ab (Aa 7) Ae))) (Ab (Ag Aw rO (xa 1)) Ae))))))))))))))
def CB (ah:tV)(ai:tV)(af:tV):tm:=A2 8 (D5 ah ai af)
def G1 :FS->SO :=
  (Ak (Av 2 (An BC (Ab (fz DY) Ae)))
  (Ak (Bv (itZ (Aa 0) (Aa 1)) (AM 2 (Aj tf (Aj sw AL))) (Ak (Av 5 rF)
  (Ak (Bv (itU rq) sO (Bv (itU rD) (wd 7) (Ak (Av 8 (Ad Ew rT))
  (Ak (Ba rG (Aa 8) rB)
  (Au (AA Dy (Aa 5) (Ab rP Ae)))))))
  (Av 2 rE))))
  (vV (Aa 2))))
def Ee :tm:=A2 7 (G1)
def DK (ao:tV):FS->SO :=
  (Ak (Au (C7 ao "waiting" 0 (An Az (Ab rp (Ab rq (Ab rB (Ab sK Ae)))))))
  (Bv (itVT (Ag Aw (Aa 1) (xa 2))) sw (Au (C7 ao "waiting" 0 (An Az (Ab rD (Ab rq (Ab rB sA))))))))
def A7 (ao:tV):tm:=A2 1 (DK ao)
def Jc (ah:tV):FS->SO :=
  (Ak (wQ (wk (Ag (Dh true) rp (CM ah "rows_by_function" (Aa 0)))) (λ_=>.ur) nxS)
  (Ak (wQ (wk (Ag (Dh true) rq (Ag Aw (CM ah "rows_by_function" (Aa 0)) rp))) (λ_=>.ur) nxS)
  (vV (Ag Aw (Ag Aw (CM ah "rows_by_function" (Aa 0)) rp) rq))))
def Bk (ah:tV):tm:=A2 0 (Jc ah)
def Hd :FS->SO :=
  (Ak (Av 1 rF)
  (Ak (Av 2 (An BC (Ab rn Ae)))
  (Ak (BY (Ge (Aa 2)) (Ak (Au (AA Dy (Aa 1) (Ab sE Ae)))
  (Ak (Av 3 rF)
  (Ak (Bv (itU rq) rK (Au (AA Ec (Aa 3) sP)))
  (Av 2 rB)))) 1000)
  (vV (Aa 1)))))
def Cy :tm:=A2 5 (Hd)
def Rm :FS->SO :=
  (Ak (Av 1 (fz (xj Cy rn)))
  (vV (An Az (Ab rn (Ab (Ad Oc rS) (Ab (Ad AI rS) Ae))))))
def Ci :tm:=A2 1 (Rm)
def Fy (ah:tV)(ao:tV):FS->SO :=
  (Ak (wQ (wk (Ag gLe (CM ao "calls_left" (Aa 0)) (xa 0))) (Dm "TooLong" (Ab (xL "there are too many calls") Ae)) nxS)
  (Ak (wQ (wk (Ag gGt (Aa 3) (xa 20))) (Dm "TooLong" (Ab (xL "a call is too deep") Ae)) nxS)
  (Ak (OE ao "calls_left" 0 1)
  (Ak (G8 (Ag Aw sH (xa 0)) rK)
  (Ak (G8 (fz (Bd ah "row" 3 (Bk ah) (CM ao "program" (Aa 0)) (Ac rp (Ac rD Ae)))) (AM 2 sk))
  (Ak (Av 8 (fz (Ag AG (AW false [none] (itU rE) rW CG (fz (xj Ci rn))) (slF (Aa 2) sZ noP))))
  (Au (C7 ao "waiting" 0 (An Az (Ab rG (Ab (fz (GN (Ab (Aa 6) (Ab (Aa 8) Ae)))) (Ab (Ag AG (Aa 3) (xa 1)) sA))))))))))))
def Bl (ah:tV)(ao:tV):tm:=A2 5 (Fy ah ao)
def b_made :FS->SO :=
  (Ak (Av 2 (Ag AG (xa 1) (Ad Oc (Ab (AW false [none] sM rW CG (Ag Aw (Aa 0) (xa 1))) Ae))))
  (Ak (Av 3 (Ag AG (xa 1) (maxD 0 (Ab (AW false [none] sM rW CG (Ag Aw (Aa 0) (xa 2))) Ae))))
  (Ak (wQ (orT (wk (Ag gGt (Aa 2) (xa 300))) (wk (Ag gGt (Aa 3) (xa 40)))) (Dm "TooLong" (Ab (xL "a thing is too great or too deep") Ae)) nxS)
  (vV (An Az (Ab (An Az (Ab rn (Ab (Ad BK (Ab (AW false [none] sM rW CG sG) Ae)) Ae))) (Ab rq (Ab rB Ae))))))))
def J3 :tm:=A2 2 (b_made)
def Lv (ao:tV):FS->SO :=
  (Ak (Av 2 rF)
  (Ak (Bv (G6 rS) tf (Au (AA Dy (Aa 2) (Ab (fz (Ie ao "worths" 0)) Ae))))
  (vV (ZD (Aa 2)))))
def Cj (ao:tV):tm:=A2 2 (Lv ao)
def Lu (ah:tV)(ao:tV):FS->SO :=
  (Ak (Au (C7 ao "waiting" 0 (An Az (Ab rq (Ab rp (Ab (xa 1) sA))))))
  (Ak (BY (Nv ao "waiting" 0) (Ak (G8 (fz (Ie ao "waiting" 0)) (AM 4 (Aj tf (Aj sw rN))))
  (wQ (wk (Ag (gEq false) rZ rQ)) (Au (C7 ao "worths" 0 (Ag Aw (Aa 4) r8))) (wQ (Ep (Ge (Aa 6))) (Au (Bd ao "await_arguments" 4 (A7 ao) (Aa 0) (Ac rB (Ac rD (Ac rE Ae))))) (wQ (wk (Ag (gEq false) rZ sW)) (Au (C7 ao "worths" 0 (fz (xc J3 r8 (fz (Bd ao "taken" 2 (Cj ao) (Aa 0) sr)))))) (Au (Bd ao "await_body" 4 (Bl ah ao) (Aa 0) (Ac r8 (Ac (fz (Bd ao "taken" 2 (Cj ao) (Aa 0) sr)) (Ac rE Ae))))))))) 110000)
  (vV (Ag Aw (Qh ao "worths" 0) (xa 0)))))
def BJ (ah:tV)(ao:tV):tm:=A2 4 (Lu ah ao)
def E6 (ao:tV):FS->SO :=
  (Ak (Ez ao "program" 0 rp)
  (Ak (Ez ao "calls_left" 0 rq)
  (Ak (Ez ao "waiting" 0 rF)
  (Ez ao "worths" 0 rF))))
def CO (ao:tV):tm:=A2 0 (E6 ao)
def b_run (ah:tV)(ao:tV):FS->SO :=
  (Ak (Av 4 DY)
  (Ak (Bv (itI (Aa 1)) (AM 2 rN) (Ba (fz (xj Ci rH)) (Aa 4) rE))
  (vV (newMeth ao "worth" 3 (BJ ah ao) (Ad (CK ao 3 (CO ao)) (Ac rn (Ac rB Ae))) (Ac rD (Ac rq Ae))))))
def f_run (ah:tV)(ao:tV):tm:=A2 3 (b_run ah ao)
def b_Lworth_of (ah:tV)(ao:tV):FS->SO :=
  (Ak (Av 4 su)
  (Ak (Nu (λc=>xrs.contains c&&xtab c "TooLong") (Av 4 (fz (xf (f_run ah ao) rn rp rq rB))) (Av 4 su))
  (vV (Aa 4))))
def f_Lworth_of (ah:tV)(ao:tV):tm:=A2 1 (b_Lworth_of ah ao)
def b_Ldue (ah:tV)(ao:tV):FS->SO :=
  (Ak (Bv (itU (fz (xc Ee rp rq))) sO (Ak (Av 7 (fz (xf (f_Lworth_of ah ao) rn (fzN (Ad Ew rT)) rB rE)))
  (Ak (Av 8 (fz (xf (f_Lworth_of ah ao) rn (fzN (Ad Ew rT)) rD rE)))
  (wQ (E8 (wk (Ag IB (Aa 7) su)) (E8 (wk (Ag IB (Aa 8) su)) (wk (Ag GF (Aa 7) (Aa 8))))) (vV (Aa 6)) nxS))))
  (vV su))
def f_Ldue (ah:tV)(ao:tV):tm:=A2 3 (b_Ldue ah ao)
def AZ (rec:tm):FS->SO :=
  (Ak (wQ (Ep (Ge (Aa 0))) (vV (ifV (wk (Ag (gEq false) (Aa 1) (xa 0))) (An BC (Ab (An Az Ae) Ae)) (An BC Ae))) nxS)
  (Ak (Av 3 rF)
  (Ak (Bv (Jb0 (Ab (xa 1) (Ab (Ag AG (Aa 1) (xa 1)) Ae))) sw (Ak (Av 5 (fz (xb rec (slF (Aa 0) sZ noP) (Ag Dw (Aa 1) (Aa 4)) (Aa 2))))
  (Bv (itU (Ag Aw (Aa 2) (An Az (Ab sG (Ab rD Ae))))) sO (Au (AA Ec (Aa 3) (Ab (AW false [none,p' 6] (itU rE) rW CG (Ag AG (An Az (Ab rp Ae)) (Aa 0))) Ae))))))
  (vV (Aa 3)))))
def AE :tQ->tm
 |0=>λ_=>.ur
 |n+1=>A2 4 (AZ (AE n))
def BF (af:tV):FS->SO :=
  (Ak (Av 4 rF)
  (Ak (Bv (itU (fz (Bd af "makers" 2 (AY af) rn (Ac rp Ae)))) (wd 5) (Bv (itU (fz (xb (AE 4) (fz (Bd af "parts" 2 (A6 af) rn (Ac rE Ae))) (Ag Dw (Aa 2) (xa 1)) (Aa 3)))) sO (Au (AA Dy (Aa 4) (Ab (An Az (Ab rE (Ab rH Ae))) Ae)))))
  (vV (Aa 4))))
def A3 (af:tV):tm:=A2 3 (BF af)
def F7 (af:tV):FS->SO :=
  (Ak (wQ (wk (Ag (Dh true) rp (fz (Dg af "kinds" 1 (AJ af) rn Ae)))) (λ_=>.ur) nxS)
  (Ak (Av 3 rF)
  (Ak (Av 4 Jcn)
  (Ak (Bv (Jb0 (Ab (xa 1) (Ab (Ag AG (xa 7) (xa 1)) Ae))) (wd 5) (Ak (Bv (itU (fz (Dg af "kinds" 1 (AJ af) rn Ae))) sO (Ba (fz (xf (A3 af) rn rH rE (Aa 4))) (Aa 4) (An Az (Ab rH sP))))
  (Ak (Au (AA Ec (Aa 3) (Ab (Ag Aw (Aa 4) (An Az (Ab rp sP))) Ae)))
  (wQ (wk (Ag gGe (Ad AI (Ab (Aa 3) Ae)) (Aa 2))) (λfs=>.brk fs) nxS))))
  (vV (slN (Aa 3) noP (B9 (Aa 2))))))))
def EB (af:tV):tm:=A2 4 (F7 af)
def Cm :FS->SO :=
  (Ak (Av 1 (xa 1))
  (Ak (Bv sT (wd 2) (augP 1 sE))
  (vV (Aa 1))))
def BI :tm:=A2 2 (Cm)
def b_sides_differ (ah:tV)(ao:tV):FS->SO :=
  (Ak (Nu (λc=>xrs.contains c&&xtab c "TooLong") (vV (Ag GF (fz (xf (f_run ah ao) rn rp rq rD)) (fz (xf (f_run ah ao) rn rp rB rD)))) (vV (gc (.l false))))
  nxS)
def f_sides_differ (ah:tV)(ao:tV):tm:=A2 0 (b_sides_differ ah ao)
def M7 :FS->SO :=
  (Ak (Av 2 rF)
  (Ak (Av 3 rp)
  (Ak (Bv (itV rn) sw (Ak (Au (AA Dy (Aa 2) (Ab (Ag Aw (Aa 4) (Ag B5 (Aa 3) sR)) Ae)))
  (Av 3 (Ag EU (Aa 3) sR))))
  (vV (ZD (Aa 2))))))
def IF :tm:=A2 3 (M7)
def b_against (ah:tV)(ao:tV)(af:tV):FS->SO :=
  (Ak (G8 rp (AM 3 (Aj sw rN)))
  (Ak (Av 7 (AW false [none,none,p' 2,p' 0] (itU rD) rC CG (fz (xb (EB af) (CM ah "stock" (Aa 3)) rp rq))))
  (Ak (Bv (G6 (Ab (fz (xj BI rG)) Ae)) (wd 8) (Ak (Av 9 (fzN (GN (Ab (AW false [none,none] (itU rD) rC CG rn) (Ab (fz (xc IF rG rP)) Ae)))))
  (wQ (Ge (fz (xg (f_sides_differ ah ao) rn rY rE rH rB))) (vV (Aa 9)) nxS)))
  (vV su))))
def f_against (ah:tV)(ao:tV)(af:tV):tm:=A2 6 (b_against ah ao af)
def UD :FS->SO :=
  (Ak (Av 3 (Ad Oc (Ab (AW false [none,p' 0] rL rW CG so) Ae)))
  (Ak (wQ (wk (Ag (gEq false) (Ag B5 (Aa 3) (xa 2)) (xa 0))) (vV (Ag B5 (Ag EU (Aa 3) (xa 2)) (Ag ZI (xa 10) (xa 60)))) nxS)
  (Ak (Av 4 (Ag BH (Ag AG (Ag AG (Ag AG (Ag BH (Aa 3) (Aa 3)) (Aa 3)) (Aa 1)) (xa 1)) (xa 982451653)))
  (vV (Ag BH (Ag B5 (Ag BH (Aa 4) (Aa 4)) (Ag AG (Ag ZI (xa 10) (xa 18)) (xa 9))) (Ag AG (Ag B5 (Aa 4) sU) (xa 7)))))))
def FY :tm:=A2 2 (UD)
def b_law (ah:tV)(ao:tV)(ai:tV)(af:tV):FS->SO :=
  (Ak (Av 1 (fz (xj FZ rn)))
  (Ak (Av 2 (xj IG rp))
  (Ak (Av 3 (fz (xb DE rn (fzD (Aa 2)) (Ag AG (xa 1) (Ag B5 (fz (xc Ay rn (xa 4))) (xa 2))))))
  (Ak (Av 4 (fz (Ad (CK af 2 (DB af)) (Ac rp Ae))))
  (Ak (Av 5 (fz (Ad (CK ah 3 (CB ah ai af)) (Ac rD (Ac rB Ae)))))
  (Ak (Av 6 (Ag B5 (Ag EU (fz (xc Ay rn (xa 5))) (xa 2)) (xa 4)))
  (Ak (Av 7 (slF (fz (xc Cs (fz (xc Ay rn (xa 5))) (xa 3))) noP (B9 (Aa 6))))
  (Ak (Av 8 (AW false [none,p' 7,p' 1,p' 0] (G6 rT) rW CG (An Az (Ab so (Ab (Ag Aw (Ag Aw (Aa 2) (Ag B5 (Ag EU (fz (xb FY rB rn (xa 4))) (xa 3)) sE)) (xa 0)) Ae)))))
  (Ak (Av 9 (AW false [none] (itU rB) rW CG (slF (Aa 0) noP (B9 (xa 3)))))
  (Ak (Av 10 (Ag Aw (Ag Aw (Aa 9) sY) (xa 2)))
  (Ak (Av 11 (xa 0))
  (Ak (wQ (wk (Ag gGt (Aa 6) (xa 1))) (Av 11 (Ag B5 (Ag EU (fz (xc Ay rn (xa 6))) (xa 3)) (xa 4))) nxS)
  (Ak (wQ (wk (Ag gGt sN (xa 0))) (Ak (Av 8 (AW false [none,p' 8] (itU rG) rW CG (An Az (Ab rn (Ab (Ag Aw (Ag Aw (Aa 1) (xa 0)) (xa 1)) Ae)))))
  (Av 10 (Ag Aw (Ag Aw (Aa 8) (xa 0)) (xa 1)))) nxS)
  (Ak (Av 12 (fz (xh (AU 4) rq rP rY rV sL (xb BO rn (xa 5) (xa 6)) (xa 2))))
  (Ak (Av 13 (fz (Aa 12)))
  (Ak (wQ (wk (Ag gGt (Ag B5 (fz (xc Ay rn (xa 6))) (xa 4)) (xa 0))) (Av 13 (fz (xh (AU 4) rq rP rY rV sL (xb BO rn (xa 4) (xa 6)) (xa 2)))) nxS)
  (Ak (wQ (wk (Ag (gEq false) sN (xa 1))) (Ak (Av 12 (An Az (Ab rQ (Ab (Ag Aw (Aa 7) (xa 0)) Ae))))
  (Av 13 (An Az (Ab rQ (Ab (Ag Aw (Aa 7) sY) Ae))))) nxS)
  (Ak (wQ (wk (Ag (gEq false) sN (xa 2))) (Av 13 (An Az (Ab rQ (Ab (Ag Aw (Aa 7) (Ag B5 (Ag EU (fz (xc Ay rn (xa 6))) sV) (Aa 6))) Ae)))) nxS)
  (Ak (Av 14 (Ag AG (xa 1) (Ag B5 (Ag EU (fz (xc Ay rn (xa 7))) (xa 2)) (Ag Aw (An BC (Ab (xa 4) (Ab sV (Ab (xa 4) (Ab (xa 2) Ae))))) rH))))
  (Ak (Av 15 (Ag B5 (Ag EU (fz (xc Ay rn (xa 6))) (xa 4)) (xa 21)))
  (Ak (Av 16 (AW false [none,none,p' 4,p' 14] (itU rP) rC CG (fz (xb (EB af) rq rp rB))))
  (Ak (Av 17 (fz (xi (f_Ldue ah ao) rE rG (fz (Aa 16)) (fz (Aa 12)) (fz (Aa 13)) (fz (Aa 15)))))
  (Ak (Av 18 (fz (xf (f_against ah ao af) rE (An Az (Ab (Ad BK (Ab (Aa 8) Ae)) (Ab (fz (Aa 12)) (Ab (fz (Aa 13)) Ae)))) (fz (Aa 14)) (fz (Aa 15)))))
  (Ak (wQ (wk (Ag (Od false) (Aa 17) su)) (vV (Ag (Od false) (Aa 18) su)) nxS)
  (vV (andV (isD (Aa 18)) (Ag (gEqV false) (Aa 18) (Aa 17))))))))))))))))))))))))))))
def f_law (ah:tV)(ao:tV)(ai:tV)(af:tV):tm:=A2 18 (b_law ah ao ai af)
end Lake.Sy
namespace Nm
def M (c:tN):tN:=(c*c+c+1)*982451653
def W (c:tN):tN:=1+M c%12
def At (c:tN):tN:=M c/12%W c
def D3 (i:tN):tQ:=97+(i%26).uw
def uk (c:tN)(j:tQ):tQ:=D3 (M c/((j:tN)+5)+(j:tN)*j)
def stepI (c:tN):tQ:=(M c/144%6).uw
def step (c:tN):tN:=([1,3,5,7,9,11]:tH tN).uZ (stepI c) 1
def one (c:tN)(k:tQ):tQ:=D3 (M c/864+(k:tN)*step c)
def HL (c:tN)(k:tQ):tH tQ:=tH.uN (((k:tN)+M c/7)%12+1).uw (uk c 0)
def HK (c:tN)(k:tQ):tH tQ:=(tH.vq (At c).uw).tJ (uk c)++[one c k]++(tH.vq ((W c).uw-((At c).uw+1))).tJ λj=>uk c ((At c).uw+1+j)
def codes (c:tN)(k:tQ):tH tQ:=if M c/900%3=1 then HL c k else HK c k
def W_lo(c:tN):1<=W c:=by unfold W;omega
def W_hi(c:tN):W c<=12:=by unfold W;omega
def At_lo(c:tN):0<=At c:=oU _ (by have:=W_lo c;omega)
def At_hi(c:tN):At c<W c:=oN _ (by have:=W_lo c;omega)
def P1(i:tN):97<=D3 i:=by unfold D3;omega
def P2(i:tN):D3 i<=122:=by unfold D3;omega
def R3(c:tN):step c=1\/step c=3\/step c=5\/step c=7\/step c=9\/step c=11:=by
 have h:stepI c<6:=by unfold stepI;omega
 unfold step;generalize stepI c=i at h;revert i;decide +kernel
def R4:∀s∈([1,3,5,7,9,11]:tH tN),∀k<12,∀k'<12,((k:tQ):tN)*s%26=((k':tQ):tN)*s%26->k=k':=by decide +kernel
def one_inj{c:tN}{k k':tQ}(hk:k<12)(dz:k'<12)(h:one c k=one c k'):k=k':=by unfold one D3 at h;refine R4 (step c) (by simpa using R3 c) k hk k' dz ?_;have h:=tN.ofNat_inj.wO (tQ.add_left_cancel h);rw[tN.toNat_of_nonneg (tN.emod_nonneg _ ZB),tN.toNat_of_nonneg (tN.emod_nonneg _ ZB)]at h;have h:=tN.emod_eq_emod_iff_emod_sub_eq_zero.mp h;rw[tN.add_sub_add_left]at h;exact tN.emod_eq_emod_iff_emod_sub_eq_zero.wO h
def DS(c:tN)(k:tQ):(HL c k).fg=(((k:tN)+M c/7)%12+1).uw:=by unfold HL;simp
def E1(c:tN)(k:tQ):(HK c k).fg=(W c).uw:=by unfold HK;simp![n9,nU,px,o9];exact tQ.add_sub_cancel' ((tN.toNat_lt_toNat (tN.lt_of_le_of_lt (At_lo c) (At_hi c))).wO (At_hi c))
def Uk(c:tN)(k:tQ):1<=(codes c k).fg:=by
 unfold codes;split
 .rw[DS];omega
 .rw[E1];have:=W_lo c;omega
def MX(c:tN)(k:tQ):(codes c k).fg<=12:=by
 unfold codes;split
 .rw[DS];omega
 .rw[E1];have:=W_hi c;omega
def IU(c:tN)(k:tQ):∀x∈codes c k,97<=x/\x<=122:=by
 intro x hx;have key:∃i,x=D3 i:=by
  unfold codes at hx;split at hx
  .unfold HL at hx;exact{_,(tH.mem_replicate.mp hx).2}
  .unfold HK at hx;rcases oS.mp hx with hx|hx
   .rcases oS.mp hx with hx|hx
    .let{j,_,rfl}:=oa.mp hx;exact{_,rfl}
    .rw[oF.mp hx];exact{_,rfl}
   .let{j,_,rfl}:=oa.mp hx;exact{_,rfl}
 let{i,rfl}:=key;exact{P1 i,P2 i}
def Q1{c:tN}{k k':tQ}(hk:k<12)(dz:k'<12)(h:codes c k=codes c k'):k=k':=by
 unfold codes at h;split at h
 .have h:=uC tH.fg h;rw[DS,DS]at h;have h:=tN.ofNat_inj.wO h;rw[tN.toNat_of_nonneg (tN.le_add_one (tN.emod_nonneg _ ZB)),tN.toNat_of_nonneg (tN.le_add_one (tN.emod_nonneg _ ZB))]at h;have e:=tN.ofNat_inj.mp ((tN.emod_add_cancel_right _).mp ((tN.add_left_inj 1).mp h));exact(tQ.mod_eq_of_lt hk).symm.trans (e.trans (tQ.mod_eq_of_lt dz))
 .unfold HK at h;rw[oQ,oQ]at h;have h1:=tH.append_cancel_left h;rw[tH.singleton_append,tH.singleton_append]at h1;exact one_inj hk dz (tH.ux.inj h1).1
end Nm
namespace Lake.Sy
open PySem PySem.Spec L2 FL
def KW(e:g fs=.nx ak):Ak g h fs=h ak:=by unfold Ak;rw[e]
abbrev vl(t:T):tL Sl:=p' (.vm t)
abbrev iv(i:tN):tL Sl:=p' (.vm (.tS i))
def vC :tL Sl->Prop
 |p' (.u7 _)=>vd
 |_=>uQ
def Ao:vC none:=uQ.intro
def Al:vC (vl t):=uQ.intro
def Bp(e:fs[i]?=p' x)(h:vC x):HV i (.t t) fs=p' (fs.wJ i (vl t)):=by unfold HV;rw[e];cases x with|none=>rfl|p' s=>cases s with|vm t=>rfl|uI o=>rfl|u7 o=>exact h.tU
def GR{fe:tm}{f:T->T}{uu:FS}:∀(ts:tH T)(x:tL Sl)(ar:tH T),vC x->(∀t∈ts,fe (vl t::uu)=.ok (.t (f t)) (vl t::uu))->ar.fg+ts.fg<=big ->
  ∃y,vC y/\Bq (wd 0) CG fe ts (x::uu) ar=p' (ar++ts.tJ f,y::uu)
 | [],x,ar,hx,_,_=>{x,hx,by simp[Bq]}
 |t::ts,x,ar,hx,h,hl=>by
  let{y,hy,e}:=GR ts (vl t) (ar++[f t]) Al (λt' m=>h t' (n4 _ m)) (by simp at hl ⊢;lia);refine{y,hy,?_};have h1:wd 0 t (x::uu)=p' (vl t::uu):=by unfold wd;rw[Bp (x:=x) rfl hx];rfl
  have h2:=h t n5;have h3:ar.fg<big:=by simp at hl;lia
  simp![Bq,h1,CG,h2,tW h3,e];simp
def ID(P:tH T->FS->Prop)(step:∀t ts fs,P (t::ts) fs->∃ae aq,gt t fs=p' ae/\vR ae=.nx aq/\P ts aq):∀(ts:tH T)(fs:FS),P ts fs->∃ak,Dz gt vR ts fs=.nx ak/\P [] ak
 | [],fs,h=>{fs,rfl,h}
 |t::ts,fs,h=>by let{ae,aq,e1,e2,h2}:=step t ts fs h;let{ak,e,hp}:=ID P step ts aq h2;exact{ak,by simp![Dz,e1,e2,e],hp}
def DW:∀ns:tH tN,Fl (ns.tJ T.tS)=p' ns
 | []=>rfl
 |n::ns=>by simp[Fl,DW ns]
def IsI (t:T)(ns:tH tN):Prop:=t=.n (ns.tJ T.tS)\/t=.tY (ns.tJ T.tS)
def IsI.seq(h:IsI t ns)(fs:FS):BD fs (.t t)=p' (ns.tJ T.tS):=by rcases h with rfl|rfl<;>rfl
def Sj{a j c:tN}{i:tQ}(hc:0<c)(h:i<(t6.Range.ww a j c).uw):a+i*c<j:=by
 unfold t6.Range.ww at h;rw[tW hc]at h;by_cases haj:a<j
 .rw[tW haj]at h;have h2:(i:tN)<=(j-a-1)/c:=by lia
  have h3:=(tN.le_ediv_iff_mul_le hc).mp h2
  lia
 .rw[ug haj]at h;simp at h
def L3{a j c:tN}(hc:0<c):0<=t6.Range.ww a j c:=by
 unfold t6.Range.ww;rw[tW hc];by_cases haj:a<j
 .rw[tW haj];have:0<=(j-a-1)/c:=tN.ediv_nonneg (by lia) (by lia)
  lia
 .rw[ug haj];exact tN.le_refl 0
def Jx{a j c:tN}(hc:0<c)(h0:0<=a)(h:j<=63):(t6.Range.ww a j c).uw<=63:=by
 unfold t6.Range.ww;rw[tW hc];by_cases haj:a<j
 .rw[tW haj];have:(j-a-1)/c<=j-a-1:=tN.ediv_le_self _ (tN.sub_nonneg_of_le (tN.le_sub_left_of_add_le (tN.add_one_le_of_lt haj)));refine tN.toNat_le.wO (tN.le_trans (tN.add_le_add_right this 1) ?_);rw[tN.sub_add_cancel];exact tN.le_trans (tN.sub_le_self _ h0) h
 .rw[ug haj];simp
def OI{a b c:tN}(a0:0<=a)(a1:a<=1000)(b0:0<=b)(b1:b<=63)(c0:1<=c)(c1:c<=1000):t6.Range.small a b c=true:=by
 have h1:=L3 (a:=a) (j:=b) (c:=c) (by lia);have h2:=Jx (a:=a) (j:=b) (c:=c) (by lia) a0 b1;unfold t6.Range.small;simp![t6.Range.rangeFitsLong,oB,pW,decide_eq_true_eq,beq_iff_eq,show c>0 by lia,if_true];have f:∀{x:tN},0<=x->x<=2000->-2^63<=x/\x<2^63:=λh k=>{tN.le_trans ZB h,tN.lt_of_le_of_lt k ZB}
 exact{ { { {f a0 (tN.le_trans a1 ZB),f b0 (tN.le_trans b1 ZB)},f (tN.le_trans ZB c0) (tN.le_trans c1 ZB)},f h1 (tN.le_trans (tN.toNat_le.mp h2) ZB)},.uK (f (tN.add_nonneg b0 (tN.sub_nonneg_of_le c0)) (tN.le_trans (tN.add_le_add b1 (tN.le_trans (tN.sub_le_self _ ZB) c1)) ZB))}
section
variable{i j:Int}{fs:FS}
def C0:AG (.t (.tS i)) (.t (.tS j)) fs=.ok (.t (.tS (i+j))) fs:=rfl
def Qv:Dw (.t (.tS i)) (.t (.tS j)) fs=.ok (.t (.tS (i-j))) fs:=rfl
def HF(h:0<j):B5 (.t (.tS i)) (.t (.tS j)) fs=.ok (.t (.tS (i%j))) fs:=tW h
def QC(h:0<j/\j<1073741824):EU (.t (.tS i)) (.t (.tS j)) fs=.ok (.t (.tS (i/j))) fs:=tW h
def Qy(h:-(2^64)<i/\i<2^64):BH (.t (.tS i)) (.t (.tS j)) fs=.ok (.t (.tS (i*j))) fs:=by have e:ZJ (.t (.tS i)) (.t (.tS j)) fs=.ok (.t (.tS (i*j))) fs:=tW (by rw[oV h];rfl);unfold BH orG;rw[e]
def GG(h:t6.tN.vh i<=2^26/\t6.tN.vh j<=2^26):BH (.t (.tS i)) (.t (.tS j)) fs=.ok (.t (.tS (i*j))) fs:=by have e:ZJ (.t (.tS i)) (.t (.tS j)) fs=.ok (.t (.tS (i*j))) fs:=tW (by rw[oV h.1,oV h.2];simp);unfold BH orG;rw[e]
end
def MF{i:tN}(h:BD fs x=p' ts)(e:atI ts i=p' t):Aw x (.t (.tS i)) fs=.ok (.t t) fs:=by
 have e':gIx x (.t (.tS i)) fs=.ok (.t t) fs:=by simp![gIx,h,e,okT]
 unfold Aw orG;rw[e']
def gIxU_I{i:tN}{fs:FS}(h:IsI t ns)(h0:0<=i)(h1:i<ns.fg):Aw (.t t) (.t (.tS i)) fs=.ok (.t (.tS (ns.uZ i.uw 0))) fs:=by
 refine MF (h.seq fs) ?_;have e:(ns.tJ T.tS)[i.uw]?=p' (T.tS (ns.uZ i.uw 0)):=by
  have:i.uw<ns.fg:=by lia
  simp[this]
 have:=A0 e;rwa[qk h0]at this
def Hu:∀{is:tH Ini}{k:tQ},(∀i∈is,AX fs i=none)->FL.va fs j is k=none
 | [],_,_=>rfl
 |i::is,k,h=>by simp![FL.va];rw[h i n5,ug (by simp)];exact Hu λi' m=>h i' (n4 _ m)
def HM(h:∀i∈is,AX fs i=none):∀(gs:FS)(j:tQ),CF fs is τ j gs=p' gs
 | [],_=>rfl
 |g::gs,j=>by simp![CF,DZ,Hu h,HM h gs (j+1)]
def AQ(h:Cd fs is=[]):B3 is τ fs=p' fs:=HM (tH.filterMap_eq_nil_iff.mp h) fs 0
def IS(h1:fi fs=.ok ts fs)(h2:(Cd fs (wP.tJ λo=>o.tU Ini.no Ini.vH)).uA/\(wP.all λo=>o.tU true λj=>decide (j<fs.fg))=true)
  (h3:Bq gt ft fe ts (Bu fs (wP.tJ λo=>o.tU Ini.no Ini.vH)) []=p' (vs,τ)) (h4:B3 (wP.tJ λo=>o.tU Ini.no Ini.vH) τ fs=p' ak):AW false wP fi gt ft fe fs=.ok (.t (.tY vs)) ak:=by
 unfold AW;rw[h1];simp![Out.u9];rw[tW h2,h3];dsimp only;rw[h4];rfl
def nmS (c:tN)(k:tQ):tO:={(Nm.codes c k).tZ}
def nms (c:tN)(n:tQ):tH tO:=(tH.vq n).tJ (nmS c)
def ABC :tO:="abcdefghijklmnopqrstuvwxyz"
def abc_at:∀j,j<26->ABC.cps.uP[j]?=p' (97+j):=by decide +kernel
def Rq(x:tN):atI ABC.cps.uP (x%26)=p' (Nm.D3 x):=by
 have h:(x%26).uw<26:=by lia
 have e:=A0 (abc_at _ h);rw[qk (by lia)]at e;exact e
def HA:∀ys:tH tO,(tO.join ({#[]}:tO) ys).cps.uP=(ys.tJ λy=>y.cps.uP).flatten
 | []=>rfl
 | [x]=>by simp[tO.join]
 |x::y::r=>by show(x.cps++#[]++(tO.join {#[]} (y::r)).cps).uP=_;rw[nV,tH.flatten_cons,<- (HA (y::r))];simp
def join_ones(f:tQ->tQ)(js:tH tQ):(Txt.join ({#[]}:tO) (js.tJ λj=>({#[f j]}:tO))).cps.uP=js.tJ f:=by
 show(t6.tO.glued _ _).cps.uP=_;rw[StrLaws.glued_eq_join,HA]
 induction js with|vO=>rfl|ux j r ih =>rw[nV,nV,tH.flatten_cons,ih,nV];rfl
def WG{x y:tO}(h:x.cps.uP=y.cps.uP):x=y:=by
 obtain⟨a⟩:=x;obtain⟨b⟩:=y;have:a=b:=by simpa using h
 rw[this]
def PL(c:tQ)(n:tN)(h0:1<=n):(Txt.mul ({#[c]}:tO) n).cps.uP=tH.uN n.uw c:=by
 unfold Txt.mul;rw[ug (by lia)];by_cases h1:n=1
 .subst h1;rfl
 .rw[ug (by simp[h1,tO.fg])];have key:∀(m:tQ)(ar:vp tQ),((tH.uN m #[c]).foldl (·++·) ar).uP=ar.uP++tH.uN m c:=by
   intro m
   induction m with|zero=>intro ar;simp|succ m ih =>intro ar;rw[tH.replicate_succ,tH.foldl_cons,ih,tH.replicate_succ];simp
  have:=key n.uw #[];simpa using this
def QQ:tO.ofString ""=({#[]}:tO):=by decide +kernel
def SS(f:tQ->tQ)(js:tH tQ):((js.tJ λj=>({#[f j]}:tO)).tJ (·.fg)).sum=js.fg:=by
 induction js with
 |vO=>rfl
 |ux j r ih =>
  rw[nV,nV,qC,ih,om];show 1+r.fg=_
  lia
def Iw(f:tQ->tQ)(js:tH tQ):(Txt.join ({#[]}:tO) (js.tJ λj=>({#[f j]}:tO))).fg=js.fg:=by have e:=uC tH.fg (join_ones f js);rw[nU]at e;rw[<- e];simp[tO.fg]
def Qx{i j:tN}(h:-(2^64)<j/\j<2^64):BH (.t (.tS i)) (.t (.tS j)) fs=.ok (.t (.tS (i*j))) fs:=by have e:ZJ (.t (.tS i)) (.t (.tS j)) fs=.ok (.t (.tS (i*j))) fs:=tW (by rw[oV h];simp);unfold BH orG;rw[e]
def Yr{z:tO}{n:tN}{fs:FS}(h:z.fg=1/\1<=n/\n<=1000):BH (.t (.str z)) (.t (.tS n)) fs=.ok (.t (.str (Txt.mul z n))) fs:=by have e:TJ (.t (.str z)) (.t (.tS n)) fs=.ok (.t (.str (Txt.mul z n))) fs:=tW h;have e2:ZJ (.t (.str z)) (.t (.tS n)) fs=.ur:=rfl;unfold BH orG;rw[e2];exact e
def QF(h:x.fg+y.fg<=big):AG (.t (.str x)) (.t (.str y)) fs=.ok (.t (.str (x++y))) fs:=by have e:TL (.t (.str x)) (.t (.str y)) fs=.ok (.t (.str (x++y))) fs:=tW h;have e2:gAdd (.t (.str x)) (.t (.str y)) fs=.ur:=rfl;unfold AG orG;rw[e2];rw[e]
def MD{z:tO}{i:tN}{c:tQ}{fs:FS}(hz:z.fg<=big)(e:atI z.cps.uP i=p' c):Aw (.t (.str z)) (.t (.tS i)) fs=.ok (.t (.str {#[c]})) fs:=by
 have e':gIx (.t (.str z)) (.t (.tS i)) fs=.ok (.t (.str {#[c]})) fs:=by simp![gIx,BD,hz,if_true,e,okT]
 unfold Aw orG;rw[e']
def E7:∀xs:tH tO,Dd (xs.tJ T.str)=p' xs
 | []=>rfl
 |n::ns=>by simp[Dd,E7 ns]
def J7{v:tN}(h0:0<=v)(h1:v.uw<=xs.fg):Lo xs none (p' v)=xs.uB v.uw:=by show(xs.drop 0).uB ((if v<0 then(v+(xs.fg:tN)).uw else min v.uw xs.fg)-0)=_;rw[ug (by lia),pT h1];simp
def GQ{v:tN}(h0:0<=v)(h1:v.uw<=xs.fg):Lo xs (p' v) none=xs.drop v.uw:=by show(xs.drop (if v<0 then(v+(xs.fg:tN)).uw else min v.uw xs.fg)).uB (xs.fg-(if v<0 then(v+(xs.fg:tN)).uw else min v.uw xs.fg))=_;rw[ug (by lia),pT h1];exact qR (by rw[qh];lia)
def UE(c:tN):atI [T.tS 1,T.tS 3,T.tS 5,T.tS 7,T.tS 9,T.tS 11] (Nm.M c/144%6)=p' (T.tS (Nm.step c)):=by
 have h:Nm.stepI c<6:=by unfold Nm.stepI;lia
 have e:([T.tS 1,T.tS 3,T.tS 5,T.tS 7,T.tS 9,T.tS 11]:tH T)[Nm.stepI c]?=p' (T.tS (Nm.step c)):=by
  unfold Nm.step;generalize Nm.stepI c=i at h
  match i,h with|0,_=>rfl|1,_=>rfl|2,_=>rfl|3,_=>rfl|4,_=>rfl|5,_=>rfl
 have e2:=A0 e;unfold Nm.stepI at e2;rwa[qk (by lia)]at e2
def Zw:ABC.fg<=big:=by decide +kernel
def Yb{f:tQ->tQ}{js:tH tQ}{fs:FS}(h:js.fg<=1000):Li (.t (.str ("":tO))) [.t (.tY ((js.tJ λj=>({#[f j]}:tO)).tJ T.str))] fs=.ok (.t (.str (Txt.join ({#[]}:tO) (js.tJ λj=>({#[f j]}:tO))))) fs:=by
 have e0:("":tO).fg=0:=by decide +kernel
 simp![Li,BD,oM,E7,SS,e0,tQ.mul_zero,tQ.add_zero];rw[tW (show js.fg<=big from oo h ZB),show("":tO)=({#[]}:tO)from QQ];simp![okT]
def Ar(h1:fa fs=.ok (.t x) fs)(h2:fb fs=.ok (.t y) fs)(h3:g (.t x) (.t y) fs=r):Ag g fa fb fs=r:=by unfold Ag;rw[h1];show(fb fs).bnd _=r;rwa[h2]
def Ah(h:fs[i]?=p' (vl t)):Aa i fs=.ok (.t t) fs:=by unfold Aa;rw[h]
def Be:gc t fs=.ok (.t t) fs:=rfl
def A1(h1:f fs=.ok (.t t) fs)(h2:g fs=.ok rs fs):Ab f g fs=.ok (.t t::rs) fs:=by unfold Ab;rw[h1];show(g fs).u9 _=_;rw[h2];rfl
def AS(h:f fs=.ok (.t t) fs):fz f fs=.ok (.t t) fs:=by unfold fz;rw[h];rfl
def DV(h:fa fs=.ok rs fs)(h2:g rs fs=r):Ad g fa fs=r:=by unfold Ad;rwa[h]
def app_ok{i:tQ}{f:tm}{fs ak:FS}{t:T}{ts:tH T}(h0:fs[i]?=p' (p' (.uI (.tY ts))))(h:f fs=.ok (.t t) fs)(hl:ts.fg<big)(e:fs.wJ i (p' (.uI (.tY (ts++[t]))))=ak):Au (AA Dy (Aa i) (Ab f Ae)) fs=.nx ak:=by
 have h1:Aa i fs=.ok (.x i) fs:=by unfold Aa;rw[h0]
 have h2:FL.Ax fs i=p' (.tY ts):=by unfold FL.Ax;rw[h0]
 have h3:BD fs (.x i)=p' ts:=by simp![BD,h2]
 have h4:Ab f Ae fs=.ok [.t t] fs:=A1 h rfl;have h5:Dy (.x i) [.t t] fs=.ok (.t .vG) ak:=by
  simp![Dy,h2];rw[tW hl];have:FL.vA fs i (.tY (ts++[t]))=ak:=by unfold FL.vA;rw[h0];exact e
  rw[this]
 have h6:AA Dy (Aa i) (Ab f Ae) fs=.ok (.t .vG) ak:=by unfold AA;rw[h1];show(if(BD fs (.x i)).u8=true then _ else _)=_;rw[h3,tW (show(p' ts).u8=true from rfl),h4];exact h5
 unfold Au;rw[h6];rfl
def S9(hc:c fs=.ok true fs)(e:g fs=r):wQ c g h fs=r:=by unfold wQ;rwa[hc]
def Iz(hc:c fs=.ok false fs)(e:h fs=r):wQ c g h fs=r:=by unfold wQ;rwa[hc]
def QO{i j:tN}(h1:fa fs=.ok (.t (.tS i)) fs)(h2:fb fs=.ok (.t (.tS j)) fs):wk (Ag (gEq false) fa fb) fs=.ok (decide (i=j)) fs:=by
 have e:gEq false (.t (.tS i)) (.t (.tS j)) fs=.ok (.t (.l (decide (i=j)))) fs:=by
  have q:decide (V.tS i=V.tS j)=decide (i=j):=by
   by_cases h:i=j
   .subst h;simp
   .rw[oK h,oK (by intro z;cases z;exact h rfl)]
  show(if WM (V.tS i) (V.tS j)=true then okT (.l (if false=true then _ else decide (V.tS i=V.tS j))) fs else .ur)=_;rw[tW (show WM (V.tS i) (V.tS j)=true from rfl),q];rfl
 unfold wk;rw[Ar h1 h2 e];rfl
def R6{f g:tm}{fs:FS}{ts:tH T}{v:tN}(h1:f fs=.ok (.t (.tY ts)) fs)(h2:g fs=.ok (.t (.tS v)) fs)(h0:0<=v)(hl:v.uw<=ts.fg):slF f noP (B9 g) fs=.ok (.t (.tY (ts.uB v.uw))) fs:=by unfold slF;rw[h1];show((B9 g) fs).u9 _=_;unfold B9;rw[h2];simp![Out.bnd,Out.u9];simp![Ky,BD,okT];rw[J7 h0 hl]
def R7{f g:tm}{fs:FS}{ts:tH T}{v:tN}(h1:f fs=.ok (.t (.tY ts)) fs)(h2:g fs=.ok (.t (.tS v)) fs)(h0:0<=v)(hl:v.uw<=ts.fg):slF f (B9 g) noP fs=.ok (.t (.tY (ts.drop v.uw))) fs:=by unfold slF;rw[h1];show((B9 g) fs).u9 _=_;unfold B9;rw[h2];simp![Out.bnd,Out.u9,noP];simp![Ky,BD,okT];rw[GQ h0 hl]
def CU{i:tQ}{f:tm}{fs ae ak:FS}{t:T}(h:f fs=.ok (.t t) ae)(hs:HV i (.t t) ae=p' ak):Av i f fs=.nx ak:=by unfold Av;rw[h];show(match HV i (.t t) ae with|p' fs=>SO.nx fs|none=>.ur)=_;rw[hs]
def AV{f:tm}{g:tq}{fs ae aq:FS}{t:T}{rs:tH Rv}(h1:f fs=.ok (.t t) ae)(h2:g ae=.ok rs aq):Ab f g fs=.ok (.t t::rs) aq:=by unfold Ab;rw[h1];show(g ae).u9 _=_;rw[h2];rfl
def IP{g:tH T->tm}{fa:tq}{fs ae:FS}{rs:tH Rv}{ts:tH T}{r:Out Rv}(h:fa fs=.ok rs ae)(h2:N6 rs=p' ts)(h3:ts.fg<=big)(e:g ts ae=r):An g fa fs=r:=by unfold An;rw[h];show(match N6 rs with|p' ts=>_|none=>_)=_;rw[h2];exact(tW h3).trans e
def Yw{f:tm}{fs ae:FS}{t:T}(h:f fs=.ok (.t t) ae):fz f fs=.ok (.t t) ae:=by unfold fz;rw[h];rfl
def W5{i:tQ}{fs ak:FS}{t:T}{ts:tH T}(h0:fs[i]?=p' (p' (.u7 (.tY (ts++[t])))))(e:fs.wJ i (p' (.u7 (.tY ts)))=ak):fz (AA G7 (Aa i) Ae) fs=.ok (.t t) ak:=by
 have h1:Aa i fs=.ok (.x i) fs:=by unfold Aa;rw[h0]
 have h2:FL.Ax fs i=p' (.tY (ts++[t])):=by unfold FL.Ax;rw[h0]
 have h3:BD fs (.x i)=p' (ts++[t]):=by simp![BD,h2]
 have h5:G7 (.x i) [] fs=.ok (.t t) ak:=by
  have:FL.vA fs i (.tY ts)=ak:=by unfold FL.vA;rw[h0];exact e
  simp![G7,h2,qB,qf,this,okT]
 refine Yw ?_;unfold AA;rw[h1];show(if(BD fs (.x i)).u8=true then _ else _)=_;rw[h3,tW (show(p' (ts++[t])).u8=true from rfl)];exact h5
def A8{f:tm}{fs ae:FS}{r:Rv}(h:f fs=.ok r ae):vV f fs=.wH r ae:=by unfold vV;rw[h];rfl
def CV{g h:FS->SO}{fs ak:FS}{r:Rv}(e:g fs=.wH r ak):Ak g h fs=.wH r ak:=by unfold Ak;rw[e]
def V4{uq:tH tO}{O:tQ}(hO:0<O)(hl:O<=uq.fg)(z:tN):uq.uZ (z%(O:tN)).uw {#[]}∈uq.uB O/\atI (uq.tJ T.str) (z%(O:tN))=p' (T.str (uq.uZ (z%(O:tN)).uw {#[]})):=by
 have h0:0<=z%(O:tN):=oU _ (by lia);have h1:z%(O:tN)<O:=oN _ (by lia);have hi:(z%(O:tN)).uw<O:=by lia
 have jA:(z%(O:tN)).uw<uq.fg:=by lia
 have e:uq.uZ (z%(O:tN)).uw {#[]}=uq[(z%(O:tN)).uw]:=by simp[tH.uZ,jA]
 refine{?_,?_}
 .rw[e];exact tH.mem_take_iff_getElem.wO {(z%(O:tN)).uw,by lia,rfl}
 .have e2:(uq.tJ T.str)[(z%(O:tN)).uw]?=p' (T.str (uq.uZ (z%(O:tN)).uw {#[]})):=by rw[e,oq,nX jA];rfl
  have:=A0 e2;rwa[qk h0]at this
def abc_in:∀j,j<26->(!(t6.tO.occurrences ABC {#[97+j]} 0 ABC.fg 1).vb)=true:=by decide +kernel
def EH:∀bs:tH uz,Lz (bs.tJ T.l)=p' bs
 | []=>rfl
 |b::bs=>by simp[Lz,EH bs]
def gInU_s{x y:tO}{fs:FS}:Dh false (.t (.str x)) (.t (.str y)) fs=.ok (.t (.l (!(t6.tO.occurrences y x 0 y.fg 1).vb))) fs:=rfl
def HB{z:tO}(h0:1<=z.fg)(h1:z.fg<=12)(hl:∀x∈z.cps.uP,97<=x/\x<=122):Bf [vl (.str z)]=.ok (.t (.l true)) [vl (.str z)]:=by
 have fX:∀x,97<=x/\x<=122->(!(t6.tO.occurrences ("abcdefghijklmnopqrstuvwxyz":tO) {#[x]} 0 ("abcdefghijklmnopqrstuvwxyz":tO).fg 1).vb)=true:=λx hx=>by have:=abc_in (x-97) (by lia);rwa[show 97+(x-97)=x by lia]at this
 have hlen:Ad AI (Ab (Aa 0) Ae) [vl (.str z)]=.ok (.t (.tS z.fg)) [vl (.str z)]:=by have e:Lh [.t (.str z)] [vl (.str z)]=.ok (.t (.tS z.fg)) [vl (.str z)]:=tW (show z.fg<=1000000 by lia);refine DV (A1 (Ah rfl) rfl) ?_;unfold AI orC;show(match orC Lh TK [.t (.str z)] [vl (.str z)]with|o=>o)=_;unfold orC;rw[e]
 have hc:Ep (wk (chain gLe gLe (gc (.tS 1)) (Ad AI (Ab (Aa 0) Ae)) (gc (.tS 12)))) [vl (.str z)]=.ok false [vl (.str z)]:=by
  have e1:gLe (.t (.tS 1)) (.t (.tS z.fg)) [vl (.str z)]=.ok (.t (.l true)) [vl (.str z)]:=by show okT (.l (decide ((1:tN)<=z.fg))) _=_;rw[oV (by lia)];rfl
  have e2:gLe (.t (.tS z.fg)) (.t (.tS 12)) [vl (.str z)]=.ok (.t (.l true)) [vl (.str z)]:=by show okT (.l (decide ((z.fg:tN)<=12))) _=_;rw[oV (by lia)];rfl
  simp![Ep,wk,chain,gc,Out.bnd,Out.u9,hlen,e1,e2,uz.not_true]
 unfold Bf A2;show(match DJ [vl (.str z)]with|.nx τ=>_|.wH (.t t) τ=>_|.wH (.nw o) τ=>_|.wH (.x i) τ=>_|.wy c τ=>_|_=>_)=_;have all:DJ [vl (.str z)]=.wH (.t (.l true)) [vl (.str z)]:=by
  unfold DJ;generalize ("abcdefghijklmnopqrstuvwxyz":tO)=L at fX;rw[KW (Iz (h:=nxS) hc rfl)];have e1:itU (fz (Aa 0)) [vl (.str z)]=.ok (signs z) [vl (.str z)]:=rfl;let{y,hy,e2}:=GR (fe:=Ag (Dh false) (fz (Aa 0)) (gc (.str L))) (f:=λ_=>.l true) (uu:=[]) (signs z) none [] Ao (λt' mt=>by
    unfold signs at mt;rw[oa]at mt;let{x,mx,rfl}:=mt;refine Ar (AS (Ah rfl)) Be ?_;rw[gInU_s,fX x (hl x mx)]) (by
    unfold signs;rw[nU,pX];show 0+z.fg<=1000000
    lia)
  have e3:=IS (wP:=[none]) e1 {by rw[show Cd [vl (.str z)] _=[]from rfl];exact oY,by rfl} e2 (AQ rfl);have e4:(signs z).tJ (λ_=>T.l true)=((signs z).tJ λ_=>true).tJ T.l:=by rw[oj];rfl
  rw[qp,e4]at e3;refine A8 (DV (A1 e3 rfl) ?_);simp![ZL,BD,oM,EH,okT];congr 3;simp
 rw[all];rfl
def DQ(c:tN)(k:tQ):Bf [vl (.str (nmS c k))]=.ok (.t (.l true)) [vl (.str (nmS c k))]:=by
 refine HB ?_ ?_ ?_
 .show 1<=(Nm.codes c k).tZ.tX;rw[nZ];exact Nm.Uk c k
 .show(Nm.codes c k).tZ.tX<=12;rw[nZ];exact Nm.MX c k
 .intro x hx;exact Nm.IU c k x (by simpa[nmS]using hx)
def XI{c:tN}{k k':tQ}(hk:k<12)(dz:k'<12)(h:nmS c k=nmS c k'):k=k':=by refine Nm.Q1 (c:=c) hk dz ?_;have:=uC (λs:tO=>s.cps.uP) h;simpa[nmS]using this
def AD(h1:f fs=.ok r ae)(h2:g ae=.ok rs aq):Ac f g fs=.ok (r::rs) aq:=by unfold Ac;rw[h1];show(g ae).u9 _=_;rw[h2];rfl
def DU(ha:fa fs=.ok rs ae)(hp:rs.fg=p)(hn:(Cd ae (rs.tJ AF)).uA)(hf:Fn (Bu ae (rs.tJ AF))=.ok (.t t) τ)(hb:B3 (rs.tJ AF) τ ae=p' ak):
  Ad (Af p Fn) fa fs=.ok (.t t) ak:=by
 unfold Ad;rw[ha];show Af p Fn rs ae=_;unfold Af;rw[tW hp];unfold D4;rw[tW hn,hf];dsimp only;rw[hb]
def IY(ha:fa fs=.ok rs ae)(hp:rs.fg=p)(hn:(Cd ae (rs.tJ AF)).uA)(hf:Fn (Bu ae (rs.tJ AF))=.ok (.nw o) τ)(hb:B3 (rs.tJ AF) τ ae=p' ak):
  Ad (Af p Fn) fa fs=.ok (.nw o) ak:=by
 unfold Ad;rw[ha];show Af p Fn rs ae=_;unfold Af;rw[tW hp];unfold D4;rw[tW hn,hf];dsimp only;rw[hb]
def app_st(h0:fs[i]?=p' (p' (.uI (.tY us))))(h:f fs=.ok (.t t) ae)(gR:ae[i]?=p' (p' (.uI (.tY ts))))(hl:ts.fg<big)(e:ae.wJ i (p' (.uI (.tY (ts++[t]))))=ak):Au (AA Dy (Aa i) (Ab f Ae)) fs=.nx ak:=by
 have h1:Aa i fs=.ok (.x i) fs:=by unfold Aa;rw[h0]
 have h2:FL.Ax fs i=p' (.tY us):=by unfold FL.Ax;rw[h0]
 have jt:FL.Ax ae i=p' (.tY ts):=by unfold FL.Ax;rw[gR]
 have h3:BD fs (.x i)=p' us:=by simp![BD,h2]
 have h4:Ab f Ae fs=.ok [.t t] ae:=AV h rfl;have h5:Dy (.x i) [.t t] ae=.ok (.t .vG) ak:=by
  simp![Dy,jt];rw[tW hl];have:FL.vA ae i (.tY (ts++[t]))=ak:=by unfold FL.vA;rw[gR];exact e
  rw[this]
 have h6:AA Dy (Aa i) (Ab f Ae) fs=.ok (.t .vG) ak:=by unfold AA;rw[h1];show(if(BD fs (.x i)).u8=true then _ else _)=_;rw[h3,tW (show(p' us).u8=true from rfl),h4];exact h5
 unfold Au;rw[h6];rfl
def U4 :tO×tH tO->T:=λr=>.uj [.str r.1,.uj (r.2.tJ T.str)]
def BM :tO×tH (tO×tH tO)->T:=λk=>.uj [.str k.1,.tY (k.2.tJ U4)]
def P6{α:Type}{xs:tH α}(h:1<=xs.fg):∃e z,xs=e++[z]/\e.fg+1=xs.fg:=by
 have aX:xs≠[]:=by intro q;rw[q]at h;simp at h
 exact{xs.vf,xs.getLast aX,(oH aX).symm,by rw[tH.length_dropLast];lia}
def last3{ds:tH tN}(h:3<=ds.fg):∃(e:tH tN)(z1 z2 z3:tN),ds.tJ T.tS=e.tJ T.tS++[.tS z3]++[.tS z2]++[.tS z1]/\e.fg+3=ds.fg:=by let{d1,z1,rfl,h1}:=P6 (xs:=ds) (by lia);let{d2,z2,rfl,h2}:=P6 (xs:=d1) (by lia);let{d3,z3,rfl,h3}:=P6 (xs:=d2) (by lia);exact{d3,z1,z2,z3,by simp,by simp at h ⊢}
structure Rows(uq wj:tH tO)(a u:tQ)(vv:tH (tO×tH tO)):Prop where
 mks:vv.tJ (·.1)=(tH.vq vv.fg).tJ λj=>wj.uZ (u+j) {#[]}
 two:∀r∈vv,r.2.fg<=2
 yN:∀r∈vv,∀x∈r.2,x∈uq
 fst:∀r,vv[0]?=p' r->∀x∈r.2,x∈uq.uB a
def Rows.vO{uq wj:tH tO}{a u:tQ}:Rows uq wj a u []:={rfl,(λ_ m=>nomatch m),(λ_ m=>nomatch m),(λ_ e=>nomatch e)}
def Rows.snoc{uq wj:tH tO}{a u:tQ}{vv:tH (tO×tH tO)}(R:Rows uq wj a u vv){ps:tH tO}(h1:ps.fg<=2)(h2:∀x∈ps,x∈uq.uB (if vv.fg=0 then a else uq.fg)):Rows uq wj a u (vv++[(wj.uZ (u+vv.fg) {#[]},ps)]):=by
 refine{?_,λr m=>?_,λr m x hx=>?_,λr e x hx=>?_}
 .rw[nW,R.mks,n9,o9,pU,nW];rfl
 .rcases oS.mp m with m|m
  .exact R.two r m
  .rw[oF.mp m];exact h1
 .rcases oS.mp m with m|m
  .exact R.yN r m x hx
  .rw[oF.mp m]at hx;exact pI (h2 x hx)
 .cases vv with
  |vO =>
   have:=by simpa using e.symm
   rw[this]at hx;simpa using h2 x hx
  |ux r0 rs =>exact R.fst r (by simpa using e) x hx
def W4{i:tQ}{fs ak:FS}{t:T}{ts:tH T}(h0:fs[i]?=p' (p' (.uI (.tY (ts++[t])))))(e:fs.wJ i (p' (.uI (.tY ts)))=ak):fz (AA G7 (Aa i) Ae) fs=.ok (.t t) ak:=by
 have h1:Aa i fs=.ok (.x i) fs:=by unfold Aa;rw[h0]
 have h2:FL.Ax fs i=p' (.tY (ts++[t])):=by unfold FL.Ax;rw[h0]
 have h3:BD fs (.x i)=p' (ts++[t]):=by simp![BD,h2]
 have h5:G7 (.x i) [] fs=.ok (.t t) ak:=by
  have:FL.vA fs i (.tY ts)=ak:=by unfold FL.vA;rw[h0];exact e
  simp![G7,h2,qB,qf,this,okT]
 refine Yw ?_;unfold AA;rw[h1];show(if(BD fs (.x i)).u8=true then _ else _)=_;rw[h3,tW (show(p' (ts++[t])).u8=true from rfl)];exact h5
def O2{j:tN}{fs ae:FS}{fa:tq}(e:fa fs=.ok [.t (.tS j)] ae)(h:-(2^62)<=j/\j<2^62):G6 fa fs=.ok (FL.upTo 0 j.uw) ae:=by unfold G6;rw[e];simp![Out.u9];exact tW h
def Kd:=tH (tO×tH (tO×tH tO))
def used (K:Kd):tQ:=(K.tJ (·.2.fg)).sum
structure KOk(uq wj:tH tO)(K:Kd):Prop where
 at_:∀a kd,K[a]?=p' kd->kd.1=uq.uZ a {#[]}/\1<=kd.2.fg/\kd.2.fg<=4/\Rows uq wj a (used (K.uB a)) kd.2
def KOk.vO{uq wj:tH tO}:KOk uq wj []:={λa kd e=>by simp at e}
def KOk.snoc{uq wj:tH tO}{K:Kd}(h:KOk uq wj K){vv:tH (tO×tH tO)}(h1:1<=vv.fg)(h2:vv.fg<=4)(R:Rows uq wj K.fg (used K) vv):KOk uq wj (K++[(uq.uZ K.fg {#[]},vv)]):=by
 refine{λa kd e=>?_};rcases tQ.lt_trichotomy a K.fg with q|q|q
 .rw[qg q]at e;have:=h.at_ a kd e;rwa[tH.take_append_of_le_length (by lia)]
 .subst q;have e':=by simpa using e.symm
  subst e';refine{rfl,h1,h2,?_};rw[tH.take_left']
  .exact R
  .rfl
 .rw[o7 (by simp;lia)]at e;cases e
def Jn{K:Kd}{k:tO}{vv:tH (tO×tH tO)}:used (K++[(k,vv)])=used K+vv.fg:=by unfold used;simp
def QG{f:tm}{fs ae:FS}{o:FO}(h:f fs=.ok (.nw o) ae):fz f fs=.ok (.t (toT o)) ae:=by unfold fz;rw[h];rfl
def BL(c:tN)(n:tQ):(nms c n).fg=n:=by unfold nms;simp
def Vb(h0:fs[o]?=p' (p' (.uI (.v ks ts))))(hv:fv fs=.ok (.t v) fs)(hi:fi fs=.ok (.t (.str k)) fs)(hn:(ks.any λk'=>decide (k'=(.uK k:vc)))=false)(hl:ks.fg<big)
  (e:fs.wJ o (p' (.uI (.v (ks++[.uK k]) (ts++[v]))))=ak):Ba fv (Aa o) fi fs=.nx ak:=by
 have h1:Aa o fs=.ok (.x o) fs:=by unfold Aa;rw[h0]
 have h2:FL.Ax fs o=p' (.v ks ts):=by unfold FL.Ax;rw[h0]
 have h3:Fp ks ts (.uK k:vc) v=(ks++[.uK k],ts++[v]):=by unfold Fp;rw[hn];rfl
 have h4:FL.vA fs o (.v (ks++[.uK k]) (ts++[v]))=ak:=by unfold FL.vA;rw[h0];exact e
 have h5:Qw (.x o) (.t (.str k)) (.t v) fs=.ur:=rfl;have h6:Lg (.x o) (.t (.str k)) (.t v) fs=.nx ak:=by simp![Lg,h2,EJ,hl,if_true,h3,h4]
 unfold Ba;rw[hv];simp![Out.bnd,Out.u9];rw[h1];simp!;rw[hi];simp![SO.of];unfold Tz;rw[h5];exact h6
def Ov(h1:wd i x fs=p' ae)(h2:wd j y ae=p' aq):AM 2 (Aj (wd i) (Aj (wd j) AL)) (.uj [x,y]) fs=p' aq:=by have e:AM 2 (Aj (wd i) (Aj (wd j) AL)) (.uj [x,y]) fs=Aj (wd i) (Aj (wd j) AL) [x,y] fs:=rfl;rw[e];simp![Aj,h1,h2,oM,AL]
def Co (K:Kd):tH vc:=K.tJ λkd=>(.uK kd.1:vc)
def OW (K:Kd):tH T:=K.tJ λkd=>T.tY (kd.2.tJ U4)
def any_false{ks:tH vc}(h:k∉ks):(ks.any λk'=>decide (k'=k))=false:=by rw[qa];intro x hx;rw[decide_eq_true_eq];intro e;exact h (e▸hx)
def sq(e:g fs=.nx ak)(e2:h ak=r):Ak g h fs=r:=(KW e).trans e2
def De(h:f fs=.ok (.t (.l b)) ae):wk f fs=.ok b ae:=by unfold wk;rw[h];rfl
def XF(h:f fs=.ok b ae):Ep f fs=.ok (!b) ae:=by unfold Ep;rw[h];rfl
def Wt(h:f fs=.ok (.t (.l b)) ae):Ge f fs=.ok b ae:=by unfold Ge;rw[h];rfl
def Jb9(hc:c fs=.ok false ae)(e:h ae=r):wQ c g h fs=r:=by unfold wQ;rwa[hc]
def Jb8(hc:c fs=.ok true ae)(e:g ae=r):wQ c g h fs=r:=by unfold wQ;rwa[hc]
def BE(h:fs[i]?=p' (p' (.uI o))):Aa i fs=.ok (.x i) fs:=by unfold Aa;rw[h]
def Eu(h:fs[i]?=p' (p' (.u7 o))):Aa i fs=.ok (.x i) fs:=by unfold Aa;rw[h]
def ZG(h:fs[i]?=p' (p' (.uI o))):FL.Ax fs i=p' o:=by unfold FL.Ax;rw[h]
def Hx(h:fs[i]?=p' (p' (.u7 o))):FL.Ax fs i=p' o:=by unfold FL.Ax;rw[h]
def Ln(h:f fs=.ok r ae):Au f fs=.nx ae:=by unfold Au;rw[h];rfl
def Dj[DecidableEq κ]:∀{ks:tH κ}{ts:tH T}{k:κ},k∉ks->BB ks ts k=none
 | [],_,_,_=>by unfold BB;rfl
 |k'::ks,[],k,_=>by unfold BB;rfl
 |k'::ks,t::ts,k,h=>by
  have h1:k'≠k:=λe=>h (e▸n5)
  simp![BB,ug h1,Dj (λm=>h (n4 _ m))]
def BZ{κ α:Type}[DecidableEq κ]{f:α->κ}{g:α->T}:∀{xs:tH α}{x:α},x∈xs->(xs.tJ f).uA->BB (xs.tJ f) (xs.tJ g) (f x)=p' (g x)
 |y::ys,x,m,nd=>by
  rw[nV,nV];unfold BB;rw[nV,o5]at nd;by_cases e:f y=f x
  .rw[tW e];rcases oz.mp m with rfl|m
   .rfl
   .exact(nd.1 (oa.wO {x,m,e.symm})).tU
  .rw[ug e];rcases oz.mp m with rfl|m
   .exact(e rfl).tU
   .exact BZ m nd.2
def Jb7(h:FL.Ax fs i=p' (.v ks ts)):Dh neg (.t (.str k)) (.x i) fs=.ok (.t (.l (if neg then !(BB ks ts (.uK k:vc)).u8 else(BB ks ts (.uK k:vc)).u8))) fs:=by
 unfold Dh orG;have e:Yv neg (.t (.str k)) (.x i) fs=.ok (.t (.l (if neg then !(BB ks ts (.uK k:vc)).u8 else(BB ks ts (.uK k:vc)).u8))) fs:=by simp![Yv,QW,h,EJ];rfl
 rw[e]
def in_t:Dh neg (.t (.str k)) (.t (.v ks ts)) fs=.ok (.t (.l (if neg then !(BB ks ts (.uK k:vc)).u8 else(BB ks ts (.uK k:vc)).u8))) fs:=rfl
def Ih:∀xs:tH tO,W8 (xs.tJ T.str)=p' (xs.tJ V.str)
 | []=>rfl
 |x::xs=>by simp![nV,W8,plV,oM,Ih xs,pd]
def Lc(k:tO):∀xs:tH tO,inV (.str k) (xs.tJ V.str)=decide (k∈xs)
 | []=>by simp[inV]
 |x::xs=>by
  have:=Lc k xs;unfold inV at this ⊢;rw[nV,qt,this];have e:eqV (.str x) (.str k)=decide (k=x):=by show(x==k)=_;rw[pO,beq_iff_eq,decide_eq_true_eq];exact eq_comm
  rw[e,pO];simp
def VE{xs:tH tO}:Dh neg (.t (.str k)) (.t (.tY (xs.tJ T.str))) fs=.ok (.t (.l (if neg then !decide (k∈xs)else decide (k∈xs)))) fs:=by
 have e:gIn neg (.t (.str k)) (.t (.tY (xs.tJ T.str))) fs=.ok (.t (.l (if neg then !decide (k∈xs)else decide (k∈xs)))) fs:=by simp![gIn,plV,BD,Ih,okT,Lc]
 exact e
def VD{xs:tH tO}(h:FL.Ax fs i=p' (.tY (xs.tJ T.str))):Dh neg (.t (.str k)) (.x i) fs=.ok (.t (.l (if neg then !decide (k∈xs)else decide (k∈xs)))) fs:=by
 have e:gIn neg (.t (.str k)) (.x i) fs=.ok (.t (.l (if neg then !decide (k∈xs)else decide (k∈xs)))) fs:=by simp![gIn,plV,BD,h,Ih,okT,Lc]
 have e1:Yv neg (.t (.str k)) (.x i) fs=.ur:=by simp![Yv,QW,h]
 unfold Dh orG;rw[e1];exact e
def Um{a b c:tN}(ha:fa fs=.ok (.t (.tS a)) fs)(hb:fb fs=.ok (.t (.tS b)) fs)(hc:fc fs=.ok (.t (.tS c)) fs)(h1:a<=b)(h2:b<=c):Ep (wk (chain gLe gLe fa fb fc)) fs=.ok false fs:=by
 have e1:gLe (.t (.tS a)) (.t (.tS b)) fs=.ok (.t (.l true)) fs:=by show okT (.l (decide (a<=b))) _=_;rw[oV h1];rfl
 have e2:gLe (.t (.tS b)) (.t (.tS c)) fs=.ok (.t (.l true)) fs:=by show okT (.l (decide (b<=c))) _=_;rw[oV h2];rfl
 simp![Ep,wk,chain,Out.bnd,Out.u9,ha,hb,hc,e1,e2,uz.not_true]
def P4(h:f fs=.ok (.t x) ae)(hs:x=.tY ts\/x=.uj ts):Ad AI (Ab f Ae) fs=.ok (.t (.tS ts.fg)) ae:=by unfold Ad;rw[AV h (show Ae ae=.ok [] ae from rfl)];rcases hs with rfl|rfl<;>rfl
def call1{p:tQ}{Fn:tm}{fa:tq}{fs ae τ:FS}{rs:tH Rv}{t:T}(ha:fa fs=.ok rs ae)(hp:rs.fg=p)(hn:Cd ae (rs.tJ AF)=[])(hf:Fn (Bu ae (rs.tJ AF))=.ok (.t t) τ):Ad (Af p Fn) fa fs=.ok (.t t) ae :=
 DU ha hp (by rw[hn];exact oY) hf (AQ hn)
def A5:Ae fs=.ok [] fs:=rfl
def gEq_s:gEq false (.t (.str x)) (.t (.str y)) fs=.ok (.t (.l (decide (x=y)))) fs:=by
 have q:decide (V.str x=V.str y)=decide (x=y):=by
  by_cases h:x=y
  .subst h;simp
  .rw[oK h,oK (by intro z;cases z;exact h rfl)]
 show(if WM (V.str x) (V.str y)=true then okT (.l (if false=true then _ else decide (V.str x=V.str y))) fs else .ur)=_;rw[tW (show WM (V.str x) (V.str y)=true from rfl),q];rfl
def mks (K:Kd):tH tO:=K.uH λkd=>kd.2.tJ (·.1)
def B4 (K:Kd):tH vc:=(mks K).tJ λm=>(.uK m:vc)
structure Well(K:Kd):Prop where
 lo:1<=K.fg
 hi:K.fg<=4
 nd:(K.tJ (·.1)).uA
 nm:∀kd∈K,Bf [vl (.str kd.1)]=.ok (.t (.l true)) [vl (.str kd.1)]
 rw:∀kd∈K,1<=kd.2.fg/\kd.2.fg<=4
 yH:(mks K).uA
 xA:∀m∈mks K,Bf [vl (.str m)]=.ok (.t (.l true)) [vl (.str m)]
 xx:∀m∈mks K,m.fg<=12
 two:∀kd∈K,∀r∈kd.2,r.2.fg<=2
 yN:∀kd∈K,∀r∈kd.2,∀x∈r.2,x∈K.tJ (·.1)
 gr:∀D kd R,K=D++kd::R->∀r,kd.2[0]?=p' r->∀x∈r.2,x∈D.tJ (·.1)
def X0(h1:kd∈K)(h2:r∈kd.2):r.1∈mks K:=pe.wO {kd,h1,oa.wO {r,h2,rfl} }
def PQ(h4:K.fg<=4)(hr:∀kd∈K,kd.2.fg<=4):(mks K).fg<=16:=by
 have:∀K:Kd,(∀kd∈K,kd.2.fg<=4)->(mks K).fg<=4*K.fg:=by
  intro K
  induction K with
  |vO=>intro _;simp[mks]
  |ux kd K ih =>
   intro h;have:=ih λkd m=>h kd (n4 _ m)
   have h1:=h kd n5;unfold mks at this ⊢;rw[oO,n9,nU,om]
   lia
 have:=this K hr
 lia
def Gp(D R:Kd):mks (D++R)=mks D++mks R:=by unfold mks;rw[oP]
def Ip(kd:tO×tH (tO×tH tO))(R:Kd):mks (kd::R)=kd.2.tJ (·.1)++mks R:=by unfold mks;rw[oO]
def Si{rs:tH (tO×tH tO)}(h:(rs.tJ (·.1)).uA)(m:r∈rs)(m':r'∈rs)(e:r.1=r'.1):r=r':=by
 induction rs with
 |vO=>cases m
 |ux a rs ih =>
  rw[nV,o5]at h;rcases oz.mp m with q|q
  .rcases oz.mp m' with q'|q'
   .rw[q,q']
   .exact(h.1 (oa.wO {r',q',by rw[<- e,q]})).tU
  .rcases oz.mp m' with q'|q'
   .exact(h.1 (oa.wO {r,q,by rw[e,q']})).tU
   .exact ih h.2 q q'
def Vz (r:tO×tH tO):vc:=.uK r.1
def EL(D:Kd)(kd:tO×tH (tO×tH tO)):B4 (D++[kd])=B4 D++kd.2.tJ Vz:=by unfold B4;simp[mks,Vz]
def B1{xs:tH tO}(h:xs.uA):(xs.tJ λm=>(.uK m:vc)).uA:=by
 induction xs with
 |vO=>simp
 |ux x xs ih =>
  rw[o5]at h;rw[nV,o5];refine{λm=>?_,ih h.2};rw[oa]at m;let{y,my,e}:=m;have:y=x:=by simpa using e
  exact h.1 (this▸my)
def Well.part(W:Well K)(e:D++kd::R=K):(B4 D++kd.2.tJ Vz).uA/\(B4 D).fg+kd.2.fg<1000/\kd∈K/\(kd.2.tJ (·.1)).uA:=by
 have h:=W.yH;have hl:=PQ W.hi λkd m=>(W.rw kd m).2
 rw[<- e,Gp,Ip]at h hl;refine{?_,?_,by rw[<- e];simp,?_}
 .rw[<- EL];refine B1 ?_;rw[Gp,Ip];simp![mks,p7,oJ];rw[<- oQ]at h;exact(oW.mp h).1
 .unfold B4;rw[nU];simp at hl
  lia
 .exact(oW.mp (oW.mp h).2.1).1
def VN{C:tV}{f:tO}{i:tQ}{fv:tm}{fs ae ak:FS}{gs cO:tH tO}{os bz:tH FO}{o:FO}(hv:fv fs=.ok (.nw o) ae)(h0:ae[i]?=p' (p' (.u7 (.vE C gs os))))(hl:gs.fg<900)(hp:Dp gs os f o=p' (cO,bz))(e:ae.wJ i (p' (.u7 (.vE C cO bz)))=ak):Ez C f i fv fs=.nx ak:=by unfold Ez;rw[hv];simp![SO.of,ZP,Hx h0];rw[tW {trivial,hl},hp];simp!;unfold FL.vA;rw[h0];simp![Sl.put,e]
def Y3{os:tH FO}{ks:tH vc}{ts:tH T}{k:tO}{t:T}(hv:fv fs=.ok (.t t) ae)(h0:ae[i]?=p' (p' (.u7 (.vE C gs os))))(hj:ae[j]?=p' (vl (.str k)))(hf:A4 gs os f=p' (.v ks ts))(hn:(.uK k:vc)∉ks)(hl:ks.fg<big)
  (e:ae.wJ i (p' (.u7 (.vE C gs (B0 gs os f (.v (ks++[.uK k]) (ts++[t]))))))=ak):Ck C f i j fv fs=.nx ak:=by
 have h3:Fp ks ts (.uK k:vc) t=(ks++[.uK k],ts++[t]):=by unfold Fp;rw[any_false hn];rfl
 unfold Ck;rw[hv];simp![SO.of,Hx h0,hj,EJ,hf,if_true,hl,h3];unfold FL.vA;rw[h0];simp![Sl.put,e]
def ZF (vv:tH (tO×tH tO)):tH T:=vv.tJ λr=>T.uj (r.2.tJ T.str)
def Pd (K:Kd):tH T:=K.uH λkd=>ZF kd.2
def NN (k:tO)(vv:tH (tO×tH tO)):tH T:=vv.tJ λ_=>T.str k
def CZ (K:Kd):tH T:=K.uH λkd=>NN kd.1 kd.2
def Iq (K:Kd):tH T:=K.tJ λkd=>T.tY ((kd.2.tJ (·.1)).tJ T.str)
def Pc(D:Kd)(kd:tO×tH (tO×tH tO)):Pd (D++[kd])=Pd D++ZF kd.2:=by unfold Pd;simp
def Im:("makers_by_kind":tO)≠("parts_by_maker":tO)/\("makers_by_kind":tO)≠("home_by_maker":tO)/\("parts_by_maker":tO)≠("home_by_maker":tO):=by decide +kernel
def UZ (C:tV)(K:Kd)(hs:tH T):FO:=.vE C ["makers_by_kind","parts_by_maker","home_by_maker"] [.v (Co K) (Iq K),.v (B4 K) (Pd K),.v (B4 K) hs]
def Am (C:tV)(K:Kd)(hs:tH T):T:=.vE C ["makers_by_kind","parts_by_maker","home_by_maker"] [.v (Co K) (Iq K),.v (B4 K) (Pd K),.v (B4 K) hs]
def QI{C:tV}{K:Kd}{hs:tH T}{i:tQ}{fs:FS}(h:fs[i]?=p' (vl (Am C K hs))):CM C "makers_by_kind" (Aa i) fs=.ok (.t (.v (Co K) (Iq K))) fs:=by unfold CM;rw[Ah h];let{iC,iD,iE}:=Im;unfold Am;generalize ("makers_by_kind":tO)=A at *;simp[Out.bnd,Out.u9,Yu,E9,okT]
def VM{C:tV}{K:Kd}{hs:tH T}{i:tQ}{fs:FS}(h:fs[i]?=p' (vl (Am C K hs))):CM C "parts_by_maker" (Aa i) fs=.ok (.t (.v (B4 K) (Pd K))) fs:=by unfold CM;rw[Ah h];let{iC,iD,iE}:=Im;unfold Am;generalize ("makers_by_kind":tO)=A at *;generalize ("parts_by_maker":tO)=B at *;simp[Out.bnd,Out.u9,Yu,E9,okT,Ne.symm iC]
def FH{C:tV}{K:Kd}{hs:tH T}:AJ C [vl (Am C K hs)]=.ok (.nw (.tY ((K.tJ (·.1)).tJ T.str))) [vl (Am C K hs)]:=by
 have all:Cc C [vl (Am C K hs)]=.wH (.nw (.tY ((K.tJ (·.1)).tJ T.str))) [vl (Am C K hs)]:=by unfold Cc;refine A8 (DV (A1 (QI rfl) rfl) ?_);show Out.ok (Rv.nw (.tY ((Co K).tJ JS))) _=_;unfold Co;rw[oj,oj];rfl
 unfold AJ A2;show(match Cc C [vl (Am C K hs)]with|.nx τ=>_|.wH (.t t) τ=>_|.wH (.nw o) τ=>_|.wH (.x i) τ=>_|.wy c τ=>_|_=>_)=_;rw[all];rfl
def Gz(W:Well K):(K.tJ λkd=>(.uK kd.1:vc)).uA:=by have:=B1 W.nd;rwa[oj]at this
def val_mk(W:Well K)(m:kd∈K):BB (Co K) (Iq K) (.uK kd.1:vc)=p' (.tY ((kd.2.tJ (·.1)).tJ T.str)) :=
 BZ m (Gz W)
def FC{K:Kd}(W:Well K){kd:tO×tH (tO×tH tO)}(m:kd∈K):BB (Co K) (OW K) (.uK kd.1:vc)=p' (.tY (kd.2.tJ U4)) :=
 BZ m (Gz W)
def allR (K:Kd):tH (tO×tH tO):=K.uH (·.2)
def Gq(K:Kd):B4 K=(allR K).tJ Vz:=by unfold B4 mks allR;rw[pZ,pZ];simp![oj];rfl
def Sw(K:Kd):Pd K=(allR K).tJ λr=>T.uj (r.2.tJ T.str):=by unfold Pd ZF allR;rw[pZ]
def US(W:Well K)(m:kd∈K)(m2:r∈kd.2):BB (B4 K) (Pd K) (.uK r.1:vc)=p' (.uj (r.2.tJ T.str)):=by have h:=B1 W.yH;have h2:=Gq K;unfold B4 at h2;rw[h2]at h;rw[Gq,Sw];exact BZ (pe.wO {kd,m,m2}) h
def Tv(h:BB ks ts (.uK k:vc)=p' t):Aw (.t (.v ks ts)) (.t (.str k)) fs=.ok (.t t) fs:=by
 have e:JZ (.t (.v ks ts)) (.t (.str k)) fs=.ok (.t t) fs:=by simp![JZ,QW,EJ,pd,h,okT]
 exact e
def Eo{C:tV}{K:Kd}{hs:tH T}(W:Well K){kd:tO×tH (tO×tH tO)}(m:kd∈K):AY C [vl (Am C K hs),vl (.str kd.1)]=.ok (.nw (.tY ((kd.2.tJ (·.1)).tJ T.str))) [vl (Am C K hs),vl (.str kd.1)]:=by
 have all:BX C [vl (Am C K hs),vl (.str kd.1)]=.wH (.nw (.tY ((kd.2.tJ (·.1)).tJ T.str))) [vl (Am C K hs),vl (.str kd.1)]:=by
  unfold BX;refine sq (Iz (De (Ar (AS (Ah rfl)) (QI rfl) ?_)) rfl) ?_
  .rw[in_t,val_mk W m];rfl
  exact A8 (DV (A1 (Ar (QI rfl) (AS (Ah rfl)) (Tv (val_mk W m))) rfl) rfl)
 unfold AY A2;show(match BX C [vl (Am C K hs),vl (.str kd.1)]with|.nx τ=>_|.wH (.t t) τ=>_|.wH (.nw o) τ=>_|.wH (.x i) τ=>_|.wy c τ=>_|_=>_)=_;rw[all];rfl
def HU{C:tV}{K:Kd}{hs:tH T}(W:Well K){kd:tO×tH (tO×tH tO)}{r:tO×tH tO}(m:kd∈K)(m2:r∈kd.2):A6 C [vl (Am C K hs),vl (.str r.1)]=.ok (.t (.uj (r.2.tJ T.str))) [vl (Am C K hs),vl (.str r.1)]:=by
 have all:Cb C [vl (Am C K hs),vl (.str r.1)]=.wH (.t (.uj (r.2.tJ T.str))) [vl (Am C K hs),vl (.str r.1)]:=by
  unfold Cb;refine sq (Iz (De (Ar (AS (Ah rfl)) (VM rfl) ?_)) rfl) ?_
  .rw[in_t,US W m m2];rfl
  exact A8 (Ar (VM rfl) (AS (Ah rfl)) (Tv (US W m m2)))
 unfold A6 A2;show(match Cb C [vl (Am C K hs),vl (.str r.1)]with|.nx τ=>_|.wH (.t t) τ=>_|.wH (.nw o) τ=>_|.wH (.x i) τ=>_|.wy c τ=>_|_=>_)=_;rw[all];rfl
def Es:(["makers_by_kind","parts_by_maker","home_by_maker"]:tH tO).any (·==("kinds":tO))=false/\(["makers_by_kind","parts_by_maker","home_by_maker"]:tH tO).any (·==("makers":tO))=false/\(["makers_by_kind","parts_by_maker","home_by_maker"]:tH tO).any (·==("parts":tO))=false:=by decide +kernel
def Et{mt:tO}(h:(["makers_by_kind","parts_by_maker","home_by_maker"]:tH tO).any (·==mt)=false):Cw C mt fs (.t (Am C K hs))=true:=by unfold Cw Am;simp![h];simp
def andV_t{f g:tm}{fs ae:FS}{r:Out Rv}(h:f fs=.ok (.t (.l true)) ae)(e:g ae=r):andV f g fs=r:=by unfold andV;rw[h];exact e
def kf (K:Kd)(k:tO):tL (tO×tH (tO×tH tO)):=K.find? λkd=>decide (kd.1=k)
def P9{K:Kd}{k:tO}{kd:tO×tH (tO×tH tO)}(h:kf K k=p' kd):kd∈K/\kd.1=k:={pQ h,by simpa using tH.find?_some h}
def X8{K:Kd}{k:tO}(h:kf K k=none):k∉K.tJ (·.1):=by intro q;rw[oa]at q;let{r,mr,e}:=q;have:=tH.find?_eq_none.mp h r mr;simp[e]at this
def VQ{i:tQ}{f:tm}{fs ak:FS}{us ts:tH T}(h0:fs[i]?=p' (p' (.uI (.tY ts))))(h:f fs=.ok (.t (.tY us)) fs)(hl:ts.fg+us.fg<=big)(e:fs.wJ i (p' (.uI (.tY (ts++us))))=ak):Au (AA Ec (Aa i) (Ab f Ae)) fs=.nx ak:=by
 have h1:Aa i fs=.ok (.x i) fs:=BE h0;have h2:FL.Ax fs i=p' (.tY ts):=ZG h0;have h3:BD fs (.x i)=p' ts:=by simp![BD,h2]
 have h4:Ab f Ae fs=.ok [.t (.tY us)] fs:=A1 h rfl;have h5:gExt (.x i) [.t (.tY us)] fs=.ok (.t .vG) ak:=by
  simp![gExt,h2];rw[tW hl];have:FL.vA fs i (.tY (ts++us))=ak:=by unfold FL.vA;rw[h0];exact e
  rw[this]
 have iB:Ec (.x i) [.t (.tY us)] fs=.ok (.t .vG) ak:=by unfold Ec FL.orM;rw[h5]
 have h6:AA Ec (Aa i) (Ab f Ae) fs=.ok (.t .vG) ak:=by unfold AA;rw[h1];show(if(BD fs (.x i)).u8=true then _ else _)=_;rw[h3,tW (show(p' ts).u8=true from rfl),h4];exact iB
 unfold Au;rw[h6];rfl
def HH{gt:tz}{vR:FS->SO}{t:T}{ts:tH T}{fs ae aq:FS}(h1:gt t fs=p' ae)(h2:vR ae=.nx aq):Dz gt vR (t::ts) fs=Dz gt vR ts aq:=by simp![Dz,h1,h2]
def YB{gt:tz}{vR:FS->SO}{t:T}{ts:tH T}{fs ae aq:FS}{r:Rv}(h1:gt t fs=p' ae)(h2:vR ae=.wH r aq):Dz gt vR (t::ts) fs=.wH r aq:=by simp![Dz,h1,h2]
def Bx{g:tH Rv->tm}{fa:tq}{fs ae:FS}{rs:tH Rv}{r:Out Rv}(h:fa fs=.ok rs ae)(h2:g rs ae=r):Ad g fa fs=r:=by unfold Ad;rw[h];exact h2
def IT{gt:tz}{fe:tm}{t v:T}{ts ar:tH T}{τ fB bM:FS}(h1:gt t τ=p' fB)(h2:fe fB=.ok (.t v) bM)(hl:ar.fg<big):Bq gt CG fe (t::ts) τ ar=Bq gt CG fe ts bM (ar++[v]):=by simp![Bq,h1,CG,h2,tW hl]
def M4{g:tj}{fa fb:tm}{fs:FS}{y:T}{i:tQ}{r:Out Rv}(h1:fa fs=.ok (.x i) fs)(h2:fb fs=.ok (.t y) fs)(h3:g (.x i) (.t y) fs=r):Ag g fa fb fs=r:=by unfold Ag;rw[h1];show(fb fs).bnd _=r;rw[h2];exact h3
def LW{fs:FS}{i:tQ}{ts:tH T}(h:fs[i]?=p' (p' (.uI (.tY ts)))):BD fs (.x i)=p' ts:=by simp![BD,ZG h]
def Je{f g:tw}{fs:FS}{a b:uz}(h1:f fs=.ok a fs)(h2:g fs=.ok b fs):E8 f g fs=.ok (a&&b) fs:=by
 unfold E8;rw[h1];cases a
 .rfl
 .show g fs=_;rw[h2];rfl
def V2{ps us:tH T}{fs:FS}(h:ps.fg+us.fg<=big):AG (.t (.uj ps)) (.t (.uj us)) fs=.ok (.t (.uj (ps++us))) fs:=by cases ps with|vO=>rfl|ux p ps =>have:QE (.t (.uj (p::ps))) (.t (.uj us)) fs=.ok (.t (.uj (p::ps++us))) fs:=tW {by simp,h};show(match QE (.t (.uj (p::ps))) (.t (.uj us)) fs with|.ur=>_|o=>o)=_;rw[this]
open PySem.Builtin.Int (intBits)
def E5{x:tN}{n:tQ}:vh x<=n↔x.natAbs<2^n:=by
 unfold vh;by_cases h:x=0
 .subst h;simp[tQ.two_pow_pos]
 .have h':(x==0)=false:=by simpa using h
  rw[h'];have hn:x.natAbs≠0:=by lia
  have:=tQ.log2_lt hn (k:=n);simp![uz.false_eq_true,if_false]
  lia
def bits_add{x y:tN}{n:tQ}(h1:vh x<=n)(h2:vh y<=n):vh (x+y)<=n+1:=by
 rw[E5]at h1 h2 ⊢;rw[tQ.pow_succ,tQ.mul_two];exact tQ.lt_of_le_of_lt (tN.natAbs_add_le x y) (tQ.add_lt_add h1 h2)
def bits_mul{x y:tN}{n m:tQ}(h1:vh x<=n)(h2:vh y<=m):vh (x*y)<=n+m:=by
 rw[E5]at h1 h2 ⊢;rw[tN.natAbs_mul,tQ.pow_add];have hp:0<2^n:=tQ.two_pow_pos n
 calc x.natAbs*y.natAbs<=2^n*y.natAbs:=pE _ (by lia)
  _<2^n*2^m:=tQ.mul_lt_mul_of_pos_left h2 hp
def M0{n:tQ}:∀zs:tH tN,(∀z∈zs,vh z<=n)->zs.sum.natAbs<=zs.fg*2^n
 | [],_=>by simp
 |z::zs,h=>by
  have h1:=M0 zs λz m=>h z (n4 _ m)
  have h2:=h z n5;rw[E5]at h2;rw[qC,om,qD,tQ.one_mul];rw[tQ.add_comm];exact tQ.le_trans (tN.natAbs_add_le ..) (tQ.add_le_add (tQ.le_of_lt h2) h1)
def M3:∀{ns:tH tN}{z:tN},z∈ns->vh z<=B6 ns
 |n::ns,z,h=>by
  simp![B6];rcases oz.mp h with rfl|h
  .lia
  .have:=M3 h
   lia
def M1{ns:tH tN}{N:tQ}(hb:B6 ns<=N)(i:tQ):vh (ns.uZ i 0)<=N:=by
 by_cases h:i<ns.fg
 .have:ns.uZ i 0∈ns:=by simp[tH.uZ,h]
  have:=M3 this
  lia
 .have:ns.uZ i 0=0:=by simp[tH.uZ,o7 (by lia:ns.fg<=i)]
  rw[this,E5];exact tQ.two_pow_pos N
def CP{x:tN}{n:tQ}(h:x.natAbs<2^n):vh x<=n:=E5.wO h
def Dq(c:tN){n:tQ}(h:n<=12):(nms c n).uA:=by unfold nms;rw[tH.nodup_iff_pairwise_ne,tH.pairwise_map];refine tH.Pairwise.imp_of_mem ?_ (tH.nodup_iff_pairwise_ne.mp (tH.nodup_range));intro a b ma mb fE e;rw[oR]at ma mb;exact fE (XI (by lia) (by lia) e)
def EK{c:tN}{n:tQ}{x:tO}(h:x∈nms c n):∃k,x=nmS c k:=by unfold nms at h;rw[oa]at h;let{k,_,e}:=h;exact{k,e.symm}
def XH(c:tN)(k:tQ):(nmS c k).fg<=12:=by show(Nm.codes c k).tZ.tX<=12;rw[nZ];exact Nm.MX c k
def Hk(K:Kd)(kd:tO×tH (tO×tH tO)):used (K++[kd])=used K+kd.2.fg:=by unfold used;simp
def Io{uq wj:tH tO}{K:Kd}(h:KOk uq wj K)(hu:used K<=wj.fg):∀a,a<=K.fg->mks (K.uB a)=wj.uB (used (K.uB a))/\used (K.uB a)<=used K
 |0,_=>by simp[mks,used]
 |a+1,ha=>by
  let{i1,i2}:=Io h hu a (by lia);have dP:a<K.fg:=by lia
  let{_,_,_,R}:=h.at_ a K[a] (nX dP);have e:K.uB (a+1)=K.uB a++[K[a]]:=by rw[pS dP]
  have hle:used (K.uB (a+1))<=used K:=by
   have:K=K.uB (a+1)++K.drop (a+1):=(tH.take_append_drop _ _).symm
   conv=>rhs;rw[this]
   unfold used;rw[nW,tH.sum_append]
   lia
  refine{?_,hle};rw[e]at hle ⊢;rw[Gp,Hk,i1,Ip];rw[Hk]at hle;simp![mks,p7,oJ];rw[R.mks];generalize used (K.uB a)=u at *;generalize K[a].2.fg=l at *;rw[tH.take_add];congr 1;refine tH.ext_getElem? λj=>?_
  rw[qI];by_cases hj:j<l
  .rw[tW hj,tH.getElem?_drop,oq,pq hj];have:u+j<wj.fg:=by lia
   simp[tH.uZ,this]
  .rw[ug hj,o7 (by simp;lia)]
def well{c0 c1:tN}{K:Kd}(h1:1<=K.fg)(h4:K.fg<=4)(h:KOk (nms c0 K.fg) (nms c1 12) K)(hu:used K<=12):Well K:=by
 have bJ:K.tJ (·.1)=nms c0 K.fg:=by
  refine tH.ext_getElem? λi=>?_
  rw[oq];by_cases hi:i<K.fg
  .have:=(h.at_ i K[i] (nX hi)).1;rw[nX hi,pd,this,nX (by rw[BL];exact hi)];simp[tH.uZ,BL,hi]
  .rw[o7 (by lia),o7 (by rw[BL];lia)];rfl
 have gh:=by have:=(Io h (by rw[BL];exact hu) K.fg (oh _)).1;rwa[pP]at this
 have iG:∀kd∈K,∃a,a<K.fg/\1<=kd.2.fg/\kd.2.fg<=4/\Rows (nms c0 K.fg) (nms c1 12) a (used (K.uB a)) kd.2:=λkd m=>by let{a,ha,ea}:=tH.mem_iff_getElem.mp m;let{_,q1,q2,R}:=h.at_ a kd (by rw[nX ha,ea]);exact{a,ha,q1,q2,R}
 have jD:∀m∈mks K,∃k,m=nmS c1 k:=λm hm=>by rw[gh]at hm;exact EK (pI hm)
 refine{h1,h4,?_,λkd m=>?_,λkd m=>?_,?_,λm hm=>?_,λm hm=>?_,λkd m r hr=>?_,λkd m r hr x hx=>?_,λD kd R e r hr x hx=>?_}
 .rw[bJ];exact Dq c0 (by lia)
 .have:kd.1∈nms c0 K.fg:=by rw[<- bJ];exact oa.wO {kd,m,rfl}
  let{k,e}:=EK this;rw[e];exact DQ c0 k
 .let{a,_,q1,q2,_}:=iG kd m;exact{q1,q2}
 .rw[gh];exact(Dq c1 (oh 12)).sublist (pF _ _)
 .let{k,e}:=jD m hm;rw[e];exact DQ c1 k
 .let{k,e}:=jD m hm;rw[e];exact XH c1 k
 .let{a,_,_,_,R}:=iG kd m;exact R.two r hr
 .let{a,_,_,_,R}:=iG kd m;rw[bJ];exact R.yN r hr x hx
 .let{_,_,_,Rw}:=h.at_ D.fg kd (by rw[e];simp);have:=Rw.fst r hr x hx;rw[<- bJ,e,nW]at this;rwa[tH.take_left' (by simp)]at this
def EM{C:tV}{p:tQ}{Fn:tm}{fa:tq}{fs ae τ:FS}{rs:tH Rv}{o:FO}(ha:fa fs=.ok rs ae)(hp:rs.fg+1=p)(hl:Cd ae (rs.tJ AF)=[])(hf:Fn (p' (.u7 (.vE C [] []))::Bu ae (rs.tJ AF))=.ok (.t .vG) (p' (.u7 o)::τ)):Ad (CK C p Fn) fa fs=.ok (.nw o) ae:=by unfold Ad;rw[ha];show CK C p Fn rs ae=_;unfold CK;rw[tW {by rw[hl];exact oY,hp},hf];dsimp only;rw[AQ hl]
def Zk{xs ys:tH T}{fs:FS}(h:xs.fg+ys.fg<=big):AG (.t (.tY xs)) (.t (.tY ys)) fs=.ok (.nw (.tY (xs++ys))) fs:=by
 have:NR (.t (.tY xs)) (.t (.tY ys)) fs=.ok (.nw (.tY (xs++ys))) fs:=by simp![NR,exL];exact tW h
 show(match NR (.t (.tY xs)) (.t (.tY ys)) fs with|.ur=>_|o=>o)=_;rw[this]
def U1(e:fs[i]?=p' x)(h:vC x):HV i (.nw o) fs=p' (fs.wJ i (p' (.uI o))):=by unfold HV;rw[e];cases x with|none=>rfl|p' s=>cases s with|vm t=>rfl|uI o=>rfl|u7 o=>exact h.tU
def CJ(h:g (args++tH.uN n none)=.wH (.t t) τ):A2 n g args=.ok (.t t) (τ.uB args.fg):=by unfold A2;rw[h]
def Sg(h:g (args++tH.uN n none)=.wH (.x i) τ)(hi:τ[i]?=p' (p' (.uI o))):A2 n g args=.ok (.nw o) ((τ.wJ i none).uB args.fg):=by unfold A2;rw[h];simp![hi]
def OT(h:g (args++tH.uN n none)=.wH (.nw o) τ):A2 n g args=.ok (.nw o) (τ.uB args.fg):=by unfold A2;rw[h]
def exN (s:tO):T:=.uj [.str "name",.str s]
def exP (h s:tO)(ts:tH T):T:=.uj [.str h,.str s,.uj ts]
def IJ(m:tQ)(a b:tO):eqT m (.str a) (.str b)=p' (a==b):=by cases m<;>rfl
def EY(m:tQ)(xs ys:tH T):eqT (m+1) (.uj xs) (.uj ys)=(Hb (eqT m) xs ys).tJ (·&&xs.fg==ys.fg):=rfl
def LF{c:tw}{b:FS->SO}{n:tQ}{fs ak:FS}(h:c fs=.ok true fs)(e:b fs=.nx ak):BY c b (n+1) fs=BY c b n ak:=by rw[BY,h];show(match b fs with|.nx fs=>BY c b n fs|.cnt fs=>_|.brk fs=>_|o=>o)=_;rw[e]
def LX(e:g fs=.wy c ak):Ak g h fs=.wy c ak:=by unfold Ak;rw[e]
def FN(h:g (args++tH.uN n none)=.wy c τ):A2 n g args=.wy c (τ.uB args.fg):=by unfold A2;rw[h]
def Ki(ha:fa fs=.ok rs ae)(hp:rs.fg=p)(hn:Cd ae (rs.tJ AF)=[])(hf:Fn (Bu ae (rs.tJ AF))=.wy c τ):Ad (Af p Fn) fa fs=.wy c ae:=by unfold Ad;rw[ha];show Af p Fn rs ae=_;unfold Af;rw[tW hp];unfold D4;rw[tW (by rw[hn];exact oY),hf];simp![(AQ hn)]
def VH{f:tm}{fs ae:FS}{c:tO}(h:f fs=.wy c ae):fz f fs=.wy c ae:=by unfold fz;rw[h];rfl
def UA{g:tj}{fa fb:tm}{fs ae:FS}{c:tO}(h:fa fs=.wy c ae):Ag g fa fb fs=.wy c ae:=by unfold Ag;rw[h];rfl
def Ia{f:tm}{fs ae:FS}{c:tO}(h:f fs=.wy c ae):vV f fs=.wy c ae:=by unfold vV;rw[h];rfl
def J4(h:f fs=.wy c ae):Au f fs=.wy c ae:=by unfold Au;rw[h];rfl
def Sa{i:tQ}{f:tm}{fs ae:FS}{c:tO}(h:f fs=.wy c ae):Av i f fs=.wy c ae:=by unfold Av;rw[h];rfl
def Nn :Rv->Prop
 |.nw _=>vd
 |_=>uQ
section
variable{α:Type}{f fa fb:tm}{ga:tq}{c ct:tw}{it:tB}{s s' h:FS->SO}{fs ae aq ak τ:FS}{x y r:Rv}{rs:List Rv}{o:Out Rv}{y:SO}{b b':Bool}{t u:T}{ts us:List T}{i j p:Nat}{g:tj}{gt:tz}{gs:List T->FS->Option FS}{Fn:tm}{C:Addr}{m:Str}
def B8{k:Rv->FS->Out α}(n:Nn x):(Out.ok x fs).bnd k=k x fs:=by cases x<;>first|rfl|exact n.tU
def x_bin{y}(h1:fa fs=.ok x ae)(n1:Nn x)(h2:fb ae=.ok y aq)(n2:Nn y)(h3:g x y aq=o):Ag g fa fb fs=o:=by unfold Ag;rw[h1,B8 n1];show(fb ae).bnd _=_;rw[h2,B8 n2];exact h3
def EI(h1:f fs=.ok x ae)(n1:Nn x)(h2:ga ae=.ok rs aq):Ab f ga fs=.ok (x::rs) aq:=by unfold Ab;rw[h1,B8 n1];show(ga ae).u9 _=_;rw[h2];rfl
def fzR :Rv->tm
 |.t t,fs=>.ok (.t t) fs
 |.nw o,fs=>.ok (.t (toT o)) fs
 |.x i,fs=>match fs[i]? with|p' (p' (.uI o))=>.ok (.t (toT o)) (fs.wJ i (p' (.vm (toT o))))|_=>.ur
def x_fz(h:f fs=.ok r ae)(e:fzR r ae=o):fz f fs=o:=by unfold fz;rw[h];show _=_;cases r<;>exact e
def x_call(h0:ga fs=.ok rs ae)(hp:rs.fg=p)(hl:Cd ae (rs.tJ AF)=[])(hf:Fn (Bu ae (rs.tJ AF))=.ok r τ)(hr:r=.t t\/∃o,r=.nw o):Ad (Af p Fn) ga fs=.ok r ae:=by
 rcases hr with rfl|⟨o,rfl⟩
 .exact DU h0 hp (by rw[hl];exact oY) hf (AQ hl)
 .exact IY h0 hp (by rw[hl];exact oY) hf (AQ hl)
def Wm(h0:ga fs=.ok rs ae)(hp:rs.fg=p)(hl:Cd ae (rs.tJ AF)=[])(hf:Fn (Bu ae (rs.tJ AF))=.ok (.t t) τ):Ad (Af p Fn) ga fs=.ok (.t t) ae:=x_call h0 hp hl hf (.uW rfl)
def Wl{o:FO}(h0:ga fs=.ok rs ae)(hp:rs.fg=p)(hl:Cd ae (rs.tJ AF)=[])(hf:Fn (Bu ae (rs.tJ AF))=.ok (.nw o) τ):Ad (Af p Fn) ga fs=.ok (.nw o) ae:=x_call (t:=.vG) h0 hp hl hf (.uK {o,rfl})
def x_asB(h:f fs=.ok (.t (.l b)) ae):wk f fs=.ok b ae:=De h
def x_seq(e:s fs=.nx ae)(e2:h ae=y):Ak s h fs=y:=sq e e2
def We(hc:c fs=.ok b ae)(e:(bif b then Ak s h ae else Ak s' h ae)=y):Ak (wQ c s s') h fs=y:=by unfold Ak wQ;rw[hc];cases b<;>exact e
def x_if(hc:c fs=.ok b ae)(e:(bif b then s ae else s' ae)=y):wQ c s s' fs=y:=by unfold wQ;rw[hc];cases b<;>exact e
def Z8(hc:c fs=.ok b ae)(hb:b=false)(e:s' ae=y):wQ c (λ_=>.ur) s' fs=y:=by subst hb;unfold wQ;rwa[hc]
def UK(e:f fs=.ok r ae):Ak (vV f) h fs=.wH r ae:=CV (A8 e)
def x_set(h:f fs=.ok r ae)(e:HV i r ae=p' aq):Av i f fs=.nx aq:=by unfold Av;rw[h];show(match HV i r ae with|p' fs=>SO.nx fs|none=>.ur)=_;rw[e]
def x_asg(h:f fs=.ok (.t t) ae)(e:gt t ae=p' aq):G8 f gt fs=.nx aq:=by unfold G8;rw[h];show(match gt t ae with|p' fs=>SO.nx fs|none=>.ur)=_;rw[e]
def x_tup(h:ts.fg=i)(e:gs ts fs=p' ak):AM i gs (.uj ts) fs=p' ak:=(tW h).trans e
def x_tgc(e:gt t fs=p' ae)(e2:gs ts ae=p' aq):Aj gt gs (t::ts) fs=p' aq:=by show(gt t fs).u9 _=_;rwa[e]
def Nc(e:fs[i]?=p' z)(h:vC z):wd i t fs=p' (fs.wJ i (vl t)):=by unfold wd;exact Bp e h
def Oo(h:it fs=.ok ts ae)(e:Dz gt s ts ae=y):Bv it gt s fs=y:=by unfold Bv;rwa[h]
def Wg(h:f fs=.ok (.t t) ae)(e:t=.tY ts\/t=.uj ts\/t=.n ts):itU f fs=.ok ts ae:=by unfold itU;rw[h];rcases e with rfl|rfl|rfl<;>rfl
def x_itZ(h1:fa fs=.ok (.t t) ae)(e1:KY t=p' ts)(h2:fb ae=.ok (.t u) aq)(e2:KY u=p' us):itZ fa fb fs=.ok (FL.v6 ts us) aq:=by unfold itZ;rw[h1,B8 (x:=.t t) uQ.intro];show(fb ae).bnd _=_;rw[h2,B8 (x:=.t u) uQ.intro];show(match KY t,KY u with|p' xs,p' ys=>Out.ok (FL.v6 xs ys) aq|_,_=>.ur)=_;rw[e1,e2]
def Z7(h:ga fs=.ok rs ae)(h2:N6 rs=p' ts)(h3:ts.fg<=big)(e:d ts ae=o):An d ga fs=o:=IP h h2 h3 e
def Z1(h:f fs=.ok (.t t) ae)(e:t=.tY ts\/t=.uj ts\/t=.n ts):Ad AI (Ab f Ae) fs=.ok (.t (.tS ts.fg)) ae:=by rcases e with e|e|rfl;exact P4 h (.uW e);exact P4 h (.uK e);exact Bx (EI h uQ.intro A5) rfl
def Z9(h1:c fs=.ok b ae)(h2:b=true->ct ae=.ok b' ae):E8 c ct fs=.ok (b&&b') ae:=by unfold E8;rw[h1];cases b with|true=>exact h2 rfl|false=>rfl
def UR(h1:c fs=.ok b ae)(hb:b=false):E8 c ct fs=.ok false ae:=by subst hb;exact Z9 (b':=false) h1 (λh=>by cases h)
def Oq{ak:FS}(h1:c fs=.ok b ae)(hb:b=true)(h2:ct ae=.ok b' ak):E8 c ct fs=.ok b' ak:=by subst hb;unfold E8;rwa[h1]
def ZW{ak:FS}(h1:c fs=.ok b ae)(hb:b=false)(h2:ct ae=.ok b' ak):orT c ct fs=.ok b' ak:=by subst hb;unfold orT;rwa[h1]
def x_orT(h1:c fs=.ok b ae)(h2:b=false->ct ae=.ok b' ae):orT c ct fs=.ok (b||b') ae:=by unfold orT;rw[h1];cases b with|false=>exact h2 rfl|true=>rfl
def gLt_i{i j:tN}:gLt (.t (.tS i)) (.t (.tS j)) fs=.ok (.t (.l (decide (i<j)))) fs:=rfl
def gLe_i{i j:tN}:gLe (.t (.tS i)) (.t (.tS j)) fs=.ok (.t (.l (decide (i<=j)))) fs:=rfl
def gEqi{i j:tN}:gEq false (.t (.tS i)) (.t (.tS j)) fs=.ok (.t (.l (decide (i=j)))) fs:=by
 have:=QO (fa:=gc (.tS i)) (fb:=gc (.tS j)) (fs:=fs) Be Be;unfold wk at this;rw[show Ag (gEq false) (gc (.tS i)) (gc (.tS j)) fs=gEq false (.t (.tS i)) (.t (.tS j)) fs from rfl]at this;cases e:gEq false (.t (.tS i)) (.t (.tS j)) fs with
 |ok r aq =>rw[e]at this;cases r with|t t=>cases t<;>simp_all[Out.u9]|nw o=>simp[Out.u9]at this|x i=>simp[Out.u9]at this
 |wy c aq=>rw[e]at this;simp[Out.u9]at this
 |ur=>rw[e]at this;simp[Out.u9]at this
def UL(hc:c fs=.ok b ae)(hb:b=false)(e:Ak s' h ae=y):Ak (wQ c (λ_=>.ur) s') h fs=y:=by subst hb;exact We hc e
def Rt :Rv->Prop
 |.x _=>vd
 |_=>uQ
def UP(h0:ga fs=.ok rs ae)(hp:rs.fg=p)(hl:Cd ae (rs.tJ AF)=[])(ha:Bu ae (rs.tJ AF)=as)(hf:Fn as=.ok r τ)(hr:Rt r):Ad (Af p Fn) ga fs=.ok r ae:=by subst ha;cases r with|t t=>exact Wm h0 hp hl hf|nw o=>exact Wl h0 hp hl hf|x i=>exact hr.tU
def x_c1(h0:ga fs=.ok [.t a1] ae)(hf:Fn [vl a1]=.ok r τ)(hr:Rt r):Ad (Af 1 Fn) ga fs=.ok r ae:=UP h0 rfl rfl rfl hf hr
def x_c2(h0:ga fs=.ok [.t a1,.t a2] ae)(hf:Fn [vl a1,vl a2]=.ok r τ)(hr:Rt r):Ad (Af 2 Fn) ga fs=.ok r ae:=UP h0 rfl rfl rfl hf hr
def x_c3(h0:ga fs=.ok [.t a1,.t a2,.t a3] ae)(hf:Fn [vl a1,vl a2,vl a3]=.ok r τ)(hr:Rt r):Ad (Af 3 Fn) ga fs=.ok r ae:=UP h0 rfl rfl rfl hf hr
def x_c4(h0:ga fs=.ok [.t a1,.t a2,.t a3,.t a4] ae)(hf:Fn [vl a1,vl a2,vl a3,vl a4]=.ok r τ)(hr:Rt r):Ad (Af 4 Fn) ga fs=.ok r ae:=UP h0 rfl rfl rfl hf hr
def x_c5(h0:ga fs=.ok [.t a1,.t a2,.t a3,.t a4,.t a5] ae)(hf:Fn [vl a1,vl a2,vl a3,vl a4,vl a5]=.ok r τ)(hr:Rt r):Ad (Af 5 Fn) ga fs=.ok r ae:=UP h0 rfl rfl rfl hf hr
def x_c6(h0:ga fs=.ok [.t a1,.t a2,.t a3,.t a4,.t a5,.t a6] ae)(hf:Fn [vl a1,vl a2,vl a3,vl a4,vl a5,vl a6]=.ok r τ)(hr:Rt r):Ad (Af 6 Fn) ga fs=.ok r ae:=UP h0 rfl rfl rfl hf hr
def x_m1(h1:f fs=.ok (.t a0) ae)(h2:ga ae=.ok [.t a1] aq)(hf:Fn [vl a0,vl a1]=.ok r τ)(hr:Rt r)(hi:Cw C m ae (.t a0)=true):Bd C m 2 Fn f ga fs=.ok r aq:=by unfold Bd;rw[h1,B8 (x:=.t a0) uQ.intro];show(if _ then _ else _)=_;rw[tW hi,h2];exact UP rfl rfl rfl rfl hf hr
def x_m2{a0 a1 a2:T}(h1:f fs=.ok (.t a0) ae)(h2:ga ae=.ok [.t a1,.t a2] aq)(hf:Fn [vl a0,vl a1,vl a2]=.ok r τ)(hr:Rt r)(hi:Cw C m ae (.t a0)=true):Bd C m 3 Fn f ga fs=.ok r aq:=by unfold Bd;rw[h1,B8 (x:=.t a0) uQ.intro];show(if _ then _ else _)=_;rw[tW hi,h2];exact UP rfl rfl rfl rfl hf hr
def x_m0{o:FO}(h1:f fs=.ok (.t a0) ae)(hf:Fn [vl a0]=.ok (.nw o) τ)(hi:Cw C m ae (.t a0)=true):Dg C m 1 Fn f Ae fs=.ok (.nw o) ae:=by unfold Dg;rw[h1,B8 (x:=.t a0) uQ.intro];show(if _ then _ else _)=_;rw[tW hi];show Lq 1 Fn [.t a0] ae=_;unfold Lq Q9;rw[tW (show [Rv.t a0].fg=1 from rfl),show Cd ae ([Rv.t a0].tJ AF)=[]from rfl,tW oY,show Bu ae ([Rv.t a0].tJ AF)=[vl a0]from rfl,hf];show(match B3 ([Rv.t a0].tJ AF) τ ae with|p' ak=>Out.ok (Rv.nw o) ak|none=>.ur)=_;rw[AQ rfl]
def x_fld{gs:tH tO}(h:f fs=.ok (.t (.vE C gs ts)) ae)(hv:E9 gs ts n=p' t):CM C n f fs=.ok (.t t) ae:=by unfold CM;rw[h,B8 (x:=.t (.vE C gs ts)) uQ.intro];show(if _ then _ else _)=_;rw[tW rfl,hv];rfl
def gNe{y}(h:gEq false x y fs=.ok (.t (.l b)) fs):gEq true x y fs=.ok (.t (.l (!b))) fs:=by unfold gEq at *;split at h<;>simp_all;split at h<;>simp_all[okT];split at h<;>simp_all
def gNe_s{x y:tO}:gEq true (.t (.str x)) (.t (.str y)) fs=.ok (.t (.l (!decide (x=y)))) fs:=gNe gEq_s
def gNe_i{x y:tN}:gEq true (.t (.tS x)) (.t (.tS y)) fs=.ok (.t (.l (!decide (x=y)))) fs:=gNe gEqi
def x_fzt:fzR (.t t) fs=.ok (.t t) fs:=rfl
def x_fzl:fzR (.nw (.tY ts)) fs=.ok (.t (.tY ts)) fs:=rfl
def x_fzr(h:fs[i]?=p' (p' (.uI (.tY ts)))):fzR (.x i) fs=.ok (.t (.tY ts)) (fs.wJ i (vl (.tY ts))):=by simp![fzR,h];rfl
def ZT:nxS fs=.nx fs:=rfl
def x_tg0:AL [] fs=p' fs:=rfl
def x_dt:Az ts fs=.ok (.t (.uj ts)) fs:=rfl
def x_dl:BC ts fs=.ok (.t (.tY ts)) fs:=rfl
def x_dn:BQ ts fs=.ok (.nw (.tY ts)) fs:=rfl
def x_al0:N6 []=p' []:=rfl
def x_al1(h:N6 rs=p' ts):N6 (.t t::rs)=p' (t::ts):=by unfold N6;rw[h];rfl
def x_sqt:KY (.uj ts)=p' ts:=rfl
def x_ixt{k:tN}(h:atI ts k=p' t):Aw (.t (.uj ts)) (.t (.tS k)) fs=.ok (.t t) fs:=by
 have e:gIx (.t (.uj ts)) (.t (.tS k)) fs=.ok (.t t) fs:=by simp![gIx,BD,h];rfl
 show(match gIx (.t (.uj ts)) (.t (.tS k)) fs with|.ur=>_|o=>o)=_;rw[e]
def x_ixl{k:tN}(h:atI ts k=p' t):Aw (.t (.tY ts)) (.t (.tS k)) fs=.ok (.t t) fs:=MF rfl h
end
def vL (Q:SO->Prop)(y:SO):Prop:=Q y
section
variable{Q:SO->Prop}{f:tm}{c:tw}{it:tB}{s s' h:FS->SO}{fs ae:FS}{r:Rv}{b:Bool}{ts:List T}{gt:tz}{P:List T->FS->Prop}{R:FS->SO->Prop}{n:Nat}{args τ:FS}{A:Rv->Prop}
def AN(e:s fs=.nx ae)(k:vL Q (h ae)):vL Q (Ak s h fs):=by unfold vL;rwa[KW e]
def JA(hc:c fs=.ok b ae)(k1:b=true->vL Q (Ak s h ae))(k2:b=false->vL Q (Ak s' h ae)):vL Q (Ak (wQ c s s') h fs):=by unfold vL;rw[We hc rfl];cases b;exact k2 rfl;exact k1 rfl
def q_if(hc:c fs=.ok b ae)(k1:b=true->vL Q (s ae))(k2:b=false->vL Q (s' ae)):vL Q (wQ c s s' fs):=by unfold vL;rw[x_if hc rfl];cases b;exact k2 rfl;exact k1 rfl
def JaR(hc:c fs=.ok b ae)(hb:b=false)(k:vL Q (Ak s' h ae)):vL Q (Ak (wQ c (λ_=>.ur) s') h fs):=by unfold vL;rwa[UL hc hb rfl]
def q_bad(hc:c fs=.ok b ae)(hb:b=false)(k:vL Q (s' ae)):vL Q (wQ c (λ_=>.ur) s' fs):=by unfold vL;rwa[Z8 hc hb rfl]
def Sm(e:f fs=.ok r ae)(k:vL Q (.wH r ae)):vL Q (vV f fs):=by unfold vL;rwa[A8 e]
def JaP(e:f fs=.ok r ae)(k:vL Q (.wH r ae)):vL Q (Ak (vV f) h fs):=by unfold vL;rwa[UK e]
def q_snx(k:vL Q (h fs)):vL Q (Ak nxS h fs):=k
def q_nx(k:vL Q (.nx fs)):vL Q (nxS fs):=k
def q_ss(k:vL Q (Ak s (Ak s' h) fs)):vL Q (Ak (Ak s s') h fs):=by unfold Ak at *;cases e:s fs<;>simp![e]at k ⊢<;>exact k
def U8(e:s fs=.nx ae)(k:vL Q (.nx ae)):vL Q (s fs):=by unfold vL;rwa[e]
def Lj(st:∀t ts fs,P (t::ts) fs->∃ae,gt t fs=p' ae/\vL (λy=>∃aq,y=.nx aq/\P ts aq) (s ae)):∀(ts:tH T)(fs:FS),P ts fs->∃ak,Dz gt s ts fs=.nx ak/\P [] ak :=
 ID P λt ts fs p=>let{ae,a,aq,b,c}:=st t ts fs p;{ae,aq,a,b,c}
def JaQ(hi:it fs=.ok ts ae)(P:tH T->FS->Prop)(h0:P ts ae)(st:∀t ts fs,P (t::ts) fs->∃ae,gt t fs=p' ae/\vL (λy=>∃aq,y=.nx aq/\P ts aq) (s ae))(k:∀ak,P [] ak->vL Q (h ak)):vL Q (Ak (Bv it gt s) h fs):=by let{ak,e,p}:=Lj st ts ae h0;exact AN (Oo hi e) (k ak p)
def q_for(hi:it fs=.ok ts ae)(P:tH T->FS->Prop)(h0:P ts ae)(st:∀t ts fs,P (t::ts) fs->∃ae,gt t fs=p' ae/\vL (λy=>∃aq,y=.nx aq/\P ts aq) (s ae))(k:∀ak,P [] ak->vL Q (.nx ak)):vL Q (Bv it gt s fs):=by let{ak,e,p}:=Lj st ts ae h0;rw[Oo hi e];exact k ak p
def O6(hi:it fs=.ok ts ae)(Pe:T->Prop)(I:FS->Prop)(h0:∀u∈ts,Pe u)(h1:I ae)(st:∀t fs,Pe t->I fs->∃ae,gt t fs=p' ae/\vL (λy=>∃aq,y=.nx aq/\I aq) (s ae))(k:∀ak,I ak->vL Q (h ak)):vL Q (Ak (Bv it gt s) h fs) :=
 JaQ hi (λus fs=>(∀u∈us,Pe u)/\I fs) {h0,h1} (λt us fs {a,b}=>let{ae,e,aq,e2,i}:=st t fs (a t n5) b;{ae,e,aq,e2,λu m=>a u (n4 _ m),i}) (λfs p=>k fs p.2)
def U9(hi:it fs=.ok ts ae)(Pe:T->Prop)(I:FS->Prop)(h0:∀u∈ts,Pe u)(h1:I ae)(st:∀t fs,Pe t->I fs->∃ae,gt t fs=p' ae/\vL (λy=>∃aq,y=.nx aq/\I aq) (s ae))(k:∀ak,I ak->vL Q (.nx ak)):vL Q (Bv it gt s fs) :=
 q_for hi (λus fs=>(∀u∈us,Pe u)/\I fs) {h0,h1} (λt us fs {a,b}=>let{ae,e,aq,e2,i}:=st t fs (a t n5) b;{ae,e,aq,e2,λu m=>a u (n4 _ m),i}) (λfs p=>k fs p.2)
def for_L{α:Type}{p:α->T}{xs:tH α}{I:tH α->FS->Prop}(h0:I [] fs)(st:∀D a R fs,D++a::R=xs->I D fs->∃ae,gt (p a) fs=p' ae/\vL (λy=>∃aq,y=.nx aq/\I (D++[a]) aq) (s ae)):∃ak,Dz gt s (xs.tJ p) fs=.nx ak/\I xs ak:=by
 let{ak,e,D,R,h1,h2,h3}:=Lj (P:=λus fs=>∃D R,D++R=xs/\us=R.tJ p/\I D fs) (gt:=gt) (s:=s) (λt us fs {D,R,h1,h2,h3}=>by cases R with|vO=>cases h2|ux a R =>let{rfl,rfl}:=tH.ux.inj h2;let{ae,e,aq,e2,i}:=st D a R fs h1 h3;exact{ae,e,aq,e2,D++[a],R,by rw[<- h1];simp,rfl,i}) (xs.tJ p) fs {[],xs,rfl,rfl,h0};have:R=[]:=by cases R with|vO=>rfl|ux a R=>cases h2
 subst this;rw[oJ]at h1;exact{ak,e,h1▸h3}
def Bn{α:Type}{p:α->T}{xs:tH α}(hi:it fs=.ok (xs.tJ p) ae)(I:tH α->FS->Prop)(h0:I [] ae)(st:∀D a R fs,D++a::R=xs->I D fs->∃ae,gt (p a) fs=p' ae/\vL (λy=>∃aq,y=.nx aq/\I (D++[a]) aq) (s ae))(k:∀ak,I xs ak->vL Q (h ak)):vL Q (Ak (Bv it gt s) h fs):=by let{ak,e,p}:=for_L h0 st;exact AN (Oo hi e) (k ak p)
def D2{α:Type}{p:α->T}{xs:tH α}(hi:it fs=.ok (xs.tJ p) ae)(I:tH α->FS->Prop)(h0:I [] ae)(st:∀D a R fs,D++a::R=xs->I D fs->∃ae,gt (p a) fs=p' ae/\vL (λy=>∃aq,y=.nx aq/\I (D++[a]) aq) (s ae))(k:∀ak,I xs ak->vL Q (.nx ak)):vL Q (Bv it gt s fs):=by let{ak,e,p}:=for_L h0 st;rw[Oo hi e];exact k ak p
def q_tg{R:SO->Prop}(e:gt t fs=p' ae)(k:vL R (s ae)):∃ae,gt t fs=p' ae/\vL R (s ae):={ae,e,k}
def Rr (A:Rv->Prop)(y:SO):Prop:=∃r τ,y=.wH r τ/\Rt r/\A r
def WT(k:vL (Rr A) (s (args++tH.uN n none))):∃r τ,A2 n s args=.ok r τ/\A r:=by let{r,τ,e,hr,a}:=k;cases r with|t t=>exact{_,_,CJ e,a}|nw o=>exact{_,_,OT e,a}|x i=>exact hr.tU
def WV(hr:Rt r)(a:A r):vL (Rr A) (.wH r fs):={r,fs,rfl,hr,a}
def O7{P:FS->Prop}(p:P fs):vL (λy=>∃aq,y=.nx aq/\P aq) (.nx fs):={fs,rfl,p}
def q_nxt:vL (λy=>∃τ,y=.nx τ) (.nx fs):={fs,rfl}
def Cp(k:vL (Rr (·=.t t)) (s (args++tH.uN n none))):∃τ,A2 n s args=.ok (.t t) τ:=by let{r,τ,e,rfl}:=WT k;exact{τ,e}
def Jz(k:vL (λy=>∃τ,y=.nx τ) (s (args++tH.uN n none))):∃τ,A2 n s args=.ok (.t .vG) τ:=by let{τ,e}:=k;exact{τ.uB args.fg,by unfold A2;rw[e]}
end
def keys_map:∀xs:tH tO,Df (xs.tJ T.str)=p' (xs.tJ λx=>(.uK x:vc))
 | []=>rfl
 |x::xs=>by simp![nV,Df,keys_map xs,EJ,oM,pd]
section
variable{α:Type}{f fv fi:tm}{ga:tq}{it:tB}{ft:tw}{fs ae aq bR τ rest:FS}{x:Option Sl}{p q p1 p2:α->T}{b:α->Bool}{xs:List α}{ts us:List T}{t u:T}{i:Nat}{gt:tz}{src:tE}{fe:tm}{ks:List Key}{k:Str}{r:Rv}{o:Out Rv}{lo hi:Option Int}{l h:FS->Out (Option Int)}
def CL (p:α->T):tH α->tL Sl->tL Sl
 | [],x=>x
 |a::xs,_=>CL p xs (vl (p a))
def cl_go:∀(xs:tH α)(x:tL Sl)(ar:tH T),vC x->(∀a∈xs,ft (vl (p a)::uu)=.ok (b a) (vl (p a)::uu))->(∀a∈xs,b a=true->fe (vl (p a)::uu)=.ok (.t (q a)) (vl (p a)::uu))->ar.fg+xs.fg<=big->Bq (wd 0) ft fe (xs.tJ p) (x::uu) ar=p' (ar++(xs.filter b).tJ q,CL p xs x::uu)
 | [],x,ar,_,_,_,_=>by simp[Bq,CL]
 |a::xs,x,ar,hx,ht,he,hl=>by
  rw[om]at hl;have h1:wd 0 (p a) (x::uu)=p' (vl (p a)::uu):=Nc rfl hx;have h2:=ht a n5;have g:=λar hl=>cl_go xs (vl (p a)) ar Al (λa m=>ht a (n4 _ m)) (λa m=>he a (n4 _ m)) hl
  cases e:b a with|true =>simp![nV,Bq,h1,h2,(he a n5) e,tW (show ar.fg<big by lia),g (ar++[q a]) (by simp;lia),qP,e,CL];simp|false =>rw[e]at h2;simp![nV,Bq,h1,h2,g ar (by lia),qP,e,CL];simp
def Q4(hx:vC x)(ht:∀a∈xs,ft (vl (p a)::uu)=.ok (b a) (vl (p a)::uu))(he:∀a∈xs,b a=true->fe (vl (p a)::uu)=.ok (.t (q a)) (vl (p a)::uu))(hl:xs.fg<=1000):Bq (wd 0) ft fe (xs.tJ p) (x::uu) []=p' ((xs.filter b).tJ q,CL p xs x::uu):=cl_go xs x [] hx ht he (by show 0+_<=1000000;lia)
def DH(hx:vC x)(he:∀a∈xs,fe (vl (p a)::uu)=.ok (.t (q a)) (vl (p a)::uu))(hl:xs.fg<=1000):Bq (wd 0) CG fe (xs.tJ p) (x::uu) []=p' (xs.tJ q,CL p xs x::uu):=by have:=Q4 (b:=λ_=>true) hx (λ_ _=>rfl) (λa m _=>he a m) hl;rwa[tH.filter_eq_self.wO λ_ _=>rfl]at this
def V1:∀(xs:tH α)(x y:tL Sl)(ar:tH T),vC x->vC y->(∀a,p a=.uj [p1 a,p2 a])->(∀a∈xs,ft (vl (p1 a)::vl (p2 a)::uu)=.ok (b a) (vl (p1 a)::vl (p2 a)::uu))->(∀a∈xs,b a=true->fe (vl (p1 a)::vl (p2 a)::uu)=.ok (.t (q a)) (vl (p1 a)::vl (p2 a)::uu))->ar.fg+xs.fg<=big->Bq (AM 2 (Aj (wd 0) (Aj (wd 1) AL))) ft fe (xs.tJ p) (x::y::uu) ar=p' (ar++(xs.filter b).tJ q,CL p1 xs x::CL p2 xs y::uu)
 | [],x,y,ar,_,_,_,_,_,_=>by simp[Bq,CL]
 |a::xs,x,y,ar,hx,hy,hp,ht,he,hl=>by
  rw[om]at hl;have h1:AM 2 (Aj (wd 0) (Aj (wd 1) AL)) (p a) (x::y::uu)=p' (vl (p1 a)::vl (p2 a)::uu):=by rw[hp];exact Ov (Nc rfl hx) (Nc rfl hy)
  have h2:=ht a n5;have g:=λar hl=>V1 xs (vl (p1 a)) (vl (p2 a)) ar Al Al hp (λa m=>ht a (n4 _ m)) (λa m=>he a (n4 _ m)) hl
  cases e:b a with|true =>simp![nV,Bq,h1,h2,(he a n5) e,tW (show ar.fg<big by lia),g (ar++[q a]) (by simp;lia),qP,e,CL];simp|false =>rw[e]at h2;simp![nV,Bq,h1,h2,g ar (by lia),qP,e,CL];simp
def Lp(hx:vC x)(hy:vC y)(hp:∀a,p a=.uj [p1 a,p2 a])(ht:∀a∈xs,ft (vl (p1 a)::vl (p2 a)::uu)=.ok (b a) (vl (p1 a)::vl (p2 a)::uu))(he:∀a∈xs,b a=true->fe (vl (p1 a)::vl (p2 a)::uu)=.ok (.t (q a)) (vl (p1 a)::vl (p2 a)::uu))(hl:xs.fg<=1000):Bq (AM 2 (Aj (wd 0) (Aj (wd 1) AL))) ft fe (xs.tJ p) (x::y::uu) []=p' ((xs.filter b).tJ q,CL p1 xs x::CL p2 xs y::uu):=V1 xs x y [] hx hy hp ht he (by show 0+_<=1000000;lia)
def E3(hx:vC x)(hy:vC y)(hp:∀a,p a=.uj [p1 a,p2 a])(he:∀a∈xs,fe (vl (p1 a)::vl (p2 a)::uu)=.ok (.t (q a)) (vl (p1 a)::vl (p2 a)::uu))(hl:xs.fg<=1000):Bq (AM 2 (Aj (wd 0) (Aj (wd 1) AL))) CG fe (xs.tJ p) (x::y::uu) []=p' (xs.tJ q,CL p1 xs x::CL p2 xs y::uu):=by have:=Lp (b:=λ_=>true) hx hy hp (λ_ _=>rfl) (λa m _=>he a m) hl;rwa[tH.filter_eq_self.wO λ_ _=>rfl]at this
def at0:atI (t::ts) 0=p' t:=A0 rfl
def at1:atI (t::u::ts) 1=p' u:=A0 rfl
def at2:atI (t::u::v::ts) 2=p' v:=A0 rfl
def cut1:Lo (t::ts) (p' 1) none=ts:=GQ ZB (by simp)
def Src (fs:FS)(wP:tE):Prop:=Cd fs (wP.tJ λo=>o.tU Ini.no Ini.vH)=[]/\(wP.all λo=>o.tU true λj=>decide (j<fs.fg))=true
def so0:Src fs []:={rfl,rfl}
def so1(h:Src fs wP):Src fs (none::wP):=h
def so2(h0:fs[j]?=p' (vl t))(h:Src fs wP):Src fs (p' j::wP):=by
 refine{?_,?_}
 .show tH.filterMap (AX fs) (Ini.vH j::wP.tJ _)=[];rw[tH.filterMap_cons_none (by show(if(FL.Ax fs j).u8=true then p' j else none)=none;unfold FL.Ax;rw[h0];rfl)];exact h.1
 .rw[qL,h.2,uz.and_true];exact oV (ou.mp h0).1
def LC(h1:it fs=.ok ts ae)(hs:Src ae wP)(hc:Bq gt ft fe ts (Bu ae (wP.tJ λo=>o.tU Ini.no Ini.vH)) []=p' (us,τ)):AW false wP it gt ft fe fs=.ok (.t (.tY us)) ae:=by unfold AW;rw[h1];show(if _ then _ else _)=_;rw[tW {by rw[hs.1];exact oY,hs.2},hc];show(match B3 _ τ ae with|p' ak=>_|none=>_)=_;rw[AQ hs.1];rfl
def x_put{o:tQ}(hv:fv fs=.ok (.t t) fs)(h0:fs[o]?=p' (p' (.uI (.v ks ts))))(hi:fi fs=.ok (.t (.str k)) fs)(hn:(.uK k:vc)∉ks)(hl:ks.fg<1000000):Ba fv (Aa o) fi fs=.nx (fs.wJ o (p' (.uI (.v (ks++[.uK k]) (ts++[t]))))):=Vb h0 hv hi (any_false hn) hl rfl
def ZX:DY fs=.ok (.nw (.v [] [])) fs:=rfl
def x_fzk:fzR (.nw (.v ks ts)) fs=.ok (.t (.v ks ts)) fs:=rfl
def Wj{xs:tH tO}(h:ga fs=.ok [.t t,.t u] ae)(hx:KY t=p' (xs.tJ T.str))(hy:KY u=p' us)(nd:xs.uA)(hl:xs.fg=us.fg):GN ga fs=.ok (.nw (.v (xs.tJ λx=>(.uK x:vc)) us)) ae:=by unfold GN;rw[h];simp![Out.u9,hx,hy,keys_map];rw[tW {B1 nd,by rw[nU];exact hl}]
def x_lst(h:f fs=.ok (.t t) ae)(e:t=.tY ts\/t=.uj ts):Ad Dx (Ab f Ae) fs=.ok (.nw (.tY ts)) ae:=by refine Bx (AV h A5) ?_;rcases e with rfl|rfl<;>rfl
def x_tpl(h:f fs=.ok (.t t) ae)(e:t=.tY ts\/t=.uj ts):Ad BK (Ab f Ae) fs=.ok (.t (.uj ts)) ae:=by refine Bx (AV h A5) ?_;rcases e with rfl|rfl<;>rfl
def x_any(h:f fs=.ok (.t (.tY us)) ae)(e:us=xs.tJ λa=>T.l (b a)):Ad ZK (Ab f Ae) fs=.ok (.t (.l (xs.any b))) ae:=by subst e;refine Bx (AV h A5) ?_;have:=EH (xs.tJ b);rw[oj]at this;simp![ZK,BD,oM];rw[show(λa=>T.l (b a))=T.l∘b from rfl,this];show okT _ ae=_;rw[tH.any_map];rfl
def ZR(h:fs[i]?=p' (p' (.uI (.tY ts)))):Ad BK (Ab (Aa i) Ae) fs=.ok (.t (.uj ts)) fs:=by refine Bx (EI (BE h) uQ.intro A5) ?_;simp![BK,LW h];rfl
def x_slF(h1:f fs=.ok r ae)(n:Nn r)(h2:l ae=.ok lo aq)(h3:h aq=.ok hi bR)(e:Ky r lo hi bR=o):slF f l h fs=o:=by unfold slF;rw[h1,B8 n];show(l ae).u9 _=_;rw[h2];show(h aq).u9 _=_;rw[h3];exact e
def x_noP:noP fs=.ok none fs:=rfl
def Wc{j:tN}(h:f fs=.ok (.t (.tS j)) ae):B9 f fs=.ok (p' j) ae:=by unfold B9;rw[h];rfl
def ZU:Ky (.t (.uj (t::ts))) (p' 1) none fs=.ok (.t (.uj ts)) fs:=uC (λl=>Out.ok (Rv.t (.uj l)) fs) cut1
def ZV:Ky (.t (.tY (t::ts))) (p' 1) none fs=.ok (.t (.tY ts)) fs:=uC (λl=>Out.ok (Rv.t (.tY l)) fs) cut1
def x_app(h0:fs[i]?=p' (p' (.uI (.tY us))))(h:f fs=.ok (.t t) ae)(gR:ae[i]?=p' (p' (.uI (.tY ts))))(hl:ts.fg<1000000):Au (AA Dy (Aa i) (Ab f Ae)) fs=.nx (ae.wJ i (p' (.uI (.tY (ts++[t]))))):=app_st h0 h gR hl rfl
end
def JB:∀{gs:tH tO}{os:tH FO}{f:tO},gs.fg=os.fg->f∉gs->Dp gs os f o=p' (gs++[f],os++[o])
 | [],[],f,_,_=>rfl
 |g::gs,o'::os,f,hl,hn=>by
  have h1:¬g=f:=λe=>hn (e▸n5)
  have:=JB (o:=o) (by simpa using hl) (λm=>hn (n4 _ m));simp[Dp,h1,this]
section
variable{f fv:tm}{fs ae τ:FS}{t:T}{i j z:Nat}{C:Addr}{n:Str}{gs:List Str}{os bz ds:List FO}{o:FO}{ks cQ:List Key}{ts cj:List T}{k k2:Str}{s:FS->SO}{args:FS}{m:Nat}{a:Option Sl}
def Z5(hv:fv fs=.ok r ae)(ha:ZP r=p' o)(h0:ae[i]?=p' (p' (.u7 (.vE C gs os))))(hl:gs.fg=os.fg/\gs.fg<900)(hn:n∉gs):Ez C n i fv fs=.nx (ae.wJ i (p' (.u7 (.vE C (gs++[n]) (os++[o]))))):=by unfold Ez;rw[hv];simp![SO.of,ha,Hx h0];rw[tW {uQ.intro,hl.2},JB hl.1 hn];unfold FL.vA;rw[h0];rfl
def q_mk(k:vL (λy=>∃τ,y=.nx (p' (.u7 o)::τ)) (s ((a::args)++tH.uN m none))):∃τ,A2 m s (a::args)=.ok (.t .vG) (p' (.u7 o)::τ):=by let{τ,e}:=k;exact{τ.uB args.fg,by unfold A2;rw[e];rfl}
def JaS:vL (λy=>∃τ,y=.nx (p' (.u7 o)::τ)) (.nx (p' (.u7 o)::fs)):={fs,rfl}
def x_mk1{Fn:tm}{fa:tq}{a1:T}(ha:fa fs=.ok [.t a1] ae)(hf:Fn [p' (.u7 (.vE C [] [])),vl a1]=.ok (.t .vG) (p' (.u7 o)::τ)):Ad (CK C 2 Fn) fa fs=.ok (.nw o) ae:=EM ha rfl rfl hf
def x_mk2{Fn:tm}{fa:tq}{a1 a2:T}(ha:fa fs=.ok [.t a1,.t a2] ae)(hf:Fn [p' (.u7 (.vE C [] [])),vl a1,vl a2]=.ok (.t .vG) (p' (.u7 o)::τ)):Ad (CK C 3 Fn) fa fs=.ok (.nw o) ae:=EM ha rfl rfl hf
def x_mk5(ha:fa fs=.ok [.t a1,.t a2,.t a3,.t a4,.t a5] ae)(hf:Fn [p' (.u7 (.vE C [] [])),vl a1,vl a2,vl a3,vl a4,vl a5]=.ok (.t .vG) (p' (.u7 o)::τ)):Ad (CK C 6 Fn) fa fs=.ok (.nw o) ae:=EM ha rfl rfl hf
def x_fzS:fzR (.nw (.vE C gs [.vm a1,.vm a2,.vm a3,.vm a4,.vm a5])) fs=.ok (.t (.vE C gs [a1,a2,a3,a4,a5])) fs:=rfl
def UM(h0:fs[j]?=p' (p' (.u7 o)))(hf:f ((Ct fs).wJ j (vl (toT o)))=.ok (.t .vG) τ):Au (Gk j f) fs=.nx fs:=by refine Ln (r:=.t .vG) ?_;unfold Gk;rw[Hx h0];simp![hf];rfl
def Z6(hv:fv fs=.ok (.t t) ae)(h0:ae[i]?=p' (p' (.u7 (.vE C gs os))))(hj:ae[j]?=p' (vl (.str k)))(hf:A4 gs os n=p' (.v ks ts))(hn:(.uK k:vc)∉ks)(hl:ks.fg<1000000)(hs:B0 gs os n (.v (ks++[.uK k]) (ts++[t]))=bz):Ck C n i j fv fs=.nx (ae.wJ i (p' (.u7 (.vE C gs bz)))):=Y3 hv h0 hj hf hn hl (by rw[hs])
def Wh(h0:fs[i]?=p' (p' (.u7 (.vE C gs os))))(hj:fs[j]?=p' (vl (.str k)))(hf:A4 gs os n=p' o)(ho:asDO o=p' (ks,ds))(hn:(.uK k:vc)∉ks)(hl:ks.fg<1000000)(hs:B0 gs os n (.dO (ks++[.uK k]) (ds++[.v [] []]))=bz):GJ C n i j fs=.nx (fs.wJ i (p' (.u7 (.vE C gs bz)))):=by subst hs;unfold GJ;simp![Hx h0,hj,hf,if_true,EJ,ho];rw[tW {hl,any_false hn}];unfold FL.vA;rw[h0];rfl
def Hj:∀{ks:tH vc}{ds:tH FO},ks.fg=ds.fg->kk∉ks->HQ (ks++[kk]) (ds++[d]) kk=p' d
 | [],[],_,_=>by simp[HQ]
 |a::ks,b::ds,h,n=>by simp![qA,HQ];rw[ug λz=>n (by simp[z])];exact Hj (by simpa using h) λm=>n (n4 _ m)
def Hr:∀{ks:tH vc}{ds:tH FO},ks.fg=ds.fg->kk∉ks->Ju (ks++[kk]) (ds++[d]) kk x=ds++[x]
 | [],[],_,_=>by simp[Ju]
 |a::ks,b::ds,h,n=>by simp![qA,Ju];rw[ug λz=>n (by simp[z]),Hr (by simpa using h) λm=>n (n4 _ m)]
def Wi(hv:fv fs=.ok (.t t) ae)(h0:ae[i]?=p' (p' (.u7 (.vE C gs os))))(hj:ae[j]?=p' (vl (.str k)))(hz:ae[z]?=p' (vl (.str k2)))(hf:A4 gs os n=p' (.dO (ks++[.uK k]) (ds++[.v cQ cj])))(hl:ks.fg=ds.fg)(hn:(.uK k:vc)∉ks)(eN:(.uK k2:vc)∉cQ)(bb:cQ.fg<1000000)(hs:B0 gs os n (.dO (ks++[.uK k]) (ds++[.v (cQ++[.uK k2]) (cj++[t])]))=bz):dput2 C n i j z fv fs=.nx (ae.wJ i (p' (.u7 (.vE C gs bz)))):=by
 subst hs;have h3:Fp cQ cj (.uK k2:vc) t=(cQ++[.uK k2],cj++[t]):=by unfold Fp;rw[any_false eN];rfl
 unfold dput2;rw[hv];simp![SO.of,Hx h0,hj,hz,hf,EJ,Hj hl hn,Hr hl hn,h3];rw[tW (show cQ.fg<big from bb)];unfold FL.vA;rw[h0];rfl
end
section
variable{Q:SO->Prop}{f:tm}{c ct:tw}{s s' h:FS->SO}{fs ae:FS}{b b':Bool}{α β:Type}{ks:List Key}{ts:List T}{t:T}{k:Str}
def O8{J:β->FS}{P:β->Prop}(hc:c fs=.ok b ae)(h1:b=true->∃x,P x/\s ae=.nx (J x))(h2:b=false->∃x,P x/\s' ae=.nx (J x))(k:∀x,P x->vL Q (h (J x))):vL Q (Ak (wQ c s s') h fs):=by cases b with|true=>let{x,p,e}:=h1 rfl;exact AN (Jb8 hc e) (k x p)|false=>let{x,p,e}:=h2 rfl;exact AN (Jb9 hc e) (k x p)
def Vn(h1:c fs=.ok b fs)(h2:ct fs=.ok b' fs):orT c ct fs=.ok (b||b') fs:=x_orT h1 λ_=>h2
def x_itD{p:α->tO}{N:tH α}(h:f fs=.ok (.t (.dF (N.tJ λa=>(.uK (p a):vc)) ts)) ae):itD f fs=.ok (N.tJ λa=>.str (p a)) ae:=by unfold itD;rw[h,B8 (x:=.t (.dF _ ts)) uQ.intro];show Out.ok _ ae=_;rw[oj];rfl
def get_f(h:BB ks ts (.uK k:vc)=p' t):Aw (.t (.dF ks ts)) (.t (.str k)) fs=.ok (.t t) fs:=by show(match JZ (.t (.dF ks ts)) (.t (.str k)) fs with|o=>o)=_;unfold JZ;simp![QW,EJ,pd,h];rfl
def GA{L:tH α}(hL:L≠[])(p:α->T)(x:tN):∃a∈L,atI (L.tJ p) (x%((L.tJ p).fg:tN))=p' (p a):=by
 have hl:=pw.wO hL;rw[nU];have h1:=oU x (show(L.fg:tN)≠0 by lia);have h2:=oN x (show(0:tN)<L.fg by lia);have hi:(x%(L.fg:tN)).uw<L.fg:=by lia
 refine{L[(x%(L.fg:tN)).uw],qi hi,?_};have:=A0 (xs:=L.tJ p) (by rw[oq,nX hi];rfl);rwa[show(((x%(L.fg:tN)).uw:tQ):tN)=x%(L.fg:tN) by lia]at this
inductive F2(R:α->β->Prop):tH α->tH β->Prop
 |vO:F2 R [] []
 |ux {a b as bs}:R a b->F2 R as bs->F2 R (a::as) (b::bs)
section
variable{R S:α->β->Prop}{as:List α}{bs:List β}
def F2.wv(h:F2 R as bs):as.fg=bs.fg:=by induction h with|vO=>rfl|ux _ _ i=>simp[i]
def F2.imp(h:F2 R as bs)(i:∀a b,R a b->S a b):F2 S as bs:=by induction h with|vO=>exact .vO|ux h _ ih=>exact .ux (i _ _ h) ih
def F2.snoc{a:α}{b:β}(h:F2 R as bs)(r:R a b):F2 R (as++[a]) (bs++[b]):=by induction h with|vO=>exact .ux r .vO|ux h _ ih=>exact .ux h ih
def ex_F2:∀{as:tH α},(∀a∈as,∃b,R a b)->∃bs,F2 R as bs
 | [],_=>{[],.vO}
 |a::as,h=>let{b,r}:=h a n5;let{bs,rs}:=ex_F2 λa m=>h a (n4 _ m);{b::bs,.ux r rs}
end
def cl_F2{p:α->T}{xs:tH α}{vs:tH T}{uu:FS}{x:tL Sl}(hx:vC x)(hv:F2 (λa v=>fe (vl (p a)::uu)=.ok (.t v) (vl (p a)::uu)) xs vs)(hl:xs.fg<=1000):Bq (wd 0) CG fe (xs.tJ p) (x::uu) []=p' (vs,CL p xs x::uu):=by
 have go:∀(xs:tH α)(vs:tH T)(x:tL Sl)(ar:tH T),vC x->F2 (λa v=>fe (vl (p a)::uu)=.ok (.t v) (vl (p a)::uu)) xs vs->ar.fg+xs.fg<=big->Bq (wd 0) CG fe (xs.tJ p) (x::uu) ar=p' (ar++vs,CL p xs x::uu):=by
  intro xs vs x ar hx h
  induction h generalizing x ar with|vO=>intro _;simp[Bq,CL]|@ux a v xs vs h _ ih =>intro hl;rw[om]at hl;rw[nV,IT (Nc (z:=x) rfl hx) h (by lia),ih (vl (p a)) (ar++[v]) Al (by simp;lia)];simp[CL]
 exact go xs vs x [] hx hv (by show 0+_<=1000000;lia)
end
section
variable{f:tm}{fs ae:FS}{b:Bool}{ts:List T}{n:Nat}{ks:List Key}
def Z2(h:f fs=.ok (.t (.l b)) ae):Ad QA (Ab f Ae) fs=.ok (.t (.tS (if b=true then 1 else 0))) ae:=Bx (AV h A5) rfl
def x_slk(h:n<=ts.fg):Ky (.t (.tY ts)) none (p' (n:tN)) fs=.ok (.t (.tY (ts.uB n))) fs:=by have:=J7 (v:=(n:tN)) (by lia) (by simpa using h);rw[qv]at this;show Out.ok (Rv.t (.tY (Lo ts none (p' (n:tN))))) fs=_;rw[this]
def x_fzD(h:fs[i]?=p' (p' (.uI (.v ks ts)))):fzD (Aa i) fs=.ok (.t (.dF ks ts)) (fs.wJ i (vl (.dF ks ts))):=by unfold fzD;rw[BE h,B8 (x:=.x i) uQ.intro];simp![h]
end
section
variable{f:tm}{ga:tq}{fs ae:FS}{ts:List T}{n m:Nat}{a b j:Int}{α β γ:Type}
def Nd(h:ga fs=.ok [.t (.tS j)] ae)(hj:j=(n:tN))(hn:n<1000):G6 ga fs=.ok ((tH.vq n).tJ λi=>T.tS (i:tQ)) ae:=by subst hj;rw[O2 h {by lia,by lia},qv];unfold FL.upTo;simp
def F2.map_r{S:α->β->Prop}{f:γ->β}{as:tH α}{cs:tH γ}(h:F2 (λa c=>S a (f c)) as cs):F2 S as (cs.tJ f):=by induction h with|vO=>exact .vO|ux h _ ih=>exact .ux h ih
end
def Qn{xs:tH tO}(h:k∉xs):(.uK k:vc)∉xs.tJ λm=>(.uK m:vc):=λm=>by let{x,hm,e}:=oa.mp m;exact h (Sum.uK.inj e▸hm)
section
variable{f fk fv:tm}{fs ae aq τ:FS}{ts:List T}{t u:T}{n j:Nat}{a:Int}{ks:List Key}{k:Str}{s:FS->SO}{args:FS}{A:FO->Prop}{o:FO}{r:Rv}
def Ro (A:FO->Prop)(y:SO):Prop:=∃i τ o,y=.wH (.x i) τ/\τ[i]?=p' (p' (.uI o))/\A o
def L6(k:vL (Ro A) (s (args++tH.uN n none))):∃o τ,A2 n s args=.ok (.nw o) τ/\A o:=by let{i,τ,o,e,h,a}:=k;exact{o,_,Sg e h,a}
def ZE(h:fs[i]?=p' (p' (.uI o)))(a:A o):vL (Ro A) (.wH (.x i) fs):=by unfold vL;exact{i,fs,o,rfl,h,a}
end
section
variable{Q:SO->Prop}{f:tm}{ga:tq}{s g h:FS->SO}{fs ae aq bR args τ:FS}{i j n p:Nat}{c z y m:Str}{C:Addr}{Fn:tm}{a0 a1 a2 t:T}{bG:Str->Bool}{neg:Bool}{xs ts:List T}{r:Rv}
def JaO(k:vL (λy=>∃τ,y=.wy c τ) (s (args++tH.uN n none))):∃τ,A2 n s args=.wy c τ:=by let{τ,e}:=k;exact{_,FN e}
def q_xx:vL (λy=>∃τ,y=.wy c τ) (.wy c fs):={fs,rfl}
end
section
variable{f:tm}{fs τ:FS}{i j:Nat}{ts:List T}{o:FO}{C:Addr}{K:Kd}{hs:List T}{G:List Fd}
def x_fzT:fzR (.nw (UZ C K hs)) fs=.ok (.t (Am C K hs)) fs:=rfl
end
def q_nrm(e:fs=ak)(k:vL Q (Ak s h ak)):vL Q (Ak s h fs):=by rwa[e]
def Ri{i k:tQ}(hp:∀j,FL.va fs j is 0=if j=i then p' k else none)(ht:τ[k]?=p' (p' (.u7 o))):∀(gs:FS)(j:tQ),(∀n s,gs[n]?=p' s->j+n=i->s=p' (.uI o))->CF fs is τ j gs=p' gs
 | [],_,_=>by simp[CF]
 |s::gs,j,h=>by
  have b1:FL.DZ fs is τ j s=p' s:=by
   unfold FL.DZ;rw[hp j];by_cases q:j=i
   .rw[tW q,h 0 s rfl (by lia)];simp![ht,FL.Sl.put]
   .rw[ug q]
  simp![CF,b1,(Ri hp ht gs (j+1) λn s e1 e2=>h (n+1) s (by simpa using e1) (by lia))]
def UO{k:tQ}{o:FO}{i:tQ}(h0:ga fs=.ok rs ae)(hp:rs.fg=p)(hi:ae[i]?=p' (p' (.uI o)))(hl:Cd ae (rs.tJ AF)=[i])(hk:∀j,FL.va ae j (rs.tJ AF) 0=if j=i then p' k else none)(hf:Fn (Bu ae (rs.tJ AF))=.ok (.t t) τ)(ht:τ[k]?=p' (p' (.u7 o))):Ad (Af p Fn) ga fs=.ok (.t t) ae :=
 DU h0 hp (by rw[hl];simp) hf (Ri hk ht ae 0 λn s e1 e2=>by rw[tQ.zero_add]at e2;subst e2;rw[hi]at e1;exact(tL.p'.inj e1).symm)
section
variable{i:Nat}{Fn:tm}{ga:tq}{fs ae τ:FS}{t a1 a2 a4:T}{o:FO}
def Ve(hi:ae[i]?=p' (p' (.uI o))):AX ae (.vH i)=p' i:=by simp![FL.AX,FL.Ax,hi];rfl
def x_l4(h0:ga fs=.ok [.t a1,.t a2,.x i,.t a4] ae)(hi:ae[i]?=p' (p' (.uI o)))(hf:Fn [vl a1,vl a2,p' (.u7 o),vl a4]=.ok (.t t) τ)(ht:τ[2]?=p' (p' (.u7 o))):Ad (Af 4 Fn) ga fs=.ok (.t t) ae:=by
 have e:=Ve hi;refine UO h0 rfl hi ?_ (λj=>?_) ?_ ht
 .show tH.filterMap (AX ae) [.vm a1,.vm a2,.vH i,.vm a4]=_;simp[e,show ∀a,AX ae (.vm a)=none from λ_=>rfl]
 .show FL.va ae j [.vm a1,.vm a2,.vH i,.vm a4] 0=_;simp[FL.va,e,show ∀a,AX ae (.vm a)=none from λ_=>rfl,eq_comm]
 .show Fn [vl a1,vl a2,Ob ae (.vH i),vl a4]=_;rwa[show Ob ae (.vH i)=p' (.u7 o) by simp![FL.Ob,hi]]
def x_l3(h0:ga fs=.ok [.t a1,.t a2,.x i] ae)(hi:ae[i]?=p' (p' (.uI o)))(hf:Fn [vl a1,vl a2,p' (.u7 o)]=.ok (.t t) τ)(ht:τ[2]?=p' (p' (.u7 o))):Ad (Af 3 Fn) ga fs=.ok (.t t) ae:=by
 have e:=Ve hi;refine UO h0 rfl hi ?_ (λj=>?_) ?_ ht
 .show tH.filterMap (AX ae) [.vm a1,.vm a2,.vH i]=_;simp[e,show ∀a,AX ae (.vm a)=none from λ_=>rfl]
 .show FL.va ae j [.vm a1,.vm a2,.vH i] 0=_;simp[FL.va,e,show ∀a,AX ae (.vm a)=none from λ_=>rfl,eq_comm]
 .show Fn [vl a1,vl a2,Ob ae (.vH i)]=_;rwa[show Ob ae (.vH i)=p' (.u7 o) by simp![FL.Ob,hi]]
end
abbrev letS:tO:="abcdefghijklmnopqrstuvwxyz"
def sgn (c:tQ):tO:={#[c]}
def isL (c:tQ):uz:=!(t6.tO.occurrences letS (sgn c) 0 letS.fg 1).vb
def isNm (z:tO):uz:=decide (1<=z.fg/\z.fg<=12)&&z.cps.uP.all isL
def VC:Dh neg (.t (.str (sgn c))) (.t (.str letS)) fs=.ok (.t (.l (if neg then !isL c else isL c))) fs:=rfl
def MW:∀(cs:tH tQ)(x:tL Sl)(ar:tH T),vC x->(∀c∈cs,fe [vl (.str (sgn c))]=.ok (.t (h c)) [vl (.str (sgn c))])->ar.fg+cs.fg<=1000->∃y,Bq (wd 0) CG fe (cs.tJ λc=>T.str (sgn c)) [x] ar=p' (ar++cs.tJ h,[y])
 | [],x,ar,_,_,_=>{x,by simp[Bq]}
 |c::cs,x,ar,fx,he,hl=>by rw[om]at hl;let{y,e}:=MW cs (vl (.str (sgn c))) (ar++[h c]) Al (λc m=>he c (n4 _ m)) (by rw[n9];simp;lia);refine{y,?_};rw[nV,IT (by unfold wd;exact Bp rfl fx) (he c (by simp)) (by show _<1000000;lia),e];simp
def len_str(h:fs[i]?=p' (vl (.str z)))(hz:z.fg<=3000):Ad AI (Ab (Aa i) Ae) fs=.ok (.t (.tS z.fg)) fs:=by have e:Lh [.t (.str z)] fs=.ok (.t (.tS z.fg)) fs:=tW (show z.fg<=1000000 by lia);refine DV (A1 (Ah h) rfl) ?_;show(match orC Lh TK [.t (.str z)] fs with|o=>o)=_;unfold orC;rw[e]
def between{n:tQ}{m:tN}(h:f fs=.ok (.t (.tS n)) fs):Ep (wk (chain gLe gLe (gc (.tS 1)) f (gc (.tS m)))) fs=.ok (!decide (1<=n/\(n:tN)<=m)) fs:=by
 have e1:gLe (.t (.tS 1)) (.t (.tS n)) fs=.ok (.t (.l (decide ((1:tN)<=n)))) fs:=rfl;have e2:gLe (.t (.tS n)) (.t (.tS m)) fs=.ok (.t (.l (decide ((n:tN)<=m)))) fs:=rfl;by_cases h1:(1:tN)<=n
 .rw[oV h1]at e1;simp![Ep,wk,chain,gc,Out.bnd,Out.u9,h,e1,e2];congr 2;rw[decide_eq_decide];constructor
  .exact λz=>{by lia,z}
  .exact λz=>z.2
 .rw[oK h1]at e1;simp![Ep,wk,chain,gc,Out.bnd,Out.u9,h,e1];rw[oK (by lia)]
def S8{z:tO}(hz:z.fg<=3000):Bf [vl (.str z)]=.ok (.t (.l (isNm z))) [vl (.str z)]:=by
 have hc:=between (m:=12) (len_str (i:=0) (fs:=[vl (.str z)]) rfl hz);refine(CJ (n:=0) (g:=DJ) (args:=[vl (.str z)]) (τ:=[vl (.str z)]) ?_).trans rfl;by_cases h:1<=z.fg/\(z.fg:tN)<=12
 .rw[oV h]at hc;refine sq (Iz hc rfl) ?_;let{y,e2}:=MW (fe:=Ag (Dh false) (fz (Aa 0)) (gc (.str letS))) (h:=λc=>.l (isL c)) z.cps.uP none [] Ao (λc m=>Ar (AS (Ah rfl)) Be VC) (by rw[pX];show 0+z.fg<=1000;lia);have e3:=IS (wP:=[none]) (fi:=itU (fz (Aa 0))) (fs:=[vl (.str z)]) (ts:=signs z) rfl {by rw[show Cd [vl (.str z)] _=[]from rfl];exact oY,by rfl} e2 (AQ rfl);rw[qp,show z.cps.uP.tJ (λc=>T.l (isL c))=(z.cps.uP.tJ isL).tJ T.l by rw[oj];rfl]at e3;refine A8 (DV (A1 e3 rfl) ?_);simp![ZL,BD,oM,EH,okT];congr 3;unfold isNm;rw[oV (show 1<=z.fg/\z.fg<=12 by lia),tH.all_map];rfl
 .rw[oK h]at hc;have:isNm z=false:=by unfold isNm;rw[oK (show ¬(1<=z.fg/\z.fg<=12) by lia)];rfl
  rw[this];exact CV (S9 hc (A8 Be))
section
variable{fa fb f:tm}{ga:tq}{fs ae aq bR τ:FS}{c m k:Str}{g:tj}{ct:tw}{s s' h:FS->SO}{i n:Nat}{gt:tz}{d:List T->tm}{Fn:tm}{a0 a1 a2 a3 a4 a5 a6 t u:T}{C:Addr}{Q:SO->Prop}{ts:List T}{ks:List Key}{r:Rv}{b:Bool}
def q_X(e:s fs=.wy c ae)(k:vL Q (.wy c ae)):vL Q (s fs):=by unfold vL;rwa[e]
def q_sX(e:s fs=.wy c ae)(k:vL Q (.wy c ae)):vL Q (Ak s h fs):=q_X (LX e) k
def isN_n:Od false (.t .vG) (.t .vG) fs=.ok (.t (.l true)) fs:=rfl
section
variable{α:Type}{p:α->T}{ok:α->Option Str}{I:FS->Prop}{E:Str->SO->Prop}
end
end
def q_i(h:Q y):vL Q y:=h
def q_o(h:vL Q y):Q y:=h
section
variable{Q:SO->Prop}{fs:FS}{c:Str}{gs:List (tm)}{h:FS->SO}
end
section
variable{C:Addr}{K:Kd}{hs:List T}{mt:Str}{p:Nat}{Fn fo:tm}{fa:tq}{rs:List Rv}{fs τ:FS}
def PU{r:Out Rv}(ho:fo fs=.ok (.t (Am C K hs)) fs)(hi:Cw C mt fs (.t (Am C K hs))=true)(ha:fa fs=.ok rs fs)(e:Af p Fn (.t (Am C K hs)::rs) fs=r):Bd C mt p Fn fo fa fs=r:=by unfold Bd;rw[ho];show(if Cw C mt fs (.t (Am C K hs))=true then _ else _)=_;rw[tW hi,ha];exact e
def Ra{o:FO}(hp:rs.fg=p)(hn:Cd fs (rs.tJ AF)=[])(hf:Fn (Bu fs (rs.tJ AF))=.ok (.nw o) τ):Af p Fn rs fs=.ok (.nw o) fs:=by have hb:B3 (rs.tJ AF) τ fs=p' fs:=AQ hn;unfold Af;rw[tW hp];unfold D4;rw[tW (by rw[hn];exact oY),hf];simp![hb]
def MZ{t:T}(hp:rs.fg=p)(hn:Cd fs (rs.tJ AF)=[])(hf:Fn (Bu fs (rs.tJ AF))=.ok (.t t) τ):Af p Fn rs fs=.ok (.t t) fs:=by unfold Af;rw[tW hp];unfold D4;rw[tW (by rw[hn];exact oY),hf];simp![(AQ hn)]
def N2{c:tO}(hp:rs.fg=p)(hn:Cd fs (rs.tJ AF)=[])(hf:Fn (Bu fs (rs.tJ AF))=.wy c τ):Af p Fn rs fs=.wy c fs:=by unfold Af;rw[tW hp];unfold D4;rw[tW (by rw[hn];exact oY),hf];simp![(AQ hn)]
def Ms{o:FO}(ho:fo fs=.ok (.t (Am C K hs)) fs)(hi:Cw C mt fs (.t (Am C K hs))=true)(hf:Fn [vl (Am C K hs)]=.ok (.nw o) τ):Dg C mt 1 Fn fo Ae fs=.ok (.nw o) fs:=by have hn:Cd fs ([Rv.t (Am C K hs)].tJ AF)=[]:=rfl;have hb:B3 ([Rv.t (Am C K hs)].tJ AF) τ fs=p' fs:=AQ hn;unfold Dg;rw[ho];show(if Cw C mt fs (.t (Am C K hs))=true then _ else _)=_;rw[tW hi];show FL.Lq 1 Fn [.t (Am C K hs)] fs=_;unfold FL.Lq;rw[tW (show [Rv.t (Am C K hs)].fg=1 from rfl)];unfold FL.Q9;rw[tW (by rw[hn];exact oY)];rw[show Fn (Bu fs ([Rv.t (Am C K hs)].tJ AF))=.ok (.nw o) τ from hf];simp![hb]
end
inductive Th where
 |mk (m:tO) (ps:tH Th)
def Th.ps :Th->tH Th
 |.mk _ ps=>ps
mutual
def Th.t:Th->T
 |.mk m ps=>.tup [.str m,.tup (Th.ts ps)]
def Th.ts:List Th->List T
 | []=>[]
 |h::hs=>h.t::Th.ts hs
end
mutual
def Th.sz:Th->Nat
 |.mk _ ps=>1+Th.szs ps
def Th.szs:List Th->Nat
 | []=>0
 |h::hs=>h.sz+Th.szs hs
end
def Th.By:∀hs:tH Th,Th.ts hs=hs.tJ Th.t
 | []=>by simp[Th.ts]
 |h::hs=>by simp[Th.ts,Th.By hs]
def Th.t_eq(h:Th):∃m,h.t=.uj [.str m,.uj (h.ps.tJ Th.t)]:=by cases h with|mk m ps=>exact{m,by simp[Th.t,Th.By,Th.ps]}
def OD:∀a b:tH Th,Th.szs (a++b)=Th.szs a+Th.szs b
 | [],b=>by simp[Th.szs]
 |h::a,b=>by simp[Th.szs,OD a b];lia
def sz_ps(h:Th):h.sz=1+Th.szs h.ps:=by cases h;simp[Th.sz,Th.ps]
def HR:∀L:tH Th,Th.szs L=L.fg+Th.szs (L.uH Th.ps)
 | []=>by simp
 |h::L=>by
  rw[oO,OD,om,Th.szs,sz_ps h,HR L]
  lia
def WC(L:tH Th):L.fg<=Th.szs L:=by rw[HR];lia
mutual
def Th.dp:Th->Nat
 |.mk _ ps=>1+Th.dps ps
def Th.dps:List Th->Nat
 | []=>0
 |h::hs=>max h.dp (Th.dps hs)
end
def QS:∀a b:tH Th,Th.dps (a++b)=max (Th.dps a) (Th.dps b)
 | [],b=>by simp[Th.dps]
 |h::a,b=>by simp[Th.dps,QS a b]
def NY(h:Th):h.dp=1+Th.dps h.ps:=by cases h;simp[Th.dp,Th.ps]
def MS:∀(h:Th)(L:tH Th),Th.dps (h::L)=1+Th.dps ((h::L).uH Th.ps)
 |h,[]=>by simp[Th.dps,NY h]
 |h,g::L=>by
  rw[oO,QS,Th.dps,MS g L,NY h]
  lia
def Jj{n:tQ}(h:c fs=.ok false fs):BY c b (n+1) fs=.nx fs:=by rw[BY,h];rfl
def ext_t{i:tQ}(h0:fs[i]?=p' (p' (.uI (.tY ts))))(h:f fs=.ok (.t (.uj us)) fs)(hl:ts.fg+us.fg<=big)(e:fs.wJ i (p' (.uI (.tY (ts++us))))=ak):Au (AA Ec (Aa i) (Ab f Ae)) fs=.nx ak:=by
 have h1:=BE h0;have h2:=ZG h0;have h3:BD fs (.x i)=p' ts:=by simp![BD,h2]
 have h4:Ab f Ae fs=.ok [.t (.uj us)] fs:=A1 h rfl;have h5:QB (.x i) [.t (.uj us)] fs=.ok (.t .vG) ak:=by
  simp![QB,h2];rw[tW hl];have:FL.vA fs i (.tY (ts++us))=ak:=by unfold FL.vA;rw[h0];exact e
  rw[this]
 have iB:Ec (.x i) [.t (.uj us)] fs=.ok (.t .vG) ak:=by exact h5
 have h6:AA Ec (Aa i) (Ab f Ae) fs=.ok (.t .vG) ak:=by unfold AA;rw[h1];show(if(BD fs (.x i)).u8=true then _ else _)=_;rw[h3,tW (show(p' ts).u8=true from rfl),h4];exact iB
 unfold Au;rw[h6];rfl
def Jav{cs:tH tN}(h:f fs=.ok (.t (.tY (cs.tJ T.tS))) ae):Ad Oc (Ab f Ae) fs=.ok (.t (.tS cs.sum)) ae:=by refine Bx (AV h A5) ?_;show(match(BD ae (.t (.tY (cs.tJ T.tS)))).u9 Fl with|p' ns=>okT (.tS ns.sum) ae|none=>.ur)=_;rw[show BD ae (.t (.tY (cs.tJ T.tS)))=p' (cs.tJ T.tS)from rfl,oM,DW];rfl
abbrev RF:tH tO:=["program","calls_left","waiting","worths"]
def Gi:(("calls_left":tO) == "program")=false/\(("waiting":tO) == "program")=false/\(("waiting":tO) == "calls_left")=false/\(("worths":tO) == "program")=false/\(("worths":tO) == "calls_left")=false/\(("worths":tO) == "waiting")=false:=by decide +kernel
section
variable{x0 x1 x2 x3 y:FO}
def Jab:A4 RF [x0,x1,x2,x3] "program"=p' x0:=by simp[A4]
def Wn:A4 RF [x0,x1,x2,x3] "calls_left"=p' x1:=by simp[A4,Gi.1]
def Ga:A4 RF [x0,x1,x2,x3] "waiting"=p' x2:=by simp[A4,Gi.2.1,Gi.2.2.1]
def FF:A4 RF [x0,x1,x2,x3] "worths"=p' x3:=by simp[A4,Gi.2.2.2.1,Gi.2.2.2.2.1,Gi.2.2.2.2.2]
def U2:B0 RF [x0,x1,x2,x3] "waiting" y=[x0,x1,y,x3]:=by simp[B0,Gi.2.1,Gi.2.2.1]
def Sb:B0 RF [x0,x1,x2,x3] "worths" y=[x0,x1,x2,y]:=by simp[B0,Gi.2.2.2.1,Gi.2.2.2.2.1,Gi.2.2.2.2.2]
def Xm:Dp RF [x0,.vm t,x2,x3] "calls_left" y=p' (RF,[x0,y,x2,x3]):=by
 have h:("program":tO)≠"calls_left":=by decide +kernel
 simp[Dp,h]
end
section
variable{i:Nat}{fs ae ak:FS}{C:Addr}{gs eX:List Str}{os gJ:List FO}{f:Str}{p:Addr}{ts us:List T}{t:T}{fe:tm}{c:Str}
def Ry(h0:fs[i]?=p' (p' (.u7 (.vE C gs os))))(hv:A4 gs os f=p' (.la p us))(he:fe fs=.ok (.t t) ae)(h1:ae[i]?=p' (p' (.u7 (.vE C eX gJ))))(lJ:A4 eX gJ f=p' (.la p ts))(hl:ts.fg<100000)
  (e:ae.wJ i (p' (.u7 (.vE C eX (B0 eX gJ f (.la p (ts++[t]))))))=ak):Au (C7 C f i fe) fs=.nx ak:=by
 refine Ln (r:=.t .vG) ?_;unfold C7;rw[Hx h0];simp![hv,he];show(match Rv.t t,FL.Ax ae i with|.t t,p' (.vE C2 fT h8)=>_|_,_=>_)=_;rw[Hx h1];simp![lJ,if_true];rw[tW {trivial,(show ts.fg<1000000 by lia)}];rw[show FL.vA ae i (.vE C eX (B0 eX gJ f (.la p (ts++[t]))))=ak by unfold FL.vA;rw[h1];exact e]
def Zv(h0:fs[i]?=p' (p' (.u7 (.vE C gs os))))(hv:A4 gs os f=p' (.la p us))(he:fe fs=.wy c ae):Au (C7 C f i fe) fs=.wy c ae:=by refine J4 ?_;unfold C7;rw[Hx h0];simp![hv,he];rfl
def UW(h0:fs[i]?=p' (p' (.u7 (.vE C gs os))))(hv:A4 gs os f=p' (.la p ts)):Nv C f i fs=.ok (!ts.vb) fs:=by unfold Nv;rw[Hx h0];simp![hv,if_true]
def fld_b(h0:fs[i]?=p' (p' (.u7 (.vE C gs os))))(hv:A4 gs os f=p' (.vm t)):CM C f (Aa i) fs=.ok (.t t) fs:=by unfold CM;rw[Eu h0];show Yu C f (.x i) fs=_;simp![Yu,Hx h0,hv];rfl
def tg{j:tQ}(e:fs[j]?=p' x)(h:vC x):wd j t fs=p' (fs.wJ j (vl t)):=by exact Bp e h
end
def wt (h:Th):T:=.uj [h.t,.tS (h.sz:tN),.tS (h.dp:tN)]
def Pk{fs:FS}{j:tQ}:∀(ts:tH T)(k:tQ),FL.va fs j (ts.tJ Ini.vm) k=none
 | [],_=>rfl
 |t::ts,k=>by exact Pk ts (k+1)
def Rh{fs:FS}{is:tH Ini}{τ:FS}:∀(gs:FS)(j:tQ),(∀k,j<=k->FL.va fs k is 0=none)->CF fs is τ j gs=p' gs
 | [],_,_=>rfl
 |s::gs,j,h=>by simp![CF,DZ,h j (oh _),Rh gs (j+1) λk hk=>h k (by lia)]
section
variable{o1 o2:FO}{rest τ:FS}{ts:List T}
def Rl:B3 (.vH 0::ts.tJ Ini.vm) (p' (.u7 o2)::τ) (p' (.u7 o1)::uu)=p' (p' (.u7 o2)::uu):=by
 have hl:AX (p' (.u7 o1)::uu) (.vH 0)=p' 0:=rfl;have h0:FL.va (p' (.u7 o1)::uu) 0 (.vH 0::ts.tJ Ini.vm) 0=p' 0:=by simp[FL.va,hl]
 have h1:∀k,1<=k->FL.va (p' (.u7 o1)::uu) k (.vH 0::ts.tJ Ini.vm) 0=none:=λk hk=>by
  have:¬(0:tQ)=k:=by lia
  simp[FL.va,hl,this,Pk]
 unfold B3;rw[CF,Rh uu 1 h1];rfl
def Jb5{fs:FS}:∀ts:tH T,Bu fs (ts.tJ Ini.vm)=ts.tJ vl
 | []=>rfl
 |t::ts=>by have:=Jb5 (fs:=fs) ts;unfold Bu at this ⊢;simp![nV,Ob,this]
def Vx{fs:FS}:∀ts:tH T,Cd fs (ts.tJ Ini.vm)=[]
 | []=>rfl
 |t::ts=>by have:=Vx (fs:=fs) ts;unfold Cd at this ⊢;simp![nV,pN,AX,this]
def ini_t(ts:tH T):(ts.tJ Rv.t).tJ AF=ts.tJ Ini.vm:=by rw[oj];rfl
end
section
variable{C:Addr}{m:Str}{p:Nat}{Fn:tm}{fa:tq}{fs aA τ:FS}{gs:List Str}{os:List FO}{o1 o2:FO}{ts:List T}{t:T}{c:Str}{rest:FS}
def XZ(hi:gs.any (·==m)=false)(ha:fa (p' (.u7 (.vE C gs os))::uu)=.ok (ts.tJ Rv.t) (p' (.u7 o1)::aA))(hp:ts.fg+1=p){r x:Out Rv}
  (he:(match x with|.ok (.t t) τ=>(match B3 (.vH 0::ts.tJ Ini.vm) τ (p' (.u7 o1)::aA)with|p' ak=>.ok (.t t) ak|none=>.ur)|.ok (.nw o) τ=>(match B3 (.vH 0::ts.tJ Ini.vm) τ (p' (.u7 o1)::aA)with|p' ak=>.ok (.nw o) ak|none=>.ur)|.wy c τ=>(match B3 (.vH 0::ts.tJ Ini.vm) τ (p' (.u7 o1)::aA)with|p' ak=>.wy c ak|none=>.ur)|_=>.ur)=r) (hf:Fn (p' (.u7 o1)::ts.tJ vl)=x):Bd C m p Fn (Aa 0) fa (p' (.u7 (.vE C gs os))::uu)=r:=by
 unfold Bd;show(if Cw C m (p' (.u7 (.vE C gs os))::uu) (.x 0)=true then _ else _)=_;have kW:Cw C m (p' (.u7 (.vE C gs os))::uu) (.x 0)=true:=by simp[Cw,Hx (i:=0) (fs:=p' (.u7 (.vE C gs os))::uu) rfl,hi]
 rw[tW kW,ha];show Af p Fn (.x 0::ts.tJ Rv.t) (p' (.u7 o1)::aA)=_;unfold Af;rw[tW (by simpa using hp)];unfold D4;have ei:(Rv.x 0::ts.tJ Rv.t).tJ AF=.vH 0::ts.tJ Ini.vm:=by rw[nV,ini_t];rfl
 have en:Cd (p' (.u7 o1)::aA) (.vH 0::ts.tJ Ini.vm)=[0]:=by have:=Vx (fs:=p' (.u7 o1)::aA) ts;unfold Cd at this ⊢;rw[pN,this];rfl
 have es:Bu (p' (.u7 o1)::aA) (.vH 0::ts.tJ Ini.vm)=p' (.u7 o1)::ts.tJ vl:=by have:=Jb5 (fs:=p' (.u7 o1)::aA) ts;unfold Bu at this ⊢;rw[nV,this];rfl
 rw[ei,en,tW (by simp),es,hf];exact he
def PV(hi:gs.any (·==m)=false)(ha:fa (p' (.u7 (.vE C gs os))::uu)=.ok (ts.tJ Rv.t) (p' (.u7 o1)::aA))(hp:ts.fg+1=p)
  (hf:Fn (p' (.u7 o1)::ts.tJ vl)=.ok (.t t) (p' (.u7 o2)::τ)):Bd C m p Fn (Aa 0) fa (p' (.u7 (.vE C gs os))::uu)=.ok (.t t) (p' (.u7 o2)::aA) :=
 XZ hi ha hp (by simp![Rl]) hf
def S1{o:FO}(hi:gs.any (·==m)=false)(ha:fa (p' (.u7 (.vE C gs os))::uu)=.ok (ts.tJ Rv.t) (p' (.u7 o1)::aA))(hp:ts.fg+1=p)
  (hf:Fn (p' (.u7 o1)::ts.tJ vl)=.ok (.nw o) (p' (.u7 o2)::τ)):Bd C m p Fn (Aa 0) fa (p' (.u7 (.vE C gs os))::uu)=.ok (.nw o) (p' (.u7 o2)::aA) :=
 XZ hi ha hp (by simp![Rl]) hf
def PX(hi:gs.any (·==m)=false)(ha:fa (p' (.u7 (.vE C gs os))::uu)=.ok (ts.tJ Rv.t) (p' (.u7 o1)::aA))(hp:ts.fg+1=p)
  (hf:Fn (p' (.u7 o1)::ts.tJ vl)=.wy c (p' (.u7 o2)::τ)):Bd C m p Fn (Aa 0) fa (p' (.u7 (.vE C gs os))::uu)=.wy c (p' (.u7 o2)::aA) :=
 XZ hi ha hp (by simp![Rl]) hf
end
def ZC (cR:tV)(P:T)(a b:tV)(n:tN)(w W:tH T):FO:=.vE cR RF [.vm P,.vm (.tS n),.la a w,.la b W]
def wi (e ρ:T)(d:tN)(r:uz):T:=.uj [e,ρ,.tS d,.l r]
section
variable{cP cR:Addr}{P:T}{a b:Addr}{n:Int}{w W:List T}
abbrev bO(cR:tV)(P:T)(a b:tV)(n:tN)(w W:tH T):tL Sl:=p' (.u7 (ZC cR P a b n w W))
end
def OB:∀hs:tH Th,(hs.tJ λh=>(h.sz:tN)).sum=(Th.szs hs:tN)
 | []=>rfl
 |h::hs=>by
  rw[nV,qC,OB hs,Th.szs]
  lia
def fold_max:∀(hs:tH Th)(k:tQ),(hs.tJ λh=>(h.dp:tN)).foldl mxF (k:tN)=((max k (Th.dps hs):tQ):tN)
 | [],k=>by simp[Th.dps]
 |h::hs,k=>by
  rw[nV,tH.foldl_cons];have e:mxF (k:tN) (h.dp:tN)=((max k h.dp:tQ):tN):=by unfold mxF;split;(next h=>rw[tQ.max_eq_right (tN.ofNat_le.mp (tN.le_of_lt h))]);(next h=>rw[tQ.max_eq_left (tN.ofNat_le.mp (tN.not_lt.mp h))])
  rw[e,fold_max hs,Th.dps,tQ.max_assoc]
def Y4(hs:tH Th):mxD 0 (hs.tJ λh=>(h.dp:tN))=(Th.dps hs:tN):=by cases hs with|vO=>rfl|ux h hs =>show(hs.tJ λh=>(h.dp:tN)).foldl mxF (h.dp:tN)=_;rw[fold_max,Th.dps]
def ix{i:tQ}(h:f fs=.ok (.t (.uj ts)) fs)(e:ts[i]?=p' t):Ag Aw f (gc (.tS (i:tN))) fs=.ok (.t t) fs:=by refine Ar h Be ?_;simp![Aw,orG,gIx,exL,KU,BD,(A0 e)];rfl
def fits (h:Th):uz:=decide (h.sz<=300/\h.dp<=40)
section
variable{cP cR:Addr}{P:T}{a b:Addr}{n:Int}{w W:List T}
def app_w{e:tm}{t:T}{uu:FS}(he:e (bO cR P a b n w W::uu)=.ok (.t t) (bO cR P a b n w W::uu))(hl:w.fg<100000):Au (C7 cR "waiting" 0 e) (bO cR P a b n w W::uu)=.nx (bO cR P a b n (w++[t]) W::uu) :=
 Ry (C:=cR) (gs:=RF) (os:=[.vm P,.vm (.tS n),.la a w,.la b W]) (eX:=RF) (gJ:=[.vm P,.vm (.tS n),.la a w,.la b W]) (p:=a) (ts:=w) (us:=w) rfl Ga he rfl Ga hl (by rw[U2];rfl)
def disp4{f1 f2 f3:tm}{r:uz}{e ρ:T}{d:tN}{fs:FS}(h1:f1 fs=.ok (.t e) fs)(h2:f2 fs=.ok (.t ρ) fs)(h3:f3 fs=.ok (.t (.tS d)) fs):An Az (Ab f1 (Ab f2 (Ab f3 (Ab (gc (.l r)) Ae)))) fs=.ok (.t (wi e ρ d r)) fs :=
 IP (A1 h1 (A1 h2 (A1 h3 (A1 Be A5)))) rfl (show 4<=big by decide) rfl
end
def Ek (xs:tH tO)(hs:tH Th):T:=.v (xs.tJ λx=>(.uK x:vc)) (hs.tJ wt)
section
variable{cP cR:Addr}{P:T}{a b:Addr}{n:Int}{w W:List T}{f m:Str}{ps rest:List Th}{d:Int}{xs:List Str}{body:T}
def WD{x:FS}:OE cR "calls_left" 0 1 (bO cR P a b n w W::x)=.nx (bO cR P a b (n-1) w W::x):=by unfold OE;rw[Hx rfl];simp![ZC,Xm];rfl
end
inductive Ex where
 |nm (x:tO)|mk (m:tO) (as:tH Ex)|cl (f:tO) (as:tH Ex)
mutual
def Ex.t:Ex->T
 |.nm x=>.tup [.str "name",.str x]
 |.mk m as=>.tup [.str "make",.str m,.tup (Ex.ts as)]
 |.cl f as=>.tup [.str "call",.str f,.tup (Ex.ts as)]
def Ex.ts:List Ex->List T
 | []=>[]
 |e::es=>e.t::Ex.ts es
end
def Ex.By:∀es:tH Ex,Ex.ts es=es.tJ Ex.t
 | []=>by simp[Ex.ts]
 |e::es=>by simp[Ex.ts,Ex.By es]
abbrev wC(cR:tV):tw:=Nv cR "waiting" 0
abbrev tkF(cR:tV):tm:=fz (Bd cR "taken" 2 (Cj cR) (Aa 0) (Ac (Ad AI (Ab (Ag Aw (Aa 3) (gc (.tS 2))) Ae)) Ae))
abbrev wB(cP cR:tV):FS->SO:=(Ak (G8 (fz (Ie cR "waiting" 0)) (AM 4 (Aj (wd 3) (Aj (wd 4) (Aj (wd 5) (Aj (wd 6) AL))))))
  (wQ (wk (Ag (gEq false) (Ag Aw (Aa 3) (gc (.tS 0))) (gc (.str ("name":tO))))) (Au (C7 cR "worths" 0 (Ag Aw (Aa 4) (Ag Aw (Aa 3) (gc (.tS 1)))))) (wQ (Ep (Ge (Aa 6))) (Au (Bd cR "await_arguments" 4 (A7 cR) (Aa 0) (Ac (fz (Aa 3)) (Ac (fz (Aa 4)) (Ac (fz (Aa 5)) Ae))))) (wQ (wk (Ag (gEq false) (Ag Aw (Aa 3) (gc (.tS 0))) (gc (.str ("make":tO))))) (Au (C7 cR "worths" 0 (fz (Ad (Af 2 J3) (Ac (Ag Aw (Aa 3) (gc (.tS 1))) (Ac (tkF cR) Ae)))))) (Au (Bd cR "await_body" 4 (Bl cP cR) (Aa 0) (Ac (Ag Aw (Aa 3) (gc (.tS 1))) (Ac (tkF cR) (Ac (fz (Aa 5)) Ae)))))))))
def OY:RF.any (·==("await_arguments":tO))=false/\RF.any (·==("taken":tO))=false/\RF.any (·==("await_body":tO))=false/\RF.any (·==("worth":tO))=false:=by decide +kernel
def HG:("make":tO)≠"name"/\("call":tO)≠"name"/\("call":tO)≠"make":=by decide +kernel
section
variable{cP cR:Addr}{P:T}{a b:Addr}{n:Int}{w W:List T}{x1 x2 y3 y4 y5 y6:Option Sl}
abbrev fr(cR:tV)(P:T)(a b:tV)(x1 x2:tL Sl)(n:tN)(w W:tH T)(y3 y4 y5 y6:tL Sl):FS:=[bO cR P a b n w W,x1,x2,y3,y4,y5,y6]
section
variable{f m:Str}{as:List T}{hs ps rest:List Th}{ρ:T}{d:Int}
end
end
def Rg{i k:tQ}(hp:∀j,FL.va fs j is 0=if j=i then p' k else none):∀(gs:FS)(j:tQ),i<j->CF fs is τ j gs=p' gs
 | [],_,_=>by simp[CF]
 |s::gs,j,h=>by
  have b1:FL.DZ fs is τ j s=p' s:=by unfold FL.DZ;rw[hp j,ug (by lia)]
  simp![CF,b1,Rg hp gs (j+1) (by lia)]
def Rk{i k:tQ}(hp:∀j,FL.va fs j is 0=if j=i then p' k else none)(ht:τ[k]?=p' (p' (.u7 o))):∀(gs:FS)(j m:tQ),j+m=i->gs[m]?=p' (p' s)->CF fs is τ j gs=p' (gs.wJ m (p' (s.put o)))
 | [],_,_,_,h=>by simp at h
 |u::gs,j,0,e,h=>by
  have e:j=i:=e;subst e;have h:=by simpa using h
  subst h;have b1:FL.DZ fs is τ j (p' s)=p' (p' (s.put o)):=by unfold FL.DZ;rw[hp j,tW rfl];simp![ht]
  simp![CF,b1,Rg hp gs (j+1) (by lia),tH.wJ]
 |u::gs,j,m+1,e,h=>by
  have b1:FL.DZ fs is τ j u=p' u:=by unfold FL.DZ;rw[hp j,ug (by lia)]
  simp![CF,b1,Rk hp ht gs (j+1) m (by lia) (by simpa using h),tH.wJ]
def Pl{i j:tQ}{bs:tH T}(e:AX fs (.vH i)=p' i):∀(as:tH T)(n:tQ),FL.va fs j (as.tJ Ini.vm++.vH i::bs.tJ Ini.vm) n=if j=i then p' (n+as.fg)else none
 | [],n=>by
  have nb:∀(bs:tH T)(n:tQ),FL.va fs j (bs.tJ Ini.vm) n=none:=λbs=>by
   induction bs with
   |vO=>exact λ_=>rfl
   |ux b bs ih=>exact λn=>by simp![nV,FL.va,show AX fs (.vm b)=none from rfl,ih];simp
  simp![pM,qp,FL.va,e,nb,tL.p'.injEq,tH.length_nil,tQ.add_zero,eq_comm]
 |a::as,n=>by
  simp![nV,qA,FL.va,show AX fs (.vm a)=none from rfl,Pl e as (n+1),om];simp![reduceCtorEq,if_false];congr 2
  lia
section
variable{p i:Nat}{Fn:tm}{ga:tq}{fs ae τ:FS}{t a1 a2 a3 a4 a5 a6 a7:T}{o o':FO}{s:Sl}
def Om{as bs:tH T}(h0:ga fs=.ok (as.tJ .t++.x i::bs.tJ .t) ae)(hp:as.fg+(bs.fg+1)=p)(hi:ae[i]?=p' (p' s))(hs:s=.uI o\/s=.u7 o)(hf:Fn (as.tJ vl++p' (.u7 o)::bs.tJ vl)=.ok (.t t) τ)(ht:τ[as.fg]?=p' (p' (.u7 o'))):Ad (Af p Fn) ga fs=.ok (.t t) (ae.wJ i (p' (s.put o'))):=by
 have e:AX ae (.vH i)=p' i:=by rcases hs with rfl|rfl<;>(simp![FL.AX,FL.Ax,hi];rfl)
 have em:(as.tJ Rv.t++.x i::bs.tJ Rv.t).tJ AF=as.tJ Ini.vm++.vH i::bs.tJ Ini.vm:=by rw[nW,nV,oj,oj];rfl
 have nv:∀as:tH T,(as.tJ Ini.vm).filterMap (AX ae)=[]:=λas=>by induction as with|vO=>rfl|ux a as ih=>rw[nV,tH.filterMap_cons_none (by rfl),ih]
 have jN:∀as:tH T,(as.tJ Ini.vm).tJ (Ob ae)=as.tJ vl:=λas=>by rw[oj];rfl
 refine DU h0 (by simpa using hp) ?_ (τ:=τ) ?_ ?_
 .rw[em];unfold FL.Cd;rw[tH.filterMap_append,tH.filterMap_cons_some e,nv,nv];simp
 .rw[em];unfold FL.Bu;rwa[nW,nV,jN,jN,show Ob ae (.vH i)=p' (.u7 o) by rcases hs with rfl|rfl<;>simp![FL.Ob,hi]]
 .rw[em];exact Rk (λj=>by rw[Pl e as 0,tQ.zero_add]) ht ae 0 i (tQ.zero_add _) hi
def x_e7(h0:ga fs=.ok [.t a1,.t a2,.t a3,.t a4,.t a5,.x i,.t a6] ae)(hi:ae[i]?=p' (p' s))(hs:s=.uI o\/s=.u7 o)(hf:Fn [vl a1,vl a2,vl a3,vl a4,vl a5,p' (.u7 o),vl a6]=.ok (.t t) τ)(ht:τ[5]?=p' (p' (.u7 o'))):Ad (Af 7 Fn) ga fs=.ok (.t t) (ae.wJ i (p' (s.put o'))):=Om (as:=[a1,a2,a3,a4,a5]) (bs:=[a6]) h0 rfl hi hs hf ht
end
def ix_rf{i:tQ}{j:tN}(h:Ax fs i=p' (.tY ts))(e:atI ts j=p' t):Aw (.x i) (.t (.tS j)) fs=.ok (.t t) fs:=by unfold Aw orG gIx;simp![BD,h,e];rfl
def Wf{ns:tH tN}{k:tN}(ht:IsI t ns)(h:0<=k/\k<ns.fg):Aw (.t t) (.t (.tS k)) fs=.ok (.t (.tS (ns.uZ k.uw 0))) fs:=gIxU_I ht h.1 h.2
def ZY{i j:tN}(h:ga fs=.ok [.t (.tS i),.t (.tS j)] ae):Ad ET ga fs=.ok (.t (.tS (if j<i then j else i))) ae:=Bx h rfl
def LB{α:Type}{xs:tH α}{b:α->tN}(h:f fs=.ok (.t (.tY us)) ae)(e:us=xs.tJ λa=>T.tS (b a)):Ad Oc (Ab f Ae) fs=.ok (.t (.tS (xs.tJ b).sum)) ae:=by subst e;refine Bx (EI h uQ.intro A5) ?_;have:=DW (xs.tJ b);rw[oj]at this;simp![Oc,BD,oM];rw[show(λa=>T.tS (b a))=T.tS∘b from rfl,this];rfl
def Ol{i:tQ}(h:fs[i]?=p' (p' (.uI (.tY ts)))):ZD (Aa i) fs=.ok (.nw (.tY ts.vn)) fs:=by unfold ZD;rw[BE h,B8 (x:=.x i) uQ.intro,LW h]
def O1{a j b:tN}(h:ga fs=.ok [.t (.tS a),.t (.tS j),.t (.tS b)] ae)(a0:0<=a)(a1:a<=1000)(j0:0<=j)(j1:j<=63)(b0:1<=b)(b1:b<=1000):∃n:tQ,n<=63/\(∀k<n,a+k*b<j)/\Yd ga fs=.ok ((tH.vq n).tJ λk=>T.tS (a+(k:tQ)*b)) ae :=
 {_,Jx (by lia) a0 j1,λk hk=>Sj (by lia) hk,by unfold Yd;rw[h];exact tW {by lia,by lia,OI a0 a1 j0 j1 b0 b1,L3 (by lia)} }
def q_ex{β:Type}{A:β->Prop}{r:β->Rv}{n:tQ}(k:vL (Rr λx=>∃b,x=r b/\A b) (s (args++tH.uN n none))):∃b,A b/\∃τ,A2 n s args=.ok (r b) τ:=let{_,τ,e,b,h,a}:=WT k;{b,a,τ,h▸e}
def mul_M{c:tN}:BH (.t (.tS (c*c+c+1))) (.t (.tS 982451653)) fs=.ok (.t (.tS (Nm.M c))) fs:=Qx {ZB,ZB}
def FQ{n k:tQ}{P R:tH tQ}(e:P++k::R=tH.vq n):k=P.fg/\k<n:=by
 have h:=uC (·[P.fg]?) e;have l:=uC tH.fg e;simp at h l;rw[pq (by lia)]at h;injection h with h
 lia
def JaU{n:tQ}(k:vL (Ro (·=o)) (s (args++tH.uN n none))):∃τ,A2 n s args=.ok (.nw o) τ:=let{_,τ,e,h}:=L6 k;{τ,h▸e}
def JbV{g:tQ->tQ}{js:tH tQ}(h:f fs=.ok (.t (.tY us)) fs)(e:us=js.tJ λj=>T.str {#[g j]})(hl:js.fg<=1000):S0 Li (gc (.str ("":tO))) (Ab f Ae) fs=.ok (.t (.str (Txt.join ({#[]}:tO) (js.tJ λj=>({#[g j]}:tO))))) fs:=by subst e;show((Ab f Ae fs).u9 _)=_;rw[A1 h (show Ae fs=.ok [] fs from rfl)];have:=Yb (fs:=fs) (f:=g) hl;rwa[oj]at this
def Ue{f:tQ->T}{n k:tQ}:((tH.vq n).tJ f).drop k=(tH.vq (n-k)).tJ λj=>f (k+j):=tH.ext_getElem (by simp) (by intros;simp)
def x_p4{i:tQ}(h0:ga fs=.ok [.t a1,.t a2,.t a3,.x i] ae)(hi:ae[i]?=p' (p' s))(hs:s=.uI o\/s=.u7 o)(hf:Fn [vl a1,vl a2,vl a3,p' (.u7 o)]=.ok (.t t) τ)(ht:τ[3]?=p' (p' (.u7 o'))):Ad (Af 4 Fn) ga fs=.ok (.t t) (ae.wJ i (p' (s.put o'))):=Om (as:=[a1,a2,a3]) (bs:=[]) h0 rfl hi hs hf ht
def O4{α:Type}(I:α->FS->Prop)(μ:α->tQ)(st:∀a fs,I a fs->(c fs=.ok false fs/\vL Q (h fs))\/(c fs=.ok true fs/\vL (λy=>∃aq,y=.nx aq/\∃a',μ a'<μ a/\I a' aq) (b fs))):∀(n:tQ)(a:α)(fs:FS),I a fs->μ a<n->vL Q (Ak (BY c b n) h fs)
 |0,a,fs,_,l=>by lia
 |n+1,a,fs,i,l=>by
  rcases st a fs i with⟨e,k⟩|⟨e,k⟩
  .exact AN (Jj e) k
  .let{aq,e2,a',m,i'}:=k;have:=O4 I μ st n a' aq i' (by lia);unfold vL Ak at this ⊢;rwa[LF e e2]
def Jag{i:tQ}(h:fs[i]?=p' (vl (.tY ts)))(e:(!ts.vb)=b):Ge (Aa i) fs=.ok b fs:=by subst e;unfold Ge;rw[Ah h];rfl
def JaV{β:Type}{A:β->Prop}{r:β->FO}{n:tQ}(k:vL (Ro λx=>∃b,x=r b/\A b) (s (args++tH.uN n none))):∃b,A b/\∃τ,A2 n s args=.ok (.nw (r b)) τ:=let{_,τ,e,b,h,a}:=L6 k;{b,a,τ,h▸e}
def x_ext{i:tQ}(h0:fs[i]?=p' (p' (.uI (.tY ts))))(h:f fs=.ok (.t (.uj us)) fs)(hl:ts.fg+us.fg<=big):Au (AA Ec (Aa i) (Ab f Ae)) fs=.nx (fs.wJ i (p' (.uI (.tY (ts++us))))):=ext_t h0 h hl rfl
def UN{α:Type}{xs:tH α}{b:α->tN}(h:f fs=.ok (.t (.tY us)) ae)(e:us=xs.tJ λa=>T.tS (b a)):maxD 0 (Ab f Ae) fs=.ok (.t (.tS (mxD 0 (xs.tJ b)))) ae:=by subst e;have:=DW (xs.tJ b);rw[oj]at this;unfold maxD;rw[EI h uQ.intro A5];simp![Out.u9,BD,oM];rw[show(λa=>T.tS (b a))=T.tS∘b from rfl,this];rfl
def q_rc(k:vL Q (.wy c fs)):vL Q (Ak (Dm c (Ab (gc t) Ae)) h fs):=q_sX rfl k
def q_exS{n:tQ}(k:vL (λy=>∃τ,y=.wH (.nw o) (z::τ)) (s ([x,vl y]++tH.uN n none))):∃τ,A2 n s [x,vl y]=.ok (.nw o) (z::τ):=by let{τ,e}:=k;exact{_,OT e}
section
variable{cP cR:Addr}{P t:T}{a b:Addr}{n n' n1:Int}{w W w' W' w1 W1:List T}{rest cz aA τ ae:FS}{e:tm}{Fn:tm}{fa:tq}{x y z:T}{o:FO}{c:Str}
def popW:Ie cR "waiting" 0 (bO cR P a b n (w++[t]) W::uu)=.ok (.t t) (bO cR P a b n w W::uu):=by unfold Ie;rw[Hx rfl];simp![ZC,Ga,qB,qf];rfl
def popS:Ie cR "worths" 0 (bO cR P a b n w (W++[t])::uu)=.ok (.t t) (bO cR P a b n w W::uu):=by unfold Ie;rw[Hx rfl];simp![ZC,FF,qB,qf];rfl
def a_wait(he:e (bO cR P a b n w W::uu)=.ok (.t t) (bO cR P a b n' w' W'::cz))(hl:w'.fg<100000):Au (C7 cR "waiting" 0 e) (bO cR P a b n w W::uu)=.nx (bO cR P a b n' (w'++[t]) W'::cz):=Ry rfl Ga he rfl Ga hl (by rw[U2];rfl)
def a_wor(he:e (bO cR P a b n w W::uu)=.ok (.t t) (bO cR P a b n' w' W'::cz))(hl:W'.fg<100000):Au (C7 cR "worths" 0 e) (bO cR P a b n w W::uu)=.nx (bO cR P a b n' w' (W'++[t])::cz):=Ry rfl FF he rfl FF hl (by rw[Sb];rfl)
def a_worX(he:e (bO cR P a b n w W::uu)=.wy c ae):Au (C7 cR "worths" 0 e) (bO cR P a b n w W::uu)=.wy c ae:=Zv rfl FF he
def m_tk(ha:fa (bO cR P a b n w W::uu)=.ok [.t x] (bO cR P a b n1 w1 W1::aA))(hf:Fn [bO cR P a b n1 w1 W1,vl x]=.ok (.nw o) (bO cR P a b n' w' W'::τ)):Bd cR "taken" 2 Fn (Aa 0) fa (bO cR P a b n w W::uu)=.ok (.nw o) (bO cR P a b n' w' W'::aA):=S1 (ts:=[x]) OY.2.1 ha rfl hf
def m_aa(ha:fa (bO cR P a b n w W::uu)=.ok [.t x,.t y,.t z] (bO cR P a b n1 w1 W1::aA))(hf:Fn [bO cR P a b n1 w1 W1,vl x,vl y,vl z]=.ok (.t t) (bO cR P a b n' w' W'::τ)):Bd cR "await_arguments" 4 Fn (Aa 0) fa (bO cR P a b n w W::uu)=.ok (.t t) (bO cR P a b n' w' W'::aA):=PV (ts:=[x,y,z]) OY.1 ha rfl hf
def m_ab(ha:fa (bO cR P a b n w W::uu)=.ok [.t x,.t y,.t z] (bO cR P a b n1 w1 W1::aA))(hf:Fn [bO cR P a b n1 w1 W1,vl x,vl y,vl z]=.ok (.t t) (bO cR P a b n' w' W'::τ)):Bd cR "await_body" 4 Fn (Aa 0) fa (bO cR P a b n w W::uu)=.ok (.t t) (bO cR P a b n' w' W'::aA):=PV (ts:=[x,y,z]) OY.2.2.1 ha rfl hf
def m_abX(ha:fa (bO cR P a b n w W::uu)=.ok [.t x,.t y,.t z] (bO cR P a b n1 w1 W1::aA))(hf:Fn [bO cR P a b n1 w1 W1,vl x,vl y,vl z]=.wy c (bO cR P a b n' w' W'::τ)):Bd cR "await_body" 4 Fn (Aa 0) fa (bO cR P a b n w W::uu)=.wy c (bO cR P a b n' w' W'::aA):=PX (ts:=[x,y,z]) OY.2.2.1 ha rfl hf
def f_cl:CM cR "calls_left" (Aa 0) (bO cR P a b n w W::uu)=.ok (.t (.tS n)) (bO cR P a b n w W::uu):=fld_b rfl Wn
def f_pr:CM cR "program" (Aa 0) (bO cR P a b n w W::uu)=.ok (.t P) (bO cR P a b n w W::uu):=fld_b rfl Jab
end
def JaW{n:tQ}(k:vL (λy=>∃τ,y=.nx (z::τ)) (s (x::args++tH.uN n none))):∃τ,A2 n s (x::args)=.ok (.t .vG) (z::τ):=by let{τ,e}:=k;unfold A2;rw[e];exact{_,rfl}
def it_vt(h:f fs=.ok (.t (.uj ts)) ae):itVT f fs=.ok ts.vn ae:=by unfold itVT;rw[h];rfl
def q_exX{n:tQ}(k:vL (λy=>∃τ,y=.wy c (z::τ)) (s (x::args++tH.uN n none))):∃τ,A2 n s (x::args)=.wy c (z::τ):=by let{τ,e}:=k;exact{_,FN e}
def IC:("call":tO)≠"make"/\("make":tO)≠"name"/\("call":tO)≠"name"/\("make":tO)≠"call":=by decide +kernel
@[irreducible] def Tn (cR:Addr) (P:T) (a b:Addr) (x1 x2:Option Sl) (n:Int) (w W:List T) (y:SO):Prop:=∃z3 z4 z5 z6,y=.nx (fr cR P a b x1 x2 n w W (vl z3) (vl z4) (vl z5) (vl z6))
def q_tn{n:tN}:vL (Tn cR P a b x1 x2 n w W) (.nx (fr cR P a b x1 x2 n w W (vl z3) (vl z4) (vl z5) (vl z6))):=by unfold vL Tn;exact{_,_,_,_,rfl}
def tn_o{n:tN}(h:vL (Tn cR P a b x1 x2 n w W) y):∃z3 z4 z5 z6,y=.nx (fr cR P a b x1 x2 n w W (vl z3) (vl z4) (vl z5) (vl z6)):=by unfold vL Tn at h;exact h
def rws (L:tQ->tO->tH T):tH tO->tQ->tH (tH T)
 | [],m=>if m=0 then [[]]else []
 |k::ks,m=>(tH.vq m).uH λi=>(L (i+1) k).uH λf=>(rws L ks (m-(i+1))).tJ λr=>f::r
def thT (m:tO)(ps:tH T):T:=.uj [.str m,.uj ps]
def ofK (K:Kd)(L:tQ->tO->tH T)(n:tQ)(k:tO):tH T:=match kf K k with|none=>[]|p' kd=>kd.2.uH λr=>(rws L r.2 n).tJ (thT r.1)
def tab (K:Kd):tQ->tQ->tO->tH T
 |0,_,_=>[]
 |n+1,s,k=>if s=n+1 then ofK K (tab K n) n k else tab K n s k
def LL (K:Kd)(s:tQ)(k:tO):tH T:=tab K s s k
def UX(K:Kd)(k:tO):∀(n s:tQ),s<=n->tab K n s k=LL K s k
 |0,s,h=>by
  have:s=0:=by lia
  subst this;rfl
 |n+1,s,h=>by
  by_cases e:s=n+1
  .subst e;rfl
  .show(if s=n+1 then _ else tab K n s k)=_;rw[ug e];exact UX K k n s (by lia)
def CN{α β:Type}{f g:α->tH β}:∀{xs:tH α},(∀x∈xs,f x=g x)->xs.uH f=xs.uH g
 | [],_=>rfl
 |x::xs,h=>by rw[oO,oO,h x n5,CN λy m=>h y (n4 _ m)]
def Jv{L L':tQ->tO->tH T}:∀(ks:tH tO)(m:tQ),(∀s k,1<=s->s<=m->L s k=L' s k)->rws L ks m=rws L' ks m
 | [],m,_=>rfl
 |k::ks,m,h=>by
  unfold rws;have:∀i∈tH.vq m,((L (i+1) k).uH λf=>(rws L ks (m-(i+1))).tJ λr=>f::r)=((L' (i+1) k).uH λf=>(rws L' ks (m-(i+1))).tJ λr=>f::r):=λi hi=>by rw[oR]at hi;rw[h (i+1) k (by lia) (by lia),Jv ks (m-(i+1)) λs k h1 h2=>h s k h1 (by lia)]
  exact CN this
def Jh(K:Kd)(k:tO):LL K 0 k=[]:=rfl
def LA(K:Kd)(n:tQ)(k:tO):LL K (n+1) k=ofK K (LL K) n k:=by show(if n+1=n+1 then ofK K (tab K n) n k else _)=_;rw[tW rfl];unfold ofK;cases kf K k with|none=>rfl|p' kd =>simp!;exact CN λr _=>by rw[Jv r.2 n λs k _ h2=>UX K k n s h2]
def HZ(L:tQ->tO->tH T)(m:tQ):rws L [] m=if m=0 then [[]]else []:=rfl
def NA{β:Type}{f:tQ->tH β}{m:tQ}(h:∀i,i<m->f i=[]):(tH.vq m).uH f=[]:=by rw[tH.flatMap_eq_nil_iff];intro i hi;exact h i (oR.mp hi)
def OO{L:tQ->tO->tH T}{a:tO}(h0:L 0 a=[])(m:tQ):rws L [a] m=(L m a).tJ λp=>[p]:=by
 cases m with
 |zero=>rw[h0];rfl
 |succ m =>
  have e:rws L [a] (m+1)=(tH.vq (m+1)).uH λi=>(L (i+1) a).uH λf=>(if m+1-(i+1)=0 then [[]]else []).tJ λr=>f::r:=rfl
  rw[e,pU,oP,NA,qp,oO,p7,oJ]
  .have:m+1-(m+1)=0:=by lia
   rw[tW this];rw[tH.map_eq_flatMap];rfl
  .intro i hi;have:¬(m+1-(i+1)=0):=by lia
   rw[ug this];rw[tH.flatMap_eq_nil_iff];intro _ _;rfl
def WQ{L:tQ->tO->tH T}{a b:tO}(h0:L 0 b=[])(m:tQ):rws L [a,b] m=(tH.vq m).uH λi=>(L (i+1) a).uH λp=>(L (m-(i+1)) b).tJ λq=>[p,q]:=by
 have e:rws L [a,b] m=(tH.vq m).uH λi=>(L (i+1) a).uH λf=>(rws L [b] (m-(i+1))).tJ λr=>f::r:=rfl
 rw[e];refine CN λi _=>CN λf _=>?_
 rw[OO h0,oj];rfl
def sumTo (m:tQ)(g:tQ->tQ):tQ:=((tH.vq m).tJ g).sum
def Hm(m:tQ)(g:tQ->tQ):sumTo (m+1) g=sumTo m g+g m:=by unfold sumTo;rw[pU,nW,tH.sum_append];simp
def FV{α β:Type}(f:α->tH β)(xs:tH α):(xs.uH f).fg=(xs.tJ λx=>(f x).fg).sum:=by induction xs with|vO=>rfl|ux x xs ih=>rw[oO,n9,ih,nV,qC]
def DG{α:Type}(xs:tH α)(c:tQ):(xs.tJ λ_=>c).sum=xs.fg*c:=by induction xs with|vO=>simp|ux x xs ih=>rw[nV,qC,ih,om,qD];lia
def Wq{L:tQ->tO->tH T}{a b:tO}(h0:L 0 b=[])(m:tQ):(rws L [a,b] m).fg=sumTo m λi=>(L (i+1) a).fg*(L (m-(i+1)) b).fg:=by
 rw[WQ h0,FV];unfold sumTo;congr 1;refine tH.map_congr_left λi _=>?_
 rw[FV];simp![nU];exact DG _ _
def Xu{L:tQ->tO->tH T}{a:tO}(h0:L 0 a=[])(m:tQ):(rws L [a] m).fg=(L m a).fg:=by rw[OO h0,nU]
def bnd :tQ->tQ
 |1=>4|2=>16|3=>64|4=>512|5=>3072|6=>24576|7=>180224|_=>0
def R0{m:tQ}{g g':tQ->tQ}(h:∀i,i<m->g i<=g' i):sumTo m g<=sumTo m g':=by
 induction m with
 |zero=>exact oh _
 |succ m ih =>
  rw[Hm,Hm];have:=ih λi hi=>h i (by lia)
  have:=h m (by lia)
  lia
def bnd2 (m:tQ):tQ:=sumTo m λi=>bnd (i+1)*bnd (m-(i+1))
def Uz:∀n,n<7->4<=bnd (n+1)/\4*bnd n<=bnd (n+1)/\4*bnd2 n<=bnd (n+1):=by decide
def UY{α:Type}{g:α->tQ}{c:tQ}:∀(xs:tH α),(∀x∈xs,g x<=c)->(xs.tJ g).sum<=xs.fg*c
 | [],_=>by simp
 |x::xs,h=>by
  rw[nV,qC,om,qD];have:=UY xs λy m=>h y (n4 _ m)
  have:=h x n5
  lia
def OQ{K:Kd}{n:tQ}(hn:n<7)(ih:∀s k,s<=n->(LL K s k).fg<=bnd s){ks:tH tO}(h2:ks.fg<=2):4*(rws (LL K) ks n).fg<=bnd (n+1):=by
 let{b0,b1,b2}:=Uz n hn
 match ks,h2 with
 | [],_ =>
  rw[HZ];split
  .simpa using b0
  .simp
 | [a],_ =>
  rw[Xu (Jh K a)];have:=ih n a (oh _)
  lia
 | [a,b],_ =>
  rw[Wq (Jh K b)];have:(sumTo n λi=>(LL K (i+1) a).fg*(LL K (n-(i+1)) b).fg)<=bnd2 n:=R0 λi hi=>tQ.mul_le_mul (ih _ _ (by lia)) (ih _ _ (by lia))
  lia
 |_::_::_::_,h=>simp at h
def Kx{K:Kd}(W:Well K):∀(n:tQ),n<=7->∀s k,s<=n->(LL K s k).fg<=bnd s
 |0,_,s,k,h=>by
  have:s=0:=by lia
  subst this;simp[Jh]
 |n+1,hn,s,k,h=>by
  have ih:=Kx W n (by lia);by_cases e:s=n+1
  .subst e;rw[LA];unfold ofK;cases hk:kf K k with
   |none=>simp
   |p' kd =>
    simp!;have hm:=(P9 hk).1;rw[FV];simp![nU];have h4:=(W.rw kd hm).2;have hb:∀r∈kd.2,4*(rws (LL K) r.2 n).fg<=bnd (n+1):=λr mr=>OQ (by lia) ih (W.two kd hm r mr)
    have:(kd.2.tJ λr=>(rws (LL K) r.2 n).fg).sum<=kd.2.fg*(bnd (n+1)/4):=UY _ λr mr=>by
     have:=hb r mr
     lia
    have h5:kd.2.fg*(bnd (n+1)/4)<=4*(bnd (n+1)/4):=pE _ h4
    lia
  .exact ih s k (by lia)
def Lr:∀n,n<=7->bnd n<=180224:=by decide
def LL_len{K:Kd}(W:Well K){n:tQ}(hn:n<=7)(k:tO):(LL K n k).fg<=180224:=oo (Kx W n hn n k (oh _)) (Lr n hn)
def OP{K:Kd}(W:Well K){n:tQ}(hn:n<7){ks:tH tO}(h2:ks.fg<=2):(rws (LL K) ks n).fg<=180224:=by
 have h1:=OQ (K:=K) hn (Kx W n (by lia)) h2;have h3:=Lr (n+1) (by lia)
 lia
def cat (K:Kd)(k:tO)(w:tQ):tH T:=(tH.vq w).uH λi=>LL K (i+1) k
def EF(K:Kd)(k:tO)(w:tQ):cat K k (w+1)=cat K k w++LL K (w+1) k:=by unfold cat;rw[pU,oP];simp
def Q5{K:Kd}(W:Well K)(k:tO):∀w,w<=7->(cat K k w).fg<=w*140000
 |0,_=>by simp[cat]
 |w+1,h=>by
  have:=Q5 W k w (by lia);have h1:=Kx W (w+1) h (w+1) k (oh _);rw[EF,n9];have:w+1=7\/w+1<=6:=by lia
  rcases this with q|q
  .have h2:(cat K k w).fg<=6*24576:=by
    have:w=6:=by lia
    subst this;have hc:∀u,u<=6->(cat K k u).fg<=u*24576:=by
     intro u
     induction u with
     |zero=>intro _;simp[cat]
     |succ u ih =>
      intro hu;have a1:=ih (by lia);have a2:=Kx W (u+1) (by lia) (u+1) k (oh _);have a3:∀n,n<=6->bnd n<=24576:=by decide
      have a4:=a3 (u+1) hu;rw[EF,n9,qD]
      lia
    exact hc 6 (oh _)
   have h3:=Lr (w+1) (by lia);rw[qD]
   lia
  .have a3:∀n,n<=6->bnd n<=24576:=by decide
   have:=a3 (w+1) q;rw[qD]
   lia
def Zj{K:Kd}{k:tO}{w:tQ}:∀v,w<=v->∃more,cat K k v=cat K k w++more
 |v,h=>by
  obtain⟨d,rfl⟩:∃d,v=w+d:={v-w,by lia}
  induction d with|zero=>exact{[],by simp}|succ d ih =>let{m,e}:=ih (by lia);exact{m++LL K (w+d+1) k,by rw[<- tQ.add_assoc,EF,e,oQ]}
def Cv (p:tO×tQ):tH vc:=[.uK p.1,.uW (p.2:tN)]
def JR{p q:tO×tQ}(h:Cv p=Cv q):p=q:=by
 let{a,b}:=p;let{c,d}:=q;unfold Cv at h;simp![tH.ux.injEq,Sum.uK.injEq,Sum.uW.injEq,and_true]at h;let{h1,h2}:=h;subst h1;have:b=d:=by lia
 subst this;rfl
def LI{κ α:Type}[DecidableEq κ]{f:α->κ}{g:α->T}:∀{xs:tH α}{x:α},x∈xs->(∀y∈xs,f y=f x->g y=g x)->BB (xs.tJ f) (xs.tJ g) (f x)=p' (g x)
 |y::ys,x,m,h=>by
  rw[nV,nV];unfold BB;by_cases e:f y=f x
  .rw[tW e,h y n5 e]
  .rw[ug e];rcases oz.mp m with rfl|m
   .exact(e rfl).tU
   .exact LI m λz mz=>h z (n4 _ mz)
def Jm{P:tH (tO×tQ)}{g:tO×tQ->T}{k:tO}{s:tQ}(h:(k,s)∈P):BB (P.tJ Cv) (P.tJ g) ([.uK k,.uW (s:tN)]:tH vc)=p' (g (k,s)) :=
 LI (f:=Cv) (g:=g) (x:=(k,s)) h λy _ e=>by rw[JR e]
def DT (fs:FS)(i:tQ)(ks:tH (tH vc))(vs:tH T):Prop:=fs[i]?=p' (vl (.q ks vs))\/fs[i]?=p' (p' (.u7 (.q ks vs)))\/fs[i]?=p' (p' (.uI (.q ks vs)))
def VB{fs:FS}{i:tQ}{ks:tH (tH vc)}{vs:tH T}{fk:tm}{k:tO}{s:tN}{t:T}(h:DT fs i ks vs)(hk:fk fs=.ok (.t (.uj [.str k,.tS s])) fs)(hv:BB ks vs ([.uK k,.uW s]:tH vc)=p' t):Ag Aw (Aa i) fk fs=.ok (.t t) fs:=by
 have key:∀x,QW fs x (.uj [.str k,.tS s])=p' (p' t)->gIx x (.t (.uj [.str k,.tS s])) fs=.ur->Aw x (.t (.uj [.str k,.tS s])) fs=.ok (.t t) fs:=λx h1 h2=>by unfold Aw orG;rw[h2];simp![JZ,h1,okT]
 have eZ:∀x,gIx x (.t (.uj [.str k,.tS s])) fs=.ur:=λx=>by cases x<;>rfl
 rcases h with h|h|h
 .refine Ar (Ah h) hk (key _ ?_ (eZ _));simp![QW,Df,EJ,oM,pd,hv]
 .refine M4 (Eu h) hk (key _ ?_ (eZ _));simp![QW,Hx h,Df,EJ,oM,pd,hv]
 .refine M4 (BE h) hk (key _ ?_ (eZ _));simp![QW,ZG h,Df,EJ,oM,pd,hv]
def Jy{i j:tN}{fs ae:FS}{fa:tq}(e:fa fs=.ok [.t (.tS i),.t (.tS j)] ae)(h1:-(2^62)<=i/\i<2^62)(h2:-(2^62)<=j/\j<2^62):Jb0 fa fs=.ok (FL.upTo i (j-i).uw) ae:=by unfold Jb0;rw[e];simp![Out.u9];exact tW {h1.1,h1.2,h2.1,h2.2}
def EV{wP:tB}{gt:tz}{vR:FS->SO}{fs ae:FS}{ts:tH T}{r:SO}(e:wP fs=.ok ts ae)(ef:Dz gt vR ts ae=r):Bv wP gt vR fs=r:=by unfold Bv;rw[e];exact ef
def YC{gt:tz}{vR:FS->SO}{t:T}{ts:tH T}{fs ae aq:FS}(h1:gt t fs=p' ae)(h2:vR ae=.brk aq):Dz gt vR (t::ts) fs=.nx aq:=by simp![Dz,h1,h2]
def LM{f g:tm}{fs:FS}{x y:T}(h1:f fs=.ok (.t x) fs)(h2:g fs=.ok (.t y) fs):An Az (Ab f (Ab g Ae)) fs=.ok (.t (.uj [x,y])) fs:=IP (g:=Az) (AV h1 (AV h2 A5)) rfl (show 2<=big by decide) rfl
def OS{n:tQ}{g:FS->SO}{args τ ak:FS}{i:tQ}{o:FO}(h:g (args++tH.uN n none)=.wH (.x i) τ)(ho:τ[i]?=p' (p' (.uI o)))(e:(τ.wJ i none).uB args.fg=ak):A2 n g args=.ok (.nw o) ak:=by unfold A2;rw[h];simp![ho,e]
def rF_nw{n:tQ}{g:FS->SO}{args τ ak:FS}{o:FO}(h:g (args++tH.uN n none)=.wH (.nw o) τ)(e:τ.uB args.fg=ak):A2 n g args=.ok (.nw o) ak:=by unfold A2;rw[h];simp![e]
def Qe{ts:tH T}{i:tN}{t:T}{fs:FS}(e:atI ts i=p' t):Aw (.t (.uj ts)) (.t (.tS i)) fs=.ok (.t t) fs:=by
 have:gIx (.t (.uj ts)) (.t (.tS i)) fs=.ok (.t t) fs:=by simp![gIx,BD,e,okT]
 unfold Aw orG;rw[this]
def Gh{L:tQ->tO->tH T}:∀(ks:tH tO)(m:tQ)(r:tH T),r∈rws L ks m->r.fg=ks.fg
 | [],m,r,h=>by
  rw[HZ]at h;split at h
  .rw[oF.mp h];rfl
  .cases h
 |k::ks,m,r,h=>by unfold rws at h;let{i,_,h}:=pe.mp h;let{f,_,h}:=pe.mp h;let{r',h',e}:=oa.mp h;subst e;rw[om,om,Gh ks _ r' h']
def J0{x0 x1 x2 x4:tL Sl}{R:tH (tH T)}(hR:∀r∈R,r.fg<=2)(kM:R.fg<=1000000):∀(Fs ar:tH T)(x6:tL Sl),vC x6->ar.fg+Fs.fg*R.fg<=big->∃y6,vC y6 /\
  Dz (wd 6) (Au (AA Ec (Aa 3) (Ab (AW false [none,p' 6] (itU (fz (Aa 5))) (wd 0) CG (Ag AG (An Az (Ab (fz (Aa 1)) Ae)) (Aa 0))) Ae))) Fs [x0,x1,x2,p' (.uI (.tY ar)),x4,vl (.tY (R.tJ T.uj)),x6] =
   .nx [x0,x1,x2,p' (.uI (.tY (ar++Fs.uH λf=>R.tJ λr=>T.uj (f::r)))),x4,vl (.tY (R.tJ T.uj)),y6]
 | [],ar,x6,f6,_=>{x6,f6,by simp[Dz]}
 |f::Fs,ar,x6,f6,hb=>by
  have eF:ar.fg+R.fg+Fs.fg*R.fg<=big:=by rw[om,qD]at hb;lia
  let{y6,g6,e}:=J0 (x0:=x0) (x1:=x1) (x2:=x2) (x4:=x4) hR kM Fs (ar++R.tJ λr=>T.uj (f::r)) (vl f) Al (by rw[n9,nU];exact eF);refine{y6,g6,?_};have e1:itU (fz (Aa 5)) [x0,x1,x2,p' (.uI (.tY ar)),x4,vl (.tY (R.tJ T.uj)),vl f]=.ok (R.tJ T.uj) [x0,x1,x2,p' (.uI (.tY ar)),x4,vl (.tY (R.tJ T.uj)),vl f]:=rfl;let{y,hy,e2}:=GR (fe:=Ag AG (An Az (Ab (fz (Aa 1)) Ae)) (Aa 0)) (f:=λt'=>match t' with|.uj r=>.uj (f::r)|_=>.vG) (uu:=[vl f]) (R.tJ T.uj) none [] Ao (λt' mt=>by rw[oa]at mt;let{r,mr,rfl}:=mt;have:=hR r mr;exact Ar (IP (g:=Az) (ts:=[f]) (AV (AS (Ah (t:=f) rfl)) A5) rfl (show 1<=big by decide) rfl) (Ah (t:=.uj r) rfl) (V2 (by show 1+_<=1000000;lia))) (by rw[nU];show 0+_<=1000000;lia);have e3:=IS (wP:=[none,p' 6]) e1 {by rw[show Cd _ (tH.tJ _ [none,p' 6])=[]from rfl];exact oY,by rfl} e2 (AQ rfl);have e4:(R.tJ T.uj).tJ (λt'=>match t' with|.uj r=>T.uj (f::r)|_=>T.vG)=R.tJ λr=>T.uj (f::r):=by rw[oj];rfl
  rw[qp,e4]at e3;have b1:=VQ (i:=3) (ts:=ar) rfl e3 (by rw[nU];lia) rfl;rw[oO,<- oQ];exact(HH (ae:=[x0,x1,x2,p' (.uI (.tY ar)),x4,vl (.tY (R.tJ T.uj)),vl f]) (by unfold wd;exact Bp rfl f6) b1).trans e
def isV (r:Rv)(X:tH T):Prop:=r=.t (.tY X)\/r=.nw (.tY X)
def callV{p:tQ}{Fn:tm}{fa:tq}{fs ae ak τ:FS}{rs:tH Rv}{r:Rv}{X:tH T}(hr:isV r X)(ha:fa fs=.ok rs ae)(hp:rs.fg=p)(hn:(Cd ae (rs.tJ AF)).uA)(hf:Fn (Bu ae (rs.tJ AF))=.ok r τ)(hb:B3 (rs.tJ AF) τ ae=p' ak):
  fz (Ad (Af p Fn) fa) fs=.ok (.t (.tY X)) ak:=by
 rcases hr with rfl|rfl
 .exact Yw (DU ha hp hn hf hb)
 .exact QG (IY ha hp hn hf hb)
def OU{K:Kd}(W:Well K){ks:tH (tH vc)}{vs:tH T}{N:tQ}(hN:N<7)(hM:∀k∈K.tJ (·.1),∀s:tQ,1<=s->s<=N->BB ks vs ([.uK k,.uW (s:tN)]:tH vc)=p' (.tY (LL K s k))):
  ∀(qs:tH tO)(n m:tQ),qs.fg<n->qs.fg<=2->(∀q∈qs,q∈K.tJ (·.1))->m<=N->∃r,isV r ((rws (LL K) qs m).tJ T.uj)/\AE n [vl (.uj (qs.tJ T.str)),iv (m:tN),p' (.u7 (.q ks vs))]=.ok r [vl (.uj (qs.tJ T.str)),iv (m:tN),p' (.u7 (.q ks vs))]
 |_,0,_,h,_,_,_=>uD h (by lia)
 | [],n+1,m,_,_,_,hm=>by
  have all:AZ (AE n) [vl (.uj []),iv (m:tN),p' (.u7 (.q ks vs)),none,none,none,none]=.wH (.t (.tY ((rws (LL K) [] m).tJ T.uj))) [vl (.uj []),iv (m:tN),p' (.u7 (.q ks vs)),none,none,none,none]:=by
   unfold AZ;refine CV (S9 (show Ep (Ge (Aa 0)) _=.ok true _ from rfl) (A8 ?_));have c:=QO (fa:=Aa 1) (fb:=gc (.tS 0)) (fs:=[vl (.uj []),iv (m:tN),p' (.u7 (.q ks vs)),none,none,none,none]) (i:=(m:tN)) (Ah rfl) Be;unfold ifV;rw[c,HZ];by_cases h0:m=0
   .subst h0;rfl
   .have:¬((m:tN)=0):=by lia
    rw[oK this,ug h0];rfl
  refine{_,.uW rfl,?_};show A2 4 (AZ (AE n)) _=_;unfold A2;show(match AZ (AE n) [vl (.uj []),iv (m:tN),p' (.u7 (.q ks vs)),none,none,none,none]with|.nx τ=>_|.wH (.t t) τ=>_|.wH (.nw o) τ=>_|.wH (.x i) τ=>_|.wy c τ=>_|_=>_)=_;rw[all];rfl
 |q::qs,n+1,m,hn,h2,hq,hm=>by
  have hlen:=OP (K:=K) W (n:=m) (by lia) (ks:=q::qs) h2;have nA:qs.fg<=1:=by simp at h2;lia
  let{ak,ef,j,x4,x5,x6,rfl,hj,gu,f4,f5,f6}:=ID (gt:=wd 4) (vR:=(Ak (Av 5 (fz (Ad (Af 3 (AE n)) (Ac (slF (Aa 0) (B9 (gc (.tS 1))) noP) (Ac (Ag Dw (Aa 1) (Aa 4)) (Ac (Aa 2) Ae))))))
  (Bv (itU (Ag Aw (Aa 2) (An Az (Ab (Ag Aw (Aa 0) (gc (.tS 0))) (Ab (fz (Aa 4)) Ae))))) (wd 6) (Au (AA Ec (Aa 3) (Ab (AW false [none,p' 6] (itU (fz (Aa 5))) (wd 0) CG (Ag AG (An Az (Ab (fz (Aa 1)) Ae)) (Aa 0))) Ae))))))
   (λts fs=>∃(j:tQ)(x4 x5 x6:tL Sl),fs=[vl (.uj ((q::qs).tJ T.str)),iv (m:tN),p' (.u7 (.q ks vs)),p' (.uI (.tY (((tH.vq j).uH λi=>(LL K (i+1) q).uH λf=>(rws (LL K) qs (m-(i+1))).tJ λr=>f::r).tJ T.uj))),x4,x5,x6]/\j<=m/\ts=(FL.upTo 1 m).drop j/\vC x4/\vC x5/\vC x6)
   (λt' ts fs h=>by
    let{j,x4,x5,x6,rfl,hj,gu,f4,f5,f6}:=h;have dP:j<m:=by
     have:=uC tH.fg gu;simp[FL.upTo]at this
     lia
    have hc:=pR (l:=FL.upTo 1 m) (i:=j) (by simp[FL.upTo];exact dP);rw[hc]at gu;let{e1,e2}:=tH.ux.inj gu;have e3:t'=T.tS ((j+1:tQ):tN):=by
     rw[e1];simp[FL.upTo]
     lia
    subst e3;let{r,hr,er}:=OU W hN hM qs n (m-(j+1)) (by simp at hn;lia) (by lia) (λx mx=>hq x (n4 _ mx)) (by lia);generalize bZ:((tH.vq j).uH λi=>(LL K (i+1) q).uH λf=>(rws (LL K) qs (m-(i+1))).tJ λr=>f::r)=ar;have gp:(Ag Dw (Aa 1) (Aa 4)) [vl (.uj ((q::qs).tJ T.str)),iv (m:tN),p' (.u7 (.q ks vs)),p' (.uI (.tY (ar.tJ T.uj))),iv ((j+1:tQ):tN),x5,x6]=.ok (.t (.tS ((m-(j+1):tQ):tN))) [vl (.uj ((q::qs).tJ T.str)),iv (m:tN),p' (.u7 (.q ks vs)),p' (.uI (.tY (ar.tJ T.uj))),iv ((j+1:tQ):tN),x5,x6]:=by
     have:((m-(j+1):tQ):tN)=(m:tN)-((j+1:tQ):tN):=by lia
     rw[this];exact Ar (Ah rfl) (Ah rfl) Qv
    have lz:slF (Aa 0) (B9 (gc (.tS 1))) noP [vl (.uj ((q::qs).tJ T.str)),iv (m:tN),p' (.u7 (.q ks vs)),p' (.uI (.tY (ar.tJ T.uj))),iv ((j+1:tQ):tN),x5,x6]=.ok (.t (.uj (qs.tJ T.str))) [vl (.uj ((q::qs).tJ T.str)),iv (m:tN),p' (.u7 (.q ks vs)),p' (.uI (.tY (ar.tJ T.uj))),iv ((j+1:tQ):tN),x5,x6]:=by unfold slF;rw[Ah (t:=.uj ((q::qs).tJ T.str)) rfl];show okT (.uj (Lo ((q::qs).tJ T.str) (p' 1) none)) _=_;rw[GQ ZB (by simp)];rfl
    have s5:=CU (i:=5) (callV (p:=3) hr (AD lz (AD gp (AD (Eu (i:=2) rfl) A5))) rfl (by rw[show Cd _ _=[2]from rfl];simp) er rfl) (ak:=[vl (.uj ((q::qs).tJ T.str)),iv (m:tN),p' (.u7 (.q ks vs)),p' (.uI (.tY (ar.tJ T.uj))),iv ((j+1:tQ):tN),vl (.tY ((rws (LL K) qs (m-(j+1))).tJ T.uj)),x6]) (Bp rfl f5);have iN:Ag Aw (Aa 2) (An Az (Ab (Ag Aw (Aa 0) (gc (.tS 0))) (Ab (fz (Aa 4)) Ae))) [vl (.uj ((q::qs).tJ T.str)),iv (m:tN),p' (.u7 (.q ks vs)),p' (.uI (.tY (ar.tJ T.uj))),iv ((j+1:tQ):tN),vl (.tY ((rws (LL K) qs (m-(j+1))).tJ T.uj)),x6]=.ok (.t (.tY (LL K (j+1) q))) [vl (.uj ((q::qs).tJ T.str)),iv (m:tN),p' (.u7 (.q ks vs)),p' (.uI (.tY (ar.tJ T.uj))),iv ((j+1:tQ):tN),vl (.tY ((rws (LL K) qs (m-(j+1))).tJ T.uj)),x6] :=
     VB (.uK (.uW rfl)) (LM (Ar (Ah rfl) Be (Qe (A0 (j:=0) rfl))) (AS (Ah rfl))) (hM q (hq q n5) (j+1) (by lia) (by lia))
    have iX:ar.fg+(LL K (j+1) q).fg*(rws (LL K) qs (m-(j+1))).fg<=180224:=by
     have e:(tH.vq m)=tH.vq (j+1)++(tH.vq (m-(j+1))).tJ λx=>(j+1)+x:=by
      rw[<- tH.range_add];congr 1
      lia
     have bb:=hlen;unfold rws at bb;rw[e,oP,n9,pU,oP,n9,bZ]at bb;have:([j].uH λi=>(LL K (i+1) q).uH λf=>(rws (LL K) qs (m-(i+1))).tJ λr=>f::r).fg=(LL K (j+1) q).fg*(rws (LL K) qs (m-(j+1))).fg:=by rw[oO,p7,oJ,FV];simp![nU];exact DG _ _
     rw[this]at bb
     lia
    let{y6,g6,el}:=J0 (x0:=vl (.uj ((q::qs).tJ T.str))) (x1:=iv (m:tN)) (x2:=p' (.u7 (.q ks vs))) (x4:=iv ((j+1:tQ):tN)) (R:=rws (LL K) qs (m-(j+1))) (λr mr=>by rw[Gh _ _ r mr];lia) (by
     have:=OP (K:=K) W (n:=m-(j+1)) (by lia) (ks:=qs) (by lia)
     lia) (LL K (j+1) q) (ar.tJ T.uj) x6 f6 (by rw[nU];show _<=1000000;lia)
    refine{_,_,(by unfold wd;exact Bp rfl f4),sq s5 (EV (show itU _ _=.ok (LL K (j+1) q) _ from by unfold itU;rw[iN];rfl) el),j+1,iv ((j+1:tQ):tN),vl (.tY ((rws (LL K) qs (m-(j+1))).tJ T.uj)),y6,?_,by lia,by rw[e2],Al,Al,g6};rw[pU,oP,bZ,nW];have:([j].uH λi=>(LL K (i+1) q).uH λf=>(rws (LL K) qs (m-(i+1))).tJ λr=>f::r).tJ T.uj=(LL K (j+1) q).uH λf=>(rws (LL K) qs (m-(j+1))).tJ λr=>T.uj (f::r):=by rw[oO,p7,oJ,pZ];simp![oj];rfl
    rw[this])
   (FL.upTo 1 m) [vl (.uj ((q::qs).tJ T.str)),iv (m:tN),p' (.u7 (.q ks vs)),p' (.uI (.tY [])),none,none,none] {0,none,none,none,rfl,pB _,rfl,Ao,Ao,Ao}
  have kX:j=m:=by
   have:=uC tH.fg gu;simp[FL.upTo]at this
   lia
  subst kX;have all:AZ (AE n) [vl (.uj ((q::qs).tJ T.str)),iv (j:tN),p' (.u7 (.q ks vs)),none,none,none,none]=.wH (.x 3) [vl (.uj ((q::qs).tJ T.str)),iv (j:tN),p' (.u7 (.q ks vs)),p' (.uI (.tY ((rws (LL K) (q::qs) j).tJ T.uj))),x4,x5,x6]:=by
   unfold AZ;refine sq (Iz (show Ep (Ge (Aa 0)) _=.ok false _ from rfl) rfl) ?_;refine sq (ak:=[vl (.uj ((q::qs).tJ T.str)),iv (j:tN),p' (.u7 (.q ks vs)),p' (.uI (.tY [])),none,none,none]) rfl ?_;have hr:=Jy (fa:=Ab (gc (.tS 1)) (Ab (Ag AG (Aa 1) (gc (.tS 1))) Ae)) (fs:=[vl (.uj ((q::qs).tJ T.str)),iv (j:tN),p' (.u7 (.q ks vs)),p' (.uI (.tY [])),none,none,none]) (i:=1) (j:=(j:tN)+1) (A1 Be (A1 (Ar (Ah rfl) Be C0) rfl)) {by lia,by lia} {by lia,by lia};have:((j:tN)+1-1).uw=j:=by lia
   rw[this]at hr;exact sq (EV hr ef) rfl
  exact{_,.uK rfl,OS (g:=AZ (AE n)) all rfl rfl}
def Mr{C:tV}{K:Kd}{hs:tH T}{mt:tO}{p:tQ}{Fn fo:tm}{fa:tq}{rs:tH Rv}{fs τ:FS}{r:Rv}(ho:fo fs=.ok (.t (Am C K hs)) fs)(hi:Cw C mt fs (.t (Am C K hs))=true)(ha:fa fs=.ok rs fs)(hp:rs.fg+1=p)(hl:Cd fs ((Rv.t (Am C K hs)::rs).tJ AF)=[])(hf:Fn (Bu fs ((Rv.t (Am C K hs)::rs).tJ AF))=.ok r τ)(hr:(∃t,r=.t t)\/∃o,r=.nw o):Bd C mt p Fn fo fa fs=.ok r fs:=by
 rcases hr with⟨t,rfl⟩|⟨o,rfl⟩
 .exact PU ho hi ha (MZ hp hl hf)
 .exact PU ho hi ha (Ra hp hl hf)
def X7{K:Kd}(W:Well K){kd:tO×tH (tO×tH tO)}(m:kd∈K):kf K kd.1=p' kd:=by
 cases h:kf K kd.1 with
 |none=>exact(X8 h (oa.wO {kd,m,rfl})).tU
 |p' fu =>
  let{m',e'}:=P9 h;have:∀{xs:Kd},(xs.tJ (·.1)).uA->∀{a b:tO×tH (tO×tH tO)},a∈xs->b∈xs->a.1=b.1->a=b:=by
   intro xs hn
   induction xs with
   |vO=>intro a b ha;cases ha
   |ux x xs ih =>
    intro a b ha hb e;rw[nV,o5]at hn;rcases oz.mp ha with q|q
    .rcases oz.mp hb with q'|q'
     .rw[q,q']
     .exact(hn.1 (oa.wO {b,q',by rw[<- e,q]})).tU
    .rcases oz.mp hb with q'|q'
     .exact(hn.1 (oa.wO {a,q,by rw[e,q']})).tU
     .exact ih hn.2 q q' e
  rw[this W.nd m' m e']
def LL_kd{K:Kd}(W:Well K){kd:tO×tH (tO×tH tO)}(m:kd∈K)(n:tQ):LL K (n+1) kd.1=kd.2.uH λr=>(rws (LL K) r.2 n).tJ (thT r.1):=by rw[LA];unfold ofK;rw[X7 W m]
def Mh{x0 x1 x2 x3:tL Sl}{m:tO}:∀(X:tH (tH T))(ar:tH T)(x6:tL Sl),vC x6->ar.fg+X.fg<=1000000->∃y6,vC y6 /\
  Dz (wd 6) (Au (AA Dy (Aa 4) (Ab (An Az (Ab (fz (Aa 5)) (Ab (fz (Aa 6)) Ae))) Ae))) (X.tJ T.uj) [x0,x1,x2,x3,p' (.uI (.tY ar)),vl (.str m),x6]=.nx [x0,x1,x2,x3,p' (.uI (.tY (ar++X.tJ (thT m)))),vl (.str m),y6]
 | [],ar,x6,f6,_=>{x6,f6,by simp[Dz]}
 |p::X,ar,x6,f6,hb=>by let{y6,g6,e}:=Mh (x0:=x0) (x1:=x1) (x2:=x2) (x3:=x3) (m:=m) X (ar++[thT m p]) (vl (.uj p)) Al (by simp at hb ⊢;lia);refine{y6,g6,?_};rw[nV,nV];have b1:=app_ok (i:=4) (fs:=[x0,x1,x2,x3,p' (.uI (.tY ar)),vl (.str m),vl (.uj p)]) (ts:=ar) rfl (LM (AS (Ah (i:=5) (t:=.str m) rfl)) (AS (Ah (i:=6) (t:=.uj p) rfl))) (by show _<1000000;simp at hb;lia) rfl;rw[oQ]at e;exact(HH (ts:=X.tJ T.uj) (ae:=[x0,x1,x2,x3,p' (.uI (.tY ar)),vl (.str m),vl (.uj p)]) (by unfold wd;exact Bp rfl f6) b1).trans e
def tos{C:tV}{K:Kd}{hs:tH T}(W:Well K){ks:tH (tH vc)}{vs:tH T}{N:tQ}(hN:N<7)(hM:∀k∈K.tJ (·.1),∀s:tQ,1<=s->s<=N->BB ks vs ([.uK k,.uW (s:tN)]:tH vc)=p' (.tY (LL K s k))){kd:tO×tH (tO×tH tO)}(mk:kd∈K):
  A3 C [vl (Am C K hs),vl (.str kd.1),iv ((N+1:tQ):tN),p' (.u7 (.q ks vs))]=.ok (.nw (.tY (LL K (N+1) kd.1))) [vl (Am C K hs),vl (.str kd.1),iv ((N+1:tQ):tN),p' (.u7 (.q ks vs))]:=by
 have hlen:=LL_len W (n:=N+1) (by lia) kd.1;rw[LL_kd W mk]at hlen ⊢;let{ak,ef,D,R,x5,x6,rfl,eD,eR,f5,f6}:=ID (gt:=wd 5) (vR:=(Bv (itU (fz (Ad (Af 3 (AE 4)) (Ac (fz (Bd C "parts" 2 (A6 C) (fz (Aa 0)) (Ac (fz (Aa 5)) Ae))) (Ac (Ag Dw (Aa 2) (gc (.tS 1))) (Ac (Aa 3) Ae)))))) (wd 6) (Au (AA Dy (Aa 4) (Ab (An Az (Ab (fz (Aa 5)) (Ab (fz (Aa 6)) Ae))) Ae)))))
  (λts fs=>∃(D R:tH (tO×tH tO))(x5 x6:tL Sl),fs=[vl (Am C K hs),vl (.str kd.1),iv ((N+1:tQ):tN),p' (.u7 (.q ks vs)),p' (.uI (.tY (D.uH λr=>(rws (LL K) r.2 N).tJ (thT r.1)))),x5,x6]/\D++R=kd.2/\ts=(R.tJ (·.1)).tJ T.str/\vC x5/\vC x6)
  (λt' ts fs h=>by
   let{D,R,x5,x6,rfl,eD,eR,f5,f6}:=h;cases R with
   |vO=>cases eR
   |ux r R =>
    rw[nV,nV]at eR;let{e1,e2}:=tH.ux.inj eR;subst e1;have hr:r∈kd.2:=by rw[<- eD];simp
    let{rv,hv,er}:=OU W hN hM r.2 4 N (by have:=W.two kd mk r hr;lia) (W.two kd mk r hr) (W.yN kd mk r hr) (oh _);generalize bZ:(D.uH λr=>(rws (LL K) r.2 N).tJ (thT r.1))=ar;have iX:ar.fg+(rws (LL K) r.2 N).fg<=180224:=by
     rw[<- eD,oP,n9,bZ,oO,n9,nU]at hlen
     lia
    have e3:fz (Bd C "parts" 2 (A6 C) (fz (Aa 0)) (Ac (fz (Aa 5)) Ae)) [vl (Am C K hs),vl (.str kd.1),iv ((N+1:tQ):tN),p' (.u7 (.q ks vs)),p' (.uI (.tY ar)),vl (.str r.1),x6]=.ok (.t (.uj (r.2.tJ T.str))) [vl (Am C K hs),vl (.str kd.1),iv ((N+1:tQ):tN),p' (.u7 (.q ks vs)),p' (.uI (.tY ar)),vl (.str r.1),x6] :=
     AS (Mr (AS (Ah rfl)) (Et Es.2.2) (AD (AS (Ah (t:=.str r.1) rfl)) A5) rfl rfl (HU W mk hr) (.uW {_,rfl}))
    have e4:Ag Dw (Aa 2) (gc (.tS 1)) [vl (Am C K hs),vl (.str kd.1),iv ((N+1:tQ):tN),p' (.u7 (.q ks vs)),p' (.uI (.tY ar)),vl (.str r.1),x6]=.ok (.t (.tS (N:tN))) [vl (Am C K hs),vl (.str kd.1),iv ((N+1:tQ):tN),p' (.u7 (.q ks vs)),p' (.uI (.tY ar)),vl (.str r.1),x6]:=by
     have:(N:tN)=((N+1:tQ):tN)-1:=by lia
     rw[this];exact Ar (Ah rfl) Be Qv
    have e5:=callV (p:=3) hv (AD e3 (AD e4 (AD (Eu (i:=3) rfl) A5))) rfl (by rw[show Cd _ _=[3]from rfl];simp) er rfl;let{y6,g6,el}:=Mh (x0:=vl (Am C K hs)) (x1:=vl (.str kd.1)) (x2:=iv ((N+1:tQ):tN)) (x3:=p' (.u7 (.q ks vs))) (m:=r.1) (rws (LL K) r.2 N) ar x6 f6 (by lia);refine{[vl (Am C K hs),vl (.str kd.1),iv ((N+1:tQ):tN),p' (.u7 (.q ks vs)),p' (.uI (.tY ar)),vl (.str r.1),x6],_,(by unfold wd;exact Bp rfl f5),EV (show itU _ _=.ok ((rws (LL K) r.2 N).tJ T.uj) _ from by unfold itU;rw[e5];rfl) el,D++[r],R,vl (.str r.1),y6,?_,by rw[<- eD];simp,e2,Al,g6};rw[oP,bZ,oO,p7,oJ])
  ((kd.2.tJ (·.1)).tJ T.str) [vl (Am C K hs),vl (.str kd.1),iv ((N+1:tQ):tN),p' (.u7 (.q ks vs)),p' (.uI (.tY [])),none,none] {[],kd.2,none,none,rfl,rfl,rfl,Ao,Ao}
 have hR:R=[]:=by cases R with|vO=>rfl|ux a b=>cases eR
 subst hR;rw[oJ]at eD;subst eD;have all:BF C [vl (Am C K hs),vl (.str kd.1),iv ((N+1:tQ):tN),p' (.u7 (.q ks vs)),none,none,none]=.wH (.x 4) [vl (Am C K hs),vl (.str kd.1),iv ((N+1:tQ):tN),p' (.u7 (.q ks vs)),p' (.uI (.tY (kd.2.uH λr=>(rws (LL K) r.2 N).tJ (thT r.1)))),x5,x6]:=by
  unfold BF;refine sq (ak:=[vl (Am C K hs),vl (.str kd.1),iv ((N+1:tQ):tN),p' (.u7 (.q ks vs)),p' (.uI (.tY [])),none,none]) rfl ?_;have e1:fz (Bd C "makers" 2 (AY C) (fz (Aa 0)) (Ac (fz (Aa 1)) Ae)) [vl (Am C K hs),vl (.str kd.1),iv ((N+1:tQ):tN),p' (.u7 (.q ks vs)),p' (.uI (.tY [])),none,none]=.ok (.t (.tY ((kd.2.tJ (·.1)).tJ T.str))) [vl (Am C K hs),vl (.str kd.1),iv ((N+1:tQ):tN),p' (.u7 (.q ks vs)),p' (.uI (.tY [])),none,none] :=
   QG (Mr (AS (Ah rfl)) (Et Es.2.1) (AD (AS (Ah (t:=.str kd.1) rfl)) A5) rfl rfl (Eo W mk) (.uK {_,rfl}))
  exact sq (EV (show itU _ _=.ok ((kd.2.tJ (·.1)).tJ T.str) _ from by unfold itU;rw[e1];rfl) ef) rfl
 exact OS (g:=BF C) all rfl rfl
def prs (K:Kd)(w:tQ):tH (tO×tQ):=(tH.vq w).uH λi=>K.tJ λkd=>(kd.1,i+1)
def K1{K:Kd}{w:tQ}{k:tO}{s:tQ}:(k,s)∈prs K w↔k∈K.tJ (·.1)/\1<=s/\s<=w:=by
 unfold prs;rw[pe];constructor
 .intro{i,hi,h}
  rw[oR]at hi;let{kd,mk,e}:=oa.mp h;cases e;exact{oa.wO {kd,mk,rfl},by lia,by lia}
 .intro{h,h1,h2}
  let{kd,mk,e}:=oa.mp h;refine{s-1,oR.wO (by lia),oa.wO {kd,mk,?_} };rw[e];have:s-1+1=s:=by lia
  rw[this]
def Ma(K:Kd)(w:tQ):prs K (w+1)=prs K w++K.tJ λkd=>(kd.1,w+1):=by unfold prs;rw[pU,oP];simp
def Pg{K:Kd}(h:K.fg<=4):∀w,(prs K w).fg<=4*w
 |0=>by simp[prs]
 |w+1=>by
  have:=Pg h w;rw[Ma,n9,nU]
  lia
def WX{fv fi:tm}{o:tQ}{fs ae ak:FS}{v:T}{k:tO}{s:tQ}{P:tH (tO×tQ)}{g:tO×tQ->T}(h0:ae[o]?=p' (p' (.uI (.q (P.tJ Cv) (P.tJ g)))))(hv:fv fs=.ok (.t v) ae)(hi:fi ae=.ok (.t (.uj [.str k,.tS (s:tN)])) ae)(hn:(k,s)∉P)(hl:P.fg<1000000)(hg:v=g (k,s))
  (e:ae.wJ o (p' (.uI (.q ((P++[(k,s)]).tJ Cv) ((P++[(k,s)]).tJ g))))=ak):Ba fv (Aa o) fi fs=.nx ak:=by
 have h1:Aa o ae=.ok (.x o) ae:=BE h0;have h2:FL.Ax ae o=p' (.q (P.tJ Cv) (P.tJ g)):=ZG h0;have dU:((P.tJ Cv).any λk'=>decide (k'=Cv (k,s)))=false:=by
  rw[qa];intro x hx;rw[decide_eq_true_eq]
  rintro rfl
  let{y,my,ey}:=oa.mp hx;exact hn (JR ey▸my)
 have h3:Fp (P.tJ Cv) (P.tJ g) (Cv (k,s)) v=((P++[(k,s)]).tJ Cv,(P++[(k,s)]).tJ g):=by unfold Fp;rw[dU,nW,nW,hg];rfl
 have h4:FL.vA ae o (.q ((P++[(k,s)]).tJ Cv) ((P++[(k,s)]).tJ g))=ak:=by unfold FL.vA;rw[h0];exact e
 have h5:Qw (.x o) (.t (.uj [.str k,.tS (s:tN)])) (.t v) ae=.ur:=rfl;have h6:Lg (.x o) (.t (.uj [.str k,.tS (s:tN)])) (.t v) ae=.nx ak:=by
  have kY:(P.tJ Cv).fg<big:=by rw[nU];exact hl
  simp![Lg,h2,Df,EJ,oM,pd,kY,if_true];show SO.nx (FL.vA ae o (.q (Fp (P.tJ Cv) (P.tJ g) (Cv (k,s)) v).1 (Fp (P.tJ Cv) (P.tJ g) (Cv (k,s)) v).2))=_;rw[h3,h4]
 unfold Ba;rw[hv];simp![Out.bnd,Out.u9];rw[h1];simp!;rw[hi];simp![SO.of];unfold Tz;rw[h5];exact h6
def len_own{i:tQ}{fs:FS}{ts:tH T}(h:fs[i]?=p' (p' (.uI (.tY ts)))):Ad AI (Ab (Aa i) Ae) fs=.ok (.t (.tS ts.fg)) fs:=by
 have h1:Ab (Aa i) Ae fs=.ok [.x i] fs:=by unfold Ab;rw[BE h];rfl
 unfold Ad;rw[h1];have:Yt [.x i] fs=.ok (.t (.tS ts.fg)) fs:=by simp![Yt,LW h,okT]
 show AI [.x i] fs=_;unfold AI orC;rw[this]
def Y8{xs:tH T}{n:tQ}:Lo xs none (p' (n:tN))=xs.uB n:=by
 unfold Lo;rw[HT.WN,HT.Sd,tH.drop_zero,tQ.sub_zero];by_cases h:n<=xs.fg
 .rw[pT h]
 .rw[tQ.min_eq_right (by lia),pP,qR (by lia)]
def gLst (K:Kd)(p:tO×tQ):T:=.tY (LL K p.2 p.1)
def dM (K:Kd)(P:tH (tO×tQ)):FO:=.q (P.tJ Cv) (P.tJ (gLst K))
def OL{C:tV}{K:Kd}{hs:tH T}(W:Well K){x1 x2 x3:tL Sl}{w:tQ}(hw:w<7):∀(R D:Kd)(x6:tL Sl),D++R=K->vC x6->∃y6,vC y6 /\
  Dz (wd 6) (Ba (fz (Ad (Af 4 (A3 C)) (Ac (fz (Aa 0)) (Ac (fz (Aa 6)) (Ac (fz (Aa 5)) (Ac (Aa 4) Ae)))))) (Aa 4) (An Az (Ab (fz (Aa 6)) (Ab (fz (Aa 5)) Ae)))) ((R.tJ (·.1)).tJ T.str) [vl (Am C K hs),x1,x2,x3,p' (.uI (dM K (prs K w++D.tJ λkd=>(kd.1,w+1)))),iv ((w+1:tQ):tN),x6] =
   .nx [vl (Am C K hs),x1,x2,x3,p' (.uI (dM K (prs K (w+1)))),iv ((w+1:tQ):tN),y6]
 | [],D,x6,eD,f6=>by rw[oJ]at eD;subst eD;refine{x6,f6,?_};rw[Ma];rfl
 |kd::R,D,x6,eD,f6=>by
  let{y6,g6,e}:=OL (C:=C) (hs:=hs) W (x1:=x1) (x2:=x2) (x3:=x3) hw R (D++[kd]) (vl (.str kd.1)) (by rw[<- eD];simp) Al;refine{y6,g6,?_};have mk:kd∈K:=by rw[<- eD];simp
  have di:=W.nd;have dU:(kd.1,w+1)∉prs K w++D.tJ λkd=>(kd.1,w+1):=by
   intro m;rcases oS.mp m with q|q
   .have:=(K1.mp q).2.2
    lia
   .let{fu,m',e'}:=oa.mp q;have km:fu.1=kd.1:=by simpa using e'
    rw[<- eD,nW,oW]at di;exact di.2.2 fu.1 (oa.wO {fu,m',rfl}) kd.1 (by simp) km
  have hM:∀k∈K.tJ (·.1),∀s:tQ,1<=s->s<=w->BB ((prs K w++D.tJ λkd=>(kd.1,w+1)).tJ Cv) ((prs K w++D.tJ λkd=>(kd.1,w+1)).tJ (gLst K)) ([.uK k,.uW (s:tN)]:tH vc)=p' (.tY (LL K s k)):=λk hk s h1 h2 =>Jm (g:=gLst K) (oS.wO (.uW (K1.wO {hk,h1,h2})))
  have hl:(prs K w++D.tJ λkd=>(kd.1,w+1)).fg<1000000:=by
   have:=Pg W.hi w;have h4:=W.hi;have h5:=uC tH.fg eD;simp at h5;rw[n9,nU]
   lia
  have et:=tos (C:=C) (hs:=hs) W hw hM mk;generalize hP:prs K w++D.tJ (λkd=>(kd.1,w+1))=P at dU hM hl et;have ec:fz (Ad (Af 4 (A3 C)) (Ac (fz (Aa 0)) (Ac (fz (Aa 6)) (Ac (fz (Aa 5)) (Ac (Aa 4) Ae))))) [vl (Am C K hs),x1,x2,x3,p' (.uI (dM K P)),iv ((w+1:tQ):tN),vl (.str kd.1)]=.ok (.t (.tY (LL K (w+1) kd.1))) [vl (Am C K hs),x1,x2,x3,p' (.uI (dM K P)),iv ((w+1:tQ):tN),vl (.str kd.1)] :=
   QG (IY (ae:=[vl (Am C K hs),x1,x2,x3,p' (.uI (dM K P)),iv ((w+1:tQ):tN),vl (.str kd.1)]) (AD (AS (Ah (t:=Am C K hs) rfl)) (AD (AS (Ah (t:=.str kd.1) rfl)) (AD (AS (Ah (t:=.tS ((w+1:tQ):tN)) rfl)) (AD (BE (i:=4) (o:=dM K P) rfl) A5)))) rfl (by rw[show Cd _ _=[4]from rfl];simp) et rfl)
  have b1:=WX (o:=4) (P:=P) (g:=gLst K) (k:=kd.1) (s:=w+1) rfl ec (LM (AS (Ah (i:=6) (t:=.str kd.1) rfl)) (AS (Ah (i:=5) (t:=.tS ((w+1:tQ):tN)) rfl))) dU hl rfl rfl;rw[nW,<- oQ,hP]at e;rw[nV,nV];exact(HH (ae:=[vl (Am C K hs),x1,x2,x3,p' (.uI (dM K P)),iv ((w+1:tQ):tN),vl (.str kd.1)]) (by unfold wd;exact Bp rfl f6) b1).trans e
def LP (C:tV):FS->SO:=(Ak (Bv (itU (fz (Dg C "kinds" 1 (AJ C) (fz (Aa 0)) Ae))) (wd 6) (Ba (fz (Ad (Af 4 (A3 C)) (Ac (fz (Aa 0)) (Ac (fz (Aa 6)) (Ac (fz (Aa 5)) (Ac (Aa 4) Ae)))))) (Aa 4) (An Az (Ab (fz (Aa 6)) (Ab (fz (Aa 5)) Ae)))))
  (Ak (Au (AA Ec (Aa 3) (Ab (Ag Aw (Aa 4) (An Az (Ab (fz (Aa 1)) (Ab (fz (Aa 5)) Ae)))) Ae)))
  (wQ (wk (Ag gGe (Ad AI (Ab (Aa 3) Ae)) (Aa 2))) (λfs=>.brk fs) nxS)))
def Jp{C:tV}{K:Kd}{hs:tH T}(W:Well K){kd:tO×tH (tO×tH tO)}(mk:kd∈K){vZ:tQ}:∀(d w:tQ)(x5 x6:tL Sl),w+d=7->vC x5->vC x6->∃v y4 y5 y6,v<=7/\(v=7\/vZ<=(cat K kd.1 v).fg) /\
  Dz (wd 5) (LP C) ((FL.upTo 1 7).drop w) [vl (Am C K hs),vl (.str kd.1),iv (vZ:tN),p' (.uI (.tY (cat K kd.1 w))),p' (.uI (dM K (prs K w))),x5,x6]=.nx [vl (Am C K hs),vl (.str kd.1),iv (vZ:tN),p' (.uI (.tY (cat K kd.1 v))),y4,y5,y6]
 |0,w,x5,x6,h,f5,f6=>by
  have:w=7:=by lia
  subst this;exact{7,_,_,_,oh _,.uW rfl,rfl}
 |d+1,w,x5,x6,h,f5,f6=>by
  have hw:w<7:=by lia
  let{y6,g6,e}:=OL (C:=C) (hs:=hs) W (x1:=vl (.str kd.1)) (x2:=iv (vZ:tN)) (x3:=p' (.uI (.tY (cat K kd.1 w)))) hw K [] x6 rfl f6;rw[pM,oJ]at e;have ek:fz (Dg C "kinds" 1 (AJ C) (fz (Aa 0)) Ae) [vl (Am C K hs),vl (.str kd.1),iv (vZ:tN),p' (.uI (.tY (cat K kd.1 w))),p' (.uI (dM K (prs K w))),iv ((w+1:tQ):tN),x6]=.ok (.t (.tY ((K.tJ (·.1)).tJ T.str))) [vl (Am C K hs),vl (.str kd.1),iv (vZ:tN),p' (.uI (.tY (cat K kd.1 w))),p' (.uI (dM K (prs K w))),iv ((w+1:tQ):tN),x6] :=
   QG (Ms (AS (Ah rfl)) (Et Es.1) FH)
  have s1:=EV (show itU (fz (Dg C "kinds" 1 (AJ C) (fz (Aa 0)) Ae)) _=.ok ((K.tJ (·.1)).tJ T.str) _ from by unfold itU;rw[ek];rfl) e;have iN:=VB (i:=4) (fs:=[vl (Am C K hs),vl (.str kd.1),iv (vZ:tN),p' (.uI (.tY (cat K kd.1 w))),p' (.uI (dM K (prs K (w+1)))),iv ((w+1:tQ):tN),y6]) (t:=.tY (LL K (w+1) kd.1)) (.uK (.uK rfl)) (LM (AS (Ah (i:=1) (t:=.str kd.1) rfl)) (AS (Ah (i:=5) (t:=.tS ((w+1:tQ):tN)) rfl))) (Jm (g:=gLst K) (K1.wO {oa.wO {kd,mk,rfl},by lia,oh _}));have gU:=Q5 W kd.1 (w+1) (by lia);have iH:(cat K kd.1 (w+1)).fg<=1000000:=by
   have:(w+1)*140000<=7*140000:=pE _ (by lia)
   lia
  have s2:=VQ (i:=3) (ts:=cat K kd.1 w) rfl iN (by rw[<- n9,<- EF];exact iH) (ak:=[vl (Am C K hs),vl (.str kd.1),iv (vZ:tN),p' (.uI (.tY (cat K kd.1 (w+1)))),p' (.uI (dM K (prs K (w+1)))),iv ((w+1:tQ):tN),y6]) (by rw[EF];rfl);have c3:wk (Ag gGe (Ad AI (Ab (Aa 3) Ae)) (Aa 2)) [vl (Am C K hs),vl (.str kd.1),iv (vZ:tN),p' (.uI (.tY (cat K kd.1 (w+1)))),p' (.uI (dM K (prs K (w+1)))),iv ((w+1:tQ):tN),y6]=.ok (decide ((vZ:tN)<=((cat K kd.1 (w+1)).fg:tN))) [vl (Am C K hs),vl (.str kd.1),iv (vZ:tN),p' (.uI (.tY (cat K kd.1 (w+1)))),p' (.uI (dM K (prs K (w+1)))),iv ((w+1:tQ):tN),y6] :=
   De (Ar (len_own rfl) (Ah rfl) rfl)
  have hc:=pR (l:=FL.upTo 1 7) (i:=w) (by simp[FL.upTo];exact hw);have et:(FL.upTo 1 7)[w]'(by simp[FL.upTo];exact hw)=T.tS ((w+1:tQ):tN):=by
   simp[FL.upTo]
   lia
  rw[et]at hc;rw[hc];by_cases gX:vZ<=(cat K kd.1 (w+1)).fg
  .rw[oV (by lia)]at c3;refine{w+1,p' (.uI (dM K (prs K (w+1)))),iv ((w+1:tQ):tN),y6,by lia,.uK gX,YC (ae:=[vl (Am C K hs),vl (.str kd.1),iv (vZ:tN),p' (.uI (.tY (cat K kd.1 w))),p' (.uI (dM K (prs K w))),iv ((w+1:tQ):tN),x6]) (by unfold wd;exact Bp rfl f5) ?_};unfold LP;exact sq s1 (sq s2 (S9 c3 rfl))
  .rw[oK (by lia)]at c3;let{v,y4,y5,mP,h1,h2,e3}:=Jp (C:=C) (hs:=hs) W mk (vZ:=vZ) d (w+1) (iv ((w+1:tQ):tN)) y6 (by lia) Al g6;refine{v,y4,y5,mP,h1,h2,(HH (ae:=[vl (Am C K hs),vl (.str kd.1),iv (vZ:tN),p' (.uI (.tY (cat K kd.1 w))),p' (.uI (dM K (prs K w))),iv ((w+1:tQ):tN),x6]) (aq:=[vl (Am C K hs),vl (.str kd.1),iv (vZ:tN),p' (.uI (.tY (cat K kd.1 (w+1)))),p' (.uI (dM K (prs K (w+1)))),iv ((w+1:tQ):tN),y6]) (by unfold wd;exact Bp rfl f5) ?_).trans e3};unfold LP;exact sq s1 (sq s2 (Iz c3 rfl))
def things{C:tV}{K:Kd}{hs:tH T}(W:Well K){kd:tO×tH (tO×tH tO)}(mk:kd∈K){vZ:tQ}(jE:vZ<=1000):
  ∃τ,EB C [vl (Am C K hs),vl (.str kd.1),iv (vZ:tN)]=.ok (.nw (.tY ((cat K kd.1 7).uB vZ))) τ:=by
 let{v,y4,y5,y6,h1,h2,e}:=Jp (C:=C) (hs:=hs) W mk (vZ:=vZ) 7 0 none none (by lia) Ao Ao;have iI:(cat K kd.1 v).uB vZ=(cat K kd.1 7).uB vZ:=by
  let{more,em}:=Zj (K:=K) (k:=kd.1) 7 h1;rcases h2 with rfl|h2
  .rfl
  .rw[em,tH.take_append_of_le_length h2]
 have all:F7 C [vl (Am C K hs),vl (.str kd.1),iv (vZ:tN),none,none,none,none]=.wH (.nw (.tY ((cat K kd.1 7).uB vZ))) [vl (Am C K hs),vl (.str kd.1),iv (vZ:tN),p' (.uI (.tY (cat K kd.1 v))),y4,y5,y6]:=by
  unfold F7;have ek:fz (Dg C "kinds" 1 (AJ C) (fz (Aa 0)) Ae) [vl (Am C K hs),vl (.str kd.1),iv (vZ:tN),none,none,none,none]=.ok (.t (.tY ((K.tJ (·.1)).tJ T.str))) [vl (Am C K hs),vl (.str kd.1),iv (vZ:tN),none,none,none,none] :=
   QG (Ms (AS (Ah rfl)) (Et Es.1) FH)
  refine sq (Iz (De (b:=false) (Ar (AS (Ah (t:=.str kd.1) rfl)) ek ?_)) rfl) ?_
  .rw[VE,oV (oa.wO {kd,mk,rfl})];rfl
  refine sq (ak:=[vl (Am C K hs),vl (.str kd.1),iv (vZ:tN),p' (.uI (.tY [])),none,none,none]) rfl ?_;refine sq (ak:=[vl (Am C K hs),vl (.str kd.1),iv (vZ:tN),p' (.uI (.tY [])),p' (.uI (.q [] [])),none,none]) rfl ?_;have hr:=Jy (fa:=Ab (gc (.tS 1)) (Ab (Ag AG (gc (.tS 7)) (gc (.tS 1))) Ae)) (fs:=[vl (Am C K hs),vl (.str kd.1),iv (vZ:tN),p' (.uI (.tY [])),p' (.uI (.q [] [])),none,none]) (i:=1) (j:=7+1) (A1 Be (A1 (Ar Be Be C0) rfl)) {by lia,by lia} {by lia,by lia};refine sq (EV hr (show Dz (wd 5) (LP C) (FL.upTo 1 7) _=_ from e)) (A8 ?_);unfold slN;rw[BE (i:=3) (o:=.tY (cat K kd.1 v)) rfl];show(match BD [vl (Am C K hs),vl (.str kd.1),iv (vZ:tN),p' (.uI (.tY (cat K kd.1 v))),y4,y5,y6] (.x 3)with|p' ts=>Out.ok (Rv.nw (.tY (Lo ts none (p' (vZ:tN))))) _|none=>.ur)=_;rw[LW (ts:=cat K kd.1 v) rfl];simp!;rw[Y8,iI]
 exact{_,rF_nw (g:=F7 C) all rfl}
section
set_option tactic.hygienic false
seal Sat Dm Rr Src Ak Av ifS retS Au Bv G8 Ag Aa gc fz Ac Ab Ae Ad Af An AA Bd Dg AW asB Ep Ge E8 orT tgN AM Aj AL itU itZ itD G6 CM slF chain Dz gEq Aw Dh B5 EU Dw AG BH fzR HV GN CK Ez Ba Ck GJ dput2 Gk fzD Ky Az BC BQ MG Fo
set_option hygiene false
nonrec def Zz7(y:String):Lean.MacroM Lean.Term:=match y with
|"!"=>`(by assumption)|"%"=>`(Ye hr)|"&"=>`(hr.mono (by first | decide | omega))|"#"=>`(by decide)|"$"=>`(by first | exact lk.lk | exact Lks.no)|"^"=>`(Qi T.yX ?_ ?_)|"~"=>`(by first | exact Or.inl rfl | exact Or.inr rfl)|"="=>`(Hx rfl)|"+"=>`(⟨by omega,by omega⟩)|"*"=>`(by first | exact T.zO | exact T.zr | exact T.zS | exact T.zC | exact T.zH | exact T.zE | exact T.zB | exact T.zN | exact T.zT)|"@"=>`(pv _)|"<"=>`(Qk T.zQ ?_)|">"=>`(Jce hr)|"/"=>`(T.xt.t1 (by decide +kernel))|"?"=>`(?_)|"_"=>`(_)|_=>return Lean.mkIdent y.toName
nonrec def Zz8(x:String):Lean.MacroM (Lean.TSyntax `Lean.Parser.Tactic.tacticSeq):=do
 let a<-((x.drop 1).toString.splitOn ",").toArray.mapM Zz7
 let t:=Lean.Syntax.mkApp a[0]! (a.extract 1)
 match x.front with
 |'a'=>`(Lean.Parser.Tactic.tacticSeq|apply $t)|'e'=>`(Lean.Parser.Tactic.tacticSeq|exact $t)|_=>`(Lean.Parser.Tactic.tacticSeq|refine $t)
nonrec def Zz9(s:String):Lean.MacroM Lean.Syntax:=do
 let l<-(s.splitOn " ").toArray.mapM Zz8
 `(tactic|first $[|$l]*)
local macro_rules|`(tactic|infer_instance)=>`(tactic|(first|(refine(?_:¬ _);focus (decide +kernel))|(refine(?_:((_:Nat):Int)<=_);focus (first | lia | (simp;lia)))|(refine(?_:BB _ _ _=_);assumption)|(refine(?_:_=Out.ok _ _);assumption)))
local macro_rules|`(tactic|infer_instance)=>Zz9 "es_k0 es_k1 es_k2"
local macro_rules|`(tactic|infer_instance)=>`(tactic|exact(rfl:CG _=_))
local macro_rules|`(tactic|infer_instance)=>Zz9 "ax_itZ ax_itV ax_itD"
local macro_rules|`(tactic|infer_instance)=>`(tactic|(first|(refine(?_:ZP _=_);rfl)|(refine(?_:_/\List.length _ < 900);exact⟨rfl,Nat.le_of_ble_eq_true rfl⟩)|(refine(?_:List.Nodup (List.map Prod.fst _));assumption)))
local macro_rules|`(tactic|infer_instance)=>Zz9 "eJsOk.nil aJsOk.c,# aJsOk.r,rfl"
local macro_rules|`(tactic|infer_instance)=>`(tactic|(first|(refine(?_:¬ _∈([]:List Str));exact pY)|(refine(?_:¬ _);assumption)))
local macro_rules|`(tactic|infer_instance)=>Zz9 "aNd"
local macro_rules|`(tactic|infer_instance)=>`(tactic|(refine(?_:List.map _ _=List.map _ _);rfl))
local macro_rules|`(tactic|infer_instance)=>Zz9 "ex_noP aWc"
local macro_rules|`(tactic|infer_instance)=>`(tactic|(first|(refine(?_:List.length _<=List.length _);focus (first | lia | (simp;lia)))|(refine(?_:_<=big);focus (show _<=1000000;first | lia | (simp;lia)))|(refine(?_:_<=((_:Nat):Int));focus (first | lia | (simp;lia)))))
local macro_rules|`(tactic|infer_instance)=>Zz9 "aUm aXF"
local macro_rules|`(tactic|infer_instance)=>`(tactic|(first|exact .inr (.inl rfl)|exact .inr (.inr rfl)))
local macro_rules|`(tactic|infer_instance)=>Zz9 "eso0 aso1 aWt aso2,rfl"
local macro_rules|`(tactic|infer_instance)=>`(tactic|(refine(?_:(_:Bool)=false);focus (first | rfl | (simp [h1];done) | (simp [h];done) | (simp [hl];done))))
local macro_rules|`(tactic|infer_instance)=>`(tactic|(first|(refine(?_:List.length _=_);first | rfl | focus (simp;done))|exact Et (by decide +kernel)))
local macro_rules|`(tactic|infer_instance)=>Zz9 "aq_tg"
local macro_rules|`(tactic|infer_instance)=>`(tactic|(first|(refine(?_:_ < 1000000);focus (first | omega | (simp;omega)))|(refine(?_:_ < 100000);focus (first | lia | (simp;lia)))|exact .inr rfl))
local macro_rules|`(tactic|infer_instance)=>Zz9 "aWg"
local macro_rules|`(tactic|infer_instance)=>`(tactic|(first|(refine(?_:_=Sl.own _∨_=Sl.bor _);first | exact .inl rfl | exact .inr rfl)|exact .inl rfl))
local macro_rules|`(tactic|infer_instance)=>`(tactic|(refine(?_:_=_->Sat _ _);first | (focus (intro hb;exfalso;simp [IC] at hb;first | done | contradiction | omega)) | (focus (intro hb;exfalso;simp [h] at hb;done)) | (focus (intro hb;exfalso;simp [h1] at hb;done)) | (focus (intro hb;exfalso;simp [hv] at hb;done)) | intro hb))
local macro_rules|`(tactic|infer_instance)=>Zz9 "eTrue.intro aAD eA5 ax_asB aEI eNat.le_of_ble_eq_true,rfl"
local macro_rules|`(tactic|infer_instance)=>do
 let w1<-Zz9 "eU1,rfl,! ev_s0 ev_s1 ev_s2 ev_s3 ev_s4 ev_k0 ev_k1 ev_k2 ew_k0 ew_k1 ew_k2"
 `(tactic|(refine(?_:(_:Option _)=_);first|(refine(?_:atI _ _=_);assumption)|$(⟨w1⟩):tactic))
local macro_rules|`(tactic|infer_instance)=>do
 let w1<-Zz9 "ex_al0 ax_al1 eat0 ax_tgc"
 let w2<-Zz9 "eNc,rfl,True.intro eNc,rfl,! eBp,rfl,True.intro eat1 eat2 eBp,rfl,! eU1,rfl,True.intro ax_tup ex_tg0"
 let w3<-Zz9 "ex_sqt"
 `(tactic|(refine(?_:(_:Option _)=_);first|$(⟨w1⟩):tactic|(refine(?_:(_:FS)[(_:Nat)]?=_);rfl)|$(⟨w2⟩):tactic|(refine(?_:atI _ _=_);with_unfolding_all rfl)|$(⟨w3⟩):tactic))
local macro_rules|`(tactic|infer_instance)=>do
 let w1<-Zz9 "ax_ext,rfl aLn aOo aZ5 aUM,rfl aZ6 aWh aWi"
 `(tactic|(refine(?_:(_:SO)=_);$(⟨w1⟩):tactic))
local macro_rules|`(tactic|infer_instance)=>do
 let w1<-Zz9 "ax_set aa_wait aa_wor ax_app,rfl ax_asg"
 let w2<-Zz9 "ax_put aUQ,rfl eZT aUL aWe aUK ax_seq aZ8 aA8 aUM,rfl"
 `(tactic|(refine(?_:(_:SO)=_);first|$(⟨w1⟩):tactic|(refine(?_:Ba _ _ (gc (T.int 0)) _=_);apply set0)|$(⟨w2⟩):tactic))
local macro_rules|`(tactic|infer_instance)=>do
 let w1<-Zz9 "aV2 eQC,# eQC,+"
 let w2<-Zz9 "eQy,+"
 let w3<-Zz9 "egLe_i eisN_n eninT,!"
 `(tactic|(refine(?_:(_:Out Rv)=_);first|$(⟨w1⟩):tactic|exact Qy ⟨by decide,by decide⟩|$(⟨w2⟩):tactic|exact Qx ⟨by split <;> decide,by split <;> decide⟩|$(⟨w3⟩):tactic))
local macro_rules|`(tactic|infer_instance)=>do
 let w1<-Zz9 "ex_fzk ax_tpl ax_any ex_fzS ex_fzT aZQ eZ3,rfl ax_m2 ex_fzD,rfl eZU eZV ax_slk ax_mk1 ax_mk2 ax_mk5 ax_fld"
 `(tactic|(refine(?_:(_:Out Rv)=_);$(⟨w1⟩):tactic))
local macro_rules|`(tactic|infer_instance)=>do
 let w1<-Zz9 "eC0 aZk egNe_s egNe_i ein_t eVC"
 let w2<-Zz9 "eJb7,= eVD,= eVE eZX ax_slF aWj aTv aget_f ex_fzr,rfl"
 `(tactic|(refine(?_:(_:Out Rv)=_);first|$(⟨w1⟩):tactic|exact Jb7 (ZG rfl)|$(⟨w2⟩):tactic))
local macro_rules|`(tactic|infer_instance)=>do
 let w1<-Zz9 "egLt_i ex_dl ex_dn ax_ixl eHF,#"
 let w2<-Zz9 "eneg1 ax_m0 ax_m1 aLC aZ2"
 let w3<-Zz9 "aZ4 eK4 ax_lst aZR,rfl"
 `(tactic|(refine(?_:(_:Out Rv)=_);first|$(⟨w1⟩):tactic|exact HF (by omega)|$(⟨w2⟩):tactic|exact RN (Ah rfl)|$(⟨w3⟩):tactic))
local macro_rules|`(tactic|infer_instance)=>do
 let w1<-Zz9 "ax_c1 ax_c2 ax_c3 ax_c4 ax_c5 ax_c6 elen_str,rfl,! aZ1 ex_dt eBE,rfl eQv eEu,rfl"
 `(tactic|(refine(?_:(_:Out Rv)=_);first|(refine(?_:Ad (Af 6 (f_Lworth _)) _ _=_);apply x_w6)|(refine(?_:Ad (Af 7 (AU _)) _ _=_);apply x_e7)|(refine(?_:Ad (Af 4 Ca) _ _=_);apply x_l4)|(refine(?_:Ad (Af 3 BW) _ _=_);apply x_l3)|$(⟨w1⟩):tactic))
local macro_rules|`(tactic|infer_instance)=>do
 `(tactic|(refine(?_:Sat _ _);((first | refine(?_:Sat _ (Av _ _ _)) | refine(?_:Sat _ (Au _ _)) | refine(?_:Sat _ (G8 _ _ _)) | refine(?_:Sat _ (Ba _ _ _ _)) | refine(?_:Sat _ (Ez _ _ _ _ _)) | refine(?_:Sat _ (Ck _ _ _ _ _ _)) | refine(?_:Sat _ (dput2 _ _ _ _ _ _ _)));apply U8)))
local macro_rules|`(tactic|infer_instance)=>do
 let w1<-Zz9 "aJaR aq_X,hX"
 let w2<-Zz9 "aJaP aq_snx aq_rc aq_ss"
 let w3<-Zz9 "aq_bad aq_if aSm eq_xx"
 let w4<-Zz9 "aq_nx"
 `(tactic|(refine(?_:Sat _ _);first|(refine(?_:Sat _ (Ak _ _ (List.set _ _ _)));apply q_nrm;focus (dsimp only [List.set_cons_zero,List.set_cons_succ,List.cons_append,List.nil_append,List.replicate_succ,List.replicate_zero,List.append_nil];try exact rfl))|$(⟨w1⟩):tactic|((first | refine(?_:Sat _ (Ak (ifS (asB _) _ _) _ _)) | refine(?_:Sat _ (Ak (ifS (Ep _) _ _) _ _)));apply JA)|$(⟨w2⟩):tactic|((first | refine(?_:Sat _ (Ak (Av _ _) _ _)) | refine(?_:Sat _ (Ak (Au _) _ _)) | refine(?_:Sat _ (Ak (G8 _ _) _ _)) | refine(?_:Sat _ (Ak (Ba _ _ _) _ _)) | refine(?_:Sat _ (Ak (Ez _ _ _ _) _ _)) | refine(?_:Sat _ (Ak (Ck _ _ _ _ _) _ _)) | refine(?_:Sat _ (Ak (GJ _ _ _ _) _ _)));apply AN)|$(⟨w3⟩):tactic|(refine(?_:Sat _ (.ret _ _));first | exact WV True.intro rfl | (apply WV;exact True.intro))|(refine(?_:Sat _ (.nx _));first | exact q_tn | exact q_nxt | exact JaS | apply O7)|$(⟨w4⟩):tactic))
local macro_rules|`(tactic|infer_instance)=>do
 let w1<-Zz9 "aZ7 egEqi egEq_s ex_fzl eZ0,rfl aWb"
 `(tactic|(refine(?_:(_:Out Rv)=_);first|$(⟨w1⟩):tactic|(refine(?_:Ad (Af 4 (f_Lgrown _)) _ _=_);apply x_n4)|(refine(?_:Ad (Af 4 FX) _ _=_);apply x_p4)))
local macro_rules|`(tactic|infer_instance)=>do
 let w1<-Zz9 "eAh,rfl epopW epopS ef_cl ef_pr am_tk am_aa am_ab ax_bin eW5,rfl,rfl eW4,rfl,rfl ax_fz eBe ex_fzt"
 let w2<-Zz9 "ax_ixt"
 `(tactic|(refine(?_:(_:Out Rv)=_);first|$(⟨w1⟩):tactic|(refine(?_:Aw (Rv.x _) _ _=_);apply ix_rf rfl)|$(⟨w2⟩):tactic))
local macro_rules|`(tactic|infer_instance)=>`(tactic|(refine(?_:_=_);with_reducible assumption))
local macro_rules|`(tactic|trivial)=>`(tactic|repeat infer_instance)
def U7{A:FS->Prop}(k:vL (λy=>∃τ,y=.nx τ/\A (τ.uB args.fg)) (s (args++tH.uN n none))):∃τ,A2 n s args=.ok (.t .vG) τ/\A τ:=by unfold vL at k;let{τ,e,a}:=k;exact{_,by unfold A2;rw[e],a}
section
variable{K:Kd}
def XM{K:Kd}(e:D++kd::R=K)(nd:(K.tJ (·.1)).uA):(.uK kd.1:vc)∉D.tJ λkd=>(.uK kd.1:vc):=λm=>by let{z,mz,ez}:=oa.mp m;rw[<- e,nW,nV]at nd;exact(oW.mp nd).2.2 z.1 (oa.wO {z,mz,rfl}) kd.1 n5 (Sum.uK.inj ez)
def NJ(e:D++a::R=xs):D.fg<xs.fg/\a∈xs:=by rw[<- e];simp
def Kb(W:Well K):∃τ,C3 [vl (.tY (K.tJ BM))]=.ok (.t .vG) τ:=by
 have h1:=W.lo;have h4:=W.hi;apply Jz;lk;apply D2 (I:=λ(D:Kd) fs=>∃(vs:tH T)(y2 y3:tL Sl),fs=[vl (.tY (K.tJ BM)),p' (.uI (.v (D.tJ λkd=>.uK kd.1) vs)),y2,y3]/\vC y2/\vC y3)
 case hi=>trivial
 case h0=>exact{_,_,_,rfl,uQ.intro,uQ.intro}
 case st =>
  intro D kd R _ e {vs,y2,y3,rfl,f2,f3}
  have le:=NJ e;have hn:=W.nm kd le.2;have hr:=W.rw kd le.2;have nk:=XM e W.nd;have nv:=Dj (ts:=vs) nk;lk
  .simp[nv]
  lk;exact{_,_,_,by rw[nW];rfl,Al,Al}
 case k =>intro fs h;lk
def Ka{ps uq:tH tO}(hn:Bf [vl (.str m)]=.ok (.t (.l true)) [vl (.str m)])(hk:(.uK m:vc)∉ks)(h2:ps.fg<=2)(hp:∀p∈ps,p∈uq):∃τ,Ca [vl (.str m),vl (.uj (ps.tJ .str)),p' (.u7 (.v ks vs)),vl (.tY (uq.tJ .str))]=.ok (.t .vG) τ/\τ[2]?=p' (p' (.u7 (.v ks vs))):=by
 have nv:=Dj (ts:=vs) hk;apply U7;lk
 .simp[nv]
 lk
 .simp;lia
 lk;apply U9 (Pe:=λu=>∃p,u=.str p/\p∈uq) (I:=λfs=>∃y4,fs=[vl (.str m),vl (.uj (ps.tJ .str)),p' (.u7 (.v ks vs)),vl (.tY (uq.tJ .str)),y4]/\vC y4)
 case hi=>trivial
 case h0=>exact λu mu=>let{p,mp,e}:=oa.mp mu;{p,e.symm,hp p mp}
 case h1=>exact{_,rfl,uQ.intro}
 case st =>
  intro _ _ {p,rfl,mp} {y4,rfl,f4}
  lk
  .simp[mp]
  lk;exact{_,rfl,Al}
 case k =>
  intro _ {y4,rfl,f4}
  apply O7;rfl
end
section
variable{K:Kd}
def IW{ps uq:tH tO}(hp:∀p∈ps,p∈uq):∃τ,BW [vl (.str m),vl (.uj (ps.tJ .str)),p' (.u7 (.tY (uq.tJ .str)))]=.ok (.t .vG) τ/\τ[2]?=p' (p' (.u7 (.tY (uq.tJ .str)))):=by
 apply U7;apply U9 (Pe:=λu=>∃p,u=.str p/\p∈uq) (I:=λfs=>∃y4,fs=[vl (.str m),vl (.uj (ps.tJ .str)),p' (.u7 (.tY (uq.tJ .str))),y4]/\vC y4)
 case hi=>trivial
 case h0=>exact λu mu=>let{p,mp,e}:=oa.mp mu;{p,e.symm,hp p mp}
 case h1=>exact{_,rfl,uQ.intro}
 case st =>
  intro _ _ {p,rfl,mp} {y4,rfl,f4}
  lk
  .simp[mp]
  lk;exact{_,rfl,Al}
 case k =>
  intro _ {y4,rfl,f4}
  apply O7;rfl
def IV(W:Well K):∃τ,CA [vl (.tY (K.tJ BM))]=.ok (.t .vG) τ:=by
 have h4:=W.hi;apply Jz;lk
 .apply E3
  .lk
  .lk
  .exact λ_=>rfl
  .intro r mr;lk
  .lia
 rw[show(K.tJ λkd=>T.str kd.1)=(K.tJ (·.1)).tJ T.str by rw[oj];rfl];lk;apply D2 (I:=λD  fs=> ∃(vs:tH T)(y4 y5 y6 y7 y8:tL Sl),fs=[vl (.tY (K.tJ BM)),vl (.tY ((K.tJ (·.1)).tJ .str)),p' (.uI (.tY ((D.tJ (·.1)).tJ .str))),p' (.uI (.v (B4 D) vs)),y4,y5,y6,y7,y8]/\vC y4/\vC y5/\vC y6/\vC y7/\vC y8)
 case hi=>trivial
 case h0=>exact{[],none,none,none,none,none,rfl,uQ.intro,uQ.intro,uQ.intro,uQ.intro,uQ.intro}
 case st =>
  intro D kd R _ e {vs,y4,y5,y6,y7,y8,rfl,f4,f5,f6,f7,f8}
  let{w1,w2,w3,w4}:=W.part e;have le:=NJ e;let{r0,rt,er}:=qw (W.rw kd w3).1;have a0:atI (kd.2.tJ U4) 0=p' (U4 r0):=by rw[er];exact at0
  lk;apply Bn (I:=λ(Z:tH (tO×tH tO)) fs=>∃(vs:tH T)(y7 y8:tL Sl),fs=[vl (.tY (K.tJ BM)),vl (.tY ((K.tJ (·.1)).tJ .str)),p' (.uI (.tY ((D.tJ (·.1)).tJ .str))),p' (.uI (.v (B4 D++Z.tJ Vz) vs)),vl (.str kd.1),vl (.tY (kd.2.tJ U4)),vl (.str r0.1),y7,y8]/\vC y7/\vC y8)
  case hi=>trivial
  case h0=>exact{vs,y7,y8,by rw[pM,oJ],f7,f8}
  case st =>
   intro Z r Y _ e2 {vs,y7,y8,rfl,f7,f8}
   have gD:=NJ e2;have nk:=by rw[<- e2,nW,nV,<- oQ]at w1;exact λm=>(oW.mp w1).2.2 _ m _ n5 rfl
   let{_,c1,c2}:=Ka (W.xA _ (X0 w3 gD.2)) nk (W.two kd w3 r gD.2) (W.yN kd w3 r gD.2);have cg:=λh=>IW (m:=r.1) (W.gr D kd R e.symm r (by rw[er,Si w4 gD.2 (by rw[er];exact n5) (oy h)];rfl))
   lk
   .exact(cg hb).choose_spec.1
   .exact(cg hb).choose_spec.2
   lk
   .exact{_,_,_,by rw[nW,<- oQ];rfl,Al,Al}
   lk;exact{_,_,_,by rw[nW,<- oQ];rfl,Al,Al}
  case k =>
   intro _ {vs,y7,y8,rfl,f7,f8}
   lk;exact{vs,_,_,_,_,_,by rw[nW,nW,EL];rfl,Al,Al,Al,f7,f8}
 case k =>intro fs h;lk
end
def X4(h:Th)(hz:h.sz<=900):∃cs:tH tN,(cs.sum=(h.sz:tN)/\cs.fg=h.dp)/\∃τ,Cy [vl h.t]=.ok (.nw (.tY (cs.tJ T.tS))) τ:=by
 apply JaV;lk;apply O4 (α:=tH Th×tH tN) (λp fs=>∃x y z,fs=[vl h.t,p' (.uI (.tY (p.2.tJ T.tS))),vl (.tY (p.1.tJ Th.t)),x,y,z]/\p.2.sum+Th.szs p.1=h.sz/\p.2.fg+Th.dps p.1=h.dp/\p.2.fg+Th.szs p.1<=900/\vC x/\vC y/\vC z) (λp=>Th.szs p.1) (a:=([h],[]))
 case a=>exact{none,none,none,rfl,by simp[Th.szs],by simp[Th.dps],by simpa[Th.szs],uQ.intro,uQ.intro,uQ.intro}
 case a=>simp[Th.szs];lia
 intro{L,cs} _ {x,y,z,rfl,hs,hd,hl,fx,fy,fz}
 dsimp only at *;cases L with
 |vO =>refine .uW {Jag rfl rfl,?_};lk;exact ZE rfl {cs,rfl,by simpa[Th.szs]using hs,by simpa[Th.dps]using hd}
 |ux g L =>
  refine .uK {Jag rfl rfl,?_};have hf:=HR (g::L);have bP:=MS g L;generalize hL:g::L=LL at *;lk;apply Bn (I:=λD fs=>∃y z,fs=[vl h.t,p' (.uI (.tY (cs.tJ T.tS++[T.tS (LL.tJ Th.t).fg]))),vl (.tY (LL.tJ Th.t)),p' (.uI (.tY ((D.uH Th.ps).tJ Th.t))),y,z]/\vC y/\vC z)
  case hi=>trivial
  case h0=>exact{y,z,rfl,fy,fz}
  case st =>
   intro D g R _ e {y,z,rfl,fy,fz}
   have hg:=WC (LL.uH Th.ps);rw[<- e,oP,oO,n9,n9,<- oO,<- oP,e]at hg;have hg:((D.uH Th.ps).tJ Th.t).fg+(g.ps.tJ Th.t).fg<=1000000:=by rw[nU,nU];lia
   let{m,et}:=g.t_eq;rw[et];lk;exact{_,_,by rw[oP,nW,tH.flatMap_singleton];rfl,Al,Al}
  case k =>
   intro _ {y,z,rfl,fy,fz}
   lk;have hn:=uC tH.fg hL;simp at hn;exact{(LL.uH Th.ps,cs++[(LL.fg:tN)]),by dsimp only;lia,_,_,_,by rw[nW,nU];rfl,by simp;lia,by simp;lia,by simp;lia,Al,fy,fz}
def LG(h:Th)(hz:h.sz<=900):∃τ,Ci [vl h.t]=.ok (.t (wt h)) τ:=by
 let{cs,{hs,hd},_,e}:=X4 h hz;apply Cp;lk
 .exact Jav (Ah rfl)
 lk;simp[wt,hs,hd]
def wt_c{hs:tH Th}{k:tN}(h1:fs[1]?=p' (vl (.tY (hs.tJ wt))))(hq:∀h:Th,atI [h.t,.tS h.sz,.tS h.dp] k=p' (q h))(hl:hs.fg<=1000):AW false [none] (itU (fz (Aa 1))) (wd 0) CG (Ag Aw (Aa 0) (gc (.tS k))) fs=.ok (.t (.tY (hs.tJ q))) fs:=by
 apply LC
 .have:=Ah h1;lk
 .lk
 .apply DH
  .lk
  .intro h _;have:=hq h;lk
  .exact hl
def JbK(m:tO)(hs:tH Th)(hl:hs.fg<=1000):if fits (.mk m hs)=true then ∃τ,J3 [vl (.str m),vl (.tY (hs.tJ wt))]=.ok (.t (wt (.mk m hs))) τ else ∃τ,J3 [vl (.str m),vl (.tY (hs.tJ wt))]=.wy "TooLong" τ:=by
 have es:=OB hs;have ed:=Y4 hs;have ef:fits (.mk m hs)=true↔1+Th.szs hs<=300/\1+Th.dps hs<=40:=by unfold fits;rw[decide_eq_true_iff,Th.sz,Th.dp]
 split<;>rename_i h<;>rw[ef]at h
 .apply Cp;lk
  .exact LB (wt_c rfl (λh=>at1) hl) rfl
  lk
  .exact UN (wt_c rfl (λh=>at2) hl) rfl
  lk;rw[es,ed];apply JA
  .apply Vn<;>trivial
  .intro hb;simp at hb
   lia
  intro _;lk
  .apply DH
   .lk
   .intro h _;lk
   .exact hl
  lk;simp[wt,Th.t,Th.By,Th.sz,Th.dp]
 .apply JaO;lk
  .exact LB (wt_c rfl (λh=>at1) hl) rfl
  lk
  .exact UN (wt_c rfl (λh=>at2) hl) rfl
  lk;apply JA
  .apply Vn<;>trivial
  .lk
  .intro hb;simp at hb
   lia
section
variable{cP cR:Addr}{P:T}{a b:Addr}{n:Int}{w W:List T}
def LQ{k:tQ}(vs:tH T)(hk:k=vs.fg)(hl:k<=900):∃τ,Cj cR [bO cR P a b n w (W++vs),iv k]=.ok (.nw (.tY vs)) (bO cR P a b n w W::τ):=by
 subst hk;apply q_exS;lk;apply Bn (I:=λD fs=>∃x,fs=[bO cR P a b n w (W++vs.uB (vs.fg-D.fg)),iv vs.fg,p' (.uI (.tY (vs.drop (vs.fg-D.fg)).vn)),x]/\vC x)
 case hi=>exact Nd (by lk) rfl (by lia)
 case h0=>exact{none,by simp,uQ.intro}
 case st =>
  intro D k R _ e {x,rfl,fx}
  let{rfl,hk}:=FQ e;obtain⟨j,hj⟩:∃j,vs.fg-D.fg=j+1:={vs.fg-D.fg-1,by lia}
  rw[hj,pS (by lia),<- oQ];lk;rw[show vs.fg-(D++[D.fg]).fg=j by simp;rw[tQ.sub_add_eq,hj];rfl,pR (i:=j) (by lia),tH.reverse_cons];exact{_,rfl,Al}
 case k =>
  intro _ {x,rfl,fx}
  rw[px,tQ.sub_self,tH.take_zero,oJ,tH.drop_zero];lk
  .exact Ol rfl
  rw[tH.reverse_reverse];exact q_i {_,rfl}
def Fz{d:tN}(hl:w.fg+as.fg<=80000):∃τ,A7 cR [bO cR P a b n w W,vl (.uj [f,h,.uj as]),vl ρ,iv d]=.ok (.t .vG) (bO cR P a b n (w++[wi (.uj [f,h,.uj as]) ρ d true]++as.vn.tJ λt=>wi t ρ d false) W::τ):=by
 apply JaW;lk;apply D2 (I:=λD fs=>∃x,fs=[bO cR P a b n (w++[wi (.uj [f,h,.uj as]) ρ d true]++D.tJ λt=>wi t ρ d false) W,vl (.uj [f,h,.uj as]),vl ρ,iv d,x]/\vC x)
 case hi =>rw[tH.map_id];exact it_vt (by lk)
 case h0=>exact{none,by rw[pM,oJ];rfl,uQ.intro}
 case st =>
  intro D t R _ e {x,rfl,fx}
  have:=uC tH.fg e;simp at this;lk;exact{_,by rw[nW,<- oQ];rfl,Al}
 case k =>
  intro _ {x,rfl,fx}
  exact q_i {_,rfl}
def Zm{hs:tH Th}{d:tN}(h:n<=0\/20<d):∃τ,Bl cP cR [bO cR P a b n w W,vl (.str f),vl (.tY (hs.tJ wt)),iv d]=.wy "TooLong" (bO cR P a b n w W::τ):=by
 apply q_exX;rcases h with h|h
 .lk
  .exact q_i {_,rfl}
  lk
 .lk
  .exact q_i {_,rfl}
  lk
  .exact q_i {_,rfl}
  lk
def Lw{ps uu:tH Th}{d:tN}(hn:0<n)(hd:d<=20)(hP:∀fs,Cw cP "row" fs (.t P)=true)(gm:Bk cP [vl P,vl (.str f),vl (.str m)]=.ok (.t (.uj [.uj (xs.tJ T.str),vR])) [vl P,vl (.str f),vl (.str m)])
  (hx:xs.uA) (iY:xs.fg=ps.fg+uu.fg) (hz:∀h∈ps,h.sz<=900) (hl:ps.fg+uu.fg<=100) (hw:w.fg<=80000) :
  ∃τ,Bl cP cR [bO cR P a b n w W,vl (.str f),vl (.tY ((Th.mk m ps::uu).tJ wt)),iv d]=.ok (.t .vG) (bO cR P a b (n-1) (w++[wi vR (Ek xs (ps++uu)) (d+1) false]) W::τ):=by
 rw[show Ek xs (ps++uu)=.v (xs.tJ λx=>(.uK x:vc)) (ps.tJ wt++uu.tJ wt) by unfold Ek;rw[nW],nV,show wt (.mk m ps)=.uj [.uj [.str m,.uj (ps.tJ Th.t)],.tS (Th.mk m ps).sz,.tS (Th.mk m ps).dp] by simp[wt,Th.t,Th.By]];apply JaW;lk;refine AN WD ?_;lk
 .exact hP _
 lk
 .apply DH
  .lk
  .intro h mh;let{_,e}:=LG h (hz h mh);lk
  .lia
 lk
 .exact hx
 .simpa using iY
 lk
end
section
variable{cP cR:Addr}{P:T}{a b:Addr}{n:Int}{w W:List T}{x1 x2 y3 y4 y5 y6:Option Sl}
def Nk{d:tN}(f3:vC y3)(f4:vC y4)(f5:vC y5)(f6:vC y6)(hl:W.fg<100000)(hx:BB (xs.tJ λx=>(.uK x:vc)) (hs.tJ wt) (.uK x:vc)=p' (wt h)):vL (Tn cR P a b x1 x2 n w (W++[wt h])) (wB cP cR (fr cR P a b x1 x2 n (w++[wi (Ex.nm x).t (Ek xs hs) d r]) W y3 y4 y5 y6)):=by lk
def Nj{aT m:tO}{d:tN}(f3:vC y3)(f4:vC y4)(f5:vC y5)(f6:vC y6)(h:aT≠"name")(hl:w.fg+as.fg<=80000):vL (Tn cR P a b x1 x2 n (w++[wi (.uj [.str aT,.str m,.uj as]) ρ d true]++as.vn.tJ λt=>wi t ρ d false) W) (wB cP cR (fr cR P a b x1 x2 n (w++[wi (.uj [.str aT,.str m,.uj as]) ρ d false]) W y3 y4 y5 y6)):=by let{_,e}:=Fz (ρ:=ρ) hl;lk
section
variable{f m:Str}{as:List T}{hs ps rest:List Th}{ρ:T}{d:Int}(f3:Fre y3)(f4:Fre y4)(f5:Fre y5)(f6:Fre y6)
include f3 f4 f5 f6
def Np(hl:hs.fg<=900)(hW:W.fg<100000)(ha:as.fg=hs.fg)(hf:fits (.mk m hs)=true):vL (Tn cR P a b x1 x2 n w (W++[wt (.mk m hs)])) (wB cP cR (fr cR P a b x1 x2 n (w++[wi (.uj [.str "make",.str m,.uj as]) ρ d true]) (W++hs.tJ wt) y3 y4 y5 y6)):=by let{_,e1}:=LQ (hs.tJ wt) (by simpa) (by lia);have e2:=JbK m hs (by lia);rw[tW hf]at e2;let{_,e2}:=e2;lk
def Nl(hl:hs.fg<=900)(ha:as.fg=hs.fg)(hf:¬fits (.mk m hs)=true):vL (λy=>∃τ,y=.wy "TooLong" τ) (wB cP cR (fr cR P a b x1 x2 n (w++[wi (.uj [.str "make",.str m,.uj as]) ρ d true]) (W++hs.tJ wt) y3 y4 y5 y6)):=by let{_,e1}:=LQ (hs.tJ wt) (by simpa) (by lia);have e2:=JbK m hs (by lia);rw[ug hf]at e2;let{_,e2}:=e2;have hX:=a_worX (uu:=[x1,x2,vl (.uj [.str "make",.str m,.uj as]),vl ρ,iv d,vl (.l true)]) (VH (Ki (fa:=Ac (Ag Aw (Aa 3) (gc (.tS 1))) (Ac (tkF cR) Ae)) (rs:=[.t (.str m),.t (.tY (hs.tJ wt))]) (by lk) rfl rfl e2));lk
def Nt(h:n<=0\/20<d)(hl:hs.fg<=900)(ha:as.fg=hs.fg):vL (λy=>∃τ,y=.wy "TooLong" τ) (wB cP cR (fr cR P a b x1 x2 n (w++[wi (.uj [.str "call",.str f,.uj as]) ρ d true]) (W++hs.tJ wt) y3 y4 y5 y6)):=by let{_,e1}:=LQ (hs.tJ wt) (by simpa) (by lia);let{_,e2}:=Zm h;have hX:=J4 (m_abX (uu:=[x1,x2,vl (.uj [.str "call",.str f,.uj as]),vl ρ,iv d,vl (.l true)]) (fa:=Ac (Ag Aw (Aa 3) (gc (.tS 1))) (Ac (tkF cR) (Ac (fz (Aa 5)) Ae))) (x:=.str f) (y:=.tY (hs.tJ wt)) (z:=.tS d) (by lk) e2);lk
def Nr(ha:as.fg=(Th.mk m ps::uu).fg)(hn:0<n)(hd:d<=20)(hP:∀fs,Cw cP "row" fs (.t P)=true)(gm:Bk cP [vl P,vl (.str f),vl (.str m)]=.ok (.t (.uj [.uj (xs.tJ T.str),vR])) [vl P,vl (.str f),vl (.str m)])
  (hx:xs.uA) (iY:xs.fg=ps.fg+uu.fg) (hz:∀h∈ps,h.sz<=900) (hl:ps.fg+uu.fg<=100) (hw:w.fg<=80000):vL (Tn cR P a b x1 x2 (n-1) (w++[wi vR (Ek xs (ps++uu)) (d+1) false]) W) (wB cP cR (fr cR P a b x1 x2 n (w++[wi (.uj [.str "call",.str f,.uj as]) ρ d true]) (W++(Th.mk m ps::uu).tJ wt) y3 y4 y5 y6)):=by
 let{_,e1}:=LQ ((Th.mk m ps::uu).tJ wt) (by simpa using ha) (by simp at ha;lia);let{_,e2}:=Lw hn hd hP gm hx iY hz hl hw;lk
end
end
structure RC where
 cP:tV
 cR:tV
 P:T
 a:tV
 b:tV
 x1:tL Sl
 x2:tL Sl
abbrev RC.f(c:RC)(n:tN)(w W:tH T)(y3 y4 y5 y6:tL Sl):FS:=fr c.cR c.P c.a c.b c.x1 c.x2 n w W y3 y4 y5 y6
abbrev RC.lp(c:RC):tQ->FS->SO:=BY (wC c.cR) (wB c.cP c.cR)
def Go (c:RC)(k:tQ)(n:tN)(w W:tH T)(n':tN)(w' W':tH T):Prop:=∀y3 y4 y5 y6,vC y3->vC y4->vC y5->vC y6->∀j,∃z3 z4 z5 z6,vC z3/\vC z4/\vC z5/\vC z6/\c.lp (j+k) (c.f n w W y3 y4 y5 y6)=c.lp j (c.f n' w' W' z3 z4 z5 z6)
def No (c:RC)(k:tQ)(n:tN)(w W:tH T):Prop:=∀y3 y4 y5 y6,vC y3->vC y4->vC y5->vC y6->∀j,∃τ,c.lp (j+k) (c.f n w W y3 y4 y5 y6)=.wy "TooLong" τ
section
variable{c:RC}{k k1 k2:Nat}{n n1 n2:Int}{w w1 w2 W W1 W2:List T}
def Go.uV:Go c 0 n w W n w W:=λy3 y4 y5 y6 f3 f4 f5 f6 j=>{y3,y4,y5,y6,f3,f4,f5,f6,rfl}
def Go.then(h:Go c k1 n w W n1 w1 W1)(h2:Go c k2 n1 w1 W1 n2 w2 W2):Go c (k2+k1) n w W n2 w2 W2:=λy3 y4 y5 y6 f3 f4 f5 f6 j=>by let{z3,z4,z5,z6,g3,g4,g5,g6,e}:=h y3 y4 y5 y6 f3 f4 f5 f6 (j+k2);let{u3,u4,u5,u6,q3,q4,q5,q6,e2}:=h2 z3 z4 z5 z6 g3 g4 g5 g6 j;exact{u3,u4,u5,u6,q3,q4,q5,q6,by rw[<- tQ.add_assoc,e,e2]}
def Go.no(h:Go c k1 n w W n1 w1 W1)(h2:No c k2 n1 w1 W1):No c (k2+k1) n w W:=λy3 y4 y5 y6 f3 f4 f5 f6 j=>by let{z3,z4,z5,z6,g3,g4,g5,g6,e}:=h y3 y4 y5 y6 f3 f4 f5 f6 (j+k2);let{τ,e2}:=h2 z3 z4 z5 z6 g3 g4 g5 g6 j;exact{τ,by rw[<- tQ.add_assoc,e,e2]}
def Jaa:wC c.cR (c.f n (w++[i]) W y3 y4 y5 y6)=.ok true (c.f n (w++[i]) W y3 y4 y5 y6):=by have:=UW (i:=0) (fs:=c.f n (w++[i]) W y3 y4 y5 y6) rfl Ga;exact this.trans (by simp)
def go1(h:∀y3 y4 y5 y6,vC y3->vC y4->vC y5->vC y6->vL (Tn c.cR c.P c.a c.b c.x1 c.x2 n1 w1 W1) (wB c.cP c.cR (c.f n (w++[i]) W y3 y4 y5 y6))):Go c 1 n (w++[i]) W n1 w1 W1:=λy3 y4 y5 y6 f3 f4 f5 f6 j=>by let{z3,z4,z5,z6,e}:=tn_o (h y3 y4 y5 y6 f3 f4 f5 f6);exact{_,_,_,_,Al,Al,Al,Al,LF Jaa e}
def no1(h:∀y3 y4 y5 y6,vC y3->vC y4->vC y5->vC y6->vL (λy=>∃τ,y=.wy "TooLong" τ) (wB c.cP c.cR (c.f n (w++[i]) W y3 y4 y5 y6))):No c 1 n (w++[i]) W:=λy3 y4 y5 y6 f3 f4 f5 f6 j=>by let{τ,e}:=q_o (h y3 y4 y5 y6 f3 f4 f5 f6);refine{τ,?_};show BY _ _ (j+1) _=_;rw[BY,Jaa];show(match wB c.cP c.cR _ with|.nx fs=>_|.cnt fs=>_|.brk fs=>_|o=>o)=_;rw[e]
end
section
variable(c:RC)(s:Nat)(xs:List Str)(hs:List Th)(d:Nat)(n:Int)
def Ev (e:Ex)(v:Th)(n':tN)(k:tQ):Prop:=∀w W,w.fg+W.fg<=200*d+s->Go c k n (w++[wi e.t (Ek xs hs) d false]) W n' w (W++[wt v])
def EvN (e:Ex)(k:tQ):Prop:=∀w W,w.fg+W.fg<=200*d+s->No c k n (w++[wi e.t (Ek xs hs) d false]) W
def EvL (es:tH Ex)(vs:tH Th)(n':tN)(k:tQ):Prop:=∀w W,w.fg+W.fg+es.fg<=200*d+s->Go c k n (w++(es.tJ λe=>wi e.t (Ek xs hs) d false).vn) W n' w (W++vs.tJ wt)
def EvLN (es:tH Ex)(k:tQ):Prop:=∀w W,w.fg+W.fg+es.fg<=200*d+s->No c k n (w++(es.tJ λe=>wi e.t (Ek xs hs) d false).vn) W
end
section
variable{c:RC}{s:Nat}{xs ys:List Str}{hs vs ps rest:List Th}{d:Nat}{n n1 n2:Int}{v:Th}{e body:Ex}{es:List Ex}{k k1 k2:Nat}{f m:Str}
def ev_nm(hx:BB (xs.tJ λx=>(.uK x:vc)) (hs.tJ wt) (.uK x:vc)=p' (wt v))(hd:d<=30)(bx:s<=1000):Ev c s xs hs d n (.nm x) v n 1:=λw W hl=>go1 λy3 y4 y5 y6 f3 f4 f5 f6=>Nk f3 f4 f5 f6 (by lia) hx
def YZ:EvL c s xs hs d n [] [] n 0:=λw W _=>by simpa using Go.uV
def Ua(h1:Ev c s xs hs d n e v n1 k1)(h2:EvL c s xs hs d n1 es vs n2 k2):EvL c s xs hs d n (e::es) (v::vs) n2 (k2+k1):=λw W hl=>by
 rw[om]at hl;have:=(h1 (w++(es.tJ λe=>wi e.t (Ek xs hs) d false).vn) W (by simp;lia)).then (h2 w (W++[wt v]) (by simp;lia))
 simpa using this
def YY(h1:EvN c s xs hs d n e k1):EvLN c s xs hs d n (e::es) k1:=λw W hl=>by rw[om]at hl;simpa using (h1 (w++(es.tJ λe=>wi e.t (Ek xs hs) d false).vn) W (by simp;lia))
def YX(h1:Ev c s xs hs d n e v n1 k1)(h2:EvLN c s xs hs d n1 es k2):EvLN c s xs hs d n (e::es) (k2+k1):=λw W hl=>by rw[om]at hl;have:=(h1 (w++(es.tJ λe=>wi e.t (Ek xs hs) d false).vn) W (by simp;lia)).no (h2 w (W++[wt v]) (by simp;lia));simpa using this
def EO{aT h:tO}(hf:aT≠"name")(hl:w.fg+es.fg<=80000):Go c 1 n (w++[wi (.uj [.str aT,.str h,.uj (Ex.ts es)]) (Ek xs hs) d false]) W n (w++[wi (.uj [.str aT,.str h,.uj (Ex.ts es)]) (Ek xs hs) d true]++(es.tJ λe=>wi e.t (Ek xs hs) d false).vn) W :=
 go1 λy3 y4 y5 y6 f3 f4 f5 f6=>by have:=Nj (cP:=c.cP) (cR:=c.cR) (P:=c.P) (a:=c.a) (b:=c.b) (n:=n) (w:=w) (W:=W) (x1:=c.x1) (x2:=c.x2) (m:=h) (as:=Ex.ts es) (ρ:=Ek xs hs) (d:=d) f3 f4 f5 f6 hf (by rwa[Ex.By,nU]);simp![Ex.By,<- qN,oj]at this ⊢;exact this
def ev_mk(h:EvL c (s+1+es.fg) xs hs d n es vs n1 k)(hv:vs.fg=es.fg)(hf:fits (.mk m vs)=true)(hd:d<=30)(bx:s+es.fg<=500):Ev c s xs hs d n (.mk m es) (.mk m vs) n1 (1+(k+1)):=λw W hl=>by
 have et:(Ex.mk m es).t=.uj [.str "make",.str m,.uj (Ex.ts es)]:=by simp[Ex.t]
 refine((EO IC.2.1 (by lia)).then (h _ W (by simp;lia))).then (go1 λy3 y4 y5 y6 f3 f4 f5 f6=>Np f3 f4 f5 f6 (by lia) (by lia) (by rw[Ex.By,nU];lia) hf)
def ev_mkN(h:EvLN c (s+1+es.fg) xs hs d n es k)(bx:s+es.fg<=500)(hd:d<=30):EvN c s xs hs d n (.mk m es) (k+1):=λw W hl=>by
 have et:(Ex.mk m es).t=.uj [.str "make",.str m,.uj (Ex.ts es)]:=by simp[Ex.t]
 exact(EO IC.2.1 (by lia)).no (h _ W (by simp;lia))
def ev_mkF(h:EvL c (s+1+es.fg) xs hs d n es vs n1 k)(hv:vs.fg=es.fg)(hf:fits (.mk m vs)=false)(hd:d<=30)(bx:s+es.fg<=500):EvN c s xs hs d n (.mk m es) (1+(k+1)):=λw W hl=>by
 have et:(Ex.mk m es).t=.uj [.str "make",.str m,.uj (Ex.ts es)]:=by simp[Ex.t]
 refine((EO IC.2.1 (by lia)).then (h _ W (by simp;lia))).no (no1 λy3 y4 y5 y6 f3 f4 f5 f6=>Nl f3 f4 f5 f6 (by lia) (by rw[Ex.By,nU];lia) (by rw[hf];simp))
structure Row(c:RC)(f m:tO)(ys:tH tO)(vR:Ex):Prop where
 vE:∀fs,Cw c.cP "row" fs (.t c.P)=true
 row:Bk c.cP [vl c.P,vl (.str f),vl (.str m)]=.ok (.t (.uj [.uj (ys.tJ T.str),vR.t])) [vl c.P,vl (.str f),vl (.str m)]
 nd:ys.uA
def Qu(R:Row c f m ys vR)(h:EvL c (s+1+es.fg) xs hs d n es (.mk m ps::uu) n1 k)(hv:(Th.mk m ps::uu).fg=es.fg)(hn:0<n1)(hd:d<=20)(gx:ys.fg=ps.fg+uu.fg)(hz:∀h∈ps,h.sz<=900)(bb:ps.fg+uu.fg<=100)(bx:s+es.fg<=200){w W:tH T}(hl:w.fg+W.fg<=200*d+s):
  Go c (1+(k+1)) n (w++[wi (Ex.cl f es).t (Ek xs hs) d false]) W (n1-1) (w++[wi vR.t (Ek ys (ps++uu)) ((d+1:tQ):tN) false]) W:=by
 have et:(Ex.cl f es).t=.uj [.str "call",.str f,.uj (Ex.ts es)]:=by simp[Ex.t]
 refine((EO IC.2.2.1 (by lia)).then (h _ W (by simp at hv ⊢;lia))).then (go1 λy3 y4 y5 y6 f3 f4 f5 f6=>Nr (d:=(d:tN)) f3 f4 f5 f6 (by rw[Ex.By,nU];lia) hn (by lia) R.vE R.row R.nd gx hz bb (by lia))
def ev_cl(R:Row c f m ys vR)(h:EvL c (s+1+es.fg) xs hs d n es (.mk m ps::uu) n1 k)(hv:(Th.mk m ps::uu).fg=es.fg)(hn:0<n1)(hd:d<=20)(gx:ys.fg=ps.fg+uu.fg)(hz:∀h∈ps,h.sz<=900)(bb:ps.fg+uu.fg<=100)(bx:s+es.fg<=200)
  (hb:Ev c 0 ys (ps++uu) (d+1) (n1-1) vR v n2 k2):Ev c s xs hs d n (.cl f es) v n2 (k2+(1+(k+1))):=λw W hl=>(Qu R h hv hn hd gx hz bb bx hl).then (hb w W (by lia))
def ev_clN(R:Row c f m ys vR)(h:EvL c (s+1+es.fg) xs hs d n es (.mk m ps::uu) n1 k)(hv:(Th.mk m ps::uu).fg=es.fg)(hn:0<n1)(hd:d<=20)(gx:ys.fg=ps.fg+uu.fg)(hz:∀h∈ps,h.sz<=900)(bb:ps.fg+uu.fg<=100)(bx:s+es.fg<=200)
  (hb:EvN c 0 ys (ps++uu) (d+1) (n1-1) vR k2):EvN c s xs hs d n (.cl f es) (k2+(1+(k+1))):=λw W hl=>(Qu R h hv hn hd gx hz bb bx hl).no (hb w W (by lia))
def VS(h:EvL c (s+1+es.fg) xs hs d n es vs n1 k)(hv:vs.fg=es.fg)(hx:n1<=0\/20<d)(hd:d<=30)(bx:s+es.fg<=200):EvN c s xs hs d n (.cl f es) (1+(k+1)):=λw W hl=>by
 have et:(Ex.cl f es).t=.uj [.str "call",.str f,.uj (Ex.ts es)]:=by simp[Ex.t]
 refine((EO IC.2.2.1 (by lia)).then (h _ W (by simp;lia))).no (no1 λy3 y4 y5 y6 f3 f4 f5 f6=>Nt f3 f4 f5 f6 (by lia) (by lia) (by rw[Ex.By,nU];lia))
end
mutual
def Ex.sz:Ex->Nat
 |.nm _=>1
 |.mk _ es=>2+Ex.szs es
 |.cl _ es=>2+Ex.szs es
def Ex.szs:List Ex->Nat
 | []=>0
 |e::es=>e.sz+Ex.szs es
end
mutual
def Ex.dp:Ex->Nat
 |.nm _=>1
 |.mk _ es=>1+Ex.dps es
 |.cl _ es=>1+Ex.dps es
def Ex.dps:List Ex->Nat
 | []=>0
 |e::es=>max e.dp (Ex.dps es)
end
def lkp {α:Type}:tH tO->tH α->tO->tL α
 |x::xs,a::as,y=>if x=y then p' a else lkp xs as y
 |_,_,_=>none
def KD{α:Type}{f:α->T}:∀(xs:tH tO)(as:tH α),BB (xs.tJ λx=>(.uK x:vc)) (as.tJ f) (.uK y:vc)=(lkp xs as y).tJ f
 | [],_=>by simp[BB,lkp]
 |x::xs,[]=>by simp[BB,lkp]
 |x::xs,a::as=>by
  have:=KD (f:=f) (y:=y) xs as;by_cases h:x=y
  .simp[BB,lkp,h]
  .simp[BB,lkp,h,this]
section
variable(K:Kd)
mutual
def Tk:Th->Str->Prop
 |.mk m ps,k=>∃kd∈K,kd.1=k/\∃qs,(m,qs)∈kd.2/\Tks ps qs
def Tks:List Th->List Str->Prop
 | [],[]=>True
 |p::ps,q::qs=>Tk p q/\Tks ps qs
 |_,_=>False
end
variable(hd:Str->Option (List Str×Str))(xs ks:List Str)
mutual
def Xk:Ex->Str->Prop
 |.nm x,k=>lkp xs ks x=some k
 |.mk m es,k=>∃kd∈K,kd.1=k/\∃qs,(m,qs)∈kd.2/\Xks es qs
 |.cl f es,k=>∃qs,hd f=some (qs,k)/\Xks es qs
def Xks:List Ex->List Str->Prop
 | [],[]=>True
 |e::es,q::qs=>Xk e q/\Xks es qs
 |_,_=>False
end
end
def Tks.app:∀{a b:tH Th}{x y:tH tO},Tks K a x->Tks K b y->Tks K (a++b) (x++y)
 | [],_,[],_,_,h=>h
 |_::_,_,_::_,_,h,k=>{h.1,Tks.app h.2 k}
 | [],_,_::_,_,h,_=>h.tU
 |_::_,_,[],_,h,_=>h.tU
def Tks.wv:∀{a:tH Th}{x:tH tO},Tks K a x->a.fg=x.fg
 | [],[],_=>rfl
 |_::_,_::_,h=>uC (·+1) (Tks.wv h.2)
 | [],_::_,h=>h.tU
 |_::_,[],h=>h.tU
def Tks.at:∀{xs:tH tO}{hs:tH Th}{ks:tH tO},Tks K hs ks->lkp xs ks x=p' k->∃h,lkp xs hs x=p' h/\Tk K h k/\h∈hs
 | [],_,_,_,e=>by simp[lkp]at e
 |_::_,[],[],_,e=>by simp[lkp]at e
 |y::ys,h::hs,q::qs,t,e=>by
  unfold lkp at e ⊢;by_cases c:y=x
  .rw[tW c]at e ⊢;cases e;exact{h,rfl,t.1,by simp}
  .rw[ug c]at e ⊢;let{g,e1,e2,e3}:=Tks.at t.2 e;exact{g,e1,e2,by simp[e3]}
 |_,[],_::_,h,_=>h.tU
 |_,_::_,[],h,_=>h.tU
section
variable(rw:Str->Str->Option (List Str×Ex))
mutual
noncomputable def wE(B:List Str->List Th->Ex->Nat->Option (Th×Nat))(ok:Bool)(xs:List Str)(hs:List Th):Ex->Nat->Option (Th×Nat)
 |.nm x,n=>(lkp xs hs x).map (·,n)
 |.mk m es,n=>match wL B ok xs hs es n with|some (vs,n')=>if fits (.mk m vs)=true then some (.mk m vs,n')else none|none=>none
 |.cl f es,n=>match wL B ok xs hs es n with
  |some (.mk m ps::r,n'+1)=>if ok=true then match rw f m with
   |some (ys,b)=>B ys (ps++r) b n'
   |none=>none
   else none
  |_=>none
noncomputable def wL(B:List Str->List Th->Ex->Nat->Option (Th×Nat))(ok:Bool)(xs:List Str)(hs:List Th):List Ex->Nat->Option (List Th×Nat)
 | [],n=>some ([],n)
 |e::es,n=>match wE B ok xs hs e n with
  |some (v,n1)=>match wL B ok xs hs es n1 with|some (vs,n2)=>some (v::vs,n2)|none=>none
  |none=>none
end
def wW :tQ->tH tO->tH Th->Ex->tQ->tL (Th×tQ)
 |0=>wE rw (λ_ _ _ _=>none) false
 |l+1=>wE rw (wW l) true
end
structure PgOk(K:Kd)(hd:tO->tL (tH tO×tO))(rw:tO->tO->tL (tH tO×Ex))(S:tQ):Prop where
 two:∀kd∈K,∀r∈kd.2,r.2.fg<=2
 arg:∀f qs k,hd f=p' (qs,k)->qs≠[]/\qs.fg<=3
 row:∀f q qs k kd m ps,hd f=p' (q::qs,k)->kd∈K->kd.1=q->(m,ps)∈kd.2->∃ys b,rw f m=p' (ys,b)/\ys.uA/\ys.fg=(ps++qs).fg/\Xk K hd ys (ps++qs) b k/\b.sz<=S/\b.dp<=7
def Th.szm:∀{hs:tH Th},h∈hs->h.sz<=Th.szs hs
 |g::gs,m=>by
  rw[Th.szs];rcases oz.mp m with rfl|m
  .lia
  .have:=Th.szm m;lia
def Th.dpm:∀{hs:tH Th},h∈hs->h.dp<=Th.dps hs
 |g::gs,m=>by
  rw[Th.dps];rcases oz.mp m with rfl|m
  .lia
  .have:=Th.dpm m;lia
abbrev Ft(h:Th):Prop:=h.sz<=300/\h.dp<=40
section
variable(K:Kd)(c:RC)(S s:Nat)(xs:List Str)(hs:List Th)(d n:Nat)
def ME (e:Ex)(k:tO):tL (Th×tQ)->Prop
 |p' (v,n')=>Tk K v k/\Ft v/\n'<=n/\∃j,Ev c s xs hs d n e v n' j/\j+S*n'<=e.sz+S*n
 |none=>∃j,EvN c s xs hs d n e j/\j<=e.sz+S*n
def ML (es:tH Ex)(ks:tH tO):tL (tH Th×tQ)->Prop
 |p' (vs,n')=>Tks K vs ks/\(∀v∈vs,Ft v)/\vs.fg=es.fg/\n'<=n/\∃j,EvL c s xs hs d n es vs n' j/\j+S*n'<=Ex.szs es+S*n
 |none=>∃j,EvLN c s xs hs d n es j/\j<=Ex.szs es+S*n
end
section
variable{K:Kd}{hd:Str->Option (List Str×Str)}{rw:Str->Str->Option (List Str×Ex)}{S:Nat}{c:RC}{xs ks:List Str}{hs:List Th}{d:Nat}{B:List Str->List Th->Ex->Nat->Option (Th×Nat)}{ok:Bool}
def Xks.wv:∀{es:tH Ex}{qs:tH tO},Xks K hd xs ks es qs->es.fg=qs.fg
 | [],[],_=>rfl
 |_::_,_::_,h=>uC (·+1) (Xks.wv h.2)
 | [],_::_,h=>h.tU
 |_::_,[],h=>h.tU
mutual
theorem mE(P:PgOk K hd rw S)(R:∀f m ys b,rw f m=some (ys,b)->Row c f m ys b)(hT:Tks K hs ks)(hz:∀h∈hs,Ft h)(d1:d<=21)(ho:ok=true↔d<=20)
  (IH:ok=true->∀ys gs qs b n k,Tks K gs qs->(∀h∈gs,Ft h)->Xk K hd ys qs b k->b.sz<=S->b.dp<=7->ME K c S 0 ys gs (d+1) n b k (B ys gs b n)) :
  ∀(e:Ex)(k:Str)(n s:Nat),Xk K hd xs ks e k->s+4*e.dp<=100->ME K c S s xs hs d n e k (wE rw B ok xs hs e n)
 |.nm x,k,n,s,h,l=>by obtain⟨v,e,t,m⟩:=hT.at h;simp only[wE,e,pd];refine⟨t,hz v m,oh _,1,ev_nm ?_ (by lia) (by lia),by rw[Ex.sz];lia⟩;rw[KD,e];rfl
 |.mk m es,k,n,s,h,l=>by
  obtain⟨kd,hk,rfl,qs,hm,hX⟩:=h;rw[Ex.dp]at l;have h2:=P.two kd hk _ hm;have hl:=hX.len;have q:=mL P R hT hz d1 ho IH es qs n (s+1+es.length) hX (by simp at h2;lia);simp only[wE];cases e:wL rw B ok xs hs es n with
  |none =>rw[e]at q;obtain⟨j,q,b⟩:=q;exact⟨_,ev_mkN q (by simp at h2;lia) (by lia),by rw[Ex.sz];lia⟩
  |some p =>
   obtain⟨vs,n'⟩:=p;rw[e]at q;obtain⟨t,z,vl,nn,j,q,b⟩:=q;by_cases f:fits (.mk m vs)=true
   .simp only[f,if_true];exact⟨⟨kd,hk,rfl,qs,hm,t⟩,oy f,nn,_,ev_mk q vl f (by lia) (by simp at h2;lia),by rw[Ex.sz];lia⟩
   .simp only[f];exact⟨_,ev_mkF q vl (by simpa using f) (by lia) (by simp at h2;lia),by rw[Ex.sz];have:=pB (S*n');lia⟩
 |.cl f es,k,n,s,h,l=>by
  obtain⟨qs,hh,hX⟩:=h;rw[Ex.dp]at l;obtain⟨ne,h3⟩:=P.arg f qs k hh;have hl:=hX.len;have q:=mL P R hT hz d1 ho IH es qs n (s+1+es.length) hX (by lia);simp only[wE];cases e:wL rw B ok xs hs es n with
  |none =>
   rw[e]at q;obtain⟨j,q,b⟩:=q;refine⟨j+1,λw W hl=>?_,by rw[Ex.sz];lia⟩;have et:(Ex.cl f es).t=.tup [.str "call",.str f,.tup (Ex.ts es)]:=by simp[Ex.t]
   rw[et];exact(EO HG.2.1 (by lia)).no (q _ W (by simp;lia))
  |some p =>
   obtain⟨vs,n'⟩:=p;rw[e]at q;obtain⟨t,z,vl,nn,j,q,b⟩:=q;cases vs with
   |nil=>exact absurd (t.len.symm) (by cases qs with|nil=>exact absurd rfl ne|cons _ _=>simp)
   |cons v r =>
    cases qs with
    |nil=>exact absurd rfl ne
    |cons q0 qs =>
    obtain⟨m,ps⟩:=v;obtain⟨⟨kd,hk,hq,pk,hm,tp⟩,tr⟩:=t;cases n' with
    |zero =>simp only;exact⟨_,VS q vl (.inl (by simp)) (by lia) (by lia),by rw[Ex.sz];lia⟩
    |succ n' =>
     simp only;by_cases o:ok=true
     .have yJ:=ho.mp o;obtain⟨ys,bd,er,nd,yl,bX,bS,bD⟩:=P.row f q0 qs k kd m pk hh hk hq hm;have mz:=z (.mk m ps) (by simp);unfold Ft at mz;rw[Th.sz,Th.dp]at mz;have pz:∀h∈ps++r,Ft h:=λh m=>by
       rcases oS.mp m with m|m
       .have:=Th.szm m;have:=Th.dpm m;unfold Ft
        lia
       .exact z h (by simp[m])
      have tt:=tp.app tr;have I:=IH o ys (ps++r) (pk++qs) bd n' k tt pz bX bS bD;have el:ys.length=ps.length+r.length:=by rw[yl,<- tt.len,n9]
      have h2:=P.two kd hk _ hm;have pl:=tp.len;have rl:=tr.len;have e1:((n'+1:Nat):Int)-1=(n':Int):=by lia
      simp only[om]at vl h3 hl;simp only[o,if_true,er];cases eb:B ys (ps++r) bd n' with
      |none =>
       rw[eb]at I;obtain⟨j2,I,b2⟩:=I;refine⟨_,ev_clN (R f m ys bd er) q (by simpa using vl) (by lia) yJ el (λh m=>oo (pz h (by simp[m])).1 (by lia)) (by simp at h2;lia) (by lia) (e1.symm▸I),?_⟩;rw[Ex.sz];have:S*(n'+1)=S*n'+S:=Nat.mul_succ ..
       lia
      |some p =>
       obtain⟨w,n2⟩:=p;rw[eb]at I;obtain⟨t1,t2,t3,j2,I,b2⟩:=I;refine⟨t1,t2,by lia,_,ev_cl (R f m ys bd er) q (by simpa using vl) (by lia) yJ el (λh m=>oo (pz h (by simp[m])).1 (by lia)) (by simp at h2;lia) (by lia) (e1.symm▸I),?_⟩;rw[Ex.sz];have:S*(n'+1)=S*n'+S:=Nat.mul_succ ..
       lia
     .simp only[o];exact⟨_,VS q vl (.inr (by have:=mt ho.mpr o;lia)) (by lia) (by lia),by rw[Ex.sz];have:=pB (S*(n'+1));lia⟩
theorem mL(P:PgOk K hd rw S)(R:∀f m ys b,rw f m=some (ys,b)->Row c f m ys b)(hT:Tks K hs ks)(hz:∀h∈hs,Ft h)(d1:d<=21)(ho:ok=true↔d<=20)
  (IH:ok=true->∀ys gs qs b n k,Tks K gs qs->(∀h∈gs,Ft h)->Xk K hd ys qs b k->b.sz<=S->b.dp<=7->ME K c S 0 ys gs (d+1) n b k (B ys gs b n)) :
  ∀(es:List Ex)(qs:List Str)(n s:Nat),Xks K hd xs ks es qs->s+4*Ex.dps es<=100->ML K c S s xs hs d n es qs (wL rw B ok xs hs es n)
 | [],[],n,s,_,_=>by simp only[wL];exact⟨True.intro,(λ_ m=>nomatch m),rfl,oh _,0,YZ,by rw[Ex.szs];lia⟩
 |e::es,q::qs,n,s,h,l=>by
  rw[Ex.dps]at l;have h1:=mE P R hT hz d1 ho IH e q n s h.1 (by lia);simp only[wL];cases e1:wE rw B ok xs hs e n with
  |none =>rw[e1]at h1;obtain⟨j,a,b⟩:=h1;exact⟨_,YY a,by rw[Ex.szs];lia⟩
  |some p =>
   obtain⟨v,n1⟩:=p;rw[e1]at h1;obtain⟨t1,z1,l1,j1,a1,b1⟩:=h1;have h2:=mL P R hT hz d1 ho IH es qs n1 s h.2 (by lia);cases e2:wL rw B ok xs hs es n1 with
   |none =>rw[e2]at h2;obtain⟨j,a,b⟩:=h2;simp only[e2];exact⟨_,YX a1 a,by rw[Ex.szs];lia⟩
   |some p =>
    rw[e2]at h2;obtain⟨t2,z2,vl,l2,j2,a2,b2⟩:=h2;simp only[e2];refine⟨⟨t1,t2⟩,λv m=>?_,by simp[vl],by lia,_,Ua a1 a2,by rw[Ex.szs];lia⟩;rcases oz.mp m with rfl|m
    .exact z1
    .exact z2 v m
end
def mW(P:PgOk K hd rw S)(R:∀f m ys b,rw f m=p' (ys,b)->Row c f m ys b):∀(l:tQ)(d:tQ),d+l=21->∀(xs:tH tO)(hs:tH Th)(ks:tH tO)(e:Ex)(n:tQ)(k:tO),Tks K hs ks->(∀h∈hs,Ft h)->Xk K hd xs ks e k->e.dp<=20->ME K c S 0 xs hs d n e k (wW rw l xs hs e n)
 |0,d,dl,xs,hs,ks,e,n,k,t,z,x,q=>mE P R t z (by lia) (by simp;lia) (λh=>by cases h) e k n 0 x (by lia)
 |l+1,d,dl,xs,hs,ks,e,n,k,t,z,x,q=>mE P R t z (by lia) (by simp;lia) (λ_ ys gs qs b n k t z x _ hb=>mW P R l (d+1) (by lia) ys gs qs b n k t z x (by lia)) e k n 0 x (by lia)
end
section
unseal Sat Dm Rr Src Ak Av ifS retS Au Bv G8 Ag Aa gc fz Ac Ab Ae Ad Af An AA Bd Dg AW asB Ep Ge E8 orT tgN AM Aj AL itU itZ itD G6 CM slF chain Dz gEq Aw Dh B5 EU Dw AG BH fzR HV GN CK Ez Ba Ck GJ dput2 Gk fzD Ky Az BC BQ MG Fo
section
variable{cP cR:Addr}{P:T}{a b:Addr}{n n1:Int}{xs:List Str}{hs:List Th}{e:Ex}{v:Th}{k:Nat}
abbrev rc(cP cR:tV)(P:T)(xs:tH tO)(hs:tH Th)(e:Ex)(a b:tV):RC:={cP,cR,P,a,b,vl (Ek xs hs),vl e.t}
def J1:Au (C7 cR "waiting" 0 (An Az (Ab (fz (Aa 2)) (Ab (fz (Aa 1)) (Ab (gc (.tS 1)) (Ab (gc (.l false)) Ae)))))) (fr cR P a b (vl (Ek xs hs)) (vl e.t) n [] [] none none none none)=.nx (fr cR P a b (vl (Ek xs hs)) (vl e.t) n ([]++[wi e.t (Ek xs hs) ((1:tQ):tN) false]) [] none none none none) :=
 app_w (disp4 (AS (Ah rfl)) (AS (Ah rfl)) Be) (by simp)
def RQ(h:Ev (rc cP cR P xs hs e a b) 0 xs hs 1 n e v n1 k)(hk:k<110000):∃τ,BJ cP cR [bO cR P a b n [] [],vl (Ek xs hs),vl e.t]=.ok (.t v.t) τ:=by
 let{z3,z4,z5,z6,_,_,_,_,lp}:=h [] [] (by simp) none none none none Ao Ao Ao Ao (110000-k);rw[tQ.sub_add_cancel (by lia)]at lp;obtain⟨j,hj⟩:∃j,110000-k=j+1:={110000-k-1,by lia}
 rw[hj]at lp;have we:(rc cP cR P xs hs e a b).lp (j+1) ((rc cP cR P xs hs e a b).f n1 [] ([]++[wt v]) z3 z4 z5 z6)=.nx ((rc cP cR P xs hs e a b).f n1 [] ([]++[wt v]) z3 z4 z5 z6) :=
  Jj (UW (ts:=[]) rfl Ga)
 rw[we]at lp;have rt:vV (Ag Aw (Qh cR "worths" 0) (gc (.tS 0))) ((rc cP cR P xs hs e a b).f n1 [] ([]++[wt v]) z3 z4 z5 z6)=.wH (.t v.t) ((rc cP cR P xs hs e a b).f n1 [] ([]++[wt v]) z3 z4 z5 z6):=by refine A8 (ix (ts:=[v.t,.tS (v.sz:tN),.tS (v.dp:tN)]) ?_ rfl);unfold Qh;rw[Hx rfl];simp![ZC,if_true];rfl
 exact{_,CJ (sq J1 (sq lp rt))}
def RS(h:EvN (rc cP cR P xs hs e a b) 0 xs hs 1 n e k)(hk:k<110000):∃τ,BJ cP cR [bO cR P a b n [] [],vl (Ek xs hs),vl e.t]=.wy "TooLong" τ:=by let{τ,lp}:=h [] [] (by simp) none none none none Ao Ao Ao Ao (110000-k);rw[tQ.sub_add_cancel (by lia)]at lp;exact{_,FN (sq J1 (LX lp))}
def TU{i:tQ}{os bz:tH FO}(hv:fv fs=.ok (.t t) ae)(h0:ae[i]?=p' (p' (.u7 (.vE C gs os))))(hl:gs.fg<900)(hp:Dp gs os f (.vm t)=p' (cO,bz))(e:ae.wJ i (p' (.u7 (.vE C cO bz)))=ak):Ez C f i fv fs=.nx ak:=by unfold Ez;rw[hv];simp![SO.of,ZP,Hx h0];rw[tW {trivial,hl},hp];simp!;rw[show FL.vA ae i (.vE C cO bz)=ak by unfold FL.vA;rw[h0];exact e]
def Sf{m:tN}:CO cR [p' (.u7 (.vE cR [] [])),vl P,iv m]=.ok (.t .vG) [p' (.u7 (.vE cR RF [.vm P,.vm (.tS m),.tY [],.tY []])),vl P,iv m]:=by
 have h1:("program":tO)≠"calls_left"/\("program":tO)≠"waiting"/\("program":tO)≠"worths"/\("calls_left":tO)≠"waiting"/\("calls_left":tO)≠"worths"/\("waiting":tO)≠"worths":=by decide +kernel
 have nl:∀fs,An BQ Ae fs=.ok (.nw (.tY [])) fs:=λ_=>rfl
 have all:E6 cR [p' (.u7 (.vE cR [] [])),vl P,iv m]=.nx [p' (.u7 (.vE cR RF [.vm P,.vm (.tS m),.tY [],.tY []])),vl P,iv m]:=by refine sq (TU (AS (Ah rfl)) rfl (by simp) rfl rfl) ?_;refine sq (TU (cO:=["program","calls_left"]) (bz:=[.vm P,.vm (.tS m)]) (AS (Ah rfl)) rfl (by simp) (by simp[Dp,h1]) rfl) ?_;refine sq (VN (cO:=["program","calls_left","waiting"]) (bz:=[.vm P,.vm (.tS m),.tY []]) (nl _) rfl (by simp) (by simp[Dp,h1]) rfl) ?_;exact VN (nl _) rfl (by simp) (by simp[Dp,h1]) rfl
 show A2 0 (E6 cR) _=_;unfold A2;rw[show [p' (Sl.u7 (.vE cR [] [])),vl P,iv m]++tH.uN 0 none=[p' (.u7 (.vE cR [] [])),vl P,iv m]from rfl,all];rfl
end
section
variable{cP cR:Addr}{P:T}{n n1:Int}{xs:List Str}{hs:List Th}{e:Ex}{v:Th}{k:Nat}
abbrev D6(xs:tH tO)(hs:tH Th):T:=.dF (xs.tJ λx=>(.uK x:vc)) (hs.tJ Th.t)
abbrev runA(P:T)(xs:tH tO)(hs:tH Th)(e:Ex)(n:tN):FS:=[vl P,vl (D6 xs hs),vl e.t,iv n]
abbrev itT(p:tO×Th):T:=.uj [.str p.1,p.2.t]
def LY{x1 x2 x3:tL Sl}{st:T}(j4:x1=vl st):∀(ps ys:tH (tO×Th))(x5 x6:tL Sl),((ys++ps).tJ (·.1)).uA->(ys++ps).fg<=100->(∀p∈ps,p.2.sz<=900)->vC x5->vC x6->∃y5 y6,Dz (AM 2 (Aj (wd 5) (Aj (wd 6) AL))) (Ba (fz (Ad (Af 1 Ci) (Ac (fz (Aa 6)) Ae))) (Aa 4) (fz (Aa 5))) (ps.tJ itT) [vl P,x1,x2,x3,p' (.uI (.v (ys.tJ λp=>(.uK p.1:vc)) (ys.tJ λp=>wt p.2))),x5,x6]=.nx [vl P,x1,x2,x3,p' (.uI (.v ((ys++ps).tJ λp=>(.uK p.1:vc)) ((ys++ps).tJ λp=>wt p.2))),y5,y6]
 | [],ys,x5,x6,_,_,_,_,_=>{x5,x6,by rw[oJ];rfl}
 |p::ps,ys,x5,x6,nd,hl,hz,f5,f6=>by
  subst j4;have e1:ys++p::ps=(ys++[p])++ps:=by simp
  have cw:∀(x4 x5:tL Sl),fz (Ad (Af 1 Ci) (Ac (fz (Aa 6)) Ae)) [vl P,vl st,x2,x3,x4,x5,vl p.2.t]=.ok (.t (wt p.2)) [vl P,vl st,x2,x3,x4,x5,vl p.2.t]:=λx4 x5=>AS (call1 (AD (AS (Ah rfl)) A5) rfl rfl (LG p.2 (hz p n5)).choose_spec)
  have hn:((ys.tJ λp=>(.uK p.1:vc)).any λk'=>decide (k'=(.uK p.1:vc)))=false:=by rw[qa];intro k mk;let{q,mq,rfl}:=oa.mp mk;rw[nW,oW]at nd;have:=nd.2.2 q.1 (oa.wO {q,mq,rfl}) p.1 (by simp);simp[this]
  let{y5,y6,h}:=LY (x2:=x2) (x3:=x3) (j4:=rfl) ps (ys++[p]) (vl (.str p.1)) (vl p.2.t) (e1▸nd) (by simp at hl ⊢;lia) (λq m=>hz q (n4 _ m)) Al Al;refine{y5,y6,?_};rw[nV,HH (Ov (by exact tg rfl f5) (by exact tg rfl f6)) (Vb rfl (cw _ _) (AS (Ah rfl)) hn (by rw[nU];simp at hl;show _<1000000;lia) rfl),e1];simpa using h
abbrev nmF(cP cR:tV):tm:=newMeth cR "worth" 3 (BJ cP cR) (Ad (CK cR 3 (CO cR)) (Ac (fz (Aa 0)) (Ac (fz (Aa 3)) Ae))) (Ac (fz (Aa 4)) (Ac (fz (Aa 2)) Ae))
def Vt(h:∀A:tQ->tV,Af 3 (BJ cP cR) [.nw (ZC cR P (A 2) (A 3) n [] []),.t (Ek xs hs),.t e.t] [vl P,vl (D6 xs hs),vl e.t,iv n,vl (Ek xs hs),x5,x6]=r):
  nmF cP cR [vl P,vl (D6 xs hs),vl e.t,iv n,p' (.uI (.v (xs.tJ λx=>(.uK x:vc)) (hs.tJ wt))),x5,x6]=r:=by
 have mk:Ad (CK cR 3 (CO cR)) (Ac (fz (Aa 0)) (Ac (fz (Aa 3)) Ae)) [vl P,vl (D6 xs hs),vl e.t,iv n,p' (.uI (.v (xs.tJ λx=>(.uK x:vc)) (hs.tJ wt))),x5,x6]=.ok (.nw (.vE cR RF [.vm P,.vm (.tS n),.tY [],.tY []])) [vl P,vl (D6 xs hs),vl e.t,iv n,p' (.uI (.v (xs.tJ λx=>(.uK x:vc)) (hs.tJ wt))),x5,x6] :=
  EM (AD (AS (Ah rfl)) (AD (AS (Ah rfl)) A5)) rfl rfl Sf
 have fa:Ac (fz (Aa 4)) (Ac (fz (Aa 2)) Ae) [vl P,vl (D6 xs hs),vl e.t,iv n,p' (.uI (.v (xs.tJ λx=>(.uK x:vc)) (hs.tJ wt))),x5,x6]=.ok [.t (Ek xs hs),.t e.t] [vl P,vl (D6 xs hs),vl e.t,iv n,vl (Ek xs hs),x5,x6] :=
  AD rfl (AD (AS (Ah rfl)) A5)
 show newMeth cR "worth" 3 (BJ cP cR) _ _ _=_;unfold newMeth;rw[mk];simp![Out.u9];rw[tW {trivial,OY.2.2.2},fa];exact(tW (λA=>Eq.trans (h A) (h (λi=>i)).symm)).trans (h (λi=>i))
def Jw{ps:tH (tO×Th)}(nd:(ps.tJ (·.1)).uA)(hl:ps.fg<=100)(hz:∀p∈ps,p.2.sz<=900):∃y5 y6,Bv (itI (Aa 1)) (AM 2 (Aj (wd 5) (Aj (wd 6) AL))) (Ba (fz (Ad (Af 1 Ci) (Ac (fz (Aa 6)) Ae))) (Aa 4) (fz (Aa 5))) [vl P,vl (D6 (ps.tJ (·.1)) (ps.tJ (·.2))),vl e.t,iv n,p' (.uI (.v [] [])),none,none]=.nx [vl P,vl (D6 (ps.tJ (·.1)) (ps.tJ (·.2))),vl e.t,iv n,p' (.uI (.v ((ps.tJ (·.1)).tJ λx=>(.uK x:vc)) ((ps.tJ (·.2)).tJ wt))),y5,y6]:=by
 let{y5,y6,h}:=LY (P:=P) (x1:=vl (D6 (ps.tJ (·.1)) (ps.tJ (·.2)))) (x2:=vl e.t) (x3:=iv n) rfl ps [] none none nd hl hz Ao Ao;have hi:itI (Aa 1) [vl P,vl (D6 (ps.tJ (·.1)) (ps.tJ (·.2))),vl e.t,iv n,p' (.uI (.v [] [])),none,none]=.ok (ps.tJ itT) [vl P,vl (D6 (ps.tJ (·.1)) (ps.tJ (·.2))),vl e.t,iv n,p' (.uI (.v [] [])),none,none]:=by
  unfold itI;show(Out.ok (v6 _ _) _:Out (tH T))=_;congr 1;clear h hz hl nd
  induction ps with|vO=>rfl|ux p ps ih=>simpa[v6,JS]using ih
 refine{y5,y6,?_};unfold Bv;rw[hi,oj,oj];exact h
def JaF{ps:tH (tO×Th)}(nd:(ps.tJ (·.1)).uA)(hl:ps.fg<=100)(hz:∀p∈ps,p.2.sz<=900)(h:∀a b,∃k n1,k<110000/\Ev (rc cP cR P (ps.tJ (·.1)) (ps.tJ (·.2)) e a b) 0 (ps.tJ (·.1)) (ps.tJ (·.2)) 1 n e v n1 k):∃τ,f_run cP cR (runA P (ps.tJ (·.1)) (ps.tJ (·.2)) e n)=.ok (.t v.t) τ:=by
 let{y5,y6,lp}:=Jw (P:=P) (e:=e) (n:=n) nd hl hz;have nm:nmF cP cR [vl P,vl (D6 (ps.tJ (·.1)) (ps.tJ (·.2))),vl e.t,iv n,p' (.uI (.v ((ps.tJ (·.1)).tJ λx=>(.uK x:vc)) ((ps.tJ (·.2)).tJ wt))),y5,y6]=.ok (.t v.t) [vl P,vl (D6 (ps.tJ (·.1)) (ps.tJ (·.2))),vl e.t,iv n,vl (Ek (ps.tJ (·.1)) (ps.tJ (·.2))),y5,y6] :=
  Vt λA=>by let{k,n1,hk,h}:=h (A 2) (A 3);let{τ,e1}:=RQ h hk;exact MZ rfl rfl e1
 exact{_,CJ (sq (show Av 4 DY _=.nx [vl P,vl (D6 (ps.tJ (·.1)) (ps.tJ (·.2))),vl e.t,iv n,p' (.uI (.v [] [])),none,none]from rfl) (sq lp (A8 nm)))}
def JaG{ps:tH (tO×Th)}(nd:(ps.tJ (·.1)).uA)(hl:ps.fg<=100)(hz:∀p∈ps,p.2.sz<=900)(h:∀a b,∃k,k<110000/\EvN (rc cP cR P (ps.tJ (·.1)) (ps.tJ (·.2)) e a b) 0 (ps.tJ (·.1)) (ps.tJ (·.2)) 1 n e k):∃τ,f_run cP cR (runA P (ps.tJ (·.1)) (ps.tJ (·.2)) e n)=.wy "TooLong" τ:=by
 let{y5,y6,lp}:=Jw (P:=P) (e:=e) (n:=n) nd hl hz;have nm:nmF cP cR [vl P,vl (D6 (ps.tJ (·.1)) (ps.tJ (·.2))),vl e.t,iv n,p' (.uI (.v ((ps.tJ (·.1)).tJ λx=>(.uK x:vc)) ((ps.tJ (·.2)).tJ wt))),y5,y6]=.wy "TooLong" [vl P,vl (D6 (ps.tJ (·.1)) (ps.tJ (·.2))),vl e.t,iv n,vl (Ek (ps.tJ (·.1)) (ps.tJ (·.2))),y5,y6] :=
  Vt λA=>by let{k,hk,h}:=h (A 2) (A 3);let{τ,e1}:=RS h hk;exact N2 rfl rfl e1
 exact{_,FN (sq (show Av 4 DY _=.nx [vl P,vl (D6 (ps.tJ (·.1)) (ps.tJ (·.2))),vl e.t,iv n,p' (.uI (.v [] [])),none,none]from rfl) (sq lp (Ia nm)))}
end
def GI:∀(ts:tH T),(∀t∈ts,f t t=p' true)->Hb f ts ts=p' true
 | [],_=>rfl
 |t::ts,h=>by rw[Hb,h t n5,oM,GI ts λt m=>h t (n4 _ m)];rfl
def MT:∀{hs:tH Th},h∈hs->h.dp<=Th.dps hs
 | [],m=>nomatch m
 |a::hs,m=>by
  rw[Th.dps];rcases oz.mp m with rfl|m
  .lia
  .have:=MT m
   lia
def eq_th:∀(n:tQ)(h:Th),2*h.dp<=n->eqT n h.t h.t=p' true
 |0,h,hl=>by have:=NY h;lia
 |1,h,hl=>by have:=NY h;lia
 |n+2,.mk m ps,hl=>by
  have hd:(Th.mk m ps).dp=1+Th.dps ps:=by simp[Th.dp]
  have et:(Th.mk m ps).t=.uj [.str m,.uj (ps.tJ Th.t)]:=by simp[Th.t,Th.By]
  rw[et,EY,GI]
  .simp
  .intro t mt;simp![oz,pY,or_false]at mt;rcases mt with rfl|rfl
   .rw[IJ];simp
   .rw[EY,GI]
    .simp
    .intro t mt;let{p,mp,rfl}:=oa.mp mt;have:=MT mp;exact eq_th n p (by lia)
section
variable{cP cR:Addr}{P:T}{e:Ex}{n:Int}{v:Th}
end
end
abbrev TF:tH tO:=["makers_by_kind","parts_by_maker","home_by_maker"]
def Ny:(("parts_by_maker":tO) == "makers_by_kind")=false/\(("home_by_maker":tO) == "makers_by_kind")=false/\(("home_by_maker":tO) == "parts_by_maker")=false:=by decide +kernel
section
variable{a b c:T}{x y z w:FO}
def v_k0:E9 TF [a,b,c] "makers_by_kind"=p' a:=by simp[E9]
def v_k1:E9 TF [a,b,c] "parts_by_maker"=p' b:=by simp[E9,Ny]
def v_k2:E9 TF [a,b,c] "home_by_maker"=p' c:=by simp[E9,Ny]
def w_k0:A4 TF [x,y,z] "makers_by_kind"=p' x:=by simp[A4]
def w_k1:A4 TF [x,y,z] "parts_by_maker"=p' y:=by simp[A4,Ny]
def w_k2:A4 TF [x,y,z] "home_by_maker"=p' z:=by simp[A4,Ny]
def s_k0:B0 TF [x,y,z] "makers_by_kind" w=[w,y,z]:=by simp[B0]
def s_k1:B0 TF [x,y,z] "parts_by_maker" w=[x,w,z]:=by simp[B0,Ny]
def s_k2:B0 TF [x,y,z] "home_by_maker" w=[x,y,w]:=by simp[B0,Ny]
end
section
variable{K:Kd}{C:Addr}
def KQ(W:Well K):∃τ,DB C [p' (.u7 (.vE C [] [])),vl (.tY (K.tJ BM))]=.ok (.t .vG) (p' (.u7 (UZ C K (CZ K)))::τ):=by
 let{_,k1}:=Kb W;let{_,k2}:=IV W;have h4:=W.hi;apply q_mk;lk;apply D2 (I:=λD  fs=> ∃y2 y3 y4 y5,fs=[p' (.u7 (.vE C TF [.v (Co D) (Iq D),.v (B4 D) (Pd D),.v (B4 D) (CZ D)])),vl (.tY (K.tJ BM)),y2,y3,y4,y5]/\vC y2/\vC y3/\vC y4/\vC y5)
 case hi=>trivial
 case h0=>exact{none,none,none,none,rfl,uQ.intro,uQ.intro,uQ.intro,uQ.intro}
 case st =>
  intro D kd R _ e {y2,y3,y4,y5,rfl,f2,f3,f4,f5}
  let{w1,w2,w3,w4}:=W.part e;have le:=NJ e;have nk:=XM e W.nd;have lk:(Co D).fg<1000:=by unfold Co;rw[nU];lia
  lk
  .apply E3
   .lk
   .lk
   .exact λ_=>rfl
   .intro r mr;lk
   .lia
  lk;apply D2 (I:=λ(Z:tH (tO×tH tO)) fs=>∃y4 y5,fs=[p' (.u7 (.vE C TF [.v (Co D++[.uK kd.1]) (Iq D++[.tY (kd.2.tJ λr=>.str r.1)]),.v (B4 D++Z.tJ Vz) (Pd D++ZF Z),.v (B4 D++Z.tJ Vz) (CZ D++NN kd.1 Z)])),vl (.tY (K.tJ BM)),vl (.str kd.1),vl (.tY (kd.2.tJ U4)),y4,y5]/\vC y4/\vC y5)
  case hi=>trivial
  case h0=>exact{y4,y5,by unfold ZF NN;rw[pM,pM,pM,oJ,oJ,oJ];rfl,f4,f5}
  case st =>
   intro Z r Y _ e2 {y4,y5,rfl,f4,f5}
   have gD:=NJ e2;have nr:=by rw[<- e2,nW,nV,<- oQ]at w1;exact λm=>(oW.mp w1).2.2 _ m _ n5 rfl
   lk;exact{_,_,by unfold ZF NN;rw[nW,nW,nW,<- oQ,<- oQ,<- oQ];rfl,Al,Al}
  case k =>
   intro _ {y4,y5,rfl,f4,f5}
   lk;exact{_,_,_,_,by rw[EL,Pc,show CZ (D++[kd])=CZ D++NN kd.1 kd.2 by simp[CZ],show Co (D++[kd])=Co D++[.uK kd.1]from nW,show Iq (D++[kd])=Iq D++[.tY (kd.2.tJ λr=>.str r.1)] by unfold Iq;rw[nW];simp],Al,Al,f4,f5}
 case k =>
  intro _ {y2,y3,y4,y5,rfl,f2,f3,f4,f5}
  exact JaS
end
def JbU(W:Well K)(hk:kd∈K)(mz:z∈K)(e:z.1=kd.1):z=kd:=by
 let{i,hi,rfl}:=qj mz;let{j,hj,rfl}:=qj hk;have nd:=tH.pairwise_iff_getElem.mp W.nd;rcases tQ.lt_trichotomy i j with q|q|q
 .exact uD (by rwa[qO,qO]) (nd i j (by simpa using hi) (by simpa using hj) q)
 .subst q;rfl
 .exact uD (by rw[qO,qO];exact e.symm) (nd j i (by simpa using hj) (by simpa using hi) q)
def allQ (K:Kd):tH (tO×tO×tH tO):=K.uH λkd=>kd.2.tJ λr=>(kd.1,r)
def PR(K:Kd):B4 K=(allQ K).tJ λq=>Vz q.2:=by rw[Gq];unfold allQ allR;rw[pZ,pZ];simp![oj];rfl
def Yf(K:Kd):CZ K=(allQ K).tJ λq=>T.str q.1:=by unfold CZ NN allQ;rw[pZ];simp![oj];rfl
def UT(W:Well K)(m:kd∈K)(m2:r∈kd.2):BB (B4 K) (CZ K) (.uK r.1:vc)=p' (.str kd.1):=by have h:(B4 K).uA:=B1 W.yH;rw[PR]at h;rw[PR,Yf];exact BZ (pe.wO {kd,m,oa.wO {r,m2,rfl} }) h
abbrev stT(C:tV)(K:Kd):T:=Am C K (CZ K)
section
variable{C:Addr}{K:Kd}{hs:List T}
def VO(h:fs[i]?=p' (vl (Am C K hs))):CM C "home_by_maker" (Aa i) fs=.ok (.t (.v (B4 K) hs)) fs:=by unfold CM;rw[Ah h];let{iC,iD,iE}:=Im;unfold Am;generalize ("makers_by_kind":tO)=A at *;generalize ("parts_by_maker":tO)=B at *;generalize ("home_by_maker":tO)=H at *;simp[Out.bnd,Out.u9,Yu,E9,okT,Ne.symm iD,Ne.symm iE]
def WH(W:Well K)(m:kd∈K)(m2:r∈kd.2):DC C [vl (stT C K),vl (.str r.1)]=.ok (.t (.str kd.1)) [vl (stT C K),vl (.str r.1)]:=by
 exact(CJ (by
  refine sq (Iz (De (Ar (AS (Ah rfl)) (VO rfl) ?_)) rfl) ?_
  .rw[in_t,UT W m m2];rfl
  exact A8 (Ar (VO rfl) (AS (Ah rfl)) (Tv (UT W m m2))))).trans rfl
end
def F2.prs(h:F2 R ts ps):∀u∈FL.v6 ts (ps.tJ .str),∃t k,u=.uj [t,.str k]/\R t k:=by
 induction h with
 |vO=>exact λ_ m=>nomatch m
 |ux h _ ih =>
  intro u m;rcases oz.mp m with rfl|m
  .exact{_,_,rfl,h}
  .exact ih u m
section
variable(K:Kd)(kn:Str->Str->Prop)(cl:Str->List Str->Str->List T->Prop)
def Ty :tQ->T->tO->Prop
 |0,_,_=>vd
 |n+1,t,k=>(∃x,kn x k/\t=exN x)\/(∃m ps ts,(∃kd∈K,kd.1=k/\(m,ps)∈kd.2)/\F2 (Ty n) ts ps/\t=exP "make" m ts)\/∃f ps ts,cl f ps k ts/\F2 (Ty n) ts ps/\t=exP "call" f ts
end
abbrev SF:tH tO:=["stock","heads","kinds_by_name","own","lessers"]
def R8:(("heads":tO) == "stock")=false/\(("kinds_by_name":tO) == "stock")=false/\(("kinds_by_name":tO) == "heads")=false/\(("own":tO) == "stock")=false/\(("own":tO) == "heads")=false/\(("own":tO) == "kinds_by_name")=false /\
  (("lessers":tO) == "stock")=false/\(("lessers":tO) == "heads")=false/\(("lessers":tO) == "kinds_by_name")=false/\(("lessers":tO) == "own")=false:=by decide +kernel
section
variable{a b c d e:T}
def v_s0:E9 SF [a,b,c,d,e] "stock"=p' a:=by simp[E9]
def v_s1:E9 SF [a,b,c,d,e] "heads"=p' b:=by simp[E9,R8]
def v_s2:E9 SF [a,b,c,d,e] "kinds_by_name"=p' c:=by simp[E9,R8]
def v_s3:E9 SF [a,b,c,d,e] "own"=p' d:=by simp[E9,R8]
def v_s4:E9 SF [a,b,c,d,e] "lessers"=p' e:=by simp[E9,R8]
end
structure Sco where
 zF:tV
 z0:tV
 K:Kd
 hk:tH vc
 hv:tH T
 xk:tH vc
 xv:tH T
 uI:tO
 ls:tH tO
abbrev Sco.t(s:Sco):T:=.vE s.zF SF [stT s.z0 s.K,.v s.hk s.hv,.v s.xk s.xv,.str s.uI,.tY (s.ls.tJ exN)]
structure SOk(s:Sco)(kn:tO->tO->Prop)(cl:tO->tH tO->tO->tH T->Prop):Prop where
 W:Well s.K
 nm:∀x k,kn x k->BB s.xk s.xv (.uK x:vc)=p' (.str k)
 hd:∀f ps k ts,cl f ps k ts->BB s.hk s.hv (.uK f:vc)=p' (.uj [.uj (ps.tJ .str),.str k])/\(f=s.uI->∃x∈s.ls,ts[0]?=p' (exN x))
section
variable{s:Sco}{kn:Str->Str->Prop}{cl:Str->List Str->Str->List T->Prop}
def Du(h:BB s.xk s.xv (.uK x:vc)=p' t):∃τ,Cz s.zF [vl s.t,vl (.str x)]=.ok (.t t) τ:=by apply Cp;lk
def Yi(W:Well s.K)(hk:kd∈s.K)(hr:(m,ps)∈kd.2):∃τ,Bs s.zF s.z0 [vl s.t,vl (.str "make"),vl (.str m)]=.ok (.t (.uj [.uj (ps.tJ .str),.str kd.1])) τ:=by have h1:=HU (C:=s.z0) (hs:=CZ s.K) W hk hr;have h2:=WH (C:=s.z0) W hk hr;apply Cp;lk
def Yj(h:BB s.hk s.hv (.uK f:vc)=p' t):∃τ,Bs s.zF s.z0 [vl s.t,vl (.str "call"),vl (.str f)]=.ok (.t t) τ:=by apply Cp;lk
def JV(x:tO):∀ls:tH tO,VF (exN x) (ls.tJ exN)=p' (decide (x∈ls))
 | []=>by simp[VF]
 |y::ls=>by
  have e:eqT 9 (exN y) (exN x)=p' (decide (y=x)):=by unfold exN;rw[EY];simp![Hb,IJ];by_cases h:y=x<;>simp[h]
  rw[nV,VF,e,JV x ls];by_cases h:y=x
  .simp[h]
  .have h2:¬x=y:=λz=>h z.symm
   simp[h,h2]
def ninT{ls:tH tO}(h:x∈ls):NQ (.t (exN x)) (.t (.tY (ls.tJ exN))) fs=.ok (.t (.l false)) fs:=by unfold NQ;simp![BD,oM,JV,h];rfl
def CY(O:SOk s kn cl):∀(n:tQ)(t:T)(k:tO),Ty s.K kn cl n t k->∃τ,BN s.zF s.z0 n [vl s.t,vl t]=.ok (.t (.str k)) τ
 |n+1,t,k,h=>by
  have key:(∃x,kn x k/\t=exN x)\/∃f m ps ts,(∃τ,Bs s.zF s.z0 [vl s.t,vl (.str f),vl (.str m)]=.ok (.t (.uj [.uj (ps.tJ .str),.str k])) τ)/\f≠"name"/\(f="call"->m=s.uI->∃x∈s.ls,ts[0]?=p' (exN x))/\F2 (λt k=>∃τ,BN s.zF s.z0 n [vl s.t,vl t]=.ok (.t (.str k)) τ) ts ps/\t=exP f m ts:=by
   have lp:=λt k=>CY O n t k
   rcases h with h|⟨m,ps,ts,⟨kd,m1,rfl,m2⟩,b,rfl⟩|⟨f,ps,ts,a,b,rfl⟩
   .exact .uW h
   .exact .uK {_,m,ps,ts,Yi O.W m1 m2,IC.2.1,λh=>uD h IC.2.2.2,b.imp lp,rfl}
   .exact .uK {_,f,ps,ts,Yj (O.hd f ps k ts a).1,IC.2.2.1,λ_=>(O.hd f ps k ts a).2,b.imp lp,rfl}
  apply Cp;rcases key with⟨x,a,rfl⟩|⟨f,m,ps,ts,⟨_,e⟩,hf,ho,b,rfl⟩
  .let{_,e}:=Du (O.nm x k a);lk
  .have hl:=b.wv;lk
   .by_cases h1:f="call"
    .apply Oq;lk
     .simp[h1]
     by_cases h2:m=s.uI
     .let{x,mx,ex}:=ho h1 h2;have e1:=A0 ex;apply Oq;lk
      .simp[h2]
      lk
     .apply UR;lk
      .simp[h2]
    .apply UR;lk
   lk;apply O6 (I:=λfs=>∃y7 y8,fs=[vl s.t,vl (exP f m ts),vl (.str f),vl (.str m),vl (.uj ts),vl (.uj (ps.tJ .str)),vl (.str k),y7,y8]/\vC y7/\vC y8)
   .lk
   .exact b.prs
   .exact{_,_,rfl,uQ.intro,uQ.intro}
   .intro _ _ {t,z,rfl,_,h} {y7,y8,rfl,f7,f8}
    lk;exact{_,_,rfl,uQ.intro,uQ.intro}
   .intro _ {y7,y8,rfl,f7,f8}
    lk
end
abbrev Of(x:tO):Prop:=Bf [vl (.str x)]=.ok (.t (.l true)) [vl (.str x)]
abbrev ky(x:tO):vc:=.uK x
def Vv(e:D++a::R=xs)(nd:xs.uA):a∉D:=λm=>(oW.mp (e▸nd)).2.2 a m a n5 rfl
def mem_mid(e:D++a::R=xs):a∈xs:=by rw[<- e];simp
def D9(e:D++a::R=xs):D.fg<xs.fg:=by rw[<- e];simp
def Eh{xs:tH tO}(nd:xs.uA)(hn:∀x∈xs,Of x)(hl:xs.fg<=1000):∃τ,C1 [vl (.tY (xs.tJ .str))]=.ok (.t .vG) τ:=by
 apply Jz;lk;apply D2 (I:=λD  fs=> ∃(vs:tH T)(y2:tL Sl),fs=[vl (.tY (xs.tJ .str)),p' (.uI (.v (D.tJ ky) vs)),y2]/\vC y2)
 .lk
 .exact{_,_,rfl,uQ.intro}
 .intro D x R _ e {vs,y2,rfl,f2}
  have hx:=hn x (mem_mid e);have nx:=Qn (Vv e nd);have nv:=Dj (ts:=vs) nx;have:=D9 e;lk
  .simp[nv]
  lk;exact{_,_,by rw[nW];rfl,Al}
 .intro fs h;lk
section
variable{z0:Addr}{K:Kd}(W:Well K)
include W
def Iy(hx:x∉mks K):∃τ,EW z0 [vl (stT z0 K),vl (.str x)]=.ok (.t (.l false)) τ:=by
 have h1:=FH (C:=z0) (K:=K) (hs:=CZ K);have h2:=λkd (m:kd∈K)=>Eo (C:=z0) (hs:=CZ K) W m
 simp![oj]at h1;have hl:=W.hi;apply Cp;lk;apply DH
 .lk
 .intro kd m;have h2:=h2 kd m;lk
 .exact oo hl ZB
 lk;congr 2;refine qa.wO λkd m=>?_
 have:x∉kd.2.tJ (·.1):=λh=>hx (pe.wO {kd,m,h})
 simp[this]
end
structure Fd where
 nm:tO
 ks:tH tO
 k:tO
 zY:tH tO
 vv:tH (tO×tH tO×T)
def rwT (r:tO×tH tO×T):T:=.uj [.uj (r.2.1.tJ .str),r.2.2]
abbrev Fd.t(g:Fd):T:=.uj [.str g.nm,.uj (g.ks.tJ .str),.str g.k,.uj (g.zY.tJ .str),.uj (g.vv.tJ rwT)]
section
variable{z0:Addr}{K:Kd}(W:Well K)
include W
def E4{g:Fd}(cq:kd∈K)(hn:Of g.nm)(jF:ky g.nm∉hk)(jG:g.nm∉mks K)(fJ:g.ks=kd.1::ks)(ho:g.zY.fg=ks.fg)(h2:ks.fg<=2)(hr:g.vv.fg=kd.2.fg)(fX:∀x∈g.ks++[g.k],x∈K.tJ (·.1)):
  ∃τ,DA z0 [vl (stT z0 K),vl (.v hk hv),vl g.t]=.ok (.t .vG) τ:=by
 have h1:=FH (C:=z0) (K:=K) (hs:=CZ K);have h3:=Eo (C:=z0) (hs:=CZ K) W cq;let{_,h4}:=Iy W jG;have nv:=Dj (ts:=hv) jF;let{nm,nt,k,zY,vv}:=g;simp! at hn jF jG fJ ho hr fX h4 nv;subst fJ;apply Jz;lk
 .apply ZW;lk
  .simp[nv]
  lk
 lk;apply O6 (Pe:=λu=>∃x,u=.str x/\x∈K.tJ (·.1)) (I:=λfs=>∃y8,fs=[vl (stT z0 K),vl (.v hk hv),vl (Fd.t {nm,kd.1::ks,k,zY,vv}),vl (.str nm),vl (.uj ((kd.1::ks).tJ .str)),vl (.str k),vl (.uj (zY.tJ .str)),vl (.uj (vv.tJ rwT)),y8]/\vC y8)
 .lk
 .intro u m;have m:u∈((kd.1::ks)++[k]).tJ T.str:=by rwa[nW]
  let{x,mx,rfl}:=oa.mp m;exact{x,rfl,fX x mx}
 .exact{_,rfl,uQ.intro}
 .intro _ _ {x,rfl,mx} {y8,rfl,f8}
  lk
  .simp![mx];rfl
  lk;exact{_,rfl,uQ.intro}
 .intro _ {y8,rfl,f8}
  lk
  .simp[ho]
  lk
  .simp[hr]
  lk
end
def Nz{A B D E F:T}:∃τ,DD c [p' (.u7 (.vE c [] [])),vl A,vl B,vl D,vl E,vl F]=.ok (.t .vG) (p' (.u7 (.vE c SF [.vm A,.vm B,.vm D,.vm E,.vm F]))::τ):=by apply q_mk;lk
section
variable{zF z0:Addr}{K:Kd}{nm k:Str}{ks zY:List Str}{rows:List T}{hk:List Key}{hv:List T}{kd:Str×List (Str×List Str)}{m:Str}{ys ps:List Str}{body:T}{kn:Str->Str->Prop}{cl:Str->List Str->Str->List T->Prop}{kf:Str->Str}
def GU(O:SOk {zF,z0,K,hk,hv,(ys++zY).tJ ky,ps.tJ .str++ks.tJ .str,nm,ys.filter λx=>decide (kf x=kd.1)} kn cl)(iP:∀x∈ys,BB ((ys++zY).tJ ky) (ps.tJ .str++ks.tJ .str) (ky x)=p' (.str (kf x)))(cq:kd∈K)(hm:(m,ps)∈kd.2)(hl:ys.fg=ps.fg)(ho:zY.fg=ks.fg)(nd:(ys++zY).uA)(hn:∀x∈ys++zY,Of x)(hb:ys.fg<=2/\zY.fg<=2)(ht:Ty K kn cl 20 vR k):
  ∃τ,Ed zF z0 [vl (stT z0 K),vl (.v hk hv),vl (.uj [.str nm,.uj ((kd.1::ks).tJ .str),.str k,.uj (zY.tJ .str),.uj vv]),vl (.str m),vl (.uj [.uj (ys.tJ .str),vR])]=.ok (.t .vG) τ:=by
 have h1:=HU (C:=z0) (hs:=CZ K) O.W cq hm;let{_,h2}:=Eh nd hn (by simp;lia);let{_,h3}:=Nz;let{_,h4}:=CY O 20 vR k ht;rw[nW]at h2;apply Jz;lk
 .exact uC p' nW.symm
 lk
 .exact nd
 .simp[hl,ho]
 lk
 .apply Q4
  .lk
  .intro x mx;have:=iP x mx;lk
  .intro x mx _;lk
  .lia
 lk
end
abbrev PF:tH tO:=["stock","heads","rows_by_function"]
section
variable{a b c:T}{x y z w:FO}
end
abbrev hkD(D:tH Fd):tH vc:=D.tJ λg=>ky g.nm
abbrev hvT(g:Fd):T:=.uj [.uj (g.ks.tJ .str),.str g.k]
abbrev hvD(D:tH Fd):tH T:=D.tJ hvT
def rvT (g:Fd)(r:tO×tH tO×T):T:=.uj [.uj (r.2.1.tJ .str++g.zY.tJ .str),r.2.2]
abbrev kyR(r:tO×tH tO×T):vc:=ky r.1
def rwD (g:Fd):FO:=.v (g.vv.tJ kyR) (g.vv.tJ (rvT g))
structure ROk(K:Kd)(D:tH Fd)(g:Fd)(kd:tO×tH (tO×tH tO))(ks:tH tO)(r:tO×tH tO×T):Prop where
 two:r.2.1.fg<=2
 nd:(r.2.1++g.zY).uA
 nm:∀x∈r.2.1++g.zY,Of x
 ex:∃(ps:tH tO)(kn:tO->tO->Prop)(cl:tO->tH tO->tO->tH T->Prop)(kf:tO->tO),(r.1,ps)∈kd.2/\r.2.1.fg=ps.fg/\(∀zF z0,SOk {zF,z0,K,hkD (D++[g]),hvD (D++[g]),(r.2.1++g.zY).tJ ky,ps.tJ .str++ks.tJ .str,g.nm,r.2.1.filter λx=>decide (kf x=kd.1)} kn cl)/\(∀x∈r.2.1,BB ((r.2.1++g.zY).tJ ky) (ps.tJ .str++ks.tJ .str) (ky x)=p' (.str (kf x)))/\Ty K kn cl 20 r.2.2 g.k
structure FOk(K:Kd)(D:tH Fd)(g:Fd):Prop where
 nm:Of g.nm
 new:g.nm∉D.tJ Fd.nm
 xy:g.nm∉mks K
 ind:∀x∈g.ks++[g.k],x∈K.tJ (·.1)
 ex:∃kd ks,kd∈K/\g.ks=kd.1::ks/\g.zY.fg=ks.fg/\ks.fg<=2/\g.vv.tJ (·.1)=kd.2.tJ (·.1)/\∀r∈g.vv,ROk K D g kd ks r
def Hv:∀R:tH (tO×tH tO×T),FL.v6 ((R.tJ (·.1)).tJ .str) (R.tJ rwT)=R.tJ λr=>.uj [.str r.1,rwT r]
 | []=>rfl
 |r::R=>by simp![nV,FL.v6,Hv R]
section
variable{cP zF z0:Addr}{K:Kd}{g:Fd}{D:List Fd}{x2:Option Sl}
def kyD(h:x∉D.tJ Fd.nm):ky x∉hkD D:=by have:=Qn h;rwa[oj]at this
def JD(W:Well K)(hF:F=.tY (G.tJ Fd.t)\/F=.uj (G.tJ Fd.t)\/F=.n (G.tJ Fd.t))(hl:G.fg<=100)(aX:G≠[])(hG:∀A g B,A++g::B=G->FOk K A g):
  ∃τ,CB cP zF z0 [p' (.u7 (.vE cP [] [])),vl (stT z0 K),vl F]=.ok (.t .vG) (p' (.u7 (.vE cP PF [.vm (stT z0 K),.v (hkD G) (hvD G),.dO (hkD G) (G.tJ rwD)]))::τ):=by
 apply q_mk;unfold D5;lk;apply D2 (I:=λD fs=>∃RO y3 y4 y5 y6 y7 y8 y9 bI,fs=[p' (.u7 (.vE cP PF [.vm (stT z0 K),.v (hkD D) (hvD D),RO])),vl (stT z0 K),vl F,y3,y4,y5,y6,y7,y8,y9,bI]/\asDO RO=p' (hkD D,D.tJ rwD)/\(D≠[]->RO=.dO (hkD D) (D.tJ rwD))/\vC y3/\vC y4/\vC y5/\vC y6/\vC y7/\vC y8/\vC y9/\vC bI)
 .apply Wg;lk;exact hF
 .exact{_,_,_,_,_,_,_,_,_,rfl,rfl,λh=>uD rfl h,uQ.intro,uQ.intro,uQ.intro,uQ.intro,uQ.intro,uQ.intro,uQ.intro,uQ.intro}
 .intro D g R _ e {RO,y3,y4,y5,y6,y7,y8,y9,bI,rfl,hR,_,f3,f4,f5,f6,f7,f8,f9,f10}
  have hD:=D9 e;have O:=hG D g R e;let{kd,ks,cq,fJ,ho,h2,hr,gn}:=O.ex;have nk:=kyD O.new;have lq:=by simpa using uC tH.fg hr
  let{_,c1}:=E4 W cq O.nm nk O.xy fJ ho h2 lq O.ind;have h3:=Eo (C:=z0) (hs:=CZ K) W cq;lk;apply D2 (I:=λQ fs=>∃y9 bI,fs=[p' (.u7 (.vE cP PF [.vm (stT z0 K),.v (hkD D++[ky g.nm]) (hvD D++[hvT g]),.dO (hkD D++[ky g.nm]) (D.tJ rwD++[.v (Q.tJ kyR) (Q.tJ (rvT g))])])),vl (stT z0 K),vl F,vl g.t,vl (.str g.nm),vl (.uj (g.ks.tJ .str)),vl (.str g.k),vl (.uj (g.zY.tJ .str)),vl (.uj (g.vv.tJ rwT)),y9,bI]/\vC y9/\vC bI)
  case hi =>
   rw[<- Hv,hr];have h0:atI (g.ks.tJ T.str) 0=p' (.str kd.1):=by rw[fJ];exact at0
   lk
  case h0=>exact{_,_,rfl,f9,f10}
  case st =>
   intro Q r Z _ e2 {y9,bI,rfl,f9,f10}
   let{m,ys,vR}:=r;have hq:=D9 e2;have Or:=gn _ (mem_mid e2);let{ps,kn,cl,kf,hm,bb,hS,iP,ht}:=Or.ex;have h4:=W.rw kd cq;have hy:ys.fg<=2:=Or.two;have nr:=by
    have nd:(g.vv.tJ (·.1)).uA:=by rw[hr];exact(W.part (pC cq).choose_spec.choose_spec.symm).2.2.2
    rw[<- e2,nW,nV]at nd;have:=Qn (Vv rfl nd);rwa[oj]at this
   have hS:=hS zF z0;rw[show hkD (D++[g])=hkD D++[ky g.nm]from nW,show hvD (D++[g])=hvD D++[hvT g]from nW]at hS;let{_,c2}:=GU hS iP cq hm bb ho Or.nd Or.nm {Or.two,by lia} ht;rw[<- fJ]at c2;lk;exact{_,_,by rw[nW,nW];rfl,Al,Al}
  case k =>
   intro _ {y9,bI,rfl,f9,f10}
   lk;exact{_,_,_,_,_,_,_,_,_,by simp![hkD,hvD,nW];rfl,by simp![hkD,hvD,nW];rfl,λ_=>by simp![hkD,hvD,nW];rfl,Al,Al,Al,Al,Al,Al,f9,f10}
 .intro _ {RO,y3,y4,y5,y6,y7,y8,y9,bI,rfl,hR,h,f3,f4,f5,f6,f7,f8,f9,f10}
  rw[h aX];lk
end
def OV(W:Well K)(hk:kd∈K):(kd.2.tJ (·.1)).uA:=by let{A,B,rfl}:=pC hk;have:=W.yH;simp![mks,oP]at this;exact(oW.mp (oW.mp this).2.1).1
abbrev tF(K:Kd):T:=.dF (Co K) (OW K)
def RT (A:T->FS->Prop)(y:SO):Prop:=∃t τ,y=.wH (.t t) τ/\A t τ
def WU(a:A t fs):vL (RT A) (.wH (.t t) fs):=q_i {t,fs,rfl,a}
seal RT
def L5{A:T->FS->Prop}(k:vL (RT λt τ=>A t (τ.uB args.fg)) (s (args++tH.uN n none))):∃t τ,A2 n s args=.ok (.t t) τ/\A t τ:=by unfold vL RT at k;let{t,τ,e,a}:=k;exact{t,_,CJ e,a}
section
variable{FT:T}{K:Kd}{rw:Str->Str->Option (List Str×Ex)}{B:List Str->List Th->Ex->Nat->Option (Th×Nat)}{ok:Bool}{xs:List Str}{hs:List Th}{nF N:Nat}{x3:Option Sl}
variable{hd:Str->Option (List Str×Str)}{S:Nat}{ks:List Str}
end
def BP(ns:tH tN)(k:tQ):∃τ,Ay [vl (.n (ns.tJ T.tS)),iv k]=.ok (.t (.tS (ns.uZ k 0))) τ:=by
 apply Cp;lk
 .exact Wf (.uW rfl) (by simp at hb;lia)
 lk;simp at hb;simp[hb]
def GK{ns:tH tN}(ht:IsI t ns){a b:tN}(a0:0<=a)(a1:a<=1000)(b0:1<=b)(b1:b<=1000):
  ∃ds:tH tN,ds.fg=150/\∃τ,BO [vl t,iv a,iv b]=.ok (.nw (.tY (ds.tJ T.tS))) τ:=by
 obtain⟨j,j0,j1,jn,ej⟩:∃j:tN,0<=j/\j<=63/\j<=ns.fg/\Ad ET (Ab (Ad AI (Ab (Aa 0) Ae)) (Ab (gc (.tS 63)) Ae)) [vl t,iv a,iv b,none,none,none,none,none]=.ok (.t (.tS j)) [vl t,iv a,iv b,none,none,none,none,none]:=by
  refine{if(63:tN)<(ns.tJ T.tS).fg then 63 else(ns.tJ T.tS).fg,?_,?_,?_,?_}
  .split<;>lia
  .split<;>lia
  .simp;split<;>lia
  .rcases ht with rfl|rfl<;>(apply ZY;lk)
 let{n,n1,hn,er}:=O1 (ga:=Ab (Aa 1) (Ab (Ad ET (Ab (Ad AI (Ab (Aa 0) Ae)) (Ab (gc (.tS 63)) Ae))) (Ab (Aa 2) Ae))) (fs:=[vl t,iv a,iv b,none,none,none,none,none]) (by lk) a0 a1 j0 j1 b0 b1;have hz:∀D r f:tN,∃z,atI [T.tS r,T.tS f] (D%2)=p' (T.tS z):=λD r f=>by
  rcases(show D%2=0\/D%2=1 by lia)with h|h<;>rw[h]
  .exact{_,at0}
  .exact{_,at1}
 apply q_ex;lk
 .apply LB
  .apply LC
   .exact er
   .lk
   .apply DH
    .lk
    .intro k mk;have:=hn k (oR.mp mk);have:=tN.mul_nonneg (show 0<=(k:tN) by lia) (show 0<=b by lia);lk;exact Wf ht (by lia)
    .simp;lia
  .rfl
 lk;apply Bn (I:=λP fs=>∃(ds:tH tN)(D f r:tN)(x:tL Sl),fs=[vl t,iv a,iv b,iv D,p' (.uI (.tY (ds.tJ T.tS))),iv f,iv r,x]/\0<=f/\f<2147483629/\ds.fg=P.fg/\vC x)
 case hi=>exact Nd (by lk) rfl ZB
 case h0=>exact{[],_,_,_,_,rfl,oU _ ZB,oN _ ZB,rfl,uQ.intro}
 case st =>
  intro P k R _ e {ds,D,f,r,x,rfl,f0,f1,hl,fx}
  have hP:=uC tH.fg e;simp at hP;have g0:=oU (f*f+D+k) (b:=2147483629) ZB;have g1:=oN (f*f+D+k) (b:=2147483629) ZB;let{z,ez}:=hz D r ((f*f+D+k)%2147483629*((f*f+D+k)%2147483629)%2147483587);lk;exact{ds++[z%1000003],D,_,_,_,by rw[nW];rfl,g0,g1,by simp[hl],Al}
 case k =>
  intro _ {ds,D,f,r,x,rfl,f0,f1,hl,fx}
  lk
  .exact Ol rfl
  exact WV uQ.intro {ds.vn,by rw[qN],by simpa using hl}
def JM{c:tN}{n:tQ}(hn:n<=12)(hb:t6.tN.vh c<=2^20):∃τ,Cs [iv c,iv n]=.ok (.nw (.tY ((nms c n).tJ T.str))) τ:=by
 obtain⟨L,hL,bb,hl⟩:∃L:tO,("abcdefghijklmnopqrstuvwxyz":tO)=L/\L.fg<=big/\∀x:tN,atI L.cps.uP (x%26)=p' (Nm.D3 x):={ABC,rfl,Zw,Rq}
 have eF:=oo hb (show 2^20<=2^26 by decide);have w0:=Nm.W_lo c;have w1:=Nm.W_hi c;have a0:=Nm.At_lo c;have a1:=Nm.At_hi c;have eW:=qk (tN.le_trans ZB w0);apply JaU;unfold M8;rw[hL];lk
 .exact GG {eF,eF}
 lk
 .exact mul_M
 lk
 .exact eW.symm
 .lia
 .lk
 .apply DH
  .lk
  .intro k mk;have:=oR.mp mk;lk;exact MD bb (hl _)
  .simp;lia
 lk
 .exact UE c
 lk;apply Bn (I:=λP fs=>∃x y,fs=[iv c,iv n,vl (.str L),iv (Nm.M c),iv (Nm.W c),iv (Nm.At c),vl (.tY ((tH.vq (Nm.W c).uw).tJ λk=>.str {#[Nm.uk c k]})),iv (Nm.step c),p' (.uI (.tY ((nms c P.fg).tJ T.str))),x,y]/\vC x/\vC y)
 case hi=>exact Nd (by lk) rfl (by lia)
 case h0=>exact{none,none,rfl,uQ.intro,uQ.intro}
 case k =>
  intro _ {x,y,rfl,fx,fy}
  lk;exact ZE rfl (by rw[px])
 case st =>
  intro P k R _ e {x,y,rfl,fx,fy}
  let{rfl,hk}:=FQ e;have en:∀z:tO,z.cps.uP=Nm.codes c P.fg->(nms c P.fg).tJ T.str++[T.str z]=(nms c (P++[P.fg]).fg).tJ T.str:=λz ez=>by have:z=nmS c P.fg:=WG (by rw[ez];simp[nmS]);simp[nms,pU,this]
  have ln:((nms c P.fg).tJ T.str).fg<1000000:=by simp[nms];lia
  lk
  .exact MD bb (hl _)
  lk
  .exact A0 (j:=0) (by rw[oq,pq (by lia)];rfl)
  lk
  .exact Yr {rfl,by lia,by lia}
  lk
  .rw[en _ (by rw[PL _ _ (by lia),Nm.codes,tW (oy hb),Nm.HL])];exact{_,_,rfl,Al,Al}
  intro hb;lk
  .exact JbV (R6 (Ah rfl) (Ah rfl) a0 (by simp;lia)) (by rw[<- tH.map_take,tH.take_range,pT (by lia)]) (by simp;lia)
  lk
  .exact QF (by rw[Iw];show _+1<=1000000;simp;lia)
  lk
  .exact JbV (R7 (Ah rfl) (Ar (Ah rfl) Be C0) (by lia) (by simp;lia)) Ue (by simp;lia)
  lk
  .exact QF (by rw[strLen_append,Iw,Iw];show _+1+_<=1000000;simp;lia)
  lk;rw[en _ (by show(((Txt.join ({#[]}:tO) _).cps++#[Nm.one c P.fg])++(Txt.join ({#[]}:tO) _).cps).uP=_;rw[vp.toList_append,vp.toList_append,join_ones,join_ones (λj=>Nm.uk c ((Nm.At c+1).uw+j)),Nm.codes,ug (of_decide_eq_false hb),Nm.HK,tN.toNat_add a0 ZB];rfl)];exact{_,_,rfl,Al,Al}
def Jbj{uq:tH tO}{at':tQ}{z1 z2 z3:tN}(ha:at'<=uq.fg):
  ∃t τ,FX [vl (.tY (uq.tJ T.str)),iv at',vl (.l first),p' (.u7 (.tY (pu++[.tS z3]++[.tS z2]++[.tS z1])))]=.ok (.t t) τ/\∃ps:tH tO,t=.uj (ps.tJ T.str)/\ps.fg<=2/\(∀x∈ps,x∈uq.uB (if first=true then at' else uq.fg))/\τ[3]?=p' (p' (.u7 (.tY pu))):=by
 obtain⟨q,hq,eq⟩:∃q:tQ,q<=2/\atI [T.tS 0,T.tS 1,T.tS 1,T.tS 2] (z1%4)=p' (T.tS q):=by rcases(show z1%4=(0:tQ)\/z1%4=(1:tQ)\/z1%4=(2:tQ)\/z1%4=(3:tQ) by lia)with h|h|h|h<;>rw[h]<;>exact{_,ZB,A0 rfl}
 apply L5;lk;apply O8 (J:=λO:tQ=>[vl (.tY (uq.tJ T.str)),iv at',vl (.l first),p' (.u7 (.tY pu)),iv q,vl (.tY [.tS z2,.tS z3]),iv O]) (P:=λO=>O=if first=true then at' else uq.fg)
 .lk
 .rintro rfl
  exact{at',rfl,by lk}
 .rintro rfl
  exact{uq.fg,rfl,by rw[nU];lk}
 rintro O hO
 have hl:O<=uq.fg:=by rw[hO];split<;>lia
 rw[<- hO];lk
 .exact WU {[],rfl,by simp,by simp,rfl}
 intro hb;have hO:0<O:=by simp at hb;lia
 lk
 .rfl
 .lia
 .lk
 .apply DH
  .lk
  .intro k mk;have:=oR.mp mk;have:atI [T.tS z2,T.tS z3] k=p' (T.tS ([z2,z3].uZ k 0)):=A0 (by rcases(show k=0\/k=1 by lia)with rfl|rfl<;>rfl);have:=(V4 hO hl ([z2,z3].uZ k 0)).2;lk
  .simp;lia
 lk;exact WU {(tH.vq q).tJ _,by rw[oj];rfl,by simpa using hq,λx m=>by let{k,_,rfl}:=oa.mp m;exact(V4 hO hl _).1,rfl}
def JbP{ns:tH tN}(h0:t6.tN.vh (ns.uZ 0 0)<=2^20)(h1:t6.tN.vh (ns.uZ 1 0)<=2^20):
  ∃K:Kd,(1<=K.fg/\K.fg<=4/\KOk (nms (ns.uZ 0 0) K.fg) (nms (ns.uZ 1 0) 12) K/\used K<=12)/\∃τ,FZ [vl (.n (ns.tJ T.tS))]=.ok (.nw (.tY (K.tJ BM))) τ:=by
 let{ds,hd,_,ed}:=GK (ns:=ns) (.uW rfl) (a:=0) (b:=3) ZB ZB ZB ZB;let{ds,z,rfl,hz}:=P6 (xs:=ds) (by lia);rw[nW]at ed;obtain⟨_,c0⟩:∃τ,Ay [vl (.n (ns.tJ T.tS)),iv 0]=.ok (.t (.tS (ns.uZ 0 0))) τ:=BP ns 0;obtain⟨_,c1⟩:∃τ,Ay [vl (.n (ns.tJ T.tS)),iv 1]=.ok (.t (.tS (ns.uZ 1 0))) τ:=BP ns 1;obtain⟨m,m0,m1,em⟩:∃m:tQ,1<=m/\m<=4/\atI [T.tS 1,T.tS 2,T.tS 3,T.tS 2,T.tS 1,T.tS 4,T.tS 2,T.tS 3] (z%8)=p' (T.tS m):=by rcases(show z%8=(0:tQ)\/z%8=(1:tQ)\/z%8=(2:tQ)\/z%8=(3:tQ)\/z%8=(4:tQ)\/z%8=(5:tQ)\/z%8=(6:tQ)\/z%8=(7:tQ) by lia)with h|h|h|h|h|h|h|h<;>rw[h]<;>exact{_,ZB,ZB,A0 rfl}
 obtain⟨w,w0,w4,wm,ew⟩:∃w:tQ,3<=w/\w<=4/\w*m<=12/\atI [T.tS 4,T.tS 3] (if decide ((m:tN)=4)=true then 1 else 0)=p' (T.tS w):=by
  by_cases h:(m:tN)=4
  .exact{3,ZB,ZB,by lia,by simp[h];exact at1}
  .exact{4,ZB,ZB,by lia,by simp[h];exact at0}
 let{_,n0}:=JM (n:=m) (by lia) h0;obtain⟨_,n1⟩:∃τ,Cs [iv (ns.uZ 1 0),iv 12]=_:=JM ZB h1;have l0:=BL (ns.uZ 0 0) m;have l1:=BL (ns.uZ 1 0) 12
 suffices H:∃K:Kd,(K.fg=m/\KOk (nms (ns.uZ 0 0) m) (nms (ns.uZ 1 0) 12) K/\used K<=12)/\∃τ,FZ [vl (.n (ns.tJ T.tS))]=.ok (.nw (.tY (K.tJ BM))) τ by let{K,{rfl,k1,k2},e}:=H;exact{K,{m0,m1,k1,k2},e}
 generalize nms (ns.uZ 0 0) m=uq at *;generalize nms (ns.uZ 1 0) 12=wj at *;have hg:∀(xs:tH tO)(i:tQ),i<xs.fg->atI (xs.tJ T.str) (i:tN)=p' (T.str (xs.uZ i {#[]})):=λxs i h=>A0 (by simp[h])
 apply JaV;unfold Na;lk;apply Bn (I:=λP fs=>∃(K:Kd)(ds:tH tN)(x y z:tL Sl),fs=[vl (.n (ns.tJ T.tS)),p' (.uI (.tY (ds.tJ T.tS))),iv m,vl (.tY (uq.tJ T.str)),vl (.tY (wj.tJ T.str)),p' (.uI (.tY (K.tJ BM))),iv (used K:tQ),x,y,z]/\K.fg=P.fg/\KOk uq wj K/\used K<=w*P.fg/\149<=ds.fg+13*P.fg/\vC x/\vC y/\vC z)
 case hi=>exact Nd (by lk) rfl (by lia)
 case h0=>exact{[],ds,none,none,none,rfl,rfl,.vO,by simp[used],by simp at hd;simp;lia,uQ.intro,uQ.intro,uQ.intro}
 case k =>
  intro _ {K,ds,x,y,z,rfl,hK,ko,hu,hd,fx,fy,fz}
  lk;exact ZE rfl {K,rfl,by simpa using hK,ko,by simp at hu;lia}
 case st =>
  intro P k R _ e {K,ds,x,y,z,rfl,hK,ko,hu,hd,fx,fy,fz}
  let{rfl,hk}:=FQ e;let{ds,v,rfl,hv}:=P6 (xs:=ds) (by lia);rw[nW];have v0:=oU v (b:=w) (by lia);have v1:=oN v (b:=w) (by lia);simp at hd hv;have hw:used K+w<=12:=oo (show used K+w<=w*(P.fg+1) by rw[tQ.mul_succ];lia) (oo (tQ.mul_le_mul_left w hk) wm);lk;apply Bn (I:=λQ fs=>∃(vv:tH (tO×tH tO))(es:tH tN)(y:tL Sl),fs=[vl (.n (ns.tJ T.tS)),p' (.uI (.tY (es.tJ T.tS))),iv m,vl (.tY (uq.tJ T.str)),vl (.tY (wj.tJ T.str)),p' (.uI (.tY (K.tJ BM))),iv (used K+vv.fg:tQ),iv P.fg,p' (.uI (.tY (vv.tJ U4))),y]/\vv.fg=Q.fg/\Rows uq wj P.fg (used K) vv/\es.fg+3*Q.fg=ds.fg/\vC y) (xs:=tH.vq (1+(v%w).uw)) (p:=λi=>T.tS (i:tQ))
  case hi=>exact Nd (by lk) (by lia) (by lia)
  case h0=>exact{[],ds,z,rfl,rfl,.vO,rfl,fz}
  case st =>
   intro Q k R' _ e' {vv,es,y,rfl,hr,ro,he,fy}
   let{rfl,dz}:=FQ e';let{es,z1,z2,z3,ee,le}:=last3 (ds:=es) (by lia);let{_,τ,ep,ps,rfl,p2,pm,pt}:=Jbj (uq:=uq) (at':=P.fg) (first:=decide ((Q.fg:tN)=0)) (pu:=es.tJ T.tS) (z1:=z1) (z2:=z2) (z3:=z3) (by lia);have:=hg wj (used K+vv.fg) (by lia);rw[ee];lk;exact{vv++[(wj.uZ (used K+vv.fg) {#[]},ps)],es,_,by rw[nW,n9];rfl,by simp[hr],ro.snoc p2 (by simpa[hr]using pm),by simp;lia,Al}
  case k =>
   intro _ {vv,es,y,rfl,hr,ro,he,fy}
   have:=hg uq P.fg (by lia);simp at hr he;lk;have kk:=ko.snoc (vv:=vv) (by lia) (by lia) (by rw[hK];exact ro);rw[hK]at kk;exact{_,es,_,_,_,by rw[Jn,nW];rfl,by simp[hK],kk,by simp[Jn,tQ.mul_succ];lia,by simp at he ⊢;lia,Al,Al,fy}
def Jah(di:(K.tJ (·.1)).uA)(hl:K.fg<=100):∃τ,IG [vl (.tY (K.tJ BM))]=.ok (.nw (.v (Co K) (OW K))) τ:=by
 apply JaU;lk;apply Bn (I:=λD fs=>∃x y,fs=[vl (.tY (K.tJ BM)),p' (.uI (.v (Co D) (OW D))),x,y]/\vC x/\vC y)
 case hi=>trivial
 case h0=>exact{none,none,rfl,uQ.intro,uQ.intro}
 case k =>
  intro _ {x,y,rfl,fx,fy}
  lk;exact ZE rfl rfl
 case st =>
  intro D kd R _ e {x,y,rfl,fx,fy}
  have h1:=XM e di;have h2:=(NJ e).1;have h3:(Co D).fg<1000000:=by simp[Co];lia
  lk;exact{_,_,by unfold Co OW;rw[nW,nW];rfl,Al,Al}
mutual
def Ow(own:Str)(ls:List Str):Ex->Prop
 |.nm _=>True
 |.mk _ es=>Ows own ls es
 |.cl f es=>(f=own->∃x∈ls,es[0]?=some (.nm x))/\Ows own ls es
def Ows(own:Str)(ls:List Str):List Ex->Prop
 | []=>True
 |e::es=>Ow own ls e/\Ows own ls es
end
section
variable{K:Kd}{hd:Str->Option (List Str×Str)}{xs ks:List Str}{own:Str}{ls:List Str}
mutual
theorem Xk.ty:∀{e:Ex}{k:Str}{n:Nat},Xk K hd xs ks e k->Ow own ls e->e.dp<=n->Ty K (λx k=>lkp xs ks x=some k) (λf ps k ts=>hd f=some (ps,k)/\(f=own->∃x∈ls,ts[0]?=some (exN x))) n e.t k
 |.nm x,k,n+1,h,_,_=>.inl ⟨x,h,by rw[Ex.t];rfl⟩
 |.mk m es,k,n+1,h,o,l=>by obtain⟨kd,hk,e,qs,hm,hX⟩:=h;rw[Ex.dp]at l;exact .inr (.inl ⟨m,qs,es.map Ex.t,⟨kd,hk,e,hm⟩,Xks.ty hX o (by lia),by rw[Ex.t,Ex.By];rfl⟩)
 |.cl f es,k,n+1,h,o,l=>by obtain⟨qs,hh,hX⟩:=h;rw[Ex.dp]at l;refine .inr (.inr ⟨f,qs,es.map Ex.t,⟨hh,λe=>?_⟩,Xks.ty hX o.2 (by lia),by rw[Ex.t,Ex.By];rfl⟩);obtain⟨x,mx,e0⟩:=o.1 e;exact⟨x,mx,by rw[oq,e0];simp only[pd,Ex.t];rfl⟩
 |.nm x,_,0,_,_,l=>by rw[Ex.dp]at l;lia
 |.mk m es,_,0,_,_,l=>by rw[Ex.dp]at l;lia
 |.cl f es,_,0,_,_,l=>by rw[Ex.dp]at l;lia
theorem Xks.ty:∀{es:List Ex}{qs:List Str}{n:Nat},Xks K hd xs ks es qs->Ows own ls es->Ex.dps es<=n->F2 (Ty K (λx k=>lkp xs ks x=some k) (λf ps k ts=>hd f=some (ps,k)/\(f=own->∃x∈ls,ts[0]?=some (exN x))) n) (es.map Ex.t) qs
 | [],[],_,_,_,_=>.nil
 |e::es,q::qs,n,h,o,l=>by rw[Ex.dps]at l;exact .cons (Xk.ty h.1 o.1 (by lia)) (Xks.ty h.2 o.2 (by lia))
end
def Xks.of(h:F2 (λq e=>Xk K hd xs ks e q) qs es):Xks K hd xs ks es qs:=by induction h with|vO=>exact uQ.intro|ux h _ ih=>exact{h,ih}
def Ows.of:∀{es:tH Ex},(∀e∈es,Ow uI ls e)->Ows uI ls es
 | [],_=>uQ.intro
 |e::es,h=>{h e n5,Ows.of λe m=>h e (n4 _ m)}
end
def F2.right(h:F2 R as bs):∀b∈bs,∃a∈as,R a b:=by
 induction h with
 |vO=>exact λ_ m=>nomatch m
 |ux h _ ih =>
  intro b m;rcases oz.mp m with rfl|m
  .exact{_,n5,h}
  .let{a,ma,r}:=ih b m;exact{a,n4 _ ma,r}
def Ex.QR:∀{es:tH Ex},(∀e∈es,e.dp<=q)->Ex.dps es<=q
 | [],_=>by rw[Ex.dps];lia
 |e::es,H=>by
  rw[Ex.dps];have:=H e n5;have:=Ex.QR λe m=>H e (n4 _ m)
  lia
def Ex.OC:∀{es:tH Ex},(∀e∈es,e.sz<=q)->Ex.szs es<=es.fg*q
 | [],_=>by rw[Ex.szs];lia
 |e::es,H=>by
  rw[Ex.szs,om,tQ.succ_mul];have:=H e n5;have:=Ex.OC λe m=>H e (n4 _ m)
  lia
def lsz :tQ->tQ
 |0=>2
 |d+1=>2+2*lsz d
def Mt:∀{a b:tQ},a<=b->lsz a<=lsz b
 |0,0,_=>oh _
 |0,b+1,_=>by show 2<=2+2*lsz b;lia
 |a+1,b+1,h=>by have:=Mt (a:=a) (b:=b) (by lia);show 2+2*lsz a<=2+2*lsz b;lia
 |a+1,0,h=>uD h (by lia)
def least(W:Well K):∀(d n:tQ),d<n->∀D kd R,D++kd::R=K->D.fg<=d->∃e:Ex,(∃τ,EC n [vl (tF K),vl (.str kd.1)]=.ok (.t e.t) τ)/\(∀hd xs ks,Xk K hd xs ks e kd.1)/\(∀uI ls,Ow uI ls e)/\e.sz<=lsz d/\e.dp<=d+1
 |d,n+1,hn,D,kd,R,e,hd=>by
  have hk:=mem_mid e;have h0:=FC W hk;let{r,rs,er}:=qw (W.rw kd hk).1;have hr:r∈kd.2:=by rw[er];exact n5
  have h2:=W.two kd hk r hr;obtain⟨vs,hv⟩:∃vs:tH Ex,F2 (λp v=>(∃τ,EC n [vl (tF K),vl (.str p)]=.ok (.t v.t) τ)/\(∀hd xs ks,Xk K hd xs ks v p)/\(∀uI ls,Ow uI ls v)/\2+2*v.sz<=lsz d/\v.dp<=d) r.2 vs:=ex_F2 λp mp=>by
   have mp:=W.gr D kd R e.symm r (by rw[er];rfl) p mp;let{kp,mk,rfl}:=oa.mp mp;let{A,B,rfl}:=pC mk;rw[n9,om]at hd;obtain⟨d,rfl⟩:∃e,d=e+1:={d-1,by lia}
   let{v,a1,a2,a3,a4,a5}:=least W d n (by lia) A kp (B++kd::R) (by rw[<- e];simp) (by lia);exact{v,a1,a2,a3,by show 2+2*v.sz<=2+2*lsz d;lia,a5}
  have hlen:=hv.wv;refine{.mk r.1 vs,?_,λhd xs ks=>{kd,hk,rfl,r.2,hr,Xks.of (hv.imp λ_ _ h=>h.2.1 hd xs ks)},λuI ls=>Ows.of λe m=>by let{p,_,h}:=hv.right e m;exact h.2.2.1 uI ls,?_,?_}
  .rw[er]at h0;apply Cp;unfold M9;rw[Ex.t,Ex.By];lk
   .apply cl_F2
    .lk
    .exact(hv.imp λp v { {_,h},_}=>by lk).map_r
    .lia
   lk
  .rw[Ex.sz];have l2:=Mt (pB d);have l2:2<=lsz d:=l2;have q:=Ex.OC (q:=(lsz d-2)/2) λe m=>by let{p,_,h}:=hv.right e m;have:=h.2.2.2.1;lia
   have q2:=pE ((lsz d-2)/2) (show vs.fg<=2 by lia)
   lia
  .rw[Ex.dp];have:=Ex.QR λe m=>by let{p,_,h}:=hv.right e m;exact h.2.2.2.2
   lia
def Wk(h1:it fs=.ok ts ae)(hs:Src ae wP)(hc:Bq gt ft fe ts (Bu ae (wP.tJ λo=>o.tU Ini.no Ini.vH)) []=p' (us,τ)):AW true wP it gt ft fe fs=.ok (.nw (.tY us)) ae:=by unfold Src at hs;unfold AW;rw[h1];show(if _ then _ else _)=_;rw[tW {by rw[hs.1];exact oY,hs.2},hc];show(match B3 _ τ ae with|p' ak=>_|none=>_)=_;rw[AQ hs.1];rfl
def neE:MG true (.t (.tY (ls.tJ T.str))) (.t (.tY [])) fs=.ok (.t (.l (decide (ls≠[])))) fs:=by with_unfolding_all (cases ls<;>rfl)
inductive Ch where
 |nm (x:tO)|mk (m:tO) (ps:tH tO)|cl (f:tO) (ps:tH tO)
def Ch.t :Ch->T
 |.nm x=>.uj [.str "name",.str x]
 |.mk m ps=>.uj [.str "make",.str m,.uj (ps.tJ .str)]
 |.cl f ps=>.uj [.str "call",.str f,.uj (ps.tJ .str)]
structure Dr where
 K:Kd
 N:tH (tO×tO)
 C:tH (tO×tH tO×tO)
 CT:T
 on:tO
 yP:tH tO
 ok:tO
 zm:tH tO
abbrev pnT(p:tO×tO):T:=.uj [.str p.1,.str p.2]
abbrev cT(c:tO×tH tO×tO):T:=.uj [.str c.1,.uj (c.2.1.tJ .str),.str c.2.2]
abbrev Dr.uI(d:Dr):T:=.uj [.str d.on,.uj (d.yP.tJ .str),.str d.ok,.tY (d.zm.tJ .str)]
abbrev Dr.known(d:Dr):T:=.tY (d.N.tJ pnT)
def ChOk (d:Dr)(kd:tO×tH (tO×tH tO)):Ch->Prop
 |.nm x=>(x,kd.1)∈d.N
 |.mk m ps=>(m,ps)∈kd.2
 |.cl f ps=>(f,ps,kd.1)∈d.C\/f=d.on/\ps=d.yP/\d.ok=kd.1/\d.zm≠[]
def Chs (d:Dr)(kd:tO×tH (tO×tH tO))(n:tQ)(t:tH T):Prop:=∃cs:tH Ch,t=cs.tJ Ch.t/\(∀c∈cs,ChOk d kd c)/\cs.fg<=n
def Chs.add(h:Chs d kd n t)(e:u=c.t)(hc:ChOk d kd c):Chs d kd (n+1) (t++[u]):=by
 let{cs,rfl,h1,h2}:=h;refine{cs++[c],by rw[nW,e];rfl,λx m=>?_,by simp;lia};rcases oS.mp m with m|m
 .exact h1 x m
 .rwa[oF.mp m]
def Chs.mono(h:Chs d kd n t)(l:n<=m):Chs d kd m t:=by let{cs,e,h1,h2}:=h;exact{cs,e,h1,by lia}
def Chs.wv(h:Chs d kd n t):t.fg<=n:=by let{cs,rfl,_,h}:=h;simpa using h
def Y9(W:Well d.K)(hk:kd∈d.K)(lN:d.N.fg<=100)(lC:d.C.fg<=100)(hC:d.CT=.tY (d.C.tJ cT)\/d.CT=.uj (d.C.tJ cT)\/d.CT=.n (d.C.tJ cT)):
  ∃o τ,EX [vl (tF d.K),vl d.known,vl d.CT,vl d.uI,vl (.str kd.1)]=.ok (.nw o) τ/\∃cs,o=.tY cs/\Chs d kd 300 cs/\cs≠[]:=by
 have h0:=FC W hk;have h4:=W.rw kd hk;apply L6;lk
 .apply Wk
  .lk
  .lk
  .apply Lp (q:=λp=>(Ch.nm p.1).t)
   .lk
   .lk
   .exact λ_=>rfl
   .intro p mp;lk
   .intro p mp hb;unfold Ch.t;lk
   .lia
 lk;apply Bn (I:=λD fs=>∃ts y6 y7,fs=[vl (tF d.K),vl d.known,vl d.CT,vl d.uI,vl (.str kd.1),p' (.uI (.tY ts)),y6,y7,none,none,none]/\Chs d kd (100+D.fg) ts/\(D≠[]->ts≠[])/\vC y6/\vC y7)
 case hi=>trivial
 case h0 =>
  refine{_,_,_,rfl,{(d.N.filter λp=>decide (p.2=kd.1)).tJ λp=>.nm p.1,by rw[oj];rfl,λc m=>?_,?_},λh=>uD rfl h,uQ.intro,uQ.intro}
  .let{p,mp,rfl}:=oa.mp m;let{mp,hp}:=pV.mp mp;show(p.1,kd.1)∈d.N;rw[<- oy hp];exact mp
  .have:=tH.length_filter_le (λp:tO×tO=>decide (p.2=kd.1)) d.N;simp
   lia
 case st =>
  intro D r R _ e {ts,y6,y7,rfl,hc,_,f6,f7}
  have hD:=D9 e;have hl:=hc.wv;lk;exact{_,_,_,rfl,(hc.add (c:=.mk r.1 r.2) rfl (mem_mid e)).mono (by simp;lia),by simp,Al,Al}
 case k =>
  intro _ {ts,y6,y7,rfl,hc,aX,f6,f7}
  have aX:=aX (by intro h;rw[h]at h4;simp at h4);have hl:=hc.wv;apply Bn (I:=λD fs=>∃ts y8 y9 bI,fs=[vl (tF d.K),vl d.known,vl d.CT,vl d.uI,vl (.str kd.1),p' (.uI (.tY ts)),y6,y7,y8,y9,bI]/\Chs d kd (110+D.fg) ts/\ts≠[]/\vC y8/\vC y9/\vC bI)
  case hi =>
   apply Wg
   .lk
   .exact hC
  case h0=>exact{_,_,_,_,rfl,hc.mono (by simp;lia),aX,uQ.intro,uQ.intro,uQ.intro}
  case st =>
   intro D c R _ e {ts,y8,y9,bI,rfl,hc,aX,f8,f9,f10}
   have hD:=D9 e;have hl:=hc.wv;lk
   .have hh:=oy ‹decide (c.2.2=kd.1)=true›;refine{_,_,_,_,rfl,(hc.add (c:=.cl c.1 c.2.1) rfl (.uW ?_)).mono (by simp;lia),by simp,Al,Al,Al};rw[<- hh];exact mem_mid e
   .intro _;lk;exact{_,_,_,_,rfl,hc.mono (by simp),aX,Al,Al,Al}
  case k =>
   intro _ {ts,y8,y9,bI,rfl,hc,aX,f8,f9,f10}
   have hl:=hc.wv;apply O8 (J:=λts=>[vl (tF d.K),vl d.known,vl d.CT,vl d.uI,vl (.str kd.1),p' (.uI (.tY ts)),y6,y7,y8,y9,bI]) (P:=λts=>Chs d kd 300 ts/\ts≠[])
   .apply Je
    .lk
    .lk;exact neE
   .intro hh;simp at hh;refine{_,{(hc.add (c:=.cl d.on d.yP) rfl (.uK {rfl,rfl,hh.1,hh.2})).mono (by lia),by simp},?_};apply Eq.trans
    .lk
    .rfl
   .intro _;exact{_,{hc.mono (by lia),aX},rfl}
   .intro ts {hc,aX}
    lk;exact ZE rfl {_,rfl,hc,aX}
def eqE:MG false (.t (.tY (ls.tJ p))) (.t (.tY [])) fs=.ok (.t (.l (decide (ls=[])))) fs:=by with_unfolding_all (cases ls<;>rfl)
def JbY{L:tH α}(hL:L≠[])(p:α->T)(x:tN):∃a∈L,atI (L.tJ p) (-1-x%((L.tJ p).fg:tN))=p' (p a):=by
 have h0:=pw.wO hL;have h1:=oU x (show((L.tJ p).fg:tN)≠0 by simp;lia);have h2:=oN x (show(0:tN)<((L.tJ p).fg:tN) by simp;lia);generalize x%((L.tJ p).fg:tN)=m at h1 h2 ⊢;rw[nU]at h2;have hj:L.fg-1-m.uw<L.fg:=by lia
 refine{L[L.fg-1-m.uw],qi hj,?_};have e1:ixN (L.tJ p).fg (-1-m)=p' (L.fg-1-m.uw):=by
  unfold ixN;rw[nU,ug (by lia),tW (by lia)];congr 1;let{k,rfl}:=tN.eq_ofNat_of_zero_le h1;rw[tN.toNat_natCast,tQ.sub_sub,<- tN.toNat_sub _ (1+k),tN.add_comm,tN.natCast_add,<- tN.sub_sub];show(_+(-1-_)).uw=_;rw[tN.sub_eq_add_neg,tN.sub_eq_add_neg,tN.sub_eq_add_neg,tN.add_assoc];rfl
 unfold atI;rw[e1,oM,oq,nX hj];rfl
def neg1:XJ (gc (.tS 1)) fs=.ok (.t (.tS (-1))) fs:=by with_unfolding_all rfl
def OX(e:D++a::R=tH.vq n):a=D.fg/\D.fg<n:=by
 have l:=uC tH.fg e;rw[n9,om,px]at l;have h:D.fg<n:=by lia
 have g:(D++a::R)[D.fg]?=(tH.vq n)[D.fg]?:=by rw[e]
 rw[qF (oh _),tQ.sub_self,qK,pq h]at g;exact{tL.p'.inj g,h}
def Ch.hd :Ch->tO
 |.nm _=>"name"
 |.mk _ _=>"make"
 |.cl _ _=>"call"
def Ch.t_hd(c:Ch):∃ts,c.t=.uj (.str c.hd::ts):=by cases c<;>exact{_,rfl}
def Ch.nm_of{c:Ch}(h:c.hd="name"):∃x,c=.nm x:=by cases c with|nm x=>exact{x,rfl}|mk _ _=>exact uD h HG.1|cl _ _=>exact uD h HG.2.1
def pp :tQ->tQ
 |0=>1
 |d+1=>1+3*pp d
def esz :tQ->tQ
 |0=>30
 |d+1=>2+3*esz d
def Ph(d:tQ):1<=pp d:=by cases d<;>simp[pp]
def MN:∀d:tQ,30<=esz d
 |0=>oh _
 |d+1=>by have:=MN d;show 30<=2+3*esz d;lia
structure DrOk(d:Dr)(hd:tO->tL (tH tO×tO))(xs ks:tH tO):Prop where
 W:Well d.K
 lN:d.N.fg<=100
 lC:d.C.fg<=100
 lO:d.zm.fg<=100
 CT:d.CT=.tY (d.C.tJ cT)\/d.CT=.uj (d.C.tJ cT)\/d.CT=.n (d.C.tJ cT)
 nN:∀p∈d.N,lkp xs ks p.1=p' p.2
 cC:∀c∈d.C,hd c.1=p' (c.2.1,c.2.2)/\c.1≠d.on/\c.2.1.fg<=3/\∀q∈c.2.1,q∈d.K.tJ (·.1)
 oC:d.zm≠[]->hd d.on=p' (d.yP,d.ok)/\d.yP.fg<=3/\(∀q∈d.yP,q∈d.K.tJ (·.1))/\∃q qs,d.yP=q::qs/\∀x∈d.zm,lkp xs ks x=p' q
section
variable{d:Dr}{hd:Str->Option (List Str×Str)}{xs ks:List Str}
def Dn (d:Dr)(hd:tO->tL (tH tO×tO))(xs ks:tH tO)(dn:tQ)(e:Ex)(k:tO):Prop:=Xk d.K hd xs ks e k/\Ow d.on d.zm e/\e.sz<=esz dn/\e.dp<=dn+4
def szA(h:F2 (λq e=>Dn d hd xs ks dn e q) ps args)(l:ps.fg<=3):2+Ex.szs args<=esz (dn+1):=by
 have q:=Ex.OC λe m=>by let{_,_,h}:=h.right e m;exact h.2.2.1
 have m3:args.fg*esz dn<=3*esz dn:=pE _ (by rwa[<- h.wv]);show 2+Ex.szs args<=2+3*esz dn
 lia
def dpA(h:F2 (λq e=>Dn d hd xs ks dn e q) ps args):1+Ex.dps args<=dn+1+4:=by
 have:=Ex.QR λe m=>by let{_,_,h}:=h.right e m;exact h.2.2.2
 lia
def MR(O:DrOk d hd xs ks):∀(dn n:tQ),dn<n->∀kd∈d.K,∀ds:tH tN,pp dn<=ds.fg->∃t τ,AU n [vl (tF d.K),vl d.known,vl d.CT,vl d.uI,vl (.str kd.1),p' (.u7 (.tY (ds.tJ T.tS))),iv dn]=.ok (.t t) τ/\∃es:tH tN,τ[5]?=p' (p' (.u7 (.tY (es.tJ T.tS))))/\ds.fg<=es.fg+pp dn/\∃e,t=e.t/\Dn d hd xs ks dn e kd.1
 |dn,n+1,hn,kd,hk,ds,hp=>by
  let{_,_,c1,cs,rfl,{jj,rfl,cF,jP},aX}:=Y9 O.W hk O.lN O.lC O.CT;obtain⟨ds,x,rfl⟩:∃fD x,ds=fD++[x]:={ds.vf,ds.getLast (by intro h;rw[h]at hp;cases dn<;>simp[pp]at hp),(oH _).symm}
  rw[nW];apply L5;unfold EG;apply AN
  .lk
  apply AN
  .lk
  apply O8 (J:=λcs:tH Ch=>[vl (tF d.K),vl d.known,vl d.CT,vl d.uI,vl (.str kd.1),p' (.u7 (.tY (ds.tJ T.tS))),iv dn,vl (.tY (cs.tJ Ch.t)),iv x,none,none,none]) (P:=λcs=>(∀c∈cs,ChOk d kd c)/\cs.fg<=300/\(dn=0->∀c∈cs,∃x,c=.nm x))
  .lk
  .intro hh;have h0:=by simpa using hh
   refine{jj.filter λc=>decide (c.hd="name"),{λc m=>cF c (pV.mp m).1,oo (tH.length_filter_le ..) jP,λ_ c m=>Ch.nm_of (oy (pV.mp m).2)},?_};apply Eq.trans
   .lk
    .apply Q4
     .lk
     .intro c _;let{ts,e}:=c.t_hd;rw[e];lk
     .intro c _ _;lk
     .lia
    .lk
   .rfl
  .intro hh;have h0:=by simpa using hh
   exact{jj,{cF,jP,λh=>uD h h0},rfl}
  intro cs {hc,lc,h0}
  rw[n9,o9]at hp;lk
  .exact eqE
  .intro _;let{D,R,e}:=pC hk;have hD:D.fg<=3:=by have:=O.W.hi;rw[e]at this;simp at this;lia
   let{e,{_,e1},x1,o1,s1,d1}:=least O.W 3 4 (by lia) D kd R e.symm hD;lk;refine WU {ds,rfl,?_,e,rfl,x1 _ _ _,o1 _ _,?_,?_}
   .have:=Ph dn;simp
    lia
   .have:=MN dn;have:e.sz<=30:=s1
    lia
   .lia
  .intro hh;have aX:=of_decide_eq_false hh;let{c,mc,ic}:=JbY aX Ch.t x;have g0:0<(cs.tJ Ch.t).fg:=by rw[nU];exact pw.wO aX
   have ok:=hc c mc;have key:(∃y,c=.nm y)\/∃aT f ps bq,dn=bq+1/\c.t=.uj [.str aT,.str f,.uj (ps.tJ .str)]/\¬aT="name"/\ps.fg<=3/\(∀q∈ps,q∈d.K.tJ (·.1))/\(aT="call"/\f=d.on->d.zm≠[]/\∃q qs,ps=q::qs/\∀x∈d.zm,lkp xs ks x=p' q) /\
     ∀args:tH Ex,F2 (λq e=>Dn d hd xs ks bq e q) ps args->(aT="call"/\f=d.on->∃x∈d.zm,args[0]?=p' (.nm x))->∃e,T.uj [.str aT,.str f,.uj (args.tJ Ex.t)]=e.t/\Dn d hd xs ks dn e kd.1:=by
    cases c with
    |nm y=>exact .uW {y,rfl}
    |mk m ps =>
     cases dn with
     |zero=>let{_,e}:=h0 rfl _ mc;cases e
     |succ bq =>
      have two:=O.W.two kd hk _ ok;refine .uK {"make",m,ps,bq,rfl,rfl,HG.1,by simp at two;lia,O.W.yN kd hk _ ok,λh=>uD h.1.symm HG.2.2,λargs hF _=>{.mk m args,by rw[Ex.t,Ex.By],{kd,hk,rfl,ps,ok,Xks.of (hF.imp λ_ _ h=>h.1)},Ows.of λe m=>by let{_,_,h}:=hF.right e m;exact h.2.1,?_,?_} }
      .exact szA hF (by simp at two;lia)
      .exact dpA hF
    |cl f ps =>
     cases dn with
     |zero=>let{_,e}:=h0 rfl _ mc;cases e
     |succ bq =>
      have hx:hd f=p' (ps,kd.1)/\ps.fg<=3/\(∀q∈ps,q∈d.K.tJ (·.1))/\(f=d.on->d.zm≠[]/\∃q qs,ps=q::qs/\∀x∈d.zm,lkp xs ks x=p' q):=by
       rcases ok with ok|⟨rfl,rfl,e,aX⟩
       .let{a1,a2,a3,a4}:=O.cC _ ok;exact{a1,a3,a4,λh=>uD h a2}
       .let{a1,a2,a3,a4}:=O.oC aX;exact{e▸a1,a2,a3,λ_=>{aX,a4} }
      let{x1,x2,x3,x4}:=hx;refine .uK {"call",f,ps,bq,rfl,rfl,HG.2.1,x2,x3,λh=>x4 h.2,λargs hF ho=>{.cl f args,by rw[Ex.t,Ex.By],{ps,x1,Xks.of (hF.imp λ_ _ h=>h.1)},{λe=>ho {rfl,e},Ows.of λe m=>by let{_,_,h}:=hF.right e m;exact h.2.1},?_,?_} }
      .exact szA hF x2
      .exact dpA hF
   rcases key with⟨y,rfl⟩|⟨aT,f,ps,bq,rfl,et,hf,lp,yU,hown,aO⟩
   .unfold Ch.t at ic;lk
    .refine WU {ds,rfl,?_,.nm y,by rw[Ex.t],O.nN (y,kd.1) ok,uQ.intro,?_,?_}
     .have:=Ph dn;simp
      lia
     .have:=MN dn;rw[Ex.sz]
      lia
     .rw[Ex.dp]
      lia
    .intro h;simp at h
   .rw[et]at ic;lk;apply Bn (I:=λD fs=>∃(args:tH Ex)(es:tH tN)(ie:tL Sl),fs=[vl (tF d.K),vl d.known,vl d.CT,vl d.uI,vl (.str kd.1),p' (.u7 (.tY (es.tJ T.tS))),iv ((bq+1:tQ):tN),vl (.tY (cs.tJ Ch.t)),iv x,vl (.uj [.str aT,.str f,.uj (ps.tJ .str)]),p' (.uI (.tY (args.tJ Ex.t))),ie]/\F2 (λq e=>Dn d hd xs ks bq e q) (ps.uB D.fg) args/\(aT="call"/\f=d.on->D≠[]->∃x∈d.zm,args[0]?=p' (.nm x))/\ds.fg<=es.fg+D.fg*pp bq/\vC ie) (xs:=tH.vq ps.fg)
    case hi =>
     lk
     .simp
     .lia
    case h0=>exact{[],ds,none,rfl,.vO,λ_ h=>uD rfl h,by simp,uQ.intro}
    case st =>
     intro D a R _ e {args,es,ie,rfl,hF,h1,hl,f11}
     let{rfl,ha}:=OX e;have lF:=hF.wv;rw[oZ,pT (by lia)]at lF;have e0:pp (bq+1)=1+3*pp bq:=rfl;have p1:=Ph bq;have m2:D.fg*pp bq<=2*pp bq:=pE _ (by lia);have gi:pp bq<=es.fg:=by lia
     have tk:ps.uB (D.fg+1)=ps.uB D.fg++[ps[D.fg]]:=by rw[pS ha]
     apply q_tg
     .lk
     apply q_if
     .apply Je
      .lk
      .apply Je
       .lk
       .lk
     .intro hh;simp at hh;let{aX,q,qs,eq,hq}:=hown hh.2;obtain⟨es,y,rfl⟩:∃cD y,es=cD++[y]:={es.vf,es.getLast (by intro h;rw[h]at gi;simp at gi;lia),(oH _).symm}
      let{z,mz,iz}:=GA aX T.str y;have g1:0<(d.zm.tJ T.str).fg:=by rw[nU];exact pw.wO aX
      rw[nW];lk;let{rfl,_}:=hh;have a0:=pL.mp (by rw[<- lF];rfl);subst a0;refine{[.nm z],es,_,by simp![nV,pM,Ex.t];rfl,?_,λ_ _=>{z,mz,rfl},?_,Al}
      .subst eq;refine .ux {hq z mz,uQ.intro,?_,?_} .vO
       .have:=MN bq;rw[Ex.sz]
        lia
       .rw[Ex.dp]
        lia
      .simp at hl ⊢
       lia
     .intro hh;let{kq,lT,jo}:=oa.mp (yU ps[D.fg] (qi ha));let{_,fB,e1,kB,e2,l1,e',rfl,kh}:=MR O bq n (by lia) kq lT es gi;have i0:atI (ps.tJ T.str) (D.fg:tN)=p' (.str kq.1):=A0 (by rw[oq,nX ha,jo];rfl);rw[show(bq:tN)=((bq+1:tQ):tN)-1 by lia]at e1;lk;refine{args++[e'],kB,_,by rw[nW];rfl,?_,λhc _=>?_,?_,Al}
      .rw[n9,o9,tk];exact hF.snoc (jo▸kh)
      .by_cases d0:D=[]
       .subst d0;simp[hc]at hh
       .let{z,mz,ez}:=h1 hc d0;have:=pw.wO d0;exact{z,mz,by rw[qg (by lia)];exact ez}
      .rw[n9,o9,tQ.succ_mul]
       lia
    case k =>
     intro _ {args,es,ie,rfl,hF,h1,hl,f11}
     rw[px,pP]at hF;rw[px]at hl;have e0:pp (bq+1)=1+3*pp bq:=rfl;have m3:ps.fg*pp bq<=3*pp bq:=pE _ lp;have lF:=hF.wv;let{e,te,ki}:=aO args hF λhc=>h1 hc (by let{_,q,qs,eq,_}:=hown hc;rw[eq];simp)
     lk;refine WU {es,rfl,?_,e,te,ki};simp
     lia
end
def ZQ(h1:fa fs=.ok (.t t) ae)(e1:KY t=p' ts)(h2:fb ae=.ok (.t u) aq)(e2:KY u=p' us):zipF fa fb fs=.ok (.nw (.tY (FL.v6 ts us))) aq:=by unfold zipF lstI itZ;rw[h1,B8 (x:=.t t) uQ.intro,h2,B8 (x:=.t u) uQ.intro];simp![e1,e2];rfl
def Wb(h:f fs=.ok (.t (tF K)) ae)(hl:K.fg<64):Ad JX (Ab f Ae) fs=.ok (.nw (.tY ((So.srt (K.tJ (·.1))).tJ T.str))) ae:=by
 have e:Dd ((Co K).tJ JS)=p' (K.tJ (·.1)):=by have:=E7 (K.tJ (·.1));unfold Co;rw[oj];rwa[oj]at this
 refine Bx (AV h A5) ?_;show WJ (Dd ((Co K).tJ JS)) ae=_;rw[e];show(if _ then _ else _)=_;rw[tW (by rw[nU];exact hl)]
def DN:∀xs ys:tH tO,FL.v6 (xs.tJ T.str) (ys.tJ T.str)=(xs.zip ys).tJ pnT
 | [],_=>by simp[FL.v6]
 |_::_,[]=>by simp[FL.v6]
 |x::xs,y::ys=>by simp![nV,FL.v6,DN xs ys,tH.zip_cons_cons]
def Gu:∀{xs:tH tO}{ks:tH α},xs.uA->(x,k)∈xs.zip ks->lkp xs ks x=p' k
 | [],_,_,m=>by simp at m
 |_::_,[],_,m=>by simp at m
 |y::ys,q::qs,nd,m=>by
  rw[o5]at nd;unfold lkp;rcases oz.mp m with e|m
  .cases e;rw[tW rfl]
  .rw[ug (λe=>nd.1 (by subst e;exact(qo m).1))];exact Gu nd.2 m
def Z0(h:fs[i]?=p' (p' (.uI (.tY ts)))):Ad AI (Ab (Aa i) Ae) fs=.ok (.t (.tS ts.fg)) fs:=by
 refine Bx (EI (BE h) uQ.intro A5) ?_;have e:Yt [.x i] fs=.ok (.t (.tS ts.fg)) fs:=by unfold Yt;simp![BD,Ax,h];rfl
 unfold AI orC;rw[e]
def picks(iW:ss≠[])(lQ:ss.fg<=1000):∀(is:tH T)(ds:tH tN)(x:tL Sl)(ar:tH T),vC x->is.fg<=ds.fg->ar.fg+is.fg<=1000->∃us fD y,us.fg=is.fg/\(∀u∈us,u∈ss)/\ds.fg=tH.fg fD+is.fg/\Bq (wd 0) CG (Ag Aw (Aa 1) (Ag B5 (fz (AA G7 (Aa 2) Ae)) (Ad AI (Ab (Aa 1) Ae)))) is [x,vl (.tY ss),p' (.u7 (.tY (ds.tJ T.tS)))] ar=p' (ar++us,[y,vl (.tY ss),p' (.u7 (.tY (tH.tJ T.tS fD)))])
 | [],ds,x,ar,_,_,_=>{[],ds,x,rfl,(λ_ m=>nomatch m),rfl,by simp[Bq]}
 |i::is,ds,x,ar,fx,hd,ha=>by
  rw[om]at hd ha;obtain⟨ds,z,rfl⟩:∃cD y,ds=cD++[y]:={ds.vf,ds.getLast (by intro h;rw[h]at hd;simp at hd),(oH _).symm}
  let{u,mu,iu}:=GA iW id z;rw[tH.map_id]at iu;have g0:=pw.wO iW;rw[n9,o9]at hd;have h1:wd 0 i [x,vl (.tY ss),p' (.u7 (.tY ((ds++[z]).tJ T.tS)))]=p' [vl i,vl (.tY ss),p' (.u7 (.tY (ds.tJ T.tS++[T.tS z])))]:=by rw[nW];unfold wd;exact Bp rfl fx
  have h2:Ag Aw (Aa 1) (Ag B5 (fz (AA G7 (Aa 2) Ae)) (Ad AI (Ab (Aa 1) Ae))) [vl i,vl (.tY ss),p' (.u7 (.tY (ds.tJ T.tS++[T.tS z])))]=.ok (.t u) [vl i,vl (.tY ss),p' (.u7 (.tY (ds.tJ T.tS)))]:=by
   apply Eq.trans
   .lk
   .rfl
  let{us,fD,y,a1,a2,a3,a4}:=picks iW lQ is ds (vl i) (ar++[u]) Al (by lia) (by simp;lia);refine{u::us,fD,y,by simp[a1],λv m=>?_,by simp;lia,?_}
  .rcases oz.mp m with rfl|m
   .exact mu
   .exact a2 v m
  .rw[IT h1 h2 (by show _<1000000;lia),a4];simp
def sl_24{nn:tH tO}{mn m:tQ}(h:nn.fg=4)(h1:mn=m+1)(h2:m<=2)(fs:FS):Ky (.t (.tY (nn.tJ T.str))) (p' 2) (p' (1+(mn:tN))) fs=.ok (.t (.tY (((nn.drop 2).uB m).tJ T.str))) fs:=by
 subst h1
 match nn,h with| [a,b,c,d],_=>rcases(show m=0\/m=1\/m=2 by lia)with rfl|rfl|rfl<;>with_unfolding_all rfl
structure Fx where
 nm:tO
 ks:tH tO
 k:tO
 zY:tH tO
 vv:tH (tO×tH tO×Ex)
def Fx.fd (g:Fx):Fd:={g.nm,g.ks,g.k,g.zY,g.vv.tJ λr=>(r.1,r.2.1,r.2.2.t)}
abbrev Fx.hd(g:Fx):tO×tH tO×tO:=(g.nm,g.ks,g.k)
def hdL :tH (tO×tH tO×tO)->tO->tL (tH tO×tO)
 | [],_=>none
 |h::H,f=>if h.1=f then p' h.2 else hdL H f
def IA:∀{H:tH (tO×tH tO×tO)},(H.tJ (·.1)).uA->h∈H->hdL H h.1=p' h.2
 |g::H,nd,m=>by
  rw[nV,o5]at nd;unfold hdL;rcases oz.mp m with rfl|m
  .rw[tW rfl]
  .rw[ug (λe:g.1=h.1=>nd.1 (e▸oa.wO {h,m,rfl}))];exact IA nd.2 m
def ros (K:Kd)(H:tH (tO×tH tO×tO))(nn zY:tH tO)(nm:tO)(kd:tO×tH (tO×tH tO))(ks:tH tO)(k:tO)(r:tO×tH tO)(w:tO×tH tO×Ex):Prop :=
 w.1=r.1/\w.2.1=nn.uB r.2.fg/\Xk K (hdL H) (nn.uB r.2.fg++zY) (r.2++ks) w.2.2 k/\Ow nm (((nn.zip r.2).filter λp=>decide (p.2=kd.1)).tJ (·.1)) w.2.2/\w.2.2.sz<=esz 3/\w.2.2.dp<=7
structure FxOk(K:Kd)(H:tH (tO×tH tO×tO))(nn:tH tO)(g:Fx):Prop where
 ind:∀x∈g.ks++[g.k],x∈K.tJ (·.1)
 ex:∃kd ks,kd∈K/\g.ks=kd.1::ks/\ks.fg<=2/\g.zY=(nn.drop 2).uB ks.fg/\F2 (ros K (H++[g.hd]) nn g.zY g.nm kd ks g.k) kd.2 g.vv
def Jac{ss:tH tO}:∀{us:tH T},(∀u∈us,u∈ss.tJ T.str)->∃ws:tH tO,us=ws.tJ T.str/\∀w∈ws,w∈ss
 | [],_=>{[],rfl,λ_ m=>nomatch m}
 |u::us,h=>by
  let{ws,rfl,hw}:=Jac λu m=>h u (n4 _ m)
  let{w,mw,rfl}:=oa.mp (h u n5);refine{w::ws,rfl,λv m=>?_};rcases oz.mp m with rfl|m
  .exact mw
  .exact hw v m
def HN:∀(xs ys:tH tO),xs.zip ys=(xs.uB ys.fg).zip ys
 | [],ys=>by simp
 |x::xs,[]=>by simp
 |x::xs,y::ys=>by rw[om,tH.take_succ_cons,tH.zip_cons_cons,tH.zip_cons_cons,<- HN xs ys]
def function(W:Well K)(l4:nn.fg=4)(yK:nn.uA)(hI:IsI sc ns){at':tQ}(ha:at'<=100)(di:((H++[(nm,([]:tH tO),nm)]).tJ (·.1)).uA)(lH:H.fg<=50)(hH:∀h∈H,h.2.1.fg<=3/\∀q∈h.2.1,q∈K.tJ (·.1)):
  ∃t τ,C4 [vl sc,vl (tF K),iv at',vl (.n (H.tJ cT)),vl (.str nm),vl (.tY (nn.tJ .str))]=.ok (.t t) τ/\∃g:Fx,t=g.fd.t/\g.nm=nm/\FxOk K H nn g:=by
 let{ds,fA,_,dg}:=GK hI (a:=at') (b:=7) (by lia) (by lia) ZB ZB;have hK:=W.hi;have nu:=W.lo;obtain⟨ds,z1,rfl⟩:∃cD y,ds=cD++[y]:={ds.vf,ds.getLast (by intro h;rw[h]at fA;simp at fA),(oH _).symm}
 rw[n9,o9]at fA;have hs:∀x∈So.srt (K.tJ (·.1)),x∈K.tJ (·.1):=λx m=>(So.FJ _).mem_iff.mp m
 have ls:(So.srt (K.tJ (·.1))).fg=K.fg:=by rw[(So.FJ _).length_eq,nU]
 obtain⟨c3,hc3,i1⟩:∃c:tQ,(2<=c/\c<=3)/\atI [T.tS 3,T.tS 2] (if decide (((tH.tJ T.str (So.srt (K.tJ (·.1)))).fg:tN)=4)=true then 1 else 0)=p' (.tS c):=by
  by_cases h:((tH.tJ T.str (So.srt (K.tJ (·.1)))).fg:tN)=4
  .exact{2,by lia,by simp![h,decide_true,if_true];exact at1}
  .exact{3,by lia,by simp![h,decide_false];exact at0}
 obtain⟨mn,hm,i2⟩:∃m:tQ,(1<=m/\m<=3)/\atI [T.tS 1,T.tS 2,T.tS 2,T.tS c3] (z1%4)=p' (.tS m):=by
  have h1:=oU z1 (show(4:tN)≠0 by decide);have h2:=oN z1 (show(0:tN)<4 by decide);rcases(show z1%4=0\/z1%4=1\/z1%4=2\/z1%4=3 by lia)with e|e|e|e<;>rw[e]
  .exact{1,by lia,rfl}
  .exact{2,by lia,rfl}
  .exact{2,by lia,rfl}
  .exact{c3,by lia,rfl}
 generalize hS:So.srt (K.tJ (·.1))=ss at hs ls i1;have i8:ss.tJ T.str≠[]:=by intro h;rw[tH.map_eq_nil_iff]at h;rw[h]at ls;simp at ls;lia
 let{us,cN,yk,ul,um,dl,cp}:=picks i8 (by rw[nU];lia) ((tH.vq mn).tJ λi=>T.tS ((i:tQ):tN)) ds none [] uQ.intro (by simp;lia) (by simp;lia);obtain⟨ws,rfl,hws⟩:∃ws:tH tO,us=ws.tJ T.str/\∀w∈ws,w∈ss:=Jac um;simp![nU,px]at ul dl;apply L5;unfold G2;rw[nW]at dg;apply AN
 .lk
  .show tH.fg K<64
   lia
  lk
 rw[hS];apply AN
 .lk
 apply AN
 .lk
 refine(?_:vL _ (Ak _ _ [vl sc,vl (tF K),iv at',vl (.n (H.tJ cT)),vl (.str nm),vl (.tY (nn.tJ .str)),vl (.tY (ss.tJ T.str)),p' (.uI (.tY (ds.tJ T.tS))),iv mn,none,none,none,none,none,none,none,none,none]));have hc:AW false [none,p' 6,p' 7] (G6 (Ab (Aa 8) Ae)) (wd 0) CG (Ag Aw (Aa 1) (Ag B5 (fz (AA G7 (Aa 2) Ae)) (Ad AI (Ab (Aa 1) Ae)))) [vl sc,vl (tF K),iv at',vl (.n (H.tJ cT)),vl (.str nm),vl (.tY (nn.tJ .str)),vl (.tY (ss.tJ T.str)),p' (.uI (.tY (ds.tJ T.tS))),iv mn,none,none,none,none,none,none,none,none,none]=.ok (.t (.tY (ws.tJ T.str))) [vl sc,vl (tF K),iv at',vl (.n (H.tJ cT)),vl (.str nm),vl (.tY (nn.tJ .str)),vl (.tY (ss.tJ T.str)),p' (.uI (.tY (cN.tJ T.tS))),iv mn,none,none,none,none,none,none,none,none,none]:=by
  refine IS ?_ {by rw[show Cd _ (tH.tJ _ [none,p' 6,p' 7])=[7]from rfl];simp,rfl} cp rfl;lk
  .rfl
  .lia
 apply AN
 .lk
 obtain⟨cN,z2,rfl⟩:∃cD y,cN=cD++[y]:={cN.vf,cN.getLast (by intro h;rw[h]at dl;simp at dl;lia),(oH _).symm}
 rw[n9,o9]at dl;obtain⟨cN,z3,rfl⟩:∃cD y,cN=cD++[y]:={cN.vf,cN.getLast (by intro h;rw[h]at dl;simp at dl;lia),(oH _).symm}
 let{s2,jR,i3}:=GA (L:=ss) (λh=>i8 (by rw[h];rfl)) T.str z2;have g0:=pw.wO i8;let{w0,wt,rfl}:=qw (show 0<ws.fg by lia);obtain⟨k,hk,i5⟩:∃k:tO,(k=s2\/k=w0)/\atI [T.str s2,T.str w0] (z3%2)=p' (.str k):=by
  rcases tN.emod_two_eq z3 with e|e<;>rw[e]
  .exact{_,.uW rfl,at0}
  .exact{_,.uK rfl,at1}
 rw[om]at ul;have dD:∀fs,Ky (.t (.tY (nn.tJ T.str))) (p' 2) (p' (1+(mn:tN))) fs=.ok (.t (.tY (((nn.drop 2).uB wt.fg).tJ T.str))) fs:=sl_24 l4 (by lia) (by lia);have dD:=dD [vl sc,vl (tF K),iv at',vl (.n (H.tJ cT)),vl (.str nm),vl (.tY (nn.tJ .str)),vl (.tY (ss.tJ T.str)),p' (.uI (.tY (cN.tJ T.tS))),iv mn,vl (.uj ((w0::wt).tJ T.str)),vl (.str k),none,none,none,none,none,none,none];refine(?_:vL _ (Ak _ _ [vl sc,vl (tF K),iv at',vl (.n (H.tJ cT)),vl (.str nm),vl (.tY (nn.tJ .str)),vl (.tY (ss.tJ T.str)),p' (.uI (.tY ((cN++[z3]++[z2]).tJ T.tS))),iv mn,vl (.uj ((w0::wt).tJ T.str)),none,none,none,none,none,none,none,none]));rw[nW,nW];let{kd,cq,rfl}:=oa.mp (hs w0 (hws w0 n5));have h0:=FC W cq;lk;have lP:((nn.drop 2).uB wt.fg).fg=wt.fg:=by rw[oZ,qh];lia
 generalize hoth:(nn.drop 2).uB wt.fg=zY at lP dD;apply Bn (I:=λD fs=>∃(vv:tH (tO×tH tO×Ex))(y7 ig ij ik ip iq:tL Sl),fs=[vl sc,vl (tF K),iv at',vl (.n (H.tJ cT)),vl (.str nm),vl (.tY (nn.tJ .str)),vl (.tY (ss.tJ T.str)),y7,iv mn,vl (.uj ((kd.1::wt).tJ T.str)),vl (.str k),vl (.uj (zY.tJ T.str)),p' (.uI (.tY (vv.tJ λr=>.uj [.uj (r.2.1.tJ T.str),r.2.2.t]))),ig,ij,ik,ip,iq]/\F2 (ros K (H++[(nm,kd.1::wt,k)]) nn zY nm kd wt k) D vv/\vC y7/\vC ig/\vC ij/\vC ik/\vC ip/\vC iq)
 case hi=>trivial
 case h0 =>refine{[],p' (.uI (.tY (cN.tJ T.tS))),none,none,none,none,none,?_,.vO,uQ.intro,uQ.intro,uQ.intro,uQ.intro,uQ.intro,uQ.intro};rw[<- hoth];rfl
 case st =>
  intro D r R _ e {vv,y7,ig,ij,ik,ip,iq,rfl,hF,f7,f13,f14,f15,f16,f17}
  have hD:=D9 e;have mr:=mem_mid e;have lF:=hF.wv;have h4:=W.rw kd cq;have r2:=W.two kd cq r mr;let{kj,l5,_,kg}:=GK hI (a:=(at':tN)+((vv.tJ λr=>(T.uj [.uj (r.2.1.tJ T.str),r.2.2.t])).fg:tN)+1) (b:=9) (by simp;lia) (by simp;lia) ZB ZB;have kK:k∈K.tJ (·.1):=by
   rcases hk with rfl|rfl
   .exact hs _ jR
   .exact hs _ (hws _ n5)
  let{kk,eM,jm}:=oa.mp kK;have fM:(nn.uB r.2.fg++zY).uA:=by rw[<- hoth];refine tH.uA.sublist (tH.Sublist.append ?_ (pF ..)) (by rw[tH.take_append_drop];exact yK);rw[show nn.uB r.2.fg=(nn.uB 2).uB r.2.fg by rw[tH.take_take,pT r2]];exact pF ..
  have ez:(nn.zip r.2)++(zY.zip wt)=(nn.uB r.2.fg++zY).zip (r.2++wt):=by rw[tH.zip_append (by rw[oZ];lia),<- HN]
  have O:DrOk {K,(nn.zip r.2)++(zY.zip wt),H,.n (H.tJ cT),nm,kd.1::wt,k,((nn.zip r.2).filter λp=>decide (p.2=kd.1)).tJ (·.1)} (hdL (H++[(nm,kd.1::wt,k)])) (nn.uB r.2.fg++zY) (r.2++wt):=by
   have fK:((H++[(nm,kd.1::wt,k)]).tJ (·.1)).uA:=by simpa using di
   refine{W,?_,by show H.fg<=100;lia,?_,.uK (.uK rfl),λp m=>Gu fM (ez▸m),λc m=>{IA fK (ph _ m),?_,(hH c m).1,(hH c m).2},λ_=>{IA (h:=(nm,kd.1::wt,k)) fK (by simp),?_,?_,kd.1,wt,rfl,λx m=>?_} }
   .simp
    lia
   .have:=tH.length_filter_le (λp:tO×tO=>decide (p.2=kd.1)) (nn.zip r.2);simp at this ⊢
    lia
   .intro e;rw[nW,oW]at fK;exact fK.2.2 c.1 (oa.wO {c,m,rfl}) nm (by simp) e
   .show wt.fg+1<=3
    lia
   .intro q mq;exact hs q (hws q mq)
   .let{p,mp,rfl}:=oa.mp m;let{mp,hp}:=pV.mp mp;rw[<- oy hp];exact Gu fM (ez▸ph _ mp)
  let{_,τ,e1,es,e5,l',ex,rfl,dn}:=MR O 3 4 (by lia) kk eM kj (by rw[l5];decide);rw[jm]at e1;simp![Dr.known,Dr.uI]at e1;rw[show((nn.zip r.2)++(zY.zip wt)).tJ pnT=FL.v6 (nn.tJ T.str) (r.2.tJ T.str)++FL.v6 (zY.tJ T.str) (wt.tJ T.str) by rw[nW,DN,DN]]at e1;lk
  .rw[DN,DN,nU,nU,qr,qr];show _<=1000000
   lia
  lk
  .rw[DN];apply Lp
   .lk
   .lk
   .exact λ_=>rfl
   .intro p mp;lk
   .intro p mp hb;lk
   .rw[qr]
    lia
  rw[show((nn.zip r.2).filter λp=>decide (p.2=kd.1)).tJ (λp:tO×tO=>T.str p.1)=(((nn.zip r.2).filter λp=>decide (p.2=kd.1)).tJ (·.1)).tJ T.str by rw[oj];rfl];lk;refine{vv++[(r.1,nn.uB r.2.fg,ex)],p' (.uI (.tY (es.tJ T.tS))),vl (.str r.1),vl (.uj (r.2.tJ T.str)),vl (.tY (FL.v6 (nn.tJ T.str) (r.2.tJ T.str)++FL.v6 (zY.tJ T.str) (wt.tJ T.str))),vl (.tY ((((nn.zip r.2).filter λp=>decide (p.2=kd.1)).tJ (·.1)).tJ T.str)),vl ex.t,?_,hF.snoc {rfl,rfl,jm▸dn.1,dn.2.1,dn.2.2.1,dn.2.2.2},uQ.intro,Al,Al,Al,Al,Al};rw[nW,nU,<- tH.map_take];rfl
 case k =>
  intro _ {vv,y7,ig,ij,ik,ip,iq,rfl,hF,f7,f13,f14,f15,f16,f17}
  lk;refine WU { {nm,kd.1::wt,k,zY,vv},?_,rfl,λx m=>?_,kd,wt,cq,rfl,by lia,hoth.symm,hF}
  .simp![Fx.fd,Fd.t,oj];rfl
  .rcases oS.mp m with m|m
   .exact hs x (hws x m)
   .rw[oF.mp m];rcases hk with rfl|rfl
    .exact hs _ jR
    .exact hs _ (hws _ n5)
def Wa(h:fs[j]?=p' (p' (.uI (.tY ts))))(e:(Ct fs).wJ j (p' (.vm (.n ts)))=ak)(hf:f ak=.ok (.t t) τ)(hn:noS t=true):fz (Fo j (nwV f)) fs=.ok (.t t) fs:=by
 have h1:Fo j (nwV f) fs=.ok (.nw (.vm t)) fs:=by
  unfold Fo nwV;simp![h,e,hf,Out.u9];have iR:RE (.vm t)=true:=by unfold FL.RE;exact hn
  rw[tW iR]
 unfold fz;rw[h1];rfl
mutual
theorem Ex.noS:∀e:Ex,FL.noS e.t=true
 |.nm x=>rfl
 |.mk m es=>by show(FL.DX (Ex.ts es)&&true)=true;rw[Ex.DX es];rfl
 |.cl m es=>by show(FL.DX (Ex.ts es)&&true)=true;rw[Ex.DX es];rfl
theorem Ex.DX:∀es:List Ex,FL.DX (Ex.ts es)=true
 | []=>rfl
 |e::es=>by show(FL.noS e.t&&FL.DX (Ex.ts es))=true;rw[Ex.noS e,Ex.DX es];rfl
end
def Ik:∀xs:tH tO,FL.DX (xs.tJ T.str)=true
 | []=>rfl
 |x::xs=>Ik xs
def PJ:∀{xs:tH α},(∀x∈xs,FL.noS (p x)=true)->FL.DX (xs.tJ p)=true
 | [],_=>rfl
 |x::xs,h=>by show(FL.noS (p x)&&FL.DX (xs.tJ p))=true;rw[h x (.head _),PJ λy m=>h y (.tail _ m)];rfl
def Fx.noS(g:Fx):FL.noS g.fd.t=true:=by
 have:FL.DX ((g.vv.tJ λr=>(r.1,r.2.1,r.2.2.t)).tJ rwT)=true:=by rw[oj];exact PJ λr _=>by show(FL.DX (r.2.1.tJ .str)&&(FL.noS r.2.2.t&&true))=true;rw[Ik,Ex.noS];rfl
 have:FL.DX (g.fd.vv.tJ rwT)=true:=this;show(FL.DX (g.ks.tJ .str)&&(true&&(FL.DX (g.zY.tJ .str)&&(FL.DX _&&true))))=true;rw[Ik,Ik,this];rfl
def fgs(c:tN):¬(("fg":tO)∈nms c 12/\("fgh":tO)∈nms c 12):=by
 intro{h1,h2}
 let{i,e1}:=EK h1;let{j,e2}:=EK h2;have c1:[102,103]=Nm.codes c i:=by
  have:("fg":tO).cps.uP=[102,103]:=by decide +kernel
  rw[<- this,e1];rfl
 have c2:[102,103,104]=Nm.codes c j:=by
  have:("fgh":tO).cps.uP=[102,103,104]:=by decide +kernel
  rw[<- this,e2];rfl
 unfold Nm.codes at c1 c2;by_cases m:Nm.M c/900%3=1
 .rw[tW m]at c1;unfold Nm.HL at c1;have m1:102∈[102,103]:=by simp
  have m2:103∈[102,103]:=by simp
  rw[c1]at m1 m2;have a1:=tH.eq_of_mem_replicate m1;have a2:=tH.eq_of_mem_replicate m2
  lia
 .rw[ug m]at c1 c2;have l1:=uC tH.fg c1;have l2:=uC tH.fg c2;rw[Nm.E1]at l1 l2;simp at l1 l2
  lia
def ZZ(h1:f fs=.ok (.t (.tS a)) ae)(h2:g ae=.ok (.t (.tS b)) aq):Ad ET (Ab f (Ab g Ae)) fs=.ok (.t (.tS (min a b))) aq:=by refine Bx (AV h1 (AV h2 A5)) ?_;show okT (.tS (if b<a then b else a)) aq=_;rw[show(if b<a then b else a)=min a b by split<;>lia];rfl
def Lx:atI (ts++[t]) (-1)=p' t:=by
 have e:ixN (ts++[t]).fg (-1)=p' ts.fg:=by
  unfold ixN;simp
  lia
 unfold atI;rw[e];simp
def sl3{g:Fx}:Ky (.t g.fd.t) none (p' 3) fs=.ok (.t (cT g.hd)) fs:=by with_unfolding_all rfl
def GH(W:Well K)(hM:∀x∈mks K,x∈nms c1 12){ns:tH tN}(b2:t6.tN.vh (ns.uZ 2 0)<=2^20)(b3:t6.tN.vh (ns.uZ 3 0)<=2^20){cnt:tQ}(h1:1<=cnt)(h3:cnt<=3):
  ∃o τ,DE [vl (.n (ns.tJ T.tS)),vl (tF K),iv cnt]=.ok (.nw o) τ/\∃G:tH Fx,o=.tY (G.tJ λg=>g.fd.t)/\G≠[]/\G.fg<=3/\(G.tJ Fx.nm).uA/\(∀g∈G,Of g.nm/\g.nm∉mks K)/\∀D g R,D++g::R=G->FxOk K (D.tJ Fx.hd) (nms (ns.uZ 3 0) 4) g:=by
 have hm:=PQ W.hi λkd m=>(W.rw kd m).2
 apply L6;unfold Fj;lk;apply Bn (I:=λD fs=>∃y4,fs=[vl (.n (ns.tJ T.tS)),vl (tF K),iv cnt,vl (.tY ((mks D).tJ T.str)),y4,none,none,none,none,none,none]/\vC y4)
 case hi =>
  lk
  done
 case h0=>exact{none,rfl,uQ.intro}
 case st =>
  intro D kd R _ e {y4,rfl,f4}
  have hk:=mem_mid e;have h0:=FC W hk;have h4:=W.rw kd hk;have hD:(mks D).fg+kd.2.fg<=16:=by
   rw[<- e,Gp]at hm;simp[mks]at hm ⊢
   lia
  lk
  .apply E3
   .lk
   .lk
   .exact λ_=>rfl
   .intro r mr;lk
   .lia
  lk;have e3:(mks (D++[kd])).tJ T.str=(mks D).tJ T.str++kd.2.tJ (λr=>T.str r.1):=by rw[Gp,nW];simp[mks]
  refine{vl (.str kd.1),?_,Al};rw[e3];rfl
 case k =>
  intro _ {y4,rfl,f4}
  let{_,nJ}:=JM (n:=12) (by lia) b2;let{_,nK}:=JM (n:=4) (by lia) b3;let{_,mV}:=BP ns 2;let{_,mX}:=BP ns 3;lk;apply Bn (I:=λD fs=>∃(fr:tH tO)(y6:tL Sl),fs=[vl (.n (ns.tJ T.tS)),vl (tF K),iv cnt,vl (.tY ((mks K).tJ T.str)),y4,p' (.uI (.tY (fr.tJ T.str))),y6,none,none,none,none]/\fr.uA/\(∀x∈fr,Of x/\x∉mks K)/\(∀x∈D,x∈mks K\/x∈fr)/\fr.fg<=D.fg/\vC y6) (xs:=nms (ns.uZ 2 0) 12++(["f","fg","fgh","fghi"]:tH tO))
  case hi =>
   rw[nW];lk
   done
  case h0=>exact{[],none,rfl,by simp,(λ_ m=>nomatch m),(λ_ m=>nomatch m),by simp,uQ.intro}
  case st =>
   intro D x R _ e {fr,y6,rfl,nd,cG,hD,lf,f6}
   have hx:=mem_mid e;have lD:=D9 e;have nx:Of x:=by
    rcases oS.mp hx with m|m
    .let{i,rfl}:=EK m;exact DQ _ _
    .simp at m;rcases m with rfl|rfl|rfl|rfl<;>exact HB (by decide +kernel) (by decide +kernel) (by decide +kernel)
   rw[n9,BL]at lD;simp at lD;apply q_tg
   .lk
   apply q_if
   .apply Je
    .lk
    .lk;exact VD rfl
   .intro hh;simp at hh;lk;refine{fr++[x],vl (.str x),by rw[nW];rfl,?_,λy m=>?_,λy m=>?_,by simp;lia,Al}
    .rw[oW];exact{nd,by simp,λa ma b mb e=>hh.2 (by rw[<- oF.mp mb,<- e];exact ma)}
    .rcases oS.mp m with m|m
     .exact cG y m
     .rw[oF.mp m];exact{nx,hh.1}
    .rcases oS.mp m with m|m
     .exact(hD y m).imp id λh=>by simp[h]
     .exact .uK (by rw[oF.mp m];simp)
   .intro hh;lk;refine{fr,vl (.str x),rfl,nd,cG,λy m=>?_,by simp;lia,Al};rcases oS.mp m with m|m
    .exact hD y m
    .rw[oF.mp m];by_cases a:x∈mks K
     .exact .uW a
     .by_cases b:x∈fr
      .exact .uK b
      .simp[a,b]at hh
  case k =>
   intro _ {fr,y6,rfl,nd,cG,hD,lf,f6}
   have kC:fr≠[]:=λh=>by have a:=hD "fg" (by simp);have b:=hD "fgh" (by simp);rw[h]at a b;simp at a b;exact fgs c1 {hM _ a,hM _ b}
   have fl:=pw.wO kC;rw[n9,BL]at lf;simp at lf;lk;apply Bn (I:=λD fs=>∃(G:tH Fx)(bI:tL Sl),fs=[vl (.n (ns.tJ T.tS)),vl (tF K),iv cnt,vl (.tY ((mks K).tJ T.str)),y4,vl (.tY (fr.tJ T.str)),y6,vl (.tY ((nms (ns.uZ 3 0) 4).tJ T.str)),p' (.uI (.tY (G.tJ λg=>g.fd.t))),p' (.uI (.tY (G.tJ λg=>cT g.hd))),bI]/\G.fg=D.fg/\G.tJ Fx.nm=fr.uB D.fg/\(∀D g R,D++g::R=G->FxOk K (D.tJ Fx.hd) (nms (ns.uZ 3 0) 4) g)/\vC bI) (xs:=tH.vq (min cnt fr.fg))
   case hi =>
    lk
    .apply ZZ
     .lk
     .lk
    lk
    .rw[nU]
     lia
    .lia
   case h0=>exact{[],none,rfl,rfl,rfl,λD g R e=>by simp at e,uQ.intro}
   case st =>
    intro D a R _ e {G,bI,rfl,lG,nG,hG,f10}
    let{rfl,ha}:=OX e;have iF:D.fg<fr.fg:=by lia
    have tk:fr.uB (D.fg+1)=fr.uB D.fg++[fr[D.fg]]:=by rw[pS iF]
    have mf:=qi iF;have i0:atI (fr.tJ T.str) (D.fg:tN)=p' (.str fr[D.fg]):=A0 (by rw[oq,nX iF];rfl);have di:(((G.tJ Fx.hd)++[(fr[D.fg],([]:tH tO),fr[D.fg])]).tJ (·.1)).uA:=by rw[nW,oj,show((·.1)∘Fx.hd)=Fx.nm from rfl,nG];show(fr.uB D.fg++[fr[D.fg]]).uA;rw[<- tk];exact nd.sublist (pF ..)
    have hH:∀h∈G.tJ Fx.hd,h.2.1.fg<=3/\∀q∈h.2.1,q∈K.tJ (·.1):=λh m=>by let{g,mg,rfl}:=oa.mp m;let{A,B,e3}:=pC mg;have O:=hG A g B e3.symm;let{kd,ks,_,e4,l2,_}:=O.ex;exact{by show g.ks.fg<=3;rw[e4,om];lia,λq mq=>O.ind q (ph _ mq)}
    let{_,fB,e1,g,rfl,eg,og}:=function W (BL (ns.uZ 3 0) 4) (Dq _ (by lia)) (sc:=.n (ns.tJ T.tS)) (.uW rfl) (at':=D.fg) (by lia) di (by rw[nU];lia) hH;rw[oj]at e1;have th:fz (Fo 9 (nwV (Ad (Af 6 C4) (Ac (fz (Aa 0)) (Ac (fz (Aa 1)) (Ac (fz (Aa 10)) (Ac (fz (Aa 9)) (Ac (Ag Aw (Aa 5) (fz (Aa 10))) (Ac (fz (Aa 7)) Ae))))))))) [vl (.n (ns.tJ T.tS)),vl (tF K),iv cnt,vl (.tY ((mks K).tJ T.str)),y4,vl (.tY (fr.tJ T.str)),y6,vl (.tY ((nms (ns.uZ 3 0) 4).tJ T.str)),p' (.uI (.tY (G.tJ λg=>g.fd.t))),p' (.uI (.tY (G.tJ λg=>cT g.hd))),iv D.fg]=.ok (.t g.fd.t) [vl (.n (ns.tJ T.tS)),vl (tF K),iv cnt,vl (.tY ((mks K).tJ T.str)),y4,vl (.tY (fr.tJ T.str)),y6,vl (.tY ((nms (ns.uZ 3 0) 4).tJ T.str)),p' (.uI (.tY (G.tJ λg=>g.fd.t))),p' (.uI (.tY (G.tJ λg=>cT g.hd))),iv D.fg]:=by
     apply Wa rfl rfl
     .lk
     .exact g.noS
    have il:atI ((G.tJ λg=>g.fd.t)++[g.fd.t]) (-1)=p' g.fd.t:=Lx;apply q_tg
    .lk
    refine(?_:vL _ (Ak _ _ [vl (.n (ns.tJ T.tS)),vl (tF K),iv cnt,vl (.tY ((mks K).tJ T.str)),y4,vl (.tY (fr.tJ T.str)),y6,vl (.tY ((nms (ns.uZ 3 0) 4).tJ T.str)),p' (.uI (.tY (G.tJ λg=>g.fd.t))),p' (.uI (.tY (G.tJ λg=>cT g.hd))),iv D.fg]));lk
    .exact sl3
    lk;refine{G++[g],iv D.fg,by rw[nW,nW];rfl,by simp[lG],?_,λD' g' R' e'=>?_,Al}
    .rw[nW,nG,n9,o9,tk];simp[eg]
    .rcases tH.eq_nil_or_concat R' with rfl|⟨R2,z,rfl⟩
     .let{rfl,e2}:=tH.append_inj' e' rfl;cases (e2);exact og
     .have e2:(D'++g'::R2)++[z]=G++[g]:=by rw[<- e'];simp
      exact hG D' g' R2 (tH.append_inj' e2 rfl).1
   case k =>
    intro _ {G,bI,rfl,lG,nG,hG,f10}
    rw[px]at lG nG;lk;refine ZE rfl {G,rfl,λh=>?_,by lia,?_,λg mg=>?_,hG}
    .rw[h]at lG;simp at lG
     lia
    .rw[nG];exact nd.sublist (pF ..)
    .have:g.nm∈fr.uB (min cnt fr.fg):=by rw[<- nG];exact oa.wO {g,mg,rfl}
     exact cG _ (pI this)
abbrev rwV(g:Fd):T:=.v (g.vv.tJ kyR) (g.vv.tJ (rvT g))
abbrev prT(cP z0:tV)(K:Kd)(G:tH Fd):T:=.vE cP PF [stT z0 K,.v (hkD G) (hvD G),.v (hkD G) (G.tJ rwV)]
def p_row(nd:(G.tJ Fd.nm).uA)(m:g∈G)(n2:(g.vv.tJ (·.1)).uA)(m2:r∈g.vv):Bk cP [vl (prT cP z0 K G),vl (.str g.nm),vl (.str r.1)]=.ok (.t (rvT g r)) [vl (prT cP z0 K G),vl (.str g.nm),vl (.str r.1)]:=by
 have h1:BB (hkD G) (G.tJ rwV) (.uK g.nm:vc)=p' (rwV g):=BZ m (by have:=B1 nd;rwa[oj]at this);have h:BB (g.vv.tJ kyR) (g.vv.tJ (rvT g)) (.uK r.1:vc)=p' (rvT g r):=BZ m2 (by have:=B1 n2;rwa[oj]at this);obtain⟨_,_,e,rfl,rfl⟩:∃t τ,Bk cP [vl (prT cP z0 K G),vl (.str g.nm),vl (.str r.1)]=.ok (.t t) τ/\(t=rvT g r/\τ=[vl (prT cP z0 K G),vl (.str g.nm),vl (.str r.1)]):=by apply L5;lk;exact WU {rfl,rfl}
 exact e
def Qr:∀H:tH (tO×tH tO×tO),BB (H.tJ λh=>ky h.1) (H.tJ λh=>T.uj [.uj (h.2.1.tJ .str),.str h.2.2]) (ky f)=(hdL H f).tJ λp=>.uj [.uj (p.1.tJ .str),.str p.2]
 | []=>by simp[BB,hdL]
 |h::H=>by
  by_cases e:h.1=f
  .simp[BB,hdL,e]
  .simp[BB,hdL,e,(Qr (f:=f) H)]
def Qs:∀{H:tH (tO×tH tO×tO)},hdL H f=p' p->hdL (H++H2) f=p' p
 |h::H,e=>by
  rw[qA];unfold hdL at e ⊢;by_cases c:h.1=f
  .rw[tW c]at e ⊢;exact e
  .rw[ug c]at e ⊢;exact Qs e
def VG:∀{H:tH (tO×tH tO×tO)},hdL H f=p' p->(f,p.1,p.2)∈H
 |h::H,e=>by
  unfold hdL at e;by_cases c:h.1=f
  .rw[tW c]at e;cases e;rw[<- c];exact n5
  .rw[ug c]at e;exact n4 _ (VG e)
section
variable{K:Kd}{hd bP:Str->Option (List Str×Str)}{xs ks:List Str}
mutual
theorem Xk.mono(h:∀f p,hd f=some p->bP f=some p):∀{e:Ex}{k:Str},Xk K hd xs ks e k->Xk K bP xs ks e k
 |.nm x,k,q=>q
 |.mk m es,k,⟨kd,a,b,qs,c,d⟩=>⟨kd,a,b,qs,c,Xks.mono h d⟩
 |.cl f es,k,⟨qs,a,b⟩=>⟨qs,h _ _ a,Xks.mono h b⟩
theorem Xks.mono(h:∀f p,hd f=some p->bP f=some p):∀{es:List Ex}{qs:List Str},Xks K hd xs ks es qs->Xks K bP xs ks es qs
 | [],[],_=>True.intro
 |e::es,q::qs,⟨a,b⟩=>⟨Xk.mono h a,Xks.mono h b⟩
end
end
def F2.left(h:F2 R as bs):∀a∈as,∃b∈bs,R a b:=by
 induction h with
 |vO=>exact λ_ m=>nomatch m
 |ux h _ ih =>
  intro b m;rcases oz.mp m with rfl|m
  .exact{_,n5,h}
  .let{a,ma,r}:=ih b m;exact{a,n4 _ ma,r}
def F2.map_eq(h:F2 R as bs)(e:∀a b,R a b->g b=f a):bs.tJ g=as.tJ f:=by induction h with|vO=>rfl|ux h _ ih=>rw[nV,nV,ih,e _ _ h]
structure Gx(K:Kd)(nn:tH tO)(G:tH Fx):Prop where
 W:Well K
 l4:nn.fg=4
 yK:nn.uA
 yv:∀x∈nn,Of x
 ne:G≠[]
 l3:G.fg<=3
 nd:(G.tJ Fx.nm).uA
 nm:∀g∈G,Of g.nm/\g.nm∉mks K
 ok:∀D g R,D++g::R=G->FxOk K (D.tJ Fx.hd) nn g
def P0:∀{xs:tH tO}{ks:tH α},x∈xs->xs.fg<=ks.fg->∃k,lkp xs ks x=p' k
 |y::ys,q::qs,m,l=>by
  unfold lkp;by_cases e:y=x
  .exact{q,by rw[tW e]}
  .rw[ug e];rcases oz.mp m with h|m
   .exact uD h.symm e
   .exact P0 m (by simpa using l)
 |_::_,[],_,l=>by simp at l
section
variable{K:Kd}{nn:List Str}{G:List Fx}
def Mq(l4:nn.fg=4)(yK:nn.uA)(hj:j<=2):(nn.uB j++(nn.drop 2).uB m).uA:=by refine tH.uA.sublist (tH.Sublist.append ?_ (pF ..)) (by rwa[tH.take_append_drop]);rw[show nn.uB j=(nn.uB 2).uB j by rw[tH.take_take,pT hj]];exact pF ..
def Gx.fok(X:Gx K nn G):∀A g B,A++g::B=G.tJ Fx.fd->FOk K A g:=by
 intro A g B e;let{D,R,e1,rfl,e3}:=tH.map_eq_append_iff.mp e.symm;let{g,R,rfl,rfl,rfl}:=tH.map_eq_cons_iff.mp e3;have O:=X.ok D g R e1.symm;have mg:g∈G:=by rw[e1];simp
 have nd:=X.nd;rw[e1,nW,nV,oW]at nd;let{kd,ks,hk,dw,l2,eo,hF}:=O.ex;have lo:g.zY.fg=ks.fg:=by rw[eo,oZ,qh,X.l4];lia
 refine{(X.nm g mg).1,?_,(X.nm g mg).2,O.ind,kd,ks,hk,dw,lo,l2,?_,?_}
 .intro m;rw[oj]at m;exact nd.2.2 g.nm m g.nm (by simp) rfl
 .show(g.vv.tJ λr=>(r.1,r.2.1,r.2.2.t)).tJ (·.1)=_;rw[oj];exact hF.map_eq λa b h=>h.1
 .intro w mw;let{w,lU,rfl}:=oa.mp mw;let{r,mr,e5,e6,hx,hw,s7,d7}:=hF.right w lU;have r2:=X.W.two kd hk r mr;have ln:(nn.uB r.2.fg).fg=r.2.fg:=by rw[oZ,X.l4];lia
  have fM:=Mq X.l4 X.yK (m:=ks.fg) r2;rw[<- eo]at fM;have lk:∀p∈nn.zip r.2,p.1∈nn.uB r.2.fg/\lkp (nn.uB r.2.fg++g.zY) (r.2++ks) p.1=p' p.2:=λp mp=>by rw[HN]at mp;exact{(qo mp).1,Gu fM (by rw[tH.zip_append ln];exact ph _ mp)}
  have j3:∀x,BB ((nn.uB r.2.fg++g.zY).tJ ky) (r.2.tJ T.str++ks.tJ T.str) (ky x)=(lkp (nn.uB r.2.fg++g.zY) (r.2++ks) x).tJ T.str:=λx=>by rw[<- nW];exact KD _ _
  refine{?_,?_,λx mx=>?_,r.2,(λx k=>lkp (nn.uB r.2.fg++g.zY) (r.2++ks) x=p' k),(λf ps k ts=>hdL (D.tJ Fx.hd++[g.hd]) f=p' (ps,k)/\(f=g.nm->∃x∈((nn.zip r.2).filter λp=>decide (p.2=kd.1)).tJ (·.1),ts[0]?=p' (exN x))),(λx=>(lkp (nn.uB r.2.fg++g.zY) (r.2++ks) x).uZ ""),?_,?_,λzF z0=>{X.W,λx k h=>?_,λf ps k ts {h1,h2}=>{?_,λe=>?_} },λx mx=>?_,Xk.ty hx hw (by lia)}
  .show w.2.1.fg<=2;rw[e6,ln];exact r2
  .show(w.2.1++g.zY).uA;rw[e6];exact fM
  .have mx:x∈w.2.1++g.zY:=mx;rw[e6,eo]at mx;rcases oS.mp mx with m|m
   .exact X.yv x (pI m)
   .exact X.yv x (tH.mem_of_mem_drop (pI m))
  .show(w.1,r.2)∈kd.2;rw[e5];exact mr
  .show w.2.1.fg=r.2.fg;rw[e6,ln]
  .show BB ((w.2.1++g.zY).tJ ky) _ _=_;rw[e6];have:=j3 x;rw[h]at this;exact this
  .have:=Qr (f:=f) (D.tJ Fx.hd++[g.hd]);rw[h1]at this;simp![nW,oj,nV,pM]at this;simp![hkD,hvD,nW,oj,nV,pM];exact this
  .let{x,mx,ex}:=h2 e;let{p,mp,rfl}:=oa.mp mx;let{mp,hp}:=pV.mp mp;let{a1,a2}:=lk p mp;refine{p.1,pV.wO {?_,?_},ex}
   .show p.1∈w.2.1;rw[e6];exact a1
   .show decide ((lkp (nn.uB r.2.fg++g.zY) (r.2++ks) p.1).uZ ""=kd.1)=true;rw[a2];exact hp
  .have mx:=mx;rw[e6]at mx;show BB ((w.2.1++g.zY).tJ ky) _ _=_;rw[e6];have:=j3 x;obtain⟨k,hk⟩:∃k,lkp (nn.uB r.2.fg++g.zY) (r.2++ks) x=p' k:=P0 (ph _ mx) (by simp[lo];lia);rw[this];show _=p' (T.str ((lkp (nn.uB r.2.fg++g.zY) (r.2++ks) x).uZ ""));rw[hk];rfl
def IE{f:α->tO}:∀{l:tH α},(l.tJ f).uA->a∈l->l.find? (λb=>decide (f b=f a))=p' a
 |b::l,nd,m=>by
  rw[nV,o5]at nd;rcases oz.mp m with rfl|m
  .simp
  .rw[tH.find?_cons_of_neg (by intro e;exact nd.1 (by rw[oy e];exact oa.wO {a,m,rfl}))];exact IE nd.2 m
def rwG (G:tH Fx)(f m:tO):tL (tH tO×Ex):=(G.find? λg=>decide (g.nm=f)).u9 λg=>(g.vv.find? λr=>decide (r.1=m)).tJ λr=>(r.2.1++g.zY,r.2.2)
def Gx.Rp(X:Gx K nn G)(mg:g∈G):∃kd ks,kd∈K/\g.ks=kd.1::ks/\ks.fg<=2/\g.zY.fg=ks.fg/\(∀m:tQ,(g.zY=(nn.drop 2).uB ks.fg))/\(g.vv.tJ (·.1))=kd.2.tJ (·.1)/\∀r∈kd.2,∃w∈g.vv,w.1=r.1/\w.2.1=nn.uB r.2.fg/\Xk K (hdL (G.tJ Fx.hd)) (w.2.1++g.zY) (r.2++ks) w.2.2 g.k/\w.2.2.sz<=esz 3/\w.2.2.dp<=7:=by
 let{D,R,e1}:=pC mg;let{kd,ks,hk,dw,l2,eo,hF}:=(X.ok D g R e1.symm).ex;refine{kd,ks,hk,dw,l2,by rw[eo,oZ,qh,X.l4];lia,λ_=>eo,hF.map_eq λa b h=>h.1,λr mr=>?_};let{w,mw,e5,e6,hx,hw,s7,d7}:=hF.left r mr;refine{w,mw,e5,e6,?_,s7,d7};rw[e6];refine hx.mono λf p h=>?_
 have:=Qs (H2:=R.tJ Fx.hd) h;rw[e1];simpa using this
def Gx.pg(X:Gx K nn G):PgOk K (hdL (G.tJ Fx.hd)) (rwG G) (esz 3):=by
 have ex:∀f qs k,hdL (G.tJ Fx.hd) f=p' (qs,k)->∃g∈G,g.nm=f/\g.ks=qs/\g.k=k:=λf qs k h=>by let{g,mg,e}:=oa.mp (VG h);cases e;exact{g,mg,rfl,rfl,rfl}
 refine{X.W.two,λf qs k h=>?_,λf q qs k kd m ps h hk hq hm=>?_}
 .let{g,mg,rfl,rfl,rfl}:=ex f qs k h;let{kd,ks,hk,dw,l2,_}:=X.Rp mg;rw[dw];exact{by simp,by simp;lia}
 .let{g,mg,rfl,e1,rfl}:=ex f _ k h;let{fu,ks,dz,dw,l2,lo,eo,er,hr}:=X.Rp mg;rw[e1]at dw;cases dw;have:=JbU X.W hk dz (by rw[hq]);subst this;let{w,mw,e5,e6,hx,s7,d7}:=hr _ hm;have lV:(g.vv.tJ (·.1)).uA:=by rw[er];exact OV X.W hk
  refine{w.2.1++g.zY,w.2.2,?_,?_,?_,hx,s7,by lia}
  .have f1:=IE X.nd mg;have f2:=IE lV mw;rw[e5]at f2;unfold rwG;rw[f1];show tL.tJ _ (g.vv.find? _)=_;rw[f2];rfl
  .rw[e6,eo 0];exact Mq X.l4 X.yK (X.W.two fu hk _ hm)
  .have r2:=X.W.two fu hk _ hm;simp! at r2 e6;rw[n9,n9,e6,oZ,X.l4,lo]
   lia
end
section
variable{K:Kd}{nn:List Str}{G:List Fx}{cP cR z0:Addr}
def JaD(h:rwG G f m=p' (ys,b)):∃g∈G,g.nm=f/\∃w∈g.vv,w.1=m/\ys=w.2.1++g.zY/\b=w.2.2:=by unfold rwG at h;rw[oE]at h;let{g,e1,e2}:=h;rw[n8]at e2;let{w,e3,e4}:=e2;cases e4;have a1:=tH.find?_some e1;have a3:=tH.find?_some e3;exact{g,pQ e1,oy a1,w,pQ e3,oy a3,rfl,rfl}
abbrev Gx.P(cP z0:tV)(K:Kd)(G:tH Fx):T:=prT cP z0 K (G.tJ Fx.fd)
abbrev FTg(G:tH Fx):T:=.tY ((G.tJ Fx.fd).tJ Fd.t)
def Gx.fnd(X:Gx K nn G):((G.tJ Fx.fd).tJ Fd.nm).uA:=by rw[oj];exact X.nd
def Gx.rv(g:Fx)(w:tO×tH tO×Ex):rvT g.fd (w.1,w.2.1,w.2.2.t)=.uj [.uj ((w.2.1++g.zY).tJ T.str),w.2.2.t]:=by rw[nW];rfl
def Gx.frows(X:Gx K nn G)(mg:g∈G):(g.fd.vv.tJ (·.1)).uA:=by let{kd,ks,hk,_,_,_,_,er,_}:=X.Rp mg;show((g.vv.tJ λr=>(r.1,r.2.1,r.2.2.t)).tJ (·.1)).uA;rw[oj];show(g.vv.tJ (·.1)).uA;rw[er];exact OV X.W hk
def Gx.prow(X:Gx K nn G)(e1:c.cP=cP)(e2:c.P=Gx.P cP z0 K G):∀f m ys b,rwG G f m=p' (ys,b)->Row c f m ys b:=by
 intro f m ys b h;let{g,mg,rfl,w,mw,rfl,rfl,rfl}:=JaD h;have nr:PF.any (·==("row":tO))=false:=by decide +kernel
 let{D,R,eG}:=pC mg;let{_,_,_,_,_,_,_,hr}:=(X.fok (D.tJ Fx.fd) g.fd (R.tJ Fx.fd) (by rw[eG];simp)).ex;refine{λfs=>?_,?_,(hr (w.1,w.2.1,w.2.2.t) (oa.wO {w,mw,rfl})).nd}
 .rw[e1,e2];unfold Cw;simp[nr]
 .rw[e1,e2,<- Gx.rv];exact p_row X.fnd (oa.wO {g,mg,rfl}) (X.frows mg) (oa.wO {w,mw,rfl})
end
def En:∀G:tH Fd,LO (G.tJ rwD)=G.tJ rwV
 | []=>by simp[LO]
 |g::G=>by simp[LO,En G,rwD,toT]
def fz_pr{G:tH Fd}:fzR (.nw (.vE cP PF [.vm S,.v a b,.dO c (G.tJ rwD)])) fs=.ok (.t (.vE cP PF [S,.v a b,.v c (G.tJ rwV)])) fs:=by
 with_unfolding_all show Out.ok (Rv.t (toT _)) fs=_
 simp![toT,LO,En]
def Z3(h:fs[i]?=p' (p' (.uI (.v ks ts)))):fzR (.x i) fs=.ok (.t (.v ks ts)) (fs.wJ i (vl (.v ks ts))):=by simp![fzR,h];simp![toT]
def JbC:¬Of "":=by
 intro h;have e:=S8 (z:="") (by decide +kernel);have:isNm ""=false:=by decide +kernel
 rw[Of,e]at h;cases h
section
unseal Sat Dm Rr Src Ak Av ifS retS Au Bv G8 Ag Aa gc fz Ac Ab Ae Ad Af An AA Bd Dg AW asB Ep Ge E8 orT tgN AM Aj AL itU itZ itD G6 CM slF chain Dz gEq Aw Dh B5 EU Dw AG BH fzR HV GN CK Ez Ba Ck GJ dput2 Gk fzD Ky Az BC BQ MG Fo
section
variable{fs ae:FS}{f:tm}{ks:List Key}{ts:List T}
def RN(h:f fs=.ok (.t (.v ks ts)) ae):Ad Ew (Ab f Ae) fs=.ok (.nw (.v ks ts)) ae:=Bx (AV h A5) rfl
def x_itV(h:f fs=.ok (.t (.tY ts)) ae):itV f fs=.ok ts.vn ae:=by unfold itV;rw[h];rfl
def UQ{i:tQ}{a b:tN}(h0:fs[i]?=p' (iv a))(h:f fs=.ok (.t (.tS b)) fs)(hb:-(2^64)<b/\b<2^64):augP i f fs=.nx (fs.wJ i (iv (a*b))):=by unfold augP;rw[h0];simp![SO.of,h];rw[tW hb];rw[show HV i (.t (.tS (a*b))) fs=p' (fs.wJ i (iv (a*b)))from Bp h0 Al]
def x_isD{b:uz}(h:f fs=.ok (.t (.dF ks ts)) ae):isD f fs=.ok (.t (.l true)) ae:=by unfold isD;rw[h];rfl
def vL.get{Q:SO->Prop}{y:SO}(h:vL Q y):Q y:=h
def vL.of{Q:SO->Prop}{y:SO}(h:Q y):vL Q y:=h
def OM{a0 a1:tL Sl}:Av 2 (An BC (Ab (fz DY) Ae)) [a0,a1,none,none,none,none,none,none,none]=.nx [a0,a1,vl (.tY [.v [] []]),none,none,none,none,none,none]:=rfl
end
section
variable{K:Kd}
def U3{m:tQ}(ih:∀s,s<=m->∀k t,t∈LL K s k->∃h:Th,h.t=t/\Tk K h k/\h.sz=s/\h.dp<=s):∀(qs:tH tO)(w:tQ),w<=m->∀r∈rws (LL K) qs w,∃hs:tH Th,Th.ts hs=r/\Tks K hs qs/\Th.szs hs=w/\Th.dps hs<=w
 | [],w,_,r,hr=>by
  rw[HZ]at hr;split at hr
  next e=>subst e;cases oF.mp hr;exact{[],rfl,uQ.intro,rfl,oh _}
  .cases hr
 |q::qs,w,hw,r,hr=>by unfold rws at hr;let{i,hi,hr}:=pe.mp hr;let{f,hf,hr}:=pe.mp hr;let{r',ll,rfl}:=oa.mp hr;have hi:=oR.mp hi;let{h,e1,t1,s1,d1}:=ih (i+1) (by lia) q f hf;let{hs,e2,t2,s2,d2}:=U3 ih qs (w-(i+1)) (by lia) r' ll;exact{h::hs,by rw[Th.ts,e1,e2],{t1,t2},by rw[Th.szs,s1,s2];lia,by rw[Th.dps];lia}
def LL_th:∀(n s:tQ),s<=n->∀k t,t∈LL K s k->∃h:Th,h.t=t/\Tk K h k/\h.sz=s/\h.dp<=s
 |_,0,_,k,t,m=>by rw[Jh]at m;cases m
 |n+1,s+1,hs,k,t,m=>by
  rw[LA]at m;unfold ofK at m;cases e:kf K k with
  |none=>rw[e]at m;cases m
  |p' kd =>
   rw[e]at m;let{r,hr,m}:=pe.mp m;let{ps,hp,rfl}:=oa.mp m;let{bx,e2,t2,s2,d2}:=U3 (m:=s) (λs' l k t m=>LL_th n s' (by lia) k t m) r.2 s (oh _) ps hp;obtain⟨mk,ek⟩:kd∈K/\kd.1=k:=by unfold kf at e;exact{pQ e,by simpa using tH.find?_some e}
   exact{.mk r.1 bx,by rw[Th.t,e2];rfl,{kd,mk,ek,r.2,hr,t2},by rw[Th.sz,s2];lia,by rw[Th.dp];lia}
def V6{k:tO}:∀{ts:tH T},(∀t∈ts,∃h:Th,h.t=t/\Tk K h k/\h.sz<=7/\h.dp<=7)->∃hs:tH Th,hs.tJ Th.t=ts/\∀h∈hs,Tk K h k/\h.sz<=7/\h.dp<=7
 | [],_=>{[],rfl,λ_ m=>nomatch m}
 |t::ts,H=>by
  let{h,e,a}:=H t n5;let{hs,e2,b}:=V6 λt m=>H t (n4 _ m)
  exact{h::hs,by rw[nV,e,e2],λx m=>by rcases oz.mp m with rfl|m;exact a;exact b x m}
def ths{vZ:tQ}(k:tO):∃hs:tH Th,hs.tJ Th.t=(cat K k 7).uB vZ/\hs.fg<=vZ/\∀h∈hs,Tk K h k/\h.sz<=7/\h.dp<=7:=by
 let{hs,e,a}:=V6 (K:=K) (k:=k) (ts:=(cat K k 7).uB vZ) λt m=>by have m:=pI m;unfold cat at m;let{i,hi,m}:=pe.mp m;have hi:=oR.mp hi;let{h,e,tk,s,d}:=LL_th 7 (i+1) (by lia) k t m;exact{h,e,tk,by lia,by lia}
 refine{hs,e,?_,a};have:=uC tH.fg e;rw[nU,oZ]at this
 lia
end
section
variable{α:Type}
def cmb (got:tH (tH α))(rs:tH (tH α)):tH (tH α):=rs.foldl (λgot row=>got.uH λs=>row.tJ λh=>s++[h]) got
def pkR :tH (tH α)->tQ->tL (tH α)
 | [],_=>p' []
 |row::r,n=>(row[n%row.fg]?).u9 λh=>(pkR r (n/row.fg)).tJ λq=>h::q
def C6{got:tH (tH α)}{rs:tH (tH α)}{row:tH α}:cmb got (rs++[row])=(cmb got rs).uH λs=>row.tJ λh=>s++[h]:=by unfold cmb;rw[tH.foldl_append];rfl
def QJ{β:Type}{f:β->tH α}{l:tQ}:∀{xs:tH β}{q i:tQ}{x:β},(∀x∈xs,(f x).fg=l)->xs[q]?=p' x->i<l->(xs.uH f)[q*l+i]?=(f x)[i]?
 | [],q,i,x,_,e,_=>by simp at e
 |y::ys,0,i,x,hl,e,hi=>by cases e;rw[oO,tQ.zero_mul,tQ.zero_add,qg (by rw[hl y n5];exact hi)]
 |y::ys,q+1,i,x,hl,e,hi=>by have h0:=hl y n5;rw[oO,qF (by rw[h0,tQ.succ_mul];lia),h0,show(q+1)*l+i-l=q*l+i by rw[tQ.succ_mul];lia];exact QJ (λx m=>hl x (n4 _ m)) e hi
def E2:∀(n:tQ)(rs:tH (tH α)),rs.fg=n->∀s∈cmb [[]] rs,s.fg=n
 |0,rs,e,s,m=>by cases pL.mp e;cases oF.mp m;rfl
 |n+1,rs,e,s,m=>by have hr:rs=rs.vf++[rs.getLast (by intro h;rw[h]at e;simp at e)]:=(oH _).symm;rw[hr,C6]at m;let{s',m',m}:=pe.mp m;let{h,_,rfl}:=oa.mp m;have:=E2 n rs.vf (by rw[tH.length_dropLast];lia) s' m';simp[this]
def VZ:∀(k:tQ)(rs:tH (tH α)),rs.fg=k->∀n s,(cmb [[]] rs)[n]?=p' s->pkR rs.vn n=p' s.vn
 |0,rs,e,n,s,h=>by cases pL.mp e;cases n with|zero=>cases h;rfl|succ n=>simp[cmb]at h
 |k+1,rs,e,n,s,h=>by
  obtain⟨rs',row,rfl⟩:∃rs' row,rs=rs'++[row]:={rs.vf,rs.getLast (by intro h;rw[h]at e;simp at e),(oH _).symm}
  have hk:rs'.fg=k:=by simpa using e
  rw[C6]at h;have hl:∀x∈cmb [[]] rs',(row.tJ λh=>x++[h]).fg=row.fg:=λx _=>nU ..
  have mI:((cmb [[]] rs').uH λs=>row.tJ λh=>s++[h]).fg=(cmb [[]] rs').fg*row.fg:=by rw[tH.length_flatMap];simp![nU];exact DG _ _
  have hn:=(ou.mp h).1;rw[mI]at hn;have h0:0<row.fg:=by
   rcases tQ.eq_zero_or_pos row.fg with z|z
   .rw[z]at hn;simp at hn
   .exact z
  have hq:n/row.fg<(cmb [[]] rs').fg:=tQ.div_lt_of_lt_mul (by rw[tQ.mul_comm];exact hn);have hi:=tQ.mod_lt n h0;have e1:=QJ (f:=λs=>row.tJ λh=>s++[h]) (l:=row.fg) (q:=n/row.fg) (i:=n%row.fg) hl (nX hq) hi;rw[tQ.div_add_mod' n row.fg,h,oq]at e1;have e2:=VZ k rs' hk (n/row.fg) _ (nX hq);rw[nX hi]at e1;rw[tH.reverse_append];show((row[n%row.fg]?).u9 λh=>(pkR rs'.vn (n/row.fg)).tJ λq=>h::q)=_;rw[nX hi,e2];cases e1;simp
end
section
variable{bG:Str->Bool}{g h:FS->SO}{fs ae:FS}{r:Rv}{c:Str}
def Jae(e:g fs=.nx ae):Nu bG g h fs=.nx ae:=by unfold Nu;rw[e]
def Wr(e:g fs=.wH r ae):Nu bG g h fs=.wH r ae:=by unfold Nu;rw[e]
def RZ{aq:FS}(e:g fs=.wy c ae)(ok:bG c=true)(e2:h ae=.nx aq):Nu bG g h fs=.nx aq:=by unfold Nu;rw[e];show Jo bG h c ae=_;unfold Jo;rw[tW ok,e2]
def LN{aq:FS}(e:g fs=.wy c ae)(ok:bG c=true)(e2:h ae=.wH r aq):Nu bG g h fs=.wH r aq:=by unfold Nu;rw[e];show Jo bG h c ae=_;unfold Jo;rw[tW ok,e2]
def Wu:(xrs.contains "TooLong"&&xtab "TooLong" "TooLong")=true:=by rfl
end
def II{e:T->T->tL uz}:∀{xs ys:tH T},(∀x∈xs,∀y∈ys,∃b,e x y=p' b)->∃b,Hb e xs ys=p' b
 | [],ys,_=>{true,by cases ys<;>rfl}
 |x::xs,[],_=>{true,rfl}
 |x::xs,y::ys,h=>by
  let{b,e1}:=h x n5 y n5;let{c,e2}:=II λa ma b mb=>h a (n4 _ ma) b (n4 _ mb)
  exact{b&&c,by simp[Hb,e1,e2]}
def VU:∀(n:tQ)(v w:Th),2*v.dp<=n->∃b,eqT n v.t w.t=p' b
 |0,v,w,l=>by have:=NY v;lia
 |1,v,w,l=>by have:=NY v;lia
 |n+2,.mk m ps,.mk m' ps',l=>by
  have hd:(Th.mk m ps).dp=1+Th.dps ps:=by simp[Th.dp]
  have e1:(Th.mk m ps).t=.uj [.str m,.uj (ps.tJ Th.t)]:=by simp[Th.t,Th.By]
  have e2:(Th.mk m' ps').t=.uj [.str m',.uj (ps'.tJ Th.t)]:=by simp[Th.t,Th.By]
  let{b,e3}:=II (e:=eqT n) (xs:=ps.tJ Th.t) (ys:=ps'.tJ Th.t) λx mx y my=>by let{p,mp,rfl}:=oa.mp mx;let{q,mq,rfl}:=oa.mp my;have:=MT mp;exact VU n p q (by lia)
  refine{((m==m')&&((b&&(ps.tJ Th.t).fg==(ps'.tJ Th.t).fg)&&true))&&true,?_};rw[e1,e2,EY];simp![Hb,IJ,EY,e3,oM,pd];rfl
def Vu(v w:Th)(hd:v.dp<=60):∃b,∀fs,GF (.t v.t) (.t w.t) fs=.ok (.t (.l b)) fs:=by
 cases v with
 |mk m ps =>
  cases w with
  |mk m' ps' =>
   have bP:(Th.mk m ps).dp=1+Th.dps ps:=by simp[Th.dp]
   have e1:(Th.mk m ps).t=.uj [.str m,.uj (ps.tJ Th.t)]:=by simp[Th.t,Th.By]
   have e2:(Th.mk m' ps').t=.uj [.str m',.uj (ps'.tJ Th.t)]:=by simp[Th.t,Th.By]
   let{b,e3}:=II (e:=eqT 179) (xs:=ps.tJ Th.t) (ys:=ps'.tJ Th.t) λx mx y my=>by let{p,mp,rfl}:=oa.mp mx;let{q,mq,rfl}:=oa.mp my;have:=MT mp;exact VU 179 p q (by lia)
   refine{!(((m==m')&&((b&&(ps.tJ Th.t).fg==(ps'.tJ Th.t).fg)&&true))&&true),λfs=>?_};rw[e1,e2];unfold GF;simp![KU,Hb,IJ,EY,e3,oM,pd];rfl
def Rf{g:tj}{fa fb:tm}{fs ae aq:FS}{c:tO}{x:T}(h:fa fs=.ok (.t x) ae)(h2:fb ae=.wy c aq):Ag g fa fb fs=.wy c aq:=by unfold Ag;rw[h,B8 (x:=.t x) uQ.intro];show(fb ae).bnd _=_;rw[h2];rfl
section
variable{cP cR:Addr}{P S E E' w w':T}{n:Int}{fs τ:FS}{i j k l:Nat}
def LZ{v:T}(h0:fs[i]?=p' (vl P))(h1:fs[j]?=p' (vl S))(h2:fs[k]?=p' (vl E))(h3:fs[l]?=p' (iv n))(h:f_run cP cR [vl P,vl S,vl E,iv n]=.ok (.t v) τ):fz (Ad (Af 4 (f_run cP cR)) (Ac (fz (Aa i)) (Ac (fz (Aa j)) (Ac (fz (Aa k)) (Ac (fz (Aa l)) Ae))))) fs=.ok (.t v) fs :=
 AS (call1 (AD (AS (Ah h0)) (AD (AS (Ah h1)) (AD (AS (Ah h2)) (AD (AS (Ah h3)) A5)))) rfl rfl h)
def KZ(h0:fs[i]?=p' (vl P))(h1:fs[j]?=p' (vl S))(h2:fs[k]?=p' (vl E))(h3:fs[l]?=p' (iv n))(h:f_run cP cR [vl P,vl S,vl E,iv n]=.wy "TooLong" τ):fz (Ad (Af 4 (f_run cP cR)) (Ac (fz (Aa i)) (Ac (fz (Aa j)) (Ac (fz (Aa k)) (Ac (fz (Aa l)) Ae))))) fs=.wy "TooLong" fs :=
 VH (Ki (AD (AS (Ah h0)) (AD (AS (Ah h1)) (AD (AS (Ah h2)) (AD (AS (Ah h3)) A5)))) rfl rfl h)
inductive Oe(cP cR:tV)(P S E:T)(n:tN):T->Prop
 |no (τ:FS) (h:f_run cP cR [vl P,vl S,vl E,iv n]=.wy "TooLong" τ):Oe cP cR P S E n .vG
 |ok (v:Th) (τ:FS) (hd:v.dp<=60) (h:f_run cP cR [vl P,vl S,vl E,iv n]=.ok (.t v.t) τ):Oe cP cR P S E n v.t
def LD(r:Oe cP cR P S E n w):∃τ,f_Lworth_of cP cR [vl P,vl S,vl E,iv n]=.ok (.t w) τ:=by cases r with|no τ h=>exact{_,CJ (sq (CU Be (Bp rfl Ao)) (sq (RZ (Sa (KZ rfl rfl rfl rfl h)) Wu (CU Be (Bp rfl Al))) (A8 (Ah rfl))))}|ok v τ _ h=>exact{_,CJ (sq (CU Be (Bp rfl Ao)) (sq (Jae (CU (LZ rfl rfl rfl rfl h) (Bp rfl Al))) (A8 (Ah rfl))))}
def MU :T->T->uz
 |.vG,_=>false
 |_,.vG=>false
 |a,b=>match GF (.t a) (.t b) []with|.ok (.t (.l c)) _=>c|_=>false
def VW{v w:Th}{b:uz}(h:∀fs,GF (.t v.t) (.t w.t) fs=.ok (.t (.l b)) fs):MU v.t w.t=b:=by cases v with|mk m ps =>cases w with|mk m' ps' =>have e:=h [];simp![Th.t]at e ⊢;simp![MU,e]
def sides(r:Oe cP cR P S E n w)(r':Oe cP cR P S E' n w'):∃τ,f_sides_differ cP cR [vl P,vl S,vl E,vl E',iv n]=.ok (.t (.l (MU w w'))) τ:=by
 cases r with
 |no τ h=>exact{_,CJ (CV (LN (Ia (UA (KZ rfl rfl rfl rfl h))) Wu (A8 Be)))}
 |ok v τ hd h =>
  cases r' with
  |no fO h' =>
   have e:MU v.t .vG=false:=by cases v;simp[Th.t,MU]
   rw[e];exact{_,CJ (CV (LN (Ia (Rf (LZ rfl rfl rfl rfl h) (KZ rfl rfl rfl rfl h'))) Wu (A8 Be)))}
  |ok v' fO bP h' =>let{b,hb}:=Vu v v' hd;rw[VW hb];exact{_,CJ (CV (Wr (A8 (Ar (LZ rfl rfl rfl rfl h) (LZ rfl rfl rfl rfl h') (hb _)))))}
end
section
variable{α:Type}{p:α->T}{gt:tz}{s h:FS->SO}{D:α->Bool}{r:α->Rv}{I:FS->Prop}{it:tB}{Q:SO->Prop}
def MJ:∀{xs:tH α}{fs:FS},I fs->(∀a∈xs,∀fs,I fs->∃ae,gt (p a) fs=p' ae/\vL (λy=>if D a=true then ∃τ,y=.wH (r a) τ else ∃aq,y=.nx aq/\I aq) (s ae))->(xs.find? D=none->∃ak,Dz gt s (xs.tJ p) fs=.nx ak/\I ak)/\∀a,xs.find? D=p' a->∃τ,Dz gt s (xs.tJ p) fs=.wH (r a) τ
 | [],fs,i,_=>{λ_=>{fs,rfl,i},λ_ e=>nomatch e}
 |a::xs,fs,i,st=>by
  let{ae,e1,q}:=st a n5 fs i;have q:if D a=true then ∃τ,s ae=.wH (r a) τ else ∃aq,s ae=.nx aq/\I aq:=q;by_cases d:D a=true
  .rw[tW d]at q;let{τ,e2}:=q;rw[tH.find?_cons_of_pos d];exact{(λe=>nomatch e),λb e=>by cases e;exact{τ,by rw[nV];exact YB e1 e2} }
  .rw[ug d]at q;let{aq,e2,i2}:=q;rw[tH.find?_cons_of_neg d,nV,HH e1 e2];exact MJ i2 λa m=>st a (n4 _ m)
def O5{xs:tH α}{fs ae:FS}(hi:it fs=.ok (xs.tJ p) ae)(D:α->uz)(r:α->Rv)(I:FS->Prop)(h0:I ae)(st:∀a∈xs,∀fs,I fs->∃ae,gt (p a) fs=p' ae/\vL (λy=>if D a=true then ∃τ,y=.wH (r a) τ else ∃aq,y=.nx aq/\I aq) (s ae))(k0:xs.find? D=none->∀ak,I ak->vL Q (h ak))(k1:∀a,xs.find? D=p' a->∀τ,vL Q (.wH (r a) τ)):vL Q (Ak (Bv it gt s) h fs):=by let{f0,f1}:=MJ h0 st;unfold Ak Bv;rw[hi];show vL Q (match Dz gt s (xs.tJ p) ae with|.nx fs=>h fs|o=>o);cases e:xs.find? D with|none =>let{ak,e2,i2}:=f0 e;rw[e2];exact k0 e ak i2|p' a =>let{τ,e2}:=f1 a e;rw[e2];exact k1 a e τ
def JaN{τ:FS}{c:uz}{rv:Rv}{J:FS->Prop}(d:c=true):vL (λy=>if c=true then ∃τ,y=.wH rv τ else ∃aq,y=.nx aq/\J aq) (.wH rv τ):=by unfold vL;show if c=true then _ else _;rw[tW d];exact{τ,rfl}
def JaT{τ:FS}{c:uz}{rv:Rv}{J:FS->Prop}(d:c=false)(j:J τ):vL (λy=>if c=true then ∃τ,y=.wH rv τ else ∃aq,y=.nx aq/\J aq) (.nx τ):=by unfold vL;show if c=true then _ else _;rw[ug (by rw[d];exact oG)];exact{τ,rfl,j}
end
def HI{α:Type}{D:α->uz}{d:α}(L:tH α):L.find? D=((tH.vq L.fg).find? λi=>D (L.uZ i d)).tJ λi=>L.uZ i d:=by
 have e:L=(tH.vq L.fg).tJ λi=>L.uZ i d:=by
  apply tH.ext_getElem?;intro i;rw[oq];by_cases h:i<L.fg
  .rw[pq h,pd,tH.getD_eq_getElem?_getD,nX h];rfl
  .rw[o7 (by lia),o7 (by rw[px];lia)];rfl
 conv=>lhs;rw[e]
 rw[tH.find?_map];rfl
def Z4{f:tm}{fs ae:FS}{ks:tH vc}{ts:tH T}(h:f fs=.ok (.nw (.v ks ts)) ae):fzN f fs=.ok (.t (.dF ks ts)) ae:=by unfold fzN;rw[h];rfl
def K4{v:Th}{fs:FS}:IB (.t v.t) (.t .vG) fs=.ok (.t (.l true)) fs:=by cases v;simp![Th.t];rfl
def Oe.vG{cP cR:tV}{P S E w:T}{n:tN}(r:Oe cP cR P S E n w):w=.vG\/∃v:Th,w=v.t/\v.dp<=60:=by cases r with|no=>exact .uW rfl|ok v _ hd=>exact .uK {v,rfl,hd}
def and_t{f g:tw}{fs:FS}(h:f fs=.ok true fs):E8 f g fs=g fs:=by unfold E8;rw[h];rfl
def and_f{f g:tw}{fs:FS}(h:f fs=.ok false fs):E8 f g fs=.ok false fs:=by unfold E8;rw[h];rfl
def dif3{fs:FS}{i j:tQ}{w w':T}(h1:fs[i]?=p' (vl w))(h2:fs[j]?=p' (vl w'))(o:w=.vG\/∃v:Th,w=v.t/\v.dp<=60)(o':w'=.vG\/∃v:Th,w'=v.t/\v.dp<=60):E8 (wk (Ag IB (Aa i) (gc .vG))) (E8 (wk (Ag IB (Aa j) (gc .vG))) (wk (Ag GF (Aa i) (Aa j)))) fs=.ok (MU w w') fs:=by
 rcases o with rfl|⟨v,rfl,hd⟩
 .exact and_f (De (Ar (Ah h1) Be rfl))
 .have e1:Ag IB (Aa i) (gc .vG) fs=.ok (.t (.l true)) fs:=Ar (Ah h1) Be K4;rw[and_t (De e1)];rcases o' with rfl|⟨v',rfl,bP⟩
  .have e:MU v.t .vG=false:=by cases v;simp[Th.t,MU]
   rw[e];exact and_f (De (Ar (Ah h2) Be rfl))
  .let{b,hb}:=Vu v v' hd;rw[VW hb,and_t (De (Ar (Ah h2) Be K4))];exact De (Ar (Ah h1) (Ah h2) (hb fs))
end
section
variable{xs:List Str}{R:List (List Th)}
abbrev thL(r:tH Th):T:=.tY (r.tJ Th.t)
def count(hR:∀r∈R,r.fg<=100):∃τ,BI [vl (.tY (R.tJ thL))]=.ok (.t (.tS ((cmb [[]] R).fg:tQ))) τ:=by
 apply Cp;unfold Cm;apply AN
 .lk
 apply Bn (p:=thL) (xs:=R) (I:=λD fs=>∃y2,fs=[vl (.tY (R.tJ thL)),iv ((cmb [[]] D).fg:tQ),y2]/\vC y2)
 .lk
 .exact{none,rfl,Ao}
 .intro D r S fs e {y2,rfl,f2}
  have hr:=hR r (e▸by simp);have el:((cmb [[]] (D++[r])).fg:tN)=((cmb [[]] D).fg:tQ)*((r.tJ Th.t).fg:tQ):=by
   rw[C6,tH.length_flatMap];simp![nU];rw[DG]
   push_cast
   rfl
  refine{_,tg rfl f2,?_};apply U8
  .apply UQ (fs:=[_,iv _,vl (thL r)]) rfl
   .lk
   .rw[nU];lia
  .exact O7 {_,by rw[el];rfl,Al}
 .intro fs {y2,rfl,f2}
  lk
def Pm{n:tQ}{s:tH Th}(hR:∀r∈R,r.fg<=100)(lR:R.fg<=100)(hn:n<=100000)(h:pkR R.vn n=p' s):∃r τ,IF [vl (.tY (R.tJ thL)),iv (n:tN)]=.ok r τ/\r=.nw (.tY (s.vn.tJ Th.t)):=by
 apply WT;unfold M7;apply AN
 .lk
 apply AN
 .lk
 apply Bn (p:=thL) (xs:=R.vn) (I:=λD fs=>∃(a q:tH Th)(m:tQ)(y4:tL Sl),fs=[vl (.tY (R.tJ thL)),iv (n:tN),p' (.uI (.tY (a.tJ Th.t))),iv (m:tN),y4]/\vC y4/\m<=n/\a.fg=D.fg/\pkR (R.vn.drop D.fg) m=p' q/\s=a++q)
 .rw[qN];lk
 .exact{[],s,n,none,rfl,Ao,oh _,rfl,h,rfl}
 .intro D r S fs e {a,q,m,y4,rfl,f4,lm,la,hq,es}
  rw[<- e,tH.drop_left]at hq;simp![pkR,oE,n8]at hq;let{x,ex,q',hq,rfl}:=hq;have h0:0<r.fg:=by
   rcases tQ.eq_zero_or_pos r.fg with z|z
   .rw[pL.mp z]at ex;simp at ex
   .exact z
  have e1:atI (r.tJ Th.t) ((m:tN)%((r.tJ Th.t).fg:tQ))=p' x.t:=by rw[nU,<- tN.natCast_emod,A0 (by rw[oq,ex];rfl)]
  have e2:(m:tN)/((r.tJ Th.t).fg:tQ)=((m/r.fg:tQ):tN):=by rw[nU];exact(tN.natCast_ediv ..).symm
  have hr:=hR r (tH.mem_reverse.mp (e▸by simp));have hl:=nU Th.t (as:=r);have nE:(a.tJ Th.t).fg<1000000:=by
   have:=uC tH.fg e;rw[n9,qE]at this;rw[nU]
   lia
  refine{_,tg rfl f4,?_};refine(?_:vL _ (Ak _ _ [vl (.tY (R.tJ thL)),iv (n:tN),p' (.uI (.tY (a.tJ Th.t))),iv (m:tN),vl (thL r)]));lk
  .exact{a++[x],q',m/r.fg,vl (thL r),by rw[<- e2,nW];rfl,Al,oo (tQ.div_le_self ..) lm,by simp[la],by rw[<- e,show(D++r::S)=(D++[r])++S by simp,tH.drop_left];exact hq,by simp[es]}
 .intro fs {a,q,m,y4,rfl,f4,lm,la,hq,es}
  rw[tH.drop_length]at hq;cases hq;rw[oJ]at es;subst es;exact Sm (Ol rfl) (WV uQ.intro (by rw[qN]))
end
def Pf{α β:Type}{f:α->T}{g:β->T}:∀(xs:tH α)(ys:tH β),FL.v6 (xs.tJ f) (ys.tJ g)=(xs.zip ys).tJ λq=>.uj [f q.1,g q.2]
 | [],_=>by simp[FL.v6]
 |_::_,[]=>by simp[FL.v6]
 |x::xs,y::ys=>by rw[nV,nV,FL.v6,Pf xs ys];rfl
section
variable{xs:List Str}{R:List (List Th)}
def dS (xs:tH tO)(s:tH Th):T:=.v (xs.tJ λx=>(.uK x:vc)) (s.tJ Th.t)
def WK{a0 a1 y6 y7 y8:tL Sl}{ys:tH tO}{L:tH (tH Th)}{x:tO}{row:tH Th}(f6:vC y6)(f7:vC y7)(f8:vC y8)(nx:x∉ys)(ly:ys.fg<=100)(hL:∀s∈L,s.fg=ys.fg)(hb:(L.uH λs=>row.tJ λh=>s++[h]).fg<=100000):
  ∃z6 z7 z8,vC z6/\vC z7/\vC z8/\Bv (itU (fz (Aa 2))) (wd 6) (Bv (itU (fz (Aa 4))) (wd 7) (Ak (Av 8 (Ad Ew (Ab (Aa 6) Ae))) (Ak (Ba (fz (Aa 7)) (Aa 8) (fz (Aa 3))) (Au (AA Dy (Aa 5) (Ab (fz (Aa 8)) Ae)))))) [a0,a1,vl (.tY (L.tJ (dS ys))),vl (.str x),vl (thL row),p' (.uI (.tY [])),y6,y7,y8]=.nx [a0,a1,vl (.tY (L.tJ (dS ys))),vl (.str x),vl (thL row),p' (.uI (.tY ((L.uH λs=>row.tJ λh=>s++[h]).tJ (dS (ys++[x]))))),z6,z7,z8]:=by
 have key:vL (λy=>∃z6 z7 z8,vC z6/\vC z7/\vC z8/\y=.nx [a0,a1,vl (.tY (L.tJ (dS ys))),vl (.str x),vl (thL row),p' (.uI (.tY ((L.uH λs=>row.tJ λh=>s++[h]).tJ (dS (ys++[x]))))),z6,z7,z8]) (Bv (itU (fz (Aa 2))) (wd 6) (Bv (itU (fz (Aa 4))) (wd 7) (Ak (Av 8 (Ad Ew (Ab (Aa 6) Ae))) (Ak (Ba (fz (Aa 7)) (Aa 8) (fz (Aa 3))) (Au (AA Dy (Aa 5) (Ab (fz (Aa 8)) Ae)))))) [a0,a1,vl (.tY (L.tJ (dS ys))),vl (.str x),vl (thL row),p' (.uI (.tY [])),y6,y7,y8]):=by
  apply D2 (p:=dS ys) (xs:=L) (I:=λD fs=>∃z6 z7 z8,fs=[a0,a1,vl (.tY (L.tJ (dS ys))),vl (.str x),vl (thL row),p' (.uI (.tY ((D.uH λs=>row.tJ λh=>s++[h]).tJ (dS (ys++[x]))))),z6,z7,z8]/\vC z6/\vC z7/\vC z8)
  .lk
  .exact{y6,y7,y8,rfl,f6,f7,f8}
  .intro D s S fs e {z6,z7,z8,rfl,g6,g7,g8}
   have ls:=hL s (e▸by simp);refine{_,tg rfl g6,?_};refine(?_:vL _ (Bv _ _ _ [a0,a1,vl (.tY (L.tJ (dS ys))),vl (.str x),vl (thL row),p' (.uI (.tY ((D.uH λs=>row.tJ λh=>s++[h]).tJ (dS (ys++[x]))))),vl (dS ys s),z7,z8]));apply D2 (p:=Th.t) (xs:=row) (I:=λE fs=>∃z7 z8,fs=[a0,a1,vl (.tY (L.tJ (dS ys))),vl (.str x),vl (thL row),p' (.uI (.tY (((D.uH λs=>row.tJ λh=>s++[h])++E.tJ λh=>s++[h]).tJ (dS (ys++[x]))))),vl (dS ys s),z7,z8]/\vC z7/\vC z8)
   .lk
   .exact{z7,z8,by simp,g7,g8}
   .intro E h S' fs e' {z7,z8,rfl,g7,g8}
    refine{_,tg rfl g7,?_};have hd:dS ys s=.v (ys.tJ λx=>(.uK x:vc)) (s.tJ Th.t):=rfl;have nk:(.uK x:vc)∉ys.tJ λx=>(.uK x:vc):=by simpa using nx
    have nH:(ys.tJ λx=>(.uK x:vc)).fg<1000000:=by rw[nU];lia
    have la:(((D.uH λs=>row.tJ λh=>s++[h])++E.tJ λh=>s++[h]).tJ (dS (ys++[x]))).fg<1000000:=by
     have e3:row.fg=E.fg+(S'.fg+1):=by rw[<- e',n9,om]
     rw[<- e,oP,oO,n9,n9,nU]at hb;rw[nU,n9,nU]
     lia
    refine(?_:vL _ (Ak _ _ [a0,a1,vl (.tY (L.tJ (dS ys))),vl (.str x),vl (thL row),p' (.uI (.tY (((D.uH λs=>row.tJ λh=>s++[h])++E.tJ λh=>s++[h]).tJ (dS (ys++[x]))))),vl (.v (ys.tJ λx=>(.uK x:vc)) (s.tJ Th.t)),vl h.t,z8]));lk
    .exact{vl h.t,vl (.v ((ys.tJ λx=>(.uK x:vc))++[.uK x]) (s.tJ Th.t++[h.t])),by simp[dS],Al,Al}
   .intro fs {z7,z8,rfl,g7,g8}
    exact O7 {_,z7,z8,by rw[oP,oO,p7,oJ],Al,g7,g8}
  .intro fs {z6,z7,z8,rfl,g6,g7,g8}
   exact vL.of {z6,z7,z8,g6,g7,g8,rfl}
 exact key.get
def R9(nd:xs.uA)(hl:xs.fg=R.fg)(lx:xs.fg<=10)(hb:∀D S,D++S=R->(cmb [[]] D).fg<=100000):∃τ,Ee [vl (.tY (xs.tJ T.str)),vl (.tY (R.tJ thL))]=.ok (.t (.tY ((cmb [[]] R).tJ (dS xs)))) τ:=by
 have m1:(xs.zip R).tJ (·.1)=xs:=tH.map_fst_zip (by lia);have m2:(xs.zip R).tJ (·.2)=R:=tH.map_snd_zip (by lia);apply Cp;unfold G1;apply AN (ae:=[vl (.tY (xs.tJ T.str)),vl (.tY (R.tJ thL)),vl (.tY [.v [] []]),none,none,none,none,none,none])
 .exact OM
 apply Bn (p:=λq:tO×tH Th=>.uj [.str q.1,thL q.2]) (xs:=xs.zip R) (I:=λD fs=>∃y3 y4 y5 y6 y7 y8,fs=[vl (.tY (xs.tJ T.str)),vl (.tY (R.tJ thL)),vl (.tY ((cmb [[]] (D.tJ (·.2))).tJ (dS (D.tJ (·.1))))),y3,y4,y5,y6,y7,y8]/\vC y3/\vC y4/\vC y5/\vC y6/\vC y7/\vC y8)
 .rw[<- Pf];lk
 .exact{none,none,none,none,none,none,rfl,Ao,Ao,Ao,Ao,Ao,Ao}
 .intro D {x,row} S fs e {y3,y4,y5,y6,y7,y8,rfl,f3,f4,f5,f6,f7,f8}
  have nx:x∉D.tJ (·.1):=λm=>by rw[<- m1,<- e,nW,oW]at nd;exact nd.2.2 x m x (by simp) rfl
  have eR:D.tJ (·.2)++[row]++S.tJ (·.2)=R:=by rw[<- m2,<- e];simp
  have ld:(D.tJ (·.1)).fg<=100:=by
   have:=uC tH.fg e;rw[n9,qr]at this;rw[nU]
   lia
  let{z6,z7,z8,g6,g7,g8,lp}:=WK (a0:=vl (.tY (xs.tJ T.str))) (a1:=vl (.tY (R.tJ thL))) (L:=cmb [[]] (D.tJ (·.2))) (row:=row) f6 f7 f8 nx ld (λs m=>by rw[E2 _ _ rfl s m,nU,nU]) (by rw[<- C6];exact hb _ _ eR);refine{_,Ov (tg rfl f3) (tg rfl f4),?_};refine(?_:vL _ (Ak _ _ [vl (.tY (xs.tJ T.str)),vl (.tY (R.tJ thL)),vl (.tY ((cmb [[]] (D.tJ (·.2))).tJ (dS (D.tJ (·.1))))),vl (.str x),vl (thL row),y5,y6,y7,y8]));apply AN
  .lk
  apply AN lp;lk
  .exact{vl (.str x),vl (thL row),vl (.tY (((cmb [[]] (D.tJ (·.2))).uH λs=>row.tJ λh=>s++[h]).tJ (dS (D.tJ (·.1)++[x])))),z6,z7,z8,by rw[nW,nW];show _=[_,_,vl (.tY ((cmb [[]] (D.tJ (·.2)++[row])).tJ (dS (D.tJ (·.1)++[x])))),_,_,_,_,_,_];rw[C6];rfl,Al,Al,Al,g6,g7,g8}
 .intro fs {y3,y4,y5,y6,y7,y8,rfl,f3,f4,f5,f6,f7,f8}
  rw[m1,m2];lk
end
section
variable{cP cR z0:Addr}{P E E':T}{n:Nat}{xs:List Str}{R:List (List Th)}{wl wr:List Th->T}
def due(nd:xs.uA)(hl:xs.fg=R.fg)(lx:xs.fg<=10)(hb:∀D S,D++S=R->(cmb [[]] D).fg<=900)(rl:∀s∈cmb [[]] R,Oe cP cR P (D6 xs s) E n (wl s))(rr:∀s∈cmb [[]] R,Oe cP cR P (D6 xs s) E' n (wr s)):
  ∃τ,f_Ldue cP cR [vl P,vl (.tY (xs.tJ T.str)),vl (.tY (R.tJ thL)),vl E,vl E',iv (n:tN)]=.ok (.t (((cmb [[]] R).find? λs=>MU (wl s) (wr s)).tU .vG (dS xs))) τ:=by
 let{_,es}:=R9 nd hl lx λD S e=>oo (hb D S e) ZB
 apply Cp;unfold b_Ldue;apply O5 (p:=dS xs) (xs:=cmb [[]] R) (D:=λs=>MU (wl s) (wr s)) (r:=λs=>.t (dS xs s)) (I:=λfs=>∃y6 y7 y8,fs=[vl P,vl (.tY (xs.tJ T.str)),vl (.tY (R.tJ thL)),vl E,vl E',iv (n:tN),y6,y7,y8]/\vC y6/\vC y7/\vC y8)
 .lk
 .exact{none,none,none,rfl,Ao,Ao,Ao}
 .intro s ms fs {y6,y7,y8,rfl,f6,f7,f8}
  have r1:=rl s ms;have r2:=rr s ms;refine{_,tg rfl f6,?_};show vL (λy=>if MU (wl s) (wr s)=true then _ else _) _;generalize wl s=w1 at r1 ⊢;generalize wr s=w2 at r2 ⊢;let{_,e1}:=LD r1;let{_,e2}:=LD r2;refine(?_:vL _ (Ak _ _ [vl P,vl (.tY (xs.tJ T.str)),vl (.tY (R.tJ thL)),vl E,vl E',iv (n:tN),vl (.v (xs.tJ λx=>(.uK x:vc)) (s.tJ Th.t)),y7,y8]));apply AN (ae:=[vl P,vl (.tY (xs.tJ T.str)),vl (.tY (R.tJ thL)),vl E,vl E',iv (n:tN),vl (.v (xs.tJ λx=>(.uK x:vc)) (s.tJ Th.t)),vl w1,y8])
  .lk
  apply AN (ae:=[vl P,vl (.tY (xs.tJ T.str)),vl (.tY (R.tJ thL)),vl E,vl E',iv (n:tN),vl (.v (xs.tJ λx=>(.uK x:vc)) (s.tJ Th.t)),vl w1,vl w2])
  .lk
  refine q_if (dif3 rfl rfl r1.vG r2.vG) (λd=>?_) (λd=>?_)
  .exact Sm (Ah rfl) (JaN d)
  .exact q_nx (JaT d {_,_,_,rfl,Al,Al,Al})
 .intro e fs {y6,y7,y8,rfl,f6,f7,f8}
  rw[e];lk
 .rintro s e τ
  rw[e];exact WV uQ.intro rfl
end
section
variable{cP cR z0:Addr}{K:Kd}{G:List Fd}{E E':T}{n most:Nat}{N:List (Str×Str)}{R:List (List Th)}{wl wr:List Th->T}
def N7(W:Well K)(nd:(N.tJ (·.1)).uA)(lN:N.fg<=10)(hN:∀q∈N,q.2∈K.tJ (·.1))(hm:vZ<=100)(eR:N.tJ (λq=>T.tY ((cat K q.2 7).uB vZ))=R.tJ thL)(h1:∀r∈R,r.fg<=100)(hb:(cmb [[]] R).fg<=900)(rl:∀s∈cmb [[]] R,Oe cP cR (prT cP z0 K G) (D6 (N.tJ (·.1)) s) E n (wl s))(rr:∀s∈cmb [[]] R,Oe cP cR (prT cP z0 K G) (D6 (N.tJ (·.1)) s) E' n (wr s)):
  ∃τ,f_against cP cR z0 [vl (prT cP z0 K G),vl (.uj [.uj (N.tJ pnT),E,E']),iv (vZ:tN),iv (n:tN)]=.ok (.t (((cmb [[]] R).find? λs=>MU (wl s) (wr s)).tU .vG (D6 (N.tJ (·.1))))) τ:=by
 have lR:R.fg=N.fg:=by have:=uC tH.fg eR;rw[nU,nU]at this;exact this.symm
 let{_,ec}:=count (R:=R) h1;apply Cp;unfold b_against;apply AN
 .lk
 apply AN (ae:=[vl (prT cP z0 K G),vl (.uj [.uj (N.tJ pnT),E,E']),iv (vZ:tN),iv (n:tN),vl (.uj (N.tJ pnT)),vl E,vl E',vl (.tY (R.tJ thL)),none,none])
 .rw[<- eR];lk
  .apply E3 (p1:=λq=>.str q.1) (p2:=λq=>.str q.2) (q:=λq=>T.tY ((cat K q.2 7).uB vZ))
   .lk
   .lk
   .exact λ_=>rfl
   .intro a ma;let{kd,mk,ek}:=oa.mp (hN a ma);let{_,e}:=things (C:=z0) (hs:=CZ K) W mk (vZ:=vZ) (by lia);rw[ek]at e;lk
   .lia
  lk
 apply O5 (p:=λi:tQ=>T.tS (i:tQ)) (xs:=tH.vq (cmb [[]] R).fg) (D:=λi=>MU (wl ((cmb [[]] R).uZ i [])) (wr ((cmb [[]] R).uZ i []))) (r:=λi=>.t (D6 (N.tJ (·.1)) ((cmb [[]] R).uZ i []))) (I:=λfs=>∃y8 y9,fs=[vl (prT cP z0 K G),vl (.uj [.uj (N.tJ pnT),E,E']),iv (vZ:tN),iv (n:tN),vl (.uj (N.tJ pnT)),vl E,vl E',vl (.tY (R.tJ thL)),y8,y9]/\vC y8/\vC y9)
 .lk
  .exact rfl
  .lia
 .exact{none,none,rfl,Ao,Ao}
 .intro i mi fs {y8,y9,rfl,f8,f9}
  have hi:=oR.mp mi;have es:(cmb [[]] R)[i]?=p' ((cmb [[]] R).uZ i []):=by rw[tH.getD_eq_getElem?_getD,nX hi];rfl
  have ms:=pJ es;generalize hs:(cmb [[]] R).uZ i []=s at es ms;have pk:=VZ _ R rfl i s es;let{_,_,ep,rfl}:=Pm h1 (by lia) (by lia) pk;rw[tH.reverse_reverse]at ep;have ls:s.fg=N.fg:=by rw[E2 _ R rfl s ms];exact lR
  let{_,ed}:=sides (rl s ms) (rr s ms);refine{_,tg rfl f8,?_};refine(?_:vL _ (Ak _ _ [vl (prT cP z0 K G),vl (.uj [.uj (N.tJ pnT),E,E']),iv (vZ:tN),iv (n:tN),vl (.uj (N.tJ pnT)),vl E,vl E',vl (.tY (R.tJ thL)),iv ((i:tQ):tN),y9]));apply AN (ae:=[vl (prT cP z0 K G),vl (.uj [.uj (N.tJ pnT),E,E']),iv (vZ:tN),iv (n:tN),vl (.uj (N.tJ pnT)),vl E,vl E',vl (.tY (R.tJ thL)),iv ((i:tQ):tN),vl (D6 (N.tJ (·.1)) s)])
  .lk
   .apply E3 (p1:=λq=>.str q.1) (p2:=λq=>.str q.2) (q:=λq=>.str q.1)
    .lk
    .lk
    .exact λ_=>rfl
    .intro a ma;lk
    .lia
   lk
   .rw[show(N.tJ λq=>T.str q.1)=(N.tJ (·.1)).tJ T.str by rw[oj];rfl];rfl
   .rfl
   .exact nd
   .rw[nU,nU];exact ls.symm
   lk
  lk
  .exact JaN (by assumption)
  .exact λd=>q_nx (JaT d {_,_,rfl,Al,Al})
 .intro e fs {y8,y9,rfl,f8,f9}
  rw[HI (d:=[]),e];lk
 .rintro i e τ
  rw[HI (d:=[]),e];exact WV uQ.intro rfl
end
section
unseal Sat Dm Rr Src Ak Av ifS retS Au Bv G8 Ag Aa gc fz Ac Ab Ae Ad Af An AA Bd Dg AW asB Ep Ge E8 orT tgN AM Aj AL itU itZ itD G6 CM slF chain Dz gEq Aw Dh B5 EU Dw AG BH fzR HV GN CK Ez Ba Ck GJ dput2 Gk fzD Ky Az BC BQ MG Fo
section
variable{K:Kd}
def Q2{α:Type}{m:tQ}:∀(k:tQ)(rs:tH (tH α)),rs.fg=k->(∀r∈rs,r.fg<=m)->(cmb [[]] rs).fg<=m^k
 |0,rs,e,_=>by cases pL.mp e;exact oh _
 |k+1,rs,e,h=>by
  obtain⟨rs',row,rfl⟩:∃rs' row,rs=rs'++[row]:={rs.vf,rs.getLast (by intro h;rw[h]at e;simp at e),(oH _).symm}
  have ih:=Q2 k rs' (by simpa using e) λr m=>h r (ph _ m)
  have hr:=h row (by simp);rw[C6,tH.length_flatMap];simp![nU];rw[DG,tQ.pow_succ];exact tQ.mul_le_mul ih hr
def JaI(vZ:tQ):∀(k:tQ)(N:tH (tO×tO)),N.fg=k->∃R:tH (tH Th),N.tJ (λq=>T.tY ((cat K q.2 7).uB vZ))=R.tJ thL/\(∀r∈R,r.fg<=vZ)/\∀s∈cmb [[]] R,Tks K s (N.tJ (·.2))/\∀h∈s,h.sz<=7/\h.dp<=7
 |0,N,e=>by cases pL.mp e;refine{[],rfl,(λ_ m=>nomatch m),λs m=>?_};cases oF.mp m;exact{uQ.intro,λ_ m=>nomatch m}
 |k+1,N,e=>by
  obtain⟨N',q,rfl⟩:∃N' q,N=N'++[q]:={N.vf,N.getLast (by intro h;rw[h]at e;simp at e),(oH _).symm}
  let{R,e1,e2,e3}:=JaI vZ k N' (by simpa using e);let{hs,h1,h2,h3}:=ths (K:=K) (vZ:=vZ) q.2;refine{R++[hs],by rw[nW,nW,e1,nV,nV,<- h1];rfl,λr m=>?_,λs m=>?_}
  .rcases oS.mp m with m|m
   .exact e2 r m
   .cases oF.mp m;exact h2
  .rw[C6]at m;let{s',m',m}:=pe.mp m;let{h,mh,rfl}:=oa.mp m;let{t1,t2}:=e3 s' m';let{t3,t4}:=h3 h mh;refine{by rw[nW];exact t1.app {t3,uQ.intro},λx mx=>?_};rcases oS.mp mx with mx|mx
   .exact t2 x mx
   .cases oF.mp mx;exact t4
end
section
variable{K:Kd}{nn:List Str}{G:List Fx}{cP cR z0:Addr}
def Wo :tL (Th×tQ)->T
 |none=>.vG
 |p' p=>p.1.t
def JaE(X:Gx K nn G){xs ks:tH tO}{hs:tH Th}{e:Ex}{k:tO}{n:tQ}(nd:xs.uA)(lx:xs.fg<=10)(lh:xs.fg=hs.fg)(hT:Tks K hs ks)(hz:∀h∈hs,h.sz<=7/\h.dp<=7)(xe:Xk K (hdL (G.tJ Fx.hd)) xs ks e k)(se:e.sz<=esz 3)(de:e.dp<=7)(hn:n<=100):Oe cP cR (Gx.P cP z0 K G) (D6 xs hs) e.t n (Wo (wW (rwG G) 20 xs hs e n)):=by
 have m1:(xs.zip hs).tJ (·.1)=xs:=tH.map_fst_zip (by lia);have m2:(xs.zip hs).tJ (·.2)=hs:=tH.map_snd_zip (by lia);have gz:∀h∈hs,Ft h:=λh m=>{by have:=(hz h m).1;lia,by have:=(hz h m).2;lia}
 have M:=λa b=>mW (c:=rc cP cR (Gx.P cP z0 K G) xs hs e a b) X.pg (X.prow rfl rfl) 20 1 rfl xs hs ks e n k hT gz xe (by lia)
 have es:esz 3=836:=rfl;have b1:esz 3*n<=836*100:=by rw[es];lia
 have z9:∀p∈xs.zip hs,p.2.sz<=900:=λp m=>by have:=(hz p.2 (qo m).2).1;lia
 cases ew:wW (rwG G) 20 xs hs e n with|none =>rw[ew]at M;let{τ,h}:=JaG (cP:=cP) (cR:=cR) (P:=Gx.P cP z0 K G) (e:=e) (n:=n) (ps:=xs.zip hs) (by rw[m1];exact nd) (by rw[qr];lia) z9 (by rw[m1,m2];exact λa b=>by let{j,q,l}:=M a b;exact{j,by lia,q});rw[m1,m2]at h;exact .no τ h|p' p =>let{v,n'}:=p;rw[ew]at M;let{_,fv,_}:=M 0 0;let{τ,h}:=JaF (cP:=cP) (cR:=cR) (P:=Gx.P cP z0 K G) (e:=e) (n:=n) (v:=v) (ps:=xs.zip hs) (by rw[m1];exact nd) (by rw[qr];lia) z9 (by rw[m1,m2];exact λa b=>by let{_,_,_,j,q,l}:=M a b;exact{j,n',by lia,q});rw[m1,m2]at h;exact .ok v τ (by have:=fv.2;lia) h
end
def MP{bE:tH T}{dq:tH vc}:∀{ks:tH vc}{ts:tH T},(∀(i:tQ) k t,ks[i]?=p' k->ts[i]?=p' t->BB dq bE k=p' t)->(∀t∈ts,eqT 60 t t=p' true)->eqD dq bE ks ts=p' true
 | [],_,_,_=>by unfold eqD;rfl
 |_::_,[],_,_=>by unfold eqD;rfl
 |k::ks,t::ts,h,h2=>by unfold eqD;rw[h 0 k t rfl rfl];simp!;rw[h2 t n5,oM,MP (λi k t a b=>h (i+1) k t (by simpa using a) (by simpa using b)) λt m=>h2 t (n4 _ m)];rfl
def Ub{xs:tH tO}{s:tH Th}{fs:FS}(nd:xs.uA)(hl:xs.fg=s.fg)(hd:∀h∈s,h.dp<=7):gEqV false (.t (D6 xs s)) (.t (dS xs s)) fs=.ok (.t (.l true)) fs:=by
 have m1:(xs.zip s).tJ (·.1)=xs:=tH.map_fst_zip (by lia);have m2:(xs.zip s).tJ (·.2)=s:=tH.map_snd_zip (by lia);have k1:(xs.tJ λx=>(.uK x:vc))=(xs.zip s).tJ λq=>(.uK q.1:vc):=(uC (tH.tJ λx=>(.uK x:vc)) m1.symm).trans (oj ..)
 have k2:s.tJ Th.t=(xs.zip s).tJ λq=>q.2.t:=(uC (tH.tJ Th.t) m2.symm).trans (oj ..)
 have hn:((xs.zip s).tJ λq=>(.uK q.1:vc)).uA:=by rw[<- k1];exact B1 nd
 have e:eqD (xs.tJ λx=>(.uK x:vc)) (s.tJ Th.t) (xs.tJ λx=>(.uK x:vc)) (s.tJ Th.t)=p' true:=by
  refine MP (λi k t a b=>?_) λt m=>?_
  .rw[k1,oq,n8]at a;rw[k2,oq,n8]at b;let{q,a,rfl}:=a;let{q',b,rfl}:=b;rw[a]at b;cases b;rw[k1,k2];exact BZ (f:=λq:tO×Th=>(.uK q.1:vc)) (g:=λq=>q.2.t) (pJ a) hn
  .let{h,mh,rfl}:=oa.mp m;exact eq_th 60 h (by have:=hd h mh;lia)
 have e2:gEqD false (.t (D6 xs s)) (.t (dS xs s)) fs=.ok (.t (.l true)) fs:=by unfold gEqD dS;simp![Hc,e];simp[okT]
 with_unfolding_all exact e2
def Jb2{xs:tH tO}{s:tH Th}{fs:FS}:Od false (.t (dS xs s)) (.t .vG) fs=.ok (.t (.l false)) fs:=by unfold dS;rfl
def JbA{fs:FS}:nxS fs=.nx fs:=rfl
end
def lawE (cP cR z0:tV):FS->SO :=
  (Ak (Av 14 (Ag AG (gc (.tS 1)) (Ag B5 (Ag EU (fz (Ad (Af 2 Ay) (Ac (fz (Aa 0)) (Ac (gc (.tS 7)) Ae)))) (gc (.tS 2))) (Ag Aw (An BC (Ab (gc (.tS 4)) (Ab (gc (.tS 12)) (Ab (gc (.tS 4)) (Ab (gc (.tS 2)) Ae))))) (fz (Aa 6))))))
  (Ak (Av 15 (Ag B5 (Ag EU (fz (Ad (Af 2 Ay) (Ac (fz (Aa 0)) (Ac (gc (.tS 6)) Ae)))) (gc (.tS 4))) (gc (.tS 21))))
  (Ak (Av 16 (AW false [none,none,p' 4,p' 14] (itU (fz (Aa 8))) (AM 2 (Aj (wd 0) (Aj (wd 1) AL))) CG (fz (Ad (Af 3 (EB z0)) (Ac (fz (Aa 2)) (Ac (fz (Aa 1)) (Ac (fz (Aa 3)) Ae)))))))
  (Ak (Av 17 (fz (Ad (Af 6 (f_Ldue cP cR)) (Ac (fz (Aa 5)) (Ac (fz (Aa 7)) (Ac (fz (Aa 16)) (Ac (fz (Aa 12)) (Ac (fz (Aa 13)) (Ac (fz (Aa 15)) Ae)))))))))
  (Ak (Av 18 (fz (Ad (Af 4 (f_against cP cR z0)) (Ac (fz (Aa 5)) (Ac (An Az (Ab (Ad BK (Ab (Aa 8) Ae)) (Ab (fz (Aa 12)) (Ab (fz (Aa 13)) Ae)))) (Ac (fz (Aa 14)) (Ac (fz (Aa 15)) Ae)))))))
  (Ak (wQ (wk (Ag (Od false) (Aa 17) (gc .vG))) (vV (Ag (Od false) (Aa 18) (gc .vG))) nxS)
  (vV (andV (isD (Aa 18)) (Ag (gEqV false) (Aa 18) (Aa 17))))))))))
section
variable{K:Kd}{nn:List Str}{G:List Fx}{cP cR z0:Addr}{p1 p2 p3 p9 dC dY:Option Sl}
def XT{c:tN}{m:tQ}(hm:m<=3):∃b o:tQ,atI [T.tS 4,T.tS 12,T.tS 4,T.tS 2] (m:tN)=p' (.tS (b:tN))/\(0<(b:tN)/\(b:tN)<1073741824)/\1+c%(b:tN)=(o:tN)/\o<=12/\(m=2->o<=4)/\(m=3->o<=2):=by
 rcases(show m=0\/m=1\/m=2\/m=3 by lia)with rfl|rfl|rfl|rfl
 .have a1:=oU c (show(4:tN)≠0 by decide);have a2:=oN c (show(0:tN)<4 by decide);exact{4,(1+c%4).uw,rfl,ZB,by lia,by lia,by lia,by lia}
 .have a1:=oU c (show(12:tN)≠0 by decide);have a2:=oN c (show(0:tN)<12 by decide);exact{12,(1+c%12).uw,rfl,ZB,by lia,by lia,by lia,by lia}
 .have a1:=oU c (show(4:tN)≠0 by decide);have a2:=oN c (show(0:tN)<4 by decide);exact{4,(1+c%4).uw,rfl,ZB,by lia,by lia,by lia,by lia}
 .have a1:=oU c (show(2:tN)≠0 by decide);have a2:=oN c (show(0:tN)<2 by decide);exact{2,(1+c%2).uw,rfl,ZB,by lia,by lia,by lia,by lia}
def few{α:Type}{m o:tQ}{R:tH (tH α)}(hm:R.fg=m)(h3:m<=3)(ho:o<=12)(h2:m=2->o<=4)(h4:m=3->o<=2)(hR:∀r∈R,r.fg<=o):∀D S,D++S=R->(cmb [[]] D).fg<=900:=λD S e=>by
 have h:=Q2 (m:=o) D.fg D rfl λr mr=>hR r (e▸ph _ mr)
 have l:D.fg<=m:=by rw[<- hm,<- e,n9];lia
 refine oo h ?_;rcases(show D.fg=0\/D.fg=1\/D.fg=2\/D.fg=3 by lia)with q|q|q|q<;>rw[q]
 .rw[tQ.pow_zero];decide
 .rw[tQ.pow_one];lia
 .have:o^2<=12^2:=tQ.pow_le_pow_left ho 2
  lia
 .have:o^3<=2^3:=tQ.pow_le_pow_left (h4 (by lia)) 3
  lia
def La(X:Gx K nn G){ns:tH tN}{N:tH (tO×tO)}{e1 e2:Ex}{k:tO}(nd:(N.tJ (·.1)).uA)(lN:N.fg<=3)(hN:∀q∈N,q.2∈K.tJ (·.1))(x1:Xk K (hdL (G.tJ Fx.hd)) (N.tJ (·.1)) (N.tJ (·.2)) e1 k)(x2:Xk K (hdL (G.tJ Fx.hd)) (N.tJ (·.1)) (N.tJ (·.2)) e2 k)(s1:e1.sz<=esz 3)(s2:e2.sz<=esz 3)(d1:e1.dp<=7)(d2:e2.dp<=7)(ba:∀i,t6.tN.vh (ns.uZ i 0)<=2^20):
  vL (Rr λx=>x=.t (.l true)) (lawE cP cR z0 [vl (.n (ns.tJ T.tS)),p1,p2,p3,vl (stT z0 K),vl (Gx.P cP z0 K G),iv (N.fg:tQ),vl (.tY ((N.tJ (·.1)).tJ T.str)),vl (.tY (N.tJ pnT)),p9,dC,dY,vl e1.t,vl e2.t,none,none,none,none,none]):=by
 let{_,m4}:=BP ns 7;let{_,ir}:=BP ns 6;let{b,o,ib,hb,eo,lY,o4,o2}:=XT (c:=ns.uZ 7 0/2) lN;let{R,eR,lR,tR}:=JaI (K:=K) o N.fg N rfl;have a1:=oU (ns.uZ 6 0/4) (show(21:tN)≠0 by decide);have a2:=oN (ns.uZ 6 0/4) (show(0:tN)<21 by decide);obtain⟨n,en,hn⟩:∃n:tQ,ns.uZ 6 0/4%21=(n:tN)/\n<=100:={(ns.uZ 6 0/4%21).uw,by lia,by lia}
 have rl:N.fg=R.fg:=by have:=uC tH.fg eR;rwa[nU,nU]at this
 have hf:=few (R:=R) rl.symm lN lY o4 o2 lR;have W1:=λs ms=>JaE (cP:=cP) (cR:=cR) (z0:=z0) X (xs:=N.tJ (·.1)) (hs:=s) nd (by rw[nU];lia) (by rw[nU,E2 _ R rfl s ms];exact rl) (tR s ms).1 (tR s ms).2 x1 s1 d1 hn
 have W2:=λs ms=>JaE (cP:=cP) (cR:=cR) (z0:=z0) X (xs:=N.tJ (·.1)) (hs:=s) nd (by rw[nU];lia) (by rw[nU,E2 _ R rfl s ms];exact rl) (tR s ms).1 (tR s ms).2 x2 s2 d2 hn
 let{_,D}:=due (xs:=N.tJ (·.1)) (R:=R) nd (by rw[nU];exact rl) (by rw[nU];lia) hf W1 W2;let{_,A}:=N7 (z0:=z0) (vZ:=o) X.W nd (by lia) hN (by lia) eR (λr m=>by have:=lR r m;lia) (hf R [] (oJ _)) W1 W2;unfold lawE;apply AN (ae:=[vl (.n (ns.tJ T.tS)),p1,p2,p3,vl (stT z0 K),vl (Gx.P cP z0 K G),iv (N.fg:tQ),vl (.tY ((N.tJ (·.1)).tJ T.str)),vl (.tY (N.tJ pnT)),p9,dC,dY,vl e1.t,vl e2.t,iv (o:tN),none,none,none,none])
 .rw[<- eo];lk
 apply AN (ae:=[vl (.n (ns.tJ T.tS)),p1,p2,p3,vl (stT z0 K),vl (Gx.P cP z0 K G),iv (N.fg:tQ),vl (.tY ((N.tJ (·.1)).tJ T.str)),vl (.tY (N.tJ pnT)),p9,dC,dY,vl e1.t,vl e2.t,iv (o:tN),iv (n:tN),none,none,none])
 .rw[<- en];lk
 apply AN (ae:=[vl (.n (ns.tJ T.tS)),p1,p2,p3,vl (stT z0 K),vl (Gx.P cP z0 K G),iv (N.fg:tQ),vl (.tY ((N.tJ (·.1)).tJ T.str)),vl (.tY (N.tJ pnT)),p9,dC,dY,vl e1.t,vl e2.t,iv (o:tN),iv (n:tN),vl (.tY (R.tJ thL)),none,none])
 .rw[<- eR];lk
  .apply E3 (p1:=λq=>.str q.1) (p2:=λq=>.str q.2) (q:=λq=>T.tY ((cat K q.2 7).uB o))
   .lk
   .lk
   .exact λ_=>rfl
   .intro a ma;let{kd,mk,ek}:=oa.mp (hN a ma);let{_,e}:=things (C:=z0) (hs:=CZ K) X.W mk (vZ:=o) (by lia);rw[ek]at e;lk
   .lia
  lk
 generalize hr:(cmb [[]] R).find? (λs=>MU (Wo (wW (rwG G) 20 (N.tJ (·.1)) s e1 n)) (Wo (wW (rwG G) 20 (N.tJ (·.1)) s e2 n)))=r at D A;apply AN (ae:=[vl (.n (ns.tJ T.tS)),p1,p2,p3,vl (stT z0 K),vl (Gx.P cP z0 K G),iv (N.fg:tQ),vl (.tY ((N.tJ (·.1)).tJ T.str)),vl (.tY (N.tJ pnT)),p9,dC,dY,vl e1.t,vl e2.t,iv (o:tN),iv (n:tN),vl (.tY (R.tJ thL)),vl (r.tU .vG (dS (N.tJ (·.1)))),none])
 .lk
 apply AN (ae:=[vl (.n (ns.tJ T.tS)),p1,p2,p3,vl (stT z0 K),vl (Gx.P cP z0 K G),iv (N.fg:tQ),vl (.tY ((N.tJ (·.1)).tJ T.str)),vl (.tY (N.tJ pnT)),p9,dC,dY,vl e1.t,vl e2.t,iv (o:tN),iv (n:tN),vl (.tY (R.tJ thL)),vl (r.tU .vG (dS (N.tJ (·.1)))),vl (r.tU .vG (D6 (N.tJ (·.1))))])
 .lk
 cases r with
 |none =>trivial
 |p' s =>
  have ms:=pQ hr;have eq:=Ub (fs:=[vl (.n (ns.tJ T.tS)),p1,p2,p3,vl (stT z0 K),vl (Gx.P cP z0 K G),iv (N.fg:tQ),vl (.tY ((N.tJ (·.1)).tJ T.str)),vl (.tY (N.tJ pnT)),p9,dC,dY,vl e1.t,vl e2.t,iv (o:tN),iv (n:tN),vl (.tY (R.tJ thL)),vl (dS (N.tJ (·.1)) s),vl (D6 (N.tJ (·.1)) s)]) nd (by rw[nU,E2 _ R rfl s ms];exact rl) λh m=>((tR s ms).2 h m).2
  refine(?_:vL _ (Ak _ _ [vl (.n (ns.tJ T.tS)),p1,p2,p3,vl (stT z0 K),vl (Gx.P cP z0 K G),iv (N.fg:tQ),vl (.tY ((N.tJ (·.1)).tJ T.str)),vl (.tY (N.tJ pnT)),p9,dC,dY,vl e1.t,vl e2.t,iv (o:tN),iv (n:tN),vl (.tY (R.tJ thL)),vl (dS (N.tJ (·.1)) s),vl (D6 (N.tJ (·.1)) s)]));refine JA (b:=false) (De (Ar (Ah rfl) Be Jb2)) (λz=>nomatch z) λ_=>?_
  refine AN JbA ?_;exact Sm (andV_t (x_isD (b:=true) (Ah rfl)) (Ar (Ah rfl) (Ah rfl) eq)) (WV uQ.intro rfl)
end
section
unseal Sat Dm Rr Src Ak Av ifS retS Au Bv G8 Ag Aa gc fz Ac Ab Ae Ad Af An AA Bd Dg AW asB Ep Ge E8 orT tgN AM Aj AL itU itZ itD G6 CM slF chain Dz gEq Aw Dh B5 EU Dw AG BH fzR HV GN CK Ez Ba Ck GJ dput2 Gk fzD Ky Az BC BQ MG Fo
def pow60{fs:FS}:Ag ZI (gc (.tS 10)) (gc (.tS 60)) fs=.ok (.t (.tS (10^60))) fs:=Ar Be Be (by rfl)
def pow18{fs:FS}:Ag ZI (gc (.tS 10)) (gc (.tS 18)) fs=.ok (.t (.tS (10^18))) fs:=Ar Be Be (by rfl)
def JbG{ns:tH tN}(hb:B6 ns<=2^20){a:tQ}(ha:a<=100):∃(v:tN)(τ:FS),FY [vl (.n (ns.tJ T.tS)),iv (a:tN),iv 4]=.ok (.t (.tS v)) τ:=by
 obtain⟨j,j0,j1,jn,ej⟩:∃j:tN,0<=j/\j<=63/\j<=ns.fg/\Ad ET (Ab (Ad AI (Ab (Aa 0) Ae)) (Ab (gc (.tS 63)) Ae)) [vl (.n (ns.tJ T.tS)),iv (a:tN),iv 4,none,none]=.ok (.t (.tS j)) [vl (.n (ns.tJ T.tS)),iv (a:tN),iv 4,none,none]:=by
  refine{if(63:tN)<(ns.tJ T.tS).fg then 63 else(ns.tJ T.tS).fg,?_,?_,?_,?_}
  .split<;>lia
  .split<;>lia
  .simp;split<;>lia
  .exact ZY (AV (Z1 (Ah rfl) (.uK (.uK rfl))) (AV Be A5))
 let{n,n1,hn,er}:=O1 (ga:=Ab (Aa 1) (Ab (Ad ET (Ab (Ad AI (Ab (Aa 0) Ae)) (Ab (gc (.tS 63)) Ae))) (Ab (Aa 2) Ae))) (fs:=[vl (.n (ns.tJ T.tS)),iv (a:tN),iv 4,none,none]) (AV (Ah rfl) (AV ej (AV (Ah rfl) A5))) (by lia) (by lia) j0 j1 ZB ZB;obtain⟨c,hc⟩:∃c,c=((tH.vq n).tJ λk=>ns.uZ ((a:tN)+(k:tQ)*4).uw 0).sum:={_,rfl}
 have es:Ad Oc (Ab (AW false [none,p' 0] (Yd (Ab (Aa 1) (Ab (Ad ET (Ab (Ad AI (Ab (Aa 0) Ae)) (Ab (gc (.tS 63)) Ae))) (Ab (Aa 2) Ae)))) (wd 0) CG (Ag Aw (Aa 1) (fz (Aa 0)))) Ae) [vl (.n (ns.tJ T.tS)),iv (a:tN),iv 4,none,none]=.ok (.t (.tS c)) [vl (.n (ns.tJ T.tS)),iv (a:tN),iv 4,none,none]:=by
  rw[hc];refine LB (LC er ?_ (DH (q:=λk=>T.tS (ns.uZ ((a:tN)+(k:tQ)*4).uw 0)) Ao (λk mk=>?_) (by simp;lia))) rfl
  .exact{rfl,by rfl}
  .have:=hn k (oR.mp mk);exact Ar (Ah rfl) (AS (Ah rfl)) (Wf (.uW rfl) {by lia,by lia})
 have bc:t6.tN.vh c<=2^20+7:=by
  rw[E5,hc];have:=M0 ((tH.vq n).tJ λk=>ns.uZ ((a:tN)+(k:tQ)*4).uw 0) (n:=2^20) λz mz=>by let{k,_,rfl}:=oa.mp mz;exact M1 hb _
  rw[nU,px]at this;refine tQ.lt_of_le_of_lt this ?_;rw[tQ.pow_add];have p0:0<2^2^20:=tQ.pow_pos ZB;generalize 2^2^20=p at p0
  calc n*p<=63*p:=pE _ n1
   _<p*2^7:=by lia
 have s1:Av 3 (Ad Oc (Ab (AW false [none,p' 0] (Yd (Ab (Aa 1) (Ab (Ad ET (Ab (Ad AI (Ab (Aa 0) Ae)) (Ab (gc (.tS 63)) Ae))) (Ab (Aa 2) Ae)))) (wd 0) CG (Ag Aw (Aa 1) (fz (Aa 0)))) Ae)) [vl (.n (ns.tJ T.tS)),iv (a:tN),iv 4,none,none]=.nx [vl (.n (ns.tJ T.tS)),iv (a:tN),iv 4,iv c,none]:=CU es (Bp rfl Ao);have c1:wk (Ag (gEq false) (Ag B5 (Aa 3) (gc (.tS 2))) (gc (.tS 0))) [vl (.n (ns.tJ T.tS)),iv (a:tN),iv 4,iv c,none]=.ok (decide (c%2=0)) [vl (.n (ns.tJ T.tS)),iv (a:tN),iv 4,iv c,none]:=QO (Ar (Ah rfl) Be (HF ZB)) Be;have jW:(2:tQ)^20+7<=2^26:=by decide
 have m1:Ag BH (Aa 3) (Aa 3) [vl (.n (ns.tJ T.tS)),iv (a:tN),iv 4,iv c,none]=.ok (.t (.tS (c*c))) [vl (.n (ns.tJ T.tS)),iv (a:tN),iv 4,iv c,none]:=Ar (Ah rfl) (Ah rfl) (GG {oo bc jW,oo bc jW});obtain⟨g,hg⟩:∃g,g=c*c+c+(a:tN)+1:={_,rfl}
 have bg:t6.tN.vh g<=2^22:=by have b1:=bits_mul bc bc;have b2:=bits_add b1 (oo bc (tQ.le_add_left ..));have b3:=bits_add b2 (y:=(a:tN)) (CP (by rw[tN.natAbs_natCast];exact tQ.lt_of_le_of_lt ha (oA (show 100<2^7 by decide) (tQ.pow_le_pow_right ZB (by lia)))));have b4:=bits_add b3 (y:=1) (CP (oA (show(1:tN).natAbs<2^7 by decide) (tQ.pow_le_pow_right ZB (by lia))));rw[hg];exact oo b4 ZB
 have e1:Ag AG (Ag AG (Ag AG (Ag BH (Aa 3) (Aa 3)) (Aa 3)) (Aa 1)) (gc (.tS 1)) [vl (.n (ns.tJ T.tS)),iv (a:tN),iv 4,iv c,none]=.ok (.t (.tS g)) [vl (.n (ns.tJ T.tS)),iv (a:tN),iv 4,iv c,none]:=by rw[hg];exact Ar (Ar (Ar m1 (Ah rfl) C0) (Ah rfl) C0) Be C0
 obtain⟨f,hf⟩:∃f,f=g*982451653:={_,rfl}
 have bk:t6.tN.vh 982451653<=30:=CP ZB;have bf:t6.tN.vh f<=2^23:=by rw[hf];exact oo (bits_mul bg bk) ZB
 have s2:Av 4 (Ag BH (Ag AG (Ag AG (Ag AG (Ag BH (Aa 3) (Aa 3)) (Aa 3)) (Aa 1)) (gc (.tS 1))) (gc (.tS 982451653))) [vl (.n (ns.tJ T.tS)),iv (a:tN),iv 4,iv c,none]=.nx [vl (.n (ns.tJ T.tS)),iv (a:tN),iv 4,iv c,iv f]:=by rw[hf];exact CU (Ar e1 Be (GG {oo bg ZB,oo bk ZB})) (Bp rfl Ao)
 by_cases h:c%2=0
 .rw[oV h]at c1;exact{_,_,CJ (sq s1 (CV (S9 c1 (A8 (Ar (Ar (Ah rfl) Be (QC ZB)) pow60 (HF ZB))))))}
 .rw[oK h]at c1;have m2:Ag BH (Aa 4) (Aa 4) [vl (.n (ns.tJ T.tS)),iv (a:tN),iv 4,iv c,iv f]=.ok (.t (.tS (f*f))) [vl (.n (ns.tJ T.tS)),iv (a:tN),iv 4,iv c,iv f]:=Ar (Ah rfl) (Ah rfl) (GG {oo bf ZB,oo bf ZB});have q1:=oU (f*f) (show(10^18+9:tN)≠0 by decide);have q2:=oN (f*f) (show(0:tN)<10^18+9 by decide);have r1:=oU f (show(2147483629:tN)≠0 by decide);have r2:=oN f (show(0:tN)<2147483629 by decide);have t1:t6.tN.vh (f*f%(10^18+9))<=2^26:=oo (CP (n:=64) (by lia)) ZB;have t2:t6.tN.vh (f%2147483629+7)<=2^26:=oo (CP (n:=64) (by lia)) ZB;exact{_,_,CJ (sq s1 (sq (Iz c1 rfl) (sq s2 (A8 (Ar (Ar m2 (Ar pow18 Be C0) (HF ZB)) (Ar (Ar (Ah rfl) Be (HF ZB)) Be C0) (GG {t1,t2}))))))}
def x_nE{Fn:tm}{ga:tq}{fs ae τ:FS}{a1 a2 a3 a4 a5 a7 t:T}{o:FO}(h0:ga fs=.ok [.t a1,.t a2,.t a3,.t a4,.t a5,.nw o,.t a7] ae)(hf:Fn [vl a1,vl a2,vl a3,vl a4,vl a5,p' (.u7 o),vl a7]=.ok (.t t) τ):Ad (Af 7 Fn) ga fs=.ok (.t t) ae:=DU h0 rfl (by rw[show Cd ae _=[]from rfl];exact oY) hf (AQ rfl)
end
seal lawE
def lawW (cP cR z0:tV):FS->SO :=
  (Ak (wQ (wk (Ag (gEq false) (Aa 11) (gc (.tS 1)))) (Ak (Av 12 (An Az (Ab (gc (.str ("name":tO))) (Ab (Ag Aw (Aa 7) (gc (.tS 0))) Ae))))
  (Av 13 (An Az (Ab (gc (.str ("name":tO))) (Ab (Ag Aw (Aa 7) (XJ (gc (.tS 1)))) Ae))))) nxS)
  (Ak (wQ (wk (Ag (gEq false) (Aa 11) (gc (.tS 2)))) (Av 13 (An Az (Ab (gc (.str ("name":tO))) (Ab (Ag Aw (Aa 7) (Ag B5 (Ag EU (fz (Ad (Af 2 Ay) (Ac (fz (Aa 0)) (Ac (gc (.tS 6)) Ae)))) (gc (.tS 12))) (Aa 6))) Ae)))) nxS)
  (lawE cP cR z0)))
seal lawW
def lawM (cP cR z0:tV):FS->SO :=
  (Ak (Av 12 (fz (Ad (Af 7 (AU 4)) (Ac (fz (Aa 2)) (Ac (fz (Aa 8)) (Ac (fz (Aa 9)) (Ac (An Az (Ab (gc (.str ("":tO))) (Ab (An Az Ae) (Ab (gc (.str ("":tO))) (Ab (An BC Ae) Ae))))) (Ac (fz (Aa 10)) (Ac (Ad (Af 3 BO) (Ac (fz (Aa 0)) (Ac (gc (.tS 5)) (Ac (gc (.tS 6)) Ae)))) (Ac (gc (.tS 2)) Ae))))))))))
  (Ak (Av 13 (fz (Aa 12)))
  (Ak (wQ (wk (Ag gGt (Ag B5 (fz (Ad (Af 2 Ay) (Ac (fz (Aa 0)) (Ac (gc (.tS 6)) Ae)))) (gc (.tS 4))) (gc (.tS 0)))) (Av 13 (fz (Ad (Af 7 (AU 4)) (Ac (fz (Aa 2)) (Ac (fz (Aa 8)) (Ac (fz (Aa 9)) (Ac (An Az (Ab (gc (.str ("":tO))) (Ab (An Az Ae) (Ab (gc (.str ("":tO))) (Ab (An BC Ae) Ae))))) (Ac (fz (Aa 10)) (Ac (Ad (Af 3 BO) (Ac (fz (Aa 0)) (Ac (gc (.tS 4)) (Ac (gc (.tS 6)) Ae)))) (Ac (gc (.tS 2)) Ae)))))))))) nxS)
  (lawW cP cR z0))))
def P5{N:tH (tO×tO)}(ne:N≠[]):∃q∈N,atI ((N.tJ (·.1)).tJ T.str) (-1)=p' (.str q.1):=by
 obtain⟨N',q,rfl⟩:∃N' q,N=N'++[q]:={N.vf,N.getLast ne,(oH _).symm}
 refine{q,by simp,?_};rw[nW,nW];exact Lx
def SY{N:tH (tO×tO)}(ne:N≠[])(c:tN):∃q∈N,atI ((N.tJ (·.1)).tJ T.str) (c%(N.fg:tQ))=p' (.str q.1):=by let{q,mq,h}:=GA ne (λq:tO×tO=>T.str q.1) c;rw[nU]at h;exact{q,mq,by rw[oj];exact h}
def S5{N:tH (tO×tO)}(nd:(N.tJ (·.1)).uA){q:tO×tO}(m:q∈N):lkp (N.tJ (·.1)) (N.tJ (·.2)) q.1=p' q.2:=by refine Gu nd ?_;rw[<- tH.zip_unzip N]at m;simpa[tH.unzip_eq_map]using m
section
variable{K:Kd}{nn:List Str}{G:List Fx}{cP cR z0:Addr}{p1 p3 p9 dC dY:Option Sl}
def JbN(X:Gx K nn G){ns:tH tN}{N:tH (tO×tO)}{e1 e2:Ex}{k:tO}{w:tQ}(hw:w=0\/N≠[]/\∀q∈N,q.2=k)(nd:(N.tJ (·.1)).uA)(lN:N.fg<=3)(hN:∀q∈N,q.2∈K.tJ (·.1))(x1:Xk K (hdL (G.tJ Fx.hd)) (N.tJ (·.1)) (N.tJ (·.2)) e1 k)(x2:Xk K (hdL (G.tJ Fx.hd)) (N.tJ (·.1)) (N.tJ (·.2)) e2 k)(s1:e1.sz<=esz 3)(s2:e2.sz<=esz 3)(d1:e1.dp<=7)(d2:e2.dp<=7)(ba:∀i,t6.tN.vh (ns.uZ i 0)<=2^20):
  vL (Rr λx=>x=.t (.l true)) (lawW cP cR z0 [vl (.n (ns.tJ T.tS)),p1,vl (tF K),p3,vl (stT z0 K),vl (Gx.P cP z0 K G),iv (N.fg:tQ),vl (.tY ((N.tJ (·.1)).tJ T.str)),vl (.tY (N.tJ pnT)),p9,dC,iv (w:tN),vl e1.t,vl e2.t,none,none,none,none,none]):=by
 let{_,ir}:=BP ns 6;unfold lawW;by_cases w1:w=1
 .subst w1;rcases hw with hw|⟨ne,hk⟩
  .cases hw
  let{ql,ml,il}:=P5 ne;let{q0,N',rfl}:=tH.exists_cons_of_ne_nil ne;lk
  .exact La X (e1:=.nm q0.1) (e2:=.nm ql.1) (k:=k) nd lN hN (by rw[Xk,<- hk q0 n5];exact S5 nd n5) (by rw[Xk,<- hk ql ml];exact S5 nd ml) (by rw[Ex.sz];decide) (by rw[Ex.sz];decide) (by rw[Ex.dp];decide) (by rw[Ex.dp];decide) ba
  .exact λh=>by simp at h
 by_cases w2:w=2
 .subst w2;rcases hw with hw|⟨ne,hk⟩
  .cases hw
  let{ql,ml,il}:=SY ne (ns.uZ 6 0/12);have l0:0<(N.fg:tN):=by have:=pw.wO ne;lia
  lk
  .exact La X (e2:=.nm ql.1) (k:=k) nd lN hN x1 (by rw[Xk,<- hk ql ml];exact S5 nd ml) s1 (by rw[Ex.sz];decide) d1 (by rw[Ex.dp];decide) ba
  .exact λh=>by simp at h
 have c1:((w:tN)=1)=vd:=by simp;lia
 have c2:((w:tN)=2)=vd:=by simp;lia
 lk;exact La X nd lN hN x1 x2 s1 s2 d1 d2 ba
def law_m(X:Gx K nn G){ns:tH tN}{N:tH (tO×tO)}{kd:tO×tH (tO×tH tO)}{w:tQ}(mk:kd∈K)(hw:w=0\/N≠[]/\∀q∈N,q.2=kd.1)(nd:(N.tJ (·.1)).uA)(lN:N.fg<=3)(hN:∀q∈N,q.2∈K.tJ (·.1))(ba:∀i,t6.tN.vh (ns.uZ i 0)<=2^20):
  vL (Rr λx=>x=.t (.l true)) (lawM cP cR z0 [vl (.n (ns.tJ T.tS)),p1,vl (tF K),p3,vl (stT z0 K),vl (Gx.P cP z0 K G),iv (N.fg:tQ),vl (.tY ((N.tJ (·.1)).tJ T.str)),vl (.tY (N.tJ pnT)),vl (.tY (G.tJ λg=>cT g.hd)),vl (.str kd.1),iv (w:tN),none,none,none,none,none,none,none]):=by
 let{_,ir}:=BP ns 6;let{d5,l5,_,kg}:=GK (ns:=ns) (.uW rfl) (a:=5) (b:=6) ZB ZB ZB ZB;let{d4,l4,_,m8}:=GK (ns:=ns) (.uW rfl) (a:=4) (b:=6) ZB ZB ZB ZB;have O:DrOk {K,N,G.tJ Fx.hd,.tY ((G.tJ Fx.hd).tJ cT),"",[],"",[]} (hdL (G.tJ Fx.hd)) (N.tJ (·.1)) (N.tJ (·.2)):=by
  refine{X.W,by show N.fg<=100;lia,by show(G.tJ Fx.hd).fg<=100;rw[nU];have:=X.l3;lia,by simp,.uW rfl,λp m=>S5 nd m,λc m=>?_,λh=>uD rfl h};have hn:((G.tJ Fx.hd).tJ (·.1)).uA:=by rw[oj];exact X.nd
  let{g,mg,rfl}:=oa.mp m;let{D,R,e}:=pC mg;have Og:=X.ok D g R e.symm;let{_,ks,_,dw,l2,_}:=Og.ex;exact{IA hn m,λe=>JbC (by have e:g.nm="":=e;rw[<- e];exact(X.nm g mg).1),by show g.ks.fg<=3;rw[dw];simp;lia,λq mq=>Og.ind q (ph _ mq)}
 let{_,nQ,t5,ni,u5,_,e1,rfl,x1,_,s1,z1}:=MR O 2 4 (by lia) kd mk d5 (by rw[l5];decide);let{_,nO,t4,nh,u4,_,e2,rfl,x2,_,s2,z2}:=MR O 2 4 (by lia) kd mk d4 (by rw[l4];decide);simp![Dr.known,Dr.uI]at t5 t4;rw[oj]at t5 t4;have q1:e1.sz<=esz 3:=oo s1 ZB;have q2:e2.sz<=esz 3:=oo s2 ZB;unfold lawM;apply AN (ae:=[vl (.n (ns.tJ T.tS)),p1,vl (tF K),p3,vl (stT z0 K),vl (Gx.P cP z0 K G),iv (N.fg:tQ),vl (.tY ((N.tJ (·.1)).tJ T.str)),vl (.tY (N.tJ pnT)),vl (.tY (G.tJ λg=>cT g.hd)),vl (.str kd.1),iv (w:tN),vl e1.t,none,none,none,none,none,none])
 .refine CU (AS (x_nE (o:=.tY (d5.tJ T.tS)) ?_ t5)) (Bp rfl Ao);lk
 apply AN (ae:=[vl (.n (ns.tJ T.tS)),p1,vl (tF K),p3,vl (stT z0 K),vl (Gx.P cP z0 K G),iv (N.fg:tQ),vl (.tY ((N.tJ (·.1)).tJ T.str)),vl (.tY (N.tJ pnT)),vl (.tY (G.tJ λg=>cT g.hd)),vl (.str kd.1),iv (w:tN),vl e1.t,vl e1.t,none,none,none,none,none])
 .lk
 apply JA
 .lk
 .intro _;apply AN (ae:=[vl (.n (ns.tJ T.tS)),p1,vl (tF K),p3,vl (stT z0 K),vl (Gx.P cP z0 K G),iv (N.fg:tQ),vl (.tY ((N.tJ (·.1)).tJ T.str)),vl (.tY (N.tJ pnT)),vl (.tY (G.tJ λg=>cT g.hd)),vl (.str kd.1),iv (w:tN),vl e1.t,vl e2.t,none,none,none,none,none])
  .refine CU (AS (x_nE (o:=.tY (d4.tJ T.tS)) ?_ t4)) (Bp rfl Al);lk
  exact JbN X hw nd lN hN x1 x2 q1 q2 (oo z1 ZB) (oo z2 ZB) ba
 .intro _;refine AN JbA ?_;exact JbN X hw nd lN hN x1 x1 q1 q1 (oo z1 ZB) (oo z1 ZB) ba
end
def good(cP cR zF z0:tV):∀ns:tH tN,ns.fg<=63->B6 ns<=2^20->∃fs,f_law cP cR zF z0 [p' (.vm (.n (ns.tJ T.tS)))]=.ok (.t (.l true)) fs:=by
 intro ns hlen hb;have ba:=λi=>M1 hb i
 let{K,{h1,h4,KO,hu},_,ek}:=JbP (ba 0) (ba 1);have W:=well h1 h4 KO hu;let{_,et}:=Jah W.nd (by lia);have hM:∀x∈mks K,x∈nms (ns.uZ 1 0) 12:=λx m=>by have:=(Io KO (by rw[BL];exact hu) K.fg (oh _)).1;rw[pP]at this;rw[this]at m;exact pI m
 have mT:=oU (ns.uZ 4 0) (show(2:tN)≠0 by decide);have mU:=oN (ns.uZ 4 0) (show(0:tN)<2 by decide);let{_,_,ef,G,rfl,gQ,g3,kF,kG,jr}:=GH W hM (ba 2) (ba 3) (cnt:=1+(ns.uZ 4 0%2).uw) (by lia) (by lia);have X:Gx K (nms (ns.uZ 3 0) 4) G:={W,BL _ _,Dq _ (by lia),λx m=>by let{i,rfl}:=EK m;exact DQ _ _,gQ,g3,kF,kG,jr}
 rw[show(((1+(ns.uZ 4 0%2).uw:tQ)):tN)=1+ns.uZ 4 0%2 by lia]at ef;let{_,si}:=KQ W;let{_,pi}:=JD W (.uW rfl) (by rw[nU];lia) (by simpa using gQ) X.fok;let{_,jV}:=JM (n:=3) (by lia) (ba 5);let{_,mY}:=BP ns 4;let{_,mZ}:=BP ns 5;let{_,ir}:=BP ns 6;rw[show(G.tJ λg=>g.fd.t)=(G.tJ Fx.fd).tJ Fd.t by rw[oj];rfl]at ef;obtain⟨m,em,m3⟩:∃m:tQ,ns.uZ 5 0/2%4=(m:tN)/\m<=3:=by have a1:=oU (ns.uZ 5 0/2) (show(4:tN)≠0 by decide);have a2:=oN (ns.uZ 5 0/2) (show(0:tN)<4 by decide);exact{(ns.uZ 5 0/2%4).uw,by lia,by lia}
 apply Cp;unfold b_law;apply AN
 .lk
 apply AN
 .lk
 apply AN
 .lk
 apply AN
 .lk
 apply AN
 .lk
  .exact fz_pr
  lk
 apply AN (ae:=[vl (.n (ns.tJ T.tS)),vl (.tY (K.tJ BM)),vl (tF K),vl (FTg G),vl (stT z0 K),vl (Gx.P cP z0 K G),iv (m:tN),none,none,none,none,none,none,none,none,none,none,none,none])
 .rw[<- em];lk
 obtain⟨c5,hc5⟩:∃c5,c5=ns.uZ 5 0:={_,rfl}
 rw[<- hc5]at jV;have iA:(nms c5 3).uB m=(tH.vq m).tJ (nmS c5):=by
  unfold nms;rw[<- tH.map_take,tH.take_range];congr 2
  lia
 have lW:((nms c5 3).uB m).uA:=(Dq c5 (by lia)).sublist (pF ..);have key:∀k:tQ,∃kd:tO×tH (tO×tH tO),k<=3->kd∈K/\∃v:tN,(∃τ,FY [vl (.n (ns.tJ T.tS)),iv (k:tN),vl (.tS 4)]=.ok (.t (.tS v)) τ)/\atI (K.tJ BM) (v/3%((K.tJ BM).fg:tN))=p' (BM kd):=λk=>by let{v,τ,e}:=JbG hb (a:=min k 3) (by lia);let{kd,mk,ix}:=GA (L:=K) (by intro h;rw[h]at h1;simp at h1) BM (v/3);exact{kd,λhk=>{mk,v,{τ,by rw[pT hk]at e;exact e},ix} }
 let{kk,eM}:=Classical.skolem.mp key;have gk:0<(K.tJ BM).fg:=by rw[nU];exact W.lo
 apply AN (ae:=[vl (.n (ns.tJ T.tS)),vl (.tY (K.tJ BM)),vl (tF K),vl (FTg G),vl (stT z0 K),vl (Gx.P cP z0 K G),iv (m:tN),vl (.tY (((nms c5 3).uB m).tJ T.str)),none,none,none,none,none,none,none,none,none,none,none])
 .rw[tH.map_take];rw[hc5]at jV ⊢;lk
  .rw[nU,BL];exact m3
  lk
 apply AN (ae:=[vl (.n (ns.tJ T.tS)),vl (.tY (K.tJ BM)),vl (tF K),vl (FTg G),vl (stT z0 K),vl (Gx.P cP z0 K G),iv (m:tN),vl (.tY (((nms c5 3).uB m).tJ T.str)),vl (.tY ((tH.vq m).tJ λk=>pnT (nmS c5 k,(kk k).1))),none,none,none,none,none,none,none,none,none,none])
 .lk
  .exact rfl
  .lia
  .lk
  .apply DH (q:=λk=>pnT (nmS c5 k,(kk k).1))
   .lk
   .intro k mk;have hk:=oR.mp mk;let{nI,v,{_,ev},ix}:=eM k (by lia);have nD:atI (((nms c5 3).uB m).tJ T.str) ((k:tQ):tN)=p' (.str (nmS c5 k)):=by rw[iA];exact A0 (by rw[oj,oq,pq hk];rfl)
    unfold BM at ix;lk
   .simp;lia
  lk
 apply AN (ae:=[vl (.n (ns.tJ T.tS)),vl (.tY (K.tJ BM)),vl (tF K),vl (FTg G),vl (stT z0 K),vl (Gx.P cP z0 K G),iv (m:tN),vl (.tY (((nms c5 3).uB m).tJ T.str)),vl (.tY ((tH.vq m).tJ λk=>pnT (nmS c5 k,(kk k).1))),vl (.tY (G.tJ λg=>cT g.hd)),none,none,none,none,none,none,none,none,none])
 .lk
  .rw[oj];apply DH
   .lk
   .intro g _;rw[Function.comp];lk;exact sl3
   .lia
  lk
 obtain⟨G0,gl,eG⟩:∃G0 gl,G=G0++[gl]:={G.vf,G.getLast gQ,(oH gQ).symm}
 have il:atI (G.tJ λg=>cT g.hd) (-1)=p' (cT gl.hd):=by rw[eG,nW];exact Lx
 have lS:gl∈G:=by rw[eG];simp
 obtain⟨kl,mkl,ekl⟩:∃kl∈K,kl.1=gl.k:=by let{D,R,e}:=pC lS;exact oa.mp ((jr D gl R e.symm).ind gl.k (by simp))
 apply AN (ae:=[vl (.n (ns.tJ T.tS)),vl (.tY (K.tJ BM)),vl (tF K),vl (FTg G),vl (stT z0 K),vl (Gx.P cP z0 K G),iv (m:tN),vl (.tY (((nms c5 3).uB m).tJ T.str)),vl (.tY ((tH.vq m).tJ λk=>pnT (nmS c5 k,(kk k).1))),vl (.tY (G.tJ λg=>cT g.hd)),vl (.str kl.1),none,none,none,none,none,none,none,none])
 .rw[ekl];lk
 apply AN
 .lk
 have aO:∀(w:tQ)(N:tH (tO×tO))(kd:tO×tH (tO×tH tO)),kd∈K->(w=0\/N≠[]/\∀q∈N,q.2=kd.1)->N.tJ (·.1)=(nms c5 3).uB m->(∀q∈N,q.2∈K.tJ (·.1))->vL (Rr λx=>x=.t (.l true)) (lawM cP cR z0 [vl (.n (ns.tJ T.tS)),vl (.tY (K.tJ BM)),vl (tF K),vl (FTg G),vl (stT z0 K),vl (Gx.P cP z0 K G),iv (m:tN),vl (.tY (((nms c5 3).uB m).tJ T.str)),vl (.tY (N.tJ pnT)),vl (.tY (G.tJ λg=>cT g.hd)),vl (.str kd.1),iv (w:tN),none,none,none,none,none,none,none]):=λw N kd mk hw e1 hN=>by
  have lN:N.fg=m:=by
   have:=uC tH.fg e1;rw[nU,oZ,BL]at this
   lia
  have h:=law_m (cP:=cP) (cR:=cR) (z0:=z0) (p1:=vl (.tY (K.tJ BM))) (p3:=vl (FTg G)) X (ns:=ns) mk hw (by rw[e1];exact lW) (by lia) hN ba;rw[lN,e1]at h;exact h
 unfold lawM lawW lawE at aO;have f0:=aO 0 ((tH.vq m).tJ λk=>(nmS c5 k,(kk k).1)) kl mkl (.uW rfl) (by rw[oj,iA];rfl) (λq mq=>by let{k,mk,rfl}:=oa.mp mq;have:=oR.mp mk;exact oa.wO {kk k,(eM k (by lia)).1,rfl});rw[oj]at f0;apply JA
 .lk
 .intro hm;have hm:1<m:=by have:=oy hm;lia
  obtain⟨w,ew,w3⟩:∃w:tQ,ns.uZ 6 0/3%4=(w:tN)/\w<=3:=by have a1:=oU (ns.uZ 6 0/3) (show(4:tN)≠0 by decide);have a2:=oN (ns.uZ 6 0/3) (show(0:tN)<4 by decide);exact{(ns.uZ 6 0/3%4).uw,by lia,by lia}
  apply AN (ae:=[vl (.n (ns.tJ T.tS)),vl (.tY (K.tJ BM)),vl (tF K),vl (FTg G),vl (stT z0 K),vl (Gx.P cP z0 K G),iv (m:tN),vl (.tY (((nms c5 3).uB m).tJ T.str)),vl (.tY ((tH.vq m).tJ λk=>pnT (nmS c5 k,(kk k).1))),vl (.tY (G.tJ λg=>cT g.hd)),vl (.str kl.1),iv (w:tN),none,none,none,none,none,none,none])
  .rw[<- ew];lk
  have i0:atI ((tH.vq m).tJ λk=>pnT (nmS c5 k,(kk k).1)) 0=p' (.uj [.str (nmS c5 0),.str (kk 0).1]):=A0 (j:=0) (by rw[oq,pq (by lia)];rfl);apply JA
  .lk
  .intro _;have j0:atI (((nms c5 3).uB m).tJ λx=>pnT (x,(kk 0).1)) 0=p' (.uj [.str (nmS c5 0),.str (kk 0).1]):=A0 (j:=0) (by rw[iA,oj,oq,pq (by lia)];rfl);apply AN (ae:=[vl (.n (ns.tJ T.tS)),vl (.tY (K.tJ BM)),vl (tF K),vl (FTg G),vl (stT z0 K),vl (Gx.P cP z0 K G),iv (m:tN),vl (.tY (((nms c5 3).uB m).tJ T.str)),vl (.tY (((nms c5 3).uB m).tJ λx=>pnT (x,(kk 0).1))),vl (.tY (G.tJ λg=>cT g.hd)),vl (.str (kk 0).1),iv (w:tN),none,none,none,none,none,none,none])
   .lk
    .apply DH (q:=λx=>pnT (x,(kk 0).1))
     .lk
     .intro x _;lk
     .rw[oZ];lia
    lk
   have f1:=aO w (((nms c5 3).uB m).tJ λx=>(x,(kk 0).1)) (kk 0) (eM 0 (by lia)).1 (.uK {by
    intro h;have:=uC tH.fg h;rw[nU,oZ,BL]at this;simp at this
    lia,λq mq=>by let{x,_,rfl}:=oa.mp mq;rfl}) (by rw[oj];exact tH.map_id _) (λq mq=>by
    let{x,_,rfl}:=oa.mp mq;exact oa.wO {kk 0,(eM 0 (by lia)).1,rfl})
   rw[oj]at f1;exact f1
  .intro hw;have hw:=of_decide_eq_false hw;obtain rfl:w=0:=by lia
   exact AN JbA f0
 .intro _;refine AN JbA ?_;apply JA
  .lk
  .intro h;simp at h
  .intro _;exact AN JbA f0
end
def us1{α:Type}{us:tH α}(e:us.fg=1):∃a,us=[a]:=by match us,e with| [a],_=>exact{a,rfl}
def us2{α:Type}{us:tH α}(e:us.fg=2):∃a b,us=[a,b]:=by match us,e with| [a,b],_=>exact{a,b,rfl}
def us3{α:Type}{us:tH α}(e:us.fg=3):∃a b c,us=[a,b,c]:=by match us,e with| [a,b,c],_=>exact{a,b,c,rfl}
def us4{α:Type}{us:tH α}(e:us.fg=4):∃a b c d,us=[a,b,c,d]:=by match us,e with| [a,b,c,d],_=>exact{a,b,c,d,rfl}
def us5{α:Type}{us:tH α}(e:us.fg=5):∃a b c d e,us=[a,b,c,d,e]:=by match us,e with| [a,b,c,d,e],_=>exact{a,b,c,d,e,rfl}
def us6{α:Type}{us:tH α}(e:us.fg=6):∃a b c d e f,us=[a,b,c,d,e,f]:=by match us,e with| [a,b,c,d,e,f],_=>exact{a,b,c,d,e,f,rfl}
def us7{α:Type}{us:tH α}(e:us.fg=7):∃a b c d e f g,us=[a,b,c,d,e,f,g]:=by match us,e with| [a,b,c,d,e,f,g],_=>exact{a,b,c,d,e,f,g,rfl}
abbrev DF(K:Fg)(n:tO)(st:Stmt):Prop:=∃f fd,nsIn K uO n=p' (p' (.t8 f))/\Fun K n n st f fd
abbrev DM(K:Fg)(C:tV)(m q:tO)(st:Stmt):Prop:=∃f fd,findIn K (.t8 C) m=p' (p' (.t8 f))/\isFn K (.t8 f)=true/\Fun K m q st f fd
structure CC(K:Fg)(x:tO)(C:tV):Prop where
 ac:nsIn K uO x=p' (p' (.t8 C))
 xB:makesIn K C=true
 kc:keepIn K (.t8 C)=true
abbrev aF(P:wf)(w:wK)(K:Fg)(mg:Zsv)(uk:uS)(n:tO)(k:tQ)(ps:tH tO)(p:tQ)(Fn:tm):Prop:=FnAt P w K mg uk (CX1 P w) n k ps (spX K p Fn)
abbrev aM(P:wf)(w:wK)(K:Fg)(mg:Zsv)(uk:uS)(C:tV)(n:tO)(k:tQ)(ps:tH tO)(p:tQ)(Fn:tm):Prop:=Zz P w K mg uk (CX1 P w) C n k ps (spX K p Fn)
abbrev aK(P:wf)(w:wK)(K:Fg)(mg:Zsv)(uk:uS)(n:tO)(C:tV)(k:tQ)(ps:tH tO)(p:tQ)(Fn:tm):Prop:=MkAt P w K mg uk (CX1 P w) n C k ps (spX K p Fn)
section
variable{P:Program}{w:World}{K:Fg}{mg:Zsv}{base h:Heap}{CX:CXT}{n m q:Str}{st:Stmt}{k:Nat}{ps:List Str}{sp:Sp}{C:Addr}(X:K.In h)(G:h.Ns mainGlobals mg)
abbrev BA(x q:tO)(st:Stmt)(ps:tH tO):Prop:=∀(kV bN pm:tM)(an:tL tV)(cdv ct:tM)(us:tH tM),us.fg=ps.fg->bindArgs (fnOf x q (GO st) (Ef st) (Bw st) .none kV bN pm an cdv ct) {us,[]}=wx (ps.zip us)
def Zt(X:K.In h)(G:h.Ns uO mg)(d:DF K n st)(B:BA n n st ps)(O:∀f fd,Fun K n n st f fd->(∀k sp,Fm P w K mg uk CX k f fd ps sp->FnAt P w K mg uk CX n k ps sp)->Fm P w K mg uk CX k f fd ps sp):FnAt P w K mg uk CX n k ps sp :=
 let{f,fd,a,F}:=d
 {f,fd,O f fd F λ_ _ o=>{f,fd,o,mg_of X G a,F.kp,F.binds B},mg_of X G a,F.kp,F.binds B}
def V3(X:K.In h)(G:h.Ns uO mg)(d:DF K n st)(B:BA n n st ps){j p:tQ}{F:tQ->tm}(hp:ps.fg=p)(h0:F 0=λ_=>.ur)(O:∀i f fd,Fun K n n st f fd->FnAt P w K mg uk (CX1 P w) n (j+i) ps (spX K p (F i))->Fm P w K mg uk (CX1 P w) (j+i+1) f fd ps (spX K p (F (i+1)))):∀i,FnAt P w K mg uk (CX1 P w) n (j+i) ps (spX K p (F i))
 |0=>Zt X G d B λf fd Fu _=>{λvs H Q E h=>h.1.trans hp.symm,λA uY s H args us vs Q E hr he hb hv h=>by let{_,F,cV,ok,h}:=h;rw[h0]at h;exact h.tU}
 |i+1=>Zt X G d B λf fd Fu _=>O i f fd Fu (V3 X G d B hp h0 O i)
def at_rc{i j p:tQ}{F:tQ->tm}(X:K.In h)(G:h.Ns uO mg)(hk:k=j+i)(hp:ps.fg=p)(h0:F 0=λ_=>.ur)(d:DF K n st)(B:BA n n st ps)(O:∀i f fd,Fun K n n st f fd->FnAt P w K mg uk (CX1 P w) n (j+i) ps (spX K p (F i))->Fm P w K mg uk (CX1 P w) (j+i+1) f fd ps (spX K p (F (i+1)))):FnAt P w K mg uk (CX1 P w) n k ps (spX K p (F i)):=hk▸V3 X G d B hp h0 O i
def at_mt(c:Cls K C)(d:DM K C m q st)(B:BA m q st ps)(O:∀f fd,Fun K m q st f fd->Fm P w K mg uk CX k f fd ps sp):Zz P w K mg uk CX C m k ps sp :=
 let{f,fd,a,i,F}:=d
 {c,f,fd,O f fd F,{a,i,F.kp},F.binds B}
def at_mk(X:K.In h)(G:h.Ns uO mg)(c:CC K n C)(d:DM K C "__init__" q st)(B:BA "__init__" q st ps)(O:∀f fd,Fun K "__init__" q st f fd->Fm P w K mg uk CX k f fd ps sp):MkAt P w K mg uk CX n C k ps sp :=
 let{f,fd,a,i,F}:=d
 {mg_of X G c.ac,f,fd,O f fd F,{c.xB,a,i,c.kc},F.binds B}
end
def R5 (K:Fg):Sp:=λvs H Q _=>∃(a:tV)(ns:tH tN),vs=[.t8 a]/\SqL K H a (ns.tJ V.tS)/\ns.fg<=63/\B6 ns<=2^20/\∀H',Q (.l true) H'
def L0{K:Fg}{F:Wd}{H:Hp}:∀(ns:tH tN),Ai K F H (ns.tJ T.tS) (ns.tJ V.tS)
 | []=>by simp[Ai]
 |n::ns=>by simp![nV,Ai];exact{_,_,rfl,by simp[AK],L0 ns}
def JbO{K:Fg}{Fn:tm}(good:∀ns:tH tN,ns.fg<=63->B6 ns<=2^20->∃fs,Fn [p' (.vm (.n (ns.tJ T.tS)))]=.ok (.t (.l true)) fs):∀vs H Q E,R5 K vs H Q E->spX K 1 Fn vs H Q E:=by
 intro vs H Q E {a,ns,e,hs,hl,hb,k};subst e;let{fs,eg}:=good ns hl hb;have key:∀F:Wd,StL K F H a (ns.tJ V.tS)->(∀b,H b=none->F.o b=.no)->spX K 1 Fn [.t8 a] H Q E:=λF st fd=>by
  refine{rfl,F,[p' (.vm (.n (ns.tJ T.tS)))],{rfl,λi s e=>?_,fd},?_}
  .cases i with|zero=>cases e;exact{.t8 a,rfl,by simp![FL.SlR,AK];exact{a,_,rfl,st,L0 ns} }|succ i=>cases e
  .rw[eg];intro F' H' u az _ q;have:u=.l true:=q.2;subst this;exact k H'
 rcases hs with hs|hs
 .exact key (({λ_=>.no}:Wd).tag a .fz) (.uW {Bh,hs}) λb z=>Br λe=>by subst e;rcases hs with q|⟨o,q⟩<;>(rw[q]at z;cases z)
 .exact key {λ_=>.no} (.uK hs) λ_ _=>rfl
structure Ds(K:Fg)(ao ah ai af:tV):Prop where
 d0:DF K "_law_digits" (top 61)
 d1:DF K "_law_names" (top 62)
 d2:DF K "_law_cell_at" (top 58)
 d3:DF K "_law_parts" (top 63)
 d4:DF K "_law_kinds" (top 64)
 d5:DF K "_law_table" (top 65)
 d6:DF K "_law_choices" (top 67)
 d7:DF K "_law_least" (top 66)
 d8:DF K "_law_expression" (top 68)
 d9:DF K "_law_function" (top 69)
 yr:DF K "_law_functions" (top 70)
 yq:DF K "is_name" (top 36)
 yp:DF K "check_kinds" (top 53)
 yo:DF K "check_maker" (top 55)
 yn:DF K "check_ground" (top 56)
 ym:DF K "check_makers" (top 54)
 yj:DM K af "__init__" "Stock.__init__" (inClass (top 52) 0)
 yi:DM K af "makers" "Stock.makers" (inClass (top 52) 2)
 yh:DM K af "kinds" "Stock.kinds" (inClass (top 52) 1)
 yg:DF K "is_maker" (top 45)
 yJ:DF K "check_head" (top 44)
 yf:DM K af "parts" "Stock.parts" (inClass (top 52) 3)
 ye:DF K "check_names" (top 47)
 yd:DM K af "home" "Stock.home" (inClass (top 52) 4)
 yc:DF K "kinds_of_head" (top 43)
 yb:DF K "kind_of_name" (top 42)
 ya:DF K "kind_within" (top 41)
 x9:DM K ai "__init__" "Scope.__init__" (inClass (top 40) 0)
 x8:DF K "check_row" (top 46)
 xZ:DM K ah "__init__" "Program.__init__" (inClass (top 39) 0)
 xY:DF K "_law_settings" (top 72)
 xX:DM K ao "await_arguments" "Run.await_arguments" (inClass (top 26) 2)
 xW:DM K ah "row" "Program.row" (inClass (top 39) 3)
 xV:DF K "layer_counts" (top 16)
 xU:DF K "weighed" (top 25)
 xT:DM K ao "await_body" "Run.await_body" (inClass (top 26) 3)
 xS:DF K "made" (top 27)
 xR:DM K ao "taken" "Run.taken" (inClass (top 26) 4)
 xQ:DM K ao "worth" "Run.worth" (inClass (top 26) 1)
 xP:DM K ao "__init__" "Run.__init__" (inClass (top 26) 0)
 xO:DF K "run" (top 24)
 xN:DF K "_law_worth_of" (top 71)
 xM:DF K "_law_due" (top 73)
 xK:DF K "rows_of_size" (top 19)
 xJ:DF K "things_of_size" (top 18)
 xI:DF K "things" (top 17)
 xH:DF K "count_of_settings" (top 30)
 xG:DF K "sides_differ" (top 32)
 xF:DF K "picked" (top 31)
 xE:DF K "against" (top 29)
 xD:DF K "_law_mixed" (top 60)
 xC:DF K "law" (top 74)
section
variable{P:Program}{w:World}{K:Fg}{mg:Zsv}{base h:Heap}{ao ah ai af:Addr}(X:K.In h)(G:h.Ns mainGlobals mg)(T:Tx K mg ao ah ai af)(C_Run:CC K "Run" ao)(C_Program:CC K "Program" ah)(C_Scope:CC K "Scope" ai)(C_Stock:CC K "Stock" af)(D:Ds K ao ah ai af)
abbrev ad:tO:="_law_script"
abbrev al:tO:="_law_names_here"
abbrev am:tO:="_law_table_here"
abbrev ap:tO:="_law_calls"
abbrev bi:tO:="self"
abbrev bl:tO:="maker"
abbrev bn:tO:="_law_kind"
abbrev bv:tO:="_law_kinds_here"
abbrev ce:tO:="_law_rows"
abbrev ci:tO:="_law_at"
abbrev cr:tO:="_law_parts_here"
abbrev db:tO:="_law_got"
abbrev dK:tO:="function"
abbrev dL:tO:="_law_program"
abbrev dT:tO:="_law_known"
abbrev ge:tO:="stock"
abbrev ii:tO:="parts"
abbrev im:tO:="_law_many"
abbrev kt:tO:="_law_purse"
abbrev li:tO:="kinds"
abbrev lv:tO:="expression"
abbrev lw:tO:="program"
abbrev na:tO:="kind"
abbrev ol:tO:="names"
abbrev ow:tO:="_law_setting"
abbrev pc:tO:="_law_first"
abbrev pr:tO:="_law_count"
abbrev py:tO:="_law_right"
abbrev qS:tO:="kinds_by_name"
abbrev qT:tO:="_law_k"
abbrev qU:tO:="_law_name"
abbrev qV:tO:="makers_ahead"
abbrev qW:tO:="name"
abbrev qX:tO:="rows"
abbrev qY:tO:="_law_left"
abbrev qZ:tO:="setting"
abbrev rf:tO:="kinds_above"
abbrev rg:tO:="_law_own"
abbrev rh:tO:="most"
abbrev rj:tO:="heads"
abbrev rk:tO:="scope"
abbrev rm:tO:="whole"
seal FE FT FA FW FP GS GSs GT GTs FI FAn FIf
include X G T C_Run C_Program C_Scope C_Stock D
local macro_rules(kind:=Lean.Parser.Command.mutual)|s=>do
 let t:=((s.find? (·.isOfKind ``Lean.Parser.Tactic.tacticSeq1Indented)).get!)[0].getSepArgs
 let E:=Lean.Syntax.isOfKind (k:=`Lean.Parser.Tactic.«tacticExists_,,»)
 let o<-t[0]!.replaceM λx=>if E x then some<$>Zz9 x[1][0].isStrLit?.get! else return none
 let r i y:Lean.TSyntax `tactic:=⟨t[i]!.rewriteBottomUp λx=>if x.isIdent&&x.getId==`zz then y else if x.isOfKind ``Lean.Parser.Tactic.tacticTrivial then o else x⟩
 return Lean.mkNullNode (<-(s[1].getArgs.extract 1).mapM (·.replaceM λx=>if x.isOfKind ``Lean.Parser.Tactic.tacticTrivial then return some o else if !E x then return none else do
  let a:=x[1].getSepArgs.reverse
  let n:=a[0]!.isNatLit?
  let l:=if n==none then a.reverse.map (r 3) else ((a.extract 3).reverse.map (r 3)).push (r (if n==some 0 then 1 else 2) a[2]!) |>.push (r 4 a[1]!)
  `(tactic|($[$l];*))))
mutual
example:True:=by
 (
  intro cdv A outer s H E _ _ hr lk;have hu:=hu_of hr;have a0:=T.zu;have a1:=T.zP;have a2:=T.yZ;have a3:=T.yY;have a4:=T.zq;have a5:=T.zX;have a6:=T.zp;have a7:=T.zR;have a8:=T.zl;have a9:=T.zG;have a10:=T.zD;have a11:=T.zk;have a12:=T.zK;have a13:=T.zo;have a14:=T.zb;have a15:=T.zj;have a16:=T.zJ;have a17:=T.zM;have a18:=T.zL
  first
   | refine GD (GS.zero ?_) (GD (JW T.xt (by decide +kernel) lk (fun _ _ lk=>?_) (fun _=>?_)) (GSs.zero ?_))
   | refine GD (JW T.xt (by decide +kernel) lk (fun _ _ lk=>?_) (fun _=>?_)) (GSs.zero ?_)
   | refine GSs.zero ?_
  repeat' first
   |intro _ _ _ _ _
   |(show FE _ _ _ _;first|exists "efe_v,_ rfe_fz,? efe_int rfe_tup,?"|refine fe_sx hu ?_ ?_ (fun _ _=>rfl)|exists "rfe_fnX,!,&,$,? rfe_add,?,? efe_str rfe_fld,!,!,? rfe_len,T.yB,? rfe_mod,?,? efe_bl rfe_lst,? rfe_mtX,!,&,$,?,? rYT,JbJ,PySem.F.slot_list_append,PySem.F.type_list_append,Gn,?,? rYT,XX,PySem.F.slot_list_extend,PySem.F.type_list_extend,XR,?,? eT6 rYN,? rYO,T.zh,? rfe_sub,?,? efe_gI,* rfe_div,?,? rTX,T.zx,? rfe_sl,?,?,? rT8,!,!,_,@,? rfe_mul,?,? rfe_mkX,!,&,? rfe_eq,?,? efe_non rYQ,T.yC,? eT3,!,!,_,@ rNV,rfl,T.zi,T.yX,?"|refine YK (by assumption) (hr.mono (by first | decide | omega)) ?_ (fun ho=>Jbe (by assumption) (hr.mono (by first | decide | omega)) Jbi ho)|exists "rYI,_,? rfe_sum,T.yz,? rfe_in,hu,?,? rYL,T.yA,? rVP,XU,PySem.F.slot_str_join,PySem.F.type_str_join,XQ,?,? rfe_and,?,? rNT,!,&,lk.lk,?,?"|exact T4 T.zu T.zD 0 (pv 0) (fun _ _=>rfl)|exists "rYM,rfl,T.yS,? efe_gS,T.yQ rfe_all,T.yE,? rfe_neg,? rfe_any,T.yD,? rNU,rfl,T.zh,T.zQ,? rfe_isN,?,? rfe_one,? efe_gI,* rfe_bm0,JbH,slot_list_pop,type_list_pop,PM,? rfe_pow,?,? rfe_if,?,?,? rYS,rfl,?,?,?,? rfe_fzD,? rT7,T.zi,? rfe_fzN,? rfe_eqV,%,?,? rfe_nwV,? rTZ,rfl,T.y0,? rTY,_,? rYT,mf_indexS,PySem.F.slot_list_index,PySem.F.type_list_index,mt_indexS,?,? rVP,mf_strip,PySem.F.slot_str_strip,PySem.F.type_str_strip,mt_strip,?,? rQN,rfl,T.zh,^ rfe_isD,T.zU,T.zi,? eT5 rYJ,>,?,? rfe_slN,?,?,?")
   |(show FEs _ _ _ _;exists "eFEs.nil rFEs.cons,?,?")
   |(show FA _ _ _ _;exists "efa_nil rYV,?,?")
   |(show GSs _ _ _ _;exists "rYm,? rTe,?,? eYn")
   |(show GS _ _ _ _;first|refine Yp rfl nd (Or.inl rfl) ?_ ?_ ?_ ?_|exists "rJch,_,nd,~,? rgs_if,?,?,? rJci,? rYo,? rJcj,lk.own,rfl,?,?,?"|refine Jck (by assumption) (by assumption) _ ?_ (fun hv=>Ja3 (pv 0) hv rfl)|exists "rJcl,?,?"|refine Tr (by assumption) (by assumption) _ _ ?_ (fun hv=>K0 hu (Fe (pv _) rfl) (pv _) hv rfl)|refine Tj hu ?_ ?_ ?_ (fun he ho hi hs=>Vc he (Ja8 ho hi hs))|exists "rTo,/,lk,rfl,? rTf,_,lk.own,?,?"|exact Ti T.zu T.zR 0 (pv 0)|exact Tq hu T.zP T.zX 0 4 (pv 0) (pv 4)|refine Ts hu T.zP T.zX 0 4 9 (pv 0) (pv 4) (pv 9) ?_|exists "eTp rYq,_,nd,~,? eTt")
   |(show FAn _ _ _ _;exists "rT9,?,? eYU")
   |(show GT _ _ _;first|refine Yl _ (by first | exact nd | exact JbD (by kernel_rfl)) (by first | exact Or.inl rfl | exact Or.inr rfl)|exists "rJcg,rfl,?")
   |(show GTs _ _ _;first|refine Td ?_ ?_ (fun h1 h2=>SH h1 h2)|exists "eYk")
   |(show FT _ _ _ _;first|exists "rft_eq,?,? rft_not,?"|refine TM ?_ (fun _=>rfl)|exists "rTQ,hu,?,? rft_ne,?,? rft_in,hu,?,? rft_gt,?,?"|refine MI of_le of_le ?_ ?_ ?_ (fun ha hb hc=>L9 SQ SQ ha hb hc)|exists "rft_lt,?,?"|exact TN T.zu T.zG 0 (pv 0) (he:=fun _=>rfl)|exists "rft_le,?,? rYy,%,?,? rft_neT,%,?,? rYz,>,?,? rft_isN,?,? rQH,?,?"|refine MI of_le of_lt ?_ ?_ ?_ (fun ha hb hc=>L9 SQ Jbo ha hb hc)|exists "rft_ge,?,? rft_eqT,%,?,? rFW.ft,? rQH,?,?")
   |(show FI _ _ _ _ _;first|exists "rfi_seq,? rQM,T.zy,? rTV,?"|refine QK ?_ (fun ha=>Pn rfl T.zy ha)|exists "rYH,? rfi_it,^ rfi_it,< rfi_rev,T.zQ,?"|refine QL T.zy ?_ (h:=fun ha=>Po rfl T.zy ha))
   |(show FIf _ _ _;exists "eYG rYF,?")
   |(show FP _ _ _ _;exists "rYD,? eYE")
   |(show FW _ _ _ _;exists "rfw_or,?,? rfw_or1,? rfw_and,?,? rYx,?"))
 (
  refine at_rc X G rfl rfl rfl zz (fun kV dc pm an cdv ct us hl=>?_) (fun i f fd Fu Grec=>?_))
 (
  first
   | refine Zt X G zz (fun kV dc pm an cdv ct us hl=>?_) fun f fd Fu _=>?_
   | refine at_mt (by first | exact T.zu | exact T.zP | exact T.yZ | exact T.yY) zz (fun kV dc pm an cdv ct us hl=>?_) fun f fd Fu=>?_
   | refine at_mk X G (by assumption) zz (fun kV dc pm an cdv ct us hl=>?_) fun f fd Fu=>?_)
 have:=zz (P:=P) (w:=w) (base:=base) X G T C_Run C_Program C_Scope C_Stock D
 (
  ·first
    | (obtain⟨a,rfl⟩:=us1 hl;rfl)
    | (obtain⟨a,b,rfl⟩:=us2 hl;rfl)
    | (obtain⟨a,b,c,rfl⟩:=us3 hl;rfl)
    | (obtain⟨a,b,c,d,rfl⟩:=us4 hl;rfl)
    | (obtain⟨a,b,c,d,e,rfl⟩:=us5 hl;rfl)
    | (obtain⟨a,b,c,d,e,f,rfl⟩:=us6 hl;rfl)
    | (obtain⟨a,b,c,d,e,f,g,rfl⟩:=us7 hl;rfl)
  ·have nd:List.Nodup ((zz):List Str):=by decide +kernel
   refine VL (N:=zz) Fu ⟨rfl,rfl,rfl,nd,rfl,by decide +kernel,by decide +kernel⟩ _ _ rfl rfl ?_;trivial)
theorem c0:aF P w K mg base "_law_digits" 1 [ad,ci,cr] 3 BO:=by exists D.d0,[ad,ci,cr,"_law_drawn",db,pc,"_law_rest",qT],2
theorem c1:aF P w K mg base "_law_names" 1 ["_law_cell",pr] 2 Cs:=by exists D.d1,["_law_cell",pr,"_law_letters","_law_mixed_here","_law_wide",ci,"_law_base","_law_step",db,qT,"_law_turned_on"],2
theorem c2:aF P w K mg base "_law_cell_at" 1 [ad,qT] 2 Ay:=by exists D.d2,[ad,qT],2
theorem c3:aF P w K mg base "_law_parts" 1 [al,ci,pc,kt] 4 FX:=by exists D.d3,[al,ci,pc,kt,im,"_law_picks","_law_open_to"],2
theorem c4:aF P w K mg base "_law_kinds" 2 [ad] 1 FZ:=by exists c0,c1,c2,c3,D.d4,[ad,kt,im,al,"_law_makers",db,"_law_used",ci,ce,qT],2
theorem c5:aF P w K mg base "_law_table" 1 [bv] 1 IG:=by exists D.d5,[bv,db,bn,ce],2
theorem c6:aF P w K mg base "_law_choices" 1 [am,dT,ap,rg,bn] 5 EX:=by exists D.d6,[am,dT,ap,rg,bn,db,"_law_maker",cr,"_law_function_here",bv,"_law_one"],2
theorem c7:aF P w K mg base "_law_least" 5 [am,bn] 2 (EC 4):=by exists D.d7,[am,bn,"_law_maker",cr],0
theorem c8:aF P w K mg base "_law_expression" 10 [am,dT,ap,rg,bn,kt,"_law_down"] 7 (AU 4):=by exists c6,c7,D.d8,[am,dT,ap,rg,bn,kt,"_law_down","_law_some","_law_digit","_law_one","_law_arguments",qT],0
theorem c9:aF P w K mg base "_law_function" 11 [ad,am,ci,ap,qU,al] 6 C4:=by exists c0,c8,D.d9,[ad,am,ci,ap,qU,al,"_law_kinds_there",kt,im,bv,bn,"_law_others",ce,"_law_maker",cr,dT,"_law_parted","_law_body"],2
theorem c10:aF P w K mg base "_law_functions" 12 [ad,am,pr] 3 DE:=by exists c1,c2,c9,D.yr,[ad,am,pr,"_law_makers",bn,"_law_free",qU,al,db,ap,ci],2
theorem c11:aF P w K mg base "is_name" 1 ["text"] 1 Bf:=by exists D.yq,["text"],2
theorem c12:aF P w K mg base "check_kinds" 2 [li] 1 C3:=by exists c11,D.yp,[li,"above",na,"makers"],2
theorem c13:aF P w K mg base "check_maker" 2 [bl,ii,qV,"all_kinds"] 4 Ca:=by exists c11,D.yo,[bl,ii,qV,"all_kinds","part"],2
theorem c14:aF P w K mg base "check_ground" 1 [bl,ii,rf] 3 BW:=by exists D.yn,[bl,ii,rf,"part"],2
theorem c15:aF P w K mg base "check_makers" 3 [li] 1 CA:=by exists c13,c14,D.ym,[li,"all_kinds",rf,qV,na,"makers","first",bl,ii],2
theorem c16:aK P w K mg base "Stock" af 4 [bi,li] 2 (DB af):=by exists c12,c15,D.yj,[bi,li,na,"makers",bl,ii],2
theorem c17:aM P w K mg base af "makers" 1 [bi,na] 2 (AY af):=by exists D.yi,[bi,na],2
theorem c18:aM P w K mg base af li 1 [bi] 1 (AJ af):=by exists D.yh,[bi],2
theorem c19:aF P w K mg base "is_maker" 2 [ge,qW] 2 (EW af):=by exists c17,c18,D.yg,[ge,qW],2
theorem c20:aF P w K mg base "check_head" 3 [ge,rj,dK] 3 (DA af):=by exists c11,c17,c18,c19,D.yJ,[ge,rj,dK,qW,li,na,"others",qX,"each"],2
theorem c21:aM P w K mg base af ii 1 [bi,bl] 2 (A6 af):=by exists D.yf,[bi,bl],2
theorem c22:aF P w K mg base "check_names" 2 [ol] 1 C1:=by exists c11,D.ye,[ol,"ahead",qW],2
theorem c23:aM P w K mg base af "home" 1 [bi,bl] 2 (DC af):=by exists D.yd,[bi,bl],2
theorem c24:aF P w K mg base "kinds_of_head" 2 [rk,"form","head"] 3 (Bs ai af):=by exists c21,c23,D.yc,[rk,"form","head"],2
theorem c25:aF P w K mg base "kind_of_name" 1 [rk,qW] 2 (Cz ai):=by exists D.yb,[rk,qW],2
theorem c26:aF P w K mg base "kind_within" 23 [rk,lv] 2 (BN ai af 20):=by exists c24,c25,D.ya,[rk,lv,"form","head","arguments","wanted",na,"argument","kind_wanted"],0
theorem c27:aK P w K mg base "Scope" ai 1 [bi,ge,rj,qS,"own","lessers"] 6 (DD ai):=by exists D.x9,[bi,ge,rj,qS,"own","lessers"],2
theorem c28:aF P w K mg base "check_row" 24 [ge,rj,dK,bl,"row"] 5 (Ed ai af):=by exists c21,c22,c26,c27,D.x8,[ge,rj,dK,bl,"row",qW,li,na,"others",qX,ol,"body",ii,qS,"lessers"],2
theorem c29:aK P w K mg base "Program" ah 25 [bi,ge,"functions"] 3 (CB ah ai af):=by exists c17,c20,c28,D.xZ,[bi,ge,"functions",dK,qW,li,na,"others",qX,bl,"row"],2
theorem c30:aF P w K mg base "_law_settings" 1 [al,ce] 2 Ee:=by exists D.xY,[al,ce,db,qU,"_law_some","_law_more",ow,"_law_thing","_law_other"],2
theorem c31:aM P w K mg base ao "await_arguments" 1 [bi,"part",ol,"deep"] 4 (A7 ao):=by exists D.xX,[bi,"part",ol,"deep","argument"],2
theorem c32:aM P w K mg base ah "row" 1 [bi,dK,bl] 3 (Bk ah):=by exists D.xW,[bi,dK,bl],2
theorem c33:aF P w K mg base "layer_counts" 1 ["thing"] 1 Cy:=by exists D.xV,["thing","counts","layer","below",bl,ii],2
theorem c34:aF P w K mg base "weighed" 2 ["thing"] 1 Ci:=by exists c33,D.xU,["thing","counts"],2
theorem c35:aM P w K mg base ao "await_body" 3 [bi,dK,"arguments","deep"] 4 (Bl ah ao):=by exists c32,c34,D.xT,[bi,dK,"arguments","deep",bl,ii,ol,"body","values"],2
theorem c36:aF P w K mg base "made" 1 [bl,ii] 2 J3:=by exists D.xS,[bl,ii,rm,"deep"],2
theorem c37:aM P w K mg base ao "taken" 1 [bi,"count"] 2 (Cj ao):=by exists D.xR,[bi,"count","newest_first","each"],2
theorem c38:aM P w K mg base ao "worth" 4 [bi,ol,lv] 3 (BJ ah ao):=by exists c31,c35,c36,c37,D.xQ,[bi,ol,lv,"part","names_here","deep","ready"],2
theorem c39:aK P w K mg base "Run" ao 1 [bi,lw,rh] 3 (CO ao):=by exists D.xP,[bi,lw,rh],2
theorem c40:aF P w K mg base "run" 5 [lw,qZ,lv,rh] 4 (f_run ah ao):=by exists c34,c38,c39,D.xO,[lw,qZ,lv,rh,ol,qW,"thing"],2
theorem c41:aF P w K mg base "_law_worth_of" 6 [dL,ow,"_law_expression_here",ap] 4 (f_Lworth_of ah ao):=by exists c40,D.xN,[dL,ow,"_law_expression_here",ap,"_law_told"],2
theorem c42:aF P w K mg base "_law_due" 7 [dL,al,ce,qY,py,ap] 6 (f_Ldue ah ao):=by exists c30,c41,D.xM,[dL,al,ce,qY,py,ap,ow,"_law_one","_law_other"],2
theorem c43:aF P w K mg base "rows_of_size" 5 [li,rm,"made"] 3 (AE 4):=by exists D.xK,[li,rm,"made",qX,"first_size","behind","first"],0
theorem c44:aF P w K mg base "things_of_size" 6 [ge,na,rm,"made"] 4 (A3 af):=by exists c17,c21,c43,D.xJ,[ge,na,rm,"made","found",bl,ii],2
theorem c45:aF P w K mg base "things" 7 [ge,na,rh] 3 (EB af):=by exists c18,c44,D.xI,[ge,na,rh,"told","made",rm,"each"],2
theorem c46:aF P w K mg base "count_of_settings" 1 [qX] 1 BI:=by exists D.xH,[qX,"count","row"],2
theorem c47:aF P w K mg base "sides_differ" 6 [lw,qZ,"left","right","calls"] 5 (f_sides_differ ah ao):=by exists c40,D.xG,[lw,qZ,"left","right","calls"],2
theorem c48:aF P w K mg base "picked" 1 [qX,"number"] 2 IF:=by exists D.xF,[qX,"number","last_first","rest","row"],2
theorem c49:aF P w K mg base "against" 8 [lw,"saying",rh,"calls"] 4 (f_against ah ao af):=by exists c45,c46,c47,c48,D.xE,[lw,"saying",rh,"calls",ol,"left","right",qX,"number",qZ],2
theorem c50:aF P w K mg base "_law_mixed" 1 [ad,ci,im] 3 FY:=by exists D.xD,[ad,ci,im,"_law_cell",pc],2
theorem Jbs{f:Addr}{fd:FuncData}(F:Fun K "law" "law" (top 74) f fd):Fm P w K mg base (CX1 P w) 27 f fd [ad] (spX K 1 (f_law ah ao ai af)):=by
 exists c0,c1,c2,c4,c5,c8,c10,c16,c29,c42,c45,c49,c50
 have nd:List.Nodup ([ad,bv,am,"_law_functions_here","_law_stock",dL,im,al,dT,ap,bn,"_law_way",qY,py,"_law_most","_law_spent",ce,"_law_due_here",db]:List Str):=by decide +kernel
 refine VL (N:=[ad,bv,am,"_law_functions_here","_law_stock",dL,im,al,dT,ap,bn,"_law_way",qY,py,"_law_most","_law_spent",ce,"_law_due_here",db]) F ⟨rfl,rfl,rfl,nd,rfl,by decide +kernel,by decide +kernel⟩ _ _ rfl rfl ?_;trivial
end
end
def all_mk{l:OpenLaw}{w:wK}{K:Fg}{h:uS}{mg:Zsv}{fa ao ah ai af:tV}(X:K.In h)(G:h.Ns uO mg)(kT:mg "law"=p' (.t8 fa))(C_Run:CC K "Run" ao)(C_Program:CC K "Program" ah)(C_Scope:CC K "Scope" ai)(C_Stock:CC K "Stock" af)(T:Tx K mg ao ah ai af)(D:Ds K ao ah ai af):
  ∃fd:FuncData,(∀(s:ud)(v:tM),BindsTo s fd {[v],[]} [(ad,v)])/\∀uk:uS,K.In uk->uk.Ns uO mg->Fm l.ub w K mg uk (CX1 l.ub w) 27 fa fd [ad] (R5 K):=by
 let{f,fd,a,F}:=D.xC;cases kT.symm.trans (mg_of X G a);refine{fd,by let{_,_,_,_,_,_,_,_,_,rfl,_}:=F.ex;exact λs v=>.of_eq rfl,λuk _ _=>?_};exact(Jbs (P:=l.ub) (w:=w) (uk:=uk) X G T C_Run C_Program C_Scope C_Stock D F).imp (JbO (good ah ao ai af))
def exG{α:Type}{K:Fg}{h:uS}{mg:Zsv}{x:tO}{v:α->tM}{t:α}(X:K.In h)(G:h.Ns uO mg)(e:nsIn K uO x=p' (p' (v t))):∃t,mg x=p' (v t):={t,mg_of X G e}
def naG{K:Fg}{C:tV}{f:tO}(e:findIn K (.t8 C) f=p' none):AR K C f:=e
def walk{l:OpenLaw}{q:wf}{loose:tH tO}{XP:(Zsv)->uS->Prop}{d:DefRec}{K:Params->Fg}{as:tH tV}{N tk:tQ}(hn:l.vZ=p' 63)(gW:d.params.defaults=[])(hK:∀P:Params,as=(K P).tJ (·.1))
  (F:∀(w:wK)(mg:Zsv)(fa:tV)(h:uS),(K w.params).In h->h.Ns uO mg->mg d.name=p' (.t8 fa) ->
   ∃fd:FuncData,(∀(s:ud)(u:tM),BindsTo s fd {[u],[]} [(ad,u)])/\∀uk:uS,(K w.params).In uk->uk.Ns uO mg->Fm l.ub w (K w.params) mg uk (CX1 l.ub w) 27 fa fd [ad] (R5 (K w.params))) :
  WalkX q loose XP (PySem.W.X.obsZ as) (PySem.W.X.valZ K N tk) l.row.toRowW d [] (λf vs=>PySem.call f vs) :=
 L2.KC (n:=63) (k:=27) (x:=ad) (CX:=λw=>CX1 l.ub w) (sp:=R5) hn ZB gW {rfl,ZB,ZB} hK F (λ_ _ a ns hl hb _ hS=>{a,ns,rfl,hS,hl,hb,λ_=>rfl}) λ_ _ _ _ _ {_,_,_,_,_,_,_,_,_,_,_,q}=>q
end Lake.Sy
structure PySem.W.Fast:Prop where(tw7139528865426850812 tw3959263334924963738 tw18387849586041439759 tw9088421375782524271 tw10695152072369808695 tw14219803814388160997 tw8160744901038227069 tw6852235244135879415 tw7127466786185642837 tw69314752181246909 tw7592353262859302507 tw8920371646287583497 tw5220502128133185148 tw17016073393784020774 tw3148229555441069682 tw8888912745809211615 tw877234943971292242 tw1923707003262399499 tw17668154359473464260 tw7663798335494440363 tw3030390263782249424 tw5039709331930831453 tw9485693742733795068 tw14069364515926609497 tw16681266850143310818 tw2080698497779298967 tw10379084692701440510 tw7882973825944278059 tw9032820703500028089 tw9807130617478142594 tw6471611860276332204 tw15557299836875535619 tw6642317251439852112 tw6045099382289447920 tw6365576427886764324 tw17163281868301720523 tw12691788569461489542 tw13937154969623395750 tw7303042234010193280 tw5586469000350572507 tw2795244527989142532 tw13472140600509538482 tw9748391463577960789 tw16951983880549481208 tw3080999415195169580 tw12785662211458582476 tw11605636799601178204 tw8437252876738318445 tw5995426133528697575 tw13838845421232032298 tw9910275019170382847 tw267967159121610983 tw9184160689243980196 tw11559036691575607296 tw11031897694376794450 tw12330221839293162894 tw14760112504868609257 tw12014157244432792574 tw5875174272324032042 tw5263106118612890582 tw2430791795420862722 tw12937136661295842316 tw3025276406193510683 tw13317206500053255010 tw606908066434175798 tw9950041174831579774 tw3895948970076896408 tw15580168603619964099 tw11948970259798025735 tw6984622052480289499 tw17194127248677393318 tw9694533979249605971 tw12020765699313383056 tw2755026667793613965 tw8820025053584526164 tw17149910605995320690 tw15897909091601180878 tw17790936142551470657 tw9679364105605301973 tw8416496250609171351 tw12313507844567036600 tw355581941749822904 tw13582327241063066404 tw797174318860889133 tw3756498997003651282 tw13342661617680734654 tw6947053019713755067 tw6016030696121764765 tw4968525443566201788 tw4184504236442382468 tw5785747291699730143 tw12430799253420699650 tw3092264957288449974 tw9314135042232737006 tw17423988952518785342 tw2054055656407401381 tw1969760306260616166 tw237205304226816744 tw15676622255378715597 tw5365696994053615663 tw13980118492772976572 tw8389830675983470645 tw8532461712476412113 tw11383532355770686480 tw10872349539436412928 tw4060431739096832896 tw13169424209428523492 tw2671249561799613026 tw7093193762945406511 tw5185797727145473997 tw11485036186305466815 tw3322028554835245257 tw11672331836710498079 tw4909738951843491831 tw14916906281995156783 tw12615080305249822472 tw12992118381342330793 tw2501867221919864328 tw1372403306405581690 tw1088671430202135686 tw10995376220422290308 tw3833143063679459530 tw8055333378748303456 tw7409619745803788411 tw13225551021583646714 tw606653777852462952 tw2894087816186980079 tw16523481426895635316 tw5775696814831970354 tw17276586009096559338 tw273739471749281438 tw8278432939273470504 tw1338699514315775514 tw12477239886847233877 tw17682034461066317384 tw9512944082648602322 tw1503613256436987083 tw11927711317512327621 tw1923164183472633166 tw1843030391252723151 tw8783271716049873050 tw7842418459573735358 tw13666910176656133064 tw4332882775147220827 tw8035292929443083820 tw3295677077440604420 tw11398321911852592014 tw11062026792537265046 tw3724356441219211230 tw15207892767921279912 tw16458903459598112672 tw12049534558121237466 tw3718305889658718774 tw14346685084861729890 tw13377057025722939172 tw335155822172817478 tw8970651727028761495 tw5305710785688836224 tw8033193442792343995 tw4353333004797122956 tw10854613681998466820:uQ)
end
open PySem PySem.W PyProof.Rows
set_option maxRecDepth 100000 in
set_option maxHeartbeats 0 in
theorem PySem.Challenge.cw_stairsay_k61_against_holds : PySem.Challenge.rw_stairsay_k61_against.Holds := by
 w_on;o_law;z_head;(case hw=>w_witness2)
 k_fill
 refine Sy.walk (l:=PySem.Challenge.rw_stairsay_k61_against) rfl rfl (λP=>rfl) ?F
 case F =>
  intro w mg fa h KX G gg;refine' Sy.all_mk KX G gg ⟨?_,?_,?_⟩ ⟨?_,?_,?_⟩ ⟨?_,?_,?_⟩ ⟨?_,?_,?_⟩ ?_ ?_
  all_goals try k_is
  constructor
  all_goals first|refine' PySem.W.mg_none_of KX G ?_|refine' Sy.exG KX G ?_|refine' Sy.naG ?_|refine' .of KX G (by kernel_rfl)|refine' ⟨?_,?_,?_,?_⟩|skip
  all_goals try k_is
  constructor
  all_goals first|refine' ⟨_,_,?_,L2.VI ?_ ?_ ?_⟩|refine' ⟨_,_,?_,?_,L2.VI ?_ ?_ ?_⟩
  all_goals try k_is
